/-
  What a visit makes, plain: settled, granted; what it keeps: tables that rise, a wallet whose keys the node holds, few notes. No program.
  Acts at an edge and visits of a token, plain: what each one makes, what stays true of the token and the edge. No program.
  What is asked of the program's edge, and of its package visit, whatever their blocks are: a predicate on memory with blocks that stay (R), and what each call tells and leaves (Way18); tokens that lie in such blocks.
  What the live question's visits make, plain: reckoned. No program.
  The document's Stamp, Until and Valid, of any token of at most 1000 stamps.
  The document's settled, of any token whose table may be, and any edge that is kept well.
  The document's Right and Visit, of any edge that is kept well.
  The document's Right.
  The live question (annonalaw18's alive), over any edge and visit.
-/
import Derived.Deep.QuietTactic
import Derived.Lib.Hide
import Derived.BigQuiet
import Derived.Deep.DeepCutAuto
import Derived.Deep.RegionHeld3
import Derived.Laws.StructEq
import Derived.Test.YtbgdlokegibkmaaGreatMmAo
import Derived.Test.YtbgdlokegibkmaaGreatMmAf
import Derived.Test.YtbgdlokegibkmaaGreatMmAa
import Derived.Test.YtbgdlokegibkmaaGreatMmAc
import Derived.Test.YtbgdlokegibkmaaGreatChecked
import Derived.Test.YtbgdlokegibkmaaGreatMmAb
import Derived.Test.YtbgdlokegibkmaaGreatMmAe
import Derived.Test.YtbgdlokegibkmaaGreatMmAk
namespace Go.Proofs.YtbgdlokegibkmaaGreat.Visit
open _root_.Go.Proofs.YtbgdlokegibkmaaGreat.Frame (Rw Tb Tk noRow tableOk tokenOk)
open _root_.Go.Proofs.YtbgdlokegibkmaaGreat.Ledger (Rise Up mint held has)
open _root_.Go.Proofs.YtbgdlokegibkmaaGreat.Edge (Cf Eg An close drop wants refuse)
open _root_.Go.Proofs.YtbgdlokegibkmaaGreat.Lease (Lz Num)
open _root_.Go.Proofs.YtbgdlokegibkmaaGreat.Queue (It)
def toL (c : Cf) : Ledger.Cf := ⟨c.n, c.sk, c.tl, c.va, c.lo, c.he, c.ke, c.qu, c.zs⟩
/-- A key is settled. -/
def st1 (c : Cf) (node gen now : Int) (s : Tb × Eg) (key : Int) : Tb × Eg :=
  ((Ledger.settle (mint s.1 key now (toL c)).1 key node (close s.2 key gen).2).1, (close s.2 key gen).1)
def sts (c : Cf) (node gen now : Int) (l : List Int) (s : Tb × Eg) : Tb × Eg := l.foldl (st1 c node gen now) s
def settled (c : Cf) (node gen now : Int) (t : Tb) (e : Eg) : Tb × Eg :=
  ((sts c node gen now (held t node) (t, e)).1, drop (sts c node gen now (held t node) (t, e)).2 gen)
/-- While is granted: the table, the edge, what was answered. -/
structure Gs where
  t : Tb
  e : Eg
  out : List An
def lz (c : Cf) (key gen n now : Int) : Lz := ⟨key, gen, n, 0, Sat.add [now, c.tl]⟩
/-- A key is granted. -/
def gr1 (c : Cf) (node gen now : Int) (s : Gs) (w : Int × Int) : Gs :=
  if (mint s.t w.1 now (toL c)).2 ≠ 0 then ⟨s.t, (refuse s.e w.1 4).1, s.out ++ (refuse s.e w.1 4).2⟩
  else if 0 < (Ledger.grant (mint s.t w.1 now (toL c)).1 w.1 node w.2).2 then
    ⟨(Ledger.grant (mint s.t w.1 now (toL c)).1 w.1 node w.2).1,
      (Edge.grant s.e (lz c w.1 gen (Ledger.grant (mint s.t w.1 now (toL c)).1 w.1 node w.2).2 now) now).1,
      s.out ++ (Edge.grant s.e (lz c w.1 gen (Ledger.grant (mint s.t w.1 now (toL c)).1 w.1 node w.2).2 now) now).2⟩
  else ⟨(Ledger.grant (mint s.t w.1 now (toL c)).1 w.1 node w.2).1, s.e, s.out⟩
def grs (c : Cf) (node gen now : Int) (l : List (Int × Int)) (s : Gs) : Gs := l.foldl (gr1 c node gen now) s
/-- May a visit be? -/
def right (c : Cf) (t : Tk) (node now : Int) : Bool :=
  tokenOk t && decide (c.check = 0) && decide ((t.stamps.length : Int) = c.n) && decide (0 ≤ node) && decide (node < c.n) && decide (0 ≤ now) && decide (now < 4611686018427387904)
/-- What one that may be makes: the token, the edge, the answers. -/
def visit (c : Cf) (node now : Int) (t : Tk) (e : Eg) : Tk × Eg × List An :=
  if Token.valid (Token.stamped t node now).1.stamps now c.va = true then
    (⟨t.gen, t.hop, (Token.stamped t node now).1.stamps, (grs c node t.gen now (wants c (settled c node t.gen now t.table e).2) ⟨(settled c node t.gen now t.table e).1, (settled c node t.gen now t.table e).2, []⟩).t⟩,
      (grs c node t.gen now (wants c (settled c node t.gen now t.table e).2) ⟨(settled c node t.gen now t.table e).1, (settled c node t.gen now t.table e).2, []⟩).e,
      (grs c node t.gen now (wants c (settled c node t.gen now t.table e).2) ⟨(settled c node t.gen now t.table e).1, (settled c node t.gen now t.table e).2, []⟩).out)
  else ((Token.stamped t node now).1, e, [])
theorem stamped_rest (t : Tk) (node now : Int) : (Token.stamped t node now).1.gen = t.gen ∧ (Token.stamped t node now).1.hop = t.hop ∧ (Token.stamped t node now).1.table = t.table ∧ (Token.stamped t node now).1.stamps.length = t.stamps.length := by
  unfold Token.stamped
  split
  · exact ⟨rfl, rfl, rfl, rfl⟩
  · exact ⟨rfl, rfl, rfl, by simp⟩
/-! What a wallet's keys are. -/
def keysOf (L : List Lz) : List Int := L.map (·.key)
theorem keys_spend (L : List Lz) (k x now : Int) : keysOf (Lease.spend L k x now).1 = keysOf L := by
  unfold Lease.spend
  split
  · rfl
  · rename_i h
    obtain ⟨h1, -⟩ := Lease.left_some h
    obtain ⟨h2, h3, -⟩ := Lease.place_some h1
    unfold keysOf
    rw [List.map_set]
    refine List.ext_getElem (by simp) fun i h4 h5 => ?_
    rw [List.getElem_set]
    split
    · rename_i e
      subst e
      simp only [List.getElem_map, Lease.more]
      unfold Lease.the
      simp [List.getD, h2]
    · rfl
theorem keys_serves (key now : Int) : ∀ (l : List It) (e : Eg), keysOf (Edge.serves key now l e).1.L = keysOf e.L
  | [], e => rfl
  | x :: l, e => by
    unfold Edge.serves
    split
    · rw [keys_serves key now l]
      exact keys_spend _ _ _ _
    · rfl
theorem keys_ins (x : Lz) : ∀ (l : List Lz) (k : Int), k ∈ keysOf (Lease.ins x l) ↔ k = x.key ∨ k ∈ keysOf l := by
  intro l
  induction l with
  | nil => intro k; simp [Lease.ins, keysOf]
  | cons y l ih =>
    intro k
    unfold Lease.ins
    split
    · simp [keysOf]
    · have := ih k
      simp only [keysOf, List.map_cons, List.mem_cons] at this ⊢
      rw [this]
      constructor
      · rintro (h | h | h)
        · exact .inr (.inl h)
        · exact .inl h
        · exact .inr (.inr h)
      · rintro (h | h | h)
        · exact .inr (.inl h)
        · exact .inl h
        · exact .inr (.inr h)
theorem keys_grant (e : Eg) (x : Lz) (now : Int) : ∀ k ∈ keysOf (Edge.grant e x now).1.L, k = x.key ∨ k ∈ keysOf e.L := by
  intro k hk
  unfold Edge.grant at hk
  split at hk
  · unfold Edge.serve at hk
    rw [keys_serves] at hk
    simp only [Lease.put] at hk
    split at hk
    · exact .inr hk
    · split at hk
      · exact .inr hk
      · exact (keys_ins x e.L k).1 hk
  · exact .inr hk
theorem keys_ask (c : Cf) (e : Eg) (r : Edge.Rq) (now : Int) : keysOf (Edge.ask c e r now).1.L = keysOf e.L := by
  unfold Edge.ask Edge.wait
  repeat' split
  all_goals first | rfl | exact keys_spend _ _ _ _
theorem keys_close {e : Eg} (h : Lease.Good e.L) (key gen : Int) : ∀ k ∈ keysOf (close e key gen).1.L, k ∈ keysOf e.L ∧ k ≠ key := by
  intro k hk
  unfold close Lease.close at hk
  simp only at hk
  by_cases h0 : Lease.place e.L key < 0
  · rw [if_pos h0] at hk
    refine ⟨hk, fun ek => ?_⟩
    obtain ⟨x, hx, rfl⟩ := List.mem_map.1 hk
    exact Lease.place_none h0 x hx ek
  · rw [if_neg h0] at hk
    obtain ⟨h2, h3, -⟩ := Lease.place_some (show 0 ≤ Lease.place e.L key by omega)
    obtain ⟨x, hx, rfl⟩ := List.mem_map.1 hk
    refine ⟨List.mem_map.2 ⟨x, List.mem_of_mem_eraseIdx hx, rfl⟩, fun ek => ?_⟩
    obtain ⟨i, hi, e1⟩ := List.mem_iff_getElem.1 hx
    rw [List.getElem_eraseIdx] at e1
    have hthe : Lease.the e.L key = e.L[(Lease.place e.L key).toNat] := by unfold Lease.the; simp [List.getD, h2]
    rw [hthe] at h3
    split at e1
    · rename_i hlt
      have := List.pairwise_iff_getElem.1 h.rise i _ (by omega) h2 hlt
      rw [e1] at this
      omega
    · rename_i hlt
      rw [List.length_eraseIdx] at hi
      have hi2 : i + 1 < e.L.length := by
        split at hi <;> omega
      have := List.pairwise_iff_getElem.1 h.rise _ (i + 1) h2 hi2 (by omega)
      rw [e1] at this
      omega
theorem keys_drop (e : Eg) (gen : Int) : ∀ k ∈ keysOf (drop e gen).L, k ∈ keysOf e.L := by
  intro k hk
  obtain ⟨x, hx, rfl⟩ := List.mem_map.1 hk
  exact List.mem_map.2 ⟨x, (List.mem_filter.1 hx).1, rfl⟩
/-- The node holds what its wallet has leases of. -/
def Hold (node : Int) (t : Tb) (L : List Lz) : Prop := ∀ k ∈ keysOf L, has t k node = true
theorem Hold.few {node : Int} {t : Tb} {L : List Lz} (h : Hold node t L) (ht : Rise 0 t) (hg : Lease.Good L) : L.length ≤ 16 := by
  have h1 : (keysOf L).Pairwise (· < ·) := List.pairwise_map.2 hg.rise
  have h2 : ∀ k ∈ keysOf L, k ∈ t.rows.map (·.key) := fun k hk => by
    obtain ⟨x, hx, rfl, -⟩ := (Ledger.has_iff ht.up).1 (h k hk)
    exact List.mem_map.2 ⟨x, hx, rfl⟩
  have h3 := Ledger.rise_sub _ _ h1 h2
  have := Ledger.rise_16 ht
  simp only [keysOf, List.length_map] at h3
  omega
/-- What a visit keeps of a table and an edge. -/
structure Keeps (c : Cf) (node : Int) (m : Nat) (t : Tb) (e : Eg) : Prop where
  rise : Rise 0 t
  good : Edge.Good c e
  hold : Hold node t e.L
  notes : e.D.length ≤ m
theorem Keeps.lens {c : Cf} {node : Int} {m : Nat} {t : Tb} {e : Eg} (h : Keeps c node m t e) (hq : c.qu ≤ 16) (hm : m ≤ 700) : e.L.length ≤ 16 ∧ e.Q.length ≤ 16 ∧ e.D.length ≤ 700 := by
  have h1 := h.hold.few h.rise h.good.l
  have h2 := h.good.q.room
  have h3 := h.notes
  omega
theorem good_close {c : Cf} {e : Eg} (h : Edge.Good c e) (key gen : Int) : Edge.Good c (close e key gen).1 := ⟨Lease.good_close h.l _ _, h.q, h.until'⟩
theorem good_drop {c : Cf} {e : Eg} (h : Edge.Good c e) (gen : Int) : Edge.Good c (drop e gen) := ⟨Lease.good_drop h.l _, h.q, h.until'⟩
theorem good_refuse {c : Cf} {e : Eg} (h : Edge.Good c e) (key why : Int) : Edge.Good c (refuse e key why).1 := Edge.good_sub h (Edge.without_sublist _ _)
theorem keeps_st1 {c : Cf} {node : Int} {m : Nat} {s : Tb × Eg} (h : Keeps c node m s.1 s.2) (hc : c.ke ≤ 16) {key gen now : Int} (hk : Num key) (hn : Num now) : Keeps c node (m + 1) (st1 c node gen now s key).1 (st1 c node gen now s key).2 := by
  have hr := Ledger.zmint h.rise (key := key) (now := now) hk hn (f := toL c) hc
  refine ⟨Ledger.zsettle hr hk node _, good_close h.good key gen, fun k hkk => ?_, ?_⟩
  · obtain ⟨h1, h2⟩ := keys_close h.good.l key gen k hkk
    show has (Ledger.settle _ key node _).1 k node = true
    rw [Ledger.has_settle hr.up h2]
    exact Ledger.has_mint h.rise.up (h.hold k h1)
  · have := h.notes
    show (close s.2 key gen).1.D.length ≤ m + 1
    unfold close
    simp only
    split
    · simp; omega
    · omega
theorem keeps_sts {c : Cf} {node : Int} (hc : c.ke ≤ 16) {gen now : Int} (hn : Num now) : ∀ (l : List Int) {m : Nat} {s : Tb × Eg}, (∀ k ∈ l, Num k) → Keeps c node m s.1 s.2 → Keeps c node (m + l.length) (sts c node gen now l s).1 (sts c node gen now l s).2
  | [], m, s, _, h => h
  | k :: l, m, s, hk, h => by
    have := keeps_sts hc (gen := gen) hn l (fun x hx => hk x (List.mem_cons_of_mem _ hx)) (keeps_st1 h hc (gen := gen) (hk k List.mem_cons_self) hn)
    rw [show m + (k :: l).length = m + 1 + l.length by simp; omega]
    exact this
theorem held_num {t : Tb} (h : Rise 0 t) (node : Int) : ∀ k ∈ held t node, Num k := by
  intro k hk
  unfold held Ledger.heldOf at hk
  obtain ⟨r, hr, rfl⟩ := List.mem_map.1 hk
  exact (h.base.rows r ((List.mem_filter.1 hr).1)).key
theorem keeps_settled {c : Cf} {node : Int} {m : Nat} {t : Tb} {e : Eg} (h : Keeps c node m t e) (hc : c.ke ≤ 16) {gen now : Int} (hn : Num now) : Keeps c node (m + 16) (settled c node gen now t e).1 (settled c node gen now t e).2 := by
  have h1 := keeps_sts (c := c) (node := node) hc (gen := gen) hn (held t node) (s := (t, e)) (held_num h.rise node) h
  have h2 := Ledger.held_few h.rise node
  exact ⟨h1.rise, good_drop h1.good gen, fun k hk => h1.hold k (keys_drop _ gen k hk), Nat.le_trans h1.notes (by omega)⟩
theorem grant_D (e : Eg) (x : Lz) (now : Int) : (Edge.grant e x now).1.D = e.D := by
  unfold Edge.grant
  split
  · exact (Edge.len_serves x.key now _ _).2.2
  · rfl
theorem grant_num {t : Tb} (_ : Rise 0 t) {key : Int} (_ : Num key) (node want : Int) : Num (Ledger.grant t key node want).2 := by
  unfold Ledger.grant
  split
  · rename_i hm
    have h1 := Ledger.may_in hm
    have h2 : Ledger.grantN (Ledger.findRow t key) want ≤ 2147483648 := by unfold Ledger.grantN; omega
    simp only [Num]
    omega
  · simp [Num]
theorem lz_num {c : Cf} {key gen n now : Int} (hk : Num key) (hg : Num gen) (hn : Num n) : Lease.Nums (lz c key gen n now) := ⟨hk, hg, hn, by simp [lz, Num], Edge.num_add _⟩
theorem keeps_gr1 {c : Cf} {node : Int} {m : Nat} {s : Gs} (h : Keeps c node m s.t s.e) (hc : c.ke ≤ 16) {gen now : Int} (hg : Num gen) (hn : Num now) {w : Int × Int} (hw : Num w.1) : Keeps c node m (gr1 c node gen now s w).t (gr1 c node gen now s w).e := by
  have hr := Ledger.zmint h.rise (key := w.1) (now := now) hw hn (f := toL c) hc
  unfold gr1
  split
  · exact ⟨h.rise, good_refuse h.good w.1 4, h.hold, h.notes⟩
  · split
    · rename_i h1 h2
      refine ⟨Ledger.zgrant hr hw node _, Edge.good_grant h.good (lz_num hw hg (grant_num hr hw node w.2)) now, fun k hk => ?_, by rw [grant_D]; exact h.notes⟩
      rcases keys_grant _ _ _ k hk with e | hk2
      · rw [e]
        exact Ledger.has_granted hr.up h2
      · exact Ledger.has_grant hr.up (Ledger.has_mint h.rise.up (h.hold k hk2))
    · exact ⟨Ledger.zgrant hr hw node _, h.good, fun k hk => Ledger.has_grant hr.up (Ledger.has_mint h.rise.up (h.hold k hk)), h.notes⟩
theorem keeps_grs {c : Cf} {node : Int} {m : Nat} (hc : c.ke ≤ 16) {gen now : Int} (hg : Num gen) (hn : Num now) : ∀ (l : List (Int × Int)) {s : Gs}, (∀ w ∈ l, Num w.1) → Keeps c node m s.t s.e → Keeps c node m (grs c node gen now l s).t (grs c node gen now l s).e
  | [], _, _, h => h
  | w :: l, _, hw, h => keeps_grs hc hg hn l (fun x hx => hw x (List.mem_cons_of_mem _ hx)) (keeps_gr1 h hc hg hn (hw w List.mem_cons_self))
end Go.Proofs.YtbgdlokegibkmaaGreat.Visit

namespace Go.Proofs.YtbgdlokegibkmaaGreat.Visit
open _root_.Go.Proofs.YtbgdlokegibkmaaGreat.Frame (Rw Tb Tk noRow tableOk tokenOk isIn)
open _root_.Go.Proofs.YtbgdlokegibkmaaGreat.Ledger (Rise)
open _root_.Go.Proofs.YtbgdlokegibkmaaGreat.Edge (Cf Eg An Rq RqNum e0)
open _root_.Go.Proofs.YtbgdlokegibkmaaGreat.Lease (Num)
/-- An act: is it a visit, does the edge crash ahead, a request, a reading. -/
structure Av where
  visit : Bool
  crash : Bool
  r : Rq
  now : Int
def zv : Av := ⟨false, false, Edge.zr, 0⟩
def AvNum (a : Av) : Prop := RqNum a.r ∧ Num a.now
/-- The token, the edge. -/
structure Vs where
  t : Tk
  e : Eg
/-- What a visit at node 0 makes, whether it may be or not. -/
def visited (c : Cf) (s : Vs) (now : Int) : Vs × List An := if right c s.t 0 now = true then (⟨(visit c 0 now s.t s.e).1, (visit c 0 now s.t s.e).2.1⟩, (visit c 0 now s.t s.e).2.2) else (s, [])
/-- A token that is gone through. -/
structure Few18 (t : Tk) : Prop where
  stamps : t.stamps.length ≤ 100
  rows : t.table.rows.length ≤ 100
  outs : ∀ r ∈ t.table.rows, r.out.length ≤ 100
/-- What stays true: of a token that is right as the document says, that its table rises, and that the node holds each key of the wallet; of one that is not, that no leases are held. -/
structure Inv (c : Cf) (m : Nat) (s : Vs) : Prop where
  few : Few18 s.t
  good : Edge.Good c s.e
  notes : s.e.D.length ≤ m
  mode : Keeps c 0 m s.t.table s.e ∨ (tokenOk s.t = false ∧ s.e.L = [])
theorem Inv.lens {c : Cf} {m : Nat} {s : Vs} (h : Inv c m s) (hq : c.qu ≤ 16) (hm : m ≤ 700) : s.e.L.length ≤ 16 ∧ s.e.Q.length ≤ 16 ∧ s.e.D.length ≤ 700 := by
  rcases h.mode with hk | ⟨-, h0⟩
  · exact hk.lens hq hm
  · have h2 := h.good.q.room
    have h3 := h.notes
    rw [h0]
    simp only [List.length_nil]
    omega
theorem gen_num {t : Tk} (h : tokenOk t = true) : Num t.gen := by
  simp only [tokenOk, Frame.tokenHead, isIn, Bool.and_eq_true, decide_eq_true_eq] at h
  simp only [Num]
  omega
theorem rise_first {t : Tk} (h : tokenOk t = true) : Rise 0 t.table := by
  simp only [tokenOk, Bool.and_eq_true] at h
  exact Ledger.rise_first h.2
theorem right_ok {c : Cf} {t : Tk} {node now : Int} (h : right c t node now = true) : tokenOk t = true ∧ c.check = 0 ∧ (t.stamps.length : Int) = c.n ∧ 0 ≤ node ∧ node < c.n ∧ 0 ≤ now ∧ now < 4611686018427387904 := by
  simp only [right, Bool.and_eq_true, decide_eq_true_eq] at h
  obtain ⟨⟨⟨⟨⟨⟨h1, h2⟩, h3⟩, h4⟩, h5⟩, h6⟩, h7⟩ := h
  exact ⟨h1, h2, h3, h4, h5, h6, h7⟩
theorem few_rise {t : Tk} (hs : t.stamps.length ≤ 100) (h : Rise 0 t.table) : Few18 t := ⟨hs, Nat.le_trans (Ledger.rise_16 h) (by decide), fun r hr => by have := (h.base.rows r hr).len; omega⟩
theorem inv_first {c : Cf} (hq : 0 ≤ c.qu) {t : Tk} (h : Few18 t) (m : Nat) : Inv c m ⟨t, e0⟩ := by
  refine ⟨h, Edge.good_e0 hq, by simp [e0], ?_⟩
  cases hk : tokenOk t
  · exact .inr ⟨rfl, rfl⟩
  · exact .inl ⟨rise_first hk, Edge.good_e0 hq, fun k hk => by simp [e0, keysOf] at hk, by simp [e0]⟩
theorem ask_D (c : Cf) (e : Eg) (r : Rq) (now : Int) : (Edge.ask c e r now).1.D = e.D := (Edge.ask_few c e r now).2
theorem inv_ask {c : Cf} {m : Nat} {s : Vs} (h : Inv c m s) {r : Rq} (hr : RqNum r) (now : Int) : Inv c m ⟨s.t, (Edge.ask c s.e r now).1⟩ := by
  have hg := Edge.good_ask h.good hr now
  refine ⟨h.few, hg, by rw [ask_D]; exact h.notes, ?_⟩
  rcases h.mode with hk | ⟨h1, h0⟩
  · exact .inl ⟨hk.rise, hg, fun k hk2 => hk.hold k (by rwa [keys_ask] at hk2), by rw [ask_D]; exact hk.notes⟩
  · refine .inr ⟨h1, ?_⟩
    have := keys_ask c s.e r now
    rw [h0] at this
    simpa [keysOf] using this
theorem wants_key {c : Cf} {e : Eg} : ∀ x ∈ Edge.wants c e, Num x.1 := by
  intro x hx
  unfold Edge.wants at hx
  obtain ⟨h1, h2⟩ := List.mem_filter.1 hx
  obtain ⟨k, -, rfl⟩ := List.mem_map.1 h1
  simp only [decide_eq_true_eq] at h2
  unfold Edge.amount at h2
  by_cases h : 0 ≤ c.rate k
  · unfold Cf.rate at h
    split at h
    · rename_i h3
      simp only [Num]
      omega
    · omega
  · rw [if_neg h] at h2
    omega
theorem keeps_visit {c : Cf} (hk : c.ke ≤ 16) {m : Nat} {t : Tk} {e : Eg} {now : Int} (hg : Num t.gen) (hn : Num now) (h : Keeps c 0 m t.table e) : Keeps c 0 (m + 16) (visit c 0 now t e).1.table (visit c 0 now t e).2.1 := by
  unfold visit
  split
  · exact keeps_grs hk hg hn _ wants_key (keeps_settled h hk hn)
  · rw [(stamped_rest t 0 now).2.2.1]
    exact ⟨h.rise, h.good, h.hold, Nat.le_trans h.notes (by omega)⟩
theorem visit_rest (c : Cf) (now : Int) (t : Tk) (e : Eg) : (visit c 0 now t e).1.stamps.length = t.stamps.length := by
  unfold visit
  split
  · exact (stamped_rest t 0 now).2.2.2
  · exact (stamped_rest t 0 now).2.2.2
theorem inv_visited {c : Cf} (hk : c.ke ≤ 16) {m : Nat} {s : Vs} (h : Inv c m s) {now : Int} (hn : Num now) : Inv c (m + 16) (visited c s now).1 := by
  unfold visited
  split
  · rename_i hr
    obtain ⟨h1, -⟩ := right_ok hr
    rcases h.mode with hkp | ⟨h2, -⟩
    · have h3 := keeps_visit hk (gen_num h1) hn hkp
      exact ⟨few_rise (by rw [visit_rest]; exact h.few.stamps) h3.rise, h3.good, h3.notes, .inl h3⟩
    · rw [h2] at h1
      simp at h1
  · refine ⟨h.few, h.good, Nat.le_trans h.notes (by omega), ?_⟩
    rcases h.mode with hkp | h2
    · exact .inl ⟨hkp.rise, hkp.good, hkp.hold, Nat.le_trans hkp.notes (by omega)⟩
    · exact .inr h2
theorem Inv.more {c : Cf} {m : Nat} {s : Vs} (h : Inv c m s) : Inv c (m + 16) s := ⟨h.few, h.good, Nat.le_trans h.notes (by omega), by
  rcases h.mode with hkp | h2
  · exact .inl ⟨hkp.rise, hkp.good, hkp.hold, Nat.le_trans hkp.notes (by omega)⟩
  · exact .inr h2⟩
end Go.Proofs.YtbgdlokegibkmaaGreat.Visit

namespace Go.Proofs.YtbgdlokegibkmaaGreat.Visit
open Go.RowKit
open _root_.Go.Proofs.YtbgdlokegibkmaaGreat.Frame (Rw Tb Tk noRow LeasesAt cell_on)
open _root_.Go.Proofs.YtbgdlokegibkmaaGreat.Ledger (RowAt RowsAt RowsIn LeasesIn Rise)
open _root_.Go.Proofs.YtbgdlokegibkmaaGreat.Codec (Ints lt_of_heap)
open _root_.Go.Proofs.YtbgdlokegibkmaaGreat.Kit (Lies Kept Off)
open _root_.Go.Proofs.YtbgdlokegibkmaaGreat.Edge (Cf Eg Ed RatesB CfNum Says HasN Typed An Rq RqNum rval Lens e0 pair)
open _root_.Go.Proofs.YtbgdlokegibkmaaGreat.Token (tokVal)
open _root_.Go.Proofs.YtbgdlokegibkmaaGreat.Lease (Num)
/-- Blocks that stay, base, world, the edge's address, its configuration, what it holds. -/
abbrev PwR := (Nat → Prop) → Nat → World → Nat → Cf → Eg → Prop
/-- The program's edge moves; blocks of R that hold numbers stay. -/
structure MovedR (PW : PwR) (R : Nat → Prop) (B : Nat) (w : World) (q : Nat) (c : Cf) (e : Eg) (w' : World) : Prop where
  pw : PW R B w' q c e
  off : Off Edge.mine w w'
  below : Below B w w'
  keep : ∀ g, R g → HasN w g → g < w.heap.size → w'.heap[g]? = w.heap[g]?
/-- Blocks of these types are none of the edge's. -/
def Plainly (w : World) (g : Nat) : Prop := g < w.heap.size ∧ ∃ cs T z, w.heap[g]? = some (.cells cs T z) ∧ (T = 3 ∨ T = 80 ∨ T = 141)
structure FrameR (PW : PwR) : Prop where
  below : ∀ {R B w q c e w'}, PW R B w q c e → Below w.heap.size w w' → PW R B w' q c e
  kept : ∀ {R B w q c e w'}, PW R B w q c e → Kept [97, 60, 30] w w' → Below B w w' → PW R B w' q c e
  low : ∀ {R B w q c e}, PW R B w q c e → ∀ g, R g → g < w.heap.size
  sub : ∀ {R G : Nat → Prop} {B w q c e}, PW R B w q c e → (∀ g, G g → R g) → PW G B w q c e
  grow : ∀ {R B w q c e w'}, PW R B w q c e → Below w.heap.size w w' → PW (fun g => R g ∨ w.heap.size ≤ g ∧ g < w'.heap.size) B w' q c e
  typed : ∀ {R B w q c e}, PW R B w q c e → PW (fun g => R g ∨ Plainly w g) B w q c e
/-- Numbers that lie in such blocks. -/
def IntsIn (S : Nat → Prop) (w : World) (p : Option Addr) (l : List Int) : Prop := l = [] ∨ ∃ b o, p = some ⟨b, o, none⟩ ∧ S b ∧ ∀ j, j < l.length → w.cell? ⟨b, o + j, none⟩ = some (.int .i64 (l.getD j 0))
section
variable {S S' : Nat → Prop} {w w' : World} {p : Option Addr}
theorem IntsIn.rest {l : List Int} (h : IntsIn S w p l) : Ints w p l := by
  rcases h with h | ⟨b, o, e, -, hc⟩
  · exact .inl h
  · exact .inr ⟨b, o, e, hc⟩
theorem IntsIn.on {l : List Int} (h : IntsIn S w p l) (hS : ∀ b, S b → b < w.heap.size → S' b) (hk : ∀ b, S b → HasN w b → b < w.heap.size → w'.heap[b]? = w.heap[b]?) : IntsIn S' w' p l := by
  rcases h with h | ⟨b, o, e, hb, hc⟩
  · exact .inl h
  · by_cases hl : l = []
    · exact .inl hl
    · have h0 := hc 0 (List.length_pos_iff.2 hl)
      have hlt : b < w.heap.size := World.block_lt_of_cell? _ _ h0
      exact .inr ⟨b, o, e, hS _ hb hlt, fun j hj => (World.cell?_of_block (a := ⟨b, o + j, none⟩) (hk b hb ⟨_, _, _, h0⟩ hlt)).trans (hc j hj)⟩
theorem leasesin_on {l : List (Int × Int)} (h : LeasesIn S w p l) (hS : ∀ b, S b → b < w.heap.size → S' b) (hk : ∀ b, S b → HasN w b → b < w.heap.size → w'.heap[b]? = w.heap[b]?) : LeasesIn S' w' p l := by
  rcases h with h | ⟨b, o, e, hb, hc⟩
  · exact .inl h
  · by_cases hl : l = []
    · exact .inl hl
    · have h0 := (hc 0 (List.length_pos_iff.2 hl)).1
      have hlt : b < w.heap.size := World.block_lt_of_cell? _ _ h0
      have he := hk b hb ⟨_, _, _, h0⟩ hlt
      exact .inr ⟨b, o, e, hS _ hb hlt, fun j hj => ⟨(World.cell?_of_block (a := ⟨b, _, none⟩) he).trans (hc j hj).1, (World.cell?_of_block (a := ⟨b, _, none⟩) he).trans (hc j hj).2⟩⟩
theorem rowsin_on {l : List Rw} (h : Ledger.RowsIn S w p l) (hS : ∀ b, S b → b < w.heap.size → S' b) (hk : ∀ b, S b → HasN w b → b < w.heap.size → w'.heap[b]? = w.heap[b]?) : Ledger.RowsIn S' w' p l := by
  rcases h with h | ⟨b, o, e, hb, hc⟩
  · exact .inl h
  · by_cases hl : l = []
    · exact .inl hl
    · have h0 := (hc 0 (List.length_pos_iff.2 hl)).1
      have hlt : b < w.heap.size := World.block_lt_of_cell? _ _ h0
      have he := hk b hb ⟨_, _, _, h0⟩ hlt
      refine .inr ⟨b, o, e, hS _ hb hlt, fun j hj => ?_⟩
      obtain ⟨k0, k1, k2, q, d, k3, k4⟩ := hc j hj
      exact ⟨(World.cell?_of_block (a := ⟨b, _, none⟩) he).trans k0, (World.cell?_of_block (a := ⟨b, _, none⟩) he).trans k1, (World.cell?_of_block (a := ⟨b, _, none⟩) he).trans k2, q, d, (World.cell?_of_block (a := ⟨b, _, none⟩) he).trans k3, leasesin_on k4 hS hk⟩
end
/-- A token lies in such blocks. -/
structure TokIn (S : Nat → Prop) (w : World) (t : Tk) (ps p : Option Addr) : Prop where
  stamps : IntsIn S w ps t.stamps
  rows : Ledger.RowsIn S w p t.table.rows
theorem TokIn.on {S S' : Nat → Prop} {w w' : World} {t : Tk} {ps p : Option Addr} (h : TokIn S w t ps p) (hS : ∀ b, S b → b < w.heap.size → S' b) (hk : ∀ b, S b → HasN w b → b < w.heap.size → w'.heap[b]? = w.heap[b]?) : TokIn S' w' t ps p :=
  ⟨h.stamps.on hS hk, rowsin_on h.rows hS hk⟩
theorem TokIn.below {S : Nat → Prop} {w w' : World} {t : Tk} {ps p : Option Addr} (h : TokIn S w t ps p) (hb : Below w.heap.size w w') : TokIn S w' t ps p := h.on (fun _ h _ => h) fun b _ _ hl => hb.block b hl
/-- Where the document's edge turns. -/
theorem TokIn.moved {PW : PwR} {S : Nat → Prop} {B q : Nat} {c : Cf} {e : Eg} {w w' : World} {t : Tk} {ps p : Option Addr} (h : TokIn S w t ps p) (hm : MovedR PW S B w q c e w') : TokIn S w' t ps p := h.on (fun _ h _ => h) hm.keep
structure Way18 (PW : PwR) : Prop where
  fr : FrameR PW
  new : ∀ B c p k w, B ≤ w.heap.size → RatesB B w p c.zs → c.zs.length ≤ 100 → CfNum c → c.check = 0 → Calls Tryz.prog 8 #[c.val p k] w fun x w' => ∃ q, x = .returned (.tuple #[.pointer (some ⟨q, 0, none⟩), .int .i64 0]) ∧ PW (fun g => g < w.heap.size) B w' q c e0 ∧ Below w.heap.size w w'
  newno : ∀ c p k w, RatesB w.heap.size w p c.zs → CfNum c → c.check ≠ 0 → Calls Tryz.prog 8 #[c.val p k] w fun x w' => x = .returned (.tuple #[.pointer none, .int .i64 c.check]) ∧ Below w.heap.size w w'
  ask : ∀ {R B w q c e}, PW R B w q c e → B ≤ w.heap.size → Edge.Good c e → Lens e → ∀ r, RqNum r → ∀ now, Num now → Calls Tryz.prog 13 #[.pointer (some ⟨q, 0, none⟩), rval r, .int .i64 now] w fun x w' => ∃ y, x = .returned y ∧ Says w' y (Edge.ask c e r now).2 ∧ MovedR PW R B w q c (Edge.ask c e r now).1 w'
  crash : ∀ {R B w q c e}, PW R B w q c e → B ≤ w.heap.size → Edge.Good c e → Lens e → Calls Tryz.prog 10 #[.pointer (some ⟨q, 0, none⟩)] w fun x w' => ∃ y, x = .returned y ∧ Says w' y (Edge.crash e).2 ∧ MovedR PW R B w q c (Edge.crash e).1 w'
  waiting : ∀ {R B w q c e}, PW R B w q c e → Edge.Good c e → Lens e → Calls Tryz.prog 24 #[.pointer (some ⟨q, 0, none⟩)] w fun x w' => ∃ p k, x = .returned (.slice p e.Q.length k) ∧ Lies Queue.item w' p e.Q ∧ Typed w' p 136 ∧ Below w.heap.size w w'
  leases : ∀ {R B w q c e}, PW R B w q c e → Edge.Good c e → Lens e → Calls Tryz.prog 22 #[.pointer (some ⟨q, 0, none⟩)] w fun x w' => ∃ p k, x = .returned (.slice p e.L.length k) ∧ Lease.Lies w' p e.L ∧ Below w.heap.size w w'
  visit : ∀ {R B w q c e} (node now : Int) (t : Tk) (m : Nat) (ps : Option Addr) (cs : Nat) (p : Option Addr) (d : Nat) (pf : Option Addr) (cf : Nat), PW R B w q c e → B ≤ w.heap.size → Keeps c node m t.table e → m ≤ 660 → right c t node now = true → Num node → Num now → CfNum c → c.zs.length ≤ 60 → TokIn R w t ps p → RatesB B w pf c.zs →
    Calls Tryz.prog 15 #[tokVal t ps cs p (d + t.table.rows.length), .pointer (some ⟨q, 0, none⟩), .int .i64 node, .int .i64 now, c.val pf cf] w fun x w' => ∃ ps' cs' p' d' y R', x = .returned (.tuple #[tokVal (visit c node now t e).1 ps' cs' p' (d' + (visit c node now t e).1.table.rows.length), y, .int .i64 0]) ∧ Says w' y (visit c node now t e).2.2 ∧ TokIn R' w' (visit c node now t e).1 ps' p' ∧ (∀ g, R g → R' g) ∧ PW R' B w' q c (visit c node now t e).2.1 ∧ MovedR PW R B w q c (visit c node now t e).2.1 w'
  visitno : ∀ (node now : Int) (t : Tk) (q : Option Addr) (ps : Option Addr) (cs : Nat) (p : Option Addr) (d : Nat) (c : Cf) (pf : Option Addr) (cf : Nat) (w : World), (q = none ∨ right c t node now = false) → Few18 t → CfNum c → c.zs.length ≤ 60 → Ints w ps t.stamps → RowsAt w p t.table.rows → RatesB w.heap.size w pf c.zs →
    Calls Tryz.prog 15 #[tokVal t ps cs p (d + t.table.rows.length), .pointer q, .int .i64 node, .int .i64 now, c.val pf cf] w fun x w' => ∃ ps' cs' p' d' y, x = .returned (.tuple #[tokVal t ps' cs' p' (d' + t.table.rows.length), y, .int .i64 1]) ∧ Says w' y [] ∧ TokIn (Plainly w') w' t ps' p' ∧ Below w.heap.size w w'
end Go.Proofs.YtbgdlokegibkmaaGreat.Visit

namespace Go.Proofs.YtbgdlokegibkmaaGreat.Visit
open _root_.Go.Proofs.YtbgdlokegibkmaaGreat.Frame (Rw Tb Tk noRow tokenOk)
open _root_.Go.Proofs.YtbgdlokegibkmaaGreat.Ledger (Rise)
open _root_.Go.Proofs.YtbgdlokegibkmaaGreat.Edge (Cf Eg An Rq RqNum CfNum e0)
open _root_.Go.Proofs.YtbgdlokegibkmaaGreat.Lease (Num)
def lc : Cf := ⟨1, 0, 5, 9, 1, 1, 1, 2, [(2, 9)]⟩
def lr : Rq := ⟨5, 3, 4, 0, 30⟩
def lt0 : Tk := ⟨7, 0, [-1], ⟨10, []⟩⟩
def le1 : Eg := ⟨[], [⟨5, 3, 4, 0, 50⟩], []⟩
def lt1 : Tk := ⟨7, 0, [20], ⟨10, [⟨3, 5, 20, [(0, 4)]⟩]⟩⟩
def le2 : Eg := ⟨[⟨3, 7, 4, 4, 25⟩], [], []⟩
def lt2 : Tk := ⟨7, 0, [22], ⟨10, [⟨3, 1, 22, [(0, 4)]⟩]⟩⟩
def le3 : Eg := ⟨[⟨3, 7, 4, 0, 27⟩], [], [⟨3, 4⟩]⟩
theorem lv0 : lc.check = 0 := rfl
theorem lv1 : Edge.ask lc e0 lr 20 = (le1, []) := rfl
theorem lw1 : Edge.wants lc le1 = [(3, 4)] := by
  have e : Edge.keys le1 = [3] := by
    show Edge.merge [3] [] = [3]
    simp [Edge.merge]
  unfold Edge.wants
  rw [e]
  rfl
theorem lw2 : Edge.wants lc ⟨[], [], [⟨3, 4⟩]⟩ = [(3, 4)] := by
  have e : Edge.keys ⟨[], [], [⟨3, 4⟩]⟩ = [3] := by
    show Edge.merge [] [3] = [3]
    simp [Edge.merge]
  unfold Edge.wants
  rw [e]
  rfl
theorem ls1 : settled lc 0 7 20 lt0.table le1 = (lt0.table, le1) := rfl
theorem ls2 : settled lc 0 7 22 lt1.table le2 = (⟨10, [⟨3, 5, 22, []⟩]⟩, ⟨[], [], [⟨3, 4⟩]⟩) := rfl
theorem lg1 : grs lc 0 7 20 [(3, 4)] ⟨lt0.table, le1, []⟩ = ⟨lt1.table, le2, [⟨5, 7, 0⟩]⟩ := rfl
theorem lg2 : grs lc 0 7 22 [(3, 4)] ⟨⟨10, [⟨3, 5, 22, []⟩]⟩, ⟨[], [], [⟨3, 4⟩]⟩, []⟩ = ⟨lt2.table, le3, []⟩ := rfl
theorem lv2 : visit lc 0 20 lt0 le1 = (lt1, le2, [⟨5, 7, 0⟩]) := by
  have h : Token.stamped lt0 0 20 = (⟨7, 0, [20], ⟨10, []⟩⟩, 0) := rfl
  have hv : Token.valid [20] 20 lc.va = true := by decide +kernel
  unfold visit
  rw [h, show lt0.gen = 7 from rfl, ls1]
  simp only
  rw [if_pos hv, lw1, lg1]
  rfl
theorem lv3 : visit lc 0 22 lt1 le2 = (lt2, le3, []) := by
  have h : Token.stamped lt1 0 22 = (⟨7, 0, [22], lt1.table⟩, 0) := rfl
  have hv : Token.valid [22] 22 lc.va = true := by decide +kernel
  unfold visit
  rw [h, show lt1.gen = 7 from rfl, ls2]
  simp only
  rw [if_pos hv, lw2, lg2]
  rfl
theorem lr1 : right lc lt0 0 20 = true := by decide
theorem lr2 : right lc lt1 0 22 = true := by decide
theorem lnum {x : Int} (h : -100 ≤ x ∧ x ≤ 100) : Num x := by unfold Num; omega
theorem lnum_c : CfNum lc := ⟨lnum (by decide), lnum (by decide), lnum (by decide), lnum (by decide), lnum (by decide), lnum (by decide), lnum (by decide), lnum (by decide)⟩
theorem lnum_r : RqNum lr := ⟨lnum (by decide), lnum (by decide), lnum (by decide), lnum (by decide), lnum (by decide)⟩
theorem linv0 : Inv lc 0 ⟨lt0, e0⟩ := inv_first (by decide) ⟨by decide, by decide, fun r hr => by simp [lt0] at hr⟩ 0
theorem linv1 : Inv lc 16 ⟨lt0, le1⟩ := by
  have h := (inv_ask linv0 lnum_r 20).more
  rw [lv1] at h
  exact h
theorem linv2 : Inv lc 32 ⟨lt1, le2⟩ := by
  have h := inv_visited (c := lc) (by decide) linv1 (now := 20) (lnum (by decide))
  unfold visited at h
  rw [if_pos lr1, lv2] at h
  exact h
theorem lkeep {m : Nat} {t : Tk} {e : Eg} (h : Inv lc m ⟨t, e⟩) (ht : tokenOk t = true) : Keeps lc 0 m t.table e := by
  rcases h.mode with h | ⟨h, -⟩
  · exact h
  · rw [ht] at h; simp at h
end Go.Proofs.YtbgdlokegibkmaaGreat.Visit

namespace Go.Proofs.YtbgdlokegibkmaaGreat.Token
open Go.RowKit
open _root_.Go.Proofs.YtbgdlokegibkmaaGreat.Frame (Rw Tb Tk noRow LeasesAt RowAt RowsAt cell_on Asked tokenOk)
open _root_.Go.Proofs.YtbgdlokegibkmaaGreat.Codec (Ints lt_of_heap frozen_of heap_set)
open _root_.Go.Proofs.YtbgdlokegibkmaaGreat.Ring (nth maj)
open _root_.Go.Proofs.YtbgdlokegibkmaaGreat.Sat (add fit)
/-- While stamps are copied: the token's box, the result's, the row that is made. -/
structure Sst (w : World) (t : Tk) (ps : Option Addr) (cs : Nat) (p : Option Addr) (c : Nat) (v : Value) (L : List Int) (u : World) : Prop where
  own : OwnI w.heap.size u v L
  box : u.heap[w.heap.size]? = some (.cells #[.int .i64 t.gen, .int .i64 t.hop, .slice ps t.stamps.length cs, .int .i64 t.table.start, .slice p t.table.rows.length c] 30 (0, 0))
  res : u.heap[w.heap.size + 1]? = some (.cells #[.int .i64 0, .int .i64 0, .slice none 0 0, .int .i64 0, .slice none 0 0] 30 (0, 0))
  below : Below w.heap.size w u
/-- The boxes are filled; what was made stays. -/
theorem Sst.done {w u : World} {t : Tk} {ps p : Option Addr} {cs c : Nat} {v : Value} {L : List Int} (h : Sst w t ps cs p c v L u) (y v0 v1 v2 v3 v4 : Value) :
    OwnI w.heap.size ((((((u.setCell ⟨w.heap.size, 2, none⟩ y).setCell ⟨w.heap.size + 1, 0, none⟩ v0).setCell ⟨w.heap.size + 1, 1, none⟩ v1).setCell ⟨w.heap.size + 1, 2, none⟩ v2).setCell ⟨w.heap.size + 1, 3, none⟩ v3).setCell ⟨w.heap.size + 1, 4, none⟩ v4) v L ∧
    Below w.heap.size w ((((((u.setCell ⟨w.heap.size, 2, none⟩ y).setCell ⟨w.heap.size + 1, 0, none⟩ v0).setCell ⟨w.heap.size + 1, 1, none⟩ v1).setCell ⟨w.heap.size + 1, 2, none⟩ v2).setCell ⟨w.heap.size + 1, 3, none⟩ v3).setCell ⟨w.heap.size + 1, 4, none⟩ v4) := by
  refine ⟨own_keep h.own fun b hb => ?_, (((((h.below.setCell (p := ⟨w.heap.size, 2, none⟩) (Nat.le_refl _) y).setCell (p := ⟨w.heap.size + 1, 0, none⟩) (Nat.le_succ _) v0).setCell (p := ⟨w.heap.size + 1, 1, none⟩) (Nat.le_succ _) v1).setCell (p := ⟨w.heap.size + 1, 2, none⟩) (Nat.le_succ _) v2).setCell (p := ⟨w.heap.size + 1, 3, none⟩) (Nat.le_succ _) v3).setCell (p := ⟨w.heap.size + 1, 4, none⟩) (Nat.le_succ _) v4⟩
  obtain ⟨cur, hc⟩ := own_heap h.own hb
  have n1 : b ≠ w.heap.size := by
    rintro rfl
    rw [h.box] at hc
    simp at hc
  have n2 : b ≠ w.heap.size + 1 := by
    rintro rfl
    rw [h.res] at hc
    simp at hc
  exact (Below.heap_setCell _ _ _ _ n2).trans ((Below.heap_setCell _ _ _ _ n2).trans ((Below.heap_setCell _ _ _ _ n2).trans ((Below.heap_setCell _ _ _ _ n2).trans ((Below.heap_setCell _ _ _ _ n2).trans (Below.heap_setCell _ _ _ _ n1)))))
end Go.Proofs.YtbgdlokegibkmaaGreat.Token

namespace Go.Proofs.YtbgdlokegibkmaaGreat.Visit
open Go.RowKit
open _root_.Go.Proofs.YtbgdlokegibkmaaGreat.Frame (Rw Tb Tk noRow LeasesAt cell_on)
open _root_.Go.Proofs.YtbgdlokegibkmaaGreat.Ledger (RowAt RowsAt Rise mint held has tabVal cfVal)
open _root_.Go.Proofs.YtbgdlokegibkmaaGreat.Codec (Ints lt_of_heap frozen_of heap_set)
open _root_.Go.Proofs.YtbgdlokegibkmaaGreat.Edge (Cf Eg Ed RatesB close drop)
open _root_.Go.Proofs.YtbgdlokegibkmaaGreat.Token (tokVal box5f)
open _root_.Go.Proofs.YtbgdlokegibkmaaGreat.Lease (Num)
theorem lay (w : World) (o : Obj) : Below w.heap.size w (w.alloc o) := (Below.refl _ w).alloc (Nat.le_refl _) o
theorem rates_at {B : Nat} {w : World} {p : Option Addr} {zs : List (Int × Int)} (h : RatesB B w p zs) : Ledger.RatesAt w p zs := by
  rcases h with h | ⟨b, o, e, -, hc⟩
  · exact .inl h
  · exact .inr ⟨b, o, e, hc⟩
theorem bel1 (w0 : World) (o : Obj) : Below w0.heap.size w0 (w0.alloc o).drew := (lay w0 o).drew
theorem bel_a {w0 u : World} (h : Below w0.heap.size w0 u) (o : Obj) : Below w0.heap.size w0 (u.alloc o) := h.trans ((lay u o).mono h.size)
theorem bel_s {w0 u : World} (h : Below w0.heap.size w0 u) (x y : Value) : Below w0.heap.size w0 ((u.setCell ⟨w0.heap.size, 0, none⟩ x).setCell ⟨w0.heap.size, 1, none⟩ y) := (h.setCell (p := ⟨w0.heap.size, 0, none⟩) (Nat.le_refl _) x).setCell (p := ⟨w0.heap.size, 1, none⟩) (Nat.le_refl _) y
theorem undrewB {w0 u : World} (h : Below w0.drew.heap.size w0.drew u) : Below w0.heap.size w0 u := ⟨h.os, h.tape, h.output, h.size, h.block⟩
/-- The new box, where it was laid ahead. -/
theorem zero_cells {w0 u : World} (hb : Below (w0.alloc (.cells #[.int .i64 0, .slice none 0 0] 28)).drew.heap.size (w0.alloc (.cells #[.int .i64 0, .slice none 0 0] 28)).drew u) : u.cell? ⟨w0.heap.size, 0, none⟩ = some (.int .i64 0) ∧ u.cell? ⟨w0.heap.size, 1, none⟩ = some (.slice none 0 0) ∧ u.frozen? ⟨w0.heap.size, 0, none⟩ = false ∧ u.frozen? ⟨w0.heap.size, 1, none⟩ = false := by
  have hz : u.heap[w0.heap.size]? = some (.cells #[.int .i64 0, .slice none 0 0] 28 (0, 0)) := (hb.block _ (lt_of_heap (show (w0.alloc (.cells #[.int .i64 0, .slice none 0 0] 28)).drew.heap[w0.heap.size]? = _ from heap_alloc_new w0 _))).trans (heap_alloc_new w0 _)
  exact ⟨by rw [cell_of_row u _ 0 _ _ (0, 0) hz]; rfl, by rw [cell_of_row u _ 1 _ _ (0, 0) hz]; rfl, frozen_of hz, frozen_of hz⟩
theorem mint_start (t : Tb) (key now : Int) (f : Ledger.Cf) : (mint t key now f).1.start = t.start := by
  unfold mint
  split
  · rfl
  · split
    · rfl
    · split
      · rfl
      · rfl
theorem settle_start (t : Tb) (key node spent : Int) : (Ledger.settle t key node spent).1.start = t.start := by
  unfold Ledger.settle
  split <;> rfl
theorem off_keep {u u' : World} {g : Nat} {cs : Array Value} {z : Nat × Nat} (hb : u.heap[g]? = some (.cells cs 30 z)) (hs : u.heap.size ≤ u'.heap.size) (hk : ∀ b, b ≠ g → u'.heap[b]? = u.heap[b]?) : Kit.Off Edge.mine u u' :=
  ⟨hs, fun k cs' t z' e ht => (hk k (by
    rintro rfl
    rw [hb] at e
    simp only [Option.some.injEq, Obj.cells.injEq] at e
    rw [← e.2.1] at ht
    simp [Edge.mine] at ht)).trans e⟩
theorem heap_five {u : World} {g b : Nat} (h : b ≠ g) (v0 v1 v2 v3 v4 : Value) : (((((u.setCell ⟨g, 0, none⟩ v0).setCell ⟨g, 1, none⟩ v1).setCell ⟨g, 2, none⟩ v2).setCell ⟨g, 3, none⟩ v3).setCell ⟨g, 4, none⟩ v4).heap[b]? = u.heap[b]? :=
  (Below.heap_setCell _ _ _ _ h).trans ((Below.heap_setCell _ _ _ _ h).trans ((Below.heap_setCell _ _ _ _ h).trans ((Below.heap_setCell _ _ _ _ h).trans (Below.heap_setCell _ _ _ _ h))))
section
variable {u : World} {b m1 k1 m2 k2 : Nat} {g hp st : Int} {q1 q2 : Option Addr} {T : TypeId} (hb : u.heap[b]? = some (.cells #[.int .i64 g, .int .i64 hp, .slice q1 m1 k1, .int .i64 st, .slice q2 m2 k2] T (0, 0)))
include hb
end
end Go.Proofs.YtbgdlokegibkmaaGreat.Visit

namespace Go.Proofs.YtbgdlokegibkmaaGreat.Visit
open Go.RowKit
open _root_.Go.Proofs.YtbgdlokegibkmaaGreat.Frame (Rw Tb Tk noRow LeasesAt cell_on)
open _root_.Go.Proofs.YtbgdlokegibkmaaGreat.Ledger (RowAt RowsAt Rise mint held has tabVal cfVal)
open _root_.Go.Proofs.YtbgdlokegibkmaaGreat.Codec (Ints lt_of_heap frozen_of heap_set)
open _root_.Go.Proofs.YtbgdlokegibkmaaGreat.Edge (Cf Eg Ed An RatesB close drop wants refuse pair)
open _root_.Go.Proofs.YtbgdlokegibkmaaGreat.Token (tokVal box5f)
open _root_.Go.Proofs.YtbgdlokegibkmaaGreat.Lease (Num)
theorem wants_num {c : Cf} {e : Eg} : ∀ x ∈ wants c e, Num x.1 := by
  intro x hx
  unfold wants at hx
  obtain ⟨h1, h2⟩ := List.mem_filter.1 hx
  obtain ⟨k, -, rfl⟩ := List.mem_map.1 h1
  simp only [decide_eq_true_eq] at h2
  unfold Edge.amount at h2
  by_cases h : 0 ≤ c.rate k
  · unfold Cf.rate at h
    split at h
    · rename_i h3
      simp only [Num]
      omega
    · omega
  · rw [if_neg h] at h2
    omega
theorem wants_few {c : Cf} {e : Eg} (hq : e.Q.length ≤ 16) (hd : e.D.length ≤ 700) : (wants c e).length ≤ 960 := by
  refine Nat.le_trans (Edge.wants_len c e (Edge.keys e)) (Nat.le_trans (Edge.merge_len _ _) ?_)
  have := Queue.keys_len e.Q
  have := Demand.keys_len e.D
  omega
theorem grant_few (e : Eg) (x : Lease.Lz) (now : Int) : (Edge.grant e x now).2.length ≤ e.Q.length := by
  unfold Edge.grant
  split
  · exact Nat.le_trans (Edge.serves_len x.key now (Queue.of e.Q x.key) ⟨(Lease.put e.L x).1, e.Q, e.D⟩) (Queue.of_len e.Q x.key)
  · exact Nat.zero_le _
theorem refuse_few (e : Eg) (k why : Int) : (refuse e k why).2.length ≤ e.Q.length := by
  unfold refuse
  rw [Edge.all_len]
  exact Queue.of_len e.Q k
theorem gr1_out (c : Cf) (node gen now : Int) (s : Gs) (x : Int × Int) : (gr1 c node gen now s x).out.length ≤ s.out.length + s.e.Q.length := by
  unfold gr1
  split
  · rw [List.length_append]
    have := refuse_few s.e x.1 4
    omega
  · split
    · rw [List.length_append]
      have := grant_few s.e (lz c x.1 gen (Ledger.grant (mint s.t x.1 now (toL c)).1 x.1 node x.2).2 now) now
      omega
    · simp
theorem grs_at (c : Cf) (node gen now : Int) (l : List (Int × Int)) (s : Gs) {j : Nat} (hj : j < l.length) : grs c node gen now (l.take (j + 1)) s = gr1 c node gen now (grs c node gen now (l.take j) s) (l.getD j (0, 0)) := by
  rw [List.take_succ_eq_append_getElem hj]
  unfold grs
  rw [List.foldl_append]
  simp [List.getD, hj]
theorem grs_out {c : Cf} {node : Int} {m : Nat} (hc : c.ke ≤ 16) (hq : c.qu ≤ 16) (hm : m ≤ 700) {gen now : Int} (hg : Num gen) (hn : Num now) {l : List (Int × Int)} {s : Gs} (hw : ∀ x ∈ l, Num x.1) (h : Keeps c node m s.t s.e) : ∀ j, j ≤ l.length → (grs c node gen now (l.take j) s).out.length ≤ s.out.length + 16 * j
  | 0, _ => by simp [grs]
  | j + 1, hj => by
    have ih := grs_out hc hq hm hg hn hw h j (by omega)
    have hk := keeps_grs (c := c) (node := node) hc hg hn (l.take j) (s := s) (fun x hx => hw x (List.mem_of_mem_take hx)) h
    rw [grs_at c node gen now l s (by omega)]
    have h1 := gr1_out c node gen now (grs c node gen now (l.take j) s) (l.getD j (0, 0))
    have h2 := (hk.lens hq hm).2.1
    omega
/-- Five cells are written. -/
theorem five_box {u : World} {g : Nat} {cs0 cs1 cs2 cs3 cs4 : Value} {T : TypeId} (hb : u.heap[g]? = some (.cells #[cs0, cs1, cs2, cs3, cs4] T (0, 0))) (v0 v1 v2 v3 v4 : Value) : (((((u.setCell ⟨g, 0, none⟩ v0).setCell ⟨g, 1, none⟩ v1).setCell ⟨g, 2, none⟩ v2).setCell ⟨g, 3, none⟩ v3).setCell ⟨g, 4, none⟩ v4).heap[g]? = some (.cells #[v0, v1, v2, v3, v4] T (0, 0)) :=
  heap_set g 4 _ v4 (heap_set g 3 _ v3 (heap_set g 2 _ v2 (heap_set g 1 _ v1 (heap_set g 0 _ v0 hb))))
theorem five_below {u : World} {g C : Nat} (h : C ≤ g) (v0 v1 v2 v3 v4 : Value) : Below C u (((((u.setCell ⟨g, 0, none⟩ v0).setCell ⟨g, 1, none⟩ v1).setCell ⟨g, 2, none⟩ v2).setCell ⟨g, 3, none⟩ v3).setCell ⟨g, 4, none⟩ v4) :=
  ((((((Below.refl _ u).setCell (p := ⟨g, 0, none⟩) h _).setCell (p := ⟨g, 1, none⟩) h _).setCell (p := ⟨g, 2, none⟩) h _).setCell (p := ⟨g, 3, none⟩) h _).setCell (p := ⟨g, 4, none⟩) h _)
theorem st1_start (c : Cf) (node gen now : Int) (s : Tb × Eg) (key : Int) : (st1 c node gen now s key).1.start = s.1.start := (settle_start _ _ _ _).trans (mint_start _ _ _ _)
theorem sts_start (c : Cf) (node gen now : Int) : ∀ (l : List Int) (s : Tb × Eg), (sts c node gen now l s).1.start = s.1.start
  | [], _ => rfl
  | k :: l, s => (sts_start c node gen now l (st1 c node gen now s k)).trans (st1_start c node gen now s k)
theorem settled_start (c : Cf) (node gen now : Int) (t : Tb) (e : Eg) : (settled c node gen now t e).1.start = t.start := sts_start c node gen now (held t node) (t, e)
section
variable {B : Nat} {w u u' : World} {v : Nat} {c : Cf} {C gu : Nat} {gen hop start : Int} {st : List Int} {ps pl p : Option Addr} {cs n d : Nat} {l : List (Int × Int)} {vo : Value} {s : Gs}
theorem grant_start (t : Tb) (key node want : Int) : (Ledger.grant t key node want).1.start = t.start := by
  unfold Ledger.grant
  split <;> rfl
end
end Go.Proofs.YtbgdlokegibkmaaGreat.Visit

namespace Go.Proofs.YtbgdlokegibkmaaGreat.Visit
open Go.RowKit
open _root_.Go.Proofs.YtbgdlokegibkmaaGreat.Frame (Rw Tb Tk noRow Asked tokenOk)
open _root_.Go.Proofs.YtbgdlokegibkmaaGreat.Codec (Ints lt_of_heap)
open _root_.Go.Proofs.YtbgdlokegibkmaaGreat.Edge (Cf)
open _root_.Go.Proofs.YtbgdlokegibkmaaGreat.Token (tokVal box5f)
theorem lay_two (w : World) (a b : Obj) : Below w.heap.size w ((w.alloc a).alloc b) := ((Below.refl _ w).alloc (Nat.le_refl _) a).trans (((Below.refl _ (w.alloc a)).alloc (Nat.le_refl _) b).mono ((Below.refl _ w).alloc (Nat.le_refl _) a).size)
end Go.Proofs.YtbgdlokegibkmaaGreat.Visit

namespace Go.Proofs.YtbgdlokegibkmaaGreat.Visit
open Go.RowKit
open _root_.Go.Proofs.YtbgdlokegibkmaaGreat.Frame (Rw Tb Tk noRow cell_on)
open _root_.Go.Proofs.YtbgdlokegibkmaaGreat.Codec (lt_of_heap)
open _root_.Go.Proofs.YtbgdlokegibkmaaGreat.Edge (Cf Eg An RatesB CfNum Says HasN e0)
open _root_.Go.Proofs.YtbgdlokegibkmaaGreat.Token (tokVal box5f)
open _root_.Go.Proofs.YtbgdlokegibkmaaGreat.Lease (Num)
theorem box9 {u : World} {g : Nat} {a0 a1 a2 a3 a4 a5 a6 a7 a8 : Value} {T : TypeId} (h : u.heap[g]? = some (.cells #[a0, a1, a2, a3, a4, a5, a6, a7, a8] T (0, 0))) : u.cell? ⟨g, 0, none⟩ = some a0 ∧ u.cell? ⟨g, 1, none⟩ = some a1 ∧ u.cell? ⟨g, 2, none⟩ = some a2 ∧ u.cell? ⟨g, 3, none⟩ = some a3 ∧ u.cell? ⟨g, 4, none⟩ = some a4 ∧ u.cell? ⟨g, 5, none⟩ = some a5 ∧ u.cell? ⟨g, 6, none⟩ = some a6 ∧ u.cell? ⟨g, 7, none⟩ = some a7 ∧ u.cell? ⟨g, 8, none⟩ = some a8 := by
  refine ⟨?_, ?_, ?_, ?_, ?_, ?_, ?_, ?_, ?_⟩ <;> (rw [cell_of_row _ _ _ _ _ (0, 0) h]; rfl)
theorem one_ans {u : World} {p : Option Addr} {i g y : Int} (h : Kit.Lies Edge.ans u p [⟨i, g, y⟩]) : ∃ b o, p = some ⟨b, o, none⟩ ∧ u.cell? ⟨b, o, none⟩ = some (.int .i64 i) ∧ u.cell? ⟨b, o + 1, none⟩ = some (.int .i64 g) ∧ u.cell? ⟨b, o + 2, none⟩ = some (.int .i64 y) := by
  rcases h with h | ⟨b, o, e, hc⟩
  · simp at h
  · have h0 := hc 0 (by simp) 0 _ rfl
    have h1 := hc 0 (by simp) 1 _ rfl
    have h2 := hc 0 (by simp) 2 _ rfl
    simp only [Nat.zero_mul, Nat.add_zero] at h0 h1 h2
    exact ⟨b, o, e, h0, h1, h2⟩
/-- While the live question is asked: the edge, the configuration's box, its rates. -/
structure Liv (PW : PwR) (B gc q : Nat) (pf : Option Addr) (R : Nat → Prop) (e : Eg) (W u : World) : Prop where
  pw : PW R B u q lc e
  conf : u.heap[gc]? = some (.cells #[.int .i64 1, .int .i64 0, .int .i64 5, .int .i64 9, .int .i64 1, .int .i64 1, .int .i64 1, .int .i64 2, .slice pf 1 1] 24 (0, 0))
  rc : R gc
  rates : RatesB B u pf [(2, 9)]
  below : Below W.heap.size W u
  size : B ≤ u.heap.size
  lo : W.heap.size ≤ B
section
variable {PW : PwR} {B gc q : Nat} {pf : Option Addr} {R R' : Nat → Prop} {e e' : Eg} {W u u' : World}
theorem Liv.grow (F : FrameR PW) (h : Liv PW B gc q pf R e W u) (hb : Below u.heap.size u u') : Liv PW B gc q pf (fun g => R g ∨ u.heap.size ≤ g ∧ g < u'.heap.size) e W u' :=
  ⟨F.grow h.pw hb, (hb.block _ (lt_of_heap h.conf)).trans h.conf, .inl h.rc, h.rates.on (hb.mono h.size), h.below.trans (hb.mono h.below.size), Nat.le_trans h.size hb.size, h.lo⟩
theorem Liv.moved (h : Liv PW B gc q pf R e W u) (hm : MovedR PW R B u q lc e' u') : Liv PW B gc q pf R e' W u' :=
  ⟨hm.pw, (hm.keep _ h.rc ⟨0, _, _, by rw [cell_of_row _ _ _ _ _ (0, 0) h.conf]; rfl⟩ (lt_of_heap h.conf)).trans h.conf, h.rc, h.rates.on hm.below, h.below.trans (hm.below.mono h.lo), Nat.le_trans h.size hm.off.size, h.lo⟩
theorem Liv.visit (h : Liv PW B gc q pf R e W u) (hm : MovedR PW R B u q lc e' u') (hp : PW R' B u' q lc e') (hR : ∀ g, R g → R' g) : Liv PW B gc q pf R' e' W u' :=
  have k := h.moved hm
  ⟨hp, k.conf, hR _ h.rc, k.rates, k.below, k.size, k.lo⟩
end
set_option maxRecDepth 100000 in
set_option maxHeartbeats 8000000 in
theorem alive_any {PW : PwR} (P : Way18 PW) (w : World) : Calls Tryz.prog 7 #[] w fun e w' => e = .returned (.bool true) ∧ Below w.heap.size w w' := by
  have F := P.fr
  have hA := lay w (.cells #[.int .i64 2, .int .i64 9] 77)
  have hA2 := lay (w.alloc (.cells #[.int .i64 2, .int .i64 9] 77)) (.cells #[.int .i64 1, .int .i64 0, .int .i64 5, .int .i64 9, .int .i64 1, .int .i64 1, .int .i64 1, .int .i64 2, .slice (some ⟨w.heap.size, 0, none⟩) 1 1] 24)
  have hr : RatesB ((w.alloc (.cells #[.int .i64 2, .int .i64 9] 77)).alloc (.cells #[.int .i64 1, .int .i64 0, .int .i64 5, .int .i64 9, .int .i64 1, .int .i64 1, .int .i64 1, .int .i64 2, .slice (some ⟨w.heap.size, 0, none⟩) 1 1] 24)).heap.size ((w.alloc (.cells #[.int .i64 2, .int .i64 9] 77)).alloc (.cells #[.int .i64 1, .int .i64 0, .int .i64 5, .int .i64 9, .int .i64 1, .int .i64 1, .int .i64 1, .int .i64 2, .slice (some ⟨w.heap.size, 0, none⟩) 1 1] 24)) (some ⟨w.heap.size, 0, none⟩) lc.zs := by
    have hk := (hA2.block _ (lt_of_heap (heap_alloc_new w (.cells #[.int .i64 2, .int .i64 9] 77)))).trans (heap_alloc_new w (.cells #[.int .i64 2, .int .i64 9] 77))
    refine .inr ⟨w.heap.size, 0, rfl, lt_of_heap hk, fun i hi => ?_⟩
    obtain rfl : i = 0 := by simp [lc] at hi; omega
    exact ⟨by rw [cell_of_row _ _ _ _ _ (0, 0) hk]; rfl, by rw [cell_of_row _ _ _ _ _ (0, 0) hk]; rfl⟩
  have hcf := heap_alloc_new (w.alloc (.cells #[.int .i64 2, .int .i64 9] 77)) (.cells #[.int .i64 1, .int .i64 0, .int .i64 5, .int .i64 9, .int .i64 1, .int .i64 1, .int .i64 1, .int .i64 2, .slice (some ⟨w.heap.size, 0, none⟩) 1 1] 24)
  rw [show (w.alloc (.cells #[.int .i64 2, .int .i64 9] 77)).heap.size = w.heap.size + 1 by simp] at hcf
  have HB0 := Lib.hid (hA.trans (hA2.mono hA.size))
  have HR := Lib.hid hr
  have HCF := Lib.hid hcf
  have HF := Lib.hid F
  have HP := Lib.hid P
  clear hA hA2 hr hcf F P
  go_enter Tryz.func7, Tryz.ntmps7
  go_upto_region 2 with (fail)
  generalize (w.alloc (.cells #[.int .i64 2, .int .i64 9] 77)).alloc (.cells #[.int .i64 1, .int .i64 0, .int .i64 5, .int .i64 9, .int .i64 1, .int .i64 1, .int .i64 1, .int .i64 2, .slice (some ⟨w.heap.size, 0, none⟩) 1 1] 24) = w1 at *
  have HNW : Hid (Calls Tryz.prog 8 #[.agg #[.int .i64 1, .int .i64 0, .int .i64 5, .int .i64 9, .int .i64 1, .int .i64 1, .int .i64 1, .int .i64 2, .slice (some ⟨w.heap.size, 0, none⟩) 1 1]] w1 fun x u => ∃ q, x = .returned (.tuple #[.pointer (some ⟨q, 0, none⟩), .int .i64 0]) ∧ Liv PW w1.heap.size (w.heap.size + 1) q (some ⟨w.heap.size, 0, none⟩) (fun g => g < w1.heap.size) e0 w u) := Lib.hid ((HP.out.new w1.heap.size lc (some ⟨w.heap.size, 0, none⟩) 1 w1 (Nat.le_refl _) HR.out (by decide) lnum_c lv0).mono fun x u ⟨q, he, hp, hb⟩ => ⟨q, he, hp, (hb.block _ (lt_of_heap HCF.out)).trans HCF.out, lt_of_heap HCF.out, HR.out.on hb, HB0.out.trans (hb.mono HB0.out.size), hb.size, HB0.out.size⟩)
  obtain ⟨c0, c1, c2, c3, c4, c5, c6, c7, c8⟩ := box9 HCF.out
  clear HR HCF HB0
  have HAK := Lib.hid (fun (u : World) (q : Nat) (hl : Liv PW w1.heap.size (w.heap.size + 1) q (some ⟨w.heap.size, 0, none⟩) (fun g => g < w1.heap.size) e0 w u) => show Calls Tryz.prog 13 #[.pointer (some ⟨q, 0, none⟩), .agg #[.int .i64 5, .int .i64 3, .int .i64 4, .int .i64 0, .int .i64 30], .int .i64 20] u fun x w' => ∃ y, x = .returned y ∧ Liv PW w1.heap.size (w.heap.size + 1) q (some ⟨w.heap.size, 0, none⟩) (fun g => g < w1.heap.size) le1 w w' from
    (HP.out.ask hl.pw hl.size linv0.good ⟨by decide, by decide, by decide⟩ lr lnum_r 20 (lnum (by decide))).mono fun x w' ⟨y, he, _, hm⟩ => ⟨y, he, hl.moved (by rw [lv1] at hm; exact hm)⟩)
  go_upto_region 5 with (first
    | (go_at_call 8; (with_reducible refine HNW.out.mono ?_); rintro x u1 ⟨q, rfl, hl⟩; have HL1 := Lib.hid hl; clear hl HNW c0 c1 c2 c3 c4 c5 c6 c7 c8)
    | (go_at_call 13; (with_reducible refine (HAK.out _ _ HL1.out).mono ?_); rintro x u2 ⟨y2, rfl, hl⟩; have HL2 := Lib.hid hl; clear hl HAK))
  have hb1 := lay u2 (.cells #[.int .i64 (-1)] 3)
  have hb2 := lay (u2.alloc (.cells #[.int .i64 (-1)] 3)) (.cells #[.int .i64 7, .int .i64 0, .slice (some ⟨u2.heap.size, 0, none⟩) 1 1, .int .i64 10, .slice none 0 0] 30)
  have hb3 := hb1.trans (hb2.mono hb1.size)
  have hk1 := (hb2.block _ (lt_of_heap (heap_alloc_new u2 (.cells #[.int .i64 (-1)] 3)))).trans (heap_alloc_new u2 (.cells #[.int .i64 (-1)] 3))
  have hk2 := heap_alloc_new (u2.alloc (.cells #[.int .i64 (-1)] 3)) (.cells #[.int .i64 7, .int .i64 0, .slice (some ⟨u2.heap.size, 0, none⟩) 1 1, .int .i64 10, .slice none 0 0] 30)
  rw [show (u2.alloc (.cells #[.int .i64 (-1)] 3)).heap.size = u2.heap.size + 1 by simp] at hk2
  have HL3 := Lib.hid (HL2.out.grow HF.out hb3)
  have HK1 := Lib.hid hk1
  have HK2 := Lib.hid hk2
  clear hb1 hb2 hb3 hk1 hk2 HL1 HL2
  generalize (u2.alloc (.cells #[.int .i64 (-1)] 3)).alloc (.cells #[.int .i64 7, .int .i64 0, .slice (some ⟨u2.heap.size, 0, none⟩) 1 1, .int .i64 10, .slice none 0 0] 30) = u3 at *
  have HT3 := Lib.hid (show TokIn (fun g => (fun g => g < w1.heap.size) g ∨ u2.heap.size ≤ g ∧ g < u3.heap.size) u3 lt0 (some ⟨u2.heap.size, 0, none⟩) none from ⟨.inr ⟨_, 0, rfl, .inr ⟨Nat.le_refl _, lt_of_heap HK1.out⟩, fun j hj => by
    obtain rfl : j = 0 := by simp [lt0] at hj; omega
    rw [cell_of_row _ _ _ _ _ (0, 0) HK1.out]; rfl⟩, .inl rfl⟩)
  generalize (fun g => (fun g => g < w1.heap.size) g ∨ u2.heap.size ≤ g ∧ g < u3.heap.size) = R3 at *
  generalize w1.heap.size = B at *
  have HV1 : Hid (Calls Tryz.prog 15 #[.agg #[.int .i64 7, .int .i64 0, .slice (some ⟨u2.heap.size, 0, none⟩) 1 1, .int .i64 10, .slice none 0 0], .pointer (some ⟨q, 0, none⟩), .int .i64 0, .int .i64 20, .agg #[.int .i64 1, .int .i64 0, .int .i64 5, .int .i64 9, .int .i64 1, .int .i64 1, .int .i64 1, .int .i64 2, .slice (some ⟨w.heap.size, 0, none⟩) 1 1]] u3 fun x u' => ∃ ps' cs' p' d' y R', x = .returned (.tuple #[.agg #[.int .i64 7, .int .i64 0, .slice ps' 1 cs', .int .i64 10, .slice p' 1 (d' + 1)], y, .int .i64 0]) ∧ Says u' y [⟨5, 7, 0⟩] ∧ TokIn R' u' lt1 ps' p' ∧ Liv PW B (w.heap.size + 1) q (some ⟨w.heap.size, 0, none⟩) R' le2 w u') := Lib.hid (by
    have h := HP.out.visit 0 20 lt0 16 (some ⟨u2.heap.size, 0, none⟩) 1 none 0 (some ⟨w.heap.size, 0, none⟩) 1 HL3.out.pw HL3.out.size (lkeep linv1 (by decide)) (by decide) lr1 (lnum (by decide)) (lnum (by decide)) lnum_c (by decide) HT3.out HL3.out.rates
    rw [lv2] at h
    exact h.mono fun x u' ⟨ps', cs', p', d', y, R', h1, h2, h3, h4, h5, h6⟩ => ⟨ps', cs', p', d', y, R', h1, h2, h3, HL3.out.visit h6 h5 h4⟩)
  obtain ⟨x0, x1, x2, x3, x4, -⟩ := box5f HK2.out
  obtain ⟨c0, c1, c2, c3, c4, c5, c6, c7, c8⟩ := box9 HL3.out.conf
  go_upto_region 6 with (go_at_call 15; (with_reducible refine HV1.out.mono ?_); rintro x u4 ⟨ps4, cs4, p4, d4, y4, R4, rfl, hs4, ht4, hl4⟩; have HS4 := Lib.hid hs4; have HT4 := Lib.hid ht4; have HL4 := Lib.hid hl4; clear hs4 ht4 hl4 HV1 x0 x1 x2 x3 x4 c0 c1 c2 c3 c4 c5 c6 c7 c8)
  clear HL3 HK1 HK2 HT3
  have hb5 := lay u4 (.cells #[.int .i64 7, .int .i64 0, .slice ps4 1 cs4, .int .i64 10, .slice p4 1 (d4 + 1)] 30)
  have hk5 := heap_alloc_new u4 (.cells #[.int .i64 7, .int .i64 0, .slice ps4 1 cs4, .int .i64 10, .slice p4 1 (d4 + 1)] 30)
  have HL5 := Lib.hid (HL4.out.grow HF.out hb5)
  have HS5 := Lib.hid (HS4.out.below hb5)
  have HK5 := Lib.hid hk5
  have HT5 := Lib.hid ((HT4.out.below hb5).on (S' := fun g => R4 g ∨ u4.heap.size ≤ g ∧ g < (u4.alloc (.cells #[.int .i64 7, .int .i64 0, .slice ps4 1 cs4, .int .i64 10, .slice p4 1 (d4 + 1)] 30)).heap.size) (fun _ h _ => .inl h) fun _ _ _ _ => rfl)
  have HR5 := Lib.hid (show (fun g => R4 g ∨ u4.heap.size ≤ g ∧ g < (u4.alloc (.cells #[.int .i64 7, .int .i64 0, .slice ps4 1 cs4, .int .i64 10, .slice p4 1 (d4 + 1)] 30)).heap.size) u4.heap.size from .inr ⟨Nat.le_refl _, lt_of_heap hk5⟩)
  clear hb5 hk5 HL4 HS4 HT4
  generalize (fun g => R4 g ∨ u4.heap.size ≤ g ∧ g < (u4.alloc (.cells #[.int .i64 7, .int .i64 0, .slice ps4 1 cs4, .int .i64 10, .slice p4 1 (d4 + 1)] 30)).heap.size) = R5 at *
  generalize u4.alloc (.cells #[.int .i64 7, .int .i64 0, .slice ps4 1 cs4, .int .i64 10, .slice p4 1 (d4 + 1)] 30) = u5 at *
  generalize u4.heap.size = gu at *
  have HV2 : Hid (Calls Tryz.prog 15 #[.agg #[.int .i64 7, .int .i64 0, .slice ps4 1 cs4, .int .i64 10, .slice p4 1 (d4 + 1)], .pointer (some ⟨q, 0, none⟩), .int .i64 0, .int .i64 22, .agg #[.int .i64 1, .int .i64 0, .int .i64 5, .int .i64 9, .int .i64 1, .int .i64 1, .int .i64 1, .int .i64 2, .slice (some ⟨w.heap.size, 0, none⟩) 1 1]] u5 fun x u' => ∃ ps' cs' p' d' y R', x = .returned (.tuple #[.agg #[.int .i64 7, .int .i64 0, .slice ps' 1 cs', .int .i64 10, .slice p' 1 (d' + 1)], y, .int .i64 0]) ∧ Says u' y [] ∧ TokIn R' u' lt2 ps' p' ∧ Liv PW B (w.heap.size + 1) q (some ⟨w.heap.size, 0, none⟩) R' le3 w u' ∧ Says u' y4 [⟨5, 7, 0⟩] ∧ TokIn R5 u' lt1 ps4 p4 ∧ u'.heap[gu]? = some (.cells #[.int .i64 7, .int .i64 0, .slice ps4 1 cs4, .int .i64 10, .slice p4 1 (d4 + 1)] 30 (0, 0))) := Lib.hid (by
    have h := HP.out.visit 0 22 lt1 32 ps4 cs4 p4 d4 (some ⟨w.heap.size, 0, none⟩) 1 HL5.out.pw HL5.out.size (lkeep linv2 (by decide)) (by decide) lr2 (lnum (by decide)) (lnum (by decide)) lnum_c (by decide) HT5.out HL5.out.rates
    rw [lv3] at h
    exact h.mono fun x u' ⟨ps', cs', p', d', y, R', h1, h2, h3, h4, h5, h6⟩ => ⟨ps', cs', p', d', y, R', h1, h2, h3, HL5.out.visit h6 h5 h4, HS5.out.off h6.off, HT5.out.moved h6, (h6.keep _ HR5.out ⟨0, _, _, by rw [cell_of_row _ _ _ _ _ (0, 0) HK5.out]; rfl⟩ (lt_of_heap HK5.out)).trans HK5.out⟩)
  obtain ⟨x0, x1, x2, x3, x4, -⟩ := box5f HK5.out
  obtain ⟨c0, c1, c2, c3, c4, c5, c6, c7, c8⟩ := box9 HL5.out.conf
  go_upto_region 7 with (go_at_call 15; (with_reducible refine HV2.out.mono ?_); rintro x u6 ⟨ps6, cs6, p6, d6, y6, R6, rfl, hs6, ht6, hl6, hs7, ht7, hk7⟩; have HS6 := Lib.hid hs6; have HT6 := Lib.hid ht6; have HL6 := Lib.hid hl6; have HS7 := Lib.hid hs7; have HT7 := Lib.hid ht7; have HK7 := Lib.hid hk7; clear hs6 ht6 hl6 hs7 ht7 hk7 HV2 x0 x1 x2 x3 x4 c0 c1 c2 c3 c4 c5 c6 c7 c8)
  obtain ⟨pa, ka, rfl, la, -, -⟩ := HS7.out
  obtain ⟨pb, kb, rfl, -, -, -⟩ := HS6.out
  have hb7 := lay u6 (.cells #[.int .i64 7, .int .i64 0, .slice ps6 1 cs6, .int .i64 10, .slice p6 1 (d6 + 1)] 30)
  have HK8 := Lib.hid (heap_alloc_new u6 (.cells #[.int .i64 7, .int .i64 0, .slice ps6 1 cs6, .int .i64 10, .slice p6 1 (d6 + 1)] 30))
  have HA7 := Lib.hid (Kit.Lies.below la hb7)
  have HK9 := Lib.hid ((hb7.block _ (lt_of_heap HK7.out)).trans HK7.out)
  have HR1 := Lib.hid (HT7.out.below hb7).rows
  have HR2 := Lib.hid (HT6.out.below hb7).rows
  have HB7 := Lib.hid (HL6.out.below.trans (hb7.mono HL6.out.below.size))
  clear HS6 HS7 HT6 HT7 HL6 HK7 hb7 la HL5 HS5 HT5 HK5 HR5
  generalize u6.heap.size = gv at *
  generalize u6.alloc (.cells #[.int .i64 7, .int .i64 0, .slice ps6 1 cs6, .int .i64 10, .slice p6 1 (d6 + 1)] 30) = u7 at *
  obtain ⟨ba, oa, rfl, a0, a1, a2⟩ := one_ans HA7.out
  obtain ⟨x0, x1, x2, x3, x4, -⟩ := box5f HK9.out
  obtain ⟨v0, v1, v2, v3, v4, -⟩ := box5f HK8.out
  obtain ⟨b1, o1, rfl, hq1⟩ : ∃ b o, p4 = some ⟨b, o, none⟩ ∧ u7.cell? ⟨b, o + 1, none⟩ = some (.int .i64 5) := by
    rcases HR1.out with h | ⟨b, o, e, -, hc⟩
    · simp [lt1] at h
    · have h1 := (hc 0 (by simp [lt1])).2.1
      rw [Nat.zero_mul, Nat.add_zero] at h1
      exact ⟨b, o, e, h1⟩
  obtain ⟨b2, o2, rfl, r0, r1, r2, pl, cl, r3, hle⟩ : ∃ b o, p6 = some ⟨b, o, none⟩ ∧ u7.cell? ⟨b, o, none⟩ = some (.int .i64 3) ∧ u7.cell? ⟨b, o + 1, none⟩ = some (.int .i64 1) ∧ u7.cell? ⟨b, o + 2, none⟩ = some (.int .i64 22) ∧ ∃ p c, u7.cell? ⟨b, o + 3, none⟩ = some (.slice p 1 (c + 1)) ∧ Frame.LeasesAt u7 p [(0, 4)] := by
    rcases HR2.out with h | ⟨b, o, e, -, hc⟩
    · simp [lt2] at h
    · obtain ⟨k0, k1, k2, p, c, k3, k4⟩ := hc 0 (by simp [lt2])
      rw [Nat.zero_mul, Nat.add_zero] at k0 k1 k2 k3
      exact ⟨b, o, e, k0, k1, k2, p, c, k3, k4.rest⟩
  have HTT := Lib.hid (show Calls Tryz.prog 30 #[.agg #[.int .i64 3, .int .i64 1, .int .i64 22, .slice pl 1 (cl + 1)]] u7 fun e w' => e = .returned (.int .i64 5) ∧ Below u7.heap.size u7 w' from Ledger.total_any ⟨3, 1, 22, [(0, 4)]⟩ pl cl u7 hle (by decide))
  go_wp2_with (go_at_call 30; (with_reducible refine HTT.out.mono ?_); rintro x u8 ⟨rfl, hb⟩; have HB8 := Lib.hid (HB7.out.trans (hb.mono HB7.out.size)); clear hb)
  go_ret
  exact ⟨rfl, HB8.out⟩
end Go.Proofs.YtbgdlokegibkmaaGreat.Visit
