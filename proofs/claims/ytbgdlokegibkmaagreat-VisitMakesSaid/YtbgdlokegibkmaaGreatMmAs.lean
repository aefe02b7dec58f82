/-
  VisitMakes where nothing is asked but the live question.
  The closure that gathers answers; what stands while a guest grants.
  VisitMakes returns true, whatever the program's edge and visit are, of any configuration, start and acts.
  VisitMakes returns true, whatever the program's edge and visit are, of a configuration that may be, and few acts.
  VisitMakes returns true, whatever the program's edge and visit are, of any configuration, start and acts.
-/
import Derived.Test.YtbgdlokegibkmaaGreatMmAr
import Derived.Test.YtbgdlokegibkmaaGreatMmAq
import Derived.Test.YtbgdlokegibkmaaGreatMmAf
import Derived.Test.YtbgdlokegibkmaaGreatMmAp
import Derived.Test.YtbgdlokegibkmaaGreatMmAn
namespace Go.Proofs.YtbgdlokegibkmaaGreat.Visit
open Go.RowKit
open _root_.Go.Proofs.YtbgdlokegibkmaaGreat.Frame (Rw Tb Tk noRow Asked cell_on)
open _root_.Go.Proofs.YtbgdlokegibkmaaGreat.Codec (Ints lt_of_heap)
open _root_.Go.Proofs.YtbgdlokegibkmaaGreat.Edge (Cf Eg An RatesB CfNum Says HasN Lens e0)
open _root_.Go.Proofs.YtbgdlokegibkmaaGreat.Token (tokVal box5f)
open _root_.Go.Proofs.YtbgdlokegibkmaaGreat.Lease (Num)
/-- A configuration's box. -/
def CBox (g : Nat) (c : Cf) (pf : Option Addr) (kf : Nat) (u : World) : Prop := u.heap[g]? = some (.cells #[.int .i64 c.n, .int .i64 c.sk, .int .i64 c.tl, .int .i64 c.va, .int .i64 c.lo, .int .i64 c.he, .int .i64 c.ke, .int .i64 c.qu, .slice pf c.zs.length kf] 24 (0, 0))
theorem CBox.on {g : Nat} {c : Cf} {pf : Option Addr} {kf : Nat} {u u' : World} (h : CBox g c pf kf u) (hb : Below u.heap.size u u') : CBox g c pf kf u' := (hb.block _ (lt_of_heap h)).trans h
section
variable {PW : PwR} {W : World} {c : Cf} {pf : Option Addr} {kf : Nat} {pa : Option Addr} {n ka : Nat}
set_option maxRecDepth 100000 in
set_option maxHeartbeats 8000000 in
theorem makes_no (P : Way18 PW) (start : Int) (ok : Bool) (f : Int) (hof : ok = false ∨ ok = true ∧ (f ≠ 0 ∨ f = 0 ∧ (start < 0 ∨ ¬ start < 0 ∧ 1073741824 < start))) (HF : ∀ u, Below W.heap.size W u → Calls Tryz.prog 6 #[tokVal ⟨0, 0, [], ⟨0, []⟩⟩ none 0 none 0, c.val pf kf, .slice pa n ka] u (Asked u ok))
    (HNW : ∀ u, Below W.heap.size W u → Calls Tryz.prog 8 #[c.val pf kf] u fun x w' => ∃ y, x = .returned (.tuple #[.pointer y, .int .i64 f]) ∧ Below u.heap.size u w') :
    Calls Tryz.prog 4 #[c.val pf kf, .int .i64 start, .slice pa n ka] W fun e w' => e = .returned (.bool true) ∧ Below W.heap.size W w' := by
  have HB := Lib.hid (lay W (.cells #[.int .i64 c.n, .int .i64 c.sk, .int .i64 c.tl, .int .i64 c.va, .int .i64 c.lo, .int .i64 c.he, .int .i64 c.ke, .int .i64 c.qu, .slice pf c.zs.length kf] 24))
  have HX := Lib.hid (show CBox W.heap.size c pf kf _ from heap_alloc_new W (.cells #[.int .i64 c.n, .int .i64 c.sk, .int .i64 c.tl, .int .i64 c.va, .int .i64 c.lo, .int .i64 c.he, .int .i64 c.ke, .int .i64 c.qu, .slice pf c.zs.length kf] 24))
  have HFF := Lib.hid HF
  have HN := Lib.hid HNW
  have HAA := Lib.hid (fun u => alive_any P u)
  obtain ⟨x0, x1, x2, x3, x4, x5, x6, x7, x8⟩ := box9 HX.out
  clear HF P HNW
  simp only [Cf.val, tokVal, List.length_nil] at HFF HN ⊢
  have hh : (ok = false) ∨ (ok = true ∧ (f != 0) = true) ∨ (ok = true ∧ f = 0 ∧ start < 0) ∨ (ok = true ∧ f = 0 ∧ ¬ start < 0 ∧ 1073741824 < start) := by
    rcases hof with h | ⟨h, k | ⟨h2, k | ⟨h3, h4⟩⟩⟩
    · exact .inl h
    · exact .inr (.inl ⟨h, by simpa using k⟩)
    · exact .inr (.inr (.inl ⟨h, h2, k⟩))
    · exact .inr (.inr (.inr ⟨h, h2, h3, h4⟩))
  clear hof
  rcases hh with rfl | ⟨rfl, hf⟩ | ⟨rfl, rfl, hs⟩ | ⟨rfl, rfl, hs, hs2⟩
  all_goals
    go_enter Tryz.func4, Tryz.ntmps4
    go_upto_region 1 with (fail)
    generalize (W.alloc (.cells #[.int .i64 c.n, .int .i64 c.sk, .int .i64 c.tl, .int .i64 c.va, .int .i64 c.lo, .int .i64 c.he, .int .i64 c.ke, .int .i64 c.qu, .slice pf c.zs.length kf] 24)) = W0 at *
    go_wp2_with (first
      | (go_at_call 6; (with_reducible refine (HFF.out _ HB.out).mono ?_); rintro x u1 ⟨rfl, hb⟩; have HB1 := Lib.hid (HB.out.trans (hb.mono HB.out.size)); have HX1 := Lib.hid (HX.out.on hb); clear x0 x1 x2 x3 x4 x5 x6 x7 x8; obtain ⟨x0, x1, x2, x3, x4, x5, x6, x7, x8⟩ := box9 HX1.out; clear hb HFF)
      | (go_at_call 8; (with_reducible refine (HN.out _ HB1.out).mono ?_); rintro x u2 ⟨py, rfl, hb⟩; have HB2 := Lib.hid (HB1.out.trans (hb.mono HB1.out.size)); clear hb HN)
      | (go_at_call 7; (with_reducible refine (HAA.out _).mono ?_); rintro x u5 ⟨rfl, hb⟩; have HB5 := Lib.hid (HB2.out.trans (hb.mono HB2.out.size)); clear hb))
    go_ret
    exact ⟨rfl, HB5.out⟩
end
end Go.Proofs.YtbgdlokegibkmaaGreat.Visit

namespace Go.Proofs.YtbgdlokegibkmaaGreat.Visit
open Go.RowKit
open _root_.Go.Proofs.YtbgdlokegibkmaaGreat.Frame (Rw Tb Tk noRow LeasesAt cell_on)
open _root_.Go.Proofs.YtbgdlokegibkmaaGreat.Ledger (RowAt RowsAt LeasesIn Rise mint held tabVal cfVal)
open _root_.Go.Proofs.YtbgdlokegibkmaaGreat.Codec (Ints lt_of_heap frozen_of heap_set)
open _root_.Go.Proofs.YtbgdlokegibkmaaGreat.Kit (Lies Kept Off)
open _root_.Go.Proofs.YtbgdlokegibkmaaGreat.Edge (Cf Eg An Ed RatesB CfNum Says HasN Typed In Moves KeepC Lens pair)
open _root_.Go.Proofs.YtbgdlokegibkmaaGreat.Token (tokVal)
open _root_.Go.Proofs.YtbgdlokegibkmaaGreat.Lease (Num)
theorem says_told {w : World} {v : Value} {l : List An} (h : Says w v l) : Edge.Told w v l := by
  obtain ⟨p, c, e, h1, -, h3⟩ := h
  exact ⟨p, c, e, h1, h3⟩
/-- The row's block, if it is not nil, is of answers. -/
theorem ownz_type {C : Nat} {u : World} {v : Value} {l : List An} (h : OwnZ C u v l) {b m d : Nat} (e : v = .slice (some ⟨b, 0, none⟩) m d) : C ≤ b ∧ ∃ cs, u.heap[b]? = some (.cells cs 60 (0, 0)) := by
  rcases h with ⟨h, -⟩ | ⟨g, cap, h, h1, -, -, h4⟩
  · rw [h] at e; simp at e
  · rw [h] at e
    simp only [Value.slice.injEq, Option.some.injEq, Addr.mk.injEq] at e
    obtain ⟨⟨rfl, -⟩, -⟩ := e
    exact ⟨h1, _, h4⟩
theorem ownz_slice {C : Nat} {u : World} {v : Value} {l : List An} (h : OwnZ C u v l) : ∃ p m d, v = .slice p m d := by
  rcases h with ⟨h, -⟩ | ⟨g, cap, h, -⟩
  · exact ⟨_, _, _, h⟩
  · exact ⟨_, _, _, h⟩
set_option maxRecDepth 100000 in
set_option maxHeartbeats 4000000 in
theorem gtell_any {ga : Nat} {u : World} {vo : Value} {out : List An} (hga : u.heap[ga]? = some (.cells #[vo] 45 (0, 0))) (hown : OwnZ ga u vo out) {v : Value} {k : List An} (hk : Edge.Told u v k) (hlen : out.length + k.length ≤ 100000) :
    Calls Tryz.prog 57 #[v, .pointer (some ⟨ga, 0, none⟩)] u fun x w' => x = .returned (.tuple #[]) ∧ ∃ vo', w'.heap[ga]? = some (.cells #[vo'] 45 (0, 0)) ∧ OwnZ ga w' vo' (out ++ k) ∧ Kept outs18 u w' ∧ Below ga u w' ∧ (∀ b, b < u.heap.size → b ≠ ga → (∀ m d, vo ≠ .slice (some ⟨b, 0, none⟩) m d) → w'.heap[b]? = u.heap[b]?) ∧ ∀ b m d, vo' = .slice (some ⟨b, 0, none⟩) m d → (∃ m' d', vo = .slice (some ⟨b, 0, none⟩) m' d') ∨ u.heap.size ≤ b := by
  have hc : u.cell? ⟨ga, 0, none⟩ = some vo := by rw [cell_of_row _ ga 0 _ _ (0, 0) hga]; rfl
  have hlt := lt_of_heap hga
  have HGA := Lib.hid hga
  have HO := Lib.hid hown
  clear hga hown
  go_enter Tryz.func57, Tryz.ntmps57
  go_wp2_with (at_builtin; refine pour2 rfl (.tmp 3) (.tmp 4) rfl ga vo rfl out HO.out (Nat.le_of_lt hlt) v rfl k hk hlen ?_; intro vo' w1 h1 h2 h3 h4 h5; obtain ⟨pv, mv, dv, rfl⟩ := ownz_slice h1.out; have hga1 : w1.heap[ga]? = some (.cells #[vo] 45 (0, 0)) := h2.out.block ga _ _ _ HGA.out (by decide); have HG1 := Lib.hid hga1; have c1 : w1.cell? ⟨ga, 0, none⟩ = some vo := (by rw [cell_of_row _ ga 0 _ _ (0, 0) hga1]; rfl); have f1 : w1.frozen? ⟨ga, 0, none⟩ = false := frozen_of hga1; clear hga1)
  go_end0
  have hs := heap_set ga 0 _ (.slice pv mv dv) HG1.out
  have ho : ∀ b, b ≠ ga → (w1.setCell ⟨ga, 0, none⟩ (.slice pv mv dv)).heap[b]? = w1.heap[b]? := fun b hb => Below.heap_setCell _ _ _ _ hb
  refine ⟨rfl, _, hs, h1.out.keep fun g _ ⟨cs, hg⟩ => ho g (by rintro rfl; rw [HG1.out] at hg; simp at hg), ⟨Nat.le_trans h2.out.size (by simp), fun g o hg ht => (ho g (by rintro rfl; rw [HGA.out] at hg; exact ht _ _ _ (Option.some.inj hg).symm (by decide))).trans (h2.out.obj g o hg fun cs T z e hT => ht cs T z e (by simp only [List.mem_singleton] at hT; subst hT; decide))⟩, h3.out.setCell (Nat.le_refl _) _, fun b hb hn hv => (ho b hn).trans (h4.out b hb hv), h5.out⟩
/-- While keys are granted: the guest, the answers' variable, what was told; whence it began. -/
structure Gr (B gb ga : Nat) (f : Gf) (y : Value) (qw qq qd : Nat) (R0 R : Nat → Prop) (w0 : World) (p : Option Addr) (d : Nat) (s : Gs) (vo : Value) (u : World) : Prop where
  gu : Gu B gb f y qw qq qd R p d s.t s.e u
  var : u.heap[ga]? = some (.cells #[vo] 45 (0, 0))
  own : OwnZ ga u vo s.out
  nga : ¬ R ga
  now' : ∀ b m d', vo = .slice (some ⟨b, 0, none⟩) m d' → ¬ R b
  fr : Fr18 B gb R0 R w0 u
  lo : w0.heap.size ≤ ga
  ba : B ≤ ga
  bg : B ≤ gb
section
variable {B gb ga : Nat} {f : Gf} {y : Value} {qw qq qd : Nat} {R0 R R' : Nat → Prop} {w0 : World} {p p' : Option Addr} {d d' : Nat} {s : Gs} {vo : Value} {u u' : World}
theorem Gr.ne (h : Gr B gb ga f y qw qq qd R0 R w0 p d s vo u) : gb ≠ ga := by
  rintro rfl
  have h1 := h.gu.box
  rw [h.var] at h1
  simp at h1
/-- A call of the guest's. -/
theorem Gr.step {t : Tb} {e : Eg} (h : Gr B gb ga f y qw qq qd R0 R w0 p d s vo u) (hg : Gu B gb f y qw qq qd R' p' d' t e u') (hf : Fr18 B gb R R' u u') : Gr B gb ga f y qw qq qd R0 R' w0 p' d' ⟨t, e, s.out⟩ vo u' :=
  ⟨hg, hf.off2 ga _ _ _ (Ne.symm h.ne) (by simp [Edge.theirs]) h.var, h.own.keep fun g _ ⟨cs, hc⟩ => (hf.off.block g _ _ _ hc (by simp [Edge.mine])).trans hc.symm,
    fun hR => (hf.new ga hR).elim h.nga fun hs => by have := lt_of_heap h.var; omega,
    fun b m d' e hR => (hf.new b hR).elim (h.now' b m d' e) fun hs => by obtain ⟨-, cs, hc⟩ := ownz_type h.own e; have := lt_of_heap hc; omega,
    h.fr.trans hf, h.lo, h.ba, h.bg⟩
theorem Gr.on (h : Gr B gb ga f y qw qq qd R0 R w0 p d s vo u) (hb : Below u.heap.size u u') : Gr B gb ga f y qw qq qd R0 R w0 p d s vo u' := h.step (h.gu.on hb) (Fr18.of_below hb h.gu.size)
/-- Answers are gathered. -/
theorem Gr.tell {vo' : Value} {k : List An} (h : Gr B gb ga f y qw qq qd R0 R w0 p d s vo u) (hv : u'.heap[ga]? = some (.cells #[vo'] 45 (0, 0))) (ho : OwnZ ga u' vo' (s.out ++ k)) (hk : Kept outs18 u u') (hb : Below ga u u') (hst : ∀ b, b < u.heap.size → b ≠ ga → (∀ m d, vo ≠ .slice (some ⟨b, 0, none⟩) m d) → u'.heap[b]? = u.heap[b]?) (hn : ∀ b m d, vo' = .slice (some ⟨b, 0, none⟩) m d → (∃ m' d', vo = .slice (some ⟨b, 0, none⟩) m' d') ∨ u.heap.size ≤ b) :
    Gr B gb ga f y qw qq qd R0 R w0 p d ⟨s.t, s.e, s.out ++ k⟩ vo' u' := by
  have hbox : u'.heap[gb]? = u.heap[gb]? := hst gb (lt_of_heap h.gu.box) h.ne fun m d e => by
    obtain ⟨-, cs, hc⟩ := ownz_type h.own e
    have h1 := h.gu.box
    rw [hc] at h1
    simp at h1
  refine ⟨⟨in_kept h.gu.inn hk, hbox.trans h.gu.box, h.gu.rows.on (fun _ h => fun _ => h) fun b hR hl => hst b hl (fun e => h.nga (e ▸ hR)) fun m d e => h.now' b m d e hR, h.gu.start, h.gu.ngb, h.gu.rates.on (hb.mono h.ba), Nat.le_trans h.gu.size hk.size⟩, hv, ho, h.nga, fun b m d' e hR => ?_, ?_, h.lo, h.ba, h.bg⟩
  · rcases hn b m d' e with ⟨m', d2, e2⟩ | hs
    · exact h.now' b m' d2 e2 hR
    · have := h.gu.inn.low b hR
      omega
  · have hl := h.lo
    exact ⟨h.fr.below.trans (hb.mono h.ba), ⟨Nat.le_trans h.fr.off.size hk.size, fun g cs T z hg hT => (hb.block g (by have := lt_of_heap hg; omega)).trans (h.fr.off.block g cs T z hg hT)⟩, fun g cs T z hn hT hg => (hb.block g (by have := lt_of_heap hg; omega)).trans (h.fr.off2 g cs T z hn hT hg), fun g hR hN hlt => (hb.block g (by omega)).trans (h.fr.keep g hR hN hlt), h.fr.up, h.fr.new⟩
end
end Go.Proofs.YtbgdlokegibkmaaGreat.Visit

namespace Go.Proofs.YtbgdlokegibkmaaGreat.Visit
open Go.RowKit
open _root_.Go.Proofs.YtbgdlokegibkmaaGreat.Frame (Rw Tb Tk noRow Asked cell_on)
open _root_.Go.Proofs.YtbgdlokegibkmaaGreat.Ledger (RowAt RowsAt findRow)
open _root_.Go.Proofs.YtbgdlokegibkmaaGreat.Codec (Ints lt_of_heap heap_set frozen_of)
open _root_.Go.Proofs.YtbgdlokegibkmaaGreat.Edge (Cf Eg An Rq RatesB CfNum Says HasN Lens In e0)
open _root_.Go.Proofs.YtbgdlokegibkmaaGreat.Token (tokVal box5f)
open _root_.Go.Proofs.YtbgdlokegibkmaaGreat.Lease (Num)
open _root_.Go.Proofs.YtbgdlokegibkmaaGreat.Kit (Off Kept Own)
/-- What is asked of an edge besides: what may be written beside it; requests' blocks are none of its own; which blocks stay behind a visit. -/
structure Free (PW : PwR) : Prop where
  beside : Beside PW
  ask : ∀ {R B w q c e}, PW R B w q c e → B ≤ w.heap.size → Edge.Good c e → Lens e → ∀ r, Edge.RqNum r → ∀ now, Num now → Calls Tryz.prog 13 #[.pointer (some ⟨q, 0, none⟩), Edge.rval r, .int .i64 now] w fun x w' => ∃ y, x = .returned y ∧ Says w' y (Edge.ask c e r now).2 ∧ MovedR PW R B w q c (Edge.ask c e r now).1 w' ∧ Off [42] w w'
  visit : ∀ {R B w q c e} (node now : Int) (t : Tk) (m : Nat) (ps : Option Addr) (cs : Nat) (p : Option Addr) (d : Nat) (pf : Option Addr) (cf : Nat), PW R B w q c e → B ≤ w.heap.size → Keeps c node m t.table e → m ≤ 660 → right c t node now = true → Num node → Num now → CfNum c → c.zs.length ≤ 60 → TokIn R w t ps p → RatesB B w pf c.zs →
    Calls Tryz.prog 15 #[tokVal t ps cs p (d + t.table.rows.length), .pointer (some ⟨q, 0, none⟩), .int .i64 node, .int .i64 now, c.val pf cf] w fun x w' => ∃ ps' cs' p' d' y R', x = .returned (.tuple #[tokVal (visit c node now t e).1 ps' cs' p' (d' + (visit c node now t e).1.table.rows.length), y, .int .i64 0]) ∧ Says w' y (visit c node now t e).2.2 ∧ TokIn R' w' (visit c node now t e).1 ps' p' ∧ (∀ g, R g → R' g) ∧ PW R' B w' q c (visit c node now t e).2.1 ∧ MovedR PW R B w q c (visit c node now t e).2.1 w' ∧ (∀ g, R' g → R g ∨ w.heap.size ≤ g ∨ Plainly w g) ∧ Off [42] w w'
/-- The requests, as the law names them. -/
def reqs (l : List Av) (j : Nat) : List Rq := (List.range j).map fun i => named (l.getD i zv) i
theorem reqs_succ (l : List Av) (j : Nat) : reqs l (j + 1) = reqs l j ++ [named (l.getD j zv) j] := by
  simp [reqs, List.range_succ]
theorem reqs_len (l : List Av) (j : Nat) : (reqs l j).length = j := by simp [reqs]
theorem reqs_at (l : List Av) {j i : Nat} (h : i < j) : (reqs l j).getD i Edge.zr = named (l.getD i zv) i := by
  simp [reqs, List.getD, h]
/-- A token's box. -/
def TBox (g : Nat) (t : Tk) (ps : Option Addr) (cs : Nat) (pt : Option Addr) (d : Nat) (u : World) : Prop := u.heap[g]? = some (.cells #[.int .i64 t.gen, .int .i64 t.hop, .slice ps t.stamps.length cs, .int .i64 t.table.start, .slice pt t.table.rows.length (d + t.table.rows.length)] 30 (0, 0))
theorem TBox.on {g : Nat} {t : Tk} {ps : Option Addr} {cs : Nat} {pt : Option Addr} {d : Nat} {u u' : World} (h : TBox g t ps cs pt d u) (hb : Below u.heap.size u u') : TBox g t ps cs pt d u' := (hb.block _ (lt_of_heap h)).trans h
/-- What stands at a round's head. -/
structure Mw (PW : PwR) (W : World) (R : Nat → Prop) (q : Nat) (c : Cf) (pf : Option Addr) (kf : Nat) (e : Eg) (t : Tk) (ps : Option Addr) (cs : Nat) (pt : Option Addr) (d g : Nat) (pc : Option Addr) (kc n : Nat) (rs : List Rq) (u : World) : Prop where
  pw : PW R W.heap.size u q c e
  conf : CBox W.heap.size c pf kf u
  rc : R W.heap.size
  tok : TokIn R u t ps pt
  box : TBox g t ps cs pt d u
  rg : R g
  cost : Own rq 42 W.heap.size u (.slice pc n kc) rs
  below : Below W.heap.size W u
  nr : ∀ b, (Value.slice pc n kc).ownBlock = some b → ¬ R b
section
variable {PW : PwR} {W : World} {R : Nat → Prop} {q : Nat} {c : Cf} {pf : Option Addr} {kf : Nat} {e e' : Eg} {t : Tk} {ps : Option Addr} {cs : Nat} {pt : Option Addr} {d g : Nat} {pc : Option Addr} {kc n : Nat} {rs : List Rq} {u u' : World}
theorem own_blk19 {B : Nat} {v : Value} (h : Own rq 42 B u v rs) {b : Nat} (hb : v.ownBlock = some b) : ∃ cs z, u.heap[b]? = some (.cells cs 42 z) := by
  rcases h.2 with ⟨rfl, -⟩ | ⟨g', cap, cur, rfl, -, h2, -⟩
  · simp [Value.ownBlock] at hb
  · simp only [Value.ownBlock, Option.some.injEq] at hb
    subst hb
    exact ⟨_, _, h2⟩
theorem own_lt19 {B : Nat} {v : Value} (h : Own rq 42 B u v rs) {b : Nat} (hb : v.ownBlock = some b) : b < u.heap.size := by
  obtain ⟨cs, z, h⟩ := own_blk19 h hb
  exact lt_of_heap h
theorem Mw.on (F : FrameR PW) (h : Mw PW W R q c pf kf e t ps cs pt d g pc kc n rs u) (hb : Below u.heap.size u u') : Mw PW W R q c pf kf e t ps cs pt d g pc kc n rs u' :=
  ⟨F.below h.pw hb, h.conf.on hb, h.rc, h.tok.below hb, h.box.on hb, h.rg, Kit.Own.on h.cost hb, h.below.trans (hb.mono h.below.size), h.nr⟩
/-- More blocks stay: those that a call or a step has made. -/
theorem Mw.grow (F : FrameR PW) (h : Mw PW W R q c pf kf e t ps cs pt d g pc kc n rs u) (hb : Below u.heap.size u u') : Mw PW W (fun b => R b ∨ u.heap.size ≤ b ∧ b < u'.heap.size) q c pf kf e t ps cs pt d g pc kc n rs u' :=
  ⟨F.grow h.pw hb, h.conf.on hb, .inl h.rc, (h.tok.below hb).on (fun _ h _ => .inl h) (fun _ _ _ _ => rfl), h.box.on hb, .inl h.rg, Kit.Own.on h.cost hb, h.below.trans (hb.mono h.below.size), fun b hbk hR => hR.elim (h.nr b hbk) fun hs => by have := own_lt19 h.cost hbk; omega⟩
/-- The edge moves. -/
theorem Mw.own (h : Mw PW W R q c pf kf e t ps cs pt d g pc kc n rs u) (hm : MovedR PW R W.heap.size u q c e' u') (ho : Off [42] u u') : Mw PW W R q c pf kf e' t ps cs pt d g pc kc n rs u' := by
  obtain ⟨b0, -⟩ := box5f h.box
  obtain ⟨c0, -⟩ := box9 h.conf
  exact ⟨hm.pw, (hm.keep _ h.rc ⟨_, _, _, c0⟩ (lt_of_heap h.conf)).trans h.conf, h.rc, h.tok.moved hm, (hm.keep _ h.rg ⟨_, _, _, b0⟩ (lt_of_heap h.box)).trans h.box, h.rg, Kit.Own.off h.cost ho (by simp), h.below.trans hm.below, h.nr⟩
/-- A request is appended. -/
theorem Mw.push (F : Free PW) (FR : FrameR PW) {p4 : Option Addr} {c4 : Nat} {x : Rq} (h : Mw PW W R q c pf kf e t ps cs pt d g pc kc n rs u) (hO : Own rq 42 W.heap.size u' (.slice p4 (n + 1) c4) (rs ++ [x])) (hK : Kept [42] u u') (hB : Below W.heap.size u u') (hb : ∀ b, b < u.heap.size → some b ≠ (Value.slice pc n kc).ownBlock → u'.heap[b]? = u.heap[b]?) (hrow : (Value.slice p4 (n + 1) c4).ownBlock = (Value.slice pc n kc).ownBlock ∨ (Value.slice p4 (n + 1) c4).ownBlock = some u.heap.size) :
    Mw PW W R q c pf kf e t ps cs pt d g p4 c4 (n + 1) (rs ++ [x]) u' :=
  ⟨F.beside h.pw ⟨hK.size, fun b o ho ht => hK.obj b o ho fun cs T z k hm => ht cs T z k (by simp only [List.mem_singleton] at hm; subst hm; decide)⟩, hK.block _ _ _ _ h.conf (by decide), h.rc, h.tok.on (fun _ h _ => h) fun b hR _ hl => hb b hl fun e => h.nr b e.symm hR, hK.block _ _ _ _ h.box (by decide), h.rg, hO, h.below.trans hB, fun b hbk hR => by
    rcases hrow with hr | hr
    · exact h.nr b (hr ▸ hbk) hR
    · rw [hr] at hbk
      have := FR.low h.pw b hR
      simp only [Option.some.injEq] at hbk
      omega⟩
theorem TokIn.swap {S : Nat → Prop} {T : Tk} {b m1 k1 m2 k2 : Nat} {ps' p' : Option Addr} {g hp st : Int} {q1 q2 : Option Addr} {y1 y : Value} (h : TokIn S u T ps' p') (hb : u.heap[b]? = some (.cells #[.int .i64 g, .int .i64 hp, .slice q1 m1 k1, .int .i64 st, .slice q2 m2 k2] 30 (0, 0))) (hb' : u'.heap[b]? = some (.cells #[.int .i64 g, .int .i64 hp, y1, .int .i64 st, y] 30 (0, 0))) (hk : ∀ b', b' ≠ b → u'.heap[b']? = u.heap[b']?) : TokIn S u' T ps' p' := by
  refine ⟨?_, ?_⟩
  · rcases h.stamps with hl | ⟨b', o, e1, hS, hc⟩
    · exact .inl hl
    · exact .inr ⟨b', o, e1, hS, fun j hj => swap_int hb hb' hk (hc j hj)⟩
  · rcases h.rows with hl | ⟨b', o, e1, hS, hc⟩
    · exact .inl hl
    · refine .inr ⟨b', o, e1, hS, fun j hj => ?_⟩
      obtain ⟨k0, k1, k2, q', d, k3, k4⟩ := hc j hj
      refine ⟨swap_int hb hb' hk k0, swap_int hb hb' hk k1, swap_int hb hb' hk k2, q', d, swap_third hb hb' hk k1 k2 k3, ?_⟩
      rcases k4 with k4 | ⟨b2, o2, e2, hS2, h2⟩
      · exact .inl k4
      · exact .inr ⟨b2, o2, e2, hS2, fun i hi => ⟨swap_int hb hb' hk (h2 i hi).1, swap_int hb hb' hk (h2 i hi).2⟩⟩
/-- Behind a visit: the token that it told, and the old one's box. -/
structure Mv (PW : PwR) (W : World) (R : Nat → Prop) (q : Nat) (c : Cf) (pf : Option Addr) (kf : Nat) (e : Eg) (T : Tk) (ps' : Option Addr) (pt' : Option Addr) (t : Tk) (ps : Option Addr) (cs : Nat) (pt : Option Addr) (d g : Nat) (pc : Option Addr) (kc n : Nat) (rs : List Rq) (u : World) : Prop where
  pw : PW R W.heap.size u q c e
  conf : CBox W.heap.size c pf kf u
  rc : R W.heap.size
  tok : TokIn R u T ps' pt'
  box : TBox g t ps cs pt d u
  rg : R g
  cost : Own rq 42 W.heap.size u (.slice pc n kc) rs
  below : Below W.heap.size W u
  nr : ∀ b, (Value.slice pc n kc).ownBlock = some b → ¬ R b
/-- The token is stored. -/
theorem Mv.store (F : Free PW) {T : Tk} {ps' pt' : Option Addr} {cs' d' : Nat} (h : Mv PW W R q c pf kf e T ps' pt' t ps cs pt d g pc kc n rs u) (h1 : T.gen = t.gen) (h2 : T.hop = t.hop) (h3 : T.table.start = t.table.start) (hB : W.heap.size ≤ g) (hb' : TBox g T ps' cs' pt' d' u') (hk : ∀ b, b ≠ g → u'.heap[b]? = u.heap[b]?) (hz : u.heap.size ≤ u'.heap.size) (hbl : Below W.heap.size W u') : Mw PW W R q c pf kf e T ps' cs' pt' d' g pc kc n rs u' := by
  have hb := h.box
  unfold TBox at hb hb'
  have hb2 := hb'
  rw [h1, h2, h3] at hb2
  have hkp : Kept [30] u u' := ⟨hz, fun b o ho ht => (hk b (by rintro rfl; rw [hb] at ho; exact ht _ _ _ (Option.some.inj ho).symm (by simp))).trans ho⟩
  have hcg : W.heap.size ≠ g := by
    intro e
    have hc := h.conf
    unfold CBox at hc
    rw [e, hb] at hc
    simp at hc
  exact ⟨F.beside h.pw ⟨hz, fun b o ho ht => hkp.obj b o ho fun cs T z k hm => ht cs T z k (by simp only [List.mem_singleton] at hm; subst hm; decide)⟩, (hk _ hcg).trans h.conf, h.rc, h.tok.swap hb hb2 hk, hb', h.rg, Kit.Own.kept h.cost hkp (by decide), hbl, h.nr⟩
/-- A visit, from what stands. -/
theorem mvisit (P : Free PW) {start last sp : Int} {l : List Av} {j : Nat} (h : Mw PW W R q c pf kf e t ps cs pt d g pc kc n rs u) (hck : c.check = 0) (hs0 : 0 ≤ start) (hm : Mk c start last (costOf l) j t.table e sp) (hl : last ≤ 1073741824) (h9 : Nine c t) (hI : Inv c (16 * j) ⟨t, e⟩) (hj : j ≤ 40) {now : Int} (h0 : 0 ≤ now) (h1 : now ≤ 1073741824) (hc : CfNum c) (hr : RatesB W.heap.size W pf c.zs) :
    Calls Tryz.prog 15 #[tokVal t ps cs pt (d + t.table.rows.length), .pointer (some ⟨q, 0, none⟩), .int .i64 0, .int .i64 now, c.val pf kf] u fun x w' => ∃ ps' cs' pt' d' p k R', x = .returned (.tuple #[tokVal (visit c 0 now t e).1 ps' cs' pt' (d' + (visit c 0 now t e).1.table.rows.length), .slice p (visit c 0 now t e).2.2.length k, .int .i64 0]) ∧ Kit.Lies Edge.ans w' p (visit c 0 now t e).2.2 ∧ Mv PW W R' q c pf kf (visit c 0 now t e).2.1 (visit c 0 now t e).1 ps' pt' t ps cs pt d g pc kc n rs w' ∧ (∀ b, R b → HasN u b → b < u.heap.size → w'.heap[b]? = u.heap[b]?) := by
  have hright := nine_right hck hs0 hl hm h9 h0 h1
  have hlen := (check_len hck).2
  obtain ⟨g1, -⟩ := right_ok hright
  rcases hI.mode with hk | ⟨h2, -⟩
  · refine (P.visit 0 now t (16 * j) ps cs pt d pf kf h.pw h.below.size hk (by omega) hright (by simp [Num]) (by unfold Num; omega) hc (by omega) h.tok (hr.on h.below)).mono ?_
    rintro x w' ⟨ps', cs', pt', d', y, R', hx, ⟨p, k, rfl, hls, -⟩, ht, hs, hp, hmv, hnw, hof⟩
    have ho := h.own hmv hof
    refine ⟨ps', cs', pt', d', p, k, R', hx, hls, ⟨hp, ho.conf, hs _ h.rc, ht, ho.box, hs _ h.rg, ho.cost, ho.below, fun b hb hR' => ?_⟩, hmv.keep⟩
    obtain ⟨xs, z, hbk⟩ := own_blk19 h.cost hb
    rcases hnw b hR' with h1 | h1 | h1
    · exact h.nr b hb h1
    · have := lt_of_heap hbk
      omega
    · exact not_plain hbk (by decide) h1
  · rw [g1] at h2
    simp at h2
/-- A request, from what stands. -/
theorem mask (P : Free PW) (h : Mw PW W R q c pf kf e t ps cs pt d g pc kc n rs u) {r : Rq} {now : Int} (hr : Edge.RqNum r) (hnow : Num now) (hg : Edge.Good c e) (hl : Lens e) :
    Calls Tryz.prog 13 #[.pointer (some ⟨q, 0, none⟩), .agg #[.int .i64 r.id, .int .i64 r.key, .int .i64 r.cost, .int .i64 r.cls, .int .i64 r.wait], .int .i64 now] u fun x w' => ∃ p k, x = .returned (.slice p (Edge.ask c e r now).2.length k) ∧ Kit.Lies Edge.ans w' p (Edge.ask c e r now).2 ∧ Mw PW W R q c pf kf (Edge.ask c e r now).1 t ps cs pt d g pc kc n rs w' := by
  refine (P.ask h.pw h.below.size hg hl r hr now hnow).mono ?_
  rintro x w' ⟨y, hx, ⟨p, k, rfl, hls, -⟩, hm, hof⟩
  exact ⟨p, k, hx, hls, h.own hm hof⟩
end
end Go.Proofs.YtbgdlokegibkmaaGreat.Visit

namespace Go.Proofs.YtbgdlokegibkmaaGreat.Visit
open Go.RowKit
open _root_.Go.Proofs.YtbgdlokegibkmaaGreat.Frame (Rw Tb Tk noRow Asked cell_on)
open _root_.Go.Proofs.YtbgdlokegibkmaaGreat.Ledger (RowAt RowsAt findRow)
open _root_.Go.Proofs.YtbgdlokegibkmaaGreat.Codec (Ints lt_of_heap heap_set frozen_of)
open _root_.Go.Proofs.YtbgdlokegibkmaaGreat.Edge (Cf Eg An Rq RatesB CfNum Says HasN Lens e0)
open _root_.Go.Proofs.YtbgdlokegibkmaaGreat.Token (tokVal box5f)
open _root_.Go.Proofs.YtbgdlokegibkmaaGreat.Lease (Num)
open _root_.Go.Proofs.YtbgdlokegibkmaaGreat.Kit (Off Kept Own)
/-- The token, while its stamps are laid. -/
def SBox (g : Nat) (start : Int) (ps : Option Addr) (j cs : Nat) (u : World) : Prop := u.heap[g]? = some (.cells #[.int .i64 9, .int .i64 0, .slice ps j cs, .int .i64 start, .slice none 0 0] 30 (0, 0))
theorem SBox.on {g : Nat} {start : Int} {ps : Option Addr} {j cs : Nat} {u u' : World} (h : SBox g start ps j cs u) (hb : Below u.heap.size u u') : SBox g start ps j cs u' := (hb.block _ (lt_of_heap h)).trans h
theorem SBox.kept {g : Nat} {start : Int} {ps : Option Addr} {j cs : Nat} {u u' : World} (h : SBox g start ps j cs u) (hk : Kept [3] u u') : SBox g start ps j cs u' := hk.block _ _ _ _ h (by decide)
theorem SBox.set {g : Nat} {start : Int} {ps : Option Addr} {j cs : Nat} {u : World} (h : SBox g start ps j cs u) (ps' : Option Addr) (j' cs' : Nat) : SBox g start ps' j' cs' (u.setCell ⟨g, 2, none⟩ (.slice ps' j' cs')) := heap_set g 2 _ _ h
theorem own_other {α : Type} {E : Kit.Enc α} {T : TypeId} {B : Nat} {w : World} {v : Value} {l : List α} {g o : Nat} {cs : Array Value} {T' : TypeId} {z : Nat × Nat} (h : Own E T B w v l) (hg : w.heap[g]? = some (.cells cs T' z)) (hT : T' ≠ T) (y : Value) : Own E T B (w.setCell ⟨g, o, none⟩ y) v l := by
  refine ⟨h.1, ?_⟩
  rcases h.2 with h0 | ⟨b, cap, cur, rfl, h1, h2, h3⟩
  · exact .inl h0
  · refine .inr ⟨b, cap, cur, rfl, h1, (Below.heap_setCell _ _ _ _ ?_).trans h2, h3⟩
    rintro rfl
    rw [h2] at hg
    simp only [Option.some.injEq, Obj.cells.injEq] at hg
    exact hT hg.2.1.symm
theorem wrap_add (x y : Int) : IntKind.i64.wrap (IntKind.i64.wrap x + y) = IntKind.i64.wrap (x + y) := by
  have h : ∀ n : Int, IntKind.i64.wrap n = if 9223372036854775808 ≤ n % 18446744073709551616 then n % 18446744073709551616 - 18446744073709551616 else n % 18446744073709551616 := by
    intro n
    simp [IntKind.wrap, show IntKind.i64.signed = true from rfl, show IntKind.i64.bits = 64 from rfl]
  rw [h, h, h]
  split <;> split <;> split <;> omega
theorem gsum_succ {cost : Int → Int} {L : List An} {i : Nat} (h : i < L.length) : gsum cost (L.take (i + 1)) = gsum cost (L.take i) + (if (L.getD i Edge.ans.z).why = 0 then cost (L.getD i Edge.ans.z).id else 0) := by
  rw [List.take_succ_eq_append_getElem h, gsum_append]
  simp [gsum, List.getD, h]
theorem sums_sp {c : Cf} {start last sp : Int} {F : Rw} {L : List Lease.Lz} (h : Sums c start last sp F L) : 0 ≤ sp ∧ sp ≤ 2305843009213693952 := by
  obtain ⟨-, -, h3, -⟩ := h.num
  have h4 := h.R1
  have h5 := h.sp0
  rcases h.row with ⟨-, -, h6⟩ | ⟨x, -, -, -, h7, h8, -, h6⟩
  · omega
  · omega
/-- The token that mints since start. -/
def tok9 (start : Int) (n : Nat) : Tk := ⟨9, 0, List.replicate n (-1), ⟨start, []⟩⟩
theorem mi_first {c : Cf} {start : Int} {l : List Av} (hck : c.check = 0) (hq : 0 ≤ c.qu) (hn : 1 ≤ c.n ∧ c.n ≤ 64) (hs0 : 0 ≤ start) (hs1 : start ≤ 1073741824) : Mi c start start l 0 ⟨tok9 start c.n.toNat, e0⟩ 0 := by
  have hc := rate1 hck
  have hf : findRow ⟨start, []⟩ 0 = ⟨0, 0, start, []⟩ := by simp [findRow, Ledger.place, Ledger.spot]
  have hto : Frame.tableOk ⟨start, []⟩ = true := by
    simp [Frame.tableOk, Frame.isIn, Frame.allTo]; omega
  have hm : Mk c start start (costOf l) 0 ⟨start, []⟩ e0 0 := by
    refine ⟨Ledger.rise_first hto, Edge.good_e0 hq, rfl, .inl rfl, ?_, ?_, ?_, .inl ⟨rfl, ?_, ?_⟩, fun x hx => by simp [e0] at hx, fun x hx => by simp [e0] at hx, by omega⟩
    · rw [hf]; simp only [Ledger.outs]; have := hc.B0; omega
    · rw [hf]; simp only; omega
    · rw [hf]; simp only; omega
    · rw [hf]
    · rw [hf]; simp
  have h9 : Nine c (tok9 start c.n.toNat) := ⟨rfl, rfl, by simp [tok9]; omega, fun x hx => by
    have := List.eq_of_mem_replicate (show x ∈ List.replicate c.n.toNat (-1 : Int) from hx)
    omega⟩
  exact ⟨hm, h9, inv_first hq ⟨by simp [tok9]; omega, by simp [tok9], fun r hr => by simp [tok9] at hr⟩ _, hs1⟩
/-- What stands at a round's head, with what is counted. -/
def Hm (PW : PwR) (W : World) (q : Nat) (c : Cf) (pf : Option Addr) (kf g : Nat) (start : Int) (l : List Av) (j : Nat) (sp la co : Value) (u : World) : Prop :=
  ∃ R e t ps cs pt d pc kc s last, sp = .int .i64 s ∧ la = .int .i64 last ∧ co = .slice pc j kc ∧ Mw PW W R q c pf kf e t ps cs pt d g pc kc j (reqs l j) u ∧ Mi c start last l j ⟨t, e⟩ s
theorem hm_first {PW : PwR} {W : World} {q : Nat} {c : Cf} {pf : Option Addr} {kf : Nat} {start : Int} {l : List Av} {u2 u : World} {k : Nat} {ps : Option Addr} {cs : Nat} (F : FrameR PW) (hp : PW (fun g => g < k) W.heap.size u2 q c e0) (hk : W.heap.size < k) (hX : CBox W.heap.size c pf kf u2) (hT : SBox u2.heap.size start ps c.n.toNat cs u) (hO : Own it1 3 u2.heap.size u (.slice ps c.n.toNat cs) (List.replicate c.n.toNat (-1))) (hB : Below u2.heap.size u2 u) (hW : Below W.heap.size W u2) (hi : Mi c start start l 0 ⟨tok9 start c.n.toNat, e0⟩ 0) :
    Hm PW W q c pf kf u2.heap.size start l 0 (.int .i64 0) (.int .i64 start) (.slice none 0 0) u := by
  refine ⟨_, e0, tok9 start c.n.toNat, ps, cs, none, 0, none, 0, 0, start, rfl, rfl, rfl, ⟨F.grow hp hB, hX.on hB, .inl hk, ⟨?_, .inl rfl⟩, ?_, .inr ⟨Nat.le_refl _, lt_of_heap hT⟩, Kit.Own.none _ _ _ _, hW.trans (hB.mono hW.size), fun b hb => by simp [Value.ownBlock] at hb⟩, hi⟩
  · obtain ⟨p, k', e, hl⟩ := hO.lies
    simp only [Value.slice.injEq] at e
    obtain ⟨rfl, -, -⟩ := e
    rcases hl with hl | ⟨b, o, rfl, hc⟩
    · exact .inl hl
    · rcases hO.2 with ⟨e, -⟩ | ⟨g', cap, cur, e, g1, g2, -⟩
      · simp at e
      · simp only [Value.slice.injEq, Option.some.injEq, Addr.mk.injEq] at e
        obtain ⟨⟨rfl, -, -⟩, -, -⟩ := e
        refine .inr ⟨b, o, rfl, .inr ⟨g1, lt_of_heap g2⟩, fun j hj => ?_⟩
        have := hc j hj 0 _ rfl
        simpa [it1, tok9] using this
  · have := hT
    unfold SBox at this
    unfold TBox tok9
    simpa using this
theorem AvAt.below' {W u : World} {b o : Nat} {a : Av} (h : AvAt W b o a) (hb : Below W.heap.size W u) : AvAt u b o a :=
  ⟨cell_on h.k0 hb, cell_on h.k1 hb, cell_on h.k2 hb, cell_on h.k3 hb, cell_on h.k4 hb, cell_on h.k5 hb, cell_on h.k6 hb, cell_on h.k7 hb⟩
set_option maxRecDepth 100000 in
set_option maxHeartbeats 8000000 in
theorem makes_few {PW : PwR} (P : Way18 PW) (FR : Free PW) (W : World) (c : Cf) (pf : Option Addr) (kf : Nat) (start : Int) (pa : Option Addr) (ka : Nat) (l : List Av) (hl : l.length ≤ 40) (ha : AvsAt W pa l) (hav : ∀ a ∈ l, AvNum a) (hz : c.zs.length ≤ 40) (hr : RatesB W.heap.size W pf c.zs) (hc : CfNum c) (hck : c.check = 0) (hq : 0 ≤ c.qu ∧ c.qu ≤ 16) (hn : 1 ≤ c.n ∧ c.n ≤ 64) (hs0 : 0 ≤ start) (hs1 : start ≤ 1073741824)
    (HF : ∀ u, Below W.heap.size W u → Calls Tryz.prog 6 #[tokVal ⟨0, 0, [], ⟨0, []⟩⟩ none 0 none 0, c.val pf kf, .slice pa l.length ka] u (Asked u true)) :
    Calls Tryz.prog 4 #[c.val pf kf, .int .i64 start, .slice pa l.length ka] W fun e w' => e = .returned (.bool true) ∧ Below W.heap.size W w' := by
  have HB := Lib.hid (lay W (.cells #[.int .i64 c.n, .int .i64 c.sk, .int .i64 c.tl, .int .i64 c.va, .int .i64 c.lo, .int .i64 c.he, .int .i64 c.ke, .int .i64 c.qu, .slice pf c.zs.length kf] 24))
  have HX := Lib.hid (show CBox W.heap.size c pf kf _ from heap_alloc_new W (.cells #[.int .i64 c.n, .int .i64 c.sk, .int .i64 c.tl, .int .i64 c.va, .int .i64 c.lo, .int .i64 c.he, .int .i64 c.ke, .int .i64 c.qu, .slice pf c.zs.length kf] 24))
  have hsz : (W.alloc (.cells #[.int .i64 c.n, .int .i64 c.sk, .int .i64 c.tl, .int .i64 c.va, .int .i64 c.lo, .int .i64 c.he, .int .i64 c.ke, .int .i64 c.qu, .slice pf c.zs.length kf] 24)).heap.size = W.heap.size + 1 := by simp
  obtain ⟨x0, x1, x2, x3, x4, x5, x6, x7, x8⟩ := box9 HX.out
  have HP := Lib.hid P
  have HFR := Lib.hid FR
  have HN := Lib.hid (fun u (hu : Below W.heap.size W u) => P.new W.heap.size c pf kf u hu.size (hr.on hu) (by omega) hc hck)
  have HAV := Lib.hid hav
  have HA := Lib.hid ha
  have HR := Lib.hid hr
  have HFF := Lib.hid HF
  have HAA := Lib.hid (fun u => alive_any P u)
  have h1 : ¬ start < 0 := by omega
  have h2 : ¬ (1073741824 : Int) < start := by omega
  clear P FR hr hav ha HF
  simp only [Cf.val, tokVal, List.length_nil] at HFF HN ⊢
  go_enter Tryz.func4, Tryz.ntmps4
  go_upto_region 1 with (fail)
  generalize (W.alloc (.cells #[.int .i64 c.n, .int .i64 c.sk, .int .i64 c.tl, .int .i64 c.va, .int .i64 c.lo, .int .i64 c.he, .int .i64 c.ke, .int .i64 c.qu, .slice pf c.zs.length kf] 24)) = W0 at *
  go_upto_region 5 with (first
    | (go_at_call 6; (with_reducible refine (HFF.out _ HB.out).mono ?_); rintro x u1 ⟨rfl, hb⟩; have HB1 := Lib.hid (HB.out.trans (hb.mono HB.out.size)); have HX1 := Lib.hid (HX.out.on hb); have hz1 := hb.size; clear x0 x1 x2 x3 x4 x5 x6 x7 x8; obtain ⟨x0, x1, x2, x3, x4, x5, x6, x7, x8⟩ := box9 HX1.out; clear hb HFF)
    | (go_at_call 8; (with_reducible refine (HN.out _ HB1.out).mono ?_); rintro x u2 ⟨q, rfl, hp, hb⟩; have HB2 := Lib.hid (HB1.out.trans (hb.mono HB1.out.size)); have HX2 := Lib.hid (HX1.out.on hb); have HP2 := Lib.hid hp; have hz2 := hb.size; clear x0 x1 x2 x3 x4 x5 x6 x7 x8; clear hb hp HN))
  go_upto_region 7 with (fail)
  have HT0 := Lib.hid (show SBox u2.heap.size start none 0 0 _ from heap_alloc_new u2 (.cells #[.int .i64 9, .int .i64 0, .slice none 0 0, .int .i64 start, .slice none 0 0] 30))
  have HS0 := Lib.hid (lay u2 (.cells #[.int .i64 9, .int .i64 0, .slice none 0 0, .int .i64 start, .slice none 0 0] 30))
  generalize u2.alloc (.cells #[.int .i64 9, .int .i64 0, .slice none 0 0, .int .i64 start, .slice none 0 0] 30) = u3 at *
  go_loopw [11] (fun i wr => ∃ (j : Nat) (ps : Option Addr) (cs : Nat), (j : Int) ≤ c.n ∧ i = .int .i64 (j : Int) ∧ Hid (SBox u2.heap.size start ps j cs wr) ∧ Hid (Own it1 3 u2.heap.size wr (.slice ps j cs) (List.replicate j (-1))) ∧ Hid (Below u2.heap.size u2 wr)) (fun i _ => c.n.toNat - (intOf i).toNat)
  case atStart => exact ⟨0, none, 0, by omega, rfl, HT0, Lib.hid (Own.none _ _ _ _), HS0⟩
  case round =>
    obtain ⟨j, ps, cs, hj, rfl, hT, hO, hB⟩ := hrel
    obtain ⟨x0, x1, x2, x3, x4, x5, x6, x7, x8⟩ := box9 (HX2.out.on hB.out)
    by_cases hlt : (j : Int) < c.n
    · obtain ⟨t0, t1, t2, t3, t4, tt⟩ := box5f hT.out
      have HLY := Lib.hid (lay wr (.cells #[.int .i64 (-1)] 3))
      have HNW := Lib.hid (heap_alloc_new wr (.cells #[.int .i64 (-1)] 3))
      have HL := Lib.hid (show (List.replicate j (-1 : Int)).length = j by simp)
      have HRS := Lib.hid (show List.replicate (j + 1) (-1 : Int) = List.replicate j (-1) ++ [-1] from List.replicate_succ')
      generalize List.replicate j (-1 : Int) = LS at *
      go_wp2_with (at_builtin; refine push_kept laidI1 rfl _ _ rfl u2.heap.size (.slice ps j cs) rfl LS j HL.out (Kit.Own.on hO.out HLY.out) (Nat.le_trans hB.out.size HLY.out.size) wr.heap.size (-1) rfl HNW.out (by omega) ?_; intro p4 c4 w4 R4 K4 B4 _ _; have HT4 := Lib.hid ((hT.out.on HLY.out).kept K4.out); have HB4 := Lib.hid (hB.out.trans ((HLY.out.mono hB.out.size).trans B4.out)); obtain ⟨s0, s1, s2, s3, s4, ss⟩ := box5f HT4.out)
      go_roundw
      case rel =>
        refine ⟨j + 1, p4, c4, by omega, by go_num, Lib.hid (HT4.out.set p4 (j + 1) c4), ?_, Lib.hid (HB4.out.setCell (Nat.le_refl _) _)⟩
        rw [HRS.out]
        exact Lib.hid (own_other R4.out HT4.out (by decide) _)
      case measure => simp only [intOf]; omega
    · have hjn : j = c.n.toNat := by omega
      subst hjn
      have hi := mi_first (l := l) hck hq.1 hn hs0 hs1
      have HH0 := Lib.hid (hm_first HP.out.fr HP2.out (by omega) HX2.out hT.out hO.out hB.out HB2.out hi)
      have hgW := HB2.out.size
      clear HP2 HX HX1 HX2 HB HB1 HB2 HT0 HS0 hT hO hB hi hz1 hz2 hsz x1 x2 x3 x4 x5 x6 x7 x8
      generalize u2.heap.size = g at *
      go_upto_region 14 with (fail)
      clear x0
      go_loopw [9, 12, 13, 14, 15] (fun f sp la co i wr => ∃ (j : Nat), j ≤ l.length ∧ i = .int .i64 (j : Int) ∧ f = .int .i64 0 ∧ Hid (Hm PW W q c pf kf g start l j sp la co wr)) (fun _ _ _ _ i _ => l.length - (intOf i).toNat)
      case atStart => exact ⟨0, by omega, rfl, rfl, HH0⟩
      case round =>
        obtain ⟨j, hj, rfl, rfl, hH⟩ := hrel
        clear HH0
        by_cases hlt : j < l.length
        · have hlt' : (j : Int) < (l.length : Int) := by omega
          obtain ⟨R, e, t, ps, cs, pt, d, pc, kc, sp, last, rfl, rfl, rfl, hM, hI⟩ := hH.out
          obtain ⟨bl, ol, rfl, hac⟩ : ∃ b o, pa = some ⟨b, o, none⟩ ∧ AvAt W b (o + j * 8) (l.getD j zv) := by
            rcases HA.out with h0 | ⟨b, o, e1, hc⟩
            · rw [h0] at hlt; simp at hlt
            · exact ⟨b, o, e1, hc j hlt⟩
          have hna := HAV.out (l.getD j zv) (by simp [List.getD, hlt])
          have hstep := fun h0 h1 => mi_step hck hs0 hI hlt hl hna h0 h1
          have HRQ := Lib.hid (reqs_succ l j)
          have HRL := Lib.hid (reqs_len l j)
          have HRA := Lib.hid (fun i (hi : i < j + 1) => (reqs_at l hi).trans rfl)
          have hst := Lib.hid hstep
          have HM := Lib.hid hM
          have HI := Lib.hid hI
          obtain ⟨k0, k1, k2, k3, k4, k5, k6, k7⟩ := hac.below' hM.below
          clear hac hM hI hH hstep
          generalize hA : l.getD j zv = a at *
          go_upto_region 17 with (fail)
          have hla := lay wr (.cells #[.bool a.visit, .bool a.crash, .int .i64 a.r.id, .int .i64 a.r.key, .int .i64 a.r.cost, .int .i64 a.r.cls, .int .i64 a.r.wait, .int .i64 a.now] 44)
          have hab : ActBox (wr.alloc (.cells #[.bool a.visit, .bool a.crash, .int .i64 a.r.id, .int .i64 a.r.key, .int .i64 a.r.cost, .int .i64 a.r.cls, .int .i64 a.r.wait, .int .i64 a.now] 44)) wr.heap.size a := heap_alloc_new wr (.cells #[.bool a.visit, .bool a.crash, .int .i64 a.r.id, .int .i64 a.r.key, .int .i64 a.r.cost, .int .i64 a.r.cls, .int .i64 a.r.wait, .int .i64 a.now] 44)
          have HLA := Lib.hid hla
          have HAB := Lib.hid hab
          have HM1 := Lib.hid (HM.out.on HP.out.fr hla)
          clear hla hab k0 k1 k2 k3 k4 k5 k6 k7
          have ff : ∀ o, (wr.alloc (.cells #[.bool a.visit, .bool a.crash, .int .i64 a.r.id, .int .i64 a.r.key, .int .i64 a.r.cost, .int .i64 a.r.cls, .int .i64 a.r.wait, .int .i64 a.now] 44)).frozen? ⟨wr.heap.size, o, none⟩ = false := fun o => frozen_of HAB.out
          generalize wr.alloc (.cells #[.bool a.visit, .bool a.crash, .int .i64 a.r.id, .int .i64 a.r.key, .int .i64 a.r.cost, .int .i64 a.r.cls, .int .i64 a.r.wait, .int .i64 a.now] 44) = VA at *
          generalize hga : wr.heap.size = ga at *
          obtain ⟨m0, m1, m2, m3, m4, m5, m6, m7⟩ := HAB.out.cells
          simp only [Nat.zero_add] at m1 m2 m3 m4 m5 m6 m7
          by_cases hn0 : a.now < 0
          · go_wp2_with (go_at_call 7; (with_reducible refine (HAA.out _).mono ?_); rintro x v5 ⟨rfl, hb⟩; have HB5 := Lib.hid (HM1.out.below.trans (hb.mono HM1.out.below.size)); clear hb)
            go_ret
            exact ⟨rfl, HB5.out⟩
          by_cases hn1 : 1073741824 < a.now
          · go_wp2_with (go_at_call 7; (with_reducible refine (HAA.out _).mono ?_); rintro x v5 ⟨rfl, hb⟩; have HB5 := Lib.hid (HM1.out.below.trans (hb.mono HM1.out.below.size)); clear hb)
            go_ret
            exact ⟨rfl, HB5.out⟩
          have hnx := hst.out (by omega) (by omega)
          have f3 := ff 3
          have f2 := ff 2
          go_upto_region 21 with (fail)
          have hbu := ((HLA.out.setCell (p := ⟨ga, 3, none⟩) (Nat.le_refl _) (.int .i64 0)).setCell (p := ⟨ga, 2, none⟩) (Nat.le_refl _) (.int .i64 (j : Int)))
          have hact : ActBox ((VA.setCell ⟨ga, 3, none⟩ (.int .i64 0)).setCell ⟨ga, 2, none⟩ (.int .i64 (j : Int))) ga ⟨a.visit, a.crash, named a j, a.now⟩ := heap_set ga 2 _ _ (heap_set ga 3 _ _ HAB.out)
          have hrg : wr.heap.size ≤ ga ∧ ga < ((VA.setCell ⟨ga, 3, none⟩ (.int .i64 0)).setCell ⟨ga, 2, none⟩ (.int .i64 (j : Int))).heap.size := ⟨by omega, lt_of_heap hact⟩
          rw [← hga] at hbu
          have HM2 := Lib.hid (HM.out.grow HP.out.fr hbu)
          rw [hga] at HM2
          have HRG := Lib.hid (show (fun b => R b ∨ ga ≤ b ∧ b < ((VA.setCell ⟨ga, 3, none⟩ (.int .i64 0)).setCell ⟨ga, 2, none⟩ (.int .i64 (j : Int))).heap.size) ga from .inr ⟨Nat.le_refl _, hrg.2⟩)
          have HAC := Lib.hid hact
          clear hbu hact hrg HM1 HM HLA HAB ff f2 f3 m0 m1 m2 m3 m4 m5 m6 m7 hga
          generalize (fun b => R b ∨ ga ≤ b ∧ b < ((VA.setCell ⟨ga, 3, none⟩ (.int .i64 0)).setCell ⟨ga, 2, none⟩ (.int .i64 (j : Int))).heap.size) = R2 at *
          generalize (VA.setCell ⟨ga, 3, none⟩ (.int .i64 0)).setCell ⟨ga, 2, none⟩ (.int .i64 (j : Int)) = vb at *
          obtain ⟨m0, m1, m2, m3, m4, m5, m6, m7⟩ := HAC.out.cells
          simp only [Nat.zero_add, named] at m1 m2 m3 m4 m5 m6 m7
          have HLB := Lib.hid (lay vb (.cells #[.int .i64 (j : Int), .int .i64 0, .int .i64 a.r.cost, .int .i64 a.r.cls, .int .i64 a.r.wait] 42))
          have HNB := Lib.hid (heap_alloc_new vb (.cells #[.int .i64 (j : Int), .int .i64 0, .int .i64 a.r.cost, .int .i64 a.r.cls, .int .i64 a.r.wait] 42))
          have HM3 := Lib.hid (HM2.out.on HP.out.fr HLB.out)
          have HAD := Lib.hid ((HLB.out.block _ (lt_of_heap HAC.out)).trans HAC.out)
          go_upto_region 23 with (at_builtin; refine push_kept laidQ rfl _ _ rfl W.heap.size (.slice pc j kc) rfl (reqs l j) j HRL.out HM3.out.cost HM3.out.below.size vb.heap.size (named a j) rfl HNB.out (by omega) ?_; intro p4 c4 w4 R4 K4 B4 O4 W4; have HM4 := Lib.hid (HM3.out.push HFR.out HP.out.fr R4.out K4.out B4.out O4.out W4.out); have HA4 := Lib.hid (show ActBox w4 ga ⟨a.visit, a.crash, named a j, a.now⟩ from K4.out.block _ _ _ _ HAD.out (by decide)))
          rw [← HRQ.out] at HM4
          clear R4 K4 B4 O4 W4 HM2 HM3 HLB HNB HAD HAC m0 m1 m2 m3 m4 m5 m6 m7 HRQ
          obtain ⟨m0, m1, m2, m3, m4, m5, m6, m7⟩ := HA4.out.cells
          simp only [Nat.zero_add, named] at m1 m2 m3 m4 m5 m6 m7
          have hgd := HI.out.inv.good
          have hln := HI.out.inv.lens hq.2 (by omega)
          simp only at hgd hln
          have HV := Lib.hid (mvisit HFR.out HM4.out hck hs0 HI.out.mk' HI.out.hi HI.out.nine HI.out.inv (by omega) (show 0 ≤ a.now by omega) (by omega) hc HR.out)
          have HAK := Lib.hid (mask HFR.out HM4.out (named_num hna (show j ≤ 40 by omega)) hna.2 hgd ⟨by omega, hln.2.1, hln.2.2⟩)
          have HSM := Lib.hid (visit_same c 0 a.now t e)
          have hHN : HasN w4 ga := ⟨_, _, _, m2⟩
          have HX4 := Lib.hid HM4.out.conf
          have HT4 := Lib.hid HM4.out.box
          obtain ⟨b0, b1, b2, b3, b4, -⟩ := box5f HT4.out
          obtain ⟨x0, x1, x2, x3, x4, x5, x6, x7, x8⟩ := box9 HX4.out
          cases hvi : a.visit with
          | true =>
            rw [hvi] at m0
            have hnx2 : Mi c start (max last a.now) l (j + 1) ⟨(visit c 0 a.now t e).1, (visit c 0 a.now t e).2.1⟩ (sp + gsum (costOf l) (visit c 0 a.now t e).2.2) ∧ Told ((j : Int) + 1) (visit c 0 a.now t e).2.2 := by
              have := hnx
              unfold makeOf lastOf at this
              rw [hvi] at this
              exact this
            have hspb := sums_sp (mk_sums (rate1 hck) hs0 HI.out.hi HI.out.mk')
            have hvf := visited_few hq.2 (check_ke hck).2 (show 16 * j ≤ 660 by omega) HI.out.inv hna.2
            rw [show visited c ⟨t, e⟩ a.now = _ from if_pos (nine_right hck hs0 HI.out.hi HI.out.mk' HI.out.nine (show 0 ≤ a.now by omega) (by omega))] at hvf
            simp only at hvf
            clear hnx hst HAK HI hgd hln
            generalize visit c 0 a.now t e = V at *
            simp only [tokVal, Cf.val] at HV
            go_upto_region 25 with (go_at_call 15; (with_reducible refine HV.out.mono ?_); rintro x u7 ⟨ps2, cs2, pt2, d2, p7, k7, R7, rfl, hls, hmv, hkp⟩; have HL7 := Lib.hid hls; have HM7 := Lib.hid hmv; have HK7 := Lib.hid hkp; obtain ⟨y0, y1, y2, y3, y4, gg⟩ := box5f HM7.out.box; have f0 := gg 0; have f1 := gg 1; have f2 := gg 2; have f3 := gg 3; have f4 := gg 4; clear hls hmv hkp gg HV)
            have hfk : ∀ b, b ≠ g → _ := fun b hb => heap_five (u := u7) (g := g) (b := b) hb (.int .i64 V.1.gen) (.int .i64 V.1.hop) (.slice ps2 V.1.stamps.length cs2) (.int .i64 V.1.table.start) (.slice pt2 V.1.table.rows.length (d2 + V.1.table.rows.length))
            have hfb := five_below (u := u7) (g := g) (C := W.heap.size) (by have := hgW; omega) (.int .i64 V.1.gen) (.int .i64 V.1.hop) (.slice ps2 V.1.stamps.length cs2) (.int .i64 V.1.table.start) (.slice pt2 V.1.table.rows.length (d2 + V.1.table.rows.length))
            have hbx := five_box HM7.out.box (.int .i64 V.1.gen) (.int .i64 V.1.hop) (.slice ps2 V.1.stamps.length cs2) (.int .i64 V.1.table.start) (.slice pt2 V.1.table.rows.length (d2 + V.1.table.rows.length))
            have hne : ga ≠ g := by
              rintro rfl
              have h1 := HA4.out
              have h2 := HT4.out
              unfold ActBox at h1
              unfold TBox at h2
              rw [h1] at h2
              simp at h2
            have HM8 := Lib.hid (HM7.out.store HFR.out HSM.out.1 HSM.out.2.1 HSM.out.2.2 (by have := hgW; omega) hbx hfk (by simp) (HM7.out.below.trans hfb))
            have HA8 := Lib.hid (((hfk ga hne).trans (HK7.out ga HRG.out hHN (lt_of_heap HA4.out))).trans HA4.out)
            have HL8 := Lib.hid (lies_swap (fun hx => swap_int HM7.out.box (by rw [← HSM.out.1, ← HSM.out.2.1, ← HSM.out.2.2]; exact hbx) hfk hx) HL7.out)
            clear hfk hfb hbx HM7 HK7 HL7
            generalize (((((u7.setCell ⟨g, 0, none⟩ (.int .i64 V.1.gen)).setCell ⟨g, 1, none⟩ (.int .i64 V.1.hop)).setCell ⟨g, 2, none⟩ (.slice ps2 V.1.stamps.length cs2)).setCell ⟨g, 3, none⟩ (.int .i64 V.1.table.start)).setCell ⟨g, 4, none⟩ (.slice pt2 V.1.table.rows.length (d2 + V.1.table.rows.length))) = u8 at *
            obtain ⟨m0, m1, m2, m3, m4, m5, m6, m7⟩ := ActBox.cells (a := ⟨a.visit, a.crash, named a j, a.now⟩) HA8.out
            simp only [Nat.zero_add] at m1 m2 m3 m4 m5 m6 m7
            go_upto_region 27 with (fail)
            obtain ⟨T2, E2, L2⟩ := V
            simp only at HM8 HL8 hnx2 hvf
            generalize max last a.now = last2 at *
            have hsu := mk_sums (rate1 hck) hs0 hnx2.1.hi hnx2.1.mk'
            have hsb := sums_sp hsu
            have HSP := Lib.hid hspb
            have HNX := Lib.hid hnx2
            have HSU := Lib.hid hsu
            clear hsu hnx2 hspb
            go_upto_region 30 with (fail)
            have hw0 : IntKind.i64.wrap (sp + gsum (costOf l) (L2.take 0)) = sp := by
              rw [List.take_zero]
              exact (IntWalk.i64_in _ (by simp only [gsum]; have := HSP.out; omega)).trans (by simp [gsum])
            go_loopw [12, 18] (fun s k wr => ∃ i : Nat, i ≤ L2.length ∧ k = .int .i64 (i : Int) ∧ s = .int .i64 (IntKind.i64.wrap (sp + gsum (costOf l) (L2.take i))) ∧ Hid (Mw PW W R7 q c pf kf E2 T2 ps2 cs2 pt2 d2 g p4 c4 (j + 1) (reqs l (j + 1)) wr) ∧ Hid (Kit.Lies Edge.ans wr p7 L2)) (fun _ k _ => L2.length - (intOf k).toNat)
            case atStart => exact ⟨0, by omega, rfl, by rw [hw0], HM8, HL8⟩
            case round =>
              obtain ⟨i, hi, rfl, rfl, hMw, hLw⟩ := hrel
              by_cases hil : i < L2.length
              · have hil' : (i : Int) < (L2.length : Int) := by omega
                have wi : IntKind.i64.wrap ((i : Int) + 1) = (i : Int) + 1 := IntWalk.i64_in _ (by omega)
                have htl := HNX.out.2 (L2.getD i Edge.ans.z) (by simp [List.getD, hil])
                have HG1 := Lib.hid (gsum_succ (cost := costOf l) hil)
                obtain ⟨bo, oo, rfl, hat⟩ := Kit.lies_at hLw.out hil
                have a0 := hat 0 _ rfl
                have a2 := hat 2 _ rfl
                have hbo : Edge.ans.n = 3 := rfl
                rw [hbo, Nat.add_zero] at a0
                rw [hbo] at a2
                clear hat
                generalize L2.getD i Edge.ans.z = y at *
                obtain ⟨yi, yg, yw⟩ := y
                simp only at a0 a2 htl
                by_cases hy : yw = 0
                · subst hy
                  obtain ⟨m, rfl⟩ := Int.eq_ofNat_of_zero_le (htl rfl).1
                  have hmj : m < j + 1 := by have := (htl rfl).2; omega
                  have hmj' : (m : Int) < ((j + 1 : Nat) : Int) := by omega
                  obtain ⟨pq, kq, e1, hlq⟩ := hMw.out.cost.lies
                  have hlq := hlq
                  simp only [Value.slice.injEq] at e1
                  obtain ⟨rfl, -, -⟩ := e1
                  obtain ⟨bq, oq, rfl, haq⟩ := Kit.lies_at hlq (show m < (reqs l (j + 1)).length by rw [reqs_len]; exact hmj)
                  have q2 := haq 2 _ rfl
                  have hrn : rq.n = 5 := rfl
                  have hcm : ((reqs l (j + 1)).getD m rq.z).cost = costOf l (m : Int) := by
                    rw [show rq.z = Edge.zr from rfl, reqs_at l hmj]
                    simp [named, costOf]
                  rw [hrn] at q2
                  simp only [hcm] at q2
                  clear haq hlq hcm
                  simp only [if_true] at HG1
                  go_wp2
                  go_roundw
                  case rel => exact ⟨i + 1, by omega, by go_num, by rw [HG1.out, ← Int.add_assoc, ← wrap_add (sp + gsum (costOf l) (L2.take i)), IntWalk.i64_left, IntWalk.i64_left], hMw, hLw⟩
                  case measure => simp only [intOf]; omega
                · simp only [if_neg hy, Int.add_zero] at HG1
                  have hy' : (yw == 0) = false := by simpa using hy
                  go_wp2
                  go_roundw
                  case rel => exact ⟨i + 1, by omega, by go_num, by rw [HG1.out], hMw, hLw⟩
                  case measure => simp only [intOf]; omega
              · have hil' : ¬ (i : Int) < (L2.length : Int) := by omega
                obtain rfl : i = L2.length := by omega
                have hs2 : IntKind.i64.wrap (sp + gsum (costOf l) (L2.take L2.length)) = sp + gsum (costOf l) L2 := by
                  rw [List.take_length]
                  exact IntWalk.i64_in _ (by have := sums_sp HSU.out; omega)
                have hNX := HNX.out.1
                have hgd2 := hNX.inv.good
                have hln2 := hNX.inv.lens hq.2 (by omega)
                simp only at hgd2 hln2
                have hL1 : E2.L.length ≤ 1 := by
                  rcases hNX.mk'.same with ⟨k, -⟩ | ⟨x, k, -⟩
                  · rw [k]; simp
                  · rw [k]; simp
                have hll := hNX.hi
                have hls := hNX.mk'.lo
                have hlh := hNX.mk'.hi
                have hwl : IntKind.i64.wrap (last2 - start) = last2 - start := IntWalk.i64_in _ (by omega)
                have HKE := Lib.hid (kept_any HP.out ps2 cs2 pt2 d2 pf kf hMw.out.pw hgd2 ⟨by omega, hln2.2.1, hln2.2.2⟩ hL1 (rowsin_rest hMw.out.tok.rows) (rates_on HR.out hMw.out.below.size hMw.out.below) (rate1 hck).some (by have := hNX.inv.few.rows; simp only at this; omega) HSU.out)
                generalize IntKind.i64.wrap (sp + gsum (costOf l) (L2.take L2.length)) = s2 at *
                subst hs2
                simp only [tokVal, Cf.val] at HKE
                obtain ⟨b0, b1, b2, b3, b4, -⟩ := box5f hMw.out.box
                obtain ⟨x0, x1, x2, x3, x4, x5, x6, x7, x8⟩ := box9 hMw.out.conf
                go_wp2_with (go_at_call 20; (with_reducible refine HKE.out.mono ?_); rintro x u9 ⟨rfl, hb⟩; have HM9 := Lib.hid (hMw.out.on HP.out.fr hb); clear hb)
                go_roundw
                case rel => exact ⟨j + 1, by omega, by go_num, rfl, Lib.hid ⟨R7, E2, T2, ps2, cs2, pt2, d2, p4, c4, _, last2, rfl, rfl, rfl, HM9.out, hNX⟩⟩
                case measure => simp only [intOf]; omega
          | false =>
            rw [hvi] at m0
            have hnx2 : Mi c start last l (j + 1) ⟨t, (Edge.ask c e (named a j) a.now).1⟩ (sp + gsum (costOf l) (Edge.ask c e (named a j) a.now).2) ∧ Told ((j : Int) + 1) (Edge.ask c e (named a j) a.now).2 := by
              have := hnx
              unfold makeOf lastOf at this
              rw [hvi] at this
              exact this
            have hspb := sums_sp (mk_sums (rate1 hck) hs0 HI.out.hi HI.out.mk')
            have hvf : (Edge.ask c e (named a j) a.now).2.length ≤ 20000 := by have := ask_one c e (named a j) a.now; omega
            clear hnx hst HV HSM HI hgd hln
            generalize Edge.ask c e (named a j) a.now = AK at *
            simp only [named] at HAK
            go_upto_region 27 with (go_at_call 13; (with_reducible refine HAK.out.mono ?_); rintro x u8 ⟨p7, k7, rfl, hls, hmw⟩; have HL8 := Lib.hid hls; have HM8 := Lib.hid hmw; clear hls hmw)
            obtain ⟨E2, L2⟩ := AK
            simp only at HM8 HL8 hnx2 hvf
            have hsu := mk_sums (rate1 hck) hs0 hnx2.1.hi hnx2.1.mk'
            have hsb := sums_sp hsu
            have HSP := Lib.hid hspb
            have HNX := Lib.hid hnx2
            have HSU := Lib.hid hsu
            clear hsu hnx2 hspb
            go_upto_region 30 with (fail)
            have hw0 : IntKind.i64.wrap (sp + gsum (costOf l) (L2.take 0)) = sp := by
              rw [List.take_zero]
              exact (IntWalk.i64_in _ (by simp only [gsum]; have := HSP.out; omega)).trans (by simp [gsum])
            go_loopw [12, 18] (fun s k wr => ∃ i : Nat, i ≤ L2.length ∧ k = .int .i64 (i : Int) ∧ s = .int .i64 (IntKind.i64.wrap (sp + gsum (costOf l) (L2.take i))) ∧ Hid (Mw PW W R2 q c pf kf E2 t ps cs pt d g p4 c4 (j + 1) (reqs l (j + 1)) wr) ∧ Hid (Kit.Lies Edge.ans wr p7 L2)) (fun _ k _ => L2.length - (intOf k).toNat)
            case atStart => exact ⟨0, by omega, rfl, by rw [hw0], HM8, HL8⟩
            case round =>
              obtain ⟨i, hi, rfl, rfl, hMw, hLw⟩ := hrel
              by_cases hil : i < L2.length
              · have hil' : (i : Int) < (L2.length : Int) := by omega
                have wi : IntKind.i64.wrap ((i : Int) + 1) = (i : Int) + 1 := IntWalk.i64_in _ (by omega)
                have htl := HNX.out.2 (L2.getD i Edge.ans.z) (by simp [List.getD, hil])
                have HG1 := Lib.hid (gsum_succ (cost := costOf l) hil)
                obtain ⟨bo, oo, rfl, hat⟩ := Kit.lies_at hLw.out hil
                have a0 := hat 0 _ rfl
                have a2 := hat 2 _ rfl
                have hbo : Edge.ans.n = 3 := rfl
                rw [hbo, Nat.add_zero] at a0
                rw [hbo] at a2
                clear hat
                generalize L2.getD i Edge.ans.z = y at *
                obtain ⟨yi, yg, yw⟩ := y
                simp only at a0 a2 htl
                by_cases hy : yw = 0
                · subst hy
                  obtain ⟨m, rfl⟩ := Int.eq_ofNat_of_zero_le (htl rfl).1
                  have hmj : m < j + 1 := by have := (htl rfl).2; omega
                  have hmj' : (m : Int) < ((j + 1 : Nat) : Int) := by omega
                  obtain ⟨pq, kq, e1, hlq⟩ := hMw.out.cost.lies
                  have hlq := hlq
                  simp only [Value.slice.injEq] at e1
                  obtain ⟨rfl, -, -⟩ := e1
                  obtain ⟨bq, oq, rfl, haq⟩ := Kit.lies_at hlq (show m < (reqs l (j + 1)).length by rw [reqs_len]; exact hmj)
                  have q2 := haq 2 _ rfl
                  have hrn : rq.n = 5 := rfl
                  have hcm : ((reqs l (j + 1)).getD m rq.z).cost = costOf l (m : Int) := by
                    rw [show rq.z = Edge.zr from rfl, reqs_at l hmj]
                    simp [named, costOf]
                  rw [hrn] at q2
                  simp only [hcm] at q2
                  clear haq hlq hcm
                  simp only [if_true] at HG1
                  go_wp2
                  go_roundw
                  case rel => exact ⟨i + 1, by omega, by go_num, by rw [HG1.out, ← Int.add_assoc, ← wrap_add (sp + gsum (costOf l) (L2.take i)), IntWalk.i64_left, IntWalk.i64_left], hMw, hLw⟩
                  case measure => simp only [intOf]; omega
                · simp only [if_neg hy, Int.add_zero] at HG1
                  have hy' : (yw == 0) = false := by simpa using hy
                  go_wp2
                  go_roundw
                  case rel => exact ⟨i + 1, by omega, by go_num, by rw [HG1.out], hMw, hLw⟩
                  case measure => simp only [intOf]; omega
              · have hil' : ¬ (i : Int) < (L2.length : Int) := by omega
                obtain rfl : i = L2.length := by omega
                have hs2 : IntKind.i64.wrap (sp + gsum (costOf l) (L2.take L2.length)) = sp + gsum (costOf l) L2 := by
                  rw [List.take_length]
                  exact IntWalk.i64_in _ (by have := sums_sp HSU.out; omega)
                have hNX := HNX.out.1
                have hgd2 := hNX.inv.good
                have hln2 := hNX.inv.lens hq.2 (by omega)
                simp only at hgd2 hln2
                have hL1 : E2.L.length ≤ 1 := by
                  rcases hNX.mk'.same with ⟨k, -⟩ | ⟨x, k, -⟩
                  · rw [k]; simp
                  · rw [k]; simp
                have hll := hNX.hi
                have hls := hNX.mk'.lo
                have hlh := hNX.mk'.hi
                have hwl : IntKind.i64.wrap (last - start) = last - start := IntWalk.i64_in _ (by omega)
                have HKE := Lib.hid (kept_any HP.out ps cs pt d pf kf hMw.out.pw hgd2 ⟨by omega, hln2.2.1, hln2.2.2⟩ hL1 (rowsin_rest hMw.out.tok.rows) (rates_on HR.out hMw.out.below.size hMw.out.below) (rate1 hck).some (by have := hNX.inv.few.rows; simp only at this; omega) HSU.out)
                generalize IntKind.i64.wrap (sp + gsum (costOf l) (L2.take L2.length)) = s2 at *
                subst hs2
                simp only [tokVal, Cf.val] at HKE
                obtain ⟨b0, b1, b2, b3, b4, -⟩ := box5f hMw.out.box
                obtain ⟨x0, x1, x2, x3, x4, x5, x6, x7, x8⟩ := box9 hMw.out.conf
                go_wp2_with (go_at_call 20; (with_reducible refine HKE.out.mono ?_); rintro x u9 ⟨rfl, hb⟩; have HM9 := Lib.hid (hMw.out.on HP.out.fr hb); clear hb)
                go_roundw
                case rel => exact ⟨j + 1, by omega, by go_num, rfl, Lib.hid ⟨R2, E2, t, ps, cs, pt, d, p4, c4, _, last, rfl, rfl, rfl, HM9.out, hNX⟩⟩
                case measure => simp only [intOf]; omega
        · have hlt' : ¬ (j : Int) < (l.length : Int) := by omega
          obtain ⟨R, e, t, ps, cs, pt, d, pc, kc, sp, last, rfl, rfl, rfl, hM, hI⟩ := hH.out
          have HB4 := Lib.hid hM.below
          clear hM hI hH
          go_wp2_with (go_at_call 7; (with_reducible refine (HAA.out _).mono ?_); rintro x v5 ⟨rfl, hb⟩; have HB5 := Lib.hid (HB4.out.trans (hb.mono HB4.out.size)); clear hb)
          go_ret
          exact ⟨rfl, HB5.out⟩
end Go.Proofs.YtbgdlokegibkmaaGreat.Visit

namespace Go.Proofs.YtbgdlokegibkmaaGreat.Visit
open Go.RowKit
open _root_.Go.Proofs.YtbgdlokegibkmaaGreat.Edge (Cf RatesB CfNum)
open _root_.Go.Proofs.YtbgdlokegibkmaaGreat.Token (tokVal)
theorem makes_any {PW : PwR} (P : Way18 PW) (FR : Free PW) (W : World) (c : Cf) (pf : Option Addr) (kf : Nat) (start : Int) (pa : Option Addr) (ka : Nat) (l : List Av) (ha : AvsAt W pa l) (hav : ∀ a ∈ l, AvNum a) (hr : RatesB W.heap.size W pf c.zs) (hc : CfNum c) :
    Calls Tryz.prog 4 #[c.val pf kf, .int .i64 start, .slice pa l.length ka] W fun e w' => e = .returned (.bool true) ∧ Below W.heap.size W w' := by
  have HF := fun u (_ : Below W.heap.size W u) => lfits_any ⟨0, 0, [], ⟨0, []⟩⟩ none none 0 0 c pf kf pa l.length ka u (by simp) (by simp) (.inl rfl)
  by_cases hk : c.check = 0
  · have HN := fun u (hu : Below W.heap.size W u) => (P.new W.heap.size c pf kf u hu.size (hr.on hu) (by have := (check_len hk).2; omega) hc hk).mono (fun (x : Ending) w' ⟨q, hx, _, hb⟩ => show ∃ y, x = Ending.returned (.tuple #[.pointer y, .int .i64 0]) ∧ Below u.heap.size u w' from ⟨_, hx, hb⟩)
    cases hf : fits18 ⟨0, 0, [], ⟨0, []⟩⟩ c l.length with
    | false =>
      rw [hf] at HF
      exact makes_no P start false 0 (.inl rfl) HF HN
    | true =>
      rw [hf] at HF
      obtain ⟨-, f4, f5⟩ := fits_yes hf
      by_cases h0 : start < 0
      · exact makes_no P start true 0 (.inr ⟨rfl, .inr ⟨rfl, .inl h0⟩⟩) HF HN
      by_cases h1 : 1073741824 < start
      · exact makes_no P start true 0 (.inr ⟨rfl, .inr ⟨rfl, .inr ⟨h0, h1⟩⟩⟩) HF HN
      have hn : 1 ≤ c.n ∧ c.n ≤ 64 := by
        have h := hk
        unfold Cf.check Conf.check at h
        split at h
        · simp at h
        · rename_i h1
          simp only [Conf.within, Bool.not_eq_false, Bool.and_eq_true, decide_eq_true_eq] at h1
          omega
      exact makes_few P FR W c pf kf start pa ka l f5 ha hav f4 hr hc hk (Edge.check_room hk) hn (by omega) (by omega) HF
  · have HN := fun u (hu : Below W.heap.size W u) => (P.newno c pf kf u (rates_on hr hu.size hu) hc hk).mono (fun (x : Ending) w' ⟨hx, hb⟩ => show ∃ y, x = Ending.returned (.tuple #[.pointer y, .int .i64 c.check]) ∧ Below u.heap.size u w' from ⟨_, hx, hb⟩)
    refine makes_no P start (fits18 ⟨0, 0, [], ⟨0, []⟩⟩ c l.length) c.check ?_ HF HN
    cases fits18 ⟨0, 0, [], ⟨0, []⟩⟩ c l.length
    · exact .inl rfl
    · exact .inr ⟨rfl, .inl hk⟩
end Go.Proofs.YtbgdlokegibkmaaGreat.Visit
