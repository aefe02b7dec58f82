/-
  The program's Settle, of tables whose rows rise.
  The program's lend, of any leases of up to 1000 that rise by nodes, none of them the node's: the leases ahead, the lease, and the leases behind, in a new block.
  The program's Grant.
  The program's Held, of tables whose rows rise.
-/
import Derived.Test.YtbgdlokegibkmaaGreatMmBb
import Derived.Test.YtbgdlokegibkmaaGreatMmBa
import Derived.Test.YtbgdlokegibkmaaGreatMmAa
namespace Go.Proofs.YtbgdlokegibkmaaGreat.Ledger
open Go.RowKit
open _root_.Go.Proofs.YtbgdlokegibkmaaGreat.Frame (Rw Tb noRow LeasesAt cell_on)
open _root_.Go.Proofs.YtbgdlokegibkmaaGreat.Codec (own_below own_lower lt_of_heap frozen_of heap_set)
open _root_.Go.Proofs.YtbgdlokegibkmaaGreat.Sat (fit add sub mul fit_lo fit_hi fit_self fit_any sub_any mul_any add2 add_lo add_hi)
theorem has_out (t : Tb) (key node : Int) : has t key node = decide (0 ≤ outAt (findRow t key).out node) := by
  unfold has
  by_cases h : 0 ≤ place t.rows key
  · have : findIs t key = true := by unfold findIs; exact decide_eq_true h
    rw [this, Bool.true_and]
  · have h1 : findIs t key = false := by unfold findIs; exact decide_eq_false h
    have h2 : (findRow t key).out = [] := by unfold findRow; rw [if_pos (by omega)]
    rw [h1, h2, Bool.false_and]
    rfl
/-- What is known of the table, opened: its rows, and where their leases lie. -/
structure Open (t : Tb) (w : World) (p : Option Addr) (m : List Rp) : Prop where
  row : m.map (·.1) = t.rows
  lay : Lay w p (cellsR m)
  leases : ∀ x ∈ m, LeasesAt w x.2.1 x.1.out
  far : ∀ S, RowsIn S w p t.rows → ∀ x ∈ m, LeasesIn S w x.2.1 x.1.out
theorem Open.len {t : Tb} {w : World} {p : Option Addr} {m : List Rp} (h : Open t w p m) : t.rows.length = m.length := by rw [← h.row]; simp
theorem open_of {t : Tb} {w : World} {p : Option Addr} (hr : RowsAt w p t.rows) : ∃ m, Open t w p m := by
  obtain ⟨m, hm, hlay, hml, hfar⟩ := rows_pair hr
  exact ⟨m, hm, hlay, hml, hfar⟩
theorem Open.found {t : Tb} {w : World} {p : Option Addr} {m : List Rp} (h : Open t w p m) (key : Int) : LeasesAt w (foundP t.start m key).2.1 (foundP t.start m key).1.out := by
  rcases foundP_in t.start m key with e | e
  · rw [e]; exact .inl rfl
  · exact h.leases _ e
theorem Open.near {t : Tb} {w : World} {p : Option Addr} {m : List Rp} (h : Open t w p m) : Near w p t.rows t.rows w p := by
  refine ⟨?_, fun S hS => hS.on (fun b hb _ => .inl hb) fun b _ _ => rfl⟩
  rw [← h.row]
  exact pair_rows h.lay h.leases
/-- with, of a row whose leases are new, in a world where they lie on. -/
theorem Open.put {t : Tb} {w : World} {p : Option Addr} {m : List Rp} (h : Open t w p m) (c : Nat) (x : Rp) (u u' v : World) (hu : w.heap.size ≤ u.heap.size) (hv : Below w.heap.size w v) (hk : ∀ b, u.heap.size ≤ b → v.heap[b]? = u'.heap[b]?) (hn : m.length ≤ 1000) (hx : LeasesIn (fun b => u.heap.size ≤ b) u' x.2.1 x.1.out) (hup : Up t.rows) :
    Calls Tryz.prog 156 #[.slice p m.length (c + m.length), rpVal x] v fun e v' => ∃ p' c', e = .returned (.slice p' (setRow t x.1).rows.length (c' + (setRow t x.1).rows.length)) ∧ Near w p t.rows (setRow t x.1).rows v' p' ∧ Below v.heap.size v v' := by
  have hx2 : LeasesIn (fun b => u.heap.size ≤ b) v x.2.1 x.1.out := hx.on (fun b hb _ => hb) fun b hb _ => hk b hb
  refine (with_tells w p t.rows m p c x v hv hn (h.lay.on hv) (fun y hy => (h.leases y hy).below hv) (fun S hS y hy => (h.far S hS y hy).to hv fun b hb => .inl hb) hx2.rest (fun S hS => hx2.to (Below.refl _ _) fun b hb => .inr (by omega)) (by rw [h.row]; exact hup)).mono ?_
  rintro e v' ⟨p', n', c', rfl, hn', hx', hb'⟩
  rw [h.row] at hn' hx'
  subst hn'
  exact ⟨p', c', rfl, hx', hb'⟩
theorem psettle_rise {n : Nat} {t : Tb} (p : Option Addr) (c : Nat) (key node spent : Int) (w : World) (h : Rise n t) (hn : n ≤ 61) (hk : Num key) (hsp : Num spent) (hr : RowsAt w p t.rows) :
    Calls Tryz.prog 105 #[tabVal t p c, .int .i64 key, .int .i64 node, .int .i64 spent] w (TellsTabFar w p t (settle t key node spent).1 (fun v => .tuple #[v, .int .i64 (settle t key node spent).2])) := by
  obtain ⟨hl, ho⟩ := base_len h.base hn
  obtain ⟨m, hO⟩ := open_of hr
  have hlen := hO.len
  have hr' : RowsAt w p (m.map (·.1)) := by rw [hO.row]; exact hr
  have hF := foundP_row t m key hO.row
  have hfl := hO.found key
  have hB := base_find h.base hk
  have hU := upl_find h key
  have hfind := fun u (hb : Below w.heap.size w u) => pfind_any t.start m p c key u (by omega) (hr'.below hb) (hO.lay.on hb)
  have hL : (foundP t.start m key).1.out.length ≤ 1000 := by rw [hF]; have := hB.len; omega
  have hlent := fun u (hb : Below w.heap.size w u) => lent_any (foundP t.start m key).1 (foundP t.start m key).2.1 (foundP t.start m key).2.2 node u (hfl.below hb) hL
  have hoth := fun u (hb : Below w.heap.size w u) => others_any (foundP t.start m key).1.out (foundP t.start m key).2.1 ((foundP t.start m key).2.2 + (foundP t.start m key).1.out.length) node u (hfl.below hb) hL
  have tv : tabVal t p c = .agg #[.int .i64 t.start, .slice p m.length (c + m.length)] := by unfold tabVal; rw [hlen]
  rw [tv]
  generalize foundP t.start m key = x at *
  obtain ⟨F, q, cx⟩ := x
  simp only at hF hfl hL hlent hoth
  subst hF
  have hlo := lent_out hU node fun y hy => (hB.out y hy).2
  have core := fun (qq : Bool) (a told bk av : Int) (NT nx2 : Nat) (tl : Int) (L : List Rw) => psettle_core t.start key node spent p m.length c w (findRow t key).key (findRow t key).avail (findRow t key).mark q (findRow t key).out.length cx (decide (0 ≤ place (m.map (·.1)) key)) qq a told bk av (Near w p t.rows L) (stay_near w p t.rows L) NT nx2 tl
  have hho := has_out t key node
  rcases hlo with ⟨h1, h2⟩ | ⟨h1, h2⟩
  · rw [decide_eq_false (by omega)] at hho
    have e : settle t key node spent = (t, 0) := by unfold settle; rw [if_neg (by simp [hho])]
    rw [e]
    rw [h2] at hlent
    refine (core false 0 0 0 0 t.rows.length 0 0 t.rows (by omega) hsp hfind hlent (fun h => by cases h) (fun _ => ⟨hlen, hO.near, rfl⟩) (fun h => by cases h)).mono ?_
    rintro e w' ⟨p', c', rfl, hx, hb⟩
    exact ⟨p', c', rfl, hx, hb⟩
  · rw [decide_eq_true h1] at hho
    have ham := amount_in h.base hk hho
    have ha : ((findRow t key).out.getD (outAt (findRow t key).out node).toNat (0, 0)).2 = amountOf t key node := rfl
    rw [ha] at h2
    rw [h2] at hlent
    have hbut := others_out hU node h1
    rw [hbut] at hoth
    have e : settle t key node spent = (setRow t (settled (findRow t key) (outAt (findRow t key).out node).toNat (amountOf t key node - spentOf (amountOf t key node) spent)), spentOf (amountOf t key node) spent) := by unfold settle; rw [if_pos hho]
    rw [e]
    have hst : spentOf (amountOf t key node) spent = (if 0 ≤ spent then min spent (amountOf t key node) else amountOf t key node) := by
      unfold spentOf
      by_cases k1 : 0 ≤ spent
      · rw [if_pos k1]
        by_cases k2 : amountOf t key node < spent
        · rw [if_pos (.inr k2)]; omega
        · rw [if_neg (by omega)]; omega
      · rw [if_neg k1, if_pos (.inl (by omega))]
    have hsi : 0 ≤ spentOf (amountOf t key node) spent ∧ spentOf (amountOf t key node) spent ≤ amountOf t key node := by rw [hst]; split <;> omega
    have hback : sub (amountOf t key node) (spentOf (amountOf t key node) spent) = amountOf t key node - spentOf (amountOf t key node) spent := by
      unfold sub
      rw [fit_self (x := amountOf t key node) (by omega) (by omega), fit_self (x := spentOf (amountOf t key node) spent) (by omega) (by omega), fit_self (by omega) (by omega)]
    generalize amountOf t key node = a at *
    generalize spentOf a spent = told at *
    generalize hbt : butAt (findRow t key).out (outAt (findRow t key).out node).toNat = L2 at *
    have hse : settled (findRow t key) (outAt (findRow t key).out node).toNat (a - told) = ⟨(findRow t key).key, add [(findRow t key).avail, a - told], (findRow t key).mark, L2⟩ := by unfold settled; rw [hbt]
    rw [hse]
    refine (core true a told (a - told) (add [(findRow t key).avail, a - told]) (setRow t ⟨(findRow t key).key, add [(findRow t key).avail, a - told], (findRow t key).mark, L2⟩).rows.length L2.length told (setRow t ⟨(findRow t key).key, add [(findRow t key).avail, a - told], (findRow t key).mark, L2⟩).rows (by omega) hsp hfind hlent (fun _ u hb => ?_) (fun h => by cases h) (fun _ => ⟨rfl, hst, hback.symm, rfl⟩)).mono ?_
    · refine (hoth u hb).mono ?_
      rintro e u' ⟨p', c', rfl, h3, h4, h5⟩
      exact ⟨p', c', rfl, fun v hv hk => hO.put c (⟨(findRow t key).key, add [(findRow t key).avail, a - told], (findRow t key).mark, L2⟩, (p', c')) u u' v hb.size hv hk (by omega) h4 h.up, h5⟩
    · rintro e w' ⟨p', c', rfl, hx, hb⟩
      exact ⟨p', c', rfl, hx, hb⟩
end Go.Proofs.YtbgdlokegibkmaaGreat.Ledger

namespace Go.Proofs.YtbgdlokegibkmaaGreat.Ledger
open Go.RowKit
open _root_.Go.Proofs.YtbgdlokegibkmaaGreat.Frame (Rw Tb noRow LeasesAt cell_on)
/-- Where the first lease of a node that isn't lower stands; behind the last one: none. -/
def lo (l : List (Int × Int)) (node : Int) : Nat := if spot (fun y : Int × Int => decide (node ≤ y.1)) l < 0 then l.length else (spot (fun y : Int × Int => decide (node ≤ y.1)) l).toNat
theorem lo_at {l : List (Int × Int)} {node : Int} {j : Nat} (hj : j < l.length) (h : ∀ i, i < j → (l.getD i (0, 0)).1 < node) (h1 : ¬ (l.getD j (0, 0)).1 < node) : lo l node = j := by
  have e : spot (fun y : Int × Int => decide (node ≤ y.1)) l = (j : Int) := spot_at _ (0, 0) l j hj (fun i hi => by have := h i hi; simpa using this) (decide_eq_true (by omega))
  unfold lo
  rw [e, if_neg (by omega), Int.toNat_natCast]
theorem lo_none {l : List (Int × Int)} {node : Int} (h : ∀ i, i < l.length → (l.getD i (0, 0)).1 < node) : lo l node = l.length := by
  have e : spot (fun y : Int × Int => decide (node ≤ y.1)) l = -1 := spot_none _ (0, 0) l fun i hi => by have := h i hi; simpa using this
  unfold lo
  rw [e, if_pos (by omega)]
theorem infoL' : (Tryz.prog.info? 141).map (·.size) = some 2 := by kernel_rfl
set_option maxRecDepth 100000 in
set_option maxHeartbeats 1000000 in
theorem lend_core (l : List (Int × Int)) (p : Option Addr) (n c i : Nat) (node am : Int) (w : World) (CA CB : List Value) (hl : l.length = n) (hn : n ≤ 1000) (h : LeasesAt w p l) (hi : lo l node = i) (hin : i ≤ n)
    (hA : Lay w p CA) (lA : CA.length = i * 2) (oA : ∀ v ∈ CA, v.oneCell' = true) (hB : CB = [] ∨ ∃ b o, p = some ⟨b, o, none⟩ ∧ w.rangeAt b (o + i * 2) CB) (lB : CB.length = (n - i) * 2) (oB : ∀ v ∈ CB, v.oneCell' = true) :
    Calls Tryz.prog 203 #[.slice p n (c + n), .agg #[.int .i64 node, .int .i64 am]] w fun e w' => ∃ g, e = .returned (.slice (some ⟨g, 0, none⟩) (n + 1) (n + 1)) ∧ w.heap.size ≤ g ∧ w'.rangeAt g 0 (CA ++ ([.int .i64 node, .int .i64 am] ++ CB)) ∧ Below w.heap.size w w' := by
  obtain ⟨i0, hi0, hz0, hz1, hz2⟩ := info_parts infoL
  have M0 := Lib.hid ((Mem.start w).box #[.int .i64 node, .int .i64 am] 141)
  obtain ⟨r0, r1, -⟩ := box2 (M0.out.boxes 0 _ _ _ rfl)
  have S1 := fun u => cut_head Tryz.prog 78 141 2 Tryz.underlying78 infoL' p n (c + n) i (by omega) u
  obtain ⟨q3, S3, Q3⟩ := cut_tail Tryz.prog 78 141 2 Tryz.underlying78 infoL' p n (c + n) i (i : Int) rfl (by omega) (by omega)
  have tri : Hid (∀ j : Nat, j ≤ n → (∀ i, i < j → (l.getD i (0, 0)).1 < node) → (∃ b o y, (j : Int) < (n : Int) ∧ p = some ⟨b, o, none⟩ ∧ w.cell? ⟨b, o + j * 2, none⟩ = some (.int .i64 y) ∧ y < node ∧ Hid (∀ i, i < j + 1 → (l.getD i (0, 0)).1 < node)) ∨
      (∃ b o y, (j : Int) < (n : Int) ∧ p = some ⟨b, o, none⟩ ∧ w.cell? ⟨b, o + j * 2, none⟩ = some (.int .i64 y) ∧ ¬ y < node ∧ Hid (i = j)) ∨ (j = n ∧ Hid (i = j))) := by
    intro j hj hne
    subst hl hi
    by_cases hlt : j < l.length
    · obtain ⟨b, o, rfl, k0, -⟩ := leases_some h hlt
      by_cases hk : (l.getD j (0, 0)).1 < node
      · refine .inl ⟨b, o, _, by omega, rfl, k0, hk, fun i hi => ?_⟩
        by_cases e : i < j
        · exact hne i e
        · rw [show i = j by omega]; exact hk
      · exact .inr (.inl ⟨b, o, _, by omega, rfl, k0, hk, lo_at hlt hne hk⟩)
    · have e : j = l.length := by omega
      exact .inr (.inr ⟨e, by subst e; exact lo_none hne⟩)
  have hn1 : CA.length = Nat.min i (n + 1) * 2 := by rw [lA]; congr 1; exact (Nat.min_eq_left (by omega)).symm
  have hn2 : CB.length = Nat.min (n - i) (n + 1 - (i + 1)) * 2 := by rw [lB]; congr 1; exact (Nat.min_eq_left (by omega)).symm
  have HA2 := Lib.hid (fun u (hb : Below w.heap.size w u) => hA.on hb)
  have HB2 : Hid (∀ u, Below w.heap.size w u → Lay u q3 CB) := fun u hb => by
    rcases hB with hB | ⟨b, o, rfl, hB⟩
    · exact .inl hB
    · rcases Q3 with h | rfl
      · exact .inl (List.eq_nil_of_length_eq_zero (by omega))
      · exact .inr ⟨b, o + i * 2, by simp [Addr.add_mid], range_on hB hb⟩
  have HDP : Hid (∀ g q2, (n + 1 - (i + 1) = 0 ∨ q2 = (some (⟨g, 0, none⟩ : Addr)).map (·.add ((i + 1) * 2))) → CB = [] ∨ q2 = some ⟨g, (i + 1) * 2, none⟩) := fun g q2 h => by
    rcases h with h | rfl
    · exact .inl (List.eq_nil_of_length_eq_zero (by omega))
    · exact .inr (by simp [Addr.add_mid])
  have HS : Hid (∀ g, ∃ q2, (∀ w, (Instr.slice 78 (.slice (some ⟨g, 0, none⟩) (n + 1) (n + 1)) (some (.int .i64 ((i : Int) + 1))) none none).run Tryz.prog w = .ok (.slice q2 (n + 1 - (i + 1)) (n + 1 - (i + 1))) w) ∧ (n + 1 - (i + 1) = 0 ∨ q2 = (some (⟨g, 0, none⟩ : Addr)).map (·.add ((i + 1) * 2)))) := fun g =>
    cut_tail Tryz.prog 78 141 2 Tryz.underlying78 infoL' (some ⟨g, 0, none⟩) (n + 1) (n + 1) (i + 1) ((i : Int) + 1) (by omega) (by omega) (by omega)
  have hm2 : i * 2 + [Value.int .i64 node, .int .i64 am].length ≤ (n + 1) * 2 := by simp; omega
  have hm3 : (i + 1) * 2 + CB.length ≤ (n + 1) * 2 := by rw [lB]; omega
  have hin' : (i : Int) ≤ (n : Int) := by omega
  clear hB Q3 hA h hl hi
  go_enter Tryz.func203, Tryz.ntmps203
  go_wp2
  generalize w.alloc (.cells #[.int .i64 node, .int .i64 am] 141) = W1 at *
  clear r0 r1
  go_loopw [5] (fun v wr => ∃ j : Nat, j ≤ n ∧ v = .int .i64 (j : Int) ∧ Hid (∀ i, i < j → (l.getD i (0, 0)).1 < node) ∧ Below W1.heap.size W1 wr) (fun v _ => n - (intOf v).toNat)
  case atStart => exact ⟨0, by omega, rfl, (fun i hi => by omega), Below.refl _ _⟩
  case round =>
    obtain ⟨j, hj, rfl, hne, hbw⟩ := hrel
    have M1 := Lib.hid (M0.out.on hbw)
    obtain ⟨r0, r1, -⟩ := box2 (M1.out.boxes 0 _ _ _ rfl)
    rcases tri.out j hj hne.out with ⟨b, o, y, hlt, rfl, k0', hk, hN⟩ | ⟨b, o, y, hlt, hp, k0', hk, hR⟩ | ⟨hjn, hR⟩
    · have k0 := cell_on k0' M1.out.below
      have g1 : decide ((j : Int) < (n : Int)) = true := by simp; omega
      have g2 : decide (y < node) = true := by simp; omega
      have HBW := Lib.hid hbw
      clear tri hne k0' HA2 HB2 HDP HS S1 S3 hn1 hn2 hm2 hm3 hbw
      go_wp2
      go_quiet (fail)
      go_wp2
      go_roundw
      case rel => exact ⟨j + 1, by omega, by go_num, hN, HBW.out.trans ((below_drewN _ _).mono HBW.out.size)⟩
      case measure => simp only [intOf]; omega
    case' inr.inl =>
      have k0 := cell_on k0' M1.out.below
      obtain rfl := hR.out
      subst hp
      have g1 : decide ((i : Int) < (n : Int)) = true := by simp; omega
      have g2 : decide (y < node) = false := by simp; omega
      clear k0' tri hne hR hbw
      go_wp2
      go_quiet (fail)
      clear k0
      generalize (some (⟨b, o, none⟩ : Addr)) = p at *
    case' inr.inr =>
      obtain rfl := hR.out
      have g1 : decide (i < n) = false := by simp; omega
      clear tri hne hR hbw hjn
      go_wp2
      go_quiet (fail)
    all_goals
      clear r0 r1
      go_wp2_with (first
        | (at_make; refine wpList_make_range rfl (.tmp 25) (.tmp 25) 78 rfl 141 i0 (.agg #[.int .i64 0, .int .i64 0]) 2 Tryz.underlying78 hi0 hz0 hz1 .i64 .i64 _ _ (n + 1) rfl rfl (by omega) (by omega) (by rw [hz2]; omega) (by omega) ?_; intro w1 b1 s1 t1; obtain ⟨q2, S2, Q2⟩ := HS.out wr.heap.size; have F1 : Hid (Fill wr wr.heap.size ((n + 1) * 2) [] w1) := Lib.hid (Fill.mk t1 (fun j v hv => by simp at hv) ((below_drewN wr _).trans b1) (Nat.le_refl _)); clear t1 b1 s1)
        | ((with_reducible refine wpList_copy_range (o := ⟨some 31, _, _, _, _, _⟩) rfl (.tmp 27) (.tmp 30) 78 78 rfl 141 2 Tryz.underlying78 infoL' (some ⟨wr.heap.size, 0, none⟩) p (n + 1) (n + 1) i (c + n) rfl rfl wr.heap.size 0 CA hn1 (HA2.out _ (M1.out.below.trans (F1.out.below.mono M1.out.below.size))) (.inr rfl) (F1.out.sub 0 _ (by omega)) oA ?_); intro w2 e2; have F2 := Lib.hid (F1.out.step e2.out rfl (by omega)); clear F1 e2; obtain ⟨r0, r1, -⟩ := box2 ((M1.out.on F2.out.below).boxes 0 _ _ _ rfl); obtain ⟨z0, y0, f0⟩ := F2.out.cell (o := i * 2) (by omega); obtain ⟨z1, y1, f1⟩ := F2.out.cell (o := i * 2 + 1) (by omega)))
      have F3 := F2.out.step (u' := (w2.setCell ⟨wr.heap.size, i * 2, none⟩ (.int .i64 node)).setCell ⟨wr.heap.size, i * 2 + 1, none⟩ (.int .i64 am)) (cs := [.int .i64 node, .int .i64 am]) rfl lA hm2
      generalize (w2.setCell ⟨wr.heap.size, i * 2, none⟩ (.int .i64 node)).setCell ⟨wr.heap.size, i * 2 + 1, none⟩ (.int .i64 am) = w3 at *
      have hl3 := HB2.out w3 (M1.out.below.trans (F3.below.mono M1.out.below.size))
      have hd3 := HDP.out _ _ Q2
      have ht3 := F3.sub ((i + 1) * 2) CB.length hm3
      have HF3 := Lib.hid F3
      clear F3 F2 y0 y1 f0 f1 r0 r1 HB2 HDP Q2 HS S1 HA2 hn1
      have e1 : IntKind.i64.wrap ((i : Int) + 1) = (i : Int) + 1 := IntWalk.i64_in _ (by omega)
      go_region_law (refine step_copy_range rfl (.tmp 39) (.tmp 42) 78 78 rfl 141 2 Tryz.underlying78 infoL' q2 q3 (n + 1 - (i + 1)) (n + 1 - (i + 1)) (n - i) (c + n - i) (by simp [Act.eval, Act.put]) (by simp [Act.eval, Act.put]) wr.heap.size ((i + 1) * 2) CB hn2 (lay_heap rfl hl3) hd3 (there_heap rfl ht3) oB ?_; intro w4 e4)
      all_goals
        have F4 := Lib.hid ((HF3.out.same (Below.refl _ _).drew).step e4.out (by simp [lA]; omega) hm3)
        clear e4 S2 S3 e1 hl3 hd3 ht3
        go_wp2
        go_ret
        exact ⟨wr.heap.size, rfl, M1.out.below.size, (by have h := F4.out.has; rw [List.append_assoc] at h; exact h), M1.out.below.trans (F4.out.below.mono M1.out.below.size)⟩
theorem lend_any (l : List (Int × Int)) (p : Option Addr) (c : Nat) (node am : Int) (w : World) (hn : l.length ≤ 1000) (h : LeasesAt w p l) (hu : UpL l) (h0 : ∀ y ∈ l, y.1 ≠ node) :
    Calls Tryz.prog 203 #[.slice p l.length (c + l.length), .agg #[.int .i64 node, .int .i64 am]] w fun e w' => ∃ g n, e = .returned (.slice (some ⟨g, 0, none⟩) n n) ∧ n = (withLease l (node, am)).length ∧ w.heap.size ≤ g ∧ LeasesAt w' (some ⟨g, 0, none⟩) (withLease l (node, am)) ∧ Below w.heap.size w w' := by
  have hm := leases_lay h
  have key : ∀ i, i ≤ l.length → lo l node = i → withLease l (node, am) = l.take i ++ (node, am) :: l.drop i →
      Calls Tryz.prog 203 #[.slice p l.length (c + l.length), .agg #[.int .i64 node, .int .i64 am]] w fun e w' => ∃ g n, e = .returned (.slice (some ⟨g, 0, none⟩) n n) ∧ n = (withLease l (node, am)).length ∧ w.heap.size ≤ g ∧ LeasesAt w' (some ⟨g, 0, none⟩) (withLease l (node, am)) ∧ Below w.heap.size w w' := by
    intro i hi hlo hs
    have e1 : l = l.take i ++ l.drop i := (List.take_append_drop i l).symm
    have lA : (cellsL (l.take i)).length = i * 2 := by rw [cellsL_len, List.length_take, Nat.min_eq_left (by omega)]
    have lB : (cellsL (l.drop i)).length = (l.length - i) * 2 := by rw [cellsL_len, List.length_drop]
    have hm2 := hm
    rw [e1, cellsL_append] at hm2
    have hB : cellsL (l.drop i) = [] ∨ ∃ b o, p = some ⟨b, o, none⟩ ∧ w.rangeAt b (o + i * 2) (cellsL (l.drop i)) := by
      rcases hm2 with hm2 | ⟨b, o, e, hm2⟩
      · exact .inl (List.append_eq_nil_iff.1 hm2).2
      · refine .inr ⟨b, o, e, ?_⟩
        have := (range_append.1 hm2).2
        rwa [lA] at this
    refine (lend_core l p l.length c i node am w _ _ rfl hn h hlo hi hm2.left lA (cellsL_one _) hB lB (cellsL_one _)).mono ?_
    rintro e w' ⟨g, rfl, hg, hr, hb⟩
    refine ⟨g, _, rfl, by rw [withLease_len], hg, ?_, hb⟩
    rw [hs]
    refine .inr ⟨g, 0, rfl, lay_leases ?_⟩
    have e2 : cellsL (l.take i ++ (node, am) :: l.drop i) = cellsL (l.take i) ++ ([.int .i64 node, .int .i64 am] ++ cellsL (l.drop i)) := by simp [cellsL]
    rw [e2]
    exact hr
  have getD : ∀ j (hj : j < l.length), l.getD j (0, 0) = l[j] := fun j hj => by simp [List.getD, hj]
  have lt : ∀ i j (hij : i < j) (hj : j < l.length), (l[i]'(by omega)).1 < l[j].1 := fun i j hij hj => List.pairwise_iff_getElem.1 hu i j (by omega) hj hij
  have hgl : lo l node ≤ l.length ∧ (∀ i (hi : i < l.length), i < lo l node → l[i].1 < node) ∧ (∀ i (hi : i < l.length), lo l node ≤ i → node < l[i].1) := by
    rcases spot_cases (fun y : Int × Int => decide (node ≤ y.1)) (0, 0) l with ⟨h1, h2⟩ | ⟨j, h1, h2, h3, h4⟩
    · have e : lo l node = l.length := by unfold lo; rw [h1, if_pos (by omega)]
      rw [e]
      refine ⟨Nat.le_refl _, fun i hi _ => ?_, fun i hi h => by omega⟩
      have h5 := h2 i hi
      rw [getD i hi] at h5
      simp only [decide_eq_false_iff_not] at h5
      omega
    · have e : lo l node = j := by unfold lo; rw [h1, if_neg (by omega), Int.toNat_natCast]
      rw [e]
      rw [getD j h2] at h3
      simp only [decide_eq_true_eq] at h3
      refine ⟨by omega, fun i hi hij => ?_, fun i hi hij => ?_⟩
      · have h5 := h4 i hij
        rw [getD i hi] at h5
        simp only [decide_eq_false_iff_not] at h5
        omega
      · have hne := h0 _ (List.getElem_mem h2)
        by_cases e : i = j
        · subst e; omega
        · have := lt j i (by omega) hi
          omega
  obtain ⟨g1, g2, g3⟩ := hgl
  refine key _ g1 rfl ?_
  generalize lo l node = i at *
  have e1 : withLease l (node, am) = withLease (l.take i ++ l.drop i) (node, am) := by rw [List.take_append_drop]
  rw [e1]
  refine withLease_put (fun y hy => ?_) (fun y hy => ?_)
  · obtain ⟨q, hq, rfl⟩ := List.mem_iff_getElem.1 hy
    simp only [List.length_take] at hq
    rw [List.getElem_take]
    exact g2 q (by omega) (by omega)
  · obtain ⟨q, hq, rfl⟩ := List.mem_iff_getElem.1 hy
    simp only [List.length_drop] at hq
    rw [List.getElem_drop]
    exact g3 (i + q) (by omega) (by omega)
end Go.Proofs.YtbgdlokegibkmaaGreat.Ledger

namespace Go.Proofs.YtbgdlokegibkmaaGreat.Ledger
open Go.RowKit
open _root_.Go.Proofs.YtbgdlokegibkmaaGreat.Frame (Rw Tb noRow LeasesAt cell_on)
open _root_.Go.Proofs.YtbgdlokegibkmaaGreat.Codec (own_below own_lower lt_of_heap frozen_of heap_set)
open _root_.Go.Proofs.YtbgdlokegibkmaaGreat.Sat (fit add sub mul fit_lo fit_hi fit_self fit_any sub_any mul_any add2 add_lo add_hi)
set_option maxRecDepth 100000 in
set_option maxHeartbeats 4000000 in
theorem pgrant_core (start key node want : Int) (p : Option Addr) (nm c : Nat) (w : World) (fk fa fm : Int) (px : Option Addr) (nx cx : Nat) (fd q b : Bool) (sm fw f2 am av : Int) (X : World → Option Addr → Prop) (hX : Stay X) (NT nx2 : Nat) (tl : Int)
    (hfind : ∀ u, Below w.heap.size w u → Calls Tryz.prog 153 #[.agg #[.int .i64 start, .slice p nm (c + nm)], .int .i64 key] u fun e u' => e = .returned (.tuple #[.agg #[.int .i64 fk, .int .i64 fa, .int .i64 fm, .slice px nx (cx + nx)], .bool fd]) ∧ Below u.heap.size u u')
    (hlent : ∀ u, Below w.heap.size w u → Calls Tryz.prog 147 #[.agg #[.int .i64 fk, .int .i64 fa, .int .i64 fm, .slice px nx (cx + nx)], .int .i64 node] u fun e u' => e = .returned (.tuple #[.int .i64 sm, .bool q]) ∧ Below u.heap.size u u')
    (hnode : ∀ u, Calls Tryz.prog 202 #[.int .i64 node] u fun e u' => e = .returned (.bool b) ∧ u' = u)
    (hlend : ¬ am = 0 → q = false → b = true → ∀ u, Below w.heap.size w u → Calls Tryz.prog 203 #[.slice px nx (cx + nx), .agg #[.int .i64 node, .int .i64 am]] u fun e u' => ∃ p' c', e = .returned (.slice p' nx2 (c' + nx2)) ∧ (∀ v, Below w.heap.size w v → (∀ b, u.heap.size ≤ b → v.heap[b]? = u'.heap[b]?) → Calls Tryz.prog 156 #[.slice p nm (c + nm), .agg #[.int .i64 fk, .int .i64 av, .int .i64 fm, .slice p' nx2 (c' + nx2)]] v fun e v' => ∃ p' c', e = .returned (.slice p' NT (c' + NT)) ∧ X v' p' ∧ Below v.heap.size v v') ∧ Below u.heap.size u u')
    (hfw : fw = fit want) (hf2 : f2 = fit fa) (ham : am = min (min fw f2) 2147483648) (hav : av = sub fa am)
    (hcase : (am = 0 ∧ tl = 0 ∧ NT = nm ∧ X w p) ∨ (¬ am = 0 ∧ q = true ∧ tl = 0 ∧ NT = nm ∧ X w p) ∨ (¬ am = 0 ∧ q = false ∧ b = false ∧ tl = 0 ∧ NT = nm ∧ X w p) ∨ (¬ am = 0 ∧ q = false ∧ b = true ∧ tl = am)) :
    Calls Tryz.prog 163 #[.agg #[.int .i64 start, .slice p nm (c + nm)], .int .i64 key, .int .i64 node, .int .i64 want] w fun e w' => ∃ p' c', e = .returned (.tuple #[.agg #[.int .i64 start, .slice p' NT (c' + NT)], .int .i64 tl]) ∧ X w' p' ∧ Below w.heap.size w w' := by
  have M0 := Lib.hid (((Mem.start w).box #[.int .i64 start, .slice p nm (c + nm)] 28).box #[.int .i64 0, .slice none 0 0] 28)
  simp only [size_alloc] at M0
  have hf1 := hfind _ M0.out.below
  have hfit1 := fit_any want
  have hfit2 := fit_any fa
  rw [← hfw] at hfit1
  rw [← hf2] at hfit2
  have hmin := fun ts t w => least_run fw f2 am ham ts t w
  have hsub := sub_any fa am
  rw [← hav] at hsub
  obtain ⟨t0, t1, -⟩ := box2 (M0.out.boxes 1 _ _ _ rfl)
  clear hfind hfw hf2 ham hav
  rcases hcase with ⟨rfl, rfl, rfl, hx⟩ | ⟨h1, rfl, rfl, rfl, hx⟩ | ⟨h1, rfl, rfl, rfl, rfl, hx⟩ | ⟨h1, rfl, rfl, rfl⟩
  · have HX := Lib.hid hx
    clear hx hlend
    go_enter Tryz.func163, Tryz.ntmps163
    go_wp2_with (first
      | (go_at_call 153; (with_reducible refine hf1.mono ?_); rintro e u1 ⟨rfl, hb⟩; have hlt := lt_of_heap ((M0.out.on hb).boxes 0 _ _ _ rfl); have M1 := Lib.hid ((M0.out.on hb).box #[.int .i64 fk, .int .i64 fa, .int .i64 fm, .slice px nx (cx + nx)] 80); clear hb t0 t1 hf1; obtain ⟨r0, r1, r2, r3, -⟩ := box4 (M1.out.boxes 0 _ _ _ rfl)))
    have MD := Lib.hid M1.out.drew
    go_region_held3 (fun u => u.cell? ⟨u1.heap.size, 1, none⟩ = some (.int .i64 fa)) (first | assumption) (first
      | (go_at_call 100; (with_reducible refine (hfit1 _).mono ?_); rintro e u2 ⟨rfl, rfl⟩)
      | (go_at_call 100; (with_reducible refine (hfit2 _).mono ?_); rintro e u2 ⟨rfl, rfl⟩))
    all_goals
      clear r0 r1 r2 r3
      obtain ⟨r0, r1, r2, r3, -⟩ := box4 (MD.out.boxes 0 _ _ _ rfl)
      go_wp2_with (first
        | (go_at_call 147; (with_reducible refine (hlent _ MD.out.below).mono ?_); rintro e u3 ⟨rfl, hb⟩; have M2 := Lib.hid (MD.out.on hb); clear hb hlent r0 r1 r2 r3; obtain ⟨t0, t1, -⟩ := box2 (M2.out.boxes 2 _ _ _ rfl); obtain ⟨d0, d1, ff⟩ := box2 (M2.out.boxes 1 _ _ _ rfl); have f0 := ff 0; have f1 := ff 1; clear ff)
        | (go_at_call 202; (with_reducible refine (hnode _).mono ?_); rintro e u4 ⟨rfl, rfl⟩))
      refine bodyPost_ret (v := .tuple #[.agg #[.int .i64 start, .slice p NT (c + NT)], .int .i64 0]) (by simp [results, Tryz.results163, go_sem, d0, d1]) rfl ?_
      exact tells_atX hX _ (by omega) (M2.out.boxes 1 _ _ _ rfl) (hX.on HX.out M2.out.below) M2.out.below (fun v => .tuple #[v, .int .i64 0])
  · have HX := Lib.hid hx
    clear hx hlend
    go_enter Tryz.func163, Tryz.ntmps163
    go_wp2_with (first
      | (go_at_call 153; (with_reducible refine hf1.mono ?_); rintro e u1 ⟨rfl, hb⟩; have hlt := lt_of_heap ((M0.out.on hb).boxes 0 _ _ _ rfl); have M1 := Lib.hid ((M0.out.on hb).box #[.int .i64 fk, .int .i64 fa, .int .i64 fm, .slice px nx (cx + nx)] 80); clear hb t0 t1 hf1; obtain ⟨r0, r1, r2, r3, -⟩ := box4 (M1.out.boxes 0 _ _ _ rfl)))
    have MD := Lib.hid M1.out.drew
    go_region_held3 (fun u => u.cell? ⟨u1.heap.size, 1, none⟩ = some (.int .i64 fa)) (first | assumption) (first
      | (go_at_call 100; (with_reducible refine (hfit1 _).mono ?_); rintro e u2 ⟨rfl, rfl⟩)
      | (go_at_call 100; (with_reducible refine (hfit2 _).mono ?_); rintro e u2 ⟨rfl, rfl⟩))
    all_goals
      clear r0 r1 r2 r3
      obtain ⟨r0, r1, r2, r3, -⟩ := box4 (MD.out.boxes 0 _ _ _ rfl)
      go_wp2_with (first
        | (go_at_call 147; (with_reducible refine (hlent _ MD.out.below).mono ?_); rintro e u3 ⟨rfl, hb⟩; have M2 := Lib.hid (MD.out.on hb); clear hb hlent r0 r1 r2 r3; obtain ⟨t0, t1, -⟩ := box2 (M2.out.boxes 2 _ _ _ rfl); obtain ⟨d0, d1, ff⟩ := box2 (M2.out.boxes 1 _ _ _ rfl); have f0 := ff 0; have f1 := ff 1; clear ff)
        | (go_at_call 202; (with_reducible refine (hnode _).mono ?_); rintro e u4 ⟨rfl, rfl⟩))
      refine bodyPost_ret (v := .tuple #[.agg #[.int .i64 start, .slice p NT (c + NT)], .int .i64 0]) (by simp [results, Tryz.results163, go_sem, d0, d1]) rfl ?_
      exact tells_atX hX _ (by omega) (M2.out.boxes 1 _ _ _ rfl) (hX.on HX.out M2.out.below) M2.out.below (fun v => .tuple #[v, .int .i64 0])
  · have HX := Lib.hid hx
    clear hx hlend
    go_enter Tryz.func163, Tryz.ntmps163
    go_wp2_with (first
      | (go_at_call 153; (with_reducible refine hf1.mono ?_); rintro e u1 ⟨rfl, hb⟩; have hlt := lt_of_heap ((M0.out.on hb).boxes 0 _ _ _ rfl); have M1 := Lib.hid ((M0.out.on hb).box #[.int .i64 fk, .int .i64 fa, .int .i64 fm, .slice px nx (cx + nx)] 80); clear hb t0 t1 hf1; obtain ⟨r0, r1, r2, r3, -⟩ := box4 (M1.out.boxes 0 _ _ _ rfl)))
    have MD := Lib.hid M1.out.drew
    go_region_held3 (fun u => u.cell? ⟨u1.heap.size, 1, none⟩ = some (.int .i64 fa)) (first | assumption) (first
      | (go_at_call 100; (with_reducible refine (hfit1 _).mono ?_); rintro e u2 ⟨rfl, rfl⟩)
      | (go_at_call 100; (with_reducible refine (hfit2 _).mono ?_); rintro e u2 ⟨rfl, rfl⟩))
    all_goals
      clear r0 r1 r2 r3
      obtain ⟨r0, r1, r2, r3, -⟩ := box4 (MD.out.boxes 0 _ _ _ rfl)
      go_wp2_with (first
        | (go_at_call 147; (with_reducible refine (hlent _ MD.out.below).mono ?_); rintro e u3 ⟨rfl, hb⟩; have M2 := Lib.hid (MD.out.on hb); clear hb hlent r0 r1 r2 r3; obtain ⟨t0, t1, -⟩ := box2 (M2.out.boxes 2 _ _ _ rfl); obtain ⟨d0, d1, ff⟩ := box2 (M2.out.boxes 1 _ _ _ rfl); have f0 := ff 0; have f1 := ff 1; clear ff)
        | (go_at_call 202; (with_reducible refine (hnode _).mono ?_); rintro e u4 ⟨rfl, rfl⟩))
      refine bodyPost_ret (v := .tuple #[.agg #[.int .i64 start, .slice p NT (c + NT)], .int .i64 0]) (by simp [results, Tryz.results163, go_sem, d0, d1]) rfl ?_
      exact tells_atX hX _ (by omega) (M2.out.boxes 1 _ _ _ rfl) (hX.on HX.out M2.out.below) M2.out.below (fun v => .tuple #[v, .int .i64 0])
  · have hle := hlend h1 rfl rfl
    have hz : (tl == 0) = false := by simpa using h1
    clear hlend
    go_enter Tryz.func163, Tryz.ntmps163
    go_wp2_with (first
      | (go_at_call 153; (with_reducible refine hf1.mono ?_); rintro e u1 ⟨rfl, hb⟩; have hlt := lt_of_heap ((M0.out.on hb).boxes 0 _ _ _ rfl); have M1 := Lib.hid ((M0.out.on hb).box #[.int .i64 fk, .int .i64 fa, .int .i64 fm, .slice px nx (cx + nx)] 80); clear hb t0 t1 hf1; obtain ⟨r0, r1, r2, r3, -⟩ := box4 (M1.out.boxes 0 _ _ _ rfl)))
    have MD := Lib.hid M1.out.drew
    go_region_held3 (fun u => u.cell? ⟨u1.heap.size, 1, none⟩ = some (.int .i64 fa)) (first | assumption) (first
      | (go_at_call 100; (with_reducible refine (hfit1 _).mono ?_); rintro e u2 ⟨rfl, rfl⟩)
      | (go_at_call 100; (with_reducible refine (hfit2 _).mono ?_); rintro e u2 ⟨rfl, rfl⟩))
    all_goals
      clear r0 r1 r2 r3
      obtain ⟨r0, r1, r2, r3, -⟩ := box4 (MD.out.boxes 0 _ _ _ rfl)
      go_wp2_with (first
        | (go_at_call 147; (with_reducible refine (hlent _ MD.out.below).mono ?_); rintro e u3 ⟨rfl, hb⟩; have M2 := Lib.hid (MD.out.on hb); clear hb hlent r0 r1 r2 r3; obtain ⟨r0, r1, r2, r3, ff⟩ := box4 (M2.out.boxes 0 _ _ _ rfl); have f1 := ff 1; clear ff)
        | (go_at_call 202; (with_reducible refine (hnode _).mono ?_); rintro e u4 ⟨rfl, hu⟩; subst hu)
        | (go_at_call 154; (with_reducible refine (hsub _).mono ?_); rintro e u5 ⟨rfl, hu⟩; subst hu; have M3 := Lib.hid (M2.out.setHead (by omega) (by intro x hx; simp at hx; rcases hx with rfl | rfl <;> simp <;> omega) 1 (.int .i64 av)))
        | (go_at_call 203; (with_reducible refine (hle _ M3.out.below).mono ?_); rintro e u6 ⟨p4, c4, rfl, hw4, hb⟩; have M4 := Lib.hid (M3.out.on hb); have HW4 := Lib.hid hw4; have hlt6 := lt_of_heap (M3.out.boxes 0 _ _ _ rfl); clear hb hw4 r0 r1 r2 r3 f1; obtain ⟨r0, r1, r2, r3, ff⟩ := box4 (M4.out.boxes 0 _ _ _ rfl); have f3 := ff 3; clear ff))
      have M5 := Lib.hid ((M4.out.setHead (by omega) (by intro x hx; simp at hx; rcases hx with rfl | rfl <;> simp <;> omega) 3 (.slice p4 nx2 (c4 + nx2))))
      have hw := HW4.out (u6.setCell ⟨u1.heap.size, 3, none⟩ (.slice p4 nx2 (c4 + nx2))).drew M5.out.drew.below (fun b hb => Below.heap_setCell u6 _ _ _ (by simp; omega))
      clear r0 r1 r2 r3 f3 HW4 M4
      generalize (u6.setCell ⟨u1.heap.size, 3, none⟩ (.slice p4 nx2 (c4 + nx2))) = u5 at *
      have MD := Lib.hid M5.out.drew
      obtain ⟨r0, r1, r2, r3, -⟩ := box4 (M5.out.boxes 0 _ _ _ rfl)
      obtain ⟨t0, t1, -⟩ := box2 (M5.out.boxes 2 _ _ _ rfl)
      go_region_held3 (fun u => u.cell? ⟨w.heap.size, 0, none⟩ = some (.int .i64 start) ∧ u.cell? ⟨w.heap.size, 1, none⟩ = some (.slice p nm (c + nm)) ∧ u.cell? ⟨u1.heap.size, 0, none⟩ = some (.int .i64 fk) ∧ u.cell? ⟨u1.heap.size, 1, none⟩ = some (.int .i64 av) ∧ u.cell? ⟨u1.heap.size, 2, none⟩ = some (.int .i64 fm) ∧ u.cell? ⟨u1.heap.size, 3, none⟩ = some (.slice p4 nx2 (c4 + nx2))) (first | assumption | exact SN.out | exact ⟨t0, t1, r0, r1, r2, r3⟩ | exact ⟨cell_set2 (by omega) SN.out.1, cell_set2 (by omega) SN.out.2.1, cell_set2 (by omega) SN.out.2.2.1, cell_set2 (by omega) SN.out.2.2.2.1, cell_set2 (by omega) SN.out.2.2.2.2.1, cell_set2 (by omega) SN.out.2.2.2.2.2⟩) (first
        | (go_at_call 156; (with_reducible refine hw.mono ?_); rintro e u9 ⟨p9, c9, rfl, hx9, hb9⟩; have M9 := Lib.hid (MD.out.on hb9); have HX9 := Lib.hid hx9; have SN := Lib.hid (And.intro (box2 (M9.out.boxes 2 _ _ _ rfl)).1 (And.intro (box2 (M9.out.boxes 2 _ _ _ rfl)).2.1 (And.intro (box4 (M9.out.boxes 0 _ _ _ rfl)).1 (And.intro (box4 (M9.out.boxes 0 _ _ _ rfl)).2.1 (And.intro (box4 (M9.out.boxes 0 _ _ _ rfl)).2.2.1 (box4 (M9.out.boxes 0 _ _ _ rfl)).2.2.2.1))))); obtain ⟨d0, d1, ff⟩ := box2 (M9.out.boxes 1 _ _ _ rfl); have f0 := ff 0; have f1 := ff 1; clear ff hx9 hb9))
      all_goals
        go_wp2
        refine bodyPost_ret (v := .tuple #[.agg #[.int .i64 start, .slice p9 NT (c9 + NT)], .int .i64 tl]) (by simp [results, Tryz.results163, go_sem, d0, d1]) rfl ?_
        exact tells_atX hX _ (by omega) (M9.out.boxes 1 _ _ _ rfl) HX9.out M9.out.below (fun v => .tuple #[v, .int .i64 tl])
theorem pgrant_rise {n : Nat} {t : Tb} (p : Option Addr) (c : Nat) (key node want : Int) (w : World) (h : Rise n t) (hn : n ≤ 61) (hk : Num key) (hr : RowsAt w p t.rows) :
    Calls Tryz.prog 163 #[tabVal t p c, .int .i64 key, .int .i64 node, .int .i64 want] w (TellsTabFar w p t (grant t key node want).1 (fun v => .tuple #[v, .int .i64 (grant t key node want).2])) := by
  obtain ⟨hl, ho⟩ := base_len h.base hn
  obtain ⟨m, hO⟩ := open_of hr
  have hlen := hO.len
  have hr' : RowsAt w p (m.map (·.1)) := by rw [hO.row]; exact hr
  have hF := foundP_row t m key hO.row
  have hfl := hO.found key
  have hB := base_find h.base hk
  have hU := upl_find h key
  have hfind := fun u (hb : Below w.heap.size w u) => pfind_any t.start m p c key u (by omega) (hr'.below hb) (hO.lay.on hb)
  have hL : (foundP t.start m key).1.out.length ≤ 1000 := by rw [hF]; have := hB.len; omega
  have hlent := fun u (hb : Below w.heap.size w u) => lent_any (foundP t.start m key).1 (foundP t.start m key).2.1 (foundP t.start m key).2.2 node u (hfl.below hb) hL
  have hlend := fun (am : Int) (h0 : ∀ y ∈ (foundP t.start m key).1.out, y.1 ≠ node) u (hb : Below w.heap.size w u) => lend_any (foundP t.start m key).1.out (foundP t.start m key).2.1 (foundP t.start m key).2.2 node am u hL (hfl.below hb) (by rw [hF]; exact hU) h0
  have hnode := fun u => isnode_any node u
  have tv : tabVal t p c = .agg #[.int .i64 t.start, .slice p m.length (c + m.length)] := by unfold tabVal; rw [hlen]
  rw [tv]
  generalize foundP t.start m key = x at *
  obtain ⟨F, q, cx⟩ := x
  simp only at hF hfl hL hlent hlend
  subst hF
  have hlo := lent_out hU node fun y hy => (hB.out y hy).2
  have hfa : fit (findRow t key).avail = (findRow t key).avail := fit_self hB.lo hB.hi
  have hgn : grantN (findRow t key) want = min (min (fit want) (fit (findRow t key).avail)) 2147483648 := by unfold grantN; rw [hfa]
  have hg0 : 0 ≤ grantN (findRow t key) want := by have := fit_lo want; have := hB.lo; unfold grantN; omega
  have hg1 : grantN (findRow t key) want ≤ (findRow t key).avail := by unfold grantN; omega
  have hfi : findIs t key = true ∨ grantN (findRow t key) want = 0 := by
    by_cases h1 : 0 ≤ place t.rows key
    · exact .inl (decide_eq_true h1)
    · right
      have : (findRow t key).avail = 0 := by unfold findRow; rw [if_pos (by omega)]
      omega
  have core := fun (qq : Bool) (sm av : Int) (NT nx2 : Nat) (tl : Int) (L : List Rw) => pgrant_core t.start key node want p m.length c w (findRow t key).key (findRow t key).avail (findRow t key).mark q (findRow t key).out.length cx (decide (0 ≤ place (m.map (·.1)) key)) qq (decide (0 ≤ node ∧ node ≤ 63)) sm (fit want) (fit (findRow t key).avail) (grantN (findRow t key) want) av (Near w p t.rows L) (stay_near w p t.rows L) NT nx2 tl
  have hsub : sub (findRow t key).avail (grantN (findRow t key) want) = (findRow t key).avail - grantN (findRow t key) want := by
    have := hB.hi
    unfold sub
    rw [hfa, fit_self (x := grantN (findRow t key) want) (by omega) (by omega), fit_self (by omega) (by omega)]
  by_cases hm : mayGrant t key node want = true
  · have hm' := hm
    simp only [mayGrant, Bool.and_eq_true, decide_eq_true_eq] at hm'
    obtain ⟨⟨⟨⟨m1, m2⟩, m3⟩, m4⟩, m5⟩ := hm'
    have hl2 : lentOf node (findRow t key).out = (0, false) := by
      rcases hlo with ⟨-, h2⟩ | ⟨h1, -⟩
      · exact h2
      · omega
    rw [hl2] at hlent
    have hle := hlend (grantN (findRow t key) want) (out_none m5)
    have e : grant t key node want = (setRow t ⟨(findRow t key).key, (findRow t key).avail - grantN (findRow t key) want, (findRow t key).mark, withLease (findRow t key).out (node, grantN (findRow t key) want)⟩, grantN (findRow t key) want) := by unfold grant; rw [if_pos hm]; rfl
    rw [e]
    generalize grantN (findRow t key) want = G at *
    generalize withLease (findRow t key).out (node, G) = L2 at *
    refine (core false 0 ((findRow t key).avail - G) (setRow t ⟨(findRow t key).key, (findRow t key).avail - G, (findRow t key).mark, L2⟩).rows.length L2.length G (setRow t ⟨(findRow t key).key, (findRow t key).avail - G, (findRow t key).mark, L2⟩).rows hfind hlent hnode (fun _ _ _ u hb => ?_) rfl rfl hgn hsub.symm (.inr (.inr (.inr ⟨by omega, rfl, decide_eq_true ⟨m3, m4⟩, rfl⟩)))).mono ?_
    · refine (hle u hb).mono ?_
      rintro e u' ⟨g, n', rfl, hn', hg, hl', hb'⟩
      subst hn'
      refine ⟨some ⟨g, 0, none⟩, 0, by rw [Nat.zero_add], fun v hv hk => ?_, hb'⟩
      refine hO.put c (⟨(findRow t key).key, (findRow t key).avail - G, (findRow t key).mark, L2⟩, (some ⟨g, 0, none⟩, 0)) u u' v hb.size hv hk (by omega) ?_ h.up
      rcases hl' with hl' | ⟨b, o, e, hc⟩
      · exact .inl hl'
      · simp only [Option.some.injEq, Addr.mk.injEq, and_true] at e
        obtain ⟨rfl, rfl⟩ := e
        exact .inr ⟨g, 0, rfl, hg, hc⟩
    · rintro e w' ⟨p', c', rfl, hx, hb⟩
      exact ⟨p', c', rfl, hx, hb⟩
  · have e : grant t key node want = (t, 0) := by unfold grant; rw [if_neg hm]
    rw [e]
    have hno : grantN (findRow t key) want = 0 ∨ (¬ grantN (findRow t key) want = 0 ∧ (0 ≤ outAt (findRow t key).out node ∨ outAt (findRow t key).out node < 0 ∧ ¬ (0 ≤ node ∧ node ≤ 63))) := by
      by_cases h1 : grantN (findRow t key) want = 0
      · exact .inl h1
      · refine .inr ⟨h1, ?_⟩
        by_cases h2 : 0 ≤ outAt (findRow t key).out node
        · exact .inl h2
        · refine .inr ⟨by omega, fun h3 => hm ?_⟩
          simp only [mayGrant, Bool.and_eq_true, decide_eq_true_eq]
          refine ⟨⟨⟨⟨?_, by omega⟩, h3.1⟩, h3.2⟩, by omega⟩
          rcases hfi with h4 | h4
          · exact h4
          · exact absurd h4 h1
    have hlast : ∀ w', ∀ e, (∃ p' c', e = Ending.returned (.tuple #[.agg #[.int .i64 t.start, .slice p' t.rows.length (c' + t.rows.length)], .int .i64 0]) ∧ Near w p t.rows t.rows w' p' ∧ Below w.heap.size w w') → TellsTabFar w p t (t, (0 : Int)).1 (fun v => .tuple #[v, .int .i64 (t, (0 : Int)).2]) e w' := by
      rintro w' e ⟨p', c', rfl, hx, hb⟩
      exact ⟨p', c', rfl, hx, hb⟩
    rcases hlo with ⟨h1, h2⟩ | ⟨h1, h2⟩
    · rw [h2] at hlent
      refine (core false 0 _ t.rows.length 0 0 t.rows hfind hlent hnode (fun h5 h6 h7 u hb => ?_) rfl rfl hgn rfl ?_).mono fun e w' => hlast w' e
      · exfalso
        rcases hno with h3 | ⟨h3, h4 | ⟨-, h4⟩⟩
        · exact h5 h3
        · omega
        · exact h4 (of_decide_eq_true h7)
      · rcases hno with h3 | ⟨h3, h4 | ⟨-, h4⟩⟩
        · exact .inl ⟨h3, rfl, hlen, hO.near⟩
        · omega
        · exact .inr (.inr (.inl ⟨h3, rfl, decide_eq_false h4, rfl, hlen, hO.near⟩))
    · rw [h2] at hlent
      refine (core true _ _ t.rows.length 0 0 t.rows hfind hlent hnode (fun h5 h6 h7 u hb => ?_) rfl rfl hgn rfl ?_).mono fun e w' => hlast w' e
      · cases h6
      · rcases hno with h3 | ⟨h3, h4 | ⟨h5, -⟩⟩
        · exact .inl ⟨h3, rfl, hlen, hO.near⟩
        · exact .inr (.inl ⟨h3, rfl, rfl, hlen, hO.near⟩)
        · omega
end Go.Proofs.YtbgdlokegibkmaaGreat.Ledger

namespace Go.Proofs.YtbgdlokegibkmaaGreat.Ledger
open Go.RowKit
open _root_.Go.Proofs.YtbgdlokegibkmaaGreat.Frame (Rw Tb noRow LeasesAt cell_on)
open _root_.Go.Proofs.YtbgdlokegibkmaaGreat.Codec (own_below own_lower lt_of_heap frozen_of heap_set)
/-- Numbers that rise are in order. -/
theorem srt_self {zs : List Int} (h : zs.Pairwise (· < ·)) : Ring.srt zs = zs := by
  unfold Ring.srt
  exact List.mergeSort_of_pairwise (List.Pairwise.imp (fun hab => decide_eq_true (by omega)) h)
theorem held_up {t : Tb} (h : Up t.rows) (node : Int) : (held t node).Pairwise (· < ·) := by
  unfold held heldOf
  exact List.pairwise_map.2 (List.Pairwise.sublist List.filter_sublist h)
/-- Numbers told in new memory. -/
def TellsIntsNew (w : World) (l : List Int) (e : Ending) (w' : World) : Prop := ∃ p c, e = .returned (.slice p l.length c) ∧ (∀ k : Nat, k < l.length → ∃ b o, p = some ⟨b, o, none⟩ ∧ w.heap.size ≤ b ∧ w'.cell? ⟨b, o + k, none⟩ = some (.int .i64 (l.getD k 0))) ∧ Below w.heap.size w w'
set_option maxRecDepth 100000 in
set_option maxHeartbeats 2000000 in
theorem pheld_core (start : Int) (rows : List Rw) (p : Option Addr) (c : Nat) (node : Int) (w : World) (h : RowsAt w p rows) (hl : rows.length ≤ 1000)
    (hlent : ∀ u j, j < rows.length → ∀ p' c', LeasesAt u p' (rows.getD j noRow).out → Calls Tryz.prog 147 #[rowVal (rows.getD j noRow) p' c', .int .i64 node] u fun e u' => ∃ sm, e = .returned (.tuple #[.int .i64 sm, .bool (decide (0 ≤ outAt (rows.getD j noRow).out node))]) ∧ Below u.heap.size u u')
    (hsort : ∀ (u0 u : World) (v : Value), OwnI u0.heap.size u v (heldOf node rows) → Below u0.heap.size u0 u → Calls Tryz.prog 148 #[v] u fun e u' => e = .returned (.tuple #[]) ∧ (∃ p' c', v = .slice p' (heldOf node rows).length c' ∧ ∀ k, k < (heldOf node rows).length → ∃ b o, p' = some ⟨b, o, none⟩ ∧ u'.cell? ⟨b, o + k, none⟩ = some (.int .i64 ((heldOf node rows).getD k 0))) ∧ Below u0.heap.size u0 u')
    (hup : ∀ k, k + 1 < (heldOf node rows).length → (heldOf node rows).getD k 0 < (heldOf node rows).getD (k + 1) 0) :
    Calls Tryz.prog 102 #[.agg #[.int .i64 start, .slice p rows.length (c + rows.length)], .int .i64 node] w (TellsIntsNew w (heldOf node rows)) := by
  obtain ⟨i0, hi, hz0, hz1, hz2⟩ := info_parts infoI
  have hlen0 : (heldOf node rows).length ≤ rows.length := by have := heldOf_len node rows rows.length; rwa [List.take_length] at this
  have HV : Hid (∀ j, j = rows.length → heldOf node rows = heldOf node (rows.take j)) := by rintro j rfl; rw [List.take_length]
  have HS : Hid (∀ j, j < rows.length → heldOf node (rows.take (j + 1)) = heldOf node (rows.take j) ++ (if 0 ≤ outAt (rows.getD j noRow).out node then [(rows.getD j noRow).key] else [])) := fun j => heldOf_take node rows j
  have HL := fun j => Lib.hid (heldOf_len node rows j)
  have h00 : heldOf node (rows.take 0) = [] := by simp [heldOf]
  have hcomp := fun (p : Option Addr) (c : Nat) (u : World) hc => compact_any (heldOf node rows) p c u (by omega) hc hup
  generalize heldOf node rows = V at HV hsort hcomp hlen0 ⊢
  generalize hG : (fun j => heldOf node (rows.take j)) = G
  have hGj : ∀ j, heldOf node (rows.take j) = G j := fun j => by rw [← hG]
  simp only [hGj] at HV HS HL h00
  clear hG hGj hup
  have M0 := Lib.hid (((Mem.start w).addRows h).box #[.int .i64 start, .slice p rows.length (c + rows.length)] 28)
  obtain ⟨t0, t1, -⟩ := box2 (M0.out.boxes 0 _ _ _ rfl)
  clear h
  go_enter Tryz.func102, Tryz.ntmps102
  go_wp2
  generalize w.alloc (.cells #[.int .i64 start, .slice p rows.length (c + rows.length)] 28) = W1 at *
  clear t0 t1
  go_loopw [5, 13] (fun v i wr => ∃ j : Nat, j ≤ rows.length ∧ i = .int .i64 (j : Int) ∧ Hid (OwnI W1.heap.size wr v (G j)) ∧ Below W1.heap.size W1 wr) (fun _ i _ => rows.length - (intOf i).toNat)
  case atStart => exact ⟨0, by omega, rfl, (by rw [h00]; exact World.ownsRow_nil _ _ _ _), Below.refl _ _⟩
  case round =>
    obtain ⟨j, hj, rfl, hown, hbw⟩ := hrel
    have M1 := Lib.hid (M0.out.on hbw)
    by_cases hlt : j < rows.length
    · obtain ⟨b, o, rfl, x0, x1, x2, px, cx, x3, hxl⟩ := rows_some (M1.out.rows 0 _ _ rfl) hlt
      have hlt' : (j : Int) < (rows.length : Int) := by omega
      have hs := HS.out j hlt
      have hlen := (HL j).out
      have hle := fun u p' c' hu => hlent u j hlt p' c' hu
      generalize rows.getD j noRow = x at *
      obtain ⟨xk, xa, xm, xo⟩ := x
      simp only [rowVal] at x0 x1 x2 x3 hxl hle hs
      generalize outAt xo node = O at *
      have M2 := Lib.hid ((M1.out.addLeases hxl).box #[.int .i64 xk, .int .i64 xa, .int .i64 xm, .slice px xo.length (cx + xo.length)] 80)
      have hle1 := hle _ px cx (M2.out.leases 0 _ _ rfl)
      have HB2 := Lib.hid ((Below.refl wr.heap.size wr).alloc (Nat.le_refl _) (.cells #[.int .i64 xk, .int .i64 xa, .int .i64 xm, .slice px xo.length (cx + xo.length)] 80))
      have HW := Lib.hid hown.out
      unfold OwnI at HW
      have HBW := Lib.hid hbw
      clear hown hbw hle hxl HV HS HL hsort hcomp hlent h00
      by_cases hO : 0 ≤ O
      · rw [if_pos hO] at hs
        have SE := Lib.hid hs
        rw [decide_eq_true hO] at hle1
        clear hs
        generalize hn : (G j).length = n at *
        have HN := Lib.hid hn
        clear hn
        go_wp2_with (first
          | (go_at_call 147; (with_reducible refine hle1.mono ?_); rintro e u ⟨sm, rfl, hbu⟩; have M3 := Lib.hid (M2.out.on hbu); have HBU := Lib.hid (HB2.out.trans (hbu.mono HB2.out.size)); have HWU := Lib.hid (own_below HW.out HBU.out); have HB1 := Lib.hid (HBW.out.trans (HBU.out.mono HBW.out.size)); clear hle1 hbu x0 x1 x2 x3; obtain ⟨r0, r1, r2, r3, -⟩ := box4 (M3.out.boxes 0 _ _ _ rfl))
          | (at_builtin; refine wpList_append_own _ rfl (.tmp 24) (.tmp 27) 25 rfl W1.heap.size 3 i0 (.int .i64 0) 1 8 Tryz.underlying25 hi hz0 hz1 hz2 rfl (by decide) _ _ _ rfl (HWU.out.alloc _) ⟨u.heap.size, 0, none⟩ 1 1 [.int .i64 xk] rfl rfl ?c1 ?c2 ?c3 ?c4 ?c5 ?_))
        case c1 => intro j u hj; match j, hj with | 0, hj => simp at hj; subst hj; simp [Addr.add]
        case c2 => intro u hu; simp at hu; subst hu; rfl
        case c3 => unfold maxLen; omega
        case c4 => omega
        case c5 => have := HB1.out.size; simp; omega
        intro v' w2 ho2 hg _
        have ho' : OwnI W1.heap.size w2 v' (G (j + 1)) := by
          rw [SE.out]
          refine OwnI.app (n := 1) (xs := [xk]) ?_ rfl
          rw [HN.out]
          exact ho2
        have hb2 := (HB1.out.alloc HB1.out.size _).grown hg (by have := HB1.out.size; simp; omega) (fun k hk => (HWU.out.lt k hk).1)
        have R := Lib.hid ho'
        clear hg ho2 ho' HW HWU
        go_wp2
        go_roundw
        case rel => exact ⟨j + 1, by omega, by go_num, R, hb2⟩
        case measure => simp [intOf]; omega
      · rw [if_neg hO, List.append_nil] at hs
        have SE := Lib.hid hs
        rw [decide_eq_false hO] at hle1
        clear hs
        go_wp2_with (go_at_call 147; (with_reducible refine hle1.mono ?_); rintro e u ⟨sm, rfl, hbu⟩; have HBU := Lib.hid (HB2.out.trans (hbu.mono HB2.out.size)); have HWU := Lib.hid (own_below HW.out HBU.out); clear hle1 hbu x0 x1 x2 x3)
        go_roundw
        case rel => exact ⟨j + 1, by omega, by go_num, by rw [SE.out]; exact HWU, HBW.out.trans (HBU.out.mono HBW.out.size)⟩
        case measure => simp [intOf]; omega
    · obtain rfl : j = rows.length := by omega
      rw [← HV.out _ rfl] at hown
      obtain ⟨pv, cv, rfl, -⟩ := hown.out.ints
      have HGB := Lib.hid (show ∀ b o, pv = some ⟨b, o, none⟩ → w.heap.size ≤ b from fun b o e => by
        have ho := hown.out
        have hs1 := M0.out.below.size
        unfold OwnI at ho
        rcases ho.2 with ⟨h1, -⟩ | ⟨g', cap', cur, h1, h2, -⟩
        · simp only [Value.slice.injEq] at h1
          rw [h1.1] at e
          cases e
        · simp only [Value.slice.injEq] at h1
          rw [h1.1] at e
          cases e
          omega)
      have hso := hsort W1 wr _ hown.out hbw
      clear hsort HV HS HL hlent
      go_wp2_with (first
        | (go_at_call 148; (with_reducible refine hso.mono ?_); rintro e u2 ⟨rfl, ⟨p2, c2, hv2, hcells⟩, hb2⟩; simp only [Value.slice.injEq, true_and] at hv2; obtain ⟨rfl, rfl⟩ := hv2; have hco := hcomp pv cv u2 hcells; have HC := Lib.hid hcells; have HB2 := Lib.hid hb2; clear hso hcomp hcells hb2)
        | (go_at_call 149; (with_reducible refine hco.mono ?_); rintro e u3 ⟨rfl, hb3⟩; have HB3 := Lib.hid hb3; clear hco hb3))
      go_ret
      refine ⟨pv, cv, rfl, fun k hk => ?_, M0.out.below.trans ((HB2.out.trans (HB3.out.mono HB2.out.size)).mono M0.out.below.size)⟩
      obtain ⟨b, o, e, hc⟩ := HC.out k hk
      exact ⟨b, o, e, HGB.out b o e, cell_on hc HB3.out⟩
end Go.Proofs.YtbgdlokegibkmaaGreat.Ledger
