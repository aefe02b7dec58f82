/-
  The program's Settle, of tables whose rows rise.
-/
import Derived.Test.YtcnnepmhdccipaaLgSettle
namespace Go.Proofs.Ytcnnepmhdccipaa.Ledger
open Go.RowKit
open _root_.Go.Proofs.Ytcnnepmhdccipaa.Frame (Rw Tb noRow LeasesAt cell_on)
open _root_.Go.Proofs.Ytcnnepmhdccipaa.Codec (own_below own_lower lt_of_heap frozen_of heap_set)
open _root_.Go.Proofs.Ytcnnepmhdccipaa.Sat (fit add sub mul fit_lo fit_hi fit_self fit_fit fit_any sub_any mul_any add2 add_lo add_hi)

theorem has_out (t : Tb) (key node : Int) : has t key node = decide (0 ≤ outAt (findRow t key).out node) := by
  unfold has
  by_cases h : 0 ≤ place t.rows key
  · have : findIs t key = true := by unfold findIs; exact decide_eq_true h
    rw [this, Bool.true_and]
  · have h1 : findIs t key = false := by unfold findIs; exact decide_eq_false h
    have h2 : (findRow t key).out = [] := by unfold findRow; rw [if_pos (by omega)]
    rw [h1, h2, Bool.false_and]
    rfl
/-- What is known of the table, opened: its rows, and where their leases lie. -/
structure Open (t : Tb) (w : World) (p : Option Addr) (m : List Rp) : Prop where
  row : m.map (·.1) = t.rows
  lay : Lay w p (cellsR m)
  leases : ∀ x ∈ m, LeasesAt w x.2.1 x.1.out
  far : ∀ S, RowsIn S w p t.rows → ∀ x ∈ m, LeasesIn S w x.2.1 x.1.out
theorem Open.len {t : Tb} {w : World} {p : Option Addr} {m : List Rp} (h : Open t w p m) : t.rows.length = m.length := by rw [← h.row]; simp
theorem open_of {t : Tb} {w : World} {p : Option Addr} (hr : RowsAt w p t.rows) : ∃ m, Open t w p m := by
  obtain ⟨m, hm, hlay, hml, hfar⟩ := rows_pair hr
  exact ⟨m, hm, hlay, hml, hfar⟩
theorem Open.found {t : Tb} {w : World} {p : Option Addr} {m : List Rp} (h : Open t w p m) (key : Int) : LeasesAt w (foundP t.start m key).2.1 (foundP t.start m key).1.out := by
  rcases foundP_in t.start m key with e | e
  · rw [e]; exact .inl rfl
  · exact h.leases _ e
theorem Open.near {t : Tb} {w : World} {p : Option Addr} {m : List Rp} (h : Open t w p m) : Near w p t.rows t.rows w p := by
  refine ⟨?_, fun S hS => hS.on (fun b hb _ => .inl hb) fun b _ _ => rfl⟩
  rw [← h.row]
  exact pair_rows h.lay h.leases
/-- with, of a row whose leases are new, in a world where they lie on. -/
theorem Open.put {t : Tb} {w : World} {p : Option Addr} {m : List Rp} (h : Open t w p m) (c : Nat) (x : Rp) (u u' v : World) (hu : w.heap.size ≤ u.heap.size) (hv : Below w.heap.size w v) (hk : ∀ b, u.heap.size ≤ b → v.heap[b]? = u'.heap[b]?) (hn : m.length ≤ 1000) (hx : LeasesIn (fun b => u.heap.size ≤ b) u' x.2.1 x.1.out) (hup : Up t.rows) :
    Calls Try.prog 58 #[.slice p m.length (c + m.length), rpVal x] v fun e v' => ∃ p' c', e = .returned (.slice p' (setRow t x.1).rows.length (c' + (setRow t x.1).rows.length)) ∧ Near w p t.rows (setRow t x.1).rows v' p' ∧ Below v.heap.size v v' := by
  have hx2 : LeasesIn (fun b => u.heap.size ≤ b) v x.2.1 x.1.out := hx.on (fun b hb _ => hb) fun b hb _ => hk b hb
  refine (with_tells w p t.rows m p c x v hv hn (h.lay.on hv) (fun y hy => (h.leases y hy).below hv) (fun S hS y hy => (h.far S hS y hy).to hv fun b hb => .inl hb) hx2.rest (fun S hS => hx2.to (Below.refl _ _) fun b hb => .inr (by omega)) (by rw [h.row]; exact hup)).mono ?_
  rintro e v' ⟨p', n', c', rfl, hn', hx', hb'⟩
  rw [h.row] at hn' hx'
  subst hn'
  exact ⟨p', c', rfl, hx', hb'⟩
theorem psettle_rise {n : Nat} {t : Tb} (p : Option Addr) (c : Nat) (key node spent : Int) (w : World) (h : Rise n t) (hn : n ≤ 61) (hk : Num key) (hsp : Num spent) (hr : RowsAt w p t.rows) :
    Calls Try.prog 32 #[tabVal t p c, .int .i64 key, .int .i64 node, .int .i64 spent] w (TellsTabFar w p t (settle t key node spent).1 (fun v => .tuple #[v, .int .i64 (settle t key node spent).2])) := by
  obtain ⟨hl, ho⟩ := base_len h.base hn
  obtain ⟨m, hO⟩ := open_of hr
  have hlen := hO.len
  have hr' : RowsAt w p (m.map (·.1)) := by rw [hO.row]; exact hr
  have hF := foundP_row t m key hO.row
  have hfl := hO.found key
  have hB := base_find h.base hk
  have hU := upl_find h key
  have hfind := fun u (hb : Below w.heap.size w u) => pfind_any t.start m p c key u (by omega) (hr'.below hb) (hO.lay.on hb)
  have hL : (foundP t.start m key).1.out.length ≤ 1000 := by rw [hF]; have := hB.len; omega
  have hlent := fun u (hb : Below w.heap.size w u) => lent_any (foundP t.start m key).1 (foundP t.start m key).2.1 (foundP t.start m key).2.2 node u (hfl.below hb) hL
  have hoth := fun u (hb : Below w.heap.size w u) => others_any (foundP t.start m key).1.out (foundP t.start m key).2.1 ((foundP t.start m key).2.2 + (foundP t.start m key).1.out.length) node u (hfl.below hb) hL
  have tv : tabVal t p c = .agg #[.int .i64 t.start, .slice p m.length (c + m.length)] := by unfold tabVal; rw [hlen]
  rw [tv]
  generalize foundP t.start m key = x at *
  obtain ⟨F, q, cx⟩ := x
  simp only at hF hfl hL hlent hoth
  subst hF
  have hlo := lent_out hU node fun y hy => (hB.out y hy).2
  have core := fun (qq : Bool) (a told bk av : Int) (NT nx2 : Nat) (tl : Int) (L : List Rw) => psettle_core t.start key node spent p m.length c w (findRow t key).key (findRow t key).avail (findRow t key).mark q (findRow t key).out.length cx (decide (0 ≤ place (m.map (·.1)) key)) qq a told bk av (Near w p t.rows L) (stay_near w p t.rows L) NT nx2 tl
  have hho := has_out t key node
  rcases hlo with ⟨h1, h2⟩ | ⟨h1, h2⟩
  · rw [decide_eq_false (by omega)] at hho
    have e : settle t key node spent = (t, 0) := by unfold settle; rw [if_neg (by simp [hho])]
    rw [e]
    rw [h2] at hlent
    refine (core false 0 0 0 0 t.rows.length 0 0 t.rows (by omega) hsp hfind hlent (fun h => by cases h) (fun _ => ⟨hlen, hO.near, rfl⟩) (fun h => by cases h)).mono ?_
    rintro e w' ⟨p', c', rfl, hx, hb⟩
    exact ⟨p', c', rfl, hx, hb⟩
  · rw [decide_eq_true h1] at hho
    have ham := amount_in h.base hk hho
    have ha : ((findRow t key).out.getD (outAt (findRow t key).out node).toNat (0, 0)).2 = amountOf t key node := rfl
    rw [ha] at h2
    rw [h2] at hlent
    have hbut := others_out hU node h1
    rw [hbut] at hoth
    have e : settle t key node spent = (setRow t (settled (findRow t key) (outAt (findRow t key).out node).toNat (amountOf t key node - spentOf (amountOf t key node) spent)), spentOf (amountOf t key node) spent) := by unfold settle; rw [if_pos hho]
    rw [e]
    have hst : spentOf (amountOf t key node) spent = (if 0 ≤ spent then min spent (amountOf t key node) else amountOf t key node) := by
      unfold spentOf
      by_cases k1 : 0 ≤ spent
      · rw [if_pos k1]
        by_cases k2 : amountOf t key node < spent
        · rw [if_pos (.inr k2)]; omega
        · rw [if_neg (by omega)]; omega
      · rw [if_neg k1, if_pos (.inl (by omega))]
    have hsi : 0 ≤ spentOf (amountOf t key node) spent ∧ spentOf (amountOf t key node) spent ≤ amountOf t key node := by rw [hst]; split <;> omega
    have hback : sub (amountOf t key node) (spentOf (amountOf t key node) spent) = amountOf t key node - spentOf (amountOf t key node) spent := by
      unfold sub
      rw [fit_self (x := amountOf t key node) (by omega) (by omega), fit_self (x := spentOf (amountOf t key node) spent) (by omega) (by omega), fit_self (by omega) (by omega)]
    generalize amountOf t key node = a at *
    generalize spentOf a spent = told at *
    generalize hbt : butAt (findRow t key).out (outAt (findRow t key).out node).toNat = L2 at *
    have hse : settled (findRow t key) (outAt (findRow t key).out node).toNat (a - told) = ⟨(findRow t key).key, add [(findRow t key).avail, a - told], (findRow t key).mark, L2⟩ := by unfold settled; rw [hbt]
    rw [hse]
    refine (core true a told (a - told) (add [(findRow t key).avail, a - told]) (setRow t ⟨(findRow t key).key, add [(findRow t key).avail, a - told], (findRow t key).mark, L2⟩).rows.length L2.length told (setRow t ⟨(findRow t key).key, add [(findRow t key).avail, a - told], (findRow t key).mark, L2⟩).rows (by omega) hsp hfind hlent (fun _ u hb => ?_) (fun h => by cases h) (fun _ => ⟨rfl, hst, hback.symm, rfl⟩)).mono ?_
    · refine (hoth u hb).mono ?_
      rintro e u' ⟨p', c', rfl, h3, h4, h5⟩
      exact ⟨p', c', rfl, fun v hv hk => hO.put c (⟨(findRow t key).key, add [(findRow t key).avail, a - told], (findRow t key).mark, L2⟩, (p', c')) u u' v hb.size hv hk (by omega) h4 h.up, h5⟩
    · rintro e w' ⟨p', c', rfl, hx, hb⟩
      exact ⟨p', c', rfl, hx, hb⟩
end Go.Proofs.Ytcnnepmhdccipaa.Ledger
