/-
  The program's Grant.
-/
import Derived.Test.YtcnnepmhdccipaaLgSettleAny
import Derived.Test.YtcnnepmhdccipaaLgLend
namespace Go.Proofs.Ytcnnepmhdccipaa.Ledger
open Go.RowKit
open _root_.Go.Proofs.Ytcnnepmhdccipaa.Frame (Rw Tb noRow LeasesAt cell_on)
open _root_.Go.Proofs.Ytcnnepmhdccipaa.Codec (own_below own_lower lt_of_heap frozen_of heap_set)
open _root_.Go.Proofs.Ytcnnepmhdccipaa.Sat (fit add sub mul fit_lo fit_hi fit_self fit_fit fit_any sub_any mul_any add2 add_lo add_hi)

set_option maxRecDepth 100000 in
set_option maxHeartbeats 4000000 in
theorem pgrant_core (start key node want : Int) (p : Option Addr) (nm c : Nat) (w : World) (fk fa fm : Int) (px : Option Addr) (nx cx : Nat) (fd q b : Bool) (sm fw f2 am av : Int) (X : World → Option Addr → Prop) (hX : Stay X) (NT nx2 : Nat) (tl : Int)
    (hfind : ∀ u, Below w.heap.size w u → Calls Try.prog 11 #[.agg #[.int .i64 start, .slice p nm (c + nm)], .int .i64 key] u fun e u' => e = .returned (.tuple #[.agg #[.int .i64 fk, .int .i64 fa, .int .i64 fm, .slice px nx (cx + nx)], .bool fd]) ∧ Below u.heap.size u u')
    (hlent : ∀ u, Below w.heap.size w u → Calls Try.prog 43 #[.agg #[.int .i64 fk, .int .i64 fa, .int .i64 fm, .slice px nx (cx + nx)], .int .i64 node] u fun e u' => e = .returned (.tuple #[.int .i64 sm, .bool q]) ∧ Below u.heap.size u u')
    (hnode : ∀ u, Calls Try.prog 59 #[.int .i64 node] u fun e u' => e = .returned (.bool b) ∧ u' = u)
    (hlend : ¬ am = 0 → q = false → b = true → ∀ u, Below w.heap.size w u → Calls Try.prog 60 #[.slice px nx (cx + nx), .agg #[.int .i64 node, .int .i64 am]] u fun e u' => ∃ p' c', e = .returned (.slice p' nx2 (c' + nx2)) ∧ (∀ v, Below w.heap.size w v → (∀ b, u.heap.size ≤ b → v.heap[b]? = u'.heap[b]?) → Calls Try.prog 58 #[.slice p nm (c + nm), .agg #[.int .i64 fk, .int .i64 av, .int .i64 fm, .slice p' nx2 (c' + nx2)]] v fun e v' => ∃ p' c', e = .returned (.slice p' NT (c' + NT)) ∧ X v' p' ∧ Below v.heap.size v v') ∧ Below u.heap.size u u')
    (hfw : fw = fit want) (hf2 : f2 = fit fa) (ham : am = min (min fw f2) 2147483648) (hav : av = sub fa am)
    (hcase : (am = 0 ∧ tl = 0 ∧ NT = nm ∧ X w p) ∨ (¬ am = 0 ∧ q = true ∧ tl = 0 ∧ NT = nm ∧ X w p) ∨ (¬ am = 0 ∧ q = false ∧ b = false ∧ tl = 0 ∧ NT = nm ∧ X w p) ∨ (¬ am = 0 ∧ q = false ∧ b = true ∧ tl = am)) :
    Calls Try.prog 31 #[.agg #[.int .i64 start, .slice p nm (c + nm)], .int .i64 key, .int .i64 node, .int .i64 want] w fun e w' => ∃ p' c', e = .returned (.tuple #[.agg #[.int .i64 start, .slice p' NT (c' + NT)], .int .i64 tl]) ∧ X w' p' ∧ Below w.heap.size w w' := by
  have M0 := Lib.hid (((Mem.start w).box #[.int .i64 start, .slice p nm (c + nm)] 24).box #[.int .i64 0, .slice none 0 0] 24)
  simp only [size_alloc] at M0
  have hf1 := hfind _ M0.out.below
  have hfit1 := fit_any want
  have hfit2 := fit_any fa
  rw [← hfw] at hfit1
  rw [← hf2] at hfit2
  have hmin := fun ts t w => least_run fw f2 am ham ts t w
  have hsub := sub_any fa am
  rw [← hav] at hsub
  obtain ⟨t0, t1, -⟩ := box2 (M0.out.boxes 1 _ _ _ rfl)
  clear hfind hfw hf2 ham hav
  rcases hcase with ⟨rfl, rfl, rfl, hx⟩ | ⟨h1, rfl, rfl, rfl, hx⟩ | ⟨h1, rfl, rfl, rfl, rfl, hx⟩ | ⟨h1, rfl, rfl, rfl⟩
  · have HX := Lib.hid hx
    clear hx hlend
    go_enter Try.func31, Try.ntmps31
    go_wp2_with (first
      | (go_at_call 11; (with_reducible refine hf1.mono ?_); rintro e u1 ⟨rfl, hb⟩; have hlt := lt_of_heap ((M0.out.on hb).boxes 0 _ _ _ rfl); have M1 := Lib.hid ((M0.out.on hb).box #[.int .i64 fk, .int .i64 fa, .int .i64 fm, .slice px nx (cx + nx)] 38); clear hb t0 t1 hf1; obtain ⟨r0, r1, r2, r3, -⟩ := box4 (M1.out.boxes 0 _ _ _ rfl)))
    have MD := Lib.hid M1.out.drew
    go_region_held3 (fun u => u.cell? ⟨u1.heap.size, 1, none⟩ = some (.int .i64 fa)) (first | assumption) (first
      | (go_at_call 47; (with_reducible refine (hfit1 _).mono ?_); rintro e u2 ⟨rfl, rfl⟩)
      | (go_at_call 47; (with_reducible refine (hfit2 _).mono ?_); rintro e u2 ⟨rfl, rfl⟩))
    all_goals
      clear r0 r1 r2 r3
      obtain ⟨r0, r1, r2, r3, -⟩ := box4 (MD.out.boxes 0 _ _ _ rfl)
      go_wp2_with (first
        | (go_at_call 43; (with_reducible refine (hlent _ MD.out.below).mono ?_); rintro e u3 ⟨rfl, hb⟩; have M2 := Lib.hid (MD.out.on hb); clear hb hlent r0 r1 r2 r3; obtain ⟨t0, t1, -⟩ := box2 (M2.out.boxes 2 _ _ _ rfl); obtain ⟨d0, d1, ff⟩ := box2 (M2.out.boxes 1 _ _ _ rfl); have f0 := ff 0; have f1 := ff 1; clear ff)
        | (go_at_call 59; (with_reducible refine (hnode _).mono ?_); rintro e u4 ⟨rfl, rfl⟩))
      refine bodyPost_ret (v := .tuple #[.agg #[.int .i64 start, .slice p NT (c + NT)], .int .i64 0]) (by simp [results, Try.results31, go_sem, d0, d1]) rfl ?_
      exact tells_atX hX _ (by omega) (M2.out.boxes 1 _ _ _ rfl) (hX.on HX.out M2.out.below) M2.out.below (fun v => .tuple #[v, .int .i64 0])
  · have HX := Lib.hid hx
    clear hx hlend
    go_enter Try.func31, Try.ntmps31
    go_wp2_with (first
      | (go_at_call 11; (with_reducible refine hf1.mono ?_); rintro e u1 ⟨rfl, hb⟩; have hlt := lt_of_heap ((M0.out.on hb).boxes 0 _ _ _ rfl); have M1 := Lib.hid ((M0.out.on hb).box #[.int .i64 fk, .int .i64 fa, .int .i64 fm, .slice px nx (cx + nx)] 38); clear hb t0 t1 hf1; obtain ⟨r0, r1, r2, r3, -⟩ := box4 (M1.out.boxes 0 _ _ _ rfl)))
    have MD := Lib.hid M1.out.drew
    go_region_held3 (fun u => u.cell? ⟨u1.heap.size, 1, none⟩ = some (.int .i64 fa)) (first | assumption) (first
      | (go_at_call 47; (with_reducible refine (hfit1 _).mono ?_); rintro e u2 ⟨rfl, rfl⟩)
      | (go_at_call 47; (with_reducible refine (hfit2 _).mono ?_); rintro e u2 ⟨rfl, rfl⟩))
    all_goals
      clear r0 r1 r2 r3
      obtain ⟨r0, r1, r2, r3, -⟩ := box4 (MD.out.boxes 0 _ _ _ rfl)
      go_wp2_with (first
        | (go_at_call 43; (with_reducible refine (hlent _ MD.out.below).mono ?_); rintro e u3 ⟨rfl, hb⟩; have M2 := Lib.hid (MD.out.on hb); clear hb hlent r0 r1 r2 r3; obtain ⟨t0, t1, -⟩ := box2 (M2.out.boxes 2 _ _ _ rfl); obtain ⟨d0, d1, ff⟩ := box2 (M2.out.boxes 1 _ _ _ rfl); have f0 := ff 0; have f1 := ff 1; clear ff)
        | (go_at_call 59; (with_reducible refine (hnode _).mono ?_); rintro e u4 ⟨rfl, rfl⟩))
      refine bodyPost_ret (v := .tuple #[.agg #[.int .i64 start, .slice p NT (c + NT)], .int .i64 0]) (by simp [results, Try.results31, go_sem, d0, d1]) rfl ?_
      exact tells_atX hX _ (by omega) (M2.out.boxes 1 _ _ _ rfl) (hX.on HX.out M2.out.below) M2.out.below (fun v => .tuple #[v, .int .i64 0])
  · have HX := Lib.hid hx
    clear hx hlend
    go_enter Try.func31, Try.ntmps31
    go_wp2_with (first
      | (go_at_call 11; (with_reducible refine hf1.mono ?_); rintro e u1 ⟨rfl, hb⟩; have hlt := lt_of_heap ((M0.out.on hb).boxes 0 _ _ _ rfl); have M1 := Lib.hid ((M0.out.on hb).box #[.int .i64 fk, .int .i64 fa, .int .i64 fm, .slice px nx (cx + nx)] 38); clear hb t0 t1 hf1; obtain ⟨r0, r1, r2, r3, -⟩ := box4 (M1.out.boxes 0 _ _ _ rfl)))
    have MD := Lib.hid M1.out.drew
    go_region_held3 (fun u => u.cell? ⟨u1.heap.size, 1, none⟩ = some (.int .i64 fa)) (first | assumption) (first
      | (go_at_call 47; (with_reducible refine (hfit1 _).mono ?_); rintro e u2 ⟨rfl, rfl⟩)
      | (go_at_call 47; (with_reducible refine (hfit2 _).mono ?_); rintro e u2 ⟨rfl, rfl⟩))
    all_goals
      clear r0 r1 r2 r3
      obtain ⟨r0, r1, r2, r3, -⟩ := box4 (MD.out.boxes 0 _ _ _ rfl)
      go_wp2_with (first
        | (go_at_call 43; (with_reducible refine (hlent _ MD.out.below).mono ?_); rintro e u3 ⟨rfl, hb⟩; have M2 := Lib.hid (MD.out.on hb); clear hb hlent r0 r1 r2 r3; obtain ⟨t0, t1, -⟩ := box2 (M2.out.boxes 2 _ _ _ rfl); obtain ⟨d0, d1, ff⟩ := box2 (M2.out.boxes 1 _ _ _ rfl); have f0 := ff 0; have f1 := ff 1; clear ff)
        | (go_at_call 59; (with_reducible refine (hnode _).mono ?_); rintro e u4 ⟨rfl, rfl⟩))
      refine bodyPost_ret (v := .tuple #[.agg #[.int .i64 start, .slice p NT (c + NT)], .int .i64 0]) (by simp [results, Try.results31, go_sem, d0, d1]) rfl ?_
      exact tells_atX hX _ (by omega) (M2.out.boxes 1 _ _ _ rfl) (hX.on HX.out M2.out.below) M2.out.below (fun v => .tuple #[v, .int .i64 0])
  · have hle := hlend h1 rfl rfl
    have hz : (tl == 0) = false := by simpa using h1
    clear hlend
    go_enter Try.func31, Try.ntmps31
    go_wp2_with (first
      | (go_at_call 11; (with_reducible refine hf1.mono ?_); rintro e u1 ⟨rfl, hb⟩; have hlt := lt_of_heap ((M0.out.on hb).boxes 0 _ _ _ rfl); have M1 := Lib.hid ((M0.out.on hb).box #[.int .i64 fk, .int .i64 fa, .int .i64 fm, .slice px nx (cx + nx)] 38); clear hb t0 t1 hf1; obtain ⟨r0, r1, r2, r3, -⟩ := box4 (M1.out.boxes 0 _ _ _ rfl)))
    have MD := Lib.hid M1.out.drew
    go_region_held3 (fun u => u.cell? ⟨u1.heap.size, 1, none⟩ = some (.int .i64 fa)) (first | assumption) (first
      | (go_at_call 47; (with_reducible refine (hfit1 _).mono ?_); rintro e u2 ⟨rfl, rfl⟩)
      | (go_at_call 47; (with_reducible refine (hfit2 _).mono ?_); rintro e u2 ⟨rfl, rfl⟩))
    all_goals
      clear r0 r1 r2 r3
      obtain ⟨r0, r1, r2, r3, -⟩ := box4 (MD.out.boxes 0 _ _ _ rfl)
      go_wp2_with (first
        | (go_at_call 43; (with_reducible refine (hlent _ MD.out.below).mono ?_); rintro e u3 ⟨rfl, hb⟩; have M2 := Lib.hid (MD.out.on hb); clear hb hlent r0 r1 r2 r3; obtain ⟨r0, r1, r2, r3, ff⟩ := box4 (M2.out.boxes 0 _ _ _ rfl); have f1 := ff 1; clear ff)
        | (go_at_call 59; (with_reducible refine (hnode _).mono ?_); rintro e u4 ⟨rfl, hu⟩; subst hu)
        | (go_at_call 40; (with_reducible refine (hsub _).mono ?_); rintro e u5 ⟨rfl, hu⟩; subst hu; have M3 := Lib.hid (M2.out.setHead (by omega) (by intro x hx; simp at hx; rcases hx with rfl | rfl <;> simp <;> omega) 1 (.int .i64 av)))
        | (go_at_call 60; (with_reducible refine (hle _ M3.out.below).mono ?_); rintro e u6 ⟨p4, c4, rfl, hw4, hb⟩; have M4 := Lib.hid (M3.out.on hb); have HW4 := Lib.hid hw4; have hlt6 := lt_of_heap (M3.out.boxes 0 _ _ _ rfl); clear hb hw4 r0 r1 r2 r3 f1; obtain ⟨r0, r1, r2, r3, ff⟩ := box4 (M4.out.boxes 0 _ _ _ rfl); have f3 := ff 3; clear ff))
      have M5 := Lib.hid ((M4.out.setHead (by omega) (by intro x hx; simp at hx; rcases hx with rfl | rfl <;> simp <;> omega) 3 (.slice p4 nx2 (c4 + nx2))))
      have hw := HW4.out (u6.setCell ⟨u1.heap.size, 3, none⟩ (.slice p4 nx2 (c4 + nx2))).drew M5.out.drew.below (fun b hb => Below.heap_setCell u6 _ _ _ (by simp; omega))
      clear r0 r1 r2 r3 f3 HW4 M4
      generalize (u6.setCell ⟨u1.heap.size, 3, none⟩ (.slice p4 nx2 (c4 + nx2))) = u5 at *
      have MD := Lib.hid M5.out.drew
      obtain ⟨r0, r1, r2, r3, -⟩ := box4 (M5.out.boxes 0 _ _ _ rfl)
      obtain ⟨t0, t1, -⟩ := box2 (M5.out.boxes 2 _ _ _ rfl)
      go_region_held3 (fun u => u.cell? ⟨w.heap.size, 0, none⟩ = some (.int .i64 start) ∧ u.cell? ⟨w.heap.size, 1, none⟩ = some (.slice p nm (c + nm)) ∧ u.cell? ⟨u1.heap.size, 0, none⟩ = some (.int .i64 fk) ∧ u.cell? ⟨u1.heap.size, 1, none⟩ = some (.int .i64 av) ∧ u.cell? ⟨u1.heap.size, 2, none⟩ = some (.int .i64 fm) ∧ u.cell? ⟨u1.heap.size, 3, none⟩ = some (.slice p4 nx2 (c4 + nx2))) (first | assumption | exact SN.out | exact ⟨t0, t1, r0, r1, r2, r3⟩ | exact ⟨cell_set2 (by omega) SN.out.1, cell_set2 (by omega) SN.out.2.1, cell_set2 (by omega) SN.out.2.2.1, cell_set2 (by omega) SN.out.2.2.2.1, cell_set2 (by omega) SN.out.2.2.2.2.1, cell_set2 (by omega) SN.out.2.2.2.2.2⟩) (first
        | (go_at_call 58; (with_reducible refine hw.mono ?_); rintro e u9 ⟨p9, c9, rfl, hx9, hb9⟩; have M9 := Lib.hid (MD.out.on hb9); have HX9 := Lib.hid hx9; have SN := Lib.hid (And.intro (box2 (M9.out.boxes 2 _ _ _ rfl)).1 (And.intro (box2 (M9.out.boxes 2 _ _ _ rfl)).2.1 (And.intro (box4 (M9.out.boxes 0 _ _ _ rfl)).1 (And.intro (box4 (M9.out.boxes 0 _ _ _ rfl)).2.1 (And.intro (box4 (M9.out.boxes 0 _ _ _ rfl)).2.2.1 (box4 (M9.out.boxes 0 _ _ _ rfl)).2.2.2.1))))); obtain ⟨d0, d1, ff⟩ := box2 (M9.out.boxes 1 _ _ _ rfl); have f0 := ff 0; have f1 := ff 1; clear ff hx9 hb9))
      all_goals
        go_wp2
        refine bodyPost_ret (v := .tuple #[.agg #[.int .i64 start, .slice p9 NT (c9 + NT)], .int .i64 tl]) (by simp [results, Try.results31, go_sem, d0, d1]) rfl ?_
        exact tells_atX hX _ (by omega) (M9.out.boxes 1 _ _ _ rfl) HX9.out M9.out.below (fun v => .tuple #[v, .int .i64 tl])
theorem pgrant_rise {n : Nat} {t : Tb} (p : Option Addr) (c : Nat) (key node want : Int) (w : World) (h : Rise n t) (hn : n ≤ 61) (hk : Num key) (hr : RowsAt w p t.rows) :
    Calls Try.prog 31 #[tabVal t p c, .int .i64 key, .int .i64 node, .int .i64 want] w (TellsTabFar w p t (grant t key node want).1 (fun v => .tuple #[v, .int .i64 (grant t key node want).2])) := by
  obtain ⟨hl, ho⟩ := base_len h.base hn
  obtain ⟨m, hO⟩ := open_of hr
  have hlen := hO.len
  have hr' : RowsAt w p (m.map (·.1)) := by rw [hO.row]; exact hr
  have hF := foundP_row t m key hO.row
  have hfl := hO.found key
  have hB := base_find h.base hk
  have hU := upl_find h key
  have hfind := fun u (hb : Below w.heap.size w u) => pfind_any t.start m p c key u (by omega) (hr'.below hb) (hO.lay.on hb)
  have hL : (foundP t.start m key).1.out.length ≤ 1000 := by rw [hF]; have := hB.len; omega
  have hlent := fun u (hb : Below w.heap.size w u) => lent_any (foundP t.start m key).1 (foundP t.start m key).2.1 (foundP t.start m key).2.2 node u (hfl.below hb) hL
  have hlend := fun (am : Int) (h0 : ∀ y ∈ (foundP t.start m key).1.out, y.1 ≠ node) u (hb : Below w.heap.size w u) => lend_any (foundP t.start m key).1.out (foundP t.start m key).2.1 (foundP t.start m key).2.2 node am u hL (hfl.below hb) (by rw [hF]; exact hU) h0
  have hnode := fun u => isnode_any node u
  have tv : tabVal t p c = .agg #[.int .i64 t.start, .slice p m.length (c + m.length)] := by unfold tabVal; rw [hlen]
  rw [tv]
  generalize foundP t.start m key = x at *
  obtain ⟨F, q, cx⟩ := x
  simp only at hF hfl hL hlent hlend
  subst hF
  have hlo := lent_out hU node fun y hy => (hB.out y hy).2
  have hfa : fit (findRow t key).avail = (findRow t key).avail := fit_self hB.lo hB.hi
  have hgn : grantN (findRow t key) want = min (min (fit want) (fit (findRow t key).avail)) 2147483648 := by unfold grantN; rw [hfa]
  have hg0 : 0 ≤ grantN (findRow t key) want := by have := fit_lo want; have := hB.lo; unfold grantN; omega
  have hg1 : grantN (findRow t key) want ≤ (findRow t key).avail := by unfold grantN; omega
  have hfi : findIs t key = true ∨ grantN (findRow t key) want = 0 := by
    by_cases h1 : 0 ≤ place t.rows key
    · exact .inl (decide_eq_true h1)
    · right
      have : (findRow t key).avail = 0 := by unfold findRow; rw [if_pos (by omega)]
      omega
  have core := fun (qq : Bool) (sm av : Int) (NT nx2 : Nat) (tl : Int) (L : List Rw) => pgrant_core t.start key node want p m.length c w (findRow t key).key (findRow t key).avail (findRow t key).mark q (findRow t key).out.length cx (decide (0 ≤ place (m.map (·.1)) key)) qq (decide (0 ≤ node ∧ node ≤ 63)) sm (fit want) (fit (findRow t key).avail) (grantN (findRow t key) want) av (Near w p t.rows L) (stay_near w p t.rows L) NT nx2 tl
  have hsub : sub (findRow t key).avail (grantN (findRow t key) want) = (findRow t key).avail - grantN (findRow t key) want := by
    have := hB.hi
    unfold sub
    rw [hfa, fit_self (x := grantN (findRow t key) want) (by omega) (by omega), fit_self (by omega) (by omega)]
  by_cases hm : mayGrant t key node want = true
  · have hm' := hm
    simp only [mayGrant, Bool.and_eq_true, decide_eq_true_eq] at hm'
    obtain ⟨⟨⟨⟨m1, m2⟩, m3⟩, m4⟩, m5⟩ := hm'
    have hl2 : lentOf node (findRow t key).out = (0, false) := by
      rcases hlo with ⟨-, h2⟩ | ⟨h1, -⟩
      · exact h2
      · omega
    rw [hl2] at hlent
    have hle := hlend (grantN (findRow t key) want) (out_none m5)
    have e : grant t key node want = (setRow t ⟨(findRow t key).key, (findRow t key).avail - grantN (findRow t key) want, (findRow t key).mark, withLease (findRow t key).out (node, grantN (findRow t key) want)⟩, grantN (findRow t key) want) := by unfold grant; rw [if_pos hm]; rfl
    rw [e]
    generalize grantN (findRow t key) want = G at *
    generalize withLease (findRow t key).out (node, G) = L2 at *
    refine (core false 0 ((findRow t key).avail - G) (setRow t ⟨(findRow t key).key, (findRow t key).avail - G, (findRow t key).mark, L2⟩).rows.length L2.length G (setRow t ⟨(findRow t key).key, (findRow t key).avail - G, (findRow t key).mark, L2⟩).rows hfind hlent hnode (fun _ _ _ u hb => ?_) rfl rfl hgn hsub.symm (.inr (.inr (.inr ⟨by omega, rfl, decide_eq_true ⟨m3, m4⟩, rfl⟩)))).mono ?_
    · refine (hle u hb).mono ?_
      rintro e u' ⟨g, n', rfl, hn', hg, hl', hb'⟩
      subst hn'
      refine ⟨some ⟨g, 0, none⟩, 0, by rw [Nat.zero_add], fun v hv hk => ?_, hb'⟩
      refine hO.put c (⟨(findRow t key).key, (findRow t key).avail - G, (findRow t key).mark, L2⟩, (some ⟨g, 0, none⟩, 0)) u u' v hb.size hv hk (by omega) ?_ h.up
      rcases hl' with hl' | ⟨b, o, e, hc⟩
      · exact .inl hl'
      · simp only [Option.some.injEq, Addr.mk.injEq, and_true] at e
        obtain ⟨rfl, rfl⟩ := e
        exact .inr ⟨g, 0, rfl, hg, hc⟩
    · rintro e w' ⟨p', c', rfl, hx, hb⟩
      exact ⟨p', c', rfl, hx, hb⟩
  · have e : grant t key node want = (t, 0) := by unfold grant; rw [if_neg hm]
    rw [e]
    have hno : grantN (findRow t key) want = 0 ∨ (¬ grantN (findRow t key) want = 0 ∧ (0 ≤ outAt (findRow t key).out node ∨ outAt (findRow t key).out node < 0 ∧ ¬ (0 ≤ node ∧ node ≤ 63))) := by
      by_cases h1 : grantN (findRow t key) want = 0
      · exact .inl h1
      · refine .inr ⟨h1, ?_⟩
        by_cases h2 : 0 ≤ outAt (findRow t key).out node
        · exact .inl h2
        · refine .inr ⟨by omega, fun h3 => hm ?_⟩
          simp only [mayGrant, Bool.and_eq_true, decide_eq_true_eq]
          refine ⟨⟨⟨⟨?_, by omega⟩, h3.1⟩, h3.2⟩, by omega⟩
          rcases hfi with h4 | h4
          · exact h4
          · exact absurd h4 h1
    have hlast : ∀ w', ∀ e, (∃ p' c', e = Ending.returned (.tuple #[.agg #[.int .i64 t.start, .slice p' t.rows.length (c' + t.rows.length)], .int .i64 0]) ∧ Near w p t.rows t.rows w' p' ∧ Below w.heap.size w w') → TellsTabFar w p t (t, (0 : Int)).1 (fun v => .tuple #[v, .int .i64 (t, (0 : Int)).2]) e w' := by
      rintro w' e ⟨p', c', rfl, hx, hb⟩
      exact ⟨p', c', rfl, hx, hb⟩
    rcases hlo with ⟨h1, h2⟩ | ⟨h1, h2⟩
    · rw [h2] at hlent
      refine (core false 0 _ t.rows.length 0 0 t.rows hfind hlent hnode (fun h5 h6 h7 u hb => ?_) rfl rfl hgn rfl ?_).mono fun e w' => hlast w' e
      · exfalso
        rcases hno with h3 | ⟨h3, h4 | ⟨-, h4⟩⟩
        · exact h5 h3
        · omega
        · exact h4 (of_decide_eq_true h7)
      · rcases hno with h3 | ⟨h3, h4 | ⟨-, h4⟩⟩
        · exact .inl ⟨h3, rfl, hlen, hO.near⟩
        · omega
        · exact .inr (.inr (.inl ⟨h3, rfl, decide_eq_false h4, rfl, hlen, hO.near⟩))
    · rw [h2] at hlent
      refine (core true _ _ t.rows.length 0 0 t.rows hfind hlent hnode (fun h5 h6 h7 u hb => ?_) rfl rfl hgn rfl ?_).mono fun e w' => hlast w' e
      · cases h6
      · rcases hno with h3 | ⟨h3, h4 | ⟨h5, -⟩⟩
        · exact .inl ⟨h3, rfl, hlen, hO.near⟩
        · exact .inr (.inl ⟨h3, rfl, rfl, hlen, hO.near⟩)
        · omega
end Go.Proofs.Ytcnnepmhdccipaa.Ledger
