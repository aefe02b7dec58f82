/-
  The document's Grant, of any table of up to 1000 rows and leases, returns the plain function's table and number; of what lay when the call began nothing has turned.
  What holds of a table that began as one that may be, behind n acts: how many rows and leases, and which numbers; each act keeps it. No program.
  The document's Held, of any table of up to 1000 rows and leases, returns the plain function's keys; of what lay when the call began nothing has turned.
-/
import Derived.Laws.Cover1
import Derived.Test.YtcnnepmhdccipaaMgF
import Derived.Test.YtcnnepmhdccipaaMgD
namespace Go.Proofs.Ytcnnepmhdccipaa.Ledger
open Go.RowKit
open _root_.Go.Proofs.Ytcnnepmhdccipaa.Frame (Rw Tb noRow LeasesAt cell_on)
open _root_.Go.Proofs.Ytcnnepmhdccipaa.Codec (own_below own_lower lt_of_heap frozen_of heap_set below_new)
open _root_.Go.Proofs.Ytcnnepmhdccipaa.Sat (fit add sub mul rfit_any)

/-- What is granted. -/
def grantN (r : Rw) (want : Int) : Int := min (min (fit want) r.avail) 2147483648
def mayGrant (t : Tb) (key node want : Int) : Bool := findIs t key && decide (1 ≤ grantN (findRow t key) want) && decide (0 ≤ node) && decide (node ≤ 63) && decide (outAt (findRow t key).out node < 0)
/-- Leases with another one, by nodes: how far it is. -/
def leaseStep (x : Int × Int) (s : List (Int × Int) × Bool) (y : Int × Int) : List (Int × Int) × Bool := ((if s.2 = false ∧ x.1 < y.1 then s.1 ++ [x] else s.1) ++ [y], s.2 || decide (x.1 < y.1))
def leaseTo (x : Int × Int) (l : List (Int × Int)) : List (Int × Int) × Bool := l.foldl (leaseStep x) ([], false)
def withLease (l : List (Int × Int)) (x : Int × Int) : List (Int × Int) := if (leaseTo x l).2 = true then (leaseTo x l).1 else (leaseTo x l).1 ++ [x]
def granted (r : Rw) (node n : Int) : Rw := ⟨r.key, r.avail - n, r.mark, withLease r.out (node, n)⟩
def grant (t : Tb) (key node want : Int) : Tb × Int :=
  if mayGrant t key node want = true then (setRow t (granted (findRow t key) node (grantN (findRow t key) want)), grantN (findRow t key) want) else (t, 0)
theorem leaseTo_take (x : Int × Int) (l : List (Int × Int)) (k : Nat) (h : k < l.length) : leaseTo x (l.take (k + 1)) = leaseStep x (leaseTo x (l.take k)) (l.getD k (0, 0)) := by
  have e : l.getD k (0, 0) = l[k] := by simp [List.getD, h]
  rw [e, List.take_succ_eq_append_getElem h]
  simp only [leaseTo, List.foldl_append, List.foldl_cons, List.foldl_nil]
theorem leaseTo_rest (x : Int × Int) : ∀ (l : List (Int × Int)) (s : List (Int × Int) × Bool), (l.foldl (leaseStep x) s).1.length + rest (l.foldl (leaseStep x) s).2 = s.1.length + rest s.2 + l.length
  | [], s => rfl
  | y :: l, (a, b) => by
    refine Eq.trans (leaseTo_rest x l _) ?_
    simp only [leaseStep, List.length_append, List.length_cons, List.length_nil]
    cases b <;> by_cases h1 : x.1 < y.1 <;> simp [h1, rest] <;> omega
theorem leaseTo_len (x : Int × Int) (l : List (Int × Int)) : (leaseTo x l).1.length + rest (leaseTo x l).2 = l.length + 1 := by
  have : (l.foldl (leaseStep x) ([], false)).1.length + rest (l.foldl (leaseStep x) ([], false)).2 = 0 + 1 + l.length := leaseTo_rest x l ([], false)
  unfold leaseTo
  omega
theorem withLease_len (l : List (Int × Int)) (x : Int × Int) : (withLease l x).length = l.length + 1 := by
  have := leaseTo_len x l
  unfold withLease
  split
  · rename_i h
    rw [h] at this
    simp only [rest] at this
    omega
  · rename_i h
    rw [Bool.not_eq_true] at h
    rw [h] at this
    simp only [rest] at this
    simp
    omega
theorem lease_cases (x : Int × Int) (s : List (Int × Int) × Bool) (y : Int × Int) :
    (s.2 = true ∧ leaseStep x s y = (s.1 ++ [y], true)) ∨ (s.2 = false ∧ x.1 < y.1 ∧ leaseStep x s y = (s.1 ++ [x] ++ [y], true)) ∨ (s.2 = false ∧ y.1 ≤ x.1 ∧ leaseStep x s y = (s.1 ++ [y], false)) := by
  obtain ⟨a, b⟩ := s
  cases b with
  | true => exact .inl ⟨rfl, by simp [leaseStep]⟩
  | false =>
    by_cases h : x.1 < y.1
    · exact .inr (.inl ⟨rfl, h, by simp [leaseStep, h]⟩)
    · exact .inr (.inr ⟨rfl, by omega, by simp [leaseStep, h]⟩)
/-- The least of three. -/
theorem least_run (f a N : Int) (h : N = min (min f a) 2147483648) (ts : Array TypeId) (t : TypeId) (w : World) : (Builtin.min_ ts t #[.int .i64 f, .int .i64 a, .int .i64 2147483648]).run Try.prog w = .ok (.int .i64 N) w := by
  rw [run_min_int3]
  have : (if 2147483648 < (if a < f then a else f) then 2147483648 else (if a < f then a else f)) = N := by
    by_cases h1 : a < f
    · rw [if_pos h1]
      split <;> omega
    · rw [if_neg h1]
      split <;> omega
  rw [this]

set_option maxRecDepth 100000 in
set_option maxHeartbeats 8000000 in
theorem grant_yes (t : Tb) (p : Option Addr) (c : Nat) (key node want : Int) (w : World) (h : RowsAt w p t.rows) (hl : t.rows.length ≤ 1000) (ho : ∀ r ∈ t.rows, r.out.length ≤ 1000) (hn : mayGrant t key node want = true) (hA : (findRow t key).avail ≤ 9223372036854775807) :
    Calls Try.prog 35 #[tabVal t p c, .int .i64 key, .int .i64 node, .int .i64 want] w (TellsTab w (grant t key node want).1 (fun v => .tuple #[v, .int .i64 (grant t key node want).2])) := by
  have hfo := find_out ho key
  have hse : grant t key node want = (setRow t (granted (findRow t key) node (grantN (findRow t key) want)), grantN (findRow t key) want) := by
    unfold grant; rw [if_pos hn]
  rw [hse]
  unfold mayGrant at hn
  simp only [Bool.and_eq_true, decide_eq_true_eq] at hn
  obtain ⟨⟨⟨⟨hI, hN1⟩, hn0⟩, hn63⟩, hO⟩ := hn
  have hmin := least_run (fit want) (findRow t key).avail (grantN (findRow t key) want) rfl
  have hNa : grantN (findRow t key) want ≤ (findRow t key).avail := by unfold grantN; omega
  have hfit := rfit_any want
  generalize fit want = f at *
  generalize grantN (findRow t key) want = N at *
  obtain ⟨start, rows⟩ := t
  obtain ⟨k0, k1, hb⟩ := two_new w (.cells #[.int .i64 start, .slice p rows.length (c + rows.length)] 24) (.cells #[.int .i64 0, .slice none 0 0] 24)
  have hfind := find_any ⟨start, rows⟩ p c key w ((w.alloc (.cells #[.int .i64 start, .slice p rows.length (c + rows.length)] 24)).alloc (.cells #[.int .i64 0, .slice none 0 0] 24)) h hb hl
  have hout := fun (u : World) (p' : Option Addr) (c' : Nat) (hu : LeasesAt u p' (findRow ⟨start, rows⟩ key).out) => out_any (findRow ⟨start, rows⟩ key) p' c' node u hu hfo
  generalize outAt (findRow ⟨start, rows⟩ key).out node = O at *
  rw [hI] at hfind
  generalize findRow ⟨start, rows⟩ key = F at *
  have hset := fun (u : World) (pr : Option Addr) (cr : Nat) (h1 : RowsAt u p rows) (h2 : LeasesAt u pr (granted F node N).out) => set_any ⟨start, rows⟩ p c (granted F node N) pr cr u u h1 h2 (Below.refl _ _) hl
  have hTS : Hid ((setRow ⟨start, rows⟩ (granted F node N)).start = start) := rfl
  have hSO : Hid ((granted F node N) = ⟨F.key, F.avail - N, F.mark, withLease F.out (node, N)⟩) := rfl
  generalize setRow ⟨start, rows⟩ (granted F node N) = T at *
  rw [hSO.out] at hset
  obtain ⟨fk, fa, fm, fo⟩ := F
  simp only [tabVal, rowVal] at *
  generalize hnf : fo.length = nf at *
  generalize hnr : rows.length = nr at *
  have HNF := Lib.hid hnf
  have HNR := Lib.hid hnr
  have hfind2 : Calls Try.prog 12 #[.agg #[.int .i64 start, .slice p nr (c + nr)], .int .i64 key] ((w.alloc (.cells #[.int .i64 start, .slice p nr (c + nr)] 24)).alloc (.cells #[.int .i64 0, .slice none 0 0] 24)) fun e w' => ∃ p1 c1, e = .returned (.tuple #[.agg #[.int .i64 fk, .int .i64 fa, .int .i64 fm, .slice p1 nf (c1 + nf)], .bool true]) ∧ LeasesAt w p1 fo ∧
      Bxs w start p nr c w'.heap.size (.int .i64 fk) (.int .i64 fa) (.int .i64 fm) (.slice p1 nf (c1 + nf)) (w'.alloc (.cells #[.int .i64 fk, .int .i64 fa, .int .i64 fm, .slice p1 nf (c1 + nf)] 38)) := by
    refine hfind.mono ?_
    rintro e w' ⟨p1, c1, rfl, h1, h2⟩
    have ba := (Below.refl w'.heap.size w').alloc (Nat.le_refl _) (.cells #[.int .i64 fk, .int .i64 fa, .int .i64 fm, .slice p1 nf (c1 + nf)] 38)
    have h3 := h2.trans (ba.mono h2.size)
    have hz := h2.size
    simp at hz
    exact ⟨p1, c1, by rw [← HNF.out]; rfl, h1, (h3.block _ (lt_of_heap k0)).trans k0, (h3.block _ (lt_of_heap k1)).trans k1, heap_alloc_new _ _, hb.trans (h3.mono hb.size), by omega⟩
  have HH := Lib.hid h
  have HA := Lib.hid hA
  clear hfind hnf hnr k0 k1 hb h hl ho hse hI hSO
  go_enter Try.func35, Try.ntmps35
  go_wp2_with (go_at_call 12; (with_reducible refine hfind2.mono ?_); rintro e u1 ⟨p1, c1, rfl, hl1, hx1⟩; have X1 := Lib.hid hx1; have L0 := Lib.hid hl1; clear hfind2 hl1 hx1)
  generalize u1.alloc (.cells #[.int .i64 fk, .int .i64 fa, .int .i64 fm, .slice p1 nf (c1 + nf)] 38) = w3 at *
  have X2 := Lib.hid (X1.out.on (Below.refl w3.heap.size w3).drew)
  obtain ⟨-, r1, -⟩ := row_cells X2.out.row
  go_region_held3 (fun u => u.cell? ⟨u1.heap.size, 1, none⟩ = some (.int .i64 fa)) (first | assumption | exact r1) (first
      | (go_at_call 49; (with_reducible refine (hfit _).mono ?_); rintro e u2 ⟨rfl, rfl⟩))
  all_goals
    clear r1 hmin hfit
    obtain ⟨r0, r1, r2, r3, -⟩ := row_cells X2.out.row
    have L2 := Lib.hid (L0.out.below X2.out.below)
    go_wp2_with (go_at_call 46; (with_reducible refine (hout _ _ _ L2.out).mono ?_); rintro e u4 ⟨rfl, hb4⟩; have hx4 := X2.out.on hb4; obtain ⟨-, g1, -, -, gf⟩ := row_cells hx4.row; have f1 := gf 1; have X4 := Lib.hid hx4; clear hout hb4 hx4 gf X2 L2 r0 r1 r2 r3)
    have hX5 := X4.out.set1 (.int .i64 (fa - N))
    generalize u4.setCell ⟨u1.heap.size, 1, none⟩ (.int .i64 (fa - N)) = u5 at *
    have X5 := Lib.hid hX5
    clear hX5 X4 X1 g1 f1
    go_loopw [13, 14, 15] (fun v d k wr => ∃ j : Nat, j ≤ nf ∧ k = .int .i64 (j : Int) ∧ d = .bool (leaseTo (node, N) (fo.take j)).2 ∧ Hid (OwnL u5.heap.size wr v (leaseTo (node, N) (fo.take j)).1) ∧ Below u5.heap.size u5 wr) (fun _ _ k _ => nf - (intOf k).toNat)
    case atStart => exact ⟨0, by omega, rfl, rfl, own_none _ _, Below.refl _ _⟩
    case round =>
      obtain ⟨j, hj, rfl, rfl, hown, hbw⟩ := hrel
      have hX := X5.out.on hbw
      obtain ⟨r0, r1, r2, r3, rf⟩ := row_cells hX.row
      by_cases hlt : j < nf
      · obtain ⟨b', o', rfl, x0', x1'⟩ := leases_some (L0.out.below X5.out.below) (show j < fo.length by rw [HNF.out]; exact hlt)
        have x0 := cell_on x0' hbw
        have x1 := cell_on x1' hbw
        have hlt' : (j : Int) < (nf : Int) := by omega
        have hst := leaseTo_take (node, N) fo j (by rw [HNF.out]; exact hlt)
        have hcs := lease_cases (node, N) (leaseTo (node, N) (fo.take j)) (fo.getD j (0, 0))
        rw [← hst] at hcs
        have hlen2 : (leaseTo (node, N) (fo.take j)).1.length ≤ 1001 := by
          have h1 := leaseTo_len (node, N) (fo.take j)
          have h2 : (fo.take j).length ≤ 1000 := by simp; omega
          omega
        generalize leaseTo (node, N) (fo.take j) = S at *
        generalize hSE : leaseTo (node, N) (fo.take (j + 1)) = S' at *
        have HSE := Lib.hid hSE
        generalize fo.getD j (0, 0) = y at *
        obtain ⟨y1, y2⟩ := y
        obtain ⟨l, D⟩ := S
        simp only at hlen2 hown hcs x0 x1 x0' x1'
        have HXX : Hid (∀ u, Below u5.heap.size u5 u → u.cell? ⟨b', o' + j * 2, none⟩ = some (.int .i64 y1) ∧ u.cell? ⟨b', o' + j * 2 + 1, none⟩ = some (.int .i64 y2) ∧ u.cell? ⟨u1.heap.size, 3, none⟩ = some (.slice (some ⟨b', o', none⟩) nf (c1 + nf))) := fun u hu => ⟨cell_on x0' hu, cell_on x1' hu, (row_cells (X5.out.on hu).row).2.2.2.1⟩
        have HBW := Lib.hid hbw
        clear hSE hst x0' x1' hX rf
        obtain ⟨pv, cv, rfl⟩ := hown.out.shape
        generalize hnl : l.length = nl at *
        have HNL := Lib.hid hnl
        have HOW := Lib.hid hown.out
        clear hnl hown
        rcases hcs with ⟨rfl, hS⟩ | ⟨rfl, hk, hS⟩ | ⟨rfl, hk, hS⟩
        · have SE := Lib.hid (HSE.out.trans hS)
          clear hS HSE
          go_wp2_with (at_builtin; refine push_lease rfl (.tmp 78) (.tmp 84) rfl u5 wr (.slice pv nl cv) rfl l nl HNL.out HOW.out HBW.out (Below.refl _ _) wr.heap.size y1 y2 rfl (heap_alloc_new _ _) (by omega) ?_; intro p4 c4 w4 R4 B4; clear r0 r1 r2 r3 x0 x1)
          go_roundw
          case rel => exact ⟨j + 1, by omega, by go_num, by rw [SE.out], by rw [SE.out]; exact R4, B4⟩
          case measure => simp [intOf]; omega
        · have SE := Lib.hid (HSE.out.trans hS)
          clear hS HSE
          go_wp2_with (first
            | (at_builtin; refine push_lease rfl (.tmp 72) (.tmp 76) rfl u5 wr (.slice pv nl cv) rfl l nl HNL.out HOW.out HBW.out (Below.refl _ _) wr.heap.size node N rfl (heap_alloc_new _ _) (by omega) ?_; intro p4 c4 w4 R4 B4; clear r0 r1 r2 r3 x0 x1; obtain ⟨x0, x1, r3⟩ := HXX.out _ B4)
            | (at_builtin; refine push_lease rfl (.tmp 78) (.tmp 84) rfl u5 w4 (.slice p4 (nl + 1) c4) rfl (l ++ [(node, N)]) (nl + 1) (by rw [List.length_append, HNL.out]; rfl) R4.out B4 (Below.refl _ _) w4.heap.size y1 y2 rfl (heap_alloc_new _ _) (by omega) ?_; intro p5 c5 w5 R5 B5; clear r3 x0 x1))
          go_roundw
          case rel => exact ⟨j + 1, by omega, by go_num, by rw [SE.out], by rw [SE.out]; exact R5, B5⟩
          case measure => simp [intOf]; omega
        · have SE := Lib.hid (HSE.out.trans hS)
          clear hS HSE
          go_wp2_with (at_builtin; refine push_lease rfl (.tmp 78) (.tmp 84) rfl u5 wr (.slice pv nl cv) rfl l nl HNL.out HOW.out HBW.out (Below.refl _ _) wr.heap.size y1 y2 rfl (heap_alloc_new _ _) (by omega) ?_; intro p4 c4 w4 R4 B4; clear r0 r1 r2 r3 x0 x1)
          go_roundw
          case rel => exact ⟨j + 1, by omega, by go_num, by rw [SE.out], by rw [SE.out]; exact R4, B4⟩
          case measure => simp [intOf]; omega
      · obtain rfl : j = nf := by omega
        have hto : fo.take j = fo := by rw [← HNF.out]; exact List.take_length
        rw [hto] at hown ⊢
        have hne1 : ¬ (u1.heap.size = w.heap.size) := by have := hX.ge; omega
        have hne2 : ¬ (w.heap.size = u1.heap.size) := by have := hX.ge; omega
        have hbx : u1.heap.size < u5.heap.size := by have := lt_of_heap X5.out.row; omega
        have TAIL : Hid (∀ (u : World) (pv : Option Addr) (n cv : Nat), Below u5.heap.size u5 u → OwnL u5.heap.size u (.slice pv n cv) (withLease fo (node, N)) →
            Bxs w start p nr c u1.heap.size (.int .i64 fk) (.int .i64 (fa - N)) (.int .i64 fm) (.slice pv n cv) (u.setCell ⟨u1.heap.size, 3, none⟩ (.slice pv n cv)) ∧
            Calls Try.prog 62 #[.agg #[.int .i64 start, .slice p nr (c + nr)], .agg #[.int .i64 fk, .int .i64 (fa - N), .int .i64 fm, .slice pv n cv]] (u.setCell ⟨u1.heap.size, 3, none⟩ (.slice pv n cv)) fun e w' => ∃ p' c' nT, e = .returned (.agg #[.int .i64 start, .slice p' nT (c' + nT)]) ∧ T.rows.length = nT ∧ RowsAt w' p' T.rows ∧ Below (u.setCell ⟨u1.heap.size, 3, none⟩ (.slice pv n cv)).heap.size (u.setCell ⟨u1.heap.size, 3, none⟩ (.slice pv n cv)) w') := by
          intro u pv n cv hb ho
          have e6 := (X5.out.on hb).set3 (.slice pv n cv)
          obtain ⟨p6, c6, hv6, hl6⟩ := (ho.set (b := u1.heap.size) (o := 3) (u := .slice pv n cv) hbx).leases
          simp only [Value.slice.injEq] at hv6
          obtain ⟨rfl, rfl, rfl⟩ := hv6
          refine ⟨e6, (hset _ pv c6 (HH.out.below e6.below) hl6).mono ?_⟩
          rintro e w' ⟨p', c', rfl, g1, g2⟩
          exact ⟨p', c', _, by rw [← hTS.out]; rfl, rfl, g1, g2⟩
        have hWL : Hid (withLease fo (node, N) = if (leaseTo (node, N) fo).2 = true then (leaseTo (node, N) fo).1 else (leaseTo (node, N) fo).1 ++ [(node, N)]) := rfl
        have hlen2 : (leaseTo (node, N) fo).1.length ≤ 1001 := by
          have h1 := leaseTo_len (node, N) fo
          rw [HNF.out] at h1
          omega
        generalize leaseTo (node, N) fo = S at *
        generalize withLease fo (node, N) = WL at *
        obtain ⟨l, D⟩ := S
        simp only at hlen2 hown
        obtain ⟨a0, a1, -⟩ := tab2 hX.tab
        have f3 := rf 3
        obtain ⟨pv, cv, rfl⟩ := hown.out.shape
        generalize hnl : l.length = nl at *
        have HNL := Lib.hid hnl
        have HOW := Lib.hid hown.out
        have HBW := Lib.hid hbw
        clear hnl hown hset hX rf
        cases D with
        | true =>
          obtain ⟨e6, hs7⟩ := TAIL.out wr pv nl cv HBW.out (by rw [hWL.out, if_pos rfl]; exact HOW.out)
          have E6 := Lib.hid e6
          clear e6 TAIL
          go_wp2_with (go_at_call 62; (with_reducible refine hs7.mono ?_); rintro e u7 ⟨p7, c7, nT, rfl, hnT, g1, g2⟩; have E7 := Lib.hid (E6.out.on g2); clear a0 a1 r0 r1 r2 f3; obtain ⟨d0, d1, ff⟩ := tab2 E7.out.res; have f0 := ff 0; have f1 := ff 1; have HR7 := Lib.hid (tells_res (c' := c7) E7.out.res g1 E7.out.below hTS.out hnT (fun v => .tuple #[v, .int .i64 N])); clear ff hs7 hnT g1 g2)
          refine bodyPost_ret (v := .tuple #[.agg #[.int .i64 start, .slice p7 nT (c7 + nT)], .int .i64 N]) (by simp [results, Try.results35, go_sem, d0, d1]) rfl HR7.out
        | false =>
          have hWL2 : WL = l ++ [(node, N)] := by rw [hWL.out]; simp
          have HWL := Lib.hid hWL2
          clear hWL hWL2
          go_wp2_with (first
            | (at_builtin; refine push_lease rfl (.tmp 88) (.tmp 92) rfl u5 wr (.slice pv nl cv) rfl l nl HNL.out HOW.out HBW.out (Below.refl _ _) wr.heap.size node N rfl (heap_alloc_new _ _) (by omega) ?_; intro p4 c4 w4 R4 B4; obtain ⟨e6, hs7⟩ := TAIL.out w4 p4 (nl + 1) c4 B4 (by rw [HWL.out]; exact R4.out); have E6 := Lib.hid e6; clear r0 r1 r2 r3 a0 a1 f3 e6; have hx4 := X5.out.on B4; obtain ⟨a0, a1, -⟩ := tab2 hx4.tab; obtain ⟨r0, r1, r2, r3, qf⟩ := row_cells hx4.row; have f3 := qf 3; clear hx4 qf TAIL)
            | (go_at_call 62; (with_reducible refine hs7.mono ?_); rintro e u7 ⟨p7, c7, nT, rfl, hnT, g1, g2⟩; have E7 := Lib.hid (E6.out.on g2); clear a0 a1 r0 r1 r2 f3; obtain ⟨d0, d1, ff⟩ := tab2 E7.out.res; have f0 := ff 0; have f1 := ff 1; have HR7 := Lib.hid (tells_res (c' := c7) E7.out.res g1 E7.out.below hTS.out hnT (fun v => .tuple #[v, .int .i64 N])); clear ff hs7 hnT g1 g2))
          refine bodyPost_ret (v := .tuple #[.agg #[.int .i64 start, .slice p7 nT (c7 + nT)], .int .i64 N]) (by simp [results, Try.results35, go_sem, d0, d1]) rfl HR7.out

set_option maxRecDepth 100000 in
set_option maxHeartbeats 8000000 in
theorem grant_no (t : Tb) (p : Option Addr) (c : Nat) (key node want : Int) (w : World) (h : RowsAt w p t.rows) (hl : t.rows.length ≤ 1000) (ho : ∀ r ∈ t.rows, r.out.length ≤ 1000) (hn : mayGrant t key node want = false) :
    Calls Try.prog 35 #[tabVal t p c, .int .i64 key, .int .i64 node, .int .i64 want] w (TellsTab w t (fun v => .tuple #[v, .int .i64 0])) := by
  have hfo := find_out ho key
  have hmin := least_run (fit want) (findRow t key).avail (grantN (findRow t key) want) rfl
  have hfit := rfit_any want
  have hcase : findIs t key = false ∨ (findIs t key = true ∧ grantN (findRow t key) want < 1) ∨ (findIs t key = true ∧ 1 ≤ grantN (findRow t key) want ∧ node < 0) ∨ (findIs t key = true ∧ 1 ≤ grantN (findRow t key) want ∧ 0 ≤ node ∧ 63 < node) ∨ (findIs t key = true ∧ 1 ≤ grantN (findRow t key) want ∧ 0 ≤ node ∧ node ≤ 63 ∧ 0 ≤ outAt (findRow t key).out node) := by
    unfold mayGrant at hn
    cases hI : findIs t key with
    | false => exact .inl rfl
    | true =>
      rw [hI] at hn
      simp at hn
      by_cases g1 : grantN (findRow t key) want < 1
      · exact .inr (.inl ⟨rfl, g1⟩)
      · by_cases g2 : node < 0
        · exact .inr (.inr (.inl ⟨rfl, by omega, g2⟩))
        · by_cases g3 : 63 < node
          · exact .inr (.inr (.inr (.inl ⟨rfl, by omega, by omega, g3⟩)))
          · exact .inr (.inr (.inr (.inr ⟨rfl, by omega, by omega, by omega, hn (by omega) (by omega) (by omega)⟩)))
  generalize fit want = f at *
  generalize grantN (findRow t key) want = N at *
  obtain ⟨start, rows⟩ := t
  obtain ⟨k0, k1, hb⟩ := two_new w (.cells #[.int .i64 start, .slice p rows.length (c + rows.length)] 24) (.cells #[.int .i64 0, .slice none 0 0] 24)
  have hfind := find_any ⟨start, rows⟩ p c key w ((w.alloc (.cells #[.int .i64 start, .slice p rows.length (c + rows.length)] 24)).alloc (.cells #[.int .i64 0, .slice none 0 0] 24)) h hb hl
  have hout := fun (u : World) (p' : Option Addr) (c' : Nat) (hu : LeasesAt u p' (findRow ⟨start, rows⟩ key).out) => out_any (findRow ⟨start, rows⟩ key) p' c' node u hu hfo
  generalize outAt (findRow ⟨start, rows⟩ key).out node = O at *
  generalize findRow ⟨start, rows⟩ key = F at *
  generalize findIs ⟨start, rows⟩ key = I at *
  obtain ⟨fk, fa, fm, fo⟩ := F
  simp only [tabVal, rowVal] at *
  generalize hnf : fo.length = nf at *
  generalize hnr : rows.length = nr at *
  have HNF := Lib.hid hnf
  have HNR := Lib.hid hnr
  have hfind2 : Calls Try.prog 12 #[.agg #[.int .i64 start, .slice p nr (c + nr)], .int .i64 key] ((w.alloc (.cells #[.int .i64 start, .slice p nr (c + nr)] 24)).alloc (.cells #[.int .i64 0, .slice none 0 0] 24)) fun e w' => ∃ p1 c1, e = .returned (.tuple #[.agg #[.int .i64 fk, .int .i64 fa, .int .i64 fm, .slice p1 nf (c1 + nf)], .bool I]) ∧ LeasesAt w p1 fo ∧
      Bxs w start p nr c w'.heap.size (.int .i64 fk) (.int .i64 fa) (.int .i64 fm) (.slice p1 nf (c1 + nf)) (w'.alloc (.cells #[.int .i64 fk, .int .i64 fa, .int .i64 fm, .slice p1 nf (c1 + nf)] 38)) := by
    refine hfind.mono ?_
    rintro e w' ⟨p1, c1, rfl, h1, h2⟩
    have ba := (Below.refl w'.heap.size w').alloc (Nat.le_refl _) (.cells #[.int .i64 fk, .int .i64 fa, .int .i64 fm, .slice p1 nf (c1 + nf)] 38)
    have h3 := h2.trans (ba.mono h2.size)
    have hz := h2.size
    simp at hz
    exact ⟨p1, c1, by rw [← HNF.out]; rfl, h1, (h3.block _ (lt_of_heap k0)).trans k0, (h3.block _ (lt_of_heap k1)).trans k1, heap_alloc_new _ _, hb.trans (h3.mono hb.size), by omega⟩
  have HH := Lib.hid h
  clear hfind hnf hnr k0 k1 hb h hl ho hn hfo
  go_enter Try.func35, Try.ntmps35
  go_wp2_with (go_at_call 12; (with_reducible refine hfind2.mono ?_); rintro e u1 ⟨p1, c1, rfl, hl1, hx1⟩; have X1 := Lib.hid hx1; have L0 := Lib.hid hl1; clear hfind2 hl1 hx1)
  generalize u1.alloc (.cells #[.int .i64 fk, .int .i64 fa, .int .i64 fm, .slice p1 nf (c1 + nf)] 38) = w3 at *
  have X2 := Lib.hid (X1.out.on (Below.refl w3.heap.size w3).drew)
  obtain ⟨-, r1, -⟩ := row_cells X2.out.row
  go_region_held3 (fun u => u.cell? ⟨u1.heap.size, 1, none⟩ = some (.int .i64 fa)) (first | assumption | exact r1) (first
      | (go_at_call 49; (with_reducible refine (hfit _).mono ?_); rintro e u2 ⟨rfl, rfl⟩))
  all_goals
    clear r1 hmin hfit
    obtain ⟨r0, r1, r2, r3, -⟩ := row_cells X2.out.row
    have L2 := Lib.hid (L0.out.below X2.out.below)
    obtain ⟨a0, a1, -⟩ := tab2 X2.out.tab
    obtain ⟨d0, d1, ff⟩ := tab2 X2.out.res
    have f0 := ff 0
    have f1 := ff 1
    clear ff
    obtain ⟨i0, i1, ff⟩ := tab2 X1.out.res
    have l0 := ff 0
    have l1 := ff 1
    clear ff
    rcases hcase with rfl | ⟨rfl, y1⟩ | ⟨rfl, y1, y2⟩ | ⟨rfl, y1, y2, y3⟩ | ⟨rfl, y1, y2, y3, y4⟩
    all_goals
      go_wp2_with (go_at_call 46; (with_reducible refine (hout _ _ _ L2.out).mono ?_); rintro e u4 ⟨rfl, hb4⟩; have X4 := Lib.hid (X2.out.on hb4); clear X2; have X2 := X4; clear X4 hout hb4 L2 a0 a1 d0 d1 f0 f1 r0 r1 r2 r3; obtain ⟨a0, a1, -⟩ := tab2 X2.out.tab; obtain ⟨d0, d1, ff⟩ := tab2 X2.out.res; have f0 := ff 0; have f1 := ff 1; clear ff)
      refine bodyPost_ret (v := .tuple #[.agg #[.int .i64 start, .slice p nr (c + nr)], .int .i64 0]) (by simp [results, Try.results35, go_sem, d0, d1, i0, i1]) rfl ?_
      have BE := X2.out.out (.int .i64 start) (.slice p nr (c + nr))
      exact ⟨p, c, by rw [← HNR.out]; rfl, HH.out.below BE, BE⟩
end Go.Proofs.Ytcnnepmhdccipaa.Ledger

namespace Go.Proofs.Ytcnnepmhdccipaa.Ledger
open _root_.Go.Proofs.Ytcnnepmhdccipaa.Frame (Rw Tb noRow tableOk rowOk leaseAt isIn isKey allTo)
open _root_.Go.Proofs.Ytcnnepmhdccipaa.Sat (fit add sub mul add_lo add_hi fit_lo fit_hi)

/-- An int. -/
def Num (x : Int) : Prop := -9223372036854775808 ≤ x ∧ x ≤ 9223372036854775807
/-- An act. -/
structure Ac where
  kind : Int
  key : Int
  now : Int
  node : Int
  n : Int
def noAc : Ac := ⟨0, 0, 0, 0, 0⟩
/-- What an act makes, and what it tells. -/
def actOf (f : Cf) (t : Tb) (a : Ac) : Tb × Int :=
  if a.kind % 5 ≤ 1 then mint t a.key a.now f else if a.kind % 5 = 2 then settle t a.key a.node a.n else grant t a.key a.node a.n

structure RowB (m : Nat) (r : Rw) : Prop where
  len : r.out.length ≤ m
  lo : 0 ≤ r.avail
  hi : r.avail ≤ 4611686018427387904
  mark : Num r.mark
  key : Num r.key
  out : ∀ x ∈ r.out, (0 ≤ x.1 ∧ x.1 ≤ 63) ∧ 1 ≤ x.2 ∧ x.2 ≤ 2147483648
structure Base (n : Nat) (t : Tb) : Prop where
  len : t.rows.length ≤ 16 + n
  lo : 0 ≤ t.start
  hi : t.start ≤ 4611686018427387904
  rows : ∀ r ∈ t.rows, RowB (64 + n) r
theorem RowB.more {m m' : Nat} {r : Rw} (h : RowB m r) (hm : m ≤ m') : RowB m' r := ⟨Nat.le_trans h.len hm, h.lo, h.hi, h.mark, h.key, h.out⟩
theorem Base.more {n : Nat} {t : Tb} (h : Base n t) : Base (n + 1) t := ⟨by have := h.len; omega, h.lo, h.hi, fun r hr => (h.rows r hr).more (by omega)⟩

theorem is_in {x lo hi : Int} (h : isIn x lo hi = true) : lo ≤ x ∧ x ≤ hi := by
  simpa [isIn] using h
theorem base_first {t : Tb} (h : tableOk t = true) : Base 0 t := by
  simp only [tableOk, Bool.and_eq_true, decide_eq_true_eq] at h
  obtain ⟨⟨h1, h2⟩, h3⟩ := h
  have h1 := is_in h1
  refine ⟨by omega, h1.1, h1.2, fun r hr => ?_⟩
  obtain ⟨j, hj, e⟩ := List.mem_iff_getElem.1 hr
  have h4 : Frame.rowAt t.rows t.start j = true := by
    rw [allTo, List.all_eq_true] at h3
    exact h3 j (List.mem_range.2 hj)
  have e2 : t.rows.getD j noRow = r := by simp [List.getD, hj, e]
  simp only [Frame.rowAt, e2, Bool.and_eq_true, rowOk, decide_eq_true_eq] at h4
  obtain ⟨⟨⟨⟨⟨k1, k2⟩, k3⟩, k4⟩, k5⟩, -⟩ := h4
  have k2 := is_in k2
  have k3 := is_in k3
  have k1 : 0 ≤ r.key ∧ r.key < 524288 := by simpa [isKey] using k1
  refine ⟨by omega, k2.1, by omega, by unfold Num; omega, by unfold Num; omega, fun x hx => ?_⟩
  obtain ⟨i, hi, e3⟩ := List.mem_iff_getElem.1 hx
  have h5 : leaseAt r.out i = true := by
    rw [allTo, List.all_eq_true] at k5
    exact k5 i (List.mem_range.2 hi)
  have e4 : r.out.getD i (0, 0) = x := by simp [List.getD, hi, e3]
  simp only [leaseAt, e4, Bool.and_eq_true] at h5
  have m1 := is_in h5.1.1
  have m2 := is_in h5.1.2
  omega
theorem find_in (t : Tb) (key : Int) : findRow t key = ⟨key, 0, t.start, []⟩ ∨ findRow t key ∈ t.rows := by
  unfold findRow
  split
  · exact .inl rfl
  · rename_i h
    rcases spot_cases (fun r => r.key == key) noRow t.rows with ⟨h1, -⟩ | ⟨j, h1, h2, -⟩
    · exact absurd (show place t.rows key < 0 by unfold place; omega) h
    · have : (place t.rows key).toNat = j := by unfold place; omega
      rw [this]
      exact .inr (by simp [List.getD, h2])
theorem base_find {n : Nat} {t : Tb} (h : Base n t) {key : Int} (hk : Num key) : RowB (64 + n) (findRow t key) := by
  rcases find_in t key with e | e
  · rw [e]
    have := h.lo
    have := h.hi
    exact ⟨by simp, Int.le_refl _, by simp, by simp only [Num]; omega, hk, fun x hx => by cases hx⟩
  · exact h.rows _ e
theorem base_minted {m : Nat} {r : Rw} (h : RowB m r) {now : Int} (hn : Num now) (R B : Int) : RowB m (minted r now R B) := by
  have h1 := h.mark
  refine ⟨h.len, add_lo _, add_hi _, ?_, h.key, h.out⟩
  simp only [minted, Num] at *
  omega
theorem base_look {n : Nat} {t : Tb} (h : Base n t) {key now : Int} (hk : Num key) (hn : Num now) (R B : Int) : RowB (64 + n) (look t key now R B) := base_minted (base_find h hk) hn R B
theorem setTo_mem (r x : Rw) : ∀ (l : List Rw) (s : List Rw × Bool), x ∈ (l.foldl (setStep r) s).1 → x = r ∨ x ∈ s.1 ∨ x ∈ l
  | [], s, h => .inr (.inl h)
  | y :: l, (a, b), h => by
    rcases setTo_mem r x l _ h with h1 | h1 | h1
    · exact .inl h1
    · simp only [setStep, List.mem_append] at h1
      rcases h1 with h1 | h1
      · split at h1
        · rcases List.mem_append.1 h1 with h2 | h2
          · exact .inr (.inl h2)
          · simp only [List.mem_singleton] at h2
            exact .inl h2
        · exact .inr (.inl h1)
      · split at h1
        · cases h1
        · simp only [List.mem_singleton] at h1
          exact .inr (.inr (by rw [h1]; exact List.mem_cons_self))
    · exact .inr (.inr (List.mem_cons_of_mem _ h1))
theorem setRows_mem {r x : Rw} {l : List Rw} (h : x ∈ setRows l r) : x = r ∨ x ∈ l := by
  have key : x ∈ (setTo r l).1 → x = r ∨ x ∈ l := fun h => by
    rcases setTo_mem r x l ([], false) h with h1 | h1 | h1
    · exact .inl h1
    · cases h1
    · exact .inr h1
  unfold setRows at h
  split at h
  · exact key h
  · rcases List.mem_append.1 h with h1 | h1
    · exact key h1
    · simp only [List.mem_singleton] at h1
      exact .inl h1
theorem base_set {n : Nat} {t : Tb} (h : Base n t) {r : Rw} (hr : RowB (64 + n + 1) r) : Base (n + 1) (setRow t r) := by
  have h1 := setRows_len t.rows r
  have h2 := h.len
  refine ⟨by simp only [setRow]; omega, h.lo, h.hi, fun x hx => ?_⟩
  rcases setRows_mem hx with e | e
  · rw [e]; exact hr
  · exact (h.rows x e).more (by omega)
theorem base_sweep {n : Nat} {t : Tb} (h : Base n t) (now : Int) (f : Cf) : Base n (sweep t now f) := ⟨Nat.le_trans (sweep_len t now f) h.len, h.lo, h.hi, fun r hr => h.rows r (sweep_mem hr)⟩
theorem base_mint {n : Nat} {t : Tb} (h : Base n t) {key now : Int} (hk : Num key) (hn : Num now) (f : Cf) : Base (n + 1) (mint t key now f).1 := by
  unfold mint
  split
  · exact h.more
  · split
    · exact base_set h ((base_look h hk hn _ _).more (by omega))
    · split
      · exact h.more
      · exact base_set (base_sweep h now f) ((base_look (base_sweep h now f) hk hn _ _).more (by omega))
theorem amount_in {n : Nat} {t : Tb} (h : Base n t) {key node : Int} (hk : Num key) (hh : has t key node = true) : 1 ≤ amountOf t key node ∧ amountOf t key node ≤ 2147483648 := by
  have hb := base_find h hk
  unfold has at hh
  simp only [Bool.and_eq_true, decide_eq_true_eq] at hh
  unfold amountOf
  rcases spot_cases (fun x => x.1 == node) (0, 0) (findRow t key).out with ⟨h1, -⟩ | ⟨j, h1, h2, -⟩
  · have := hh.2
    unfold outAt at this
    omega
  · have e : (outAt (findRow t key).out node).toNat = j := by unfold outAt; omega
    rw [e]
    have hm : (findRow t key).out.getD j (0, 0) ∈ (findRow t key).out := by simp [List.getD, h2]
    exact (hb.out _ hm).2
theorem base_settle {n : Nat} {t : Tb} (h : Base n t) {key : Int} (hk : Num key) (node spent : Int) : Base (n + 1) (settle t key node spent).1 := by
  unfold settle
  split
  · have hb := base_find h hk
    refine base_set h ⟨?_, add_lo _, add_hi _, hb.mark, hb.key, fun x hx => hb.out x (List.mem_of_mem_eraseIdx hx)⟩
    have h1 : (settled (findRow t key) (outAt (findRow t key).out node).toNat (amountOf t key node - spentOf (amountOf t key node) spent)).out.length ≤ (findRow t key).out.length := List.length_eraseIdx_le _ _
    have := hb.len
    omega
  · exact h.more
theorem leaseTo_mem (x y : Int × Int) : ∀ (l : List (Int × Int)) (s : List (Int × Int) × Bool), y ∈ (l.foldl (leaseStep x) s).1 → y = x ∨ y ∈ s.1 ∨ y ∈ l
  | [], s, h => .inr (.inl h)
  | z :: l, (a, b), h => by
    rcases leaseTo_mem x y l _ h with h1 | h1 | h1
    · exact .inl h1
    · simp only [leaseStep, List.mem_append] at h1
      rcases h1 with h1 | h1
      · split at h1
        · rcases List.mem_append.1 h1 with h2 | h2
          · exact .inr (.inl h2)
          · simp only [List.mem_singleton] at h2
            exact .inl h2
        · exact .inr (.inl h1)
      · simp only [List.mem_singleton] at h1
        exact .inr (.inr (by rw [h1]; exact List.mem_cons_self))
    · exact .inr (.inr (List.mem_cons_of_mem _ h1))
theorem withLease_mem {x y : Int × Int} {l : List (Int × Int)} (h : y ∈ withLease l x) : y = x ∨ y ∈ l := by
  have key : y ∈ (leaseTo x l).1 → y = x ∨ y ∈ l := fun h => by
    rcases leaseTo_mem x y l ([], false) h with h1 | h1 | h1
    · exact .inl h1
    · cases h1
    · exact .inr h1
  unfold withLease at h
  split at h
  · exact key h
  · rcases List.mem_append.1 h with h1 | h1
    · exact key h1
    · simp only [List.mem_singleton] at h1
      exact .inl h1
theorem may_in {t : Tb} {key node want : Int} (h : mayGrant t key node want = true) : 1 ≤ grantN (findRow t key) want ∧ 0 ≤ node ∧ node ≤ 63 := by
  simp only [mayGrant, Bool.and_eq_true, decide_eq_true_eq] at h
  exact ⟨h.1.1.1.2, h.1.1.2, h.1.2⟩
theorem base_grant {n : Nat} {t : Tb} (h : Base n t) {key : Int} (hk : Num key) (node want : Int) : Base (n + 1) (grant t key node want).1 := by
  unfold grant
  split
  · rename_i hm
    have hm := may_in hm
    have hb := base_find h hk
    have h1 := hb.lo
    have h2 := hb.hi
    have h3 := fit_hi want
    have hg : grantN (findRow t key) want ≤ (findRow t key).avail ∧ grantN (findRow t key) want ≤ 2147483648 := by unfold grantN; omega
    refine base_set h ⟨?_, ?_, ?_, hb.mark, hb.key, fun x hx => ?_⟩
    · have := hb.len
      simp only [granted]
      rw [withLease_len]
      omega
    · simp only [granted]; omega
    · simp only [granted]; omega
    · rcases withLease_mem hx with e | e
      · rw [e]; exact ⟨⟨hm.2.1, hm.2.2⟩, hm.1, hg.2⟩
      · exact hb.out x e
  · exact h.more
/-- Any act. -/
theorem base_act {n : Nat} {t : Tb} (h : Base n t) (f : Cf) {a : Ac} (hk : Num a.key) (hn : Num a.now) : Base (n + 1) (actOf f t a).1 := by
  unfold actOf
  split
  · exact base_mint h hk hn f
  · split
    · exact base_settle h hk _ _
    · exact base_grant h hk _ _
end Go.Proofs.Ytcnnepmhdccipaa.Ledger

namespace Go.Proofs.Ytcnnepmhdccipaa.Ledger
open Go.RowKit
open _root_.Go.Proofs.Ytcnnepmhdccipaa.Frame (Rw Tb noRow LeasesAt cell_on)
open _root_.Go.Proofs.Ytcnnepmhdccipaa.Codec (own_below own_lower lt_of_heap frozen_of heap_set below_new)

/-- What a node holds. -/
def heldOf (node : Int) (l : List Rw) : List Int := (l.filter fun r => decide (0 ≤ outAt r.out node)).map (·.key)
def held (t : Tb) (node : Int) : List Int := heldOf node t.rows
theorem heldOf_take (node : Int) (l : List Rw) (j : Nat) (h : j < l.length) : heldOf node (l.take (j + 1)) = heldOf node (l.take j) ++ (if 0 ≤ outAt (l.getD j noRow).out node then [(l.getD j noRow).key] else []) := by
  have e : l.getD j noRow = l[j] := by simp [List.getD, h]
  rw [e, heldOf, List.take_succ_eq_append_getElem h, List.filter_append, List.map_append]
  by_cases h2 : 0 ≤ outAt l[j].out node
  · rw [if_pos h2]; simp [heldOf, h2]
  · rw [if_neg h2]; simp [heldOf, h2]
theorem heldOf_len (node : Int) (l : List Rw) (j : Nat) : (heldOf node (l.take j)).length ≤ l.length := by
  have h1 : (heldOf node (l.take j)).length ≤ (l.take j).length := by
    unfold heldOf
    rw [List.length_map]
    exact List.length_filter_le _ _
  have h2 : (l.take j).length ≤ l.length := by simp; omega
  omega

/-- A call returns numbers. -/
def TellsInts (w : World) (l : List Int) (e : Ending) (w' : World) : Prop := ∃ p c, e = .returned (.slice p l.length c) ∧ (∀ k : Nat, k < l.length → ∃ b o, p = some ⟨b, o, none⟩ ∧ w'.cell? ⟨b, o + k, none⟩ = some (.int .i64 (l.getD k 0))) ∧ Below w.heap.size w w'

set_option maxRecDepth 100000 in
set_option maxHeartbeats 2000000 in
theorem held_any (t : Tb) (p : Option Addr) (c : Nat) (node : Int) (w : World) (h : RowsAt w p t.rows) (hl : t.rows.length ≤ 1000) (ho : ∀ r ∈ t.rows, r.out.length ≤ 1000) :
    Calls Try.prog 18 #[tabVal t p c, .int .i64 node] w (TellsInts w (held t node)) := by
  obtain ⟨i0, hi, hz0, hz1, hz2⟩ := info_parts infoI
  obtain ⟨start, rows⟩ := t
  have HV : Hid (∀ j, j = rows.length → held ⟨start, rows⟩ node = heldOf node (rows.take j)) := by
    rintro j rfl
    show heldOf node rows = _
    rw [List.take_length]
  generalize held ⟨start, rows⟩ node = V at HV ⊢
  have HS : Hid (∀ j, j < rows.length → heldOf node (rows.take (j + 1)) = heldOf node (rows.take j) ++ (if 0 ≤ outAt (rows.getD j noRow).out node then [(rows.getD j noRow).key] else [])) := fun j => heldOf_take node rows j
  have HL := fun j => Lib.hid (heldOf_len node rows j)
  have h00 : heldOf node (rows.take 0) = [] := by simp [heldOf]
  have hout := fun (u : World) (j : Nat) (hj : j < rows.length) (p' : Option Addr) (c' : Nat) (hu : LeasesAt u p' (rows.getD j noRow).out) => out_any (rows.getD j noRow) p' c' node u hu (ho _ (by simp [List.getD, hj]))
  generalize hG : (fun j => heldOf node (rows.take j)) = G
  have hGj : ∀ j, heldOf node (rows.take j) = G j := fun j => by rw [← hG]
  simp only [hGj] at HV HS HL h00
  clear hG hGj ho
  simp only [tabVal]
  have hb := (Below.refl w.heap.size w).alloc (Nat.le_refl _) (.cells #[.int .i64 start, .slice p rows.length (c + rows.length)] 24)
  have hbx := heap_alloc_new w (.cells #[.int .i64 start, .slice p rows.length (c + rows.length)] 24)
  have HH := Lib.hid (h.below hb)
  have HB := Lib.hid hb
  have HX := Lib.hid hbx
  clear h hb hbx
  go_enter Try.func18, Try.ntmps18
  go_wp2
  generalize w.alloc (.cells #[.int .i64 start, .slice p rows.length (c + rows.length)] 24) = w1 at *
  go_loopw [5, 6] (fun v i wr => ∃ j : Nat, j ≤ rows.length ∧ i = .int .i64 (j : Int) ∧ Hid (OwnI w1.heap.size wr v (G j)) ∧ Below w1.heap.size w1 wr) (fun _ i _ => rows.length - (intOf i).toNat)
  case atStart => exact ⟨0, by omega, rfl, (by rw [h00]; exact World.ownsRow_nil _ _ _ _), Below.refl _ _⟩
  case round =>
    obtain ⟨j, hj, rfl, hown, hbw⟩ := hrel
    obtain ⟨a0, a1, -⟩ := tab_cells (t := ⟨start, rows⟩) ((hbw.block _ (lt_of_heap HX.out)).trans HX.out)
    by_cases hlt : j < rows.length
    · obtain ⟨b, o, rfl, x0', x1', x2', px, cx, x3', hxl⟩ := rows_some HH.out hlt
      have x0 := cell_on x0' hbw
      have x1 := cell_on x1' hbw
      have x2 := cell_on x2' hbw
      have x3 := cell_on x3' hbw
      have hlt' : (j : Int) < (rows.length : Int) := by omega
      have hs := HS.out j hlt
      have ho := hout wr j hlt px cx (hxl.below hbw)
      have hlen := (HL j).out
      have HXX : Hid (∀ u, Below w1.heap.size w1 u → u.cell? ⟨w.heap.size, 1, none⟩ = some (.slice (some ⟨b, o, none⟩) rows.length (c + rows.length)) ∧ u.cell? ⟨b, o + j * 4, none⟩ = some (.int .i64 (rows.getD j noRow).key)) := fun u hu => ⟨(tab_cells (t := ⟨start, rows⟩) ((hu.block _ (lt_of_heap HX.out)).trans HX.out)).2.1, cell_on x0' hu⟩
      clear x0' x1' x2' x3' hxl hout
      generalize rows.getD j noRow = x at *
      obtain ⟨xk, xa, xm, xo⟩ := x
      simp only [rowVal] at *
      generalize outAt xo node = O at *
      have HW := Lib.hid hown.out
      unfold OwnI at HW
      have HBW := Lib.hid hbw
      clear hown
      by_cases hO : 0 ≤ O
      · rw [if_pos hO] at hs
        have SE := Lib.hid hs
        clear hs HS HL HV
        generalize hn : (G j).length = n at *
        have HN := Lib.hid hn
        clear hn
        go_wp2_with (first
          | (go_at_call 46; (with_reducible refine ho.mono ?_); rintro e u ⟨rfl, hbu⟩; have HU := Lib.hid hbu; have HWU := Lib.hid (own_below HW.out hbu); have HBU := Lib.hid (HBW.out.trans (hbu.mono HBW.out.size)); clear ho hbu a0 a1 x0 x1 x2 x3; obtain ⟨a1, x0⟩ := HXX.out _ HBU.out)
          | (at_builtin; refine wpList_append_own _ rfl (.tmp 22) (.tmp 29) 46 rfl w1.heap.size 3 i0 (.int .i64 0) 1 8 Try.underlying46 hi hz0 hz1 hz2 rfl (by decide) _ _ _ rfl (HWU.out.alloc _) ⟨u.heap.size, 0, none⟩ 1 1 [.int .i64 xk] rfl rfl ?c1 ?c2 ?c3 ?c4 ?c5 ?_))
        case c1 => intro j u hj; match j, hj with | 0, hj => simp at hj; subst hj; simp [Addr.add]
        case c2 => intro u hu; simp at hu; subst hu; rfl
        case c3 => unfold maxLen; omega
        case c4 => omega
        case c5 => have := HBU.out.size; simp; omega
        intro v' w2 ho2 hg _
        have ho' : OwnI w1.heap.size w2 v' (G (j + 1)) := by
          rw [SE.out]
          refine OwnI.app (n := 1) (xs := [xk]) ?_ rfl
          rw [HN.out]
          exact ho2
        have hb2 := (HBU.out.alloc HBU.out.size _).grown hg (by have := HBU.out.size; simp; omega) (fun k hk => (HWU.out.lt k hk).1)
        have R := Lib.hid ho'
        clear hg ho2 ho' HW HWU
        go_wp2
        go_roundw
        case rel => exact ⟨j + 1, by omega, by go_num, R, hb2⟩
        case measure => simp [intOf]; omega
      · rw [if_neg hO, List.append_nil] at hs
        have SE := Lib.hid hs
        clear hs HS HL HV
        go_wp2_with (go_at_call 46; (with_reducible refine ho.mono ?_); rintro e u ⟨rfl, hbu⟩; have HU := Lib.hid hbu; have HWU := Lib.hid (own_below HW.out hbu); have HBU := Lib.hid (HBW.out.trans (hbu.mono HBW.out.size)); clear ho hbu a0 a1 x0 x1 x2 x3)
        go_roundw
        case rel => exact ⟨j + 1, by omega, by go_num, by rw [SE.out]; exact HWU, HBU.out⟩
        case measure => simp [intOf]; omega
    · obtain rfl : j = rows.length := by omega
      rw [← HV.out _ rfl] at hown
      obtain ⟨pv, cv, rfl, hints⟩ := hown.out.ints
      have HI := Lib.hid hints
      clear hown hints
      go_wp2
      go_ret
      exact ⟨pv, cv, rfl, HI.out, HB.out.trans (hbw.mono HB.out.size)⟩
end Go.Proofs.Ytcnnepmhdccipaa.Ledger
