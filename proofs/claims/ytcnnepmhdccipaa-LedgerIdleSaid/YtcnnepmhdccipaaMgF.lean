/-
  The document's Settle, of any table of up to 1000 rows and leases, returns the plain function's table and number; of what lay when the call began nothing has turned.
  The document's Sweep, of any table of up to 1000 rows, returns the plain function's table; of what lay when the call began nothing has turned.
  The document's Mint (annonaref09) of any table tells what the plain mint gives, and leaves the world below as it was; at most 1000 rows, and leases of each.
  A ledger of memory: boxes, rows and leases that lie while calls come and go; each lies on. No conditions beyond those that each names.
-/
import Derived.Test.YtcnnepmhdccipaaMgE
namespace Go.Proofs.Ytcnnepmhdccipaa.Ledger
open Go.RowKit
open _root_.Go.Proofs.Ytcnnepmhdccipaa.Frame (Rw Tb noRow LeasesAt cell_on)
open _root_.Go.Proofs.Ytcnnepmhdccipaa.Codec (own_below own_lower lt_of_heap frozen_of heap_set below_new)
open _root_.Go.Proofs.Ytcnnepmhdccipaa.Sat (fit add sub mul rtwo_any)

theorem find_out {t : Tb} (ho : ∀ r ∈ t.rows, r.out.length ≤ 1000) (key : Int) : (findRow t key).out.length ≤ 1000 := by
  unfold findRow
  split
  · simp
  · rename_i hn
    rcases spot_cases (fun r => r.key == key) noRow t.rows with ⟨h1, -⟩ | ⟨j, h1, h2, -⟩
    · exact absurd (show place t.rows key < 0 by unfold place; omega) hn
    · have : (place t.rows key).toNat = j := by unfold place; omega
      rw [this]
      exact ho _ (by simp [List.getD, h2])
theorem tab2 {w : World} {b : Nat} {v1 v2 : Value} (h : w.heap[b]? = some (.cells #[v1, v2] 24 (0, 0))) : w.cell? ⟨b, 0, none⟩ = some v1 ∧ w.cell? ⟨b, 1, none⟩ = some v2 ∧ ∀ o, w.frozen? ⟨b, o, none⟩ = false :=
  ⟨by rw [cell_of_row w b 0 _ _ (0, 0) h]; rfl, by rw [cell_of_row w b 1 _ _ (0, 0) h]; rfl, fun _ => frozen_of h⟩
/-- Two new blocks. -/
theorem two_new (w : World) (o1 o2 : Obj) : (((w.alloc o1).alloc o2).heap[w.heap.size]? = some o1) ∧ (((w.alloc o1).alloc o2).heap[w.heap.size + 1]? = some o2) ∧ Below w.heap.size w ((w.alloc o1).alloc o2) := by
  have z1 : (w.alloc o1).heap.size = w.heap.size + 1 := by simp
  have n2 := heap_alloc_new (w.alloc o1) o2
  rw [z1] at n2
  exact ⟨(Below.heap_alloc _ _ _ (by simp)).trans (heap_alloc_new _ _), n2, ((Below.refl _ _).alloc (Nat.le_refl _) _).alloc (by simp) _⟩
theorem own_none (B : Nat) (w : World) : OwnL B w (.slice none 0 0) [] := World.ownsRow_nil _ _ _ _
/-- The boxes of Settle and Grant: the table, the result, the row. -/
structure Bxs (w : World) (start : Int) (p : Option Addr) (n c : Nat) (b : Nat) (v1 v2 v3 v4 : Value) (u : World) : Prop where
  tab : u.heap[w.heap.size]? = some (.cells #[.int .i64 start, .slice p n (c + n)] 24 (0, 0))
  res : u.heap[w.heap.size + 1]? = some (.cells #[.int .i64 0, .slice none 0 0] 24 (0, 0))
  row : u.heap[b]? = some (.cells #[v1, v2, v3, v4] 38 (0, 0))
  below : Below w.heap.size w u
  ge : w.heap.size + 1 < b
section
variable {w u u' : World} {start : Int} {p : Option Addr} {n c b : Nat} {v1 v2 v3 v4 : Value}
theorem Bxs.on (h : Bxs w start p n c b v1 v2 v3 v4 u) (hb : Below u.heap.size u u') : Bxs w start p n c b v1 v2 v3 v4 u' :=
  ⟨(hb.block _ (lt_of_heap h.tab)).trans h.tab, (hb.block _ (lt_of_heap h.res)).trans h.res, (hb.block _ (lt_of_heap h.row)).trans h.row, h.below.trans (hb.mono h.below.size), h.ge⟩
theorem Bxs.set3 (h : Bxs w start p n c b v1 v2 v3 v4 u) (y : Value) : Bxs w start p n c b v1 v2 v3 y (u.setCell ⟨b, 3, none⟩ y) := by
  have hg := h.ge
  exact ⟨(Below.heap_setCell _ _ _ _ (by simp; omega)).trans h.tab, (Below.heap_setCell _ _ _ _ (by simp; omega)).trans h.res, by rw [heap_set b 3 _ _ h.row]; rfl, h.below.setCell (by simp; omega) _, hg⟩
theorem Bxs.set1 (h : Bxs w start p n c b v1 v2 v3 v4 u) (y : Value) : Bxs w start p n c b v1 y v3 v4 (u.setCell ⟨b, 1, none⟩ y) := by
  have hg := h.ge
  exact ⟨(Below.heap_setCell _ _ _ _ (by simp; omega)).trans h.tab, (Below.heap_setCell _ _ _ _ (by simp; omega)).trans h.res, by rw [heap_set b 1 _ _ h.row]; rfl, h.below.setCell (by simp; omega) _, hg⟩
theorem Bxs.out (h : Bxs w start p n c b v1 v2 v3 v4 u) (y1 y2 : Value) : Below w.heap.size w ((u.setCell ⟨w.heap.size + 1, 0, none⟩ y1).setCell ⟨w.heap.size + 1, 1, none⟩ y2) :=
  (h.below.setCell (by simp) _).setCell (by simp) _
end

set_option maxRecDepth 100000 in
set_option maxHeartbeats 4000000 in
theorem settle_no (t : Tb) (p : Option Addr) (c : Nat) (key node spent : Int) (w : World) (h : RowsAt w p t.rows) (hl : t.rows.length ≤ 1000) (ho : ∀ r ∈ t.rows, r.out.length ≤ 1000) (hn : has t key node = false) :
    Calls Try.prog 34 #[tabVal t p c, .int .i64 key, .int .i64 node, .int .i64 spent] w (TellsTab w t (fun v => .tuple #[v, .int .i64 0])) := by
  have hfo := find_out ho key
  obtain ⟨start, rows⟩ := t
  obtain ⟨k0, k1, hb⟩ := two_new w (.cells #[.int .i64 start, .slice p rows.length (c + rows.length)] 24) (.cells #[.int .i64 0, .slice none 0 0] 24)
  have hfind := find_any ⟨start, rows⟩ p c key w ((w.alloc (.cells #[.int .i64 start, .slice p rows.length (c + rows.length)] 24)).alloc (.cells #[.int .i64 0, .slice none 0 0] 24)) h hb hl
  have hout := fun (u : World) (p' : Option Addr) (c' : Nat) (hu : LeasesAt u p' (findRow ⟨start, rows⟩ key).out) => out_any (findRow ⟨start, rows⟩ key) p' c' node u hu hfo
  have hcase : findIs ⟨start, rows⟩ key = false ∨ (findIs ⟨start, rows⟩ key = true ∧ outAt (findRow ⟨start, rows⟩ key).out node < 0) := by
    unfold has at hn
    cases hI : findIs ⟨start, rows⟩ key with
    | false => exact .inl rfl
    | true =>
      rw [hI] at hn
      simp at hn
      exact .inr ⟨rfl, by omega⟩
  generalize outAt (findRow ⟨start, rows⟩ key).out node = O at *
  generalize findRow ⟨start, rows⟩ key = F at *
  generalize findIs ⟨start, rows⟩ key = I at *
  obtain ⟨fk, fa, fm, fo⟩ := F
  simp only [tabVal, rowVal] at *
  generalize hnf : fo.length = nf at *
  generalize hnr : rows.length = nr at *
  have HNF := Lib.hid hnf
  have HNR := Lib.hid hnr
  have hfind2 : Calls Try.prog 12 #[.agg #[.int .i64 start, .slice p nr (c + nr)], .int .i64 key] ((w.alloc (.cells #[.int .i64 start, .slice p nr (c + nr)] 24)).alloc (.cells #[.int .i64 0, .slice none 0 0] 24)) fun e w' => ∃ p1 c1, e = .returned (.tuple #[.agg #[.int .i64 fk, .int .i64 fa, .int .i64 fm, .slice p1 nf (c1 + nf)], .bool I]) ∧ LeasesAt w p1 fo ∧
      Bxs w start p nr c w'.heap.size (.int .i64 fk) (.int .i64 fa) (.int .i64 fm) (.slice p1 nf (c1 + nf)) (w'.alloc (.cells #[.int .i64 fk, .int .i64 fa, .int .i64 fm, .slice p1 nf (c1 + nf)] 38)) := by
    refine hfind.mono ?_
    rintro e w' ⟨p1, c1, rfl, h1, h2⟩
    have ba := (Below.refl w'.heap.size w').alloc (Nat.le_refl _) (.cells #[.int .i64 fk, .int .i64 fa, .int .i64 fm, .slice p1 nf (c1 + nf)] 38)
    have h3 := h2.trans (ba.mono h2.size)
    have hz := h2.size
    simp at hz
    exact ⟨p1, c1, by rw [← HNF.out]; rfl, h1, (h3.block _ (lt_of_heap k0)).trans k0, (h3.block _ (lt_of_heap k1)).trans k1, heap_alloc_new _ _, hb.trans (h3.mono hb.size), by omega⟩
  have HH := Lib.hid h
  clear hfind hnf hnr k0 k1 hb h hl hn ho hfo
  go_enter Try.func34, Try.ntmps34
  rcases hcase with rfl | ⟨rfl, hO⟩
  all_goals
    go_wp2_with (first
      | (go_at_call 12; (with_reducible refine hfind2.mono ?_); rintro e u1 ⟨p1, c1, rfl, hl1, hx1⟩; have X1 := Lib.hid hx1; have L1 := Lib.hid (hl1.below hx1.below); clear hfind2 hl1 hx1)
      | (go_at_call 46; (with_reducible refine (hout _ _ _ L1.out).mono ?_); rintro e u2 ⟨rfl, hb2⟩; have hx2 := X1.out.on hb2; obtain ⟨a0, a1, -⟩ := tab2 hx2.tab; obtain ⟨d0, d1, ff⟩ := tab2 hx2.res; have f0 := ff 0; have f1 := ff 1; have X2 := Lib.hid hx2; clear hout hb2 L1 hx2 ff X1))
    refine bodyPost_ret (v := .tuple #[.agg #[.int .i64 start, .slice p nr (c + nr)], .int .i64 0]) (by simp [results, Try.results34, go_sem, d0, d1]) rfl ?_
    have BE := X2.out.out (.int .i64 start) (.slice p nr (c + nr))
    exact ⟨p, c, by rw [← HNR.out]; rfl, HH.out.below BE, BE⟩

/-- Where a table's box is turned, leases and rows lie on. -/
theorem leases_tab {w : World} {b o : Nat} {x : Int} {q : Option Addr} {m k : Nat} {y : Value} {p : Option Addr} {l : List (Int × Int)} (hb : w.heap[b]? = some (.cells #[.int .i64 x, .slice q m k] 24 (0, 0))) (h : LeasesAt w p l) : LeasesAt (w.setCell ⟨b, o, none⟩ y) p l := by
  rcases h with h | ⟨b', o', e, hc⟩
  · exact .inl h
  · by_cases hl : l = []
    · exact .inl hl
    · have hne : b' ≠ b := by
        rintro rfl
        have h1 := (hc 0 (List.length_pos_iff.2 hl)).2
        rw [cell_of_row w b' _ _ _ (0, 0) hb] at h1
        match o', h1 with
        | 0, h1 => simp at h1
        | n + 1, h1 => simp at h1
      refine .inr ⟨b', o', e, fun j hj => ?_⟩
      have he : ∀ i, (w.setCell ⟨b, o, none⟩ y).cell? ⟨b', i, none⟩ = w.cell? ⟨b', i, none⟩ := fun i => World.cell?_of_block (w := w) (Below.heap_setCell _ _ _ _ (by simpa using hne))
      rw [he, he]
      exact hc j hj
theorem rows_tab {w : World} {b o : Nat} {x : Int} {q : Option Addr} {m k : Nat} {y : Value} {p : Option Addr} {l : List Rw} (hb : w.heap[b]? = some (.cells #[.int .i64 x, .slice q m k] 24 (0, 0))) (h : RowsAt w p l) : RowsAt (w.setCell ⟨b, o, none⟩ y) p l := by
  rcases h with h | ⟨b', o', e, hc⟩
  · exact .inl h
  · by_cases hl : l = []
    · exact .inl hl
    · have hne : b' ≠ b := by
        rintro rfl
        have h1 := (hc 0 (List.length_pos_iff.2 hl)).2.2.1
        rw [cell_of_row w b' _ _ _ (0, 0) hb] at h1
        match o', h1 with
        | n, h1 => simp at h1
      refine .inr ⟨b', o', e, fun j hj => ?_⟩
      have he : ∀ i, (w.setCell ⟨b, o, none⟩ y).cell? ⟨b', i, none⟩ = w.cell? ⟨b', i, none⟩ := fun i => World.cell?_of_block (w := w) (Below.heap_setCell _ _ _ _ (by simpa using hne))
      obtain ⟨h0, h1, h2, pl, cl, h3, h4⟩ := hc j hj
      exact ⟨by rw [he]; exact h0, by rw [he]; exact h1, by rw [he]; exact h2, pl, cl, by rw [he]; exact h3, leases_tab hb h4⟩
/-- The result's box is set. -/
theorem tells_res {w u : World} {T : Tb} {start : Int} {p' : Option Addr} {c' n : Nat} {x : Int} (hres : u.heap[w.heap.size + 1]? = some (.cells #[.int .i64 x, .slice none 0 0] 24 (0, 0))) (hr : RowsAt u p' T.rows) (hb : Below w.heap.size w u) (hs : T.start = start) (hn : T.rows.length = n) (mk : Value → Value) :
    TellsTab w T mk (.returned (mk (.agg #[.int .i64 start, .slice p' n (c' + n)]))) ((u.setCell ⟨w.heap.size + 1, 0, none⟩ (.int .i64 start)).setCell ⟨w.heap.size + 1, 1, none⟩ (.slice p' n (c' + n))) := by
  subst hs hn
  have h2 : (u.setCell ⟨w.heap.size + 1, 0, none⟩ (.int .i64 T.start)).heap[w.heap.size + 1]? = some (.cells #[.int .i64 T.start, .slice none 0 0] 24 (0, 0)) := by rw [heap_set _ 0 _ _ hres]; rfl
  exact ⟨p', c', rfl, rows_tab h2 (rows_tab hres hr), (hb.setCell (by simp) _).setCell (by simp) _⟩

set_option maxRecDepth 100000 in
set_option maxHeartbeats 8000000 in
theorem settle_yes (t : Tb) (p : Option Addr) (c : Nat) (key node spent : Int) (w : World) (h : RowsAt w p t.rows) (hl : t.rows.length ≤ 1000) (ho : ∀ r ∈ t.rows, r.out.length ≤ 1000) (hn : has t key node = true) (hA : amountOf t key node ≤ 9223372036854775807) :
    Calls Try.prog 34 #[tabVal t p c, .int .i64 key, .int .i64 node, .int .i64 spent] w (TellsTab w (settle t key node spent).1 (fun v => .tuple #[v, .int .i64 (settle t key node spent).2])) := by
  have hfo := find_out ho key
  have hse : settle t key node spent = (setRow t (settled (findRow t key) (outAt (findRow t key).out node).toNat (amountOf t key node - spentOf (amountOf t key node) spent)), spentOf (amountOf t key node) spent) := by
    unfold settle; rw [if_pos hn]
  rw [hse]
  have hcase : findIs t key = true ∧ ∃ i : Nat, outAt (findRow t key).out node = (i : Int) ∧ i < (findRow t key).out.length := by
    unfold has at hn
    simp only [Bool.and_eq_true, decide_eq_true_eq] at hn
    refine ⟨hn.1, ?_⟩
    rcases spot_cases (fun x => x.1 == node) (0, 0) (findRow t key).out with ⟨h1, -⟩ | ⟨j, h1, h2, -⟩
    · have := hn.2
      unfold outAt at this
      omega
    · exact ⟨j, h1, h2⟩
  obtain ⟨hI, i, hO, hi⟩ := hcase
  rw [hO, Int.toNat_natCast]
  have hAm : amountOf t key node = ((findRow t key).out.getD i (0, 0)).2 := by unfold amountOf; rw [hO, Int.toNat_natCast]
  generalize amountOf t key node = A at *
  have hSp : Hid (spentOf A spent = if spent < 0 ∨ A < spent then A else spent) := rfl
  generalize spentOf A spent = sp at *
  obtain ⟨start, rows⟩ := t
  obtain ⟨k0, k1, hb⟩ := two_new w (.cells #[.int .i64 start, .slice p rows.length (c + rows.length)] 24) (.cells #[.int .i64 0, .slice none 0 0] 24)
  have hfind := find_any ⟨start, rows⟩ p c key w ((w.alloc (.cells #[.int .i64 start, .slice p rows.length (c + rows.length)] 24)).alloc (.cells #[.int .i64 0, .slice none 0 0] 24)) h hb hl
  have hout := fun (u : World) (p' : Option Addr) (c' : Nat) (hu : LeasesAt u p' (findRow ⟨start, rows⟩ key).out) => out_any (findRow ⟨start, rows⟩ key) p' c' node u hu hfo
  rw [hO] at hout
  rw [hI] at hfind
  generalize findRow ⟨start, rows⟩ key = F at *
  have hset := fun (u : World) (pr : Option Addr) (cr : Nat) (h1 : RowsAt u p rows) (h2 : LeasesAt u pr (settled F i (A - sp)).out) => set_any ⟨start, rows⟩ p c (settled F i (A - sp)) pr cr u u h1 h2 (Below.refl _ _) hl
  have hTS : Hid ((setRow ⟨start, rows⟩ (settled F i (A - sp))).start = start) := rfl
  have hSO : Hid ((settled F i (A - sp)) = ⟨F.key, add [F.avail, A - sp], F.mark, butAt F.out i⟩) := rfl
  generalize setRow ⟨start, rows⟩ (settled F i (A - sp)) = T at *
  rw [hSO.out] at hset
  obtain ⟨fk, fa, fm, fo⟩ := F
  have hbut : Hid (∀ j, j < fo.length → butAt (fo.take (j + 1)) i = butAt (fo.take j) i ++ (if j = i then [] else [fo.getD j (0, 0)])) := fun j hj => butAt_take fo i j hj
  have hbl : Hid (∀ j, (butAt (fo.take j) i).length ≤ 1000) := fun j => by
    have h1 : (butAt (fo.take j) i).length ≤ (fo.take j).length := List.length_eraseIdx_le _ _
    have h2 : (fo.take j).length ≤ fo.length := by simp; omega
    simp only at hfo
    omega
  have htwo := rtwo_any fa (A - sp)
  generalize hDD : A - sp = D at *
  have HD := Lib.hid hDD
  clear hDD
  generalize add [fa, D] = AV at *
  have hspc : Hid ((decide (spent < 0) = true ∧ sp = A) ∨ (decide (spent < 0) = false ∧ decide (A < spent) = true ∧ sp = A) ∨ (decide (spent < 0) = false ∧ decide (A < spent) = false ∧ sp = spent)) := by
    have h := hSp.out
    by_cases h1 : spent < 0
    · exact .inl ⟨by simp [h1], by rw [h, if_pos (.inl h1)]⟩
    · by_cases h2 : A < spent
      · exact .inr (.inl ⟨by simp [h1], by simp [h2], by rw [h, if_pos (.inr h2)]⟩)
      · exact .inr (.inr ⟨by simp [h1], by simp [h2], by rw [h, if_neg (by omega)]⟩)
  simp only [tabVal, rowVal] at *
  generalize hnf : fo.length = nf at *
  generalize hnr : rows.length = nr at *
  have HNF := Lib.hid hnf
  have HNR := Lib.hid hnr
  have hfind2 : Calls Try.prog 12 #[.agg #[.int .i64 start, .slice p nr (c + nr)], .int .i64 key] ((w.alloc (.cells #[.int .i64 start, .slice p nr (c + nr)] 24)).alloc (.cells #[.int .i64 0, .slice none 0 0] 24)) fun e w' => ∃ p1 c1, e = .returned (.tuple #[.agg #[.int .i64 fk, .int .i64 fa, .int .i64 fm, .slice p1 nf (c1 + nf)], .bool true]) ∧ LeasesAt w p1 fo ∧
      Bxs w start p nr c w'.heap.size (.int .i64 fk) (.int .i64 fa) (.int .i64 fm) (.slice p1 nf (c1 + nf)) (w'.alloc (.cells #[.int .i64 fk, .int .i64 fa, .int .i64 fm, .slice p1 nf (c1 + nf)] 38)) := by
    refine hfind.mono ?_
    rintro e w' ⟨p1, c1, rfl, h1, h2⟩
    have ba := (Below.refl w'.heap.size w').alloc (Nat.le_refl _) (.cells #[.int .i64 fk, .int .i64 fa, .int .i64 fm, .slice p1 nf (c1 + nf)] 38)
    have h3 := h2.trans (ba.mono h2.size)
    have hz := h2.size
    simp at hz
    exact ⟨p1, c1, by rw [← HNF.out]; rfl, h1, (h3.block _ (lt_of_heap k0)).trans k0, (h3.block _ (lt_of_heap k1)).trans k1, heap_alloc_new _ _, hb.trans (h3.mono hb.size), by omega⟩
  have HH := Lib.hid h
  have HAM := Lib.hid hAm
  clear hfind hnf hnr k0 k1 hb h hl hn ho hAm hse hO hI hSO
  go_enter Try.func34, Try.ntmps34
  rcases hspc.out with ⟨z1, hsA⟩ | ⟨z1, z2, hsA⟩ | ⟨z1, z2, hsA⟩
  all_goals simp only [decide_eq_true_eq, decide_eq_false_iff_not] at *
  · have hD0 : D = 0 := by have := HD.out; omega
    subst hD0 hsA
    clear HD hSp hspc
    go_wp2_with (first
      | (go_at_call 12; (with_reducible refine hfind2.mono ?_); rintro e u1 ⟨p1, c1, rfl, hl1, hx1⟩; have X1 := Lib.hid hx1; have L0 := Lib.hid hl1; have L1 := Lib.hid (hl1.below hx1.below); clear hfind2 hl1 hx1)
      | (go_at_call 46; (with_reducible refine (hout _ _ _ L1.out).mono ?_); rintro e u2 ⟨rfl, hb2⟩; have hx2 := X1.out.on hb2; obtain ⟨a0, a1, -⟩ := tab2 hx2.tab; obtain ⟨d0, d1, -⟩ := tab2 hx2.res; obtain ⟨r0, r1, r2, r3, -⟩ := row_cells hx2.row; have X2 := Lib.hid hx2; have hL2 := L0.out.below hx2.below; obtain ⟨bl, ol, rfl, l0, l1⟩ := leases_some hL2 (by rw [HNF.out]; exact hi); rw [← HAM.out] at l1; clear hout hb2 L1 hx2 X1 hL2))
    clear a0 a1 d0 d1 r0 r1 r2 r3 l0 l1
    go_loopw [14, 15] (fun v k wr => ∃ j : Nat, j ≤ nf ∧ k = .int .i64 (j : Int) ∧ Hid (OwnL u2.heap.size wr v (butAt (fo.take j) i)) ∧ Below u2.heap.size u2 wr) (fun _ k _ => nf - (intOf k).toNat)
    case atStart => exact ⟨0, by omega, rfl, own_none _ _, Below.refl _ _⟩
    case round =>
      obtain ⟨j, hj, rfl, hown, hbw⟩ := hrel
      have hX := X2.out.on hbw
      obtain ⟨r0, r1, r2, r3, rf⟩ := row_cells hX.row
      have hWr := hX.below
      by_cases hlt : j < nf
      · obtain ⟨b', o', he, x0, x1⟩ := leases_some (L0.out.below hWr) (show j < fo.length by rw [HNF.out]; exact hlt)
        cases he
        have hB := hbut.out j hlt
        have hlt' : (j : Int) < (nf : Int) := by omega
        generalize fo.getD j (0, 0) = y at *
        obtain ⟨y1, y2⟩ := y
        simp only at x0 x1
        have HBL := Lib.hid (hbl.out j)
        have HBW := Lib.hid hbw
        by_cases hji : j = i
        · subst hji
          rw [if_pos rfl, List.append_nil] at hB
          have SE := Lib.hid hB
          clear hB rf
          go_wp2
          go_roundw
          case rel => exact ⟨j + 1, by omega, by go_num, by rw [SE.out]; exact hown, HBW.out⟩
          case measure => simp [intOf]; omega
        · rw [if_neg hji] at hB
          have hne : ¬ ((j : Int) = (i : Int)) := by omega
          have SE := Lib.hid hB
          clear hB rf hji
          obtain ⟨pv, cv, rfl⟩ := hown.out.shape
          generalize hnl : (butAt (fo.take j) i).length = nl at *
          have HNL := Lib.hid hnl
          have HOW := Lib.hid hown.out
          clear hnl hown
          go_wp2_with (at_builtin; refine push_lease rfl (.tmp 56) (.tmp 62) rfl u2 wr (.slice pv nl cv) rfl (butAt (fo.take j) i) nl HNL.out HOW.out HBW.out (Below.refl _ _) wr.heap.size y1 y2 rfl (heap_alloc_new _ _) (by have := HBL.out; omega) ?_; intro p4 c4 w4 R4 B4; clear r0 r1 r2 r3 x0 x1)
          go_roundw
          case rel => exact ⟨j + 1, by omega, by go_num, by rw [SE.out]; exact R4, B4⟩
          case measure => simp [intOf]; omega
      · obtain rfl : j = nf := by omega
        have hto : fo.take j = fo := by rw [← HNF.out]; exact List.take_length
        rw [hto] at hown
        obtain ⟨a0, a1, -⟩ := tab2 hX.tab
        obtain ⟨d0, d1, -⟩ := tab2 hX.res
        have ff1 := rf 1
        have ff3 := rf 3
        have HOW := Lib.hid hown.out
        obtain ⟨pv, cv, rfl⟩ := hown.out.shape
        generalize hnl : (butAt fo i).length = nl at *
        clear hown hbl hbut
        have hne1 : ¬ (u1.heap.size = w.heap.size) := by have := hX.ge; omega
        have hne2 : ¬ (w.heap.size = u1.heap.size) := by have := hX.ge; omega
        have hbx : u1.heap.size < u2.heap.size := by have := lt_of_heap X2.out.row; omega
        have hE6 := (hX.set3 (.slice pv nl cv)).set1 (.int .i64 AV)
        obtain ⟨p6, c6, hv6, hl6⟩ := ((HOW.out.set (b := u1.heap.size) (o := 3) (u := .slice pv nl cv) hbx).set (b := u1.heap.size) (o := 1) (u := .int .i64 AV) hbx).leases
        simp only [Value.slice.injEq] at hv6
        obtain ⟨rfl, -, hcv⟩ := hv6
        rw [hnl] at hcv
        have hs6 := hset _ pv c6 (HH.out.below hE6.below) hl6
        rw [← hcv] at hs6
        generalize hu6 : (wr.setCell ⟨u1.heap.size, 3, none⟩ (.slice pv nl cv)).setCell ⟨u1.heap.size, 1, none⟩ (.int .i64 AV) = u6 at *
        have hs7 : Calls Try.prog 62 #[.agg #[.int .i64 start, .slice p nr (c + nr)], .agg #[.int .i64 fk, .int .i64 AV, .int .i64 fm, .slice pv nl cv]] u6 fun e w' => ∃ p' c' nT, e = .returned (.agg #[.int .i64 start, .slice p' nT (c' + nT)]) ∧ T.rows.length = nT ∧ RowsAt w' p' T.rows ∧ Below u6.heap.size u6 w' := by
          refine hs6.mono ?_
          rintro e w' ⟨p', c', rfl, g1, g2⟩
          exact ⟨p', c', _, by rw [← hTS.out]; rfl, rfl, g1, g2⟩
        have E6 := Lib.hid hE6
        have U6 := Lib.hid hu6
        clear hs6 hset hl6 hE6 HOW hX hWr rf hnl hu6 hcv
        go_wp2_with (first
          | (go_at_call 22; (with_reducible refine (htwo _).mono ?_); rintro e w' ⟨rfl, rfl⟩)
          | (go_at_call 62; rw [U6.out]; (with_reducible refine hs7.mono ?_); rintro e u7 ⟨p7, c7, nT, rfl, hnT, g1, g2⟩; have E7 := Lib.hid (E6.out.on g2); clear a0 a1 d0 d1 r0 r1 r2 r3 ff1 ff3; obtain ⟨d0, d1, ff⟩ := tab2 E7.out.res; have f0 := ff 0; have f1 := ff 1; have HR7 := Lib.hid (tells_res (c' := c7) E7.out.res g1 E7.out.below hTS.out hnT (fun v => .tuple #[v, .int .i64 sp])); clear ff hs7 hnT g1 g2))
        refine bodyPost_ret (v := .tuple #[.agg #[.int .i64 start, .slice p7 nT (c7 + nT)], .int .i64 sp]) (by simp [results, Try.results34, go_sem, d0, d1]) rfl HR7.out
  · have hD0 : D = 0 := by have := HD.out; omega
    subst hD0 hsA
    clear HD hSp hspc
    go_wp2_with (first
      | (go_at_call 12; (with_reducible refine hfind2.mono ?_); rintro e u1 ⟨p1, c1, rfl, hl1, hx1⟩; have X1 := Lib.hid hx1; have L0 := Lib.hid hl1; have L1 := Lib.hid (hl1.below hx1.below); clear hfind2 hl1 hx1)
      | (go_at_call 46; (with_reducible refine (hout _ _ _ L1.out).mono ?_); rintro e u2 ⟨rfl, hb2⟩; have hx2 := X1.out.on hb2; obtain ⟨a0, a1, -⟩ := tab2 hx2.tab; obtain ⟨d0, d1, -⟩ := tab2 hx2.res; obtain ⟨r0, r1, r2, r3, -⟩ := row_cells hx2.row; have X2 := Lib.hid hx2; have hL2 := L0.out.below hx2.below; obtain ⟨bl, ol, rfl, l0, l1⟩ := leases_some hL2 (by rw [HNF.out]; exact hi); rw [← HAM.out] at l1; clear hout hb2 L1 hx2 X1 hL2))
    clear a0 a1 d0 d1 r0 r1 r2 r3 l0 l1
    go_loopw [14, 15] (fun v k wr => ∃ j : Nat, j ≤ nf ∧ k = .int .i64 (j : Int) ∧ Hid (OwnL u2.heap.size wr v (butAt (fo.take j) i)) ∧ Below u2.heap.size u2 wr) (fun _ k _ => nf - (intOf k).toNat)
    case atStart => exact ⟨0, by omega, rfl, own_none _ _, Below.refl _ _⟩
    case round =>
      obtain ⟨j, hj, rfl, hown, hbw⟩ := hrel
      have hX := X2.out.on hbw
      obtain ⟨r0, r1, r2, r3, rf⟩ := row_cells hX.row
      have hWr := hX.below
      by_cases hlt : j < nf
      · obtain ⟨b', o', he, x0, x1⟩ := leases_some (L0.out.below hWr) (show j < fo.length by rw [HNF.out]; exact hlt)
        cases he
        have hB := hbut.out j hlt
        have hlt' : (j : Int) < (nf : Int) := by omega
        generalize fo.getD j (0, 0) = y at *
        obtain ⟨y1, y2⟩ := y
        simp only at x0 x1
        have HBL := Lib.hid (hbl.out j)
        have HBW := Lib.hid hbw
        by_cases hji : j = i
        · subst hji
          rw [if_pos rfl, List.append_nil] at hB
          have SE := Lib.hid hB
          clear hB rf
          go_wp2
          go_roundw
          case rel => exact ⟨j + 1, by omega, by go_num, by rw [SE.out]; exact hown, HBW.out⟩
          case measure => simp [intOf]; omega
        · rw [if_neg hji] at hB
          have hne : ¬ ((j : Int) = (i : Int)) := by omega
          have SE := Lib.hid hB
          clear hB rf hji
          obtain ⟨pv, cv, rfl⟩ := hown.out.shape
          generalize hnl : (butAt (fo.take j) i).length = nl at *
          have HNL := Lib.hid hnl
          have HOW := Lib.hid hown.out
          clear hnl hown
          go_wp2_with (at_builtin; refine push_lease rfl (.tmp 56) (.tmp 62) rfl u2 wr (.slice pv nl cv) rfl (butAt (fo.take j) i) nl HNL.out HOW.out HBW.out (Below.refl _ _) wr.heap.size y1 y2 rfl (heap_alloc_new _ _) (by have := HBL.out; omega) ?_; intro p4 c4 w4 R4 B4; clear r0 r1 r2 r3 x0 x1)
          go_roundw
          case rel => exact ⟨j + 1, by omega, by go_num, by rw [SE.out]; exact R4, B4⟩
          case measure => simp [intOf]; omega
      · obtain rfl : j = nf := by omega
        have hto : fo.take j = fo := by rw [← HNF.out]; exact List.take_length
        rw [hto] at hown
        obtain ⟨a0, a1, -⟩ := tab2 hX.tab
        obtain ⟨d0, d1, -⟩ := tab2 hX.res
        have ff1 := rf 1
        have ff3 := rf 3
        have HOW := Lib.hid hown.out
        obtain ⟨pv, cv, rfl⟩ := hown.out.shape
        generalize hnl : (butAt fo i).length = nl at *
        clear hown hbl hbut
        have hne1 : ¬ (u1.heap.size = w.heap.size) := by have := hX.ge; omega
        have hne2 : ¬ (w.heap.size = u1.heap.size) := by have := hX.ge; omega
        have hbx : u1.heap.size < u2.heap.size := by have := lt_of_heap X2.out.row; omega
        have hE6 := (hX.set3 (.slice pv nl cv)).set1 (.int .i64 AV)
        obtain ⟨p6, c6, hv6, hl6⟩ := ((HOW.out.set (b := u1.heap.size) (o := 3) (u := .slice pv nl cv) hbx).set (b := u1.heap.size) (o := 1) (u := .int .i64 AV) hbx).leases
        simp only [Value.slice.injEq] at hv6
        obtain ⟨rfl, -, hcv⟩ := hv6
        rw [hnl] at hcv
        have hs6 := hset _ pv c6 (HH.out.below hE6.below) hl6
        rw [← hcv] at hs6
        generalize hu6 : (wr.setCell ⟨u1.heap.size, 3, none⟩ (.slice pv nl cv)).setCell ⟨u1.heap.size, 1, none⟩ (.int .i64 AV) = u6 at *
        have hs7 : Calls Try.prog 62 #[.agg #[.int .i64 start, .slice p nr (c + nr)], .agg #[.int .i64 fk, .int .i64 AV, .int .i64 fm, .slice pv nl cv]] u6 fun e w' => ∃ p' c' nT, e = .returned (.agg #[.int .i64 start, .slice p' nT (c' + nT)]) ∧ T.rows.length = nT ∧ RowsAt w' p' T.rows ∧ Below u6.heap.size u6 w' := by
          refine hs6.mono ?_
          rintro e w' ⟨p', c', rfl, g1, g2⟩
          exact ⟨p', c', _, by rw [← hTS.out]; rfl, rfl, g1, g2⟩
        have E6 := Lib.hid hE6
        have U6 := Lib.hid hu6
        clear hs6 hset hl6 hE6 HOW hX hWr rf hnl hu6 hcv
        go_wp2_with (first
          | (go_at_call 22; (with_reducible refine (htwo _).mono ?_); rintro e w' ⟨rfl, rfl⟩)
          | (go_at_call 62; rw [U6.out]; (with_reducible refine hs7.mono ?_); rintro e u7 ⟨p7, c7, nT, rfl, hnT, g1, g2⟩; have E7 := Lib.hid (E6.out.on g2); clear a0 a1 d0 d1 r0 r1 r2 r3 ff1 ff3; obtain ⟨d0, d1, ff⟩ := tab2 E7.out.res; have f0 := ff 0; have f1 := ff 1; have HR7 := Lib.hid (tells_res (c' := c7) E7.out.res g1 E7.out.below hTS.out hnT (fun v => .tuple #[v, .int .i64 sp])); clear ff hs7 hnT g1 g2))
        refine bodyPost_ret (v := .tuple #[.agg #[.int .i64 start, .slice p7 nT (c7 + nT)], .int .i64 sp]) (by simp [results, Try.results34, go_sem, d0, d1]) rfl HR7.out
  · have hD0 := HD.out.symm
    subst hD0 hsA
    clear HD hSp hspc
    go_wp2_with (first
      | (go_at_call 12; (with_reducible refine hfind2.mono ?_); rintro e u1 ⟨p1, c1, rfl, hl1, hx1⟩; have X1 := Lib.hid hx1; have L0 := Lib.hid hl1; have L1 := Lib.hid (hl1.below hx1.below); clear hfind2 hl1 hx1)
      | (go_at_call 46; (with_reducible refine (hout _ _ _ L1.out).mono ?_); rintro e u2 ⟨rfl, hb2⟩; have hx2 := X1.out.on hb2; obtain ⟨a0, a1, -⟩ := tab2 hx2.tab; obtain ⟨d0, d1, -⟩ := tab2 hx2.res; obtain ⟨r0, r1, r2, r3, -⟩ := row_cells hx2.row; have X2 := Lib.hid hx2; have hL2 := L0.out.below hx2.below; obtain ⟨bl, ol, rfl, l0, l1⟩ := leases_some hL2 (by rw [HNF.out]; exact hi); rw [← HAM.out] at l1; clear hout hb2 L1 hx2 X1 hL2))
    clear a0 a1 d0 d1 r0 r1 r2 r3 l0 l1
    go_loopw [14, 15] (fun v k wr => ∃ j : Nat, j ≤ nf ∧ k = .int .i64 (j : Int) ∧ Hid (OwnL u2.heap.size wr v (butAt (fo.take j) i)) ∧ Below u2.heap.size u2 wr) (fun _ k _ => nf - (intOf k).toNat)
    case atStart => exact ⟨0, by omega, rfl, own_none _ _, Below.refl _ _⟩
    case round =>
      obtain ⟨j, hj, rfl, hown, hbw⟩ := hrel
      have hX := X2.out.on hbw
      obtain ⟨r0, r1, r2, r3, rf⟩ := row_cells hX.row
      have hWr := hX.below
      by_cases hlt : j < nf
      · obtain ⟨b', o', he, x0, x1⟩ := leases_some (L0.out.below hWr) (show j < fo.length by rw [HNF.out]; exact hlt)
        cases he
        have hB := hbut.out j hlt
        have hlt' : (j : Int) < (nf : Int) := by omega
        generalize fo.getD j (0, 0) = y at *
        obtain ⟨y1, y2⟩ := y
        simp only at x0 x1
        have HBL := Lib.hid (hbl.out j)
        have HBW := Lib.hid hbw
        by_cases hji : j = i
        · subst hji
          rw [if_pos rfl, List.append_nil] at hB
          have SE := Lib.hid hB
          clear hB rf
          go_wp2
          go_roundw
          case rel => exact ⟨j + 1, by omega, by go_num, by rw [SE.out]; exact hown, HBW.out⟩
          case measure => simp [intOf]; omega
        · rw [if_neg hji] at hB
          have hne : ¬ ((j : Int) = (i : Int)) := by omega
          have SE := Lib.hid hB
          clear hB rf hji
          obtain ⟨pv, cv, rfl⟩ := hown.out.shape
          generalize hnl : (butAt (fo.take j) i).length = nl at *
          have HNL := Lib.hid hnl
          have HOW := Lib.hid hown.out
          clear hnl hown
          go_wp2_with (at_builtin; refine push_lease rfl (.tmp 56) (.tmp 62) rfl u2 wr (.slice pv nl cv) rfl (butAt (fo.take j) i) nl HNL.out HOW.out HBW.out (Below.refl _ _) wr.heap.size y1 y2 rfl (heap_alloc_new _ _) (by have := HBL.out; omega) ?_; intro p4 c4 w4 R4 B4; clear r0 r1 r2 r3 x0 x1)
          go_roundw
          case rel => exact ⟨j + 1, by omega, by go_num, by rw [SE.out]; exact R4, B4⟩
          case measure => simp [intOf]; omega
      · obtain rfl : j = nf := by omega
        have hto : fo.take j = fo := by rw [← HNF.out]; exact List.take_length
        rw [hto] at hown
        obtain ⟨a0, a1, -⟩ := tab2 hX.tab
        obtain ⟨d0, d1, -⟩ := tab2 hX.res
        have ff1 := rf 1
        have ff3 := rf 3
        have HOW := Lib.hid hown.out
        obtain ⟨pv, cv, rfl⟩ := hown.out.shape
        generalize hnl : (butAt fo i).length = nl at *
        clear hown hbl hbut
        have hne1 : ¬ (u1.heap.size = w.heap.size) := by have := hX.ge; omega
        have hne2 : ¬ (w.heap.size = u1.heap.size) := by have := hX.ge; omega
        have hbx : u1.heap.size < u2.heap.size := by have := lt_of_heap X2.out.row; omega
        have hE6 := (hX.set3 (.slice pv nl cv)).set1 (.int .i64 AV)
        obtain ⟨p6, c6, hv6, hl6⟩ := ((HOW.out.set (b := u1.heap.size) (o := 3) (u := .slice pv nl cv) hbx).set (b := u1.heap.size) (o := 1) (u := .int .i64 AV) hbx).leases
        simp only [Value.slice.injEq] at hv6
        obtain ⟨rfl, -, hcv⟩ := hv6
        rw [hnl] at hcv
        have hs6 := hset _ pv c6 (HH.out.below hE6.below) hl6
        rw [← hcv] at hs6
        generalize hu6 : (wr.setCell ⟨u1.heap.size, 3, none⟩ (.slice pv nl cv)).setCell ⟨u1.heap.size, 1, none⟩ (.int .i64 AV) = u6 at *
        have hs7 : Calls Try.prog 62 #[.agg #[.int .i64 start, .slice p nr (c + nr)], .agg #[.int .i64 fk, .int .i64 AV, .int .i64 fm, .slice pv nl cv]] u6 fun e w' => ∃ p' c' nT, e = .returned (.agg #[.int .i64 start, .slice p' nT (c' + nT)]) ∧ T.rows.length = nT ∧ RowsAt w' p' T.rows ∧ Below u6.heap.size u6 w' := by
          refine hs6.mono ?_
          rintro e w' ⟨p', c', rfl, g1, g2⟩
          exact ⟨p', c', _, by rw [← hTS.out]; rfl, rfl, g1, g2⟩
        have E6 := Lib.hid hE6
        have U6 := Lib.hid hu6
        clear hs6 hset hl6 hE6 HOW hX hWr rf hnl hu6 hcv
        go_wp2_with (first
          | (go_at_call 22; (with_reducible refine (htwo _).mono ?_); rintro e w' ⟨rfl, rfl⟩)
          | (go_at_call 62; rw [U6.out]; (with_reducible refine hs7.mono ?_); rintro e u7 ⟨p7, c7, nT, rfl, hnT, g1, g2⟩; have E7 := Lib.hid (E6.out.on g2); clear a0 a1 d0 d1 r0 r1 r2 r3 ff1 ff3; obtain ⟨d0, d1, ff⟩ := tab2 E7.out.res; have f0 := ff 0; have f1 := ff 1; have HR7 := Lib.hid (tells_res (c' := c7) E7.out.res g1 E7.out.below hTS.out hnT (fun v => .tuple #[v, .int .i64 sp])); clear ff hs7 hnT g1 g2))
        refine bodyPost_ret (v := .tuple #[.agg #[.int .i64 start, .slice p7 nT (c7 + nT)], .int .i64 sp]) (by simp [results, Try.results34, go_sem, d0, d1]) rfl HR7.out
end Go.Proofs.Ytcnnepmhdccipaa.Ledger

namespace Go.Proofs.Ytcnnepmhdccipaa.Ledger
open Go.RowKit
open _root_.Go.Proofs.Ytcnnepmhdccipaa.Frame (Rw Tb noRow LeasesAt cell_on)
open _root_.Go.Proofs.Ytcnnepmhdccipaa.Codec (own_below own_lower lt_of_heap frozen_of heap_set below_new)

def sweepOf (start now : Int) (f : Cf) (l : List Rw) : List Rw := l.filter fun r => !idle start r now f
def sweep (t : Tb) (now : Int) (f : Cf) : Tb := ⟨t.start, sweepOf t.start now f t.rows⟩
theorem sweepOf_take (start now : Int) (f : Cf) (l : List Rw) (j : Nat) (h : j < l.length) : sweepOf start now f (l.take (j + 1)) = sweepOf start now f (l.take j) ++ (if idle start (l.getD j noRow) now f = true then [] else [l.getD j noRow]) := by
  have e : l.getD j noRow = l[j] := by simp [List.getD, h]
  rw [e, sweepOf, List.take_succ_eq_append_getElem h, List.filter_append]
  by_cases h2 : idle start l[j] now f = true
  · rw [if_pos h2]; simp [sweepOf, h2]
  · rw [if_neg h2]; simp [sweepOf, h2]
theorem sweepOf_len (start now : Int) (f : Cf) (l : List Rw) (j : Nat) : (sweepOf start now f (l.take j)).length ≤ l.length := by
  have h1 : (sweepOf start now f (l.take j)).length ≤ (l.take j).length := List.length_filter_le _ _
  have h2 : (l.take j).length ≤ l.length := by simp; omega
  omega

set_option maxRecDepth 100000 in
set_option maxHeartbeats 2000000 in
theorem sweep_any (t : Tb) (p : Option Addr) (c : Nat) (now : Int) (f : Cf) (pf : Option Addr) (cf : Nat) (w : World) (h : RowsAt w p t.rows) (hz : RatesAt w pf f.rates) (hl : t.rows.length ≤ 1000) :
    Calls Try.prog 24 #[tabVal t p c, .int .i64 now, cfVal f pf cf] w (TellsTab w (sweep t now f) id) := by
  obtain ⟨start, rows⟩ := t
  have HV : Hid (∀ j, j = rows.length → sweep ⟨start, rows⟩ now f = ⟨start, sweepOf start now f (rows.take j)⟩) := by
    rintro j rfl
    show Tb.mk start (sweepOf start now f rows) = _
    rw [List.take_length]
  generalize sweep ⟨start, rows⟩ now f = V at HV ⊢
  have HS : Hid (∀ j, j < rows.length → sweepOf start now f (rows.take (j + 1)) = sweepOf start now f (rows.take j) ++ (if idle start (rows.getD j noRow) now f = true then [] else [rows.getD j noRow])) := fun j => sweepOf_take start now f rows j
  have HL := fun j => Lib.hid (sweepOf_len start now f rows j)
  have h00 : sweepOf start now f (rows.take 0) = [] := by simp [sweepOf]
  have hidle := fun (u : World) (r : Rw) (pr : Option Addr) (cr : Nat) (hu : RatesAt u pf f.rates) => idle_any ⟨start, rows⟩ p c r pr cr now f pf cf u hu
  generalize hG : (fun j => sweepOf start now f (rows.take j)) = G
  have hGj : ∀ j, sweepOf start now f (rows.take j) = G j := fun j => by rw [← hG]
  simp only [hGj] at HV HS HL h00
  clear hG hGj
  have hID : Hid (∀ r, idle start r now f = idle start r now f) := fun _ => rfl
  generalize hI : (fun r => idle start r now f) = I at *
  have hIr : ∀ r, idle start r now f = I r := fun r => by rw [← hI]
  simp only [hIr] at HS hidle
  clear hID hI hIr
  obtain ⟨n, sk, tl, va, lo, he, ke, qu, rates⟩ := f
  simp only [tabVal, cfVal] at *
  have HRW := Lib.hid h
  generalize hnr : rows.length = nr at *
  generalize rates.length = nz at *
  have HNR := Lib.hid hnr
  obtain ⟨k0, k1, k2, hb⟩ := three_new w (.cells #[.int .i64 start, .slice p nr (c + nr)] 24) (.cells #[.int .i64 n, .int .i64 sk, .int .i64 tl, .int .i64 va, .int .i64 lo, .int .i64 he, .int .i64 ke, .int .i64 qu, .slice pf nz cf] 27) (.cells #[.int .i64 0, .slice none 0 0] 24)
  have HZ := Lib.hid hz
  have HB := Lib.hid hb
  have K0 := Lib.hid k0
  have K1 := Lib.hid k1
  have K2 := Lib.hid k2
  clear hz hb k0 k1 k2 h hnr
  go_enter Try.func24, Try.ntmps24
  go_wp2
  generalize ((w.alloc (.cells #[.int .i64 start, .slice p nr (c + nr)] 24)).alloc (.cells #[.int .i64 n, .int .i64 sk, .int .i64 tl, .int .i64 va, .int .i64 lo, .int .i64 he, .int .i64 ke, .int .i64 qu, .slice pf nz cf] 27)).alloc (.cells #[.int .i64 0, .slice none 0 0] 24) = w3 at *
  go_loopw [7, 8, 9] (fun v i d wr => ∃ j : Nat, j ≤ nr ∧ i = .int .i64 (j : Int) ∧ Hid (OwnR w w3.heap.size wr v (G j)) ∧ Below w3.heap.size w3 wr) (fun _ i _ _ => nr - (intOf i).toNat)
  case atStart => exact ⟨0, by omega, rfl, (by rw [h00]; exact OwnR.none _ _ _), Below.refl _ _⟩
  case round =>
    obtain ⟨j, hj, rfl, hown, hbw⟩ := hrel
    obtain ⟨a0, a1, -⟩ := tab2 ((hbw.block _ (lt_of_heap K0.out)).trans K0.out)
    by_cases hlt : j < nr
    · obtain ⟨b, o, rfl, x0, x1, x2, px, cx, x3, hxl⟩ := rows_some HRW.out (show j < rows.length by rw [HNR.out]; exact hlt)
      have hlt' : (j : Int) < (nr : Int) := by omega
      have hs := HS.out j hlt
      have hlen := (HL j).out
      have hi := hidle
      generalize rows.getD j noRow = x at *
      obtain ⟨xk, xa, xm, xo⟩ := x
      have hi := fun u hu => hidle u ⟨xk, xa, xm, xo⟩ px cx hu
      simp only [rowVal] at *
      generalize hnx : xo.length = nxo at *
      have HNX := Lib.hid hnx
      have CE : Hid (∀ u, Below w3.heap.size w3 u → (u.cell? ⟨w.heap.size, 0, none⟩ = some (.int .i64 start) ∧ u.cell? ⟨w.heap.size, 1, none⟩ = some (.slice (some ⟨b, o, none⟩) nr (c + nr)) ∧ u.cell? ⟨b, o + j * 4, none⟩ = some (.int .i64 xk) ∧ u.cell? ⟨b, o + j * 4 + 1, none⟩ = some (.int .i64 xa) ∧ u.cell? ⟨b, o + j * 4 + 2, none⟩ = some (.int .i64 xm) ∧ u.cell? ⟨b, o + j * 4 + 3, none⟩ = some (.slice px nxo (cx + nxo)) ∧ u.cell? ⟨w.heap.size + 1, 0, none⟩ = some (.int .i64 n) ∧ u.cell? ⟨w.heap.size + 1, 1, none⟩ = some (.int .i64 sk) ∧ u.cell? ⟨w.heap.size + 1, 2, none⟩ = some (.int .i64 tl) ∧ u.cell? ⟨w.heap.size + 1, 3, none⟩ = some (.int .i64 va) ∧ u.cell? ⟨w.heap.size + 1, 4, none⟩ = some (.int .i64 lo) ∧ u.cell? ⟨w.heap.size + 1, 5, none⟩ = some (.int .i64 he) ∧ u.cell? ⟨w.heap.size + 1, 6, none⟩ = some (.int .i64 ke) ∧ u.cell? ⟨w.heap.size + 1, 7, none⟩ = some (.int .i64 qu) ∧ u.cell? ⟨w.heap.size + 1, 8, none⟩ = some (.slice pf nz cf)) ∧ RatesAt u pf rates) := fun u hu => by
        have hw := HB.out.trans (hu.mono HB.out.size)
        obtain ⟨t0, t1, -⟩ := tab2 ((hu.block _ (lt_of_heap K0.out)).trans K0.out)
        obtain ⟨c0, c1, c2, c3, c4, c5, c6, c7, c8⟩ := nine_cells ((hu.block _ (lt_of_heap K1.out)).trans K1.out)
        exact ⟨⟨t0, t1, cell_on x0 hw, cell_on x1 hw, cell_on x2 hw, cell_on x3 hw, c0, c1, c2, c3, c4, c5, c6, c7, c8⟩, HZ.out.below hw⟩
      have HXL := Lib.hid hxl
      have D0 := Lib.hid hbw.drew
      have Z0 := Lib.hid (CE.out _ hbw.drew).2
      have S0 := (CE.out _ hbw.drew).1
      have HOW := Lib.hid hown.out
      have HBW := Lib.hid hbw
      clear x0 x1 x2 x3 hxl hnx hidle HS
      generalize I ⟨xk, xa, xm, xo⟩ = q at *
      clear hj hown a0 a1
      obtain ⟨l, hGl⟩ : ∃ l, G j = l := ⟨_, rfl⟩
      rw [hGl] at HOW hlen hs
      clear hGl
      obtain ⟨pv, cv, rfl⟩ := HOW.out.shape
      generalize hnl : l.length = nl at *
      have HNL := Lib.hid hnl
      clear hnl
      obtain ⟨s0, s1, s2, s3, s4, s5, s6, s7, s8, s9, s10, s11, s12, s13, s14⟩ := S0
      obtain ⟨a0, a1, -⟩ := tab2 ((hbw.block _ (lt_of_heap K0.out)).trans K0.out)
      have HSE := Lib.hid hs
      clear hs
      rcases Bool.eq_false_or_eq_true q with rfl | rfl
      · have SE := Lib.hid (HSE.out.trans (by rw [if_pos rfl, List.append_nil]))
        clear HSE
        go_wp2
        go_region_held3 (fun u => (u.cell? ⟨w.heap.size, 0, none⟩ = some (.int .i64 start) ∧ u.cell? ⟨w.heap.size, 1, none⟩ = some (.slice (some ⟨b, o, none⟩) nr (c + nr)) ∧ u.cell? ⟨b, o + j * 4, none⟩ = some (.int .i64 xk) ∧ u.cell? ⟨b, o + j * 4 + 1, none⟩ = some (.int .i64 xa) ∧ u.cell? ⟨b, o + j * 4 + 2, none⟩ = some (.int .i64 xm) ∧ u.cell? ⟨b, o + j * 4 + 3, none⟩ = some (.slice px nxo (cx + nxo)) ∧ u.cell? ⟨w.heap.size + 1, 0, none⟩ = some (.int .i64 n) ∧ u.cell? ⟨w.heap.size + 1, 1, none⟩ = some (.int .i64 sk) ∧ u.cell? ⟨w.heap.size + 1, 2, none⟩ = some (.int .i64 tl) ∧ u.cell? ⟨w.heap.size + 1, 3, none⟩ = some (.int .i64 va) ∧ u.cell? ⟨w.heap.size + 1, 4, none⟩ = some (.int .i64 lo) ∧ u.cell? ⟨w.heap.size + 1, 5, none⟩ = some (.int .i64 he) ∧ u.cell? ⟨w.heap.size + 1, 6, none⟩ = some (.int .i64 ke) ∧ u.cell? ⟨w.heap.size + 1, 7, none⟩ = some (.int .i64 qu) ∧ u.cell? ⟨w.heap.size + 1, 8, none⟩ = some (.slice pf nz cf))) (first | assumption | exact ⟨s0, s1, s2, s3, s4, s5, s6, s7, s8, s9, s10, s11, s12, s13, s14⟩ | exact (CE.out _ D2.out).1) (first
          | (go_at_call 25; (with_reducible refine (hi _ Z0.out).mono ?_); rintro e u2 ⟨rfl, hb2⟩; have D2 := Lib.hid (D0.out.trans (hb2.mono D0.out.size)); have B2 := Lib.hid ((Below.refl wr.heap.size wr).drew.trans hb2)))
        all_goals
          go_wp2
          go_roundw
          case rel => exact ⟨j + 1, by omega, by go_num, by rw [SE.out]; exact Lib.hid (HOW.out.on B2.out), D2.out⟩
          case measure => simp [intOf]; omega
      · have SE := Lib.hid (HSE.out.trans (by rw [if_neg (by simp)]))
        clear HSE
        go_wp2
        go_region_held3 (fun u => (u.cell? ⟨w.heap.size, 0, none⟩ = some (.int .i64 start) ∧ u.cell? ⟨w.heap.size, 1, none⟩ = some (.slice (some ⟨b, o, none⟩) nr (c + nr)) ∧ u.cell? ⟨b, o + j * 4, none⟩ = some (.int .i64 xk) ∧ u.cell? ⟨b, o + j * 4 + 1, none⟩ = some (.int .i64 xa) ∧ u.cell? ⟨b, o + j * 4 + 2, none⟩ = some (.int .i64 xm) ∧ u.cell? ⟨b, o + j * 4 + 3, none⟩ = some (.slice px nxo (cx + nxo)) ∧ u.cell? ⟨w.heap.size + 1, 0, none⟩ = some (.int .i64 n) ∧ u.cell? ⟨w.heap.size + 1, 1, none⟩ = some (.int .i64 sk) ∧ u.cell? ⟨w.heap.size + 1, 2, none⟩ = some (.int .i64 tl) ∧ u.cell? ⟨w.heap.size + 1, 3, none⟩ = some (.int .i64 va) ∧ u.cell? ⟨w.heap.size + 1, 4, none⟩ = some (.int .i64 lo) ∧ u.cell? ⟨w.heap.size + 1, 5, none⟩ = some (.int .i64 he) ∧ u.cell? ⟨w.heap.size + 1, 6, none⟩ = some (.int .i64 ke) ∧ u.cell? ⟨w.heap.size + 1, 7, none⟩ = some (.int .i64 qu) ∧ u.cell? ⟨w.heap.size + 1, 8, none⟩ = some (.slice pf nz cf))) (first | assumption | exact ⟨s0, s1, s2, s3, s4, s5, s6, s7, s8, s9, s10, s11, s12, s13, s14⟩ | exact (CE.out _ D2.out).1) (first
          | (go_at_call 25; (with_reducible refine (hi _ Z0.out).mono ?_); rintro e u2 ⟨rfl, hb2⟩; have D2 := Lib.hid (D0.out.trans (hb2.mono D0.out.size)); have B2 := Lib.hid ((Below.refl wr.heap.size wr).drew.trans hb2)))
        all_goals
          go_wp2_with (at_builtin; refine push_row rfl (.tmp 28) (.tmp 34) rfl w w3 u2 (.slice pv nl cv) rfl l nl HNL.out (HOW.out.on B2.out) D2.out (Below.refl _ _) u2.heap.size ⟨xk, xa, xm, xo⟩ px nxo cx HNX.out rfl (heap_alloc_new _ _) HXL.out (by omega) ?_; intro p4 c4 w4 R4 B4; clear s0 s1 s2 s3 s4 s5 s6 s7 s8 s9 s10 s11 s12 s13 s14 a0 a1)
          go_roundw
          case rel => exact ⟨j + 1, by omega, by go_num, by rw [SE.out]; exact R4, B4⟩
          case measure => simp [intOf]; omega
    · obtain rfl : j = nr := by omega
      have hv := HV.out _ rfl
      generalize hGl : G j = l at *
      clear hGl
      obtain ⟨pv, cv, rfl⟩ := hown.out.shape
      generalize hnl : l.length = nl at *
      have HNL := Lib.hid hnl
      have HOW := Lib.hid hown.out
      have HVE := Lib.hid hv
      have fa := (tab2 ((hbw.block _ (lt_of_heap K0.out)).trans K0.out)).2.2 1
      obtain ⟨d0, d1, ff⟩ := tab2 ((hbw.block _ (lt_of_heap K2.out)).trans K2.out)
      have f0 := ff 0
      have f1 := ff 1
      have HBW := Lib.hid hbw
      have hsz : w.heap.size + 1 + 1 < w3.heap.size := lt_of_heap K2.out
      clear hnl hown hv ff HV HS HL hidle
      go_wp2
      refine bodyPost_ret (v := .agg #[.int .i64 start, .slice pv nl cv]) (by simp [results, Try.results24, go_sem, d0, d1]) rfl ?_
      have hwu := HB.out.trans (HBW.out.mono HB.out.size)
      have hwu2 := ((hwu.setCell (p := ⟨w.heap.size, 1, none⟩) (by simp) (.slice pv nl cv)).setCell (p := ⟨w.heap.size + 1 + 1, 0, none⟩) (by simp; omega) (.int .i64 start)).setCell (p := ⟨w.heap.size + 1 + 1, 1, none⟩) (by simp; omega) (.slice pv nl cv)
      have ho2 := ((HOW.out.set (b := w.heap.size) (o := 1) (u := .slice pv nl cv) (by omega)).set (b := w.heap.size + 1 + 1) (o := 0) (u := .int .i64 start) hsz).set (b := w.heap.size + 1 + 1) (o := 1) (u := .slice pv nl cv) hsz
      obtain ⟨p', c', hv, hrows⟩ := ho2.rows hwu2
      simp only [Value.slice.injEq] at hv
      obtain ⟨rfl, -, hcv⟩ := hv
      rw [HVE.out]
      exact ⟨pv, c', by rw [hcv, ← HNL.out]; rfl, hrows, hwu2⟩
end Go.Proofs.Ytcnnepmhdccipaa.Ledger

namespace Go.Proofs.Ytcnnepmhdccipaa.Ledger
open Go.RowKit
open _root_.Go.Proofs.Ytcnnepmhdccipaa.Frame (Rw Tb noRow LeasesAt cell_on)
open _root_.Go.Proofs.Ytcnnepmhdccipaa.Codec (own_below own_lower lt_of_heap frozen_of heap_set below_new)
open _root_.Go.Proofs.Ytcnnepmhdccipaa.Sat (fit add sub mul)

/-- What is minted, and the error. -/
def rateOf (f : Cf) (key : Int) : Int × Int := f.rates.getD (rateAt f.rates key).toNat (0, 0)
def mint (t : Tb) (key now : Int) (f : Cf) : Tb × Int :=
  if rateAt f.rates key < 0 then (t, 4)
  else if 0 ≤ place t.rows key ∨ (t.rows.length : Int) < f.keys then (setRow t (look t key now (rateOf f key).1 (rateOf f key).2), 0)
  else if f.keys ≤ ((sweep t now f).rows.length : Int) then (t, 3)
  else (setRow (sweep t now f) (look (sweep t now f) key now (rateOf f key).1 (rateOf f key).2), 0)
theorem sweep_len (t : Tb) (now : Int) (f : Cf) : (sweep t now f).rows.length ≤ t.rows.length := by
  have := sweepOf_len t.start now f t.rows t.rows.length
  rwa [List.take_length] at this
theorem sweep_mem {t : Tb} {now : Int} {f : Cf} {r : Rw} (h : r ∈ (sweep t now f).rows) : r ∈ t.rows := by
  simp only [sweep, sweepOf, List.mem_filter] at h
  exact h.1
theorem look_out_len {t : Tb} (ho : ∀ r ∈ t.rows, r.out.length ≤ 1000) (key now R B : Int) : (look t key now R B).out.length ≤ 1000 := find_out ho key

/-- The boxes of Mint. -/
structure MBx (w : World) (start : Int) (p : Option Addr) (nr c : Nat) (vs : Array Value) (u : World) : Prop where
  tab : u.heap[w.heap.size]? = some (.cells #[.int .i64 start, .slice p nr (c + nr)] 24 (0, 0))
  conf : u.heap[w.heap.size + 1]? = some (.cells vs 27 (0, 0))
  res : u.heap[w.heap.size + 1 + 1]? = some (.cells #[.int .i64 0, .slice none 0 0] 24 (0, 0))
  below : Below w.heap.size w u
theorem MBx.on {w u u' : World} {start : Int} {p : Option Addr} {nr c : Nat} {vs : Array Value} (h : MBx w start p nr c vs u) (hb : Below u.heap.size u u') : MBx w start p nr c vs u' :=
  ⟨(hb.block _ (lt_of_heap h.tab)).trans h.tab, (hb.block _ (lt_of_heap h.conf)).trans h.conf, (hb.block _ (lt_of_heap h.res)).trans h.res, h.below.trans (hb.mono h.below.size)⟩
theorem MBx.out {w u : World} {start : Int} {p : Option Addr} {nr c : Nat} {vs : Array Value} (h : MBx w start p nr c vs u) (y1 y2 : Value) : Below w.heap.size w ((u.setCell ⟨w.heap.size + 1 + 1, 0, none⟩ y1).setCell ⟨w.heap.size + 1 + 1, 1, none⟩ y2) :=
  (h.below.setCell (by simp; omega) _).setCell (by simp; omega) _
theorem MBx.size {w u : World} {start : Int} {p : Option Addr} {nr c : Nat} {vs : Array Value} (h : MBx w start p nr c vs u) : w.heap.size + 3 ≤ u.heap.size := lt_of_heap h.res

set_option maxRecDepth 100000 in
set_option maxHeartbeats 4000000 in
theorem mint_none (start key now n sk tl va lo he ke qu ri : Int) (p pf : Option Addr) (nr c nz cf : Nat) (w : World) (rows : List Rw)
    (hrate : ∀ u, Calls Try.prog 26 #[.agg #[.int .i64 n, .int .i64 sk, .int .i64 tl, .int .i64 va, .int .i64 lo, .int .i64 he, .int .i64 ke, .int .i64 qu, .slice pf nz cf], .int .i64 key] u fun e u' => e = .returned (.int .i64 ri) ∧ Below u.heap.size u u')
    (hcase : ri < 0) (h : RowsAt w p rows) (hnr : rows.length = nr) :
    Calls Try.prog 33 #[.agg #[.int .i64 start, .slice p nr (c + nr)], .int .i64 key, .int .i64 now, .agg #[.int .i64 n, .int .i64 sk, .int .i64 tl, .int .i64 va, .int .i64 lo, .int .i64 he, .int .i64 ke, .int .i64 qu, .slice pf nz cf]] w (TellsTab w ⟨start, rows⟩ (fun v => .tuple #[v, .int .i64 4])) := by
  obtain ⟨k0, k1, k2, hb⟩ := three_new w (.cells #[.int .i64 start, .slice p nr (c + nr)] 24) (.cells #[.int .i64 n, .int .i64 sk, .int .i64 tl, .int .i64 va, .int .i64 lo, .int .i64 he, .int .i64 ke, .int .i64 qu, .slice pf nz cf] 27) (.cells #[.int .i64 0, .slice none 0 0] 24)
  have X0 := Lib.hid (MBx.mk k0 k1 k2 hb)
  clear k0 k1 k2 hb
  go_enter Try.func33, Try.ntmps33
  go_wp2_with (first
    | (go_at_call 26; (with_reducible refine (hrate _).mono ?_); rintro e u1 ⟨rfl, hb1⟩; have hx1 := X0.out.on hb1; obtain ⟨a0, a1, -⟩ := tab2 hx1.tab; obtain ⟨d0, d1, ff⟩ := tab2 hx1.res; have f0 := ff 0; have f1 := ff 1; have X1 := Lib.hid hx1; clear hrate hx1 ff X0 hb1))
  refine bodyPost_ret (v := .tuple #[.agg #[.int .i64 start, .slice p nr (c + nr)], .int .i64 4]) (by simp [results, Try.results33, go_sem, d0, d1]) rfl ?_
  have BE := X1.out.out (.int .i64 start) (.slice p nr (c + nr))
  exact ⟨p, c, by rw [← hnr]; rfl, h.below BE, BE⟩

/-- With the box of x. -/
structure MBy (w : World) (start : Int) (p : Option Addr) (nr c : Nat) (vs : Array Value) (g : Nat) (v1 v2 : Value) (u : World) : Prop where
  all : MBx w start p nr c vs u
  x : u.heap[g]? = some (.cells #[v1, v2] 24 (0, 0))
  far : w.heap.size + 3 ≤ g
theorem MBy.on {w u u' : World} {start : Int} {p : Option Addr} {nr c g : Nat} {vs : Array Value} {v1 v2 : Value} (h : MBy w start p nr c vs g v1 v2 u) (hb : Below u.heap.size u u') : MBy w start p nr c vs g v1 v2 u' :=
  ⟨h.all.on hb, (hb.block _ (lt_of_heap h.x)).trans h.x, h.far⟩
theorem MBy.set {w u : World} {start : Int} {p : Option Addr} {nr c g : Nat} {vs : Array Value} {v1 v2 : Value} (h : MBy w start p nr c vs g v1 v2 u) (y1 y2 : Value) : MBy w start p nr c vs g y1 y2 ((u.setCell ⟨g, 0, none⟩ y1).setCell ⟨g, 1, none⟩ y2) := by
  have e1 : (u.setCell ⟨g, 0, none⟩ y1).heap[g]? = some (.cells #[y1, v2] 24 (0, 0)) := by rw [heap_set _ 0 _ _ h.x]; rfl
  have e2 : ((u.setCell ⟨g, 0, none⟩ y1).setCell ⟨g, 1, none⟩ y2).heap[g]? = some (.cells #[y1, y2] 24 (0, 0)) := by rw [heap_set _ 1 _ _ e1]; rfl
  have hf := h.far
  refine ⟨⟨?_, ?_, ?_, (h.all.below.setCell (by simp; omega) _).setCell (by simp; omega) _⟩, e2, hf⟩
  · exact ((Below.heap_setCell _ _ _ _ (by simp; omega)).trans (Below.heap_setCell _ _ _ _ (by simp; omega))).trans h.all.tab
  · exact ((Below.heap_setCell _ _ _ _ (by simp; omega)).trans (Below.heap_setCell _ _ _ _ (by simp; omega))).trans h.all.conf
  · exact ((Below.heap_setCell _ _ _ _ (by simp; omega)).trans (Below.heap_setCell _ _ _ _ (by simp; omega))).trans h.all.res
theorem MBy.new {w u : World} {start : Int} {p : Option Addr} {nr c : Nat} {vs : Array Value} (h : MBx w start p nr c vs u) (v1 v2 : Value) : MBy w start p nr c vs u.heap.size v1 v2 (u.alloc (.cells #[v1, v2] 24)) :=
  ⟨h.on ((Below.refl _ _).alloc (Nat.le_refl _) _), heap_alloc_new _ _, h.size⟩
/-- Where the result's box is set. -/
theorem MBy.put {w u : World} {start : Int} {p : Option Addr} {nr c g : Nat} {vs : Array Value} {v1 v2 : Value} (h : MBy w start p nr c vs g v1 v2 u) (y1 y2 : Value) :
    ((u.setCell ⟨w.heap.size + 1 + 1, 0, none⟩ y1).setCell ⟨w.heap.size + 1 + 1, 1, none⟩ y2).heap[g]? = some (.cells #[v1, v2] 24 (0, 0)) ∧
    ((u.setCell ⟨w.heap.size + 1 + 1, 0, none⟩ y1).setCell ⟨w.heap.size + 1 + 1, 1, none⟩ y2).heap[w.heap.size + 1]? = some (.cells vs 27 (0, 0)) ∧
    Below w.heap.size w ((u.setCell ⟨w.heap.size + 1 + 1, 0, none⟩ y1).setCell ⟨w.heap.size + 1 + 1, 1, none⟩ y2) := by
  have hf := h.far
  exact ⟨((Below.heap_setCell _ _ _ _ (by simp; omega)).trans (Below.heap_setCell _ _ _ _ (by simp; omega))).trans h.x, ((Below.heap_setCell _ _ _ _ (by simp)).trans (Below.heap_setCell _ _ _ _ (by simp))).trans h.all.conf, (h.all.below.setCell (by simp; omega) _).setCell (by simp; omega) _⟩
theorem tells_res2 {w u : World} {T : Tb} {start : Int} {p' : Option Addr} {c' n : Nat} {x : Int} (hres : u.heap[w.heap.size + 1 + 1]? = some (.cells #[.int .i64 x, .slice none 0 0] 24 (0, 0))) (hr : RowsAt u p' T.rows) (hb : Below w.heap.size w u) (hs : T.start = start) (hn : T.rows.length = n) (mk : Value → Value) :
    TellsTab w T mk (.returned (mk (.agg #[.int .i64 start, .slice p' n (c' + n)]))) ((u.setCell ⟨w.heap.size + 1 + 1, 0, none⟩ (.int .i64 start)).setCell ⟨w.heap.size + 1 + 1, 1, none⟩ (.slice p' n (c' + n))) := by
  subst hs hn
  have h2 : (u.setCell ⟨w.heap.size + 1 + 1, 0, none⟩ (.int .i64 T.start)).heap[w.heap.size + 1 + 1]? = some (.cells #[.int .i64 T.start, .slice none 0 0] 24 (0, 0)) := by rw [heap_set _ 0 _ _ hres]; rfl
  exact ⟨p', c', rfl, rows_tab h2 (rows_tab hres hr), (hb.setCell (by simp; omega) _).setCell (by simp; omega) _⟩

set_option maxRecDepth 100000 in
set_option maxHeartbeats 4000000 in
theorem mint_same (start key now n sk tl va lo he ke qu pl R B lk la lm : Int) (p : Option Addr) (bf fo k : Nat) (nr c nz cf nl nT : Nat) (w : World) (out : List (Int × Int)) (T : Tb) (rows : List Rw)
    (hrate : ∀ u, Calls Try.prog 26 #[.agg #[.int .i64 n, .int .i64 sk, .int .i64 tl, .int .i64 va, .int .i64 lo, .int .i64 he, .int .i64 ke, .int .i64 qu, .slice (some ⟨bf, fo, none⟩) nz cf], .int .i64 key] u fun e u' => e = .returned (.int .i64 (k : Int)) ∧ Below u.heap.size u u')
    (hat : ∀ u, Below w.heap.size w u → Calls Try.prog 38 #[.agg #[.int .i64 start, .slice p nr (c + nr)], .int .i64 key] u fun e u' => e = .returned (.int .i64 pl) ∧ Below u.heap.size u u')
    (hcase : 0 ≤ pl ∨ pl < 0 ∧ (nr : Int) < ke)
    (hlook : ∀ (u : World) (px : Option Addr) (cx : Nat), RowsAt u px rows → Calls Try.prog 15 #[.agg #[.int .i64 start, .slice px nr (cx + nr)], .int .i64 key, .int .i64 now, .agg #[.int .i64 R, .int .i64 B]] u fun e u' => ∃ p1 c1, e = .returned (.agg #[.int .i64 lk, .int .i64 la, .int .i64 lm, .slice p1 nl (c1 + nl)]) ∧ LeasesAt u p1 out ∧ Below u.heap.size u u')
    (hset : ∀ (u : World) (px : Option Addr) (cx : Nat) (pr : Option Addr) (cr : Nat), RowsAt u px rows → LeasesAt u pr out → Calls Try.prog 62 #[.agg #[.int .i64 start, .slice px nr (cx + nr)], .agg #[.int .i64 lk, .int .i64 la, .int .i64 lm, .slice pr nl (cr + nl)]] u fun e u' => ∃ p' c', e = .returned (.agg #[.int .i64 start, .slice p' nT (c' + nT)]) ∧ RowsAt u' p' T.rows ∧ Below u.heap.size u u')
    (hk : k < nz) (hz : ∀ u, Below w.heap.size w u → u.cell? ⟨bf, fo + k * 2, none⟩ = some (.int .i64 R) ∧ u.cell? ⟨bf, fo + k * 2 + 1, none⟩ = some (.int .i64 B))
     (h : RowsAt w p rows) (hTs : T.start = start) (hTn : T.rows.length = nT) :
    Calls Try.prog 33 #[.agg #[.int .i64 start, .slice p nr (c + nr)], .int .i64 key, .int .i64 now, .agg #[.int .i64 n, .int .i64 sk, .int .i64 tl, .int .i64 va, .int .i64 lo, .int .i64 he, .int .i64 ke, .int .i64 qu, .slice (some ⟨bf, fo, none⟩) nz cf]] w (TellsTab w T (fun v => .tuple #[v, .int .i64 0])) := by
  obtain ⟨k0, k1, k2, hb⟩ := three_new w (.cells #[.int .i64 start, .slice p nr (c + nr)] 24) (.cells #[.int .i64 n, .int .i64 sk, .int .i64 tl, .int .i64 va, .int .i64 lo, .int .i64 he, .int .i64 ke, .int .i64 qu, .slice (some ⟨bf, fo, none⟩) nz cf] 27) (.cells #[.int .i64 0, .slice none 0 0] 24)
  have X0 := Lib.hid (MBx.mk k0 k1 k2 hb)
  have HTS := Lib.hid hTs
  have HTN := Lib.hid hTn
  have HZ := Lib.hid hz
  have HR := Lib.hid h
  have hk0 : (0 : Int) ≤ (k : Int) := by omega
  have hk1 : (k : Int) < (nz : Int) := by omega
  clear k0 k1 k2 hb hTs hTn hz h
  go_enter Try.func33, Try.ntmps33
  rcases hcase with hpl | ⟨hpl, hke⟩
  all_goals
    go_wp2_with (first
      | (go_at_call 26; (with_reducible refine (hrate _).mono ?_); rintro e u1 ⟨rfl, hb1⟩; have hx0 := X0.out.on hb1; obtain ⟨z0, z1, -⟩ := tab2 hx0.tab; have hx1 := MBy.new hx0 (.int .i64 start) (.slice p nr (c + nr)); obtain ⟨a0, a1, -⟩ := tab2 hx1.all.tab; have e6 := (nine_cells hx1.all.conf).2.2.2.2.2.2.1; have Y1 := Lib.hid hx1; clear hrate hx1 hx0 X0 hb1)
      | (go_at_call 38; (with_reducible refine (hat _ Y1.out.all.below).mono ?_); rintro e u2 ⟨rfl, hb2⟩; have Y2 := Lib.hid (Y1.out.on hb2); have a1 := (tab2 Y2.out.all.tab).2.1; have e6 := (nine_cells Y2.out.all.conf).2.2.2.2.2.2.1; clear hb2 Y1 hat))
    have YD := Lib.hid (Y2.out.on (Below.refl _ _).drew)
    have RX := Lib.hid (HR.out.below YD.out.all.below)
    obtain ⟨x0, x1, -⟩ := tab2 Y2.out.x
    have e8 := (nine_cells Y2.out.all.conf).2.2.2.2.2.2.2.2
    obtain ⟨r0, r1⟩ := HZ.out _ Y2.out.all.below
    clear a1 e6
    go_region_held3 (fun u => u.cell? ⟨u1.heap.size, 0, none⟩ = some (.int .i64 start) ∧ u.cell? ⟨u1.heap.size, 1, none⟩ = some (.slice p nr (c + nr)) ∧ u.cell? ⟨w.heap.size + 1, 8, none⟩ = some (.slice (some ⟨bf, fo, none⟩) nz cf) ∧ u.cell? ⟨bf, fo + k * 2, none⟩ = some (.int .i64 R) ∧ u.cell? ⟨bf, fo + k * 2 + 1, none⟩ = some (.int .i64 B)) (first | assumption | exact ⟨x0, x1, e8, r0, r1⟩ | exact SM.out | exact SL.out) (first
      | (go_at_call 15; (with_reducible refine (hlook _ _ _ RX.out).mono ?_); rintro e u5 ⟨p1, c1, rfl, hl5, hb5⟩; have Y5 := Lib.hid (YD.out.on hb5); have L5 := Lib.hid (hl5.below hb5); have R5 := Lib.hid (RX.out.below hb5); have SL := Lib.hid (And.intro (tab2 Y5.out.x).1 (And.intro (tab2 Y5.out.x).2.1 (And.intro (nine_cells Y5.out.all.conf).2.2.2.2.2.2.2.2 (HZ.out _ Y5.out.all.below)))))
      | (go_at_call 62; (with_reducible refine (hset _ _ _ _ _ R5.out L5.out).mono ?_); rintro e u6 ⟨p', c', rfl, hr6, hb6⟩; have Y6 := Lib.hid (Y5.out.on hb6); have R6 := Lib.hid hr6; obtain ⟨d0, d1, ff⟩ := tab2 Y6.out.all.res; have f0 := ff 0; have f1 := ff 1; have SL := Lib.hid (And.intro (tab2 Y6.out.x).1 (And.intro (tab2 Y6.out.x).2.1 (And.intro (nine_cells Y6.out.all.conf).2.2.2.2.2.2.2.2 (HZ.out _ Y6.out.all.below)))); obtain ⟨m0, m1, m2⟩ := Y6.out.put (.int .i64 start) (.slice p' nT (c' + nT)); have SM := Lib.hid (And.intro (tab2 m0).1 (And.intro (tab2 m0).2.1 (And.intro (nine_cells m1).2.2.2.2.2.2.2.2 (HZ.out _ m2)))); clear m0 m1 m2))
    all_goals
      clear x0 x1 e8 r0 r1
      go_wp2
      refine bodyPost_ret (v := .tuple #[.agg #[.int .i64 start, .slice p' nT (c' + nT)], .int .i64 0]) (by simp [results, Try.results33, go_sem, d0, d1]) rfl ?_
      exact tells_res2 Y6.out.all.res R6.out Y6.out.all.below HTS.out HTN.out (fun v => .tuple #[v, .int .i64 0])

set_option maxRecDepth 100000 in
set_option maxHeartbeats 4000000 in
theorem mint_swept (start key now n sk tl va lo he ke qu pl R B lk la lm : Int) (p : Option Addr) (bf fo k : Nat) (nr c nz cf nl nT ns : Nat) (w : World) (out : List (Int × Int)) (T : Tb) (rows srows : List Rw)
    (hrate : ∀ u, Calls Try.prog 26 #[.agg #[.int .i64 n, .int .i64 sk, .int .i64 tl, .int .i64 va, .int .i64 lo, .int .i64 he, .int .i64 ke, .int .i64 qu, .slice (some ⟨bf, fo, none⟩) nz cf], .int .i64 key] u fun e u' => e = .returned (.int .i64 (k : Int)) ∧ Below u.heap.size u u')
    (hat : ∀ u, Below w.heap.size w u → Calls Try.prog 38 #[.agg #[.int .i64 start, .slice p nr (c + nr)], .int .i64 key] u fun e u' => e = .returned (.int .i64 pl) ∧ Below u.heap.size u u')
    (hsweep : ∀ u, RowsAt u p rows → Below w.heap.size w u → Calls Try.prog 24 #[.agg #[.int .i64 start, .slice p nr (c + nr)], .int .i64 now, .agg #[.int .i64 n, .int .i64 sk, .int .i64 tl, .int .i64 va, .int .i64 lo, .int .i64 he, .int .i64 ke, .int .i64 qu, .slice (some ⟨bf, fo, none⟩) nz cf]] u fun e u' => ∃ px cx, e = .returned (.agg #[.int .i64 start, .slice px ns (cx + ns)]) ∧ RowsAt u' px srows ∧ Below u.heap.size u u')
    (hlook : ∀ (u : World) (px : Option Addr) (cx : Nat), RowsAt u px srows → Calls Try.prog 15 #[.agg #[.int .i64 start, .slice px ns (cx + ns)], .int .i64 key, .int .i64 now, .agg #[.int .i64 R, .int .i64 B]] u fun e u' => ∃ p1 c1, e = .returned (.agg #[.int .i64 lk, .int .i64 la, .int .i64 lm, .slice p1 nl (c1 + nl)]) ∧ LeasesAt u p1 out ∧ Below u.heap.size u u')
    (hset : ∀ (u : World) (px : Option Addr) (cx : Nat) (pr : Option Addr) (cr : Nat), RowsAt u px srows → LeasesAt u pr out → Calls Try.prog 62 #[.agg #[.int .i64 start, .slice px ns (cx + ns)], .agg #[.int .i64 lk, .int .i64 la, .int .i64 lm, .slice pr nl (cr + nl)]] u fun e u' => ∃ p' c', e = .returned (.agg #[.int .i64 start, .slice p' nT (c' + nT)]) ∧ RowsAt u' p' T.rows ∧ Below u.heap.size u u')
    (hk : k < nz) (hz : ∀ u, Below w.heap.size w u → u.cell? ⟨bf, fo + k * 2, none⟩ = some (.int .i64 R) ∧ u.cell? ⟨bf, fo + k * 2 + 1, none⟩ = some (.int .i64 B))
    (hpl : pl < 0) (hke : ke ≤ (nr : Int)) (hns : (ns : Int) < ke) (h : RowsAt w p rows) (hTs : T.start = start) (hTn : T.rows.length = nT) :
    Calls Try.prog 33 #[.agg #[.int .i64 start, .slice p nr (c + nr)], .int .i64 key, .int .i64 now, .agg #[.int .i64 n, .int .i64 sk, .int .i64 tl, .int .i64 va, .int .i64 lo, .int .i64 he, .int .i64 ke, .int .i64 qu, .slice (some ⟨bf, fo, none⟩) nz cf]] w (TellsTab w T (fun v => .tuple #[v, .int .i64 0])) := by
  obtain ⟨k0, k1, k2, hb⟩ := three_new w (.cells #[.int .i64 start, .slice p nr (c + nr)] 24) (.cells #[.int .i64 n, .int .i64 sk, .int .i64 tl, .int .i64 va, .int .i64 lo, .int .i64 he, .int .i64 ke, .int .i64 qu, .slice (some ⟨bf, fo, none⟩) nz cf] 27) (.cells #[.int .i64 0, .slice none 0 0] 24)
  have X0 := Lib.hid (MBx.mk k0 k1 k2 hb)
  have HTS := Lib.hid hTs
  have HTN := Lib.hid hTn
  have HZ := Lib.hid hz
  have HR := Lib.hid h
  have hk0 : (0 : Int) ≤ (k : Int) := by omega
  have hk1 : (k : Int) < (nz : Int) := by omega
  clear k0 k1 k2 hb hTs hTn hz h
  go_enter Try.func33, Try.ntmps33
  go_wp2_with (first
    | (go_at_call 26; (with_reducible refine (hrate _).mono ?_); rintro e u1 ⟨rfl, hb1⟩; have hx0 := X0.out.on hb1; obtain ⟨z0, z1, -⟩ := tab2 hx0.tab; have hx1 := MBy.new hx0 (.int .i64 start) (.slice p nr (c + nr)); obtain ⟨a0, a1, -⟩ := tab2 hx1.all.tab; have e6 := (nine_cells hx1.all.conf).2.2.2.2.2.2.1; have Y1 := Lib.hid hx1; clear hrate hx1 hx0 X0 hb1)
    | (go_at_call 38; (with_reducible refine (hat _ Y1.out.all.below).mono ?_); rintro e u2 ⟨rfl, hb2⟩; have Y2 := Lib.hid (Y1.out.on hb2); obtain ⟨a0, a1, -⟩ := tab2 Y2.out.all.tab; obtain ⟨e0, e1, e2, e3, e4, e5, e6, e7, e8⟩ := nine_cells Y2.out.all.conf; have RW := Lib.hid (HR.out.below Y2.out.all.below); clear hb2 Y1 hat)
    | (go_at_call 24; (with_reducible refine (hsweep _ RW.out Y2.out.all.below).mono ?_); rintro e u3 ⟨px, cx, rfl, hr3, hb3⟩; have hy := Y2.out.on hb3; have g0 := (tab2 hy.x).2.2 0; have g1 := (tab2 hy.x).2.2 1; obtain ⟨q0, q1, -⟩ := tab2 hy.x; have hy4 := hy.set (.int .i64 start) (.slice px ns (cx + ns)); have R4 := Lib.hid (rows_tab (o := 1) (y := .slice px ns (cx + ns)) (by rw [heap_set _ 0 _ _ hy.x]; rfl) (rows_tab (o := 0) (y := .int .i64 start) hy.x hr3)); have Y4 := Lib.hid hy4; obtain ⟨x0, x1, -⟩ := tab2 hy4.x; obtain ⟨e0, e1, e2, e3, e4, e5, e6, e7, e8⟩ := nine_cells hy4.all.conf; clear hy hy4 hb3 hr3 Y2 RW hsweep))
  have YD := Lib.hid (Y4.out.on (Below.refl _ _).drew)
  have RX := Lib.hid (R4.out.below (Below.refl _ _).drew)
  obtain ⟨r0, r1⟩ := HZ.out _ Y4.out.all.below
  go_region_held3 (fun u => u.cell? ⟨u1.heap.size, 0, none⟩ = some (.int .i64 start) ∧ u.cell? ⟨u1.heap.size, 1, none⟩ = some (.slice px ns (cx + ns)) ∧ u.cell? ⟨w.heap.size + 1, 8, none⟩ = some (.slice (some ⟨bf, fo, none⟩) nz cf) ∧ u.cell? ⟨bf, fo + k * 2, none⟩ = some (.int .i64 R) ∧ u.cell? ⟨bf, fo + k * 2 + 1, none⟩ = some (.int .i64 B)) (first | assumption | exact ⟨x0, x1, e8, r0, r1⟩ | exact SM.out | exact SL.out) (first
    | (go_at_call 15; (with_reducible refine (hlook _ _ _ RX.out).mono ?_); rintro e u5 ⟨p1, c1, rfl, hl5, hb5⟩; have Y5 := Lib.hid (YD.out.on hb5); have L5 := Lib.hid (hl5.below hb5); have R5 := Lib.hid (RX.out.below hb5); have SL := Lib.hid (And.intro (tab2 Y5.out.x).1 (And.intro (tab2 Y5.out.x).2.1 (And.intro (nine_cells Y5.out.all.conf).2.2.2.2.2.2.2.2 (HZ.out _ Y5.out.all.below)))))
    | (go_at_call 62; (with_reducible refine (hset _ _ _ _ _ R5.out L5.out).mono ?_); rintro e u6 ⟨p', c', rfl, hr6, hb6⟩; have Y6 := Lib.hid (Y5.out.on hb6); have R6 := Lib.hid hr6; obtain ⟨d0, d1, ff⟩ := tab2 Y6.out.all.res; have f0 := ff 0; have f1 := ff 1; have SL := Lib.hid (And.intro (tab2 Y6.out.x).1 (And.intro (tab2 Y6.out.x).2.1 (And.intro (nine_cells Y6.out.all.conf).2.2.2.2.2.2.2.2 (HZ.out _ Y6.out.all.below)))); obtain ⟨m0, m1, m2⟩ := Y6.out.put (.int .i64 start) (.slice p' nT (c' + nT)); have SM := Lib.hid (And.intro (tab2 m0).1 (And.intro (tab2 m0).2.1 (And.intro (nine_cells m1).2.2.2.2.2.2.2.2 (HZ.out _ m2)))); clear m0 m1 m2))
  all_goals
    clear x0 x1 e8 r0 r1
    go_wp2
    refine bodyPost_ret (v := .tuple #[.agg #[.int .i64 start, .slice p' nT (c' + nT)], .int .i64 0]) (by simp [results, Try.results33, go_sem, d0, d1]) rfl ?_
    exact tells_res2 Y6.out.all.res R6.out Y6.out.all.below HTS.out HTN.out (fun v => .tuple #[v, .int .i64 0])

set_option maxRecDepth 100000 in
set_option maxHeartbeats 4000000 in
theorem mint_full (start key now n sk tl va lo he ke qu pl : Int) (p : Option Addr) (bf fo k : Nat) (nr c nz cf ns : Nat) (w : World) (rows srows : List Rw)
    (hrate : ∀ u, Calls Try.prog 26 #[.agg #[.int .i64 n, .int .i64 sk, .int .i64 tl, .int .i64 va, .int .i64 lo, .int .i64 he, .int .i64 ke, .int .i64 qu, .slice (some ⟨bf, fo, none⟩) nz cf], .int .i64 key] u fun e u' => e = .returned (.int .i64 (k : Int)) ∧ Below u.heap.size u u')
    (hat : ∀ u, Below w.heap.size w u → Calls Try.prog 38 #[.agg #[.int .i64 start, .slice p nr (c + nr)], .int .i64 key] u fun e u' => e = .returned (.int .i64 pl) ∧ Below u.heap.size u u')
    (hsweep : ∀ u, RowsAt u p rows → Below w.heap.size w u → Calls Try.prog 24 #[.agg #[.int .i64 start, .slice p nr (c + nr)], .int .i64 now, .agg #[.int .i64 n, .int .i64 sk, .int .i64 tl, .int .i64 va, .int .i64 lo, .int .i64 he, .int .i64 ke, .int .i64 qu, .slice (some ⟨bf, fo, none⟩) nz cf]] u fun e u' => ∃ px cx, e = .returned (.agg #[.int .i64 start, .slice px ns (cx + ns)]) ∧ RowsAt u' px srows ∧ Below u.heap.size u u')
    (hpl : pl < 0) (hke : ke ≤ (nr : Int)) (hns : ke ≤ (ns : Int)) (h : RowsAt w p rows) (hnr : rows.length = nr) :
    Calls Try.prog 33 #[.agg #[.int .i64 start, .slice p nr (c + nr)], .int .i64 key, .int .i64 now, .agg #[.int .i64 n, .int .i64 sk, .int .i64 tl, .int .i64 va, .int .i64 lo, .int .i64 he, .int .i64 ke, .int .i64 qu, .slice (some ⟨bf, fo, none⟩) nz cf]] w (TellsTab w ⟨start, rows⟩ (fun v => .tuple #[v, .int .i64 3])) := by
  obtain ⟨k0, k1, k2, hb⟩ := three_new w (.cells #[.int .i64 start, .slice p nr (c + nr)] 24) (.cells #[.int .i64 n, .int .i64 sk, .int .i64 tl, .int .i64 va, .int .i64 lo, .int .i64 he, .int .i64 ke, .int .i64 qu, .slice (some ⟨bf, fo, none⟩) nz cf] 27) (.cells #[.int .i64 0, .slice none 0 0] 24)
  have X0 := Lib.hid (MBx.mk k0 k1 k2 hb)
  have HR := Lib.hid h
  clear k0 k1 k2 hb h
  go_enter Try.func33, Try.ntmps33
  go_wp2_with (first
    | (go_at_call 26; (with_reducible refine (hrate _).mono ?_); rintro e u1 ⟨rfl, hb1⟩; have hx0 := X0.out.on hb1; obtain ⟨z0, z1, -⟩ := tab2 hx0.tab; have hx1 := MBy.new hx0 (.int .i64 start) (.slice p nr (c + nr)); obtain ⟨a0, a1, -⟩ := tab2 hx1.all.tab; have e6 := (nine_cells hx1.all.conf).2.2.2.2.2.2.1; have Y1 := Lib.hid hx1; clear hrate hx1 hx0 X0 hb1)
    | (go_at_call 38; (with_reducible refine (hat _ Y1.out.all.below).mono ?_); rintro e u2 ⟨rfl, hb2⟩; have Y2 := Lib.hid (Y1.out.on hb2); obtain ⟨a0, a1, -⟩ := tab2 Y2.out.all.tab; obtain ⟨e0, e1, e2, e3, e4, e5, e6, e7, e8⟩ := nine_cells Y2.out.all.conf; have RW := Lib.hid (HR.out.below Y2.out.all.below); clear hb2 Y1 hat)
    | (go_at_call 24; (with_reducible refine (hsweep _ RW.out Y2.out.all.below).mono ?_); rintro e u3 ⟨px, cx, rfl, hr3, hb3⟩; have hy := Y2.out.on hb3; have g0 := (tab2 hy.x).2.2 0; have g1 := (tab2 hy.x).2.2 1; obtain ⟨q0, q1, -⟩ := tab2 hy.x; have hy4 := hy.set (.int .i64 start) (.slice px ns (cx + ns)); have R4 := Lib.hid (rows_tab (o := 1) (y := .slice px ns (cx + ns)) (by rw [heap_set _ 0 _ _ hy.x]; rfl) (rows_tab (o := 0) (y := .int .i64 start) hy.x hr3)); have Y4 := Lib.hid hy4; obtain ⟨a0, a1, -⟩ := tab2 hy4.all.tab; obtain ⟨d0, d1, ff⟩ := tab2 hy4.all.res; have f0 := ff 0; have f1 := ff 1; obtain ⟨x0, x1, -⟩ := tab2 hy4.x; obtain ⟨e0, e1, e2, e3, e4, e5, e6, e7, e8⟩ := nine_cells hy4.all.conf; clear hy hy4 hb3 hr3 Y2 RW hsweep))
  refine bodyPost_ret (v := .tuple #[.agg #[.int .i64 start, .slice p nr (c + nr)], .int .i64 3]) (by simp [results, Try.results33, go_sem, d0, d1]) rfl ?_
  have BE := Y4.out.all.out (.int .i64 start) (.slice p nr (c + nr))
  exact ⟨p, c, by rw [← hnr]; rfl, HR.out.below BE, BE⟩

/-- Mint. -/
theorem mint_any (t : Tb) (p : Option Addr) (c : Nat) (key now : Int) (f : Cf) (pf : Option Addr) (cf : Nat) (w : World) (h : RowsAt w p t.rows) (hz : RatesAt w pf f.rates) (hl : t.rows.length ≤ 1000) (ho : ∀ r ∈ t.rows, r.out.length ≤ 1000) :
    Calls Try.prog 33 #[tabVal t p c, .int .i64 key, .int .i64 now, cfVal f pf cf] w (TellsTab w (mint t key now f).1 (fun v => .tuple #[v, .int .i64 (mint t key now f).2])) := by
  have hrate := fun u => rate_any f pf cf key u
  have hat := fun u (hu : Below w.heap.size w u) => at_any t p c key u (h.below hu) hl
  have hsl := sweep_len t now f
  by_cases h1 : rateAt f.rates key < 0
  · have e : mint t key now f = (t, 4) := by unfold mint; rw [if_pos h1]
    rw [e]
    exact mint_none t.start key now f.n f.skew f.ttl f.valid f.loss f.hear f.keys f.queue _ p pf t.rows.length c f.rates.length cf w t.rows (fun u => (hrate u).mono fun e u' he => ⟨he.1, he.2⟩) h1 h rfl
  · obtain ⟨k, hk, hkl⟩ := rateAt_lt f.rates key (by omega)
    obtain ⟨bf, fo, rfl, r0, r1⟩ := leases_some hz hkl
    have er : rateOf f key = f.rates.getD k (0, 0) := by unfold rateOf; rw [hk, Int.toNat_natCast]
    have hzz : ∀ u, Below w.heap.size w u → u.cell? ⟨bf, fo + k * 2, none⟩ = some (.int .i64 (rateOf f key).1) ∧ u.cell? ⟨bf, fo + k * 2 + 1, none⟩ = some (.int .i64 (rateOf f key).2) := fun u hu => by
      rw [er]; exact ⟨cell_on r0 hu, cell_on r1 hu⟩
    rw [hk] at hrate
    by_cases h2 : 0 ≤ place t.rows key ∨ (t.rows.length : Int) < f.keys
    · have e : mint t key now f = (setRow t (look t key now (rateOf f key).1 (rateOf f key).2), 0) := by unfold mint; rw [if_neg h1, if_pos h2]
      rw [e]
      refine mint_same t.start key now f.n f.skew f.ttl f.valid f.loss f.hear f.keys f.queue (place t.rows key) (rateOf f key).1 (rateOf f key).2 (look t key now (rateOf f key).1 (rateOf f key).2).key (look t key now (rateOf f key).1 (rateOf f key).2).avail (look t key now (rateOf f key).1 (rateOf f key).2).mark p bf fo k t.rows.length c f.rates.length cf (look t key now (rateOf f key).1 (rateOf f key).2).out.length (setRow t (look t key now (rateOf f key).1 (rateOf f key).2)).rows.length w (look t key now (rateOf f key).1 (rateOf f key).2).out (setRow t (look t key now (rateOf f key).1 (rateOf f key).2)) t.rows hrate hat (by omega) ?_ ?_ hkl hzz h rfl rfl
      · intro u px cx hu
        exact (look_any t px cx key now _ _ u u hu (Below.refl _ _) hl ho).mono fun e u' ⟨p1, c1, h1, h2, h3⟩ => ⟨p1, c1, h1, h2, h3⟩
      · intro u px cx pr cr hu hr
        exact (set_any t px cx _ pr cr u u hu hr (Below.refl _ _) hl).mono fun e u' ⟨p1, c1, h1, h2, h3⟩ => ⟨p1, c1, h1, h2, h3⟩
    · have hpl : place t.rows key < 0 := by omega
      have hke : f.keys ≤ (t.rows.length : Int) := by omega
      have hsw : ∀ u, RowsAt u p t.rows → Below w.heap.size w u → Calls Try.prog 24 #[tabVal t p c, .int .i64 now, cfVal f (some ⟨bf, fo, none⟩) cf] u fun e u' => ∃ px cx, e = .returned (.agg #[.int .i64 t.start, .slice px (sweep t now f).rows.length (cx + (sweep t now f).rows.length)]) ∧ RowsAt u' px (sweep t now f).rows ∧ Below u.heap.size u u' := fun u hu hb =>
        (sweep_any t p c now f _ cf u hu (hz.below hb) hl).mono fun e u' ⟨p1, c1, h1, h2, h3⟩ => ⟨p1, c1, h1, h2, h3⟩
      by_cases h3 : f.keys ≤ ((sweep t now f).rows.length : Int)
      · have e : mint t key now f = (t, 3) := by unfold mint; rw [if_neg h1, if_neg h2, if_pos h3]
        rw [e]
        exact mint_full t.start key now f.n f.skew f.ttl f.valid f.loss f.hear f.keys f.queue (place t.rows key) p bf fo k t.rows.length c f.rates.length cf (sweep t now f).rows.length w t.rows (sweep t now f).rows hrate hat hsw hpl hke h3 h rfl
      · have e : mint t key now f = (setRow (sweep t now f) (look (sweep t now f) key now (rateOf f key).1 (rateOf f key).2), 0) := by unfold mint; rw [if_neg h1, if_neg h2, if_neg h3]
        rw [e]
        have ho' : ∀ r ∈ (sweep t now f).rows, r.out.length ≤ 1000 := fun r hr => ho r (sweep_mem hr)
        generalize hL : look (sweep t now f) key now (rateOf f key).1 (rateOf f key).2 = L
        refine mint_swept t.start key now f.n f.skew f.ttl f.valid f.loss f.hear f.keys f.queue (place t.rows key) (rateOf f key).1 (rateOf f key).2 L.key L.avail L.mark p bf fo k t.rows.length c f.rates.length cf L.out.length (setRow (sweep t now f) L).rows.length (sweep t now f).rows.length w L.out (setRow (sweep t now f) L) t.rows (sweep t now f).rows hrate hat hsw ?_ ?_ hkl hzz hpl hke (by omega) h rfl rfl
        · intro u px cx hu
          rw [← hL]
          exact (look_any (sweep t now f) px cx key now _ _ u u hu (Below.refl _ _) (by omega) ho').mono fun e u' ⟨p1, c1, h1, h2, h3⟩ => ⟨p1, c1, h1, h2, h3⟩
        · intro u px cx pr cr hu hr
          exact (set_any (sweep t now f) px cx L pr cr u u hu hr (Below.refl _ _) (by omega)).mono fun e u' ⟨p1, c1, h1, h2, h3⟩ => ⟨p1, c1, h1, h2, h3⟩
end Go.Proofs.Ytcnnepmhdccipaa.Ledger

namespace Go.Proofs.Ytcnnepmhdccipaa.Ledger
open Go.RowKit
open _root_.Go.Proofs.Ytcnnepmhdccipaa.Frame (Rw Tb noRow LeasesAt cell_on)
open _root_.Go.Proofs.Ytcnnepmhdccipaa.Codec (lt_of_heap frozen_of heap_set)

/-- What lies: boxes (a block's number, its cells, its type), rows, leases. -/
structure Mem (w : World) (bs : List (Nat × Array Value × TypeId)) (rs : List (Option Addr × List Rw)) (ls : List (Option Addr × List (Int × Int))) (u : World) : Prop where
  boxes : ∀ (i : Nat) (g : Nat) (vs : Array Value) (T : TypeId), bs[i]? = some (g, vs, T) → u.heap[g]? = some (.cells vs T (0, 0))
  rows : ∀ (i : Nat) (p : Option Addr) (l : List Rw), rs[i]? = some (p, l) → RowsAt u p l
  leases : ∀ (i : Nat) (p : Option Addr) (l : List (Int × Int)), ls[i]? = some (p, l) → LeasesAt u p l
  below : Below w.heap.size w u
section
variable {w u u' : World} {bs : List (Nat × Array Value × TypeId)} {rs : List (Option Addr × List Rw)} {ls : List (Option Addr × List (Int × Int))}
theorem Mem.start (w : World) : Mem w [] [] [] w := ⟨fun i g vs T h => by simp at h, fun i p l h => by simp at h, fun i p l h => by simp at h, Below.refl _ _⟩
theorem Mem.on (h : Mem w bs rs ls u) (hb : Below u.heap.size u u') : Mem w bs rs ls u' :=
  ⟨fun i g vs T e => (hb.block _ (lt_of_heap (h.boxes i g vs T e))).trans (h.boxes i g vs T e), fun i p l e => (h.rows i p l e).below hb, fun i p l e => (h.leases i p l e).below hb, h.below.trans (hb.mono h.below.size)⟩
theorem Mem.drew (h : Mem w bs rs ls u) : Mem w bs rs ls u.drew := h.on (Below.refl _ _).drew
theorem Mem.box (h : Mem w bs rs ls u) (vs : Array Value) (T : TypeId) : Mem w ((u.heap.size, vs, T) :: bs) rs ls (u.alloc (.cells vs T)) := by
  have h' := h.on ((Below.refl _ _).alloc (Nat.le_refl _) (.cells vs T))
  refine ⟨fun i g vs' T' e => ?_, h'.rows, h'.leases, h'.below⟩
  cases i with
  | zero =>
    simp only [List.getElem?_cons_zero, Option.some.injEq, Prod.mk.injEq] at e
    obtain ⟨rfl, rfl, rfl⟩ := e
    exact heap_alloc_new _ _
  | succ i => exact h'.boxes i g vs' T' (by simpa using e)
theorem Mem.addRows (h : Mem w bs rs ls u) {p : Option Addr} {l : List Rw} (hr : RowsAt u p l) : Mem w bs ((p, l) :: rs) ls u := by
  refine ⟨h.boxes, fun i p' l' e => ?_, h.leases, h.below⟩
  cases i with
  | zero =>
    simp only [List.getElem?_cons_zero, Option.some.injEq, Prod.mk.injEq] at e
    obtain ⟨rfl, rfl⟩ := e
    exact hr
  | succ i => exact h.rows i p' l' (by simpa using e)
theorem Mem.addLeases (h : Mem w bs rs ls u) {p : Option Addr} {l : List (Int × Int)} (hr : LeasesAt u p l) : Mem w bs rs ((p, l) :: ls) u := by
  refine ⟨h.boxes, h.rows, fun i p' l' e => ?_, h.below⟩
  cases i with
  | zero =>
    simp only [List.getElem?_cons_zero, Option.some.injEq, Prod.mk.injEq] at e
    obtain ⟨rfl, rfl⟩ := e
    exact hr
  | succ i => exact h.leases i p' l' (by simpa using e)
theorem Mem.addBox (h : Mem w bs rs ls u) {g : Nat} {vs : Array Value} {T : TypeId} (hg : u.heap[g]? = some (.cells vs T (0, 0))) : Mem w ((g, vs, T) :: bs) rs ls u := by
  refine ⟨fun i g' vs' T' e => ?_, h.rows, h.leases, h.below⟩
  cases i with
  | zero =>
    simp only [List.getElem?_cons_zero, Option.some.injEq, Prod.mk.injEq] at e
    obtain ⟨rfl, rfl, rfl⟩ := e
    exact hg
  | succ i => exact h.boxes i g' vs' T' (by simpa using e)
end

/-- A box of four cells that was laid earlier is filled. -/
theorem heap_fill {u6 : World} {g : Nat} {z0 z1 z2 z3 : Value} {T : TypeId} (h : u6.heap[g]? = some (.cells #[z0, z1, z2, z3] T (0, 0))) (v0 v1 v2 v3 : Value) :
    ((((u6.setCell ⟨g, 0, none⟩ v0).setCell ⟨g, 1, none⟩ v1).setCell ⟨g, 2, none⟩ v2).setCell ⟨g, 3, none⟩ v3).heap[g]? = some (.cells #[v0, v1, v2, v3] T (0, 0)) := by
  have h1 : (u6.setCell ⟨g, 0, none⟩ v0).heap[g]? = some (.cells #[v0, z1, z2, z3] T (0, 0)) := by rw [heap_set _ 0 _ _ h]; rfl
  have h2 : ((u6.setCell ⟨g, 0, none⟩ v0).setCell ⟨g, 1, none⟩ v1).heap[g]? = some (.cells #[v0, v1, z2, z3] T (0, 0)) := by rw [heap_set _ 1 _ _ h1]; rfl
  have h3 : (((u6.setCell ⟨g, 0, none⟩ v0).setCell ⟨g, 1, none⟩ v1).setCell ⟨g, 2, none⟩ v2).heap[g]? = some (.cells #[v0, v1, v2, z3] T (0, 0)) := by rw [heap_set _ 2 _ _ h2]; rfl
  rw [heap_set _ 3 _ _ h3]; rfl
theorem Mem.fill {w u u6 : World} {bs : List (Nat × Array Value × TypeId)} {rs : List (Option Addr × List Rw)} {ls : List (Option Addr × List (Int × Int))} (h : Mem w bs rs ls u) {T : TypeId} {z0 z1 z2 z3 : Value} (hb : Below (u.heap.size + 1) (u.alloc (.cells #[z0, z1, z2, z3] T)) u6) (v0 v1 v2 v3 : Value) :
    Mem w ((u.heap.size, #[v0, v1, v2, v3], T) :: bs) rs ls ((((u6.setCell ⟨u.heap.size, 0, none⟩ v0).setCell ⟨u.heap.size, 1, none⟩ v1).setCell ⟨u.heap.size, 2, none⟩ v2).setCell ⟨u.heap.size, 3, none⟩ v3) := by
  have h0 : u6.heap[u.heap.size]? = some (.cells #[z0, z1, z2, z3] T (0, 0)) := (hb.block _ (by omega)).trans (heap_alloc_new _ _)
  have hB : Below u.heap.size u ((((u6.setCell ⟨u.heap.size, 0, none⟩ v0).setCell ⟨u.heap.size, 1, none⟩ v1).setCell ⟨u.heap.size, 2, none⟩ v2).setCell ⟨u.heap.size, 3, none⟩ v3) :=
    ((((((Below.refl _ _).alloc (Nat.le_refl _) _).trans (hb.mono (by omega))).setCell (Nat.le_refl _) _).setCell (Nat.le_refl _) _).setCell (Nat.le_refl _) _).setCell (Nat.le_refl _) _
  exact (h.on hB).addBox (heap_fill h0 v0 v1 v2 v3)
/-- Leases that lie in another block. -/
theorem leases_fill {u6 : World} {g : Nat} {p : Option Addr} {l : List (Int × Int)} (h : LeasesAt u6 p l) (hf : l = [] ∨ ∃ b o, p = some ⟨b, o, none⟩ ∧ b ≠ g) (v0 v1 v2 v3 : Value) :
    LeasesAt ((((u6.setCell ⟨g, 0, none⟩ v0).setCell ⟨g, 1, none⟩ v1).setCell ⟨g, 2, none⟩ v2).setCell ⟨g, 3, none⟩ v3) p l := by
  rcases hf with hf | ⟨b, o, rfl, hne⟩
  · exact .inl hf
  · rcases h with h | ⟨b', o', e, hc⟩
    · exact .inl h
    · simp only [Option.some.injEq, Addr.mk.injEq, and_true] at e
      obtain ⟨rfl, rfl⟩ := e
      have he : ∀ i, ((((u6.setCell ⟨g, 0, none⟩ v0).setCell ⟨g, 1, none⟩ v1).setCell ⟨g, 2, none⟩ v2).setCell ⟨g, 3, none⟩ v3).cell? ⟨b, i, none⟩ = u6.cell? ⟨b, i, none⟩ := fun i =>
        World.cell?_of_block (w := u6) ((Below.heap_setCell _ _ _ _ hne).trans ((Below.heap_setCell _ _ _ _ hne).trans ((Below.heap_setCell _ _ _ _ hne).trans (Below.heap_setCell _ _ _ _ hne))))
      exact .inr ⟨b, o, rfl, fun j hj => by rw [he, he]; exact hc j hj⟩

theorem size_alloc (u : World) (o : Obj) : (u.alloc o).heap.size = u.heap.size + 1 := by simp

/-- The cells of boxes. -/
theorem box2 {w : World} {b : Nat} {v0 v1 : Value} {T : TypeId} (h : w.heap[b]? = some (.cells #[v0, v1] T (0, 0))) : w.cell? ⟨b, 0, none⟩ = some v0 ∧ w.cell? ⟨b, 1, none⟩ = some v1 ∧ ∀ o, w.frozen? ⟨b, o, none⟩ = false :=
  ⟨by rw [cell_of_row w b 0 _ _ (0, 0) h]; rfl, by rw [cell_of_row w b 1 _ _ (0, 0) h]; rfl, fun _ => frozen_of h⟩
theorem box4 {w : World} {b : Nat} {v0 v1 v2 v3 : Value} {T : TypeId} (h : w.heap[b]? = some (.cells #[v0, v1, v2, v3] T (0, 0))) : w.cell? ⟨b, 0, none⟩ = some v0 ∧ w.cell? ⟨b, 1, none⟩ = some v1 ∧ w.cell? ⟨b, 2, none⟩ = some v2 ∧ w.cell? ⟨b, 3, none⟩ = some v3 ∧ ∀ o, w.frozen? ⟨b, o, none⟩ = false :=
  ⟨by rw [cell_of_row w b 0 _ _ (0, 0) h]; rfl, by rw [cell_of_row w b 1 _ _ (0, 0) h]; rfl, by rw [cell_of_row w b 2 _ _ (0, 0) h]; rfl, by rw [cell_of_row w b 3 _ _ (0, 0) h]; rfl, fun _ => frozen_of h⟩
theorem box5 {w : World} {b : Nat} {v0 v1 v2 v3 v4 : Value} {T : TypeId} (h : w.heap[b]? = some (.cells #[v0, v1, v2, v3, v4] T (0, 0))) : w.cell? ⟨b, 0, none⟩ = some v0 ∧ w.cell? ⟨b, 1, none⟩ = some v1 ∧ w.cell? ⟨b, 2, none⟩ = some v2 ∧ w.cell? ⟨b, 3, none⟩ = some v3 ∧ w.cell? ⟨b, 4, none⟩ = some v4 :=
  ⟨by rw [cell_of_row w b 0 _ _ (0, 0) h]; rfl, by rw [cell_of_row w b 1 _ _ (0, 0) h]; rfl, by rw [cell_of_row w b 2 _ _ (0, 0) h]; rfl, by rw [cell_of_row w b 3 _ _ (0, 0) h]; rfl, by rw [cell_of_row w b 4 _ _ (0, 0) h]; rfl⟩
end Go.Proofs.Ytcnnepmhdccipaa.Ledger
