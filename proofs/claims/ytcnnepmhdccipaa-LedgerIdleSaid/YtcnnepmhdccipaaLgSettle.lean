/-
  The program's Settle.
-/
import Derived.Test.YtcnnepmhdccipaaLgMint
namespace Go.Proofs.Ytcnnepmhdccipaa.Ledger
open Go.RowKit
open _root_.Go.Proofs.Ytcnnepmhdccipaa.Frame (Rw Tb noRow LeasesAt cell_on)
open _root_.Go.Proofs.Ytcnnepmhdccipaa.Codec (own_below own_lower lt_of_heap frozen_of heap_set)
open _root_.Go.Proofs.Ytcnnepmhdccipaa.Sat (fit add sub mul fit_lo fit_hi fit_self fit_fit fit_any sub_any mul_any add2 add_lo add_hi)

/-- The newest box is turned. -/
theorem Mem.setHead {w u : World} {g : Nat} {vs : Array Value} {T : TypeId} {bs : List (Nat × Array Value × TypeId)} (h : Mem w ((g, vs, T) :: bs) [] [] u) (hg : w.heap.size ≤ g) (hd : ∀ x ∈ bs, x.1 ≠ g) (i : Nat) (v : Value) : Mem w ((g, vs.setIfInBounds i v, T) :: bs) [] [] (u.setCell ⟨g, i, none⟩ v) := by
  have h1 := h.boxes 0 _ _ _ rfl
  refine ⟨fun j g' vs' T' e => ?_, fun i p l h => by simp at h, fun i p l h => by simp at h, h.below.setCell hg _⟩
  cases j with
  | zero =>
    simp only [List.getElem?_cons_zero, Option.some.injEq, Prod.mk.injEq] at e
    obtain ⟨rfl, rfl, rfl⟩ := e
    rw [heap_set _ i _ _ h1]
  | succ j =>
    have e' : bs[j]? = some (g', vs', T') := by simpa using e
    have hne : g' ≠ g := hd _ (List.mem_of_getElem? e')
    exact (Below.heap_setCell _ _ _ _ hne).trans (h.boxes (j + 1) g' vs' T' e)
theorem Mem.tail {w u : World} {x : Nat × Array Value × TypeId} {bs : List (Nat × Array Value × TypeId)} {rs : List (Option Addr × List Rw)} {ls : List (Option Addr × List (Int × Int))} (h : Mem w (x :: bs) rs ls u) : Mem w bs rs ls u := ⟨fun i g vs T e => h.boxes (i + 1) g vs T (by simpa using e), h.rows, h.leases, h.below⟩
set_option maxRecDepth 100000 in
set_option maxHeartbeats 4000000 in
theorem psettle_core (start key node spent : Int) (p : Option Addr) (nm c : Nat) (w : World) (fk fa fm : Int) (px : Option Addr) (nx cx : Nat) (fd q : Bool) (a told bk av : Int) (X : World → Option Addr → Prop) (hX : Stay X) (NT nx2 : Nat) (tl : Int) (ha : 0 ≤ a ∧ a ≤ 9223372036854775807) (hsp : -9223372036854775808 ≤ spent ∧ spent ≤ 9223372036854775807)
    (hfind : ∀ u, Below w.heap.size w u → Calls Try.prog 11 #[.agg #[.int .i64 start, .slice p nm (c + nm)], .int .i64 key] u fun e u' => e = .returned (.tuple #[.agg #[.int .i64 fk, .int .i64 fa, .int .i64 fm, .slice px nx (cx + nx)], .bool fd]) ∧ Below u.heap.size u u')
    (hlent : ∀ u, Below w.heap.size w u → Calls Try.prog 43 #[.agg #[.int .i64 fk, .int .i64 fa, .int .i64 fm, .slice px nx (cx + nx)], .int .i64 node] u fun e u' => e = .returned (.tuple #[.int .i64 a, .bool q]) ∧ Below u.heap.size u u')
    (hoth : q = true → ∀ u, Below w.heap.size w u → Calls Try.prog 61 #[.slice px nx (cx + nx), .int .i64 node] u fun e u' => ∃ p' c', e = .returned (.slice p' nx2 (c' + nx2)) ∧ (∀ v, Below w.heap.size w v → (∀ b, u.heap.size ≤ b → v.heap[b]? = u'.heap[b]?) → Calls Try.prog 58 #[.slice p nm (c + nm), .agg #[.int .i64 fk, .int .i64 av, .int .i64 fm, .slice p' nx2 (c' + nx2)]] v fun e v' => ∃ p' c', e = .returned (.slice p' NT (c' + NT)) ∧ X v' p' ∧ Below v.heap.size v v') ∧ Below u.heap.size u u')
    (hsame : q = false → NT = nm ∧ X w p ∧ tl = 0) (htold : q = true → tl = told ∧ told = (if 0 ≤ spent then min spent a else a) ∧ bk = sub a told ∧ av = add [fa, bk]) :
    Calls Try.prog 32 #[.agg #[.int .i64 start, .slice p nm (c + nm)], .int .i64 key, .int .i64 node, .int .i64 spent] w fun e w' => ∃ p' c', e = .returned (.tuple #[.agg #[.int .i64 start, .slice p' NT (c' + NT)], .int .i64 tl]) ∧ X w' p' ∧ Below w.heap.size w w' := by
  have M0 := Lib.hid (((Mem.start w).box #[.int .i64 start, .slice p nm (c + nm)] 24).box #[.int .i64 0, .slice none 0 0] 24)
  simp only [size_alloc] at M0
  have hf1 := hfind _ M0.out.below
  obtain ⟨t0, t1, -⟩ := box2 (M0.out.boxes 1 _ _ _ rfl)
  clear hfind
  cases q with
  | false =>
    obtain ⟨rfl, hx, rfl⟩ := hsame rfl
    have HX := Lib.hid hx
    clear hsame hx hoth htold
    go_enter Try.func32, Try.ntmps32
    go_wp2_with (first
      | (go_at_call 11; (with_reducible refine hf1.mono ?_); rintro e u1 ⟨rfl, hb⟩; have M1 := Lib.hid ((M0.out.on hb).box #[.int .i64 fk, .int .i64 fa, .int .i64 fm, .slice px nx (cx + nx)] 38); clear hb t0 t1 hf1; obtain ⟨r0, r1, r2, r3, -⟩ := box4 (M1.out.boxes 0 _ _ _ rfl))
      | (go_at_call 43; (with_reducible refine (hlent _ M1.out.below).mono ?_); rintro e u2 ⟨rfl, hb⟩; have M2 := Lib.hid (M1.out.on hb); clear hb hlent r0 r1 r2 r3; obtain ⟨t0, t1, -⟩ := box2 (M2.out.boxes 2 _ _ _ rfl); obtain ⟨d0, d1, ff⟩ := box2 (M2.out.boxes 1 _ _ _ rfl); have f0 := ff 0; have f1 := ff 1; clear ff))
    refine bodyPost_ret (v := .tuple #[.agg #[.int .i64 start, .slice p NT (c + NT)], .int .i64 0]) (by simp [results, Try.results32, go_sem, d0, d1]) rfl ?_
    exact tells_atX hX _ (by omega) (M2.out.boxes 1 _ _ _ rfl) (hX.on HX.out M2.out.below) M2.out.below (fun v => .tuple #[v, .int .i64 0])
  | true =>
    obtain ⟨rfl, ht, hbk, hav⟩ := htold rfl
    have hot := hoth rfl
    clear hsame hoth htold
    have hsub := sub_any a tl
    rw [← hbk] at hsub
    have hadd := add2 fa bk
    rw [← hav] at hadd
    clear hbk hav
    have hcase : (¬ 0 ≤ spent ∧ tl = a) ∨ (0 ≤ spent ∧ a < spent ∧ tl = a) ∨ (0 ≤ spent ∧ ¬ a < spent ∧ tl = spent) := by
      split at ht <;> omega
    clear ht
    rcases hcase with ⟨k1, rfl⟩ | ⟨k1, k2, rfl⟩ | ⟨k1, k2, rfl⟩
    all_goals
      go_enter Try.func32, Try.ntmps32
      go_wp2_with (first
        | (go_at_call 11; (with_reducible refine hf1.mono ?_); rintro e u1 ⟨rfl, hb⟩; have hlt := lt_of_heap ((M0.out.on hb).boxes 0 _ _ _ rfl); have M1 := Lib.hid ((M0.out.on hb).box #[.int .i64 fk, .int .i64 fa, .int .i64 fm, .slice px nx (cx + nx)] 38); clear hb t0 t1 hf1; obtain ⟨r0, r1, r2, r3, -⟩ := box4 (M1.out.boxes 0 _ _ _ rfl))
        | (go_at_call 43; (with_reducible refine (hlent _ M1.out.below).mono ?_); rintro e u2 ⟨rfl, hb⟩; have M2 := Lib.hid (M1.out.on hb); clear hb hlent r0 r1 r2 r3; obtain ⟨r0, r1, r2, r3, ff⟩ := box4 (M2.out.boxes 0 _ _ _ rfl); have f1 := ff 1; have f3 := ff 3; clear ff))
      have hl2 : u1.heap.size < u2.heap.size := lt_of_heap (M2.out.boxes 0 _ _ _ rfl)
      have hadd3 : Calls Try.prog 41 #[.slice (some ⟨u2.heap.size, 0, none⟩) 2 2] ((u2.alloc (.cells #[.int .i64 fa, .int .i64 bk] 3)).drew) fun e w' => e = .returned (.int .i64 av) ∧ (u2.alloc (.cells #[.int .i64 fa, .int .i64 bk] 3)).drew = w' := hadd u2.drew u2.heap.size rfl
      go_region_with (first
        | (go_at_call 40; (with_reducible refine (hsub _).mono ?_); rintro e u3 ⟨rfl, rfl⟩)
        | (go_at_call 41; (with_reducible refine hadd3.mono ?_); rintro e u3 ⟨rfl, rfl⟩))
      all_goals
        have M3 := Lib.hid (((M2.out.setHead (by omega) (by intro x hx; simp at hx; rcases hx with rfl | rfl <;> simp <;> omega) 1 (.int .i64 av)).box #[.int .i64 fa, .int .i64 bk] 3).drew)
        clear r0 r1 r2 r3 f1 f3 hadd hadd3 hsub
        obtain ⟨r0, r1, r2, r3, ff⟩ := box4 (M3.out.boxes 1 _ _ _ rfl)
        have f3 := ff 3
        clear ff
        have hlt3 := lt_of_heap (M3.out.boxes 1 _ _ _ rfl)
        generalize hW3 : (((u2.setCell ⟨u1.heap.size, 1, none⟩ (.int .i64 av)).alloc (.cells #[.int .i64 fa, .int .i64 bk] 3)).drew) = W3 at *
        clear hW3
        go_wp2_with (go_at_call 61; (with_reducible refine (hot _ M3.out.below).mono ?_); rintro e u4 ⟨p4, c4, rfl, hw4, hb⟩; have M4 := Lib.hid (M3.out.on hb); have HW4 := Lib.hid hw4; clear hb hw4 r0 r1 r2 r3 f3; obtain ⟨r0, r1, r2, r3, ff⟩ := box4 (M4.out.boxes 1 _ _ _ rfl); have f3 := ff 3; clear ff)
        have M5 := Lib.hid ((M4.out.tail.setHead (by omega) (by intro x hx; simp at hx; rcases hx with rfl | rfl <;> simp <;> omega) 3 (.slice p4 nx2 (c4 + nx2))))
        have hv5 : Hid (∀ b, W3.heap.size ≤ b → (u4.setCell ⟨u1.heap.size, 3, none⟩ (.slice p4 nx2 (c4 + nx2))).heap[b]? = u4.heap[b]?) := fun b hb => Below.heap_setCell _ _ _ _ (by simp; omega)
        clear r0 r1 r2 r3 f3
        generalize (u4.setCell ⟨u1.heap.size, 3, none⟩ (.slice p4 nx2 (c4 + nx2))) = u5 at *
        have hw := HW4.out u5.drew M5.out.drew.below hv5.out
        have MD := Lib.hid M5.out.drew
        obtain ⟨r0, r1, r2, r3, -⟩ := box4 (M5.out.boxes 0 _ _ _ rfl)
        obtain ⟨t0, t1, -⟩ := box2 (M5.out.boxes 2 _ _ _ rfl)
        clear HW4 hv5 M3 M4
        go_region_held3 (fun u => u.cell? ⟨w.heap.size, 0, none⟩ = some (.int .i64 start) ∧ u.cell? ⟨w.heap.size, 1, none⟩ = some (.slice p nm (c + nm)) ∧ u.cell? ⟨u1.heap.size, 0, none⟩ = some (.int .i64 fk) ∧ u.cell? ⟨u1.heap.size, 1, none⟩ = some (.int .i64 av) ∧ u.cell? ⟨u1.heap.size, 2, none⟩ = some (.int .i64 fm) ∧ u.cell? ⟨u1.heap.size, 3, none⟩ = some (.slice p4 nx2 (c4 + nx2))) (first | assumption | exact SN.out | exact ⟨t0, t1, r0, r1, r2, r3⟩ | exact ⟨cell_set2 (by omega) SN.out.1, cell_set2 (by omega) SN.out.2.1, cell_set2 (by omega) SN.out.2.2.1, cell_set2 (by omega) SN.out.2.2.2.1, cell_set2 (by omega) SN.out.2.2.2.2.1, cell_set2 (by omega) SN.out.2.2.2.2.2⟩) (first
          | (go_at_call 58; (with_reducible refine hw.mono ?_); rintro e u9 ⟨p9, c9, rfl, hx9, hb9⟩; have M9 := Lib.hid (MD.out.on hb9); have HX9 := Lib.hid hx9; have SN := Lib.hid (And.intro (box2 (M9.out.boxes 2 _ _ _ rfl)).1 (And.intro (box2 (M9.out.boxes 2 _ _ _ rfl)).2.1 (And.intro (box4 (M9.out.boxes 0 _ _ _ rfl)).1 (And.intro (box4 (M9.out.boxes 0 _ _ _ rfl)).2.1 (And.intro (box4 (M9.out.boxes 0 _ _ _ rfl)).2.2.1 (box4 (M9.out.boxes 0 _ _ _ rfl)).2.2.2.1))))); obtain ⟨d0, d1, ff⟩ := box2 (M9.out.boxes 1 _ _ _ rfl); have f0 := ff 0; have f1 := ff 1; clear ff hx9 hb9))
        all_goals
          go_wp2
          refine bodyPost_ret (v := .tuple #[.agg #[.int .i64 start, .slice p9 NT (c9 + NT)], .int .i64 tl]) (by simp [results, Try.results32, go_sem, d0, d1]) rfl ?_
          exact tells_atX hX _ (by omega) (M9.out.boxes 1 _ _ _ rfl) HX9.out M9.out.below (fun v => .tuple #[v, .int .i64 tl])
end Go.Proofs.Ytcnnepmhdccipaa.Ledger
