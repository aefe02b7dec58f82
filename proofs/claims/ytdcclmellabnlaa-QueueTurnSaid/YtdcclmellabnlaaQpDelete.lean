/-
  slices.DeleteFunc at items, of a slice that a call owns: what is not struck stays in its place's block, the rest of it is zero. Of up to 1000 items.
-/
import Derived.Test.YtdcclmellabnlaaQpFind
import Derived.Lib.SliceRun
import Derived.Deep.MidRow
namespace Go.Proofs.Ytdcclmellabnlaa.Queue
open Go.RowKit
open _root_.Go.Proofs.Ytdcclmellabnlaa.Codec (lt_of_heap frozen_of heap_set below_new own_below)
open _root_.Go.Proofs.Ytdcclmellabnlaa.Kit (Enc Lies Own At Kept Laid Off cell_on lt_heap take_snoc below_drewN box5 ints own_keep own_lt cells)
open _root_.Go.Proofs.Ytdcclmellabnlaa.Ledger (spot spot_at spot_none spot_cases)

/-! Rows that a call owns, cell by cell. -/
theorem row_set {w : World} {B g n c o s : Nat} {T : TypeId} {xs : List Value} (h : w.ownsRow B T s (.slice (some ⟨g, 0, none⟩) n c) n xs) (u : Value) : (w.setCell ⟨g, o, none⟩ u).ownsRow B T s (.slice (some ⟨g, 0, none⟩) n c) n (xs.set o u) := by
  refine ⟨by simpa using h.1, ?_⟩
  rcases h.2 with ⟨e, -⟩ | ⟨g', cap, cur, e, h1, h2, h3, h4, h5, h6⟩
  · simp at e
  · simp only [Value.slice.injEq, Option.some.injEq, Addr.mk.injEq, and_true, true_and] at e
    obtain ⟨rfl, rfl⟩ := e
    exact .inr ⟨g, c, _, rfl, h1, heap_set g o _ _ h2, h3, h4, by simpa using h5, by rw [Array.toList_setIfInBounds, List.take_set, h6]⟩
theorem row_far {w : World} {B g n c o s : Nat} {T : TypeId} {xs : List Value} (h : w.ownsRow B T s (.slice (some ⟨g, 0, none⟩) n c) n xs) (ho : n * s ≤ o) (u : Value) : (w.setCell ⟨g, o, none⟩ u).ownsRow B T s (.slice (some ⟨g, 0, none⟩) n c) n xs := by
  have := row_set h (o := o) u
  rwa [List.set_eq_of_length_le (by rw [h.1]; exact ho)] at this
theorem row_fars {B g n c s : Nat} {T : TypeId} {xs : List Value} : ∀ (us : List Value) {w : World} {o : Nat}, w.ownsRow B T s (.slice (some ⟨g, 0, none⟩) n c) n xs → n * s ≤ o → (w.setCells g o us).ownsRow B T s (.slice (some ⟨g, 0, none⟩) n c) n xs
  | [], _, _, h, _ => h
  | u :: us, _, _, h, ho => row_fars us (row_far h ho u) (by omega)
theorem row_cut {w : World} {B g n c i s : Nat} {T : TypeId} {xs : List Value} (h : w.ownsRow B T s (.slice (some ⟨g, 0, none⟩) n c) n xs) (hi : i ≤ n) : w.ownsRow B T s (.slice (some ⟨g, 0, none⟩) i c) i (xs.take (i * s)) := by
  have hm : i * s ≤ n * s := Nat.mul_le_mul_right s hi
  refine ⟨by rw [List.length_take, h.1]; omega, ?_⟩
  rcases h.2 with ⟨e, -⟩ | ⟨g', cap, cur, e, h1, h2, h3, h4, h5, h6⟩
  · simp at e
  · simp only [Value.slice.injEq, Option.some.injEq, Addr.mk.injEq, and_true, true_and] at e
    obtain ⟨rfl, rfl⟩ := e
    exact .inr ⟨g, c, cur, rfl, h1, h2, by omega, h4, h5, by rw [← h6, List.take_take]; congr 1; omega⟩
theorem cells_take (m : List It) (i : Nat) : (cells item m).take (i * 5) = cells item (m.take i) := by
  induction m generalizing i with
  | nil => simp [cells]
  | cons x m ih =>
    cases i with
    | zero => simp [cells]
    | succ i =>
      rw [Kit.cells_cons, List.take_succ_cons, Kit.cells_cons, ← ih i, show (i + 1) * 5 = (item.cs x).length + i * 5 by rw [show (item.cs x).length = 5 from rfl]; omega, List.take_length_add_append]
theorem cells_set (x : It) : ∀ (m : List It) (i : Nat), i < m.length → cells item (m.set i x) = ((((((cells item m).set (i * 5) (.int .i64 x.id)).set (i * 5 + 1) (.int .i64 x.key)).set (i * 5 + 2) (.int .i64 x.cost)).set (i * 5 + 3) (.int .i64 x.cls)).set (i * 5 + 4) (.int .i64 x.til))
  | [], _, h => by simp at h
  | y :: m, 0, _ => rfl
  | y :: m, i + 1, h => by
    have ih := cells_set x m i (by simpa using h)
    rw [List.set_cons_succ, Kit.cells_cons, ih, Kit.cells_cons]
    show _ = ((((((item.cs y ++ cells item m).set ((i + 1) * 5) _).set ((i + 1) * 5 + 1) _).set ((i + 1) * 5 + 2) _).set ((i + 1) * 5 + 3) _).set ((i + 1) * 5 + 4) _)
    have e : ∀ (k : Nat) (L : List Value) (u : Value), (item.cs y ++ L).set ((i + 1) * 5 + k) u = item.cs y ++ L.set (i * 5 + k) u := fun k L u => by
      rw [List.set_append_right _ _ (by rw [show (item.cs y).length = 5 from rfl]; omega)]
      congr 2
      rw [show (item.cs y).length = 5 from rfl]; omega
    rw [show (i + 1) * 5 = (i + 1) * 5 + 0 by omega, e 0, e 1, e 2, e 3, e 4, Nat.add_zero]
    rfl
/-- An item is stored at a place. -/
def setAt (w : World) (g o : Nat) (x : It) : World := ((((w.setCell ⟨g, o, none⟩ (.int .i64 x.id)).setCell ⟨g, o + 1, none⟩ (.int .i64 x.key)).setCell ⟨g, o + 2, none⟩ (.int .i64 x.cost)).setCell ⟨g, o + 3, none⟩ (.int .i64 x.cls)).setCell ⟨g, o + 4, none⟩ (.int .i64 x.til)
theorem own_setAt {w : World} {B g c : Nat} {T : TypeId} {m : List It} (h : Own item T B w (.slice (some ⟨g, 0, none⟩) m.length c) m) {i : Nat} (hi : i < m.length) (x : It) : Own item T B (setAt w g (i * 5) x) (.slice (some ⟨g, 0, none⟩) m.length c) (m.set i x) := by
  unfold Own at h ⊢
  rw [cells_set x m i hi, List.length_set]
  exact row_set (row_set (row_set (row_set (row_set h _) _) _) _) _
theorem grown_setAt {w0 w : World} {g : Nat} (h : w0.grownBy w (some g)) (o : Nat) (x : It) : w0.grownBy (setAt w g o x) (some g) := by
  have one : ∀ {u : World} (k : Nat) (v : Value), w0.grownBy u (some g) → w0.grownBy (u.setCell ⟨g, k, none⟩ v) (some g) := fun {u} k v hu =>
    ⟨hu.os, hu.tape, hu.output, by simpa [World.setCell] using hu.size, fun j hj hn => (Below.heap_setCell _ _ _ _ (by rintro rfl; exact hn rfl)).trans (hu.block j hj hn)⟩
  exact one _ _ (one _ _ (one _ _ (one _ _ (one _ _ h))))
theorem grown_cells {w0 : World} {g : Nat} : ∀ (us : List Value) {w : World} {o : Nat}, w0.grownBy w (some g) → w0.grownBy (w.setCells g o us) (some g)
  | [], _, _, h => h
  | v :: us, w, o, hu => grown_cells us ⟨hu.os, hu.tape, hu.output, by simpa [World.setCell] using hu.size, fun j hj hn => (Below.heap_setCell _ _ _ _ (by rintro rfl; exact hn rfl)).trans (hu.block j hj hn)⟩
theorem own_there {w : World} {B g n c : Nat} {T : TypeId} {m : List It} (h : Own item T B w (.slice (some ⟨g, 0, none⟩) n c) m) {o : Nat} (ho : o < m.length * 5) : (w.cell? ⟨g, o, none⟩).isSome = true ∧ w.frozen? ⟨g, o, none⟩ = false := by
  rcases h.2 with ⟨e, -⟩ | ⟨g', cap, cur, e, h1, h2, h3, h4, h5, h6⟩
  · simp at e
  · simp only [Value.slice.injEq, Option.some.injEq, Addr.mk.injEq, and_true] at e
    obtain ⟨rfl, -, rfl⟩ := e
    have hk : o < cur.size := by
      rw [h5]
      exact Nat.lt_of_lt_of_le ho (Nat.mul_le_mul_right 5 h3)
    refine ⟨by rw [cell_of_row w g o _ _ (0, 0) h2]; simp [hk], frozen_of h2⟩
theorem own_five {w : World} {B g n c : Nat} {T : TypeId} {m : List It} (h : Own item T B w (.slice (some ⟨g, 0, none⟩) n c) m) {i : Nat} (hi : i < m.length) :
    ∃ u0 u1 u2 u3 u4, (w.cell? ⟨g, i * 5, none⟩ = some u0 ∧ w.cell? ⟨g, i * 5 + 1, none⟩ = some u1 ∧ w.cell? ⟨g, i * 5 + 2, none⟩ = some u2 ∧ w.cell? ⟨g, i * 5 + 3, none⟩ = some u3 ∧ w.cell? ⟨g, i * 5 + 4, none⟩ = some u4) ∧
      w.frozen? ⟨g, i * 5, none⟩ = false ∧ w.frozen? ⟨g, i * 5 + 1, none⟩ = false ∧ w.frozen? ⟨g, i * 5 + 2, none⟩ = false ∧ w.frozen? ⟨g, i * 5 + 3, none⟩ = false ∧ w.frozen? ⟨g, i * 5 + 4, none⟩ = false := by
  obtain ⟨a0, f0⟩ := own_there h (o := i * 5) (by omega)
  obtain ⟨a1, f1⟩ := own_there h (o := i * 5 + 1) (by omega)
  obtain ⟨a2, f2⟩ := own_there h (o := i * 5 + 2) (by omega)
  obtain ⟨a3, f3⟩ := own_there h (o := i * 5 + 3) (by omega)
  obtain ⟨a4, f4⟩ := own_there h (o := i * 5 + 4) (by omega)
  obtain ⟨u0, e0⟩ := Option.isSome_iff_exists.1 a0
  obtain ⟨u1, e1⟩ := Option.isSome_iff_exists.1 a1
  obtain ⟨u2, e2⟩ := Option.isSome_iff_exists.1 a2
  obtain ⟨u3, e3⟩ := Option.isSome_iff_exists.1 a3
  obtain ⟨u4, e4⟩ := Option.isSome_iff_exists.1 a4
  exact ⟨u0, u1, u2, u3, u4, ⟨e0, e1, e2, e3, e4⟩, f0, f1, f2, f3, f4⟩
/-- clear, of items. -/
theorem run_clear {w : World} {B g c i : Nat} {m : List It} (h : Own item 35 B w (.slice (some ⟨g, 0, none⟩) m.length c) m) (hi : i < m.length) (c' : Nat) (ty : TypeId) :
    (Builtin.clear_ #[40] ty #[.slice (some ⟨g, i * 5, none⟩) (m.length - i) c']).run Try.prog w = .ok (.tuple #[]) (w.setCells g (i * 5) (List.replicate ((m.length - i) * 5) (.int .i64 0))) := by
  have hzv : ∀ w, (zeroValue 35).run Try.prog w = .ok (val z) w := fun w => by kernel_rfl
  have hzc : ∀ n, (Builtin.zeroCells (val z).cells n).toList = List.replicate (n * 5) (.int .i64 0) := fun n => by
    apply List.ext_getElem
    · simp [Builtin.zeroCells, val, Value.cells]
    · intro k h1 h2
      have hm : k % 5 = 0 ∨ k % 5 = 1 ∨ k % 5 = 2 ∨ k % 5 = 3 ∨ k % 5 = 4 := by omega
      simp only [Builtin.zeroCells, val, Value.cells, z]
      rcases hm with e | e | e | e | e <;> simp [e]
  have hst := run_storeCells_cells (P := Try.prog) g (i * 5) (List.replicate ((m.length - i) * 5) (.int .i64 0)) 0 w (fun j hj => (own_there h (by simp at hj; omega)).1) (fun j hj => (own_there h (by simp at hj; omega)).2) (fun v hv => by rw [List.eq_of_mem_replicate hv]; rfl)
  simp only [Nat.add_zero] at hst
  obtain ⟨k, hk⟩ : ∃ k, m.length - i = k + 1 := ⟨m.length - i - 1, by omega⟩
  rw [hk] at hst ⊢
  simp [Builtin.clear_, run_underlying Try.underlying40, hzv, hzc, hst]
theorem below_grown {w w' : World} (hb : Below w.heap.size w w') (r : Option Nat) : w.grownBy w' r := ⟨hb.os, hb.tape, hb.output, hb.size, fun i hi _ => hb.block i hi⟩
theorem grown_then {a b c : World} {r : Option Nat} (h : a.grownBy b r) (k : Below b.heap.size b c) : a.grownBy c r := ⟨k.os.trans h.os, k.tape.trans h.tape, k.output.trans h.output, Nat.le_trans h.size k.size, fun i hi hn => (k.block i (Nat.lt_of_lt_of_le hi h.size)).trans (h.block i hi hn)⟩
/-- Behind j items, of which i stayed. -/
structure Keep (f : It → Bool) (l m : List It) (i j : Nat) : Prop where
  len : m.length = l.length
  lt : i < j
  le : j ≤ l.length
  low : m.take i = (l.take j).filter fun x => !f x
  high : m.drop j = l.drop j
theorem Keep.at_ {f : It → Bool} {l m : List It} {i j : Nat} (h : Keep f l m i j) (_ : j < l.length) : m.getD j z = l.getD j z := by
  have := congrArg (fun t => t.getD 0 z) h.high
  simpa [List.getD] using this
theorem Keep.skip {f : It → Bool} {l m : List It} {i j : Nat} (h : Keep f l m i j) (hj : j < l.length) (hf : f (l.getD j z) = true) : Keep f l m i (j + 1) := by
  refine ⟨h.len, by have := h.lt; omega, hj, ?_, ?_⟩
  · rw [h.low, filter_no (f := fun x => !f x) hj (by show (!f (l.getD j z)) = false; rw [hf]; rfl)]
  · have := congrArg (fun t => t.drop 1) h.high
    simpa [List.drop_drop] using this
theorem Keep.keep {f : It → Bool} {l m : List It} {i j : Nat} (h : Keep f l m i j) (hj : j < l.length) (hf : f (l.getD j z) = false) : Keep f l (m.set i (l.getD j z)) (i + 1) (j + 1) := by
  have hi : i < m.length := by have := h.len; have := h.lt; omega
  have h1 := h.lt
  refine ⟨by simpa using h.len, by omega, hj, ?_, ?_⟩
  · rw [filter_yes (f := fun x => !f x) hj (by show (!f (l.getD j z)) = true; rw [hf]; rfl), ← h.low, take_snoc z (by simpa using hi), List.take_set_of_le (Nat.le_refl i)]
    simp [List.getD, hi]
  · have := congrArg (fun t => t.drop 1) h.high
    simp only [List.drop_drop] at this
    rw [List.drop_set_of_lt (by omega)]
    exact this
theorem Keep.start {f : It → Bool} {l : List It} {k : Nat} (hk : k < l.length) (hn : ∀ i, i < k → f (l.getD i z) = false) (hy : f (l.getD k z) = true) : Keep f l l k (k + 1) := by
  refine ⟨rfl, by omega, hk, ?_, rfl⟩
  rw [filter_no (f := fun x => !f x) hk (by show (!f (l.getD k z)) = false; rw [hy]; rfl)]
  have key : ∀ j, j ≤ k → (l.take j).filter (fun x => !f x) = l.take j := by
    intro j
    induction j with
    | zero => intro _; rfl
    | succ j ih =>
      intro hj
      rw [filter_yes (f := fun x => !f x) (by omega) (by show (!f (l.getD j z)) = true; rw [hn j (by omega)]; rfl), ih (by omega), ← take_snoc z (by omega)]
  exact (key k (Nat.le_refl _)).symm
theorem filter_all {f : It → Bool} {l : List It} (hn : ∀ i, i < l.length → f (l.getD i z) = false) : l.filter (fun x => !f x) = l := by
  rw [List.filter_eq_self]
  intro x hx
  obtain ⟨i, hi, rfl⟩ := List.getElem_of_mem hx
  have := hn i hi
  simp only [List.getD, List.getElem?_eq_getElem hi, Option.getD_some] at this
  simp [this]
set_option maxRecDepth 100000 in
set_option maxHeartbeats 8000000 in
theorem delete_any {c g0 : Nat} {id : Int} {f : It → Bool} (eg : Ent g0) (hg : Gives c id g0 f) {l : List It} {y : Value} {B : Nat} {w : World} (h : Own item 35 B w y l) (hl : l.length ≤ 1000) (hc : w.cell? ⟨c, 0, none⟩ = some (.int .i64 id)) (hcy : y.ownBlock ≠ some c) :
    Calls Try.prog 50 #[y, fnv g0 c] w fun e w' => ∃ y', e = .returned y' ∧ Own item 35 B w' y' (l.filter fun x => !f x) ∧ y'.ownBlock = y.ownBlock ∧ w.grownBy w' y.ownBlock := by
  obtain ⟨p, d, rfl, hlies, -⟩ := own_slice h
  have hi := index_any eg hg (d := d) hlies hl hc
  rcases spot_cases f z l with ⟨e, hn⟩ | ⟨k, e, hk, hy, hn⟩
  · rw [e] at hi
    rw [filter_all hn]
    have HO := Lib.hid h
    clear h hc hg hlies hn hcy
    go_enter Try.func50, Try.ntmps50
    go_wp2_with (go_at_call 52; (with_reducible refine hi.mono ?_); rintro e w2 ⟨rfl, hb⟩; have HB2 := Lib.hid hb; clear hb hi)
    go_ret
    exact ⟨_, rfl, HO.out.on HB2.out, rfl, below_grown HB2.out _⟩
  · rw [e] at hi
    have hne1 : ((k : Int) == -1) = false := beq_eq_false_iff_ne.2 (by omega)
    obtain ⟨g, rfl⟩ : ∃ g, p = some ⟨g, 0, none⟩ := by
      rcases h.2 with ⟨e, e0⟩ | ⟨g, cap, cur, e, -⟩
      · omega
      · simp only [Value.slice.injEq] at e
        exact ⟨g, e.1⟩
    have HK := Lib.hid (Keep.start hk hn hy)
    have HO := Lib.hid h
    have hgc : c ≠ g := fun e => hcy (by rw [e]; rfl)
    have HC := Lib.hid (fun (u : World) (x : It) (hu : w.grownBy u (some g)) => hg u x ((World.cell?_of_block (hu.block c (World.block_lt_of_cell? _ _ hc) (by simpa using hgc))).trans hc))
    have hlt := own_lt h (b := g) rfl
    clear h hc hg hlies hn hy hcy
    go_enter Try.func50, Try.ntmps50
    go_wp2_with (go_at_call 52; (with_reducible refine hi.mono ?_); rintro e w2 ⟨rfl, hb⟩; have HB2 := Lib.hid hb; clear hb hi)
    have HD := Lib.hid (show l.filter (fun x => !f x) = l.filter (fun x => !f x) from rfl)
    generalize hn : l.length = n at *
    go_loopw [5, 6] (fun a1 a2 wr => ∃ (i j : Nat) (m : List It), a1 = .int .i64 (i : Int) ∧ a2 = .int .i64 (j : Int) ∧ j ≤ n ∧ i < j ∧ Hid (Keep f l m i j) ∧ Hid (Own item 35 B wr (.slice (some ⟨g, 0, none⟩) n d) m) ∧ Hid (w.grownBy wr (some g))) (fun _ a2 _ => n - (intOf a2).toNat)
    case atStart => exact ⟨k, k + 1, l, rfl, by go_num, by omega, by omega, HK, Lib.hid (HO.out.on HB2.out), Lib.hid (below_grown HB2.out _)⟩
    case round =>
      obtain ⟨i, j, m, rfl, rfl, hj, hij, HI, HM, HG⟩ := hrel
      have hm : m.length = n := by rw [HI.out.len, hn]
      by_cases hlt : j < n
      · have hlt' : (j : Int) < (n : Int) := by omega
        have hit : (i : Int) < (n : Int) := by omega
        obtain ⟨p', c', ep, hlies⟩ := HM.out.lies
        simp only [Value.slice.injEq] at ep
        obtain ⟨rfl, -, -⟩ := ep
        obtain ⟨b, o, eb, ha⟩ := lies_at hlies (show j < m.length by omega)
        simp only [Option.some.injEq, Addr.mk.injEq, and_true] at eb
        obtain ⟨rfl, rfl⟩ := eb
        rw [HI.out.at_ (by omega), Nat.zero_add] at ha
        obtain ⟨k0, k1, k2, k3, k4⟩ := at5 ha
        have HY := Lib.hid (fun h => HI.out.skip (by omega) h)
        have HN := Lib.hid (fun h => HI.out.keep (by omega) h)
        generalize l.getD j z = x at *
        have hbx := lay wr (.cells #[.int .i64 x.id, .int .i64 x.key, .int .i64 x.cost, .int .i64 x.cls, .int .i64 x.til] 35)
        have hg1 : w.grownBy (wr.alloc (.cells #[.int .i64 x.id, .int .i64 x.key, .int .i64 x.cost, .int .i64 x.cls, .int .i64 x.til] 35)) (some g) := grown_then HG.out hbx
        have HCx := HC.out _ x hg1
        have K := Lib.hid (heap_alloc_new wr (.cells #[.int .i64 x.id, .int .i64 x.key, .int .i64 x.cost, .int .i64 x.cls, .int .i64 x.til] 35))
        have HA := Lib.hid hbx
        have HG1 := Lib.hid hg1
        generalize hfx : f x = fx at *
        obtain ⟨xi, xk, xc, xs, xt⟩ := x
        simp only [val] at k0 k1 k2 k3 k4 HCx
        clear ha hlies hbx hg1 HC HD
        cases fx
        · have HE := Lib.hid (HN.out rfl)
          clear hfx HY HN
          go_wp2_with (first
            | (go_at_fn g0; (with_reducible refine HCx.mono ?_); rintro e w3 ⟨rfl, hb⟩; have HO3 := Lib.hid ((HM.out.on HA.out).on hb); have HG3 := Lib.hid (grown_then HG1.out hb); obtain ⟨b0, b1, b2, b3, b4⟩ := box5 ((hb.block _ (lt_heap K.out)).trans K.out); obtain ⟨u0, u1, u2, u3, u4, ⟨c0, c1, c2, c3, c4⟩, f0, f1, f2, f3, f4⟩ := own_five HO3.out (i := i) (by omega); clear hb HCx))
          have HS := Lib.hid (own_setAt (i := i) (show Own item 35 B w3 (.slice (some ⟨g, 0, none⟩) m.length d) m by rw [hm]; exact HO3.out) (by omega) ⟨xi, xk, xc, xs, xt⟩)
          rw [hm] at HS
          have HGS := Lib.hid (grown_setAt HG3.out (i * 5) ⟨xi, xk, xc, xs, xt⟩)
          rw [show ((((w3.setCell ⟨g, i * 5, none⟩ (.int .i64 xi)).setCell ⟨g, i * 5 + 1, none⟩ (.int .i64 xk)).setCell ⟨g, i * 5 + 2, none⟩ (.int .i64 xc)).setCell ⟨g, i * 5 + 3, none⟩ (.int .i64 xs)).setCell ⟨g, i * 5 + 4, none⟩ (.int .i64 xt) = setAt w3 g (i * 5) ⟨xi, xk, xc, xs, xt⟩ from rfl]
          generalize setAt w3 g (i * 5) ⟨xi, xk, xc, xs, xt⟩ = w4 at *
          go_roundw
          case rel => exact ⟨i + 1, j + 1, _, by go_num, by go_num, by omega, by omega, HE, HS, HGS⟩
          case measure => simp only [intOf]; omega
        · have HE := Lib.hid (HY.out rfl)
          clear hfx HY HN
          go_wp2_with (first
            | (go_at_fn g0; (with_reducible refine HCx.mono ?_); rintro e w3 ⟨rfl, hb⟩; have HO3 := Lib.hid ((HM.out.on HA.out).on hb); have HG3 := Lib.hid (grown_then HG1.out hb); clear hb HCx))
          go_roundw
          case rel => exact ⟨i, j + 1, m, rfl, by go_num, by omega, by omega, HE, HO3, HG3⟩
          case measure => simp only [intOf]; omega
      · have hlt' : ¬ (j : Int) < (n : Int) := by omega
        have hij' : (i : Int) < (n : Int) := by omega
        obtain rfl : j = n := by omega
        have hlow := HI.out.low
        rw [show l.take j = l from List.take_of_length_le (by omega)] at hlow
        have hrow : wr.ownsRow B 35 5 (.slice (some ⟨g, 0, none⟩) j d) j (cells item m) := by
          have := HM.out
          unfold Own at this
          rwa [hm] at this
        have hcut := row_fars (List.replicate ((j - i) * 5) (.int .i64 0)) (row_cut hrow (i := i) (by omega)) (Nat.le_refl _)
        rw [cells_take, hlow] at hcut
        have hil : (l.filter fun x => !f x).length = i := by rw [← hlow, List.length_take, hm]; omega
        have HF := Lib.hid (show Own item 35 B (wr.setCells g (i * 5) (List.replicate ((j - i) * 5) (.int .i64 0))) (.slice (some ⟨g, 0, none⟩) i d) (l.filter fun x => !f x) by unfold Own; rw [hil]; exact hcut)
        have HG2 := Lib.hid (grown_cells (List.replicate ((j - i) * 5) (.int .i64 0)) (o := i * 5) HG.out)
        have hclr := fun c' ty => run_clear (g := g) (c := d) (i := i) (B := B) (m := m) (by rw [hm]; exact HM.out) (by omega) c' ty
        rw [hm] at hclr
        generalize wr.setCells g (i * 5) (List.replicate ((j - i) * 5) (.int .i64 0)) = w5 at *
        have hcap : j ≤ d := by
          rcases hrow.2 with ⟨e, -⟩ | ⟨g', cap, cur, e, h1, h2, h3, -⟩
          · simp at e
          · simp only [Value.slice.injEq] at e
            omega
        have hd1 : (i : Int) ≤ (d : Int) := by omega
        have hd2 : ¬ d = i := by omega
        clear hrow hcut hlow
        go_wp2
        go_ret
        exact ⟨_, rfl, HF.out, rfl, HG2.out⟩
end Go.Proofs.Ytdcclmellabnlaa.Queue
