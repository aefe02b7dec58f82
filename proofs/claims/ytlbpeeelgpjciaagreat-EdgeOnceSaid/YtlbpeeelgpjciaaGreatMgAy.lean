/-
  slices.SortStableFunc at items, of at most 16 of them, by a comparison of their classes: the items of class 0, then 1, then 2, in each as they stood; the program's Of, First, Sum.
  The program's Of once more, and where its row lies; the program's Refuse, of any edge that is kept well.
  slices.Clone of rates; the program's forget, Crash, New.
  The program's New of an edge, of any configuration.
  slices.Grow of a slice that is none, and slices.Concat of two rows of numbers: a row of their own.
-/
import Derived.Shelf.SlSortCmp.InsertionK
import Derived.Sort.LotA
import Derived.Deep.DeepCutAuto
import Derived.Lib.AppendZerosOnto
import Derived.Lib.Hide
import Derived.Lib.Walk
import Derived.Lib.SliceRun
import Derived.WalkKit
import Derived.Test.YtlbpeeelgpjciaaGreatMgAw
import Derived.Test.YtlbpeeelgpjciaaGreatShelf
import Derived.Test.YtlbpeeelgpjciaaGreatMgAj
import Derived.Test.YtlbpeeelgpjciaaGreatMgAf
namespace Go.Proofs.YtlbpeeelgpjciaaGreat.Queue
open Go.RowKit Go.Shelf Go.Sort
open _root_.Go.Proofs.YtlbpeeelgpjciaaGreat.Codec (lt_of_heap frozen_of heap_set below_new own_below)
open _root_.Go.Proofs.YtlbpeeelgpjciaaGreat.Kit (Enc Lies Own At Kept Laid Off cell_on lt_heap take_snoc below_drewN box5 ints own_keep own_lt cells)

instance : Inhabited It := ⟨z⟩
/-! The plain side. -/
def byCls (x y : It) : Int := if x.cls < y.cls then -1 else if y.cls < x.cls then 1 else 0
theorem byCls_lt (x y : It) : Go.Proofs.ltOf byCls x y = decide (x.cls < y.cls) := by
  unfold Go.Proofs.ltOf byCls
  by_cases h1 : x.cls < y.cls
  · simp [h1]
  · by_cases h2 : y.cls < x.cls <;> simp [h1, h2]
theorem byCls_swo : SWO (Go.Proofs.ltOf byCls) where
  irrefl x := by rw [byCls_lt]; simp
  trans x y z h1 h2 := by rw [byCls_lt] at *; simp at *; omega
  ntrans x y z h1 h2 := by rw [byCls_lt] at *; simp at *; omega
def isCls (c : Int) (x : It) : Bool := x.cls == c
/-- Two neighbours of different classes change places: of each class, nothing has turned. -/
theorem filter_swp {d : Array It} {j : Nat} (hj : j + 1 < d.size) (hne : d[j + 1]!.cls ≠ d[j]!.cls) (c : Int) : (swp d (j + 1) j).toList.filter (isCls c) = d.toList.filter (isCls c) := by
  have e : d.toList = d.toList.take j ++ [d[j]!, d[j + 1]!] ++ d.toList.drop (j + 2) := by
    apply List.ext_getElem?
    intro i
    have h1 : j < d.toList.length := by simp; omega
    have hl : (d.toList.take j).length = j := by simp; omega
    rcases Nat.lt_trichotomy i j with h | h | h
    · rw [List.append_assoc, List.getElem?_append_left (by omega), List.getElem?_take_of_lt h]
    · subst h
      rw [List.append_assoc, List.getElem?_append_right (by omega), hl, Nat.sub_self]
      simp [getElem!_pos d i (by omega)]
    · by_cases h2 : i = j + 1
      · subst h2
        rw [List.append_assoc, List.getElem?_append_right (by omega), hl]
        simp [getElem!_pos d (j + 1) hj]
      · rw [List.getElem?_append_right (by simp; omega)]
        simp only [List.length_append, hl, List.length_cons, List.length_nil, List.getElem?_drop]
        congr 1
        omega
  have e2 : (swp d (j + 1) j).toList = d.toList.take j ++ [d[j + 1]!, d[j]!] ++ d.toList.drop (j + 2) := by
    apply List.ext_getElem?
    intro i
    have hl : (d.toList.take j).length = j := by simp; omega
    unfold swp
    rw [Array.toList_setIfInBounds, Array.toList_setIfInBounds]
    rcases Nat.lt_trichotomy i j with h | h | h
    · rw [List.append_assoc, List.getElem?_append_left (by omega), List.getElem?_take_of_lt h, List.getElem?_set_ne (by omega), List.getElem?_set_ne (by omega)]
    · subst h
      rw [List.append_assoc, List.getElem?_append_right (by omega), hl, Nat.sub_self, List.getElem?_set_self (by simp; omega)]
      rfl
    · by_cases h2 : i = j + 1
      · subst h2
        rw [List.append_assoc, List.getElem?_append_right (by omega), hl, List.getElem?_set_ne (by omega), List.getElem?_set_self (by simpa using hj)]
        simp
      · rw [List.getElem?_append_right (by simp; omega), List.getElem?_set_ne (by omega), List.getElem?_set_ne (by omega)]
        simp only [List.length_append, hl, List.length_cons, List.length_nil, List.getElem?_drop]
        congr 1
        omega
  rw [e2]
  conv => rhs; rw [e]
  simp only [List.filter_append]
  congr 2
  generalize d[j]! = a at *
  generalize d[j + 1]! = b at *
  simp only [List.filter_cons, List.filter_nil]
  by_cases ha : a.cls = c
  · have hb : b.cls ≠ c := by omega
    simp [isCls, ha, hb]
  · simp [isCls, ha]
theorem filter_inner (c : Int) (a : Nat) : ∀ (j : Nat) (d : Array It), j < d.size → (insInner (Go.Proofs.ltOf byCls) a j d).toList.filter (isCls c) = d.toList.filter (isCls c)
  | 0, d, _ => rfl
  | j + 1, d, h => by
    unfold insInner
    split
    · rename_i hc
      simp only [Bool.and_eq_true, byCls_lt, decide_eq_true_eq] at hc
      rw [filter_inner c a j _ (by rw [swp_size]; omega), filter_swp h (by omega)]
    · rfl
theorem inner_size (a : Nat) : ∀ (j : Nat) (d : Array It), (insInner (Go.Proofs.ltOf byCls) a j d).size = d.size
  | 0, d => rfl
  | j + 1, d => by
    unfold insInner
    split
    · rw [inner_size a j, swp_size]
    · rfl
theorem filter_outer (c : Int) (a b : Nat) : ∀ (n i : Nat) (d : Array It), b - i = n → b ≤ d.size → (insOuter (Go.Proofs.ltOf byCls) a b i d).toList.filter (isCls c) = d.toList.filter (isCls c)
  | 0, i, d, hn, _ => by rw [insOuter, if_neg (by omega)]
  | n + 1, i, d, hn, hb => by
    rw [insOuter, if_pos (by omega), filter_outer c a b n (i + 1) _ (by omega) (by rw [inner_size]; exact hb), filter_inner c a i d (by omega)]
/-- A list that rises by classes from 0 to 2. -/
theorem by_classes : ∀ (l : List It), (l.Pairwise fun a b => a.cls ≤ b.cls) → (∀ x ∈ l, 0 ≤ x.cls ∧ x.cls ≤ 2) → l = l.filter (isCls 0) ++ l.filter (isCls 1) ++ l.filter (isCls 2)
  | [], _, _ => rfl
  | x :: l, h, hc => by
    obtain ⟨h1, h2⟩ := List.pairwise_cons.1 h
    have ih := by_classes l h2 (fun y hy => hc y (by simp [hy]))
    have hx := hc x (by simp)
    have none : ∀ c : Int, c < x.cls → l.filter (isCls c) = [] := fun c hlt => List.filter_eq_nil_iff.2 fun y hy => by
      have := h1 y hy
      simp only [isCls, beq_iff_eq]
      omega
    have hcase : x.cls = 0 ∨ x.cls = 1 ∨ x.cls = 2 := by omega
    rcases hcase with e | e | e
    · have f0 : isCls 0 x = true := by simp [isCls, e]
      have f1 : isCls 1 x = false := by simp [isCls, e]
      have f2 : isCls 2 x = false := by simp [isCls, e]
      simp only [List.filter_cons, f0, f1, f2, Bool.false_eq_true, if_false, if_true, List.cons_append]
      exact congrArg (x :: ·) ih
    · have n0 := none 0 (by omega)
      rw [n0] at ih
      have f0 : isCls 0 x = false := by simp [isCls, e]
      have f1 : isCls 1 x = true := by simp [isCls, e]
      have f2 : isCls 2 x = false := by simp [isCls, e]
      simp only [List.filter_cons, f0, f1, f2, Bool.false_eq_true, if_false, if_true, n0, List.nil_append, List.cons_append] at ih ⊢
      exact congrArg (x :: ·) ih
    · have n0 := none 0 (by omega)
      have n1 := none 1 (by omega)
      rw [n0, n1] at ih
      have f0 : isCls 0 x = false := by simp [isCls, e]
      have f1 : isCls 1 x = false := by simp [isCls, e]
      have f2 : isCls 2 x = true := by simp [isCls, e]
      simp only [List.filter_cons, f0, f1, f2, Bool.false_eq_true, if_false, if_true, n0, n1, List.nil_append] at ih ⊢
      exact congrArg (x :: ·) ih
/-- What the sort leaves, of items of one key. -/
theorem sorted_of {l : List It} (key : Int) (hc : ∀ x ∈ l, 0 ≤ x.cls ∧ x.cls ≤ 2) : (insertionSort (Go.Proofs.ltOf byCls) (l.filter fun x => x.key == key).toArray 0 (l.filter fun x => x.key == key).length).toList = of l key := by
  generalize hm : (l.filter fun x => x.key == key) = m
  have hmc : ∀ x ∈ m, 0 ≤ x.cls ∧ x.cls ≤ 2 := fun x hx => hc x (by rw [← hm] at hx; exact (List.mem_filter.1 hx).1)
  obtain ⟨⟨hs, -, hperm⟩, hsort⟩ := insertionSort_holds (lt := Go.Proofs.ltOf byCls) byCls_swo m.toArray 0 m.length (Nat.zero_le _) (by simp)
  have hf := fun c => filter_outer c 0 m.length _ 1 m.toArray rfl (by simp)
  change ∀ c, (insertionSort (Go.Proofs.ltOf byCls) m.toArray 0 m.length).toList.filter (isCls c) = m.filter (isCls c) at hf
  generalize insertionSort (Go.Proofs.ltOf byCls) m.toArray 0 m.length = d at *
  have e1 : (d.extract 0 m.length).toList = d.toList := by
    have : d.size = m.length := by rw [hs]; simp
    rw [← this]; simp
  have e2 : (m.toArray.extract 0 m.length).toList = m := by simp
  rw [e1, e2] at hperm
  have hp : d.toList.Pairwise fun a b => a.cls ≤ b.cls := by
    rw [List.pairwise_iff_getElem]
    intro i j hi hj hij
    have hj' : j < d.size := by simpa using hj
    have := hsort i j (Nat.zero_le _) hij (by have : d.size = m.length := by rw [hs]; simp
                                              omega)
    rw [byCls_lt] at this
    have hn := of_decide_eq_false this
    rw [getElem!_pos d j hj', getElem!_pos d i (by omega)] at hn
    simp only [Array.getElem_toList]
    omega
  rw [by_classes d.toList hp (fun x hx => hmc x (hperm.mem_iff.1 hx)), hf, hf, hf, ← hm]
  unfold of ofc
  simp only [List.filter_filter]
  have k : ∀ c, (fun x : It => isCls c x && (x.key == key)) = isOf key c := fun c => by funext x; unfold isCls isOf; rw [Bool.and_comm]
  rw [k, k, k]
/-! The walk. -/
theorem flat_items (xs : List It) : flatK item.cs 5 xs.toArray = (cells item xs).toArray := by
  refine ext_get! (by simp [Kit.cells_len, item]) fun t ht => ?_
  have ht' : t < xs.length * 5 := by simpa using ht
  rw [get_flatK _ _ _ t (by simpa using ht')]
  have hj : t / 5 < xs.length := by omega
  have hx : xs.toArray[t / 5]! = xs.getD (t / 5) z := by simp [List.getD, hj]
  rw [hx]
  have hk : t % 5 < (item.cs (xs.getD (t / 5) z)).length := by rw [show (item.cs (xs.getD (t / 5) z)).length = 5 from rfl]; omega
  have h1 := Kit.cells_at (E := item) xs (t / 5) hj (t % 5) _ (List.getElem?_eq_getElem hk)
  rw [show t / 5 * item.n + t % 5 = t by rw [show item.n = 5 from rfl]; omega] at h1
  have h2 : (item.cs (xs.getD (t / 5) z))[t % 5]! = (item.cs (xs.getD (t / 5) z))[t % 5]'hk := getElem!_pos (item.cs (xs.getD (t / 5) z)) (t % 5) hk
  rw [h2]
  simp [h1]
theorem holds_items {w : World} {g B cap : Nat} {T : TypeId} {xs : List It} (h : Own item T B w (.slice (some ⟨g, 0, none⟩) xs.length cap) xs) : HoldsK item.cs 5 w g 0 xs.toArray := by
  intro j hj
  rw [flat_items] at hj ⊢
  have hj' : j < (cells item xs).length := by simpa using hj
  have hc := World.ownsRow.cells (g := g) h rfl j _ (List.getElem?_eq_getElem hj')
  rw [Codec.add_at] at hc
  refine ⟨by simpa [hj'] using hc, ?_⟩
  rcases h.2 with ⟨h0, _⟩ | ⟨g', cap', cur, hv, _, hb, _⟩
  · cases h0
  · cases hv
    simp [World.frozen?, hb]
theorem items_lie {w : World} {g : Nat} {l : List It} (h : HoldsK item.cs 5 w g 0 l.toArray) : Lies item w (some ⟨g, 0, none⟩) l := by
  refine .inr ⟨g, 0, rfl, fun j hj k u hu => ?_⟩
  have hv := Kit.cells_at (E := item) l j hj k u hu
  have ht := (List.getElem?_eq_some_iff.1 hv).1
  have := (h (j * item.n + k) (by rw [flat_items]; simpa using ht)).1
  rw [flat_items, ← Nat.add_assoc] at this
  rw [this]
  simp [hv]
theorem below_sort {w : World} {B g n : Nat} {d : Array It} {os : Array Obj} (hB : B ≤ w.heap.size) (hg : B ≤ g) : Below B w (Go.Proofs.sortWorldK item.cs 5 w g 0 n d os) := by
  refine (Below.refl B w).grown (row := some g) ⟨rfl, rfl, rfl, Go.Proofs.size_sortWorldK_c item.cs 5 w g 0 n d os, fun k hk hne => ?_⟩ hB (fun k e => by cases e; exact hg)
  unfold Go.Proofs.sortWorldK putRowK
  rw [heap_grow_old _ _ (by simpa using hk)]
  have : g ≠ k := fun e => hne (by rw [e])
  simp [putRow, mapBlock, Sort.ahead, Array.getElem?_modify, this]
theorem isnan_any (x : Int) (w : World) : Calls Tryz.prog 132 #[.int .i64 x] w fun e w' => e = .returned (.bool false) ∧ w = w' := by
  have h : (x != x) = false := by simp
  go_enter Tryz.func132, Tryz.ntmps132
  go_wp2
  go_ret
  exact ⟨rfl, rfl⟩
def cmpI (x y : Int) : Int := if x < y then -1 else if y < x then 1 else 0
theorem cmp_any (x y : Int) (w : World) : Calls Tryz.prog 90 #[.int .i64 x, .int .i64 y] w fun e w' => e = .returned (.int .i64 (cmpI x y)) ∧ w = w' := by
  have hcase : (x < y ∧ cmpI x y = -1) ∨ (¬ x < y ∧ y < x ∧ cmpI x y = 1) ∨ (¬ x < y ∧ ¬ y < x ∧ cmpI x y = 0) := by
    unfold cmpI
    by_cases h1 : x < y <;> by_cases h2 : y < x <;> simp [h1, h2]
  generalize cmpI x y = R at *
  rcases hcase with ⟨h1, rfl⟩ | ⟨h1, h2, rfl⟩ | ⟨h1, h2, rfl⟩
  all_goals
    go_enter Tryz.func90, Tryz.ntmps90
    go_wp2_with (go_at_call 132; (with_reducible refine (isnan_any _ _).mono ?_); rintro e w1 ⟨rfl, rfl⟩)
    go_ret
    exact ⟨rfl, rfl⟩
set_option maxRecDepth 100000 in
set_option maxHeartbeats 1000000 in
theorem closure_any (x y : It) (W : World) : Calls Tryz.prog 116 #[.agg (item.cs x).toArray, .agg (item.cs y).toArray] W fun e w' => e = .returned (.int .i64 (byCls x y)) ∧ ∃ q os', w' = grow (W.drewN q) os' := by
  have hcon := fun W' => cmp_any x.cls y.cls W'
  rw [show byCls x y = cmpI x.cls y.cls from rfl]
  generalize cmpI x.cls y.cls = r at hcon ⊢
  simp only [item]
  go_enter Tryz.func116, Tryz.ntmps116
  go_wp2_with (go_at_call 90; refine (hcon _).mono ?_; rintro e w' ⟨rfl, rfl⟩)
  go_ret
  exact ⟨rfl, 0, _, by rw [alloc_eq_grow, alloc_eq_grow, grow_grow]; rfl⟩
abbrev cmpv : Value := .func (.func 116) #[] #[]
/-- The insertion sort, of an owned row. -/
theorem ins_any {B g cap : Nat} {u : World} {m : List It} (ho : Own item 77 B u (.slice (some ⟨g, 0, none⟩) m.length cap) m) (hB : B ≤ u.heap.size) (hl : m.length ≤ 16) :
    Calls Tryz.prog 166 #[.slice (some ⟨g, 0, none⟩) m.length cap, .int .i64 0, .int .i64 (m.length : Int), cmpv] u fun e w' => e = .returned (.tuple #[]) ∧ Lies item w' (some ⟨g, 0, none⟩) (insertionSort (Go.Proofs.ltOf byCls) m.toArray 0 m.length).toList ∧ Below B u w' := by
  have hlt : g < u.heap.size := own_lt ho rfl
  have hg : B ≤ g := (World.ownsRow.lt ho g rfl).1
  have hH := holds_items ho
  have hcon := Go.Proofs.AnyQ.insertionSortCmpFunc Tryz.insItems 5 Tryz.isAgg77 Tryz.sizeOf77 item.cs (fun _ => rfl) item.one byCls 116 #[] g 0 cap 0 m.length m.toArray u (enters_of Tryz.func116 (by kernel_rfl) rfl) (fun _ _ _ _ x y => closure_any x y _) hH hlt (Nat.zero_le _) (by simp) (by simp; omega)
  refine Calls.mono (P := Tryz.prog) hcon ?_
  rintro e w' ⟨rfl, n, os, rfl⟩
  have hs : (insertionSort (Go.Proofs.ltOf byCls) m.toArray 0 m.length).size = m.toArray.size := (insertionSort_holds (lt := Go.Proofs.ltOf byCls) byCls_swo m.toArray 0 m.length (Nat.zero_le _) (by simp)).1.1
  refine ⟨rfl, items_lie ?_, below_sort hB hg⟩
  rw [Array.toArray_toList]
  exact Go.Proofs.holdsK_sortWorldK_c item.cs 5 u g 0 m.toArray _ n os hH hlt hs
set_option maxRecDepth 100000 in
set_option maxHeartbeats 1000000 in
theorem ins_none (p : Option Addr) (cap : Nat) (fv : Value) (u : World) : Calls Tryz.prog 166 #[.slice p 0 cap, .int .i64 0, .int .i64 0, fv] u fun e w' => e = .returned (.tuple #[]) ∧ u = w' := by
  go_enter Tryz.func166, Tryz.ntmps166
  go_wp2
  refine wp_loop_rounds 1 ?_
  rw [rounds_succ]
  go_wp2
  go_end0
  exact ⟨rfl, rfl⟩
set_option maxRecDepth 100000 in
set_option maxHeartbeats 2000000 in
/-- At most 16: one block. -/
theorem stable_any (p : Option Addr) (cap n : Nat) (hn : n ≤ 16) (u : World) (Q : World → Prop)
    (hi : Calls Tryz.prog 166 #[.slice p n cap, .int .i64 0, .int .i64 (n : Int), cmpv] u fun e w' => e = .returned (.tuple #[]) ∧ Q w') :
    Calls Tryz.prog 154 #[.slice p n cap, .int .i64 (n : Int), cmpv] u fun e w' => e = .returned (.tuple #[]) ∧ Q w' := by
  have h1 : ¬ (20 : Int) ≤ (n : Int) := by omega
  have h2 : ¬ (20 : Int) < (n : Int) := by omega
  go_enter Tryz.func154, Tryz.ntmps154
  go_wp2
  refine wp_loop_rounds 1 ?_
  rw [rounds_succ]
  go_wp2_with (go_at_call 166; (with_reducible refine hi.mono ?_); rintro e w2 ⟨rfl, hq⟩; have HQ := Lib.hid hq; clear hq hi)
  refine wp_loop_rounds 1 ?_
  rw [rounds_succ]
  go_wp2
  go_end0
  exact ⟨rfl, HQ.out⟩
set_option maxRecDepth 100000 in
set_option maxHeartbeats 2000000 in
theorem sort_any (p : Option Addr) (cap n : Nat) (hn : n ≤ 16) (u : World) (Q : World → Prop)
    (hi : Calls Tryz.prog 166 #[.slice p n cap, .int .i64 0, .int .i64 (n : Int), cmpv] u fun e w' => e = .returned (.tuple #[]) ∧ Q w') :
    Calls Tryz.prog 115 #[.slice p n cap, cmpv] u fun e w' => e = .returned (.tuple #[]) ∧ Q w' := by
  have hs := stable_any p cap n hn u Q hi
  clear hi
  go_enter Tryz.func115, Tryz.ntmps115
  go_wp2_with (go_at_call 154; (with_reducible refine hs.mono ?_); rintro e w2 ⟨rfl, hq⟩; have HQ := Lib.hid hq; clear hq hs)
  go_end0
  exact ⟨rfl, HQ.out⟩
/-- An owned row is sorted. -/
theorem sort_own {B : Nat} {u : World} {y : Value} {m : List It} (ho : Own item 77 B u y m) (hB : B ≤ u.heap.size) (hl : m.length ≤ 16) :
    Calls Tryz.prog 115 #[y, cmpv] u fun e w' => e = .returned (.tuple #[]) ∧ ((∃ p c, y = .slice p m.length c ∧ Lies item w' p (insertionSort (Go.Proofs.ltOf byCls) m.toArray 0 m.length).toList) ∧ Below B u w') := by
  obtain ⟨p, c, rfl, -, -⟩ := own_slice ho
  rcases ho.2 with ⟨e, h0⟩ | ⟨g, cap, cur, e, -⟩
  · have hm : m = [] := List.eq_nil_of_length_eq_zero h0
    subst hm
    refine sort_any p c 0 (by omega) u _ ((ins_none p c cmpv u).mono ?_)
    rintro e w' ⟨rfl, rfl⟩
    refine ⟨rfl, ⟨p, c, rfl, .inl ?_⟩, Below.refl _ _⟩
    unfold insertionSort
    rw [insOuter, if_neg (by simp)]
  · simp only [Value.slice.injEq] at e
    obtain ⟨rfl, -, rfl⟩ := e
    refine sort_any _ c m.length hl u _ ((ins_any ho hB hl).mono ?_)
    rintro e w' ⟨rfl, h1, h2⟩
    exact ⟨rfl, ⟨_, _, rfl, h1⟩, h2⟩
set_option maxRecDepth 100000 in
set_option maxHeartbeats 2000000 in
theorem pof_any {F : Nat → Prop} {B q : Nat} {w : World} {room : Int} {l : List It} (h : Pq F B w q room l) (hg : Good room l) (hl : l.length ≤ 16) (key : Int) :
    Calls Tryz.prog 57 #[.pointer (some ⟨q, 0, none⟩), .int .i64 key] w fun e w' => ∃ p c, e = .returned (.slice p (of l key).length c) ∧ Lies item w' p (of l key) ∧ Below w.heap.size w w' := by
  have hc : ∀ x ∈ l, 0 ≤ x.cls ∧ x.cls ≤ 2 := fun x hx => by have := (hg.each x hx).1; unfold wrong at this; omega
  have hs := sorted_of key hc
  have hbx := lay w (.cells #[.int .i64 key] 3)
  obtain ⟨y, hy⟩ := h
  have ha := pall_any (⟨y, hy.below hbx⟩ : Pq F B _ q room l) hl
  have hcell := cell_of_row _ w.heap.size 0 _ _ (0, 0) (heap_alloc_new w (.cells #[.int .i64 key] 3))
  have HB := Lib.hid hbx
  have HPK := Lib.hid (fun (u : World) (p : Option Addr) (d : Nat) (hp : Lies item u p l) (hu : Below (w.alloc (.cells #[.int .i64 key] 3)).heap.size (w.alloc (.cells #[.int .i64 key] 3)) u) => picked_any ent_of (gives_of w.heap.size key) (d := d) hp (by omega) (cell_on hcell hu))
  rw [show l.filter (isKey key) = l.filter (fun x => x.key == key) from rfl] at HPK
  have hml : (l.filter fun x => x.key == key).length ≤ 16 := Nat.le_trans (List.length_filter_le _ _) hl
  have hlen : (of l key).length = (l.filter fun x => x.key == key).length := by
    rw [← hs, Array.length_toList, (insertionSort_holds (lt := Go.Proofs.ltOf byCls) byCls_swo (l.filter fun x => x.key == key).toArray 0 (l.filter fun x => x.key == key).length (Nat.zero_le _) (by simp)).1.1]
    simp
  generalize (l.filter fun x => x.key == key) = m at *
  have HSO := Lib.hid (fun (u : World) (y : Value) (ho : Own item 77 w.heap.size u y m) (hu : w.heap.size ≤ u.heap.size) => sort_own ho hu hml)
  rw [hs] at HSO
  rw [hlen]
  generalize of l key = R at *
  clear hy hcell hbx hg hc hs
  go_enter Tryz.func57, Tryz.ntmps57
  go_wp2_with (first
    | (go_at_call 38; (with_reducible refine ha.mono ?_); rintro e u1 ⟨y1, rfl, ho, hb⟩; obtain ⟨p1, d1, rfl, hl1, -⟩ := own_slice ho; have HL1 := Lib.hid hl1; have HB1 := Lib.hid hb; clear ho hb hl1 ha)
    | (go_at_call 113; (with_reducible refine (HPK.out _ _ _ HL1.out HB1.out).mono ?_); rintro e u2 ⟨y2, rfl, ho, hb⟩; have HB2 := Lib.hid (HB.out.trans ((HB1.out.trans (hb.mono HB1.out.size)).mono HB.out.size)); have HO2 := Lib.hid (Own.lower ho (Nat.le_trans HB.out.size HB1.out.size)); clear ho hb HPK)
    | (go_at_call 115; (with_reducible refine (HSO.out _ _ HO2.out HB2.out.size).mono ?_); rintro e u3 ⟨rfl, ⟨p3, d3, rfl, hl3⟩, hb⟩; have HB3 := Lib.hid (HB2.out.trans hb); have HL3 := Lib.hid hl3; clear hb hl3 HSO))
  go_ret
  exact ⟨_, _, rfl, HL3.out, HB3.out⟩
end Go.Proofs.YtlbpeeelgpjciaaGreat.Queue

namespace Go.Proofs.YtlbpeeelgpjciaaGreat.Queue
open Go.RowKit Go.Shelf Go.Sort
open _root_.Go.Proofs.YtlbpeeelgpjciaaGreat.Codec (lt_of_heap frozen_of heap_set below_new own_below)
open _root_.Go.Proofs.YtlbpeeelgpjciaaGreat.Kit (Enc Lies Own At Kept Laid Off cell_on lt_heap take_snoc below_drewN box5 ints own_keep own_lt cells)

theorem own_ge {T : TypeId} {B : Nat} {w : World} {p : Option Addr} {n c : Nat} {l : List It} (h : Own item T B w (.slice p n c) l) : ∀ a, p = some a → B ≤ a.block := by
  rintro a rfl
  exact (World.ownsRow.lt h a.block rfl).1
set_option maxRecDepth 100000 in
set_option maxHeartbeats 2000000 in
theorem pof_own {F : Nat → Prop} {B q : Nat} {w : World} {room : Int} {l : List It} (h : Pq F B w q room l) (hg : Good room l) (hl : l.length ≤ 16) (key : Int) :
    Calls Tryz.prog 57 #[.pointer (some ⟨q, 0, none⟩), .int .i64 key] w fun e w' => ∃ p c, e = .returned (.slice p (of l key).length c) ∧ Lies item w' p (of l key) ∧ (∀ a, p = some a → w.heap.size ≤ a.block) ∧ Below w.heap.size w w' := by
  have hc : ∀ x ∈ l, 0 ≤ x.cls ∧ x.cls ≤ 2 := fun x hx => by have := (hg.each x hx).1; unfold wrong at this; omega
  have hs := sorted_of key hc
  have hbx := lay w (.cells #[.int .i64 key] 3)
  obtain ⟨y, hy⟩ := h
  have ha := pall_any (⟨y, hy.below hbx⟩ : Pq F B _ q room l) hl
  have hcell := cell_of_row _ w.heap.size 0 _ _ (0, 0) (heap_alloc_new w (.cells #[.int .i64 key] 3))
  have HB := Lib.hid hbx
  have HPK := Lib.hid (fun (u : World) (p : Option Addr) (d : Nat) (hp : Lies item u p l) (hu : Below (w.alloc (.cells #[.int .i64 key] 3)).heap.size (w.alloc (.cells #[.int .i64 key] 3)) u) => picked_any ent_of (gives_of w.heap.size key) (d := d) hp (by omega) (cell_on hcell hu))
  rw [show l.filter (isKey key) = l.filter (fun x => x.key == key) from rfl] at HPK
  have hml : (l.filter fun x => x.key == key).length ≤ 16 := Nat.le_trans (List.length_filter_le _ _) hl
  have hlen : (of l key).length = (l.filter fun x => x.key == key).length := by
    rw [← hs, Array.length_toList, (insertionSort_holds (lt := Go.Proofs.ltOf byCls) byCls_swo (l.filter fun x => x.key == key).toArray 0 (l.filter fun x => x.key == key).length (Nat.zero_le _) (by simp)).1.1]
    simp
  generalize (l.filter fun x => x.key == key) = m at *
  have HSO := Lib.hid (fun (u : World) (y : Value) (ho : Own item 77 w.heap.size u y m) (hu : w.heap.size ≤ u.heap.size) => sort_own ho hu hml)
  rw [hs] at HSO
  rw [hlen]
  generalize of l key = R at *
  clear hy hcell hbx hg hc hs
  go_enter Tryz.func57, Tryz.ntmps57
  go_wp2_with (first
    | (go_at_call 38; (with_reducible refine ha.mono ?_); rintro e u1 ⟨y1, rfl, ho, hb⟩; obtain ⟨p1, d1, rfl, hl1, -⟩ := own_slice ho; have HL1 := Lib.hid hl1; have HB1 := Lib.hid hb; clear ho hb hl1 ha)
    | (go_at_call 113; (with_reducible refine (HPK.out _ _ _ HL1.out HB1.out).mono ?_); rintro e u2 ⟨y2, rfl, ho, hb⟩; have HB2 := Lib.hid (HB.out.trans ((HB1.out.trans (hb.mono HB1.out.size)).mono HB.out.size)); have HO2 := Lib.hid (Own.lower ho (Nat.le_trans HB.out.size HB1.out.size)); clear ho hb HPK)
    | (go_at_call 115; (with_reducible refine (HSO.out _ _ HO2.out HB2.out.size).mono ?_); rintro e u3 ⟨rfl, ⟨p3, d3, rfl, hl3⟩, hb⟩; have HG3 := Lib.hid (own_ge HO2.out); have HB3 := Lib.hid (HB2.out.trans hb); have HL3 := Lib.hid hl3; clear hb hl3 HSO))
  go_ret
  exact ⟨_, _, rfl, HL3.out, HG3.out, HB3.out⟩
end Go.Proofs.YtlbpeeelgpjciaaGreat.Queue
namespace Go.Proofs.YtlbpeeelgpjciaaGreat.Edge
open Go.RowKit
open _root_.Go.Proofs.YtlbpeeelgpjciaaGreat.Codec (lt_of_heap frozen_of heap_set below_new)
open _root_.Go.Proofs.YtlbpeeelgpjciaaGreat.Kit (Enc Lies At Kept Laid Off cell_on lt_heap take_snoc below_drewN own_keep box5)
open _root_.Go.Proofs.YtlbpeeelgpjciaaGreat.Lease (Lz Num spend)
open _root_.Go.Proofs.YtlbpeeelgpjciaaGreat.Queue (It take)
open _root_.Go.Proofs.YtlbpeeelgpjciaaGreat.Demand (Nt)

section
variable {R : Nat → Prop} {B q qw qq qd : Nat} {w w' u u' : World} {y : Value} {c : Cf} {e e' e2 : Eg}
theorem good_without {c : Cf} {e : Eg} (h : Good c e) : ∀ l : List It, Good c ⟨e.L, without e.Q l, e.D⟩ := fun l => good_sub h (without_sublist l e.Q)
/-- A row of items that stays. -/
theorem row_stays {p : Option Addr} {l : List It} (h : Lies Queue.item w p l) (hp : ∀ a, p = some a → w'.heap[a.block]? = w.heap[a.block]?) : Lies Queue.item w' p l := by
  rcases h with h | ⟨b, o, rfl, hc⟩
  · exact .inl h
  · have e : w'.heap[b]? = w.heap[b]? := hp ⟨b, o, none⟩ rfl
    exact .inr ⟨b, o, rfl, fun j hj k v hv => (World.cell?_of_block (a := ⟨b, o + j * Queue.item.n + k, none⟩) e).trans (hc j hj k v hv)⟩
/-- Take, and what stays. -/
theorem etake2 (P : Queue.Way12 Queue.Pq) (h : In R B w q y qw qq qd c e) (hB : B ≤ w.heap.size) (hg : Queue.Good c.qu e.Q) (hl : e.Q.length ≤ 16) (id : Int) (hi : Queue.Num id) :
    Calls Tryz.prog 58 #[.pointer (some ⟨qq, 0, none⟩), .int .i64 id] w fun x' w' => x' = .returned (.tuple #[Queue.val (Queue.take e.Q id).2.1, .bool (Queue.take e.Q id).2.2]) ∧ Moves R B w q y qw qq qd c ⟨e.L, (Queue.take e.Q id).1, e.D⟩ w' ∧ ∀ g, R g → g < w.heap.size → w'.heap[g]? = w.heap[g]? :=
  (P.take (pq_notq h.qu) hB hg hl id hi).mono fun _ _ ⟨he, ht⟩ => ⟨he, h.step_q ht, fun g hr hg => ht.rest g (.inr hr) hg⟩
set_option maxRecDepth 100000 in
set_option maxHeartbeats 8000000 in
theorem prefuse_any (P : Queue.Way12 Queue.Pq) (h : In (fun _ => False) B w q y qw qq qd c e) (hB : B ≤ w.heap.size) (hg : Good c e) (hf : Lens e) {key : Int} (_ : Num key) (why : Int) :
    Calls Tryz.prog 23 #[.pointer (some ⟨q, 0, none⟩), .int .i64 key, .int .i64 why] w fun x w' => ∃ v, x = .returned v ∧ Says w' v (refuse e key why).2 ∧ Moves (fun _ => False) B w q y qw qq qd c (refuse e key why).1 w' := by
  have c0 := Queue.pof_own h.qu hg.q hf.2.1 key
  have hlen := Queue.of_len e.Q key
  have hlq := hf.2.1
  have SV := Lib.hid (show refuse e key why = (⟨e.L, without e.Q (Queue.of e.Q key), e.D⟩, all (Queue.of e.Q key) why) from rfl)
  have HQN := Lib.hid (fun x (hx : x ∈ Queue.of e.Q key) => (hg.q.each x (Queue.mem_of hx).1).2.1)
  generalize refuse e key why = RR at *
  generalize Queue.of e.Q key = l at *
  have c2 := Lib.hid (fun u p k (hl : Lies Queue.item u p l) => answered_any (d := k) hl (by omega) why)
  have SS := Lib.hid (fun (j : Nat) (hj : j < l.length) => without_at (Q := e.Q) hj)
  have S0 := Lib.hid (show without e.Q (l.take 0) = e.Q from rfl)
  have SL := Lib.hid (show without e.Q l = without e.Q (l.take l.length) by rw [List.take_length])
  have SN := Lib.hid (fun j => Nat.le_trans (without_len e.Q (l.take j)) hlq)
  have SG := Lib.hid (fun j => good_without hg (l.take j))
  have HBB := Lib.hid hB
  have HV := Lib.hid h
  have s10 := h.sees.k10
  generalize all l why = A at *
  clear h hB hg hf
  go_enter Tryz.func23, Tryz.ntmps23
  go_wp2_with (go_at_call 57; (with_reducible refine c0.mono ?_); rintro e1 w1 ⟨p, d, rfl, hl, hge, hb⟩; have HL := Lib.hid hl; have HGE := Lib.hid hge; have HB1 := Lib.hid hb; clear hl hge hb c0)
  have HI1 := Lib.hid (HV.out.grow HB1.out)
  have HM0 := Lib.hid (Moves.same HV.out HBB.out HB1.out)
  have HB2 := Lib.hid (Nat.le_trans HBB.out HB1.out.size)
  go_loopw [20] (fun i wr => ∃ (j : Nat), j ≤ l.length ∧ i = .int .i64 (j : Int) ∧ Hid (Moves (fun g => False ∨ w.heap.size ≤ g ∧ g < w1.heap.size) B w1 q y qw qq qd c ⟨e.L, without e.Q (l.take j), e.D⟩ wr) ∧ Hid (∀ g, (False ∨ w.heap.size ≤ g ∧ g < w1.heap.size) → wr.heap[g]? = w1.heap[g]?)) (fun i _ => l.length - (intOf i).toNat)
  case atStart => exact ⟨0, by omega, rfl, by rw [S0.out]; exact Lib.hid (Moves.same HI1.out HB2.out (Below.refl _ _)), Lib.hid fun _ _ => rfl⟩
  case round =>
    obtain ⟨j, hj, rfl, hst, hkp⟩ := hrel
    by_cases hlt : j < l.length
    · have hlt' : (j : Int) < (l.length : Int) := by omega
      obtain ⟨b, o, rfl, ha1⟩ := Queue.lies_at HL.out hlt
      have hRb : False ∨ w.heap.size ≤ b ∧ b < w1.heap.size := .inr ⟨HGE.out _ rfl, World.block_lt_of_cell? _ _ (ha1 0 _ rfl)⟩
      have ha : At Queue.item wr b (o + j * 5) (l.getD j Queue.z) := fun k v hv => (World.cell?_of_block (a := ⟨b, o + j * 5 + k, none⟩) (hkp.out b hRb)).trans (ha1 k v hv)
      obtain ⟨k0, k1, k2, k3, k4⟩ := Queue.at5 ha
      have HSS := Lib.hid (SS.out j hlt)
      have hid : Queue.Num (l.getD j Queue.z).id := by have := HQN.out _ (List.getElem_mem hlt); simpa [List.getD, hlt] using this
      have hBwr := Lib.hid (Nat.le_trans HB2.out hst.out.off.size)
      have HTK := Lib.hid (fun (R' : Nat → Prop) u (hu : In R' B u q y qw qq qd c ⟨e.L, without e.Q (l.take j), e.D⟩) (hb : B ≤ u.heap.size) => etake2 P hu hb (SG.out j).q (SN.out j) (l.getD j Queue.z).id hid)
      clear SS SN S0 SL SG HQN ha ha1 SV P
      generalize l.getD j Queue.z = x at *
      have HW2 := Lib.hid (lay wr (.cells #[.int .i64 x.id, .int .i64 x.key, .int .i64 x.cost, .int .i64 x.cls, .int .i64 x.til] 77))
      have HK2 := Lib.hid (heap_alloc_new wr (.cells #[.int .i64 x.id, .int .i64 x.key, .int .i64 x.cost, .int .i64 x.cls, .int .i64 x.til] 77))
      have s10' := (hst.out.inn.below HW2.out).sees.k10
      obtain ⟨xi, xk, xc, xs, xt⟩ := x
      simp only at k0 k1 k2 k3 k4 HTK HSS HW2 HK2 s10'
      have t0 := (box5 HK2.out).1
      clear s10
      go_wp2
      generalize wr.alloc (.cells #[.int .i64 xi, .int .i64 xk, .int .i64 xc, .int .i64 xs, .int .i64 xt] 77) = w2 at *
      have HI2 := Lib.hid ((hst.out.inn.grow HW2.out).below (Below.refl _ w2).drew)
      have c3 := HTK.out _ _ HI2.out (Nat.le_trans hBwr.out (HW2.out.drew).size)
      have hRX : (False ∨ w.heap.size ≤ wr.heap.size ∧ wr.heap.size < w1.heap.size) ∨ wr.heap.size ≤ wr.heap.size ∧ wr.heap.size < w2.heap.size := .inr ⟨Nat.le_refl _, lt_of_heap HK2.out⟩
      go_region_held3 (fun u => u.cell? ⟨q, 10, none⟩ = some (.pointer (some ⟨qq, 0, none⟩)) ∧ u.cell? ⟨wr.heap.size, 0, none⟩ = some (.int .i64 xi)) (first | with_reducible assumption | exact ⟨s10', t0⟩) (first
        | (go_at_call 58; (with_reducible refine c3.mono ?_); rintro e1 w4 ⟨rfl, h4, hk4⟩; have H4 := Lib.hid h4; have HK4 := Lib.hid hk4; have y4 : _ ∧ _ := ⟨h4.inn.sees.k10, (box5 ((hk4 _ hRX (lt_of_heap HK2.out)).trans HK2.out)).1⟩; clear h4 hk4 c3))
      go_wp2
      go_roundw
      case rel => exact ⟨j + 1, by omega, by go_num, by rw [HSS.out]; exact Lib.hid ((hst.out.on HB2.out (HW2.out.trans ((Below.refl w2.heap.size w2).drew.mono HW2.out.size))).trans (H4.out.sub fun g hg => .inl hg)), Lib.hid fun g hg => (HK4.out g (.inl hg) (by rcases hg with hg | hg; exact hg.elim; exact Nat.lt_of_lt_of_le hg.2 (Nat.le_trans hst.out.off.size HW2.out.size))).trans ((HW2.out.block g (by rcases hg with hg | hg; exact hg.elim; exact Nat.lt_of_lt_of_le hg.2 hst.out.off.size)).trans (hkp.out g hg))⟩
      case measure => simp only [intOf]; omega
    · have hlt' : ¬ (j : Int) < (l.length : Int) := by omega
      obtain rfl : j = l.length := by omega
      have HR := Lib.hid (show RR = (⟨e.L, without e.Q (l.take l.length), e.D⟩, A) by rw [SV.out, SL.out])
      have HLI : Hid (Lies Queue.item wr p l) := by
        by_cases h0 : 0 < l.length
        · obtain ⟨b, o, rfl, ha1⟩ := Queue.lies_at HL.out h0
          have hRb : False ∨ w.heap.size ≤ b ∧ b < w1.heap.size := .inr ⟨HGE.out _ rfl, World.block_lt_of_cell? _ _ (ha1 0 _ rfl)⟩
          exact Lib.hid (row_stays HL.out fun a ea => by cases ea; exact hkp.out b hRb)
        · exact Lib.hid (.inl (List.eq_nil_of_length_eq_zero (by omega)))
      clear SV SL SS SN S0
      go_wp2_with (go_at_call 55; (with_reducible refine (c2.out _ _ _ HLI.out).mono ?_); rintro e1 w5 ⟨v, rfl, ht, hb⟩; have HT := Lib.hid ht; have HB5 := Lib.hid hb; clear ht hb c2)
      go_ret
      exact ⟨v, rfl, by rw [HR.out]; exact HT.out, by rw [HR.out]; exact HM0.out.trans ((hst.out.sub fun _ h => h.elim).on HB2.out HB5.out)⟩
end
end Go.Proofs.YtlbpeeelgpjciaaGreat.Edge

namespace Go.Proofs.YtlbpeeelgpjciaaGreat.Edge
open Go.RowKit
open _root_.Go.Proofs.YtlbpeeelgpjciaaGreat.Codec (lt_of_heap frozen_of heap_set below_new)
open _root_.Go.Proofs.YtlbpeeelgpjciaaGreat.Kit (Enc Lies At Kept Laid Off cell_on lt_heap take_snoc below_drewN own_keep box5)
open _root_.Go.Proofs.YtlbpeeelgpjciaaGreat.Lease (Lz Num spend)
open _root_.Go.Proofs.YtlbpeeelgpjciaaGreat.Queue (It take)
open _root_.Go.Proofs.YtlbpeeelgpjciaaGreat.Demand (Nt)

theorem laidR : Laid Tryz.prog pair 82 22 := ⟨Tryz.underlying22, .agg #[.int .i64 0, .int .i64 0], 16, by kernel_rfl, rfl, by decide⟩
theorem eq_nilR (w : World) (a : Option Addr) (n c n' c' : Nat) : (binOp .eql 22 (.slice a n c) (.slice none n' c')).run Tryz.prog w = .ok (.bool a.isNone) w := Lib.run_eql_slice_nil w _ _ a n c n' c' Tryz.underlying22
set_option maxRecDepth 100000 in
set_option maxHeartbeats 1000000 in
theorem clone_rates {l : List (Int × Int)} {p : Option Addr} {d : Nat} {w : World} (h : Lies pair w p l) (hl : l.length ≤ 1000) :
    Calls Tryz.prog 28 #[.slice p l.length d] w fun e w' => ∃ y, e = .returned y ∧ Kit.Own pair 82 w.heap.size w' y l ∧ Below w.heap.size w w' := by
  have HL := Lib.hid h
  have hq := fun (w : World) a n c n' c' => eq_nilR w a n c n' c'
  clear h
  cases p with
  | none =>
    have hl0 := HL.out.resolve_right (fun ⟨b, o, e, _⟩ => by cases e)
    subst hl0
    go_enter Tryz.func28, Tryz.ntmps28
    go_wp2
    go_ret
    exact ⟨_, rfl, Kit.Own.none _ _ _ _, Below.refl _ _⟩
  | some a =>
    have OM := Lib.hid (Kit.own_made (E := pair) (T := 82) w w.heap.size (Nat.le_refl _))
    have HB := Lib.hid (lay w (.cells #[] 82))
    have LX := Lib.hid (HL.out.below HB.out)
    go_enter Tryz.func28, Tryz.ntmps28
    go_wp2_with (at_builtin; refine Kit.pushes laidR rfl _ _ rfl w _ _ rfl [] 0 rfl OM.out HB.out (Below.refl _ _) l l.length d (some a) rfl rfl LX.out (fun e => nomatch e) (by omega) ?_; intro p4 c4 w4 R4 B4; have R5 := Lib.hid (show Kit.Own pair 82 w.heap.size w4 (.slice p4 l.length c4) l from by (have := R4.out; rw [Nat.zero_add] at this; exact this)); have B5 := Lib.hid B4; clear R4 B4)
    go_ret
    exact ⟨_, rfl, R5.out, B5.out⟩

/-! The parts, new. -/
section
variable {R : Nat → Prop} {B B' q qw qq qd : Nat} {w w' u u' : World} {y : Value} {c : Cf} {e e' e2 : Eg}
theorem pw_low {L : List Lz} (h : Lease.Pm B' w qw L) (hB : B ≤ B') : Lease.Pm B w qw L := by
  obtain ⟨h0, m, h1, h2⟩ := h
  refine ⟨Nat.le_trans hB h0, m, h1, ?_⟩
  rcases h2 with h2 | ⟨b, D, e, hb, ho, hi⟩
  · exact .inl h2
  · exact .inr ⟨b, D, e, Nat.le_trans hB hb, ho, hi⟩
theorem pd_low {D : List Nt} (h : Demand.Pm B' w qd D) (hB : B ≤ B') : Demand.Pm B w qd D := by
  obtain ⟨h0, m, h1, h2⟩ := h
  refine ⟨Nat.le_trans hB h0, m, h1, ?_⟩
  rcases h2 with h2 | ⟨b, D, e, hb, ho, hi⟩
  · exact .inl h2
  · exact .inr ⟨b, D, e, Nat.le_trans hB hb, ho, hi⟩
theorem pq_low {F : Nat → Prop} {room : Int} {l : List It} (h : Queue.Pq F B' w qq room l) (hB : B ≤ B') : Queue.Pq F B w qq room l := by
  obtain ⟨y, hy⟩ := h
  exact ⟨y, Nat.le_trans hB hy.ge, hy.nf, hy.blk, Kit.Own.lower hy.own hB, hy.nfy, hy.fl⟩
theorem holds_w {L : List Lz} {b : Nat} (h : Lease.Pm B w qw L) (hb : holds w qw b) : B ≤ b ∧ b < w.heap.size := by
  obtain ⟨m, hc, -, hm⟩ := h.cell
  unfold holds at hb
  rw [hc] at hb
  simp only [Option.some.injEq, Value.map.injEq] at hb
  subst hb
  obtain ⟨es, cl, hx⟩ := hm.map_at
  rcases hm with ⟨e, -⟩ | ⟨b', D, e, hB, -⟩
  · cases e
  · cases e
    exact ⟨hB, lt_of_heap hx⟩
theorem holds_d {D : List Nt} {b : Nat} (h : Demand.Pm B w qd D) (hb : holds w qd b) : B ≤ b ∧ b < w.heap.size := by
  obtain ⟨m, hc, -, hm⟩ := h.cell
  unfold holds at hb
  rw [hc] at hb
  simp only [Option.some.injEq, Value.map.injEq] at hb
  subst hb
  obtain ⟨es, cl, hx⟩ := hm.map_at
  rcases hm with ⟨e, -⟩ | ⟨b', D, e, hB, -⟩
  · cases e
  · cases e
    exact ⟨hB, lt_of_heap hx⟩
/-- Nothing turns but the edge's own block. -/
structure Only (q : Nat) (w w' : World) : Prop where
  size : w.heap.size ≤ w'.heap.size
  rest : ∀ g, g ≠ q → g < w.heap.size → w'.heap[g]? = w.heap[g]?
theorem Only.trans (h : Only q w w') (k : Only q w' u) : Only q w u := ⟨Nat.le_trans h.size k.size, fun g hn hg => (k.rest g hn (Nat.lt_of_lt_of_le hg h.size)).trans (h.rest g hn hg)⟩
theorem Only.below (hb : Below w.heap.size w w') : Only q w w' := ⟨hb.size, fun g _ hg => hb.block g hg⟩
theorem Only.set (i : Nat) (v : Value) : Only q w (w.setCell ⟨q, i, none⟩ v) := ⟨by simp, fun g hn _ => Below.heap_setCell _ _ _ _ hn⟩
/-- The edge's block, of any pointers. -/
def ecs (a0 : Value) (c : Cf) (y a10 a11 : Value) : Array Value := #[a0, .int .i64 c.n, .int .i64 c.sk, .int .i64 c.tl, .int .i64 c.va, .int .i64 c.lo, .int .i64 c.he, .int .i64 c.ke, .int .i64 c.qu, y, a10, a11]
theorem Only.keep {cs : Array Value} (h : Only q w w') (hq : w.heap[q]? = some (.cells cs 91 (0, 0))) {T : TypeId} (hT : T ≠ 91) : KeepC T w w' := fun g cs' z hg => by
  refine (h.rest g ?_ (lt_of_heap hg)).trans hg
  rintro rfl
  rw [hq] at hg
  simp only [Option.some.injEq, Obj.cells.injEq] at hg
  exact hT hg.2.1.symm
theorem ecs_cell {a0 a10 a11 : Value} {i : Nat} {v : Value} (hk : w.heap[q]? = some (.cells (ecs a0 c y a10 a11) 91 (0, 0))) (hv : (ecs a0 c y a10 a11)[i]? = some v) : w.cell? ⟨q, i, none⟩ = some v ∧ w.frozen? ⟨q, i, none⟩ = false :=
  ⟨by rw [cell_of_row w q i _ _ (0, 0) hk, hv], frozen_of hk⟩
set_option maxRecDepth 100000 in
set_option maxHeartbeats 4000000 in
theorem forget_any (P : Queue.Way12 Queue.Pq) {a0 a10 a11 : Value} (hk : w.heap[q]? = some (.cells (ecs a0 c y a10 a11) 91 (0, 0))) (hq0 : B ≤ q) (hB : B ≤ w.heap.size) (hr : Kit.Own pair 82 B w y c.zs) (h0 : 0 ≤ c.qu) (h1 : c.qu ≤ 16) :
    Calls Tryz.prog 29 #[.pointer (some ⟨q, 0, none⟩)] w fun x w' => x = .returned (.tuple #[]) ∧ (∃ qw qq qd, In (fun _ => False) B w' q y qw qq qd c e0) ∧ Only q w w' ∧ Below B w w' := by
  have c1 := Lease.new_any w
  have HD := Lib.hid (fun u => Demand.new_any u)
  have HQ := Lib.hid (fun u => P.new c.qu u h0 h1)
  have HK := Lib.hid hk
  have HQL := Lib.hid (lt_of_heap hk)
  clear hk
  go_enter Tryz.func29, Tryz.ntmps29
  go_wp2_with (first
    | (go_at_call 65; (with_reducible refine c1.mono ?_); rintro e1 w1 ⟨qw, rfl, hw, hb⟩; have HW1 := Lib.hid hw; have HB1 := Lib.hid hb; have HK1 := Lib.hid ((hb.block q HQL.out).trans HK.out); obtain ⟨x0, f0⟩ := ecs_cell HK1.out (i := 0) (v := a0) rfl; clear hw hb c1)
    | (go_at_call 66; (with_reducible refine (HD.out _).mono ?_); rintro e1 w2 ⟨qd, rfl, hd, hb⟩; have HD2 := Lib.hid hd; have HB2 := Lib.hid hb; have HK2 := Lib.hid (show w2.heap[q]? = some (.cells (ecs (.pointer (some ⟨qw, 0, none⟩)) c y a10 a11) 91 (0, 0)) from (hb.block q (lt_heap (heap_set q 0 _ (.pointer (some ⟨qw, 0, none⟩)) HK1.out))).trans (heap_set q 0 _ (.pointer (some ⟨qw, 0, none⟩)) HK1.out)); obtain ⟨x11, f11⟩ := ecs_cell HK2.out (i := 11) (v := a11) rfl; obtain ⟨x8, -⟩ := ecs_cell HK2.out (i := 8) (v := .int .i64 c.qu) rfl; clear hd hb HD)
    | (go_at_call 67; (with_reducible refine (HQ.out _).mono ?_); rintro e1 w3 ⟨qq, rfl, hqu, hb⟩; have HQ3 := Lib.hid hqu; have HB3 := Lib.hid hb; have HK3 := Lib.hid (show w3.heap[q]? = some (.cells (ecs (.pointer (some ⟨qw, 0, none⟩)) c y a10 (.pointer (some ⟨qd, 0, none⟩))) 91 (0, 0)) from (hb.block q (lt_heap (heap_set q 11 _ (.pointer (some ⟨qd, 0, none⟩)) HK2.out))).trans (heap_set q 11 _ (.pointer (some ⟨qd, 0, none⟩)) HK2.out)); obtain ⟨x10, f10⟩ := ecs_cell HK3.out (i := 10) (v := a10) rfl; clear hqu hb HQ))
  go_end0
  have KF : (w3.setCell ⟨q, 10, none⟩ (.pointer (some ⟨qq, 0, none⟩))).heap[q]? = some (.cells (ecells qw c y qq qd) 91 (0, 0)) := heap_set q 10 _ _ HK3.out
  have O3 : Only q w3 (w3.setCell ⟨q, 10, none⟩ (.pointer (some ⟨qq, 0, none⟩))) := Only.set _ _
  have O2 : Only q w2 (w3.setCell ⟨q, 10, none⟩ (.pointer (some ⟨qq, 0, none⟩))) := ((Only.set 11 (.pointer (some ⟨qd, 0, none⟩))).trans (Only.below HB3.out)).trans O3
  have O1 : Only q w1 (w3.setCell ⟨q, 10, none⟩ (.pointer (some ⟨qq, 0, none⟩))) := ((Only.set 0 (.pointer (some ⟨qw, 0, none⟩))).trans (Only.below HB2.out)).trans O2
  have O0 : Only q w (w3.setCell ⟨q, 10, none⟩ (.pointer (some ⟨qq, 0, none⟩))) := (Only.below HB1.out).trans O1
  have z1 : w.heap.size ≤ w1.heap.size := HB1.out.size
  have z2 : w1.heap.size ≤ w2.heap.size := by have := HB2.out.size; simpa using this
  have z3 : w2.heap.size ≤ w3.heap.size := by have := HB3.out.size; simpa using this
  have hBW : Below B w (w3.setCell ⟨q, 10, none⟩ (.pointer (some ⟨qq, 0, none⟩))) := by
    have b1 : Below B w w1 := HB1.out.mono hB
    have b2 : Below B w w2 := (b1.setCell (p := ⟨q, 0, none⟩) hq0 (.pointer (some ⟨qw, 0, none⟩))).trans (HB2.out.mono (by simp; omega))
    have b3 : Below B w w3 := (b2.setCell (p := ⟨q, 11, none⟩) hq0 (.pointer (some ⟨qd, 0, none⟩))).trans (HB3.out.mono (by simp; omega))
    exact b3.setCell (p := ⟨q, 10, none⟩) hq0 _
  generalize w3.setCell ⟨q, 10, none⟩ (.pointer (some ⟨qq, 0, none⟩)) = wF at *
  have nm : ∀ {W : World} {cs : Array Value} {b : Nat} {es : _} {cl : _}, W.heap[q]? = some (.cells cs 91 (0, 0)) → W.heap[b]? = some (.map es cl) → b ≠ q := by
    rintro W cs b es cl h1 h2 rfl
    rw [h1] at h2
    cases h2
  have hw1 := HW1.out
  have hd2 := HD2.out
  refine ⟨rfl, ⟨qw, qq, qd, ⟨hq0, KF, rt_stays hr (O0.keep HK.out (by decide)), pw_stays (pw_low hw1 hB) (O1.keep HK1.out (by decide)) (fun b es cl _ hm => (O1.rest b (nm HK1.out hm) (lt_of_heap hm)).trans hm),
    pq_stays (pq_low (P.sub HQ3.out (fun g hg => hg.elim)) (by simp; omega)) O3.size (O3.keep HK3.out (by decide)) (O3.keep HK3.out (by decide)), pd_stays (pd_low hd2 (by simp; omega)) (O2.keep HK2.out (by decide)) (fun b es cl _ hm => (O2.rest b (nm HK2.out hm) (lt_of_heap hm)).trans hm), fun b ha hb => ?_⟩⟩, O0, hBW⟩
  have a1 : holds w1 qw b := by
    obtain ⟨_, m, g1, _⟩ := hw1
    unfold holds at ha ⊢
    rwa [World.cell?_of_block (a := ⟨qw, 0, none⟩) ((O1.keep HK1.out (by decide) _ _ _ g1).trans g1.symm)] at ha
  have a2 : holds w2 qd b := by
    obtain ⟨_, m, g1, _⟩ := hd2
    unfold holds at hb ⊢
    rwa [World.cell?_of_block (a := ⟨qd, 0, none⟩) ((O2.keep HK2.out (by decide) _ _ _ g1).trans g1.symm)] at hb
  have := (holds_w hw1 a1).2
  have := (holds_d hd2 a2).1
  simp at this
  omega
/-- The program's edge. -/
def Pe : Pw := fun B w q c e => ((0 ≤ c.qu ∧ c.qu ≤ 16) ∧ ∀ x ∈ e.D, Num x.key) ∧ ∃ y qw qq qd, In (fun _ => False) B w q y qw qq qd c e
theorem Moves.pe (h : Moves (fun _ => False) B w q y qw qq qd c e' w') (hc : (0 ≤ c.qu ∧ c.qu ≤ 16) ∧ ∀ x ∈ e'.D, Num x.key) : Moved Pe B w q c e' w' := h.moved fun hi => ⟨hc, y, qw, qq, qd, hi⟩
theorem Only.off {cs : Array Value} (h : Only q w w') (hq : w.heap[q]? = some (.cells cs 91 (0, 0))) : Off mine w w' :=
  ⟨h.size, fun g cs' T z hg ht => h.keep hq (by rintro rfl; simp [mine] at ht) g cs' z hg⟩
set_option maxRecDepth 100000 in
set_option maxHeartbeats 4000000 in
theorem pcrash_any (P : Queue.Way12 Queue.Pq) (h : In (fun _ => False) B w q y qw qq qd c e) (hB : B ≤ w.heap.size) (hf : Lens e) (hc : 0 ≤ c.qu ∧ c.qu ≤ 16) :
    Calls Tryz.prog 24 #[.pointer (some ⟨q, 0, none⟩)] w fun x w' => ∃ v, x = .returned v ∧ Says w' v (crash e).2 ∧ Moved Pe B w q c (crash e).1 w' := by
  have c1 := Queue.pall_any h.qu hf.2.1
  have HA := Lib.hid (fun u p k (hl : Lies Queue.item u p e.Q) => answered_any (d := k) hl (by have := hf.2.1; omega) 8)
  have HF := Lib.hid (fun u (hu : Below w.heap.size w u) => forget_any P (h.below hu).blk h.ge (Nat.le_trans hB hu.size) (h.below hu).rt hc.1 hc.2)
  have HI := Lib.hid (fun u (hu : Below w.heap.size w u) => Moves.same h hB hu)
  have s10 := h.sees.k10
  have HBB := Lib.hid hB
  rw [show crash e = (e0, all e.Q 8) from rfl]
  generalize all e.Q 8 = A at *
  clear h hf P
  go_enter Tryz.func24, Tryz.ntmps24
  go_wp2_with (first
    | (go_at_call 38; (with_reducible refine c1.mono ?_); rintro e1 w1 ⟨y1, rfl, ho, hb⟩; obtain ⟨p1, d1, rfl, hl1⟩ := Kit.Own.lies ho; have HL1 := Lib.hid hl1; have HB1 := Lib.hid hb; clear ho hb hl1 c1)
    | (go_at_call 55; (with_reducible refine (HA.out _ _ _ HL1.out).mono ?_); rintro e1 w2 ⟨v, rfl, ht, hb⟩; have HT := Lib.hid ht; have HB2 := Lib.hid (HB1.out.trans (hb.mono HB1.out.size)); clear ht hb HA)
    | (go_at_call 29; (with_reducible refine (HF.out _ HB2.out).mono ?_); rintro e1 w3 ⟨rfl, hin, hon, hb⟩; have HN := Lib.hid hin; have HO := Lib.hid (hon.off (HI.out _ HB2.out).inn.blk); have HB3 := Lib.hid hb; clear hin hon hb HF))
  go_ret
  obtain ⟨qw', qq', qd', hin⟩ := HN.out
  exact ⟨v, rfl, HT.out.off HO.out, ⟨⟨hc, fun x hx => by cases hx⟩, y, qw', qq', qd', hin⟩, (HI.out _ HB2.out).off.trans HO.out, (HI.out _ HB2.out).below.trans HB3.out⟩
end
end Go.Proofs.YtlbpeeelgpjciaaGreat.Edge

namespace Go.Proofs.YtlbpeeelgpjciaaGreat.Edge
open Go.RowKit
open _root_.Go.Proofs.YtlbpeeelgpjciaaGreat.Codec (lt_of_heap frozen_of heap_set below_new)
open _root_.Go.Proofs.YtlbpeeelgpjciaaGreat.Kit (Enc Lies At Kept Laid Off cell_on lt_heap take_snoc below_drewN own_keep box5)

theorem rates_lie {B : Nat} {w : World} {p : Option Addr} {zs : List (Int × Int)} (h : RatesB B w p zs) : Lies pair w p zs := by
  rcases h with h | ⟨b, o, e, -, hc⟩
  · exact .inl h
  · refine .inr ⟨b, o, e, fun j hj k u hu => ?_⟩
    match k, hu with
    | 0, hu =>
      simp only [pair, List.getElem?_cons_zero, Option.some.injEq] at hu
      subst hu
      exact (hc j hj).1
    | 1, hu =>
      simp only [pair, List.getElem?_cons_succ, List.getElem?_cons_zero, Option.some.injEq] at hu
      subst hu
      exact (hc j hj).2
/-- The nine cells of a configuration's box. -/
def nines (c : Cf) (y : Value) : Array Value := #[.int .i64 c.n, .int .i64 c.sk, .int .i64 c.tl, .int .i64 c.va, .int .i64 c.lo, .int .i64 c.he, .int .i64 c.ke, .int .i64 c.qu, y]
theorem nine_cells {w : World} {g : Nat} {c : Cf} {y : Value} {T : TypeId} (h : w.heap[g]? = some (.cells (nines c y) T (0, 0))) :
    w.cell? ⟨g, 0, none⟩ = some (.int .i64 c.n) ∧ w.cell? ⟨g, 1, none⟩ = some (.int .i64 c.sk) ∧ w.cell? ⟨g, 2, none⟩ = some (.int .i64 c.tl) ∧ w.cell? ⟨g, 3, none⟩ = some (.int .i64 c.va) ∧ w.cell? ⟨g, 4, none⟩ = some (.int .i64 c.lo) ∧ w.cell? ⟨g, 5, none⟩ = some (.int .i64 c.he) ∧
      w.cell? ⟨g, 6, none⟩ = some (.int .i64 c.ke) ∧ w.cell? ⟨g, 7, none⟩ = some (.int .i64 c.qu) ∧ w.cell? ⟨g, 8, none⟩ = some y ∧ w.frozen? ⟨g, 8, none⟩ = false := by
  have hc : ∀ i v, (nines c y)[i]? = some v → w.cell? ⟨g, i, none⟩ = some v := fun i v hv => by rw [cell_of_row w g i _ _ (0, 0) h, hv]
  exact ⟨hc 0 _ rfl, hc 1 _ rfl, hc 2 _ rfl, hc 3 _ rfl, hc 4 _ rfl, hc 5 _ rfl, hc 6 _ rfl, hc 7 _ rfl, hc 8 _ rfl, frozen_of h⟩
theorem new3 {w w1 w2 : World} {c : Cf} {v y : Value} (hO : Kit.Own pair 82 w1.heap.size w2 y c.zs) (h1 : w.heap.size < w1.heap.size) (hb : Below w.heap.size w w2) :
    ((w2.setCell ⟨w.heap.size, 8, none⟩ v).alloc (.cells (ecs (.pointer none) c y (.pointer none) (.pointer none)) 91)).heap[w2.heap.size]? = some (.cells (ecs (.pointer none) c y (.pointer none) (.pointer none)) 91 (0, 0)) ∧
      Kit.Own pair 82 w.heap.size ((w2.setCell ⟨w.heap.size, 8, none⟩ v).alloc (.cells (ecs (.pointer none) c y (.pointer none) (.pointer none)) 91)) y c.zs ∧
      Below w.heap.size w ((w2.setCell ⟨w.heap.size, 8, none⟩ v).alloc (.cells (ecs (.pointer none) c y (.pointer none) (.pointer none)) 91)) ∧ w.heap.size ≤ w2.heap.size := by
  have k := heap_alloc_new (w2.setCell ⟨w.heap.size, 8, none⟩ v) (.cells (ecs (.pointer none) c y (.pointer none) (.pointer none)) 91)
  rw [show (w2.setCell ⟨w.heap.size, 8, none⟩ v).heap.size = w2.heap.size by simp] at k
  have hs := hb.size
  exact ⟨k, Kit.Own.lower (Kit.Own.on (Kit.Own.set hO h1) (lay _ _)) (Nat.le_of_lt h1), (hb.setCell (p := ⟨w.heap.size, 8, none⟩) (Nat.le_refl _) v).alloc (by simpa using hs) _, hs⟩
set_option maxRecDepth 100000 in
set_option maxHeartbeats 8000000 in
theorem pnew_any (P : Queue.Way12 Queue.Pq) {c : Cf} {p : Option Addr} {k : Nat} {w : World} (hr : RatesB w.heap.size w p c.zs) (hl : c.zs.length ≤ 100) :
    Calls Tryz.prog 6 #[c.val p k] w fun x w' => Below w.heap.size w w' ∧ ((c.check ≠ 0 ∧ x = .returned (.tuple #[.pointer none, .int .i64 c.check])) ∨ (c.check = 0 ∧ ∃ q, x = .returned (.tuple #[.pointer (some ⟨q, 0, none⟩), .int .i64 0]) ∧ Pe w.heap.size w' q c e0)) := by
  have HB0 := Lib.hid (lay w (.cells (nines c (.slice p c.zs.length k)) 24))
  have HK0 := Lib.hid (heap_alloc_new w (.cells (nines c (.slice p c.zs.length k)) 24))
  have HC := Lib.hid (fun u (hu : Below w.heap.size w u) => Conf.check_any c.n c.sk c.tl c.va c.lo c.he c.ke c.qu p c.zs k u hl (hr.on hu).rates)
  have HCL := Lib.hid (fun u (hu : Below w.heap.size w u) => clone_rates (d := k) (rates_lie (hr.on hu)) (by omega))
  have HFG := Lib.hid (fun u q y a0 a10 a11 (hk : u.heap[q]? = some (.cells (ecs a0 c y a10 a11) 91 (0, 0))) (hq : w.heap.size ≤ q) (hu : w.heap.size ≤ u.heap.size) (ho : Kit.Own pair 82 w.heap.size u y c.zs) (h0 : 0 ≤ c.qu ∧ c.qu ≤ 16) => forget_any P hk hq hu ho h0.1 h0.2)
  have HRM := Lib.hid (fun (h : c.check = 0) => check_room h)
  have hcheck : c.check = Conf.check c.n c.sk c.tl c.va c.lo c.he c.ke c.qu c.zs := rfl
  rw [← hcheck] at HC
  generalize c.check = ck at *
  simp only [nines] at HB0
  clear hcheck hr hl P
  obtain ⟨b0, b1, b2, b3, b4, b5, b6, b7, b8, f8⟩ := nine_cells HK0.out
  have HNC := Lib.hid (fun (u : World) (hu : u.heap[w.heap.size]? = some (.cells (nines c (.slice p c.zs.length k)) 24 (0, 0))) => nine_cells hu)
  rcases Decidable.em (ck = 0) with h0 | h0
  · subst h0
    unfold Cf.val
    go_enter Tryz.func6, Tryz.ntmps6
    go_wp2_with (first
      | (go_at_call 27; (with_reducible refine (HC.out _ HB0.out).mono ?_); rintro e1 w1 ⟨rfl, hb⟩; have HB1 := Lib.hid (HB0.out.trans (hb.mono HB0.out.size)); have HK1 := Lib.hid ((hb.block _ (lt_heap HK0.out)).trans HK0.out); clear hb b0 b1 b2 b3 b4 b5 b6 b7 b8 f8 HC; obtain ⟨b0, b1, b2, b3, b4, b5, b6, b7, b8, f8⟩ := HNC.out _ HK1.out)
      | (go_at_call 28; (with_reducible refine (HCL.out _ HB1.out).mono ?_); rintro e1 w2 ⟨y2, rfl, ho, hb⟩; obtain ⟨py, ky, rfl, -⟩ := Kit.Own.lies ho; have HB2 := Lib.hid (HB1.out.trans (hb.mono HB1.out.size)); have HK2 := Lib.hid ((hb.block _ (lt_heap HK1.out)).trans HK1.out); have H3 := Lib.hid (new3 (v := .slice py c.zs.length ky) ho (lt_of_heap HK1.out) HB2.out); clear ho hb b0 b1 b2 b3 b4 b5 b6 b7 b8 f8 HCL; obtain ⟨b0, b1, b2, b3, b4, b5, b6, b7, b8, f8⟩ := HNC.out _ HK2.out))
    have c4 := HFG.out _ _ _ _ _ _ H3.out.1 H3.out.2.2.2 H3.out.2.2.1.size H3.out.2.1 (HRM.out trivial)
    simp only [ecs] at c4
    refine c4.mono ?_
    rintro e1 w4 ⟨rfl, ⟨qw, qq, qd, hin⟩, -, hb⟩
    have HN := Lib.hid (show Pe w.heap.size w4 w2.heap.size c e0 from ⟨⟨HRM.out trivial, fun x hx => by cases hx⟩, _, qw, qq, qd, hin⟩)
    have HB4 := Lib.hid (H3.out.2.2.1.trans hb)
    clear hin hb c4
    go_wp2
    refine bodyPost_ret (v := .tuple #[.pointer (some ⟨w2.heap.size, 0, none⟩), .int .i64 0]) (by simp [results, Tryz.results6, go_sem]) rfl ?_
    exact ⟨HB4.out, .inr ⟨trivial, w2.heap.size, rfl, HN.out⟩⟩
  · have h1 : (ck != 0) = true := by simpa using h0
    unfold Cf.val
    go_enter Tryz.func6, Tryz.ntmps6
    go_wp2_with (go_at_call 27; (with_reducible refine (HC.out _ HB0.out).mono ?_); rintro e1 w1 ⟨rfl, hb⟩; have HB1 := Lib.hid (HB0.out.trans (hb.mono HB0.out.size)); clear hb)
    refine bodyPost_ret (v := .tuple #[.pointer none, .int .i64 ck]) (by simp [results, Tryz.results6, go_sem]) rfl ?_
    exact ⟨HB1.out, .inl ⟨h0, rfl⟩⟩
end Go.Proofs.YtlbpeeelgpjciaaGreat.Edge

namespace Go.Proofs.YtlbpeeelgpjciaaGreat.Edge
open Go.RowKit
open _root_.Go.Proofs.YtlbpeeelgpjciaaGreat.Kit (Enc Lies At Kept Laid Off cell_on lt_heap take_snoc below_drewN own_keep box5 ints)

theorem laidN : Laid Tryz.prog ints 3 106 := ⟨Tryz.underlying106, .int .i64 0, 8, by kernel_rfl, rfl, by decide⟩
set_option maxRecDepth 100000 in
set_option maxHeartbeats 2000000 in
theorem grow_some (n : Nat) (h0 : 0 < n) (hn : n ≤ 1000) (w : World) :
    Calls Tryz.prog 104 #[.slice none 0 0, .int .i64 (n : Int)] w fun e w' => ∃ v, e = .returned v ∧ Kit.Own ints 3 w.heap.size w' v [] ∧ Below w.heap.size w w' := by
  obtain ⟨i0, hi, hz0, hz1, hz2⟩ : ∃ i0, (Tryz.prog).info? 3 = some i0 ∧ i0.zero = some (.int .i64 0) ∧ i0.size = 1 ∧ i0.bytes = 8 := by
    obtain ⟨zv, byt, hi0, -, -⟩ := laidN.info
    have h8 : ((Tryz.prog).info? 3).map (fun i => (i.zero, i.size, i.bytes)) = some (some (.int .i64 0), 1, 8) := by kernel_rfl
    obtain ⟨i0, hi, a, b, c⟩ := info_parts h8
    exact ⟨i0, hi, a, b, c⟩
  have hold : (Builtin.firstCells i0.size 0 (.slice none 0 0)).run Tryz.prog w.drew = .ok (([] : List Value).toArray) w.drew := run_firstCells_none w.drew i0.size 0 0 0
  have hrz : ∀ ty, (Builtin.append_ #[106, 3] ty #[.slice none 0 0, .int .i64 (n : Int)]).run Tryz.prog w =
      .ok (.slice (some ⟨w.heap.size, 0, none⟩) n (grownCap w n 0 3)) (w.drew.alloc (.cells (([] : List Value).toArray ++ Builtin.zeroCells (Value.int .i64 0).cells n ++ Builtin.zeroCells (Value.int .i64 0).cells (grownCap w n 0 3 - n)) 3)) := fun ty => by
    have h := Lib.run_append_grow_zeros w 106 3 ty 3 i0 (.int .i64 0) .i64 .i64 Tryz.underlying106 Tryz.underlying3 hi hz0 none 0 0 [] hold n h0 (by omega) (by omega) (by omega) (by rw [hz2]; omega)
      (growslice_fits (by omega) (by rw [hz2]; omega))
    simpa using h
  have hge := grownCap_ge w n 0 3
  have hle := grownCap_le_maxLen w n 0 3 (by unfold maxLen; omega)
  generalize grownCap w n 0 3 = G at *
  have HO := Lib.hid (show Kit.Own ints 3 w.heap.size (w.drew.alloc (.cells (([] : List Value).toArray ++ Builtin.zeroCells (Value.int .i64 0).cells n ++ Builtin.zeroCells (Value.int .i64 0).cells (G - n)) 3)) (.slice (some ⟨w.heap.size, 0, none⟩) 0 G) [] from
    ⟨by simp [Kit.cells], .inr ⟨w.heap.size, G, _, rfl, Nat.le_refl _, heap_alloc_new w.drew _, Nat.zero_le _, hle, by
      simp only [Array.size_append, size_zeroCells, List.size_toArray, List.length_nil, show (Value.int .i64 0).cells.size = 1 from rfl, show ints.n = 1 from rfl]
      omega, by simp [Kit.cells]⟩⟩)
  have HB := Lib.hid (show Below w.heap.size w (w.drew.alloc (.cells (([] : List Value).toArray ++ Builtin.zeroCells (Value.int .i64 0).cells n ++ Builtin.zeroCells (Value.int .i64 0).cells (G - n)) 3)) from ((Below.refl w.heap.size w).drew).alloc (Nat.le_refl _) _)
  generalize w.drew.alloc (.cells (([] : List Value).toArray ++ Builtin.zeroCells (Value.int .i64 0).cells n ++ Builtin.zeroCells (Value.int .i64 0).cells (G - n)) 3) = w1 at *
  have hG : G ≤ 9223372036854775807 := by unfold maxLen at hle; omega
  have h1 : ¬ ((n : Int) < 0) := by omega
  have h4 : (n : Int) > 0 := by omega
  clear hold hi hz0 hz1 hz2 hle
  go_enter Tryz.func104, Tryz.ntmps104
  go_wp2_with (at_builtin; refine Lib.wpList_append_run _ rfl _ _ _ _ rfl _ _ rfl rfl _ _ (hrz _) ?_)
  go_ret
  exact ⟨_, rfl, HO.out, HB.out⟩
theorem grow_none (w : World) :
    Calls Tryz.prog 104 #[.slice none 0 0, .int .i64 0] w fun e w' => ∃ v, e = .returned v ∧ Kit.Own ints 3 w.heap.size w' v [] ∧ Below w.heap.size w w' := by
  go_enter Tryz.func104, Tryz.ntmps104
  go_wp2
  go_ret
  exact ⟨_, rfl, Kit.Own.none _ _ _ _, Below.refl _ _⟩
theorem grow_any (n : Nat) (hn : n ≤ 1000) (w : World) :
    Calls Tryz.prog 104 #[.slice none 0 0, .int .i64 (n : Int)] w fun e w' => ∃ v, e = .returned v ∧ Kit.Own ints 3 w.heap.size w' v [] ∧ Below w.heap.size w w' := by
  by_cases h : n = 0
  · subst h; exact grow_none w
  · exact grow_some n (by omega) hn w
set_option maxRecDepth 100000 in
set_option maxHeartbeats 4000000 in
theorem concat_any {la lb : List Int} {pa pb : Option Addr} {ca cb g : Nat} {w : World} (h0 : w.cell? ⟨g, 0, none⟩ = some (.slice pa la.length ca)) (h1 : w.cell? ⟨g, 1, none⟩ = some (.slice pb lb.length cb))
    (ha : Lies ints w pa la) (hb : Lies ints w pb lb) (na : pa = none → ca = 0) (nb : pb = none → cb = 0) (la' : la.length ≤ 300) (lb' : lb.length ≤ 300) :
    Calls Tryz.prog 49 #[.slice (some ⟨g, 0, none⟩) 2 2] w fun e w' => ∃ v, e = .returned v ∧ Kit.Own ints 3 w.heap.size w' v (la ++ lb) ∧ Below w.heap.size w w' := by
  have HG := Lib.hid (fun u => grow_any (la.length + lb.length) (by omega) u)
  have HA := Lib.hid ha
  have HB := Lib.hid hb
  have NA := Lib.hid na
  have NB := Lib.hid nb
  have H0 := Lib.hid (fun u (hu : Below w.heap.size w u) => cell_on h0 hu)
  have H1 := Lib.hid (fun u (hu : Below w.heap.size w u) => cell_on h1 hu)
  have hs : ¬ ((la.length : Int) < 0) := by omega
  have hs2 : ¬ ((la.length : Int) + (lb.length : Int) < 0) := by omega
  simp only [Int.natCast_add] at HG
  clear ha hb na nb
  go_enter Tryz.func49, Tryz.ntmps49
  go_wp2
  refine wp_loop_rounds 3 ?_
  rw [rounds_succ]
  go_wp2
  rw [rounds_succ]
  go_wp2
  rw [rounds_succ]
  go_wp2_with (go_at_call 104; (with_reducible refine (HG.out _).mono ?_); rintro e1 w1 ⟨v1, rfl, ho, hb⟩; have HO1 := Lib.hid ho; have HB1 := Lib.hid hb; clear ho hb HG)
  have x0 := H0.out _ HB1.out
  have x1 := H1.out _ HB1.out
  have HA1 := Lib.hid (HA.out.below HB1.out)
  have HB1' := Lib.hid (HB.out.below HB1.out)
  clear h0 h1
  refine wp_loop_rounds 3 ?_
  rw [rounds_succ]
  go_wp2_with (at_builtin; refine Kit.pushes laidN rfl _ _ rfl w w1 v1 rfl [] 0 rfl HO1.out HB1.out (Below.refl _ _) la la.length ca pa rfl rfl HA1.out NA.out (by omega) ?_; intro p2 c2 w2 R2 B2)
  have x1' := H1.out _ B2
  have HB2' := Lib.hid (HB.out.below B2)
  have HBW := Lib.hid B2
  rw [Nat.zero_add, List.nil_append] at R2
  clear x0 x1 HA1 HO1 HB1'
  rw [rounds_succ]
  go_wp2_with (at_builtin; refine Kit.pushes laidN rfl _ _ rfl w w2 _ rfl la la.length rfl R2.out HBW.out (Below.refl _ _) lb lb.length cb pb rfl rfl HB2'.out NB.out (by omega) ?_; intro p3 c3 w3 R3 B3)
  rw [rounds_succ]
  go_wp2
  go_ret
  exact ⟨_, rfl, R3.out, B3⟩
end Go.Proofs.YtlbpeeelgpjciaaGreat.Edge
