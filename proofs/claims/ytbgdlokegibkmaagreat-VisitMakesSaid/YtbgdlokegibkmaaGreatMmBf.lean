/-
  slices.SortStableFunc at items, of at most 16 of them, by a comparison of their classes: the items of class 0, then 1, then 2, in each as they stood; the program's Of, First, Sum.
  The program's First and Sum, of any queue of up to 16 items, and of none; Of, Expire of none.
-/
import Derived.Shelf.SlSortCmp.InsertionK
import Derived.Sort.LotA
import Derived.Test.YtbgdlokegibkmaaGreatMmAl
import Derived.Test.YtbgdlokegibkmaaGreatShelf
import Derived.Test.YtbgdlokegibkmaaGreatMmAb
namespace Go.Proofs.YtbgdlokegibkmaaGreat.Queue
open Go.RowKit Go.Shelf Go.Sort
open _root_.Go.Proofs.YtbgdlokegibkmaaGreat.Codec (lt_of_heap frozen_of heap_set own_below)
open _root_.Go.Proofs.YtbgdlokegibkmaaGreat.Kit (Enc Lies Own At Kept Laid Off cell_on lt_heap take_snoc below_drewN box5 ints own_keep own_lt cells)
instance : Inhabited It := ⟨z⟩
/-! The plain side. -/
def byCls (x y : It) : Int := if x.cls < y.cls then -1 else if y.cls < x.cls then 1 else 0
theorem byCls_lt (x y : It) : Go.Proofs.ltOf byCls x y = decide (x.cls < y.cls) := by
  unfold Go.Proofs.ltOf byCls
  by_cases h1 : x.cls < y.cls
  · simp [h1]
  · by_cases h2 : y.cls < x.cls <;> simp [h1, h2]
theorem byCls_swo : SWO (Go.Proofs.ltOf byCls) where
  irrefl x := by rw [byCls_lt]; simp
  trans x y z h1 h2 := by rw [byCls_lt] at *; simp at *; omega
  ntrans x y z h1 h2 := by rw [byCls_lt] at *; simp at *; omega
def isCls (c : Int) (x : It) : Bool := x.cls == c
/-- Two neighbours of different classes change places: of each class, nothing has turned. -/
theorem filter_swp {d : Array It} {j : Nat} (hj : j + 1 < d.size) (hne : d[j + 1]!.cls ≠ d[j]!.cls) (c : Int) : (swp d (j + 1) j).toList.filter (isCls c) = d.toList.filter (isCls c) := by
  have e : d.toList = d.toList.take j ++ [d[j]!, d[j + 1]!] ++ d.toList.drop (j + 2) := by
    apply List.ext_getElem?
    intro i
    have h1 : j < d.toList.length := by simp; omega
    have hl : (d.toList.take j).length = j := by simp; omega
    rcases Nat.lt_trichotomy i j with h | h | h
    · rw [List.append_assoc, List.getElem?_append_left (by omega), List.getElem?_take_of_lt h]
    · subst h
      rw [List.append_assoc, List.getElem?_append_right (by omega), hl, Nat.sub_self]
      simp [getElem!_pos d i (by omega)]
    · by_cases h2 : i = j + 1
      · subst h2
        rw [List.append_assoc, List.getElem?_append_right (by omega), hl]
        simp [getElem!_pos d (j + 1) hj]
      · rw [List.getElem?_append_right (by simp; omega)]
        simp only [List.length_append, hl, List.length_cons, List.length_nil, List.getElem?_drop]
        congr 1
        omega
  have e2 : (swp d (j + 1) j).toList = d.toList.take j ++ [d[j + 1]!, d[j]!] ++ d.toList.drop (j + 2) := by
    apply List.ext_getElem?
    intro i
    have hl : (d.toList.take j).length = j := by simp; omega
    unfold swp
    rw [Array.toList_setIfInBounds, Array.toList_setIfInBounds]
    rcases Nat.lt_trichotomy i j with h | h | h
    · rw [List.append_assoc, List.getElem?_append_left (by omega), List.getElem?_take_of_lt h, List.getElem?_set_ne (by omega), List.getElem?_set_ne (by omega)]
    · subst h
      rw [List.append_assoc, List.getElem?_append_right (by omega), hl, Nat.sub_self, List.getElem?_set_self (by simp; omega)]
      rfl
    · by_cases h2 : i = j + 1
      · subst h2
        rw [List.append_assoc, List.getElem?_append_right (by omega), hl, List.getElem?_set_ne (by omega), List.getElem?_set_self (by simpa using hj)]
        simp
      · rw [List.getElem?_append_right (by simp; omega), List.getElem?_set_ne (by omega), List.getElem?_set_ne (by omega)]
        simp only [List.length_append, hl, List.length_cons, List.length_nil, List.getElem?_drop]
        congr 1
        omega
  rw [e2]
  conv => rhs; rw [e]
  simp only [List.filter_append]
  congr 2
  generalize d[j]! = a at *
  generalize d[j + 1]! = b at *
  simp only [List.filter_cons, List.filter_nil]
  by_cases ha : a.cls = c
  · have hb : b.cls ≠ c := by omega
    simp [isCls, ha, hb]
  · simp [isCls, ha]
theorem filter_inner (c : Int) (a : Nat) : ∀ (j : Nat) (d : Array It), j < d.size → (insInner (Go.Proofs.ltOf byCls) a j d).toList.filter (isCls c) = d.toList.filter (isCls c)
  | 0, d, _ => rfl
  | j + 1, d, h => by
    unfold insInner
    split
    · rename_i hc
      simp only [Bool.and_eq_true, byCls_lt, decide_eq_true_eq] at hc
      rw [filter_inner c a j _ (by rw [swp_size]; omega), filter_swp h (by omega)]
    · rfl
theorem inner_size (a : Nat) : ∀ (j : Nat) (d : Array It), (insInner (Go.Proofs.ltOf byCls) a j d).size = d.size
  | 0, d => rfl
  | j + 1, d => by
    unfold insInner
    split
    · rw [inner_size a j, swp_size]
    · rfl
theorem filter_outer (c : Int) (a b : Nat) : ∀ (n i : Nat) (d : Array It), b - i = n → b ≤ d.size → (insOuter (Go.Proofs.ltOf byCls) a b i d).toList.filter (isCls c) = d.toList.filter (isCls c)
  | 0, i, d, hn, _ => by rw [insOuter, if_neg (by omega)]
  | n + 1, i, d, hn, hb => by
    rw [insOuter, if_pos (by omega), filter_outer c a b n (i + 1) _ (by omega) (by rw [inner_size]; exact hb), filter_inner c a i d (by omega)]
/-- A list that rises by classes from 0 to 2. -/
theorem by_classes : ∀ (l : List It), (l.Pairwise fun a b => a.cls ≤ b.cls) → (∀ x ∈ l, 0 ≤ x.cls ∧ x.cls ≤ 2) → l = l.filter (isCls 0) ++ l.filter (isCls 1) ++ l.filter (isCls 2)
  | [], _, _ => rfl
  | x :: l, h, hc => by
    obtain ⟨h1, h2⟩ := List.pairwise_cons.1 h
    have ih := by_classes l h2 (fun y hy => hc y (by simp [hy]))
    have hx := hc x (by simp)
    have none : ∀ c : Int, c < x.cls → l.filter (isCls c) = [] := fun c hlt => List.filter_eq_nil_iff.2 fun y hy => by
      have := h1 y hy
      simp only [isCls, beq_iff_eq]
      omega
    have hcase : x.cls = 0 ∨ x.cls = 1 ∨ x.cls = 2 := by omega
    rcases hcase with e | e | e
    · have f0 : isCls 0 x = true := by simp [isCls, e]
      have f1 : isCls 1 x = false := by simp [isCls, e]
      have f2 : isCls 2 x = false := by simp [isCls, e]
      simp only [List.filter_cons, f0, f1, f2, Bool.false_eq_true, if_false, if_true, List.cons_append]
      exact congrArg (x :: ·) ih
    · have n0 := none 0 (by omega)
      rw [n0] at ih
      have f0 : isCls 0 x = false := by simp [isCls, e]
      have f1 : isCls 1 x = true := by simp [isCls, e]
      have f2 : isCls 2 x = false := by simp [isCls, e]
      simp only [List.filter_cons, f0, f1, f2, Bool.false_eq_true, if_false, if_true, n0, List.nil_append, List.cons_append] at ih ⊢
      exact congrArg (x :: ·) ih
    · have n0 := none 0 (by omega)
      have n1 := none 1 (by omega)
      rw [n0, n1] at ih
      have f0 : isCls 0 x = false := by simp [isCls, e]
      have f1 : isCls 1 x = false := by simp [isCls, e]
      have f2 : isCls 2 x = true := by simp [isCls, e]
      simp only [List.filter_cons, f0, f1, f2, Bool.false_eq_true, if_false, if_true, n0, n1, List.nil_append] at ih ⊢
      exact congrArg (x :: ·) ih
/-- What the sort leaves, of items of one key. -/
theorem sorted_of {l : List It} (key : Int) (hc : ∀ x ∈ l, 0 ≤ x.cls ∧ x.cls ≤ 2) : (insertionSort (Go.Proofs.ltOf byCls) (l.filter fun x => x.key == key).toArray 0 (l.filter fun x => x.key == key).length).toList = of l key := by
  generalize hm : (l.filter fun x => x.key == key) = m
  have hmc : ∀ x ∈ m, 0 ≤ x.cls ∧ x.cls ≤ 2 := fun x hx => hc x (by rw [← hm] at hx; exact (List.mem_filter.1 hx).1)
  obtain ⟨⟨hs, -, hperm⟩, hsort⟩ := insertionSort_holds (lt := Go.Proofs.ltOf byCls) byCls_swo m.toArray 0 m.length (Nat.zero_le _) (by simp)
  have hf := fun c => filter_outer c 0 m.length _ 1 m.toArray rfl (by simp)
  change ∀ c, (insertionSort (Go.Proofs.ltOf byCls) m.toArray 0 m.length).toList.filter (isCls c) = m.filter (isCls c) at hf
  generalize insertionSort (Go.Proofs.ltOf byCls) m.toArray 0 m.length = d at *
  have e1 : (d.extract 0 m.length).toList = d.toList := by
    have : d.size = m.length := by rw [hs]; simp
    rw [← this]; simp
  have e2 : (m.toArray.extract 0 m.length).toList = m := by simp
  rw [e1, e2] at hperm
  have hp : d.toList.Pairwise fun a b => a.cls ≤ b.cls := by
    rw [List.pairwise_iff_getElem]
    intro i j hi hj hij
    have hj' : j < d.size := by simpa using hj
    have := hsort i j (Nat.zero_le _) hij (by have : d.size = m.length := by rw [hs]; simp
                                              omega)
    rw [byCls_lt] at this
    have hn := of_decide_eq_false this
    rw [getElem!_pos d j hj', getElem!_pos d i (by omega)] at hn
    simp only [Array.getElem_toList]
    omega
  rw [by_classes d.toList hp (fun x hx => hmc x (hperm.mem_iff.1 hx)), hf, hf, hf, ← hm]
  unfold of ofc
  simp only [List.filter_filter]
  have k : ∀ c, (fun x : It => isCls c x && (x.key == key)) = isOf key c := fun c => by funext x; unfold isCls isOf; rw [Bool.and_comm]
  rw [k, k, k]
/-! The walk. -/
theorem flat_items (xs : List It) : flatK item.cs 5 xs.toArray = (cells item xs).toArray := by
  refine ext_get! (by simp [Kit.cells_len, item]) fun t ht => ?_
  have ht' : t < xs.length * 5 := by simpa using ht
  rw [get_flatK _ _ _ t (by simpa using ht')]
  have hj : t / 5 < xs.length := by omega
  have hx : xs.toArray[t / 5]! = xs.getD (t / 5) z := by simp [List.getD, hj]
  rw [hx]
  have hk : t % 5 < (item.cs (xs.getD (t / 5) z)).length := by rw [show (item.cs (xs.getD (t / 5) z)).length = 5 from rfl]; omega
  have h1 := Kit.cells_at (E := item) xs (t / 5) hj (t % 5) _ (List.getElem?_eq_getElem hk)
  rw [show t / 5 * item.n + t % 5 = t by rw [show item.n = 5 from rfl]; omega] at h1
  have h2 : (item.cs (xs.getD (t / 5) z))[t % 5]! = (item.cs (xs.getD (t / 5) z))[t % 5]'hk := getElem!_pos (item.cs (xs.getD (t / 5) z)) (t % 5) hk
  rw [h2]
  simp [h1]
theorem holds_items {w : World} {g B cap : Nat} {T : TypeId} {xs : List It} (h : Own item T B w (.slice (some ⟨g, 0, none⟩) xs.length cap) xs) : HoldsK item.cs 5 w g 0 xs.toArray := by
  intro j hj
  rw [flat_items] at hj ⊢
  have hj' : j < (cells item xs).length := by simpa using hj
  have hc := World.ownsRow.cells (g := g) h rfl j _ (List.getElem?_eq_getElem hj')
  rw [Codec.add_at] at hc
  refine ⟨by simpa [hj'] using hc, ?_⟩
  rcases h.2 with ⟨h0, _⟩ | ⟨g', cap', cur, hv, _, hb, _⟩
  · cases h0
  · cases hv
    simp [World.frozen?, hb]
theorem items_lie {w : World} {g : Nat} {l : List It} (h : HoldsK item.cs 5 w g 0 l.toArray) : Lies item w (some ⟨g, 0, none⟩) l := by
  refine .inr ⟨g, 0, rfl, fun j hj k u hu => ?_⟩
  have hv := Kit.cells_at (E := item) l j hj k u hu
  have ht := (List.getElem?_eq_some_iff.1 hv).1
  have := (h (j * item.n + k) (by rw [flat_items]; simpa using ht)).1
  rw [flat_items, ← Nat.add_assoc] at this
  rw [this]
  simp [hv]
theorem below_sort {w : World} {B g n : Nat} {d : Array It} {os : Array Obj} (hB : B ≤ w.heap.size) (hg : B ≤ g) : Below B w (Go.Proofs.sortWorldK item.cs 5 w g 0 n d os) := by
  refine (Below.refl B w).grown (row := some g) ⟨rfl, rfl, rfl, Go.Proofs.size_sortWorldK_c item.cs 5 w g 0 n d os, fun k hk hne => ?_⟩ hB (fun k e => by cases e; exact hg)
  unfold Go.Proofs.sortWorldK putRowK
  rw [heap_grow_old _ _ (by simpa using hk)]
  have : g ≠ k := fun e => hne (by rw [e])
  simp [putRow, mapBlock, Sort.ahead, Array.getElem?_modify, this]
theorem isnan_any (x : Int) (w : World) : Calls Tryz.prog 177 #[.int .i64 x] w fun e w' => e = .returned (.bool false) ∧ w = w' := by
  have h : (x != x) = false := by simp
  go_enter Tryz.func177, Tryz.ntmps177
  go_wp2
  go_ret
  exact ⟨rfl, rfl⟩
def cmpI (x y : Int) : Int := if x < y then -1 else if y < x then 1 else 0
theorem cmp_any (x y : Int) (w : World) : Calls Tryz.prog 130 #[.int .i64 x, .int .i64 y] w fun e w' => e = .returned (.int .i64 (cmpI x y)) ∧ w = w' := by
  have hcase : (x < y ∧ cmpI x y = -1) ∨ (¬ x < y ∧ y < x ∧ cmpI x y = 1) ∨ (¬ x < y ∧ ¬ y < x ∧ cmpI x y = 0) := by
    unfold cmpI
    by_cases h1 : x < y <;> by_cases h2 : y < x <;> simp [h1, h2]
  generalize cmpI x y = R at *
  rcases hcase with ⟨h1, rfl⟩ | ⟨h1, h2, rfl⟩ | ⟨h1, h2, rfl⟩
  all_goals
    go_enter Tryz.func130, Tryz.ntmps130
    go_wp2_with (go_at_call 177; (with_reducible refine (isnan_any _ _).mono ?_); rintro e w1 ⟨rfl, rfl⟩)
    go_ret
    exact ⟨rfl, rfl⟩
set_option maxRecDepth 100000 in
set_option maxHeartbeats 1000000 in
theorem closure_any (x y : It) (W : World) : Calls Tryz.prog 182 #[.agg (item.cs x).toArray, .agg (item.cs y).toArray] W fun e w' => e = .returned (.int .i64 (byCls x y)) ∧ ∃ q os', w' = grow (W.drewN q) os' := by
  have hcon := fun W' => cmp_any x.cls y.cls W'
  rw [show byCls x y = cmpI x.cls y.cls from rfl]
  generalize cmpI x.cls y.cls = r at hcon ⊢
  simp only [item]
  go_enter Tryz.func182, Tryz.ntmps182
  go_wp2_with (go_at_call 130; refine (hcon _).mono ?_; rintro e w' ⟨rfl, rfl⟩)
  go_ret
  exact ⟨rfl, 0, _, by rw [alloc_eq_grow, alloc_eq_grow, grow_grow]; rfl⟩
abbrev cmpv : Value := .func (.func 182) #[] #[]
/-- The insertion sort, of an owned row. -/
theorem ins_any {B g cap : Nat} {u : World} {m : List It} (ho : Own item 136 B u (.slice (some ⟨g, 0, none⟩) m.length cap) m) (hB : B ≤ u.heap.size) (hl : m.length ≤ 16) :
    Calls Tryz.prog 238 #[.slice (some ⟨g, 0, none⟩) m.length cap, .int .i64 0, .int .i64 (m.length : Int), cmpv] u fun e w' => e = .returned (.tuple #[]) ∧ Lies item w' (some ⟨g, 0, none⟩) (insertionSort (Go.Proofs.ltOf byCls) m.toArray 0 m.length).toList ∧ Below B u w' := by
  have hlt : g < u.heap.size := own_lt ho rfl
  have hg : B ≤ g := (World.ownsRow.lt ho g rfl).1
  have hH := holds_items ho
  have hcon := Go.Proofs.AnyQ.insertionSortCmpFunc Tryz.insItems 5 Tryz.isAgg136 Tryz.sizeOf136 item.cs (fun _ => rfl) item.one byCls 182 #[] g 0 cap 0 m.length m.toArray u (enters_of Tryz.func182 (by kernel_rfl) rfl) (fun _ _ _ _ x y => closure_any x y _) hH hlt (Nat.zero_le _) (by simp) (by simp; omega)
  refine Calls.mono (P := Tryz.prog) hcon ?_
  rintro e w' ⟨rfl, n, os, rfl⟩
  have hs : (insertionSort (Go.Proofs.ltOf byCls) m.toArray 0 m.length).size = m.toArray.size := (insertionSort_holds (lt := Go.Proofs.ltOf byCls) byCls_swo m.toArray 0 m.length (Nat.zero_le _) (by simp)).1.1
  refine ⟨rfl, items_lie ?_, below_sort hB hg⟩
  rw [Array.toArray_toList]
  exact Go.Proofs.holdsK_sortWorldK_c item.cs 5 u g 0 m.toArray _ n os hH hlt hs
set_option maxRecDepth 100000 in
set_option maxHeartbeats 1000000 in
theorem ins_none (p : Option Addr) (cap : Nat) (fv : Value) (u : World) : Calls Tryz.prog 238 #[.slice p 0 cap, .int .i64 0, .int .i64 0, fv] u fun e w' => e = .returned (.tuple #[]) ∧ u = w' := by
  go_enter Tryz.func238, Tryz.ntmps238
  go_wp2
  refine wp_loop_rounds 1 ?_
  rw [rounds_succ]
  go_wp2
  go_end0
  exact ⟨rfl, rfl⟩
set_option maxRecDepth 100000 in
set_option maxHeartbeats 2000000 in
/-- At most 16: one block. -/
theorem stable_any (p : Option Addr) (cap n : Nat) (hn : n ≤ 16) (u : World) (Q : World → Prop)
    (hi : Calls Tryz.prog 238 #[.slice p n cap, .int .i64 0, .int .i64 (n : Int), cmpv] u fun e w' => e = .returned (.tuple #[]) ∧ Q w') :
    Calls Tryz.prog 210 #[.slice p n cap, .int .i64 (n : Int), cmpv] u fun e w' => e = .returned (.tuple #[]) ∧ Q w' := by
  have h1 : ¬ (20 : Int) ≤ (n : Int) := by omega
  have h2 : ¬ (20 : Int) < (n : Int) := by omega
  go_enter Tryz.func210, Tryz.ntmps210
  go_wp2
  refine wp_loop_rounds 1 ?_
  rw [rounds_succ]
  go_wp2_with (go_at_call 238; (with_reducible refine hi.mono ?_); rintro e w2 ⟨rfl, hq⟩; have HQ := Lib.hid hq; clear hq hi)
  refine wp_loop_rounds 1 ?_
  rw [rounds_succ]
  go_wp2
  go_end0
  exact ⟨rfl, HQ.out⟩
set_option maxRecDepth 100000 in
set_option maxHeartbeats 2000000 in
theorem sort_any (p : Option Addr) (cap n : Nat) (hn : n ≤ 16) (u : World) (Q : World → Prop)
    (hi : Calls Tryz.prog 238 #[.slice p n cap, .int .i64 0, .int .i64 (n : Int), cmpv] u fun e w' => e = .returned (.tuple #[]) ∧ Q w') :
    Calls Tryz.prog 181 #[.slice p n cap, cmpv] u fun e w' => e = .returned (.tuple #[]) ∧ Q w' := by
  have hs := stable_any p cap n hn u Q hi
  clear hi
  go_enter Tryz.func181, Tryz.ntmps181
  go_wp2_with (go_at_call 210; (with_reducible refine hs.mono ?_); rintro e w2 ⟨rfl, hq⟩; have HQ := Lib.hid hq; clear hq hs)
  go_end0
  exact ⟨rfl, HQ.out⟩
/-- An owned row is sorted. -/
theorem sort_own {B : Nat} {u : World} {y : Value} {m : List It} (ho : Own item 136 B u y m) (hB : B ≤ u.heap.size) (hl : m.length ≤ 16) :
    Calls Tryz.prog 181 #[y, cmpv] u fun e w' => e = .returned (.tuple #[]) ∧ ((∃ p c, y = .slice p m.length c ∧ Lies item w' p (insertionSort (Go.Proofs.ltOf byCls) m.toArray 0 m.length).toList) ∧ Below B u w') := by
  obtain ⟨p, c, rfl, -, -⟩ := own_slice ho
  rcases ho.2 with ⟨e, h0⟩ | ⟨g, cap, cur, e, -⟩
  · have hm : m = [] := List.eq_nil_of_length_eq_zero h0
    subst hm
    refine sort_any p c 0 (by omega) u _ ((ins_none p c cmpv u).mono ?_)
    rintro e w' ⟨rfl, rfl⟩
    refine ⟨rfl, ⟨p, c, rfl, .inl ?_⟩, Below.refl _ _⟩
    unfold insertionSort
    rw [insOuter, if_neg (by simp)]
  · simp only [Value.slice.injEq] at e
    obtain ⟨rfl, -, rfl⟩ := e
    refine sort_any _ c m.length hl u _ ((ins_any ho hB hl).mono ?_)
    rintro e w' ⟨rfl, h1, h2⟩
    exact ⟨rfl, ⟨_, _, rfl, h1⟩, h2⟩
set_option maxRecDepth 100000 in
set_option maxHeartbeats 2000000 in
theorem pof_any {F : Nat → Prop} {B q : Nat} {w : World} {room : Int} {l : List It} (h : Pq F B w q room l) (hg : Good room l) (hl : l.length ≤ 16) (key : Int) :
    Calls Tryz.prog 138 #[.pointer (some ⟨q, 0, none⟩), .int .i64 key] w fun e w' => ∃ p c, e = .returned (.slice p (of l key).length c) ∧ Lies item w' p (of l key) ∧ Below w.heap.size w w' := by
  have hc : ∀ x ∈ l, 0 ≤ x.cls ∧ x.cls ≤ 2 := fun x hx => by have := (hg.each x hx).1; unfold wrong at this; omega
  have hs := sorted_of key hc
  have hbx := lay w (.cells #[.int .i64 key] 3)
  obtain ⟨y, hy⟩ := h
  have ha := pall_any (⟨y, hy.below hbx⟩ : Pq F B _ q room l) hl
  have hcell := cell_of_row _ w.heap.size 0 _ _ (0, 0) (heap_alloc_new w (.cells #[.int .i64 key] 3))
  have HB := Lib.hid hbx
  have HPK := Lib.hid (fun (u : World) (p : Option Addr) (d : Nat) (hp : Lies item u p l) (hu : Below (w.alloc (.cells #[.int .i64 key] 3)).heap.size (w.alloc (.cells #[.int .i64 key] 3)) u) => picked_any ent_of (gives_of w.heap.size key) (d := d) hp (by omega) (cell_on hcell hu))
  rw [show l.filter (isKey key) = l.filter (fun x => x.key == key) from rfl] at HPK
  have hml : (l.filter fun x => x.key == key).length ≤ 16 := Nat.le_trans (List.length_filter_le _ _) hl
  have hlen : (of l key).length = (l.filter fun x => x.key == key).length := by
    rw [← hs, Array.length_toList, (insertionSort_holds (lt := Go.Proofs.ltOf byCls) byCls_swo (l.filter fun x => x.key == key).toArray 0 (l.filter fun x => x.key == key).length (Nat.zero_le _) (by simp)).1.1]
    simp
  generalize (l.filter fun x => x.key == key) = m at *
  have HSO := Lib.hid (fun (u : World) (y : Value) (ho : Own item 136 w.heap.size u y m) (hu : w.heap.size ≤ u.heap.size) => sort_own ho hu hml)
  rw [hs] at HSO
  rw [hlen]
  generalize of l key = R at *
  clear hy hcell hbx hg hc hs
  go_enter Tryz.func138, Tryz.ntmps138
  go_wp2_with (first
    | (go_at_call 36; (with_reducible refine ha.mono ?_); rintro e u1 ⟨y1, rfl, ho, hb⟩; obtain ⟨p1, d1, rfl, hl1, -⟩ := own_slice ho; have HL1 := Lib.hid hl1; have HB1 := Lib.hid hb; clear ho hb hl1 ha)
    | (go_at_call 179; (with_reducible refine (HPK.out _ _ _ HL1.out HB1.out).mono ?_); rintro e u2 ⟨y2, rfl, ho, hb⟩; have HB2 := Lib.hid (HB.out.trans ((HB1.out.trans (hb.mono HB1.out.size)).mono HB.out.size)); have HO2 := Lib.hid (Own.lower ho (Nat.le_trans HB.out.size HB1.out.size)); clear ho hb HPK)
    | (go_at_call 181; (with_reducible refine (HSO.out _ _ HO2.out HB2.out.size).mono ?_); rintro e u3 ⟨rfl, ⟨p3, d3, rfl, hl3⟩, hb⟩; have HB3 := Lib.hid (HB2.out.trans hb); have HL3 := Lib.hid hl3; clear hb hl3 HSO))
  go_ret
  exact ⟨_, _, rfl, HL3.out, HB3.out⟩
end Go.Proofs.YtbgdlokegibkmaaGreat.Queue

namespace Go.Proofs.YtbgdlokegibkmaaGreat.Queue
open Go.RowKit
open _root_.Go.Proofs.YtbgdlokegibkmaaGreat.Codec (lt_of_heap frozen_of heap_set own_below)
open _root_.Go.Proofs.YtbgdlokegibkmaaGreat.Kit (Enc Lies Own At Kept Laid Off cell_on lt_heap take_snoc below_drewN box5 ints own_keep own_lt cells)
set_option maxRecDepth 100000 in
set_option maxHeartbeats 2000000 in
/-- First, of whatever Of tells. -/
theorem first_core (v : Value) (key : Int) (w : World) (R : List It)
    (ho : ∀ u, Below w.heap.size w u → Calls Tryz.prog 138 #[v, .int .i64 key] u fun e w' => ∃ p c, e = .returned (.slice p R.length c) ∧ Lies item w' p R ∧ Below u.heap.size u w') :
    Calls Tryz.prog 86 #[v, .int .i64 key] w fun e w' => e = .returned (.tuple #[val (head R).1, .bool (head R).2]) ∧ Below w.heap.size w w' := by
  have HZ := Lib.hid (lay w (.cells #[.int .i64 0, .int .i64 0, .int .i64 0, .int .i64 0, .int .i64 0] 136))
  have KZ := Lib.hid (heap_alloc_new w (.cells #[.int .i64 0, .int .i64 0, .int .i64 0, .int .i64 0, .int .i64 0] 136))
  have ho2 := ho _ HZ.out
  have HH := Lib.hid (fun (u : World) (p : Option Addr) (d : Nat) (hp : Lies item u p R) => head_any (d := d) hp)
  generalize head R = hd at *
  obtain ⟨⟨xi, xk, xc, xs, xt⟩, ok⟩ := hd
  simp only [val] at *
  clear ho
  go_enter Tryz.func86, Tryz.ntmps86
  go_wp2_with (first
    | (go_at_call 138; (with_reducible refine ho2.mono ?_); rintro e u2 ⟨p2, d2, rfl, hl2, hb⟩; have HB2 := Lib.hid (HZ.out.trans (hb.mono HZ.out.size)); have HL2 := Lib.hid hl2; have HK2 := Lib.hid ((hb.block _ (lt_heap KZ.out)).trans KZ.out); clear hl2 hb ho2)
    | (go_at_call 137; (with_reducible refine (HH.out _ _ _ HL2.out).mono ?_); rintro e u3 ⟨rfl, hb⟩; have HK3 := Lib.hid ((hb.block _ (lt_heap HK2.out)).trans HK2.out); have HB3 := Lib.hid (HB2.out.trans (hb.mono HB2.out.size)); obtain ⟨b0, b1, b2, b3, b4⟩ := box5 HK3.out; obtain ⟨f0, f1, f2, f3, f4⟩ := Kit.frozen5 HK3.out; clear hb HH))
  rw [show ((((u3.setCell ⟨w.heap.size, 0, none⟩ (.int .i64 xi)).setCell ⟨w.heap.size, 1, none⟩ (.int .i64 xk)).setCell ⟨w.heap.size, 2, none⟩ (.int .i64 xc)).setCell ⟨w.heap.size, 3, none⟩ (.int .i64 xs)).setCell ⟨w.heap.size, 4, none⟩ (.int .i64 xt) = set5 u3 w.heap.size ⟨xi, xk, xc, xs, xt⟩ from rfl]
  obtain ⟨e0, e1, e2, e3, e4⟩ := box5 (set5_block HK3.out ⟨xi, xk, xc, xs, xt⟩)
  have HE := Lib.hid (set5_below HB3.out (Nat.le_refl _) ⟨xi, xk, xc, xs, xt⟩)
  generalize set5 u3 w.heap.size ⟨xi, xk, xc, xs, xt⟩ = u4 at *
  refine bodyPost_ret (v := .tuple #[val ⟨xi, xk, xc, xs, xt⟩, .bool ok]) (by simp [results, Tryz.results86, go_sem, val, e0, e1, e2, e3, e4]) rfl ⟨rfl, HE.out⟩
set_option maxRecDepth 100000 in
set_option maxHeartbeats 2000000 in
/-- Sum, of whatever Of tells. -/
theorem sum_core (v : Value) (key : Int) (w : World) (R : List It) (hR : R.length ≤ 1000)
    (ho : Calls Tryz.prog 138 #[v, .int .i64 key] w fun e w' => ∃ p c, e = .returned (.slice p R.length c) ∧ Lies item w' p R ∧ Below w.heap.size w w') :
    Calls Tryz.prog 200 #[v, .int .i64 key] w fun e w' => e = .returned (.int .i64 (sums R)) ∧ Below w.heap.size w w' := by
  have HS := Lib.hid (fun (j : Nat) (hj : j < R.length) => sums_at hj)
  have H0 := Lib.hid (show sums [] = 0 from rfl)
  have HF := Lib.hid (show sums R = sums (R.take R.length) by rw [List.take_length])
  generalize hq : sums R = S at *
  clear hq
  generalize sums = SU at *
  have ca := _root_.Go.Proofs.YtbgdlokegibkmaaGreat.Sat.add2
  go_enter Tryz.func200, Tryz.ntmps200
  go_wp2_with (go_at_call 138; (with_reducible refine ho.mono ?_); rintro e u1 ⟨p1, d1, rfl, hl1, hb⟩; have HB1 := Lib.hid hb; have HL1 := Lib.hid hl1; clear hl1 hb ho)
  go_loopw [5, 12] (fun s i wr => ∃ j : Nat, j ≤ R.length ∧ i = .int .i64 (j : Int) ∧ s = .int .i64 (SU (R.take j)) ∧ Hid (Below u1.heap.size u1 wr)) (fun _ i _ => R.length - (intOf i).toNat)
  case atStart => exact ⟨0, by omega, rfl, by rw [List.take_zero, H0.out], Lib.hid (Below.refl _ _)⟩
  case round =>
    obtain ⟨j, hj, rfl, rfl, HB⟩ := hrel
    by_cases hlt : j < R.length
    · obtain ⟨b, o, rfl, ha⟩ := lies_at (HL1.out.below HB.out) hlt
      obtain ⟨k0, k1, k2, k3, k4⟩ := at5 ha
      have hlt' : (j : Int) < (R.length : Int) := by omega
      have HE := Lib.hid (HS.out j hlt)
      generalize R.getD j z = x at *
      generalize SU (R.take j) = s0 at *
      have hc := ca s0 x.cost (wr.alloc (.cells #[.int .i64 x.id, .int .i64 x.key, .int .i64 x.cost, .int .i64 x.cls, .int .i64 x.til] 136)) (wr.heap.size + 1) (by simp)
      have HX := Lib.hid (fun (o' : Obj) => (lay wr (.cells #[.int .i64 x.id, .int .i64 x.key, .int .i64 x.cost, .int .i64 x.cls, .int .i64 x.til] 136)).alloc (lay wr (.cells #[.int .i64 x.id, .int .i64 x.key, .int .i64 x.cost, .int .i64 x.cls, .int .i64 x.til] 136)).size o')
      obtain ⟨xi, xk, xc, xs, xt⟩ := x
      simp only at k0 k1 k2 k3 k4 HE hc HX
      clear ha HS ca HL1
      go_wp2_with (go_at_call 88; (with_reducible refine hc.mono ?_); rintro e w2 ⟨rfl, rfl⟩; clear hc)
      go_roundw
      case rel => exact ⟨j + 1, by omega, by go_num, by rw [HE.out], Lib.hid (HB.out.trans ((HX.out _).mono HB.out.size))⟩
      case measure => simp only [intOf]; omega
    · have hlt' : ¬ (j : Int) < (R.length : Int) := by omega
      obtain rfl : j = R.length := by omega
      have HE := Lib.hid HF.out.symm
      generalize SU (R.take R.length) = s0 at *
      clear HS ca HL1 HF
      go_wp2
      go_ret
      exact ⟨by simp; exact HE.out, HB1.out.trans (HB.out.mono HB1.out.size)⟩
theorem nof_any (key : Int) (w : World) : Calls Tryz.prog 138 #[.pointer none, .int .i64 key] w fun e w' => ∃ p c, e = .returned (.slice p 0 c) ∧ Below w.heap.size w w' := by
  have HB := Lib.hid (lay w (.cells #[.int .i64 key] 3))
  have ha := nall_any (w.alloc (.cells #[.int .i64 key] 3))
  have hcell := cell_of_row _ w.heap.size 0 _ _ (0, 0) (heap_alloc_new w (.cells #[.int .i64 key] 3))
  have HPK := Lib.hid (fun (u : World) (hu : Below (w.alloc (.cells #[.int .i64 key] 3)).heap.size (w.alloc (.cells #[.int .i64 key] 3)) u) => picked_any ent_of (gives_of w.heap.size key) (l := []) (p := none) (d := 0) (.inl rfl) (by simp) (cell_on hcell hu))
  simp only [List.length_nil, List.filter_nil] at HPK
  have HSO := Lib.hid (fun (u : World) (y : Value) (ho : Own item 136 w.heap.size u y []) (hu : w.heap.size ≤ u.heap.size) => sort_own ho hu (by simp))
  clear hcell
  go_enter Tryz.func138, Tryz.ntmps138
  go_wp2_with (first
    | (go_at_call 36; (with_reducible refine ha.mono ?_); rintro e u1 ⟨rfl, hb⟩; have HB1 := Lib.hid hb; clear hb ha)
    | (go_at_call 179; (with_reducible refine (HPK.out _ HB1.out).mono ?_); rintro e u2 ⟨y2, rfl, ho, hb⟩; have HB2 := Lib.hid (HB.out.trans ((HB1.out.trans (hb.mono HB1.out.size)).mono HB.out.size)); have HO2 := Lib.hid (Own.lower ho (Nat.le_trans HB.out.size HB1.out.size)); clear ho hb HPK)
    | (go_at_call 181; (with_reducible refine (HSO.out _ _ HO2.out HB2.out.size).mono ?_); rintro e u3 ⟨rfl, ⟨p3, d3, rfl, -⟩, hb⟩; have HB3 := Lib.hid (HB2.out.trans hb); clear hb HSO))
  go_ret
  exact ⟨_, _, rfl, HB3.out⟩
end Go.Proofs.YtbgdlokegibkmaaGreat.Queue
