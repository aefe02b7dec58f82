/-
  All of any wallet of leases that rise by keys, at most 100 of them, and of none: a new slice of them, by keys, rising.
-/
import Derived.Test.YtbgdlokegibkmaaGreatMmBo
import Derived.Test.YtbgdlokegibkmaaGreatShelf
namespace Go.Proofs.YtbgdlokegibkmaaGreat.Lease
open Go.RowKit Go.Maps Go.Shelf Go.Sort
instance : Inhabited Lz := ⟨z⟩
def cmpI (x y : Int) : Int := if x < y then -1 else if y < x then 1 else 0
theorem isnan_any (x : Int) (w : World) : Calls Tryz.prog 177 #[.int .i64 x] w fun e w' => e = .returned (.bool false) ∧ w = w' := by
  have h : (x != x) = false := by simp
  go_enter Tryz.func177, Tryz.ntmps177
  go_wp2
  go_ret
  exact ⟨rfl, rfl⟩
theorem cmp_any (x y : Int) (w : World) : Calls Tryz.prog 130 #[.int .i64 x, .int .i64 y] w fun e w' => e = .returned (.int .i64 (cmpI x y)) ∧ w = w' := by
  have hcase : (x < y ∧ cmpI x y = -1) ∨ (¬ x < y ∧ y < x ∧ cmpI x y = 1) ∨ (¬ x < y ∧ ¬ y < x ∧ cmpI x y = 0) := by
    unfold cmpI
    by_cases h1 : x < y <;> by_cases h2 : y < x <;> simp [h1, h2]
  generalize cmpI x y = R at *
  rcases hcase with ⟨h1, rfl⟩ | ⟨h1, h2, rfl⟩ | ⟨h1, h2, rfl⟩
  all_goals
    go_enter Tryz.func130, Tryz.ntmps130
    go_wp2_with (go_at_call 177; (with_reducible refine (isnan_any _ _).mono ?_); rintro e w1 ⟨rfl, rfl⟩)
    go_ret
    exact ⟨rfl, rfl⟩
def byKey (x y : Lz) : Int := cmpI x.key y.key
theorem byKey_lt (x y : Lz) : Go.Proofs.ltOf byKey x y = decide (x.key < y.key) := by
  unfold Go.Proofs.ltOf byKey cmpI
  by_cases h1 : x.key < y.key
  · simp [h1]
  · by_cases h2 : y.key < x.key <;> simp [h1, h2]
theorem byKey_swo : SWO (Go.Proofs.ltOf byKey) where
  irrefl x := by rw [byKey_lt]; simp
  trans x y z h1 h2 := by rw [byKey_lt] at *; simp at *; omega
  ntrans x y z h1 h2 := by rw [byKey_lt] at *; simp at *; omega
set_option maxRecDepth 100000 in
set_option maxHeartbeats 1000000 in
theorem closure_any (x y : Lz) (W : World) : Calls Tryz.prog 129 #[.agg (five x).toArray, .agg (five y).toArray] W fun e w' => e = .returned (.int .i64 (byKey x y)) ∧ ∃ q os', w' = grow (W.drewN q) os' := by
  have hcon := fun W' => cmp_any x.key y.key W'
  unfold byKey
  generalize cmpI x.key y.key = r at hcon ⊢
  simp only [five]
  go_enter Tryz.func129, Tryz.ntmps129
  go_wp2_with (go_at_call 130; refine (hcon _).mono ?_; rintro e w' ⟨rfl, rfl⟩)
  go_ret
  exact ⟨rfl, 0, _, by rw [alloc_eq_grow, alloc_eq_grow, grow_grow]; rfl⟩
theorem flat_cells (xs : List Lz) : flatK five 5 xs.toArray = (cells5 xs).toArray := by
  refine ext_get! (by simp [cells5_len]) fun t ht => ?_
  have ht' : t < xs.length * 5 := by simpa using ht
  rw [get_flatK _ _ _ t (by simpa using ht')]
  have hj : t / 5 < xs.length := by omega
  obtain ⟨h0, h1, h2, h3, h4⟩ := cells5_at xs (t / 5) hj
  have hx : xs.toArray[t / 5]! = xs.getD (t / 5) z := by simp [List.getD, hj]
  rw [hx]
  generalize xs.getD (t / 5) z = x at *
  have hc : ∀ v, (cells5 xs)[t]? = some v → (cells5 xs).toArray[t]! = v := fun v hv => by simp [hv]
  have hm : t % 5 = 0 ∨ t % 5 = 1 ∨ t % 5 = 2 ∨ t % 5 = 3 ∨ t % 5 = 4 := by omega
  rcases hm with e | e | e | e | e
  · rw [show t / 5 * 5 = t by omega] at h0
    rw [hc _ h0, e]
    rfl
  · rw [show t / 5 * 5 + 1 = t by omega] at h1
    rw [hc _ h1, e]
    rfl
  · rw [show t / 5 * 5 + 2 = t by omega] at h2
    rw [hc _ h2, e]
    rfl
  · rw [show t / 5 * 5 + 3 = t by omega] at h3
    rw [hc _ h3, e]
    rfl
  · rw [show t / 5 * 5 + 4 = t by omega] at h4
    rw [hc _ h4, e]
    rfl
theorem holds_five {w : World} {g B cap : Nat} {xs : List Lz} (h : Own 135 B w (.slice (some ⟨g, 0, none⟩) xs.length cap) xs) : HoldsK five 5 w g 0 xs.toArray := by
  intro j hj
  rw [flat_cells] at hj ⊢
  have hj' : j < (cells5 xs).length := by simpa using hj
  have hc := World.ownsRow.cells (g := g) h rfl j _ (List.getElem?_eq_getElem hj')
  rw [Codec.add_at] at hc
  refine ⟨by simpa [hj'] using hc, ?_⟩
  rcases h.2 with ⟨h0, _⟩ | ⟨g', cap', cur, hv, _, hb, _⟩
  · cases h0
  · cases hv
    simp [World.frozen?, hb]
theorem five_lies {w : World} {g : Nat} {l : List Lz} (h : HoldsK five 5 w g 0 l.toArray) : Lies w (some ⟨g, 0, none⟩) l := by
  refine .inr ⟨g, 0, rfl, fun j hj => ?_⟩
  obtain ⟨h0, h1, h2, h3, h4⟩ := cells5_at l j hj
  have key : ∀ t v, (cells5 l)[t]? = some v → w.cell? ⟨g, 0 + t, none⟩ = some v := fun t v hv => by
    have ht := (List.getElem?_eq_some_iff.1 hv).1
    have := (h t (by rw [flat_cells]; simpa using ht)).1
    rw [flat_cells] at this
    rw [this]
    simp [hv]
  exact ⟨key _ _ h0, key _ _ h1, key _ _ h2, key _ _ h3, key _ _ h4⟩
theorem below_sort {w : World} {B g n : Nat} {d : Array Lz} {os : Array Obj} (hB : B ≤ w.heap.size) (hg : B ≤ g) : Below B w (Go.Proofs.sortWorldK five 5 w g 0 n d os) := by
  refine (Below.refl B w).grown (row := some g) ⟨rfl, rfl, rfl, Go.Proofs.size_sortWorldK_c five 5 w g 0 n d os, fun k hk hne => ?_⟩ hB (fun k e => by cases e; exact hg)
  unfold Go.Proofs.sortWorldK putRowK
  rw [heap_grow_old _ _ (by simpa using hk)]
  have : g ≠ k := fun e => hne (by rw [e])
  simp [putRow, mapBlock, Sort.ahead, Array.getElem?_modify, this]
theorem sorted_is {L : List Lz} (hr : Rise L) {xs : List Lz} (hp : xs.Perm L) {d : Array Lz} (h1 : PermIn 0 xs.toArray.size xs.toArray d) (h2 : SortedIn (Go.Proofs.ltOf byKey) 0 xs.toArray.size d) : d = L.toArray := by
  obtain ⟨hs, -, hperm⟩ := h1
  have e1 : (d.extract 0 xs.toArray.size).toList = d.toList := by rw [← hs]; simp
  have e2 : (xs.toArray.extract 0 xs.toArray.size).toList = xs := by simp
  rw [e1, e2] at hperm
  have hdL := hperm.trans hp
  have hsort : d.toList.Pairwise fun a b => a.key ≤ b.key := by
    rw [List.pairwise_iff_getElem]
    intro i j hi hj hij
    have hj' : j < d.size := by simpa using hj
    have := h2 i j (Nat.zero_le _) hij (by rw [← hs]; exact hj')
    rw [byKey_lt] at this
    have hn := of_decide_eq_false this
    rw [getElem!_pos d j hj', getElem!_pos d i (by omega)] at hn
    simp only [Array.getElem_toList]
    omega
  have hL : L.Pairwise fun a b => a.key ≤ b.key := hr.imp fun {a b} h => by omega
  have e := List.Perm.eq_of_pairwise (le := fun a b : Lz => a.key ≤ b.key) (fun a b ha hb hab hba => rise_one hr (hdL.mem_iff.1 ha) hb (by omega)) hsort hL hdL
  apply Array.toList_inj.1
  rw [e]
theorem sort_any {L : List Lz} (hr : Rise L) {B : Nat} {u : World} {v : Value} {xs : List Lz} (hB : B ≤ u.heap.size) (ho : Own 135 B u v xs) (hp : xs.Perm L) (hlen : L.length ≤ 100) :
    Calls Tryz.prog 175 #[v, .func (.func 129) #[] #[]] u fun e w' => e = .returned (.tuple #[]) ∧ ∃ p c, v = .slice p L.length c ∧ Lies w' p L ∧ Below B u w' := by
  have hl := hp.length_eq
  rcases ho.2 with ⟨rfl, h0⟩ | ⟨g, cap, cur, rfl, hg, hb, -⟩
  · have hL : L = [] := List.eq_nil_of_length_eq_zero (by omega)
    subst hL
    refine (Go.Proofs.AnyF.slices_SortFunc_none Tryz.sortLease none 0 _ u).mono ?_
    rintro e w' ⟨rfl, rfl⟩
    exact ⟨rfl, none, 0, rfl, .inl rfl, Below.refl _ _⟩
  · have hlt : g < u.heap.size := Codec.lt_of_heap hb
    have hH := holds_five ho
    have hcon := Go.Proofs.AnyQ.slices_SortFunc Tryz.sortLease 5 Tryz.isAgg135 Tryz.sizeOf135 five (fun _ => rfl) (fun x v hv => by simp [five] at hv; rcases hv with rfl | rfl | rfl | rfl | rfl <;> rfl) byKey byKey_swo 129 #[] g 0 cap xs.toArray u (enters_of Tryz.func129 (by kernel_rfl) rfl) (fun _ _ _ _ x y => closure_any x y _) hH hlt (by simp; omega)
    refine Calls.mono (P := Tryz.prog) hcon ?_
    rintro e w' ⟨rfl, d, n, os, h1, h2, rfl⟩
    have hd := sorted_is hr hp h1 h2
    subst hd
    refine ⟨rfl, _, cap, by rw [hl], five_lies (Go.Proofs.holdsK_sortWorldK five 5 u g 0 n xs.toArray L.toArray os hlt hH (by simp [hl])), below_sort hB hg⟩
set_option maxRecDepth 100000 in
theorem sorted_any {L : List Lz} (hr : Rise L) (hlen : L.length ≤ 100) (Bm : Nat) (w0 w : World) (hb0 : Below w0.heap.size w0 w)
    (hseq : SeqStopsK Fence.wide 5 Tryz.prog 176 #[.pointer (some ⟨Bm, 0, none⟩)] (fun x : Lz => #[val x]) KeepsWalks (fun xs => xs.Perm L) (fun _ => True) L.length w0) :
    Calls Tryz.prog 127 #[.func (.func 176) #[] #[.pointer (some ⟨Bm, 0, none⟩)], .func (.func 129) #[] #[]] w fun e w' =>
      ∃ p c, e = .returned (.slice p L.length c) ∧ Lies w' p L ∧ Below w.heap.size w w' := by
  have ha := collect_any hlen Bm w0 w hb0 hseq
  have hs := Lib.hid (fun u v xs (hb : Below w.heap.size w u) (ho : Own 135 w.heap.size u v xs) (hp : xs.Perm L) => sort_any hr hb.size ho hp hlen)
  clear hseq hlen
  go_enter Tryz.func127, Tryz.ntmps127
  go_wp2_with (first
    | (go_at_call 174; refine ha.mono ?_; clear ha; rintro e u ⟨v, xs, rfl, hp, ho, hb⟩)
    | (go_at_call 175; refine (hs.out _ _ _ hb ho hp).mono ?_; clear hs; rintro e u2 ⟨rfl, p, c, rfl, hl, hb2⟩))
  go_ret
  exact ⟨p, c, rfl, hl, hb.trans hb2⟩
set_option maxRecDepth 100000 in
set_option maxHeartbeats 1000000 in
theorem pall_any {B q : Nat} {w : World} {l : List Lz} (h : Pm B w q l) (hg : Good l) (hlen : l.length ≤ 100) :
    Calls Tryz.prog 68 #[.pointer (some ⟨q, 0, none⟩)] w fun e w' => ∃ p c, e = .returned (.slice p l.length c) ∧ Lies w' p l ∧ Below w.heap.size w w' := by
  obtain ⟨m, hc, -, hm⟩ := h.cell
  have hr := hg.rise
  have hv := callsIn_wide.1 (values_call 5 m w)
  have hb1 := lay w (.cells #[.map m] 192)
  have hz := (MapKept.heap_alloc w (.cells #[.map m] 192)).1
  have hs := sorted_any hr hlen w.heap.size _ _ (Below.refl _ _) (values_stops 5 (by decide) (hm.below hb1) hr (by rw [cell_of_row _ _ 0 _ _ (0, 0) hz]; rfl) (by simp))
  clear hz hr hlen hg
  go_enter Tryz.func68, Tryz.ntmps68
  go_wp2_with (first
    | (go_at_call 128; refine hv.mono ?_; clear hv; rintro e u ⟨rfl, rfl⟩)
    | (go_at_call 127; refine hs.mono ?_; clear hs; rintro e u2 ⟨p, c, rfl, hl, hb2⟩))
  go_ret
  exact ⟨p, c, rfl, hl, hb1.trans (hb2.mono hb1.size)⟩
end Go.Proofs.YtbgdlokegibkmaaGreat.Lease
