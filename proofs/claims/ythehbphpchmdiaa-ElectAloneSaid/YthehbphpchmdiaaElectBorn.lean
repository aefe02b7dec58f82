/-
  A hall of elections while it is made: election by election; and once it is.
-/
import Derived.Test.YthehbphpchmdiaaElectHst2
namespace Go.Proofs.Ythehbphpchmdiaa.Elect
open Go.RowKit
open _root_.Go.Proofs.Ythehbphpchmdiaa.Codec (lt_of_heap frozen_of heap_set below_new)
open _root_.Go.Proofs.Ythehbphpchmdiaa.Kit (Enc Lies Own At Laid cell_on lt_heap take_snoc below_drewN ints)

section
variable {F G : Nat → Prop} {C hb n : Nat} {u w' : World} {y1 y2 y3 y' : Value} {qs : List Nat} {fr : List Rs} {won : List Int} {bs : List (Nat × Obj)}
theorem Hm.elects (h : Hm F C u hb n y1 y2 y3 qs fr won bs) {q : Nat} (ho : Own ptrs 25 C w' y' (qs ++ [q])) (hs : ∀ k, y1.ownBlock ≠ some k → k < u.heap.size → w'.heap[k]? = u.heap[k]?) (hat : y'.ownBlock = y1.ownBlock ∨ y'.ownBlock = some u.heap.size) :
    Hm (fun g => F g ∨ g = u.heap.size) C (w'.setCell ⟨hb, 1, none⟩ y') hb n y' y2 y3 (qs ++ [q]) fr won bs ∧ (∀ g, ¬ F g → g < u.heap.size → (w'.setCell ⟨hb, 1, none⟩ y').heap[g]? = u.heap[g]?) := by
  obtain ⟨a1, a2, a3, a4, a5, a6⟩ := h.apart
  have hbl := lt_heap h.hall
  have hh := (hs hb a1 hbl).trans h.hall
  have set : ∀ g, g ≠ hb → (w'.setCell ⟨hb, 1, none⟩ y').heap[g]? = w'.heap[g]? := fun g hg => Below.heap_setCell _ _ _ _ hg
  have hy' : y'.ownBlock ≠ some hb := fun e => by
    rcases hat with k | k
    · exact a1 (k ▸ e)
    · rw [k] at e; simp at e; omega
  have same : ∀ g, y1.ownBlock ≠ some g → g ≠ hb → g < u.heap.size → (w'.setCell ⟨hb, 1, none⟩ y').heap[g]? = u.heap[g]? := fun g h1 h2 h3 => (set g h2).trans (hs g h1 h3)
  refine ⟨⟨?_, .inl h.fh, h.low, own_stays ho fun g hg hl => set g (fun e => hy' (e ▸ hg)), own_stays h.o2 fun g hg hl => same g (a5 g hg).1 (fun e => a2 (e ▸ hg)) hl, own_stays h.o3 fun g hg hl => same g (a6 g hg).1 (fun e => a3 (e ▸ hg)) hl, fun g hg => ?_, fun g hg => .inl (h.f2 g hg), fun g hg => .inl (h.f3 g hg), fun x hx => ?_⟩, fun g hg hl => same g (fun e => hg (h.f1 g e)) (fun e => hg (e ▸ h.fh)) hl⟩
  · exact heap_set hb 1 _ y' hh
  · rcases hat with k | k
    · exact .inl (h.f1 g (k ▸ hg))
    · rw [k] at hg
      exact .inr (by simpa using hg.symm)
  · obtain ⟨b1, b2, b3, b4, b5, b6, b7⟩ := h.box x hx
    refine ⟨.inl b1, (same _ b5 b3 (lt_heap b2)).trans b2, b3, b4, fun e => ?_, b6, b7⟩
    rcases hat with k | k
    · exact b5 (k ▸ e)
    · rw [k] at e
      have := lt_heap b2
      simp at e
      omega
end
/-- A hall while it is made. -/
def Hpt (PW : Pw) (W : World) (hb n : Nat) (qs : List Nat) (u : World) : Prop := ∃ F y1, Hm F W.heap.size u hb n y1 (.slice none 0 0) (.slice none 0 0) qs [] [] [] ∧ Apart qs ∧ (∀ k, k < qs.length → PW F W.heap.size u (qs.getD k 0) (start (n : Int) (k : Int) 0 0)) ∧ Below W.heap.size W u
section
variable {PW : Pw} {W u u1 u' : World} {hb n : Nat} {qs : List Nat}
theorem hpt_none (W : World) (n : Nat) : Hpt PW W W.heap.size n [] (W.alloc (.cells #[.int .i64 (n : Int), .slice none 0 0, .slice none 0 0, .slice none 0 0] 52)) :=
  ⟨fun g => g = W.heap.size, .slice none 0 0, ⟨heap_alloc_new _ _, rfl, Nat.le_refl _, Own.none _ _ _ _, Own.none _ _ _ _, Own.none _ _ _ _, fun g e => by simp [Value.ownBlock] at e, fun g e => by simp [Value.ownBlock] at e, fun g e => by simp [Value.ownBlock] at e, fun x hx => by cases hx⟩, fun i j h => by simp at h, fun k h => by simp at h, lay _ _⟩
theorem Hpt.below (h : Hpt PW W hb n qs u) : Below W.heap.size W u := by
  obtain ⟨_, _, _, _, _, h⟩ := h
  exact h
theorem Hpt.on (P : Way17 PW) (h : Hpt PW W hb n qs u) (hu : Below u.heap.size u u') : Hpt PW W hb n qs u' := by
  obtain ⟨F, y1, h1, h3, h4, h5⟩ := h
  exact ⟨F, y1, h1.on (Stays.below hu), h3, fun k hk => P.below (h4 k hk) hu, h5.trans (hu.mono h5.size)⟩
theorem Hpt.lt (h : Hpt PW W hb n qs u) : hb < u.heap.size := by
  obtain ⟨_, _, h1, -⟩ := h
  exact lt_heap h1.hall
theorem apart_snoc {q : Nat} (h : Apart qs) (hq : ∀ k, k < qs.length → qs.getD k 0 ≠ q) : Apart (qs ++ [q]) := by
  have g1 : ∀ k, k < qs.length → (qs ++ [q]).getD k 0 = qs.getD k 0 := fun k hk => by simp [List.getD, List.getElem?_append_left hk]
  have g2 : (qs ++ [q]).getD qs.length 0 = q := by simp [List.getD]
  intro i j hi hj e
  simp only [List.length_append, List.length_cons, List.length_nil] at hi hj
  by_cases e1 : i = qs.length
  · by_cases e2 : j = qs.length
    · omega
    · rw [e1, g2, g1 j (by omega)] at e
      exact absurd e.symm (hq j (by omega))
  · by_cases e2 : j = qs.length
    · rw [e2, g2, g1 i (by omega)] at e
      exact absurd e (hq i (by omega))
    · rw [g1 i (by omega), g1 j (by omega)] at e
      exact h i j (by omega) (by omega) e
/-- One election is appended. -/
theorem Hpt.push (P : Way17 PW) (h : Hpt PW W hb n qs u) : ∃ p1 c1, (u.cell? ⟨hb, 0, none⟩ = some (.int .i64 (n : Int)) ∧ u.cell? ⟨hb, 1, none⟩ = some (.slice p1 qs.length c1) ∧ ∀ o, u.frozen? ⟨hb, o, none⟩ = false) ∧ ∀ u' u1 q, Below u.heap.size u u1 → Below u1.heap.size u1 u' → PW (fun g => g < u.heap.size) u.heap.size u1 q (start (n : Int) (qs.length : Int) 0 0) → Own ptrs 25 W.heap.size u' (.slice p1 qs.length c1) qs ∧ ∀ p' c' w', Own ptrs 25 W.heap.size w' (.slice p' (qs.length + 1) c') (qs ++ [q]) → (∀ k, (Value.slice p1 qs.length c1).ownBlock ≠ some k → k < u'.heap.size → w'.heap[k]? = u'.heap[k]?) → ((Value.slice p' (qs.length + 1) c').ownBlock = (Value.slice p1 qs.length c1).ownBlock ∨ (Value.slice p' (qs.length + 1) c').ownBlock = some u'.heap.size) → Below W.heap.size u' w' →
      (w'.cell? ⟨hb, 0, none⟩ = some (.int .i64 (n : Int)) ∧ w'.cell? ⟨hb, 1, none⟩ = some (.slice p1 qs.length c1) ∧ ∀ o, w'.frozen? ⟨hb, o, none⟩ = false) ∧ Hpt PW W hb n (qs ++ [q]) (w'.setCell ⟨hb, 1, none⟩ (.slice p' (qs.length + 1) c')) := by
  obtain ⟨F, y1, h1, h3, h4, h5⟩ := h
  obtain ⟨p1, c1, rfl, -⟩ := h1.o1.lies
  have row : ∀ {v : World}, v.heap[hb]? = some (.cells #[.int .i64 (n : Int), .slice p1 qs.length c1, .slice none 0 0, .slice none 0 0] 52 (0, 0)) → v.cell? ⟨hb, 0, none⟩ = some (.int .i64 (n : Int)) ∧ v.cell? ⟨hb, 1, none⟩ = some (.slice p1 qs.length c1) ∧ ∀ o, v.frozen? ⟨hb, o, none⟩ = false := fun k => ⟨by rw [cell_of_row _ hb 0 _ _ (0, 0) k]; rfl, by rw [cell_of_row _ hb 1 _ _ (0, 0) k]; rfl, fun _ => frozen_of k⟩
  refine ⟨p1, c1, row h1.hall, fun u' u1 q hu1 hu' hq => ?_⟩
  have hu : Below u.heap.size u u' := hu1.trans (hu'.mono hu1.size)
  have k := h1.on (Stays.below hu)
  refine ⟨k.o1, fun p' c' w' ho' hs hat hbw => ?_⟩
  have hC : W.heap.size ≤ u'.heap.size := Nat.le_trans h5.size hu.size
  have hlu := hu1.size
  have hlu' := hu'.size
  obtain ⟨a1, a2⟩ := k.elects ho' hs hat
  obtain ⟨b1, -⟩ := k.apart
  have hz : u'.heap.size ≤ (w'.setCell ⟨hb, 1, none⟩ (.slice p' (qs.length + 1) c')).heap.size := by simpa [World.setCell] using hbw.size
  have hqlt := P.lt hq
  have hbl := lt_heap h1.hall
  have hold : ∀ k, k < qs.length → PW F W.heap.size u' (qs.getD k 0) (start (n : Int) (k : Int) 0 0) := fun k hk => P.below (h4 k hk) hu
  refine ⟨row ((hs hb b1 (lt_heap k.hall)).trans k.hall), fun g => (F g ∧ g < u.heap.size) ∨ g = u'.heap.size, .slice p' (qs.length + 1) c', ?_, apart_snoc h3 (fun k hk e => ?_), fun j hj => ?_, ?_⟩
  · refine ⟨a1.hall, .inl ⟨h1.fh, hbl⟩, a1.low, a1.o1, a1.o2, a1.o3, fun g' hg' => ?_, fun g e => by simp [Value.ownBlock] at e, fun g e => by simp [Value.ownBlock] at e, fun x hx => by cases hx⟩
    rcases hat with e | e
    · rw [e] at hg'
      exact .inl ⟨h1.f1 _ hg', (own_lt h1.o1 hg').2.1⟩
    · rw [e] at hg'
      exact .inr (by simpa using hg'.symm)
  · have := (P.lt (h4 k hk)).2
    omega
  · simp only [List.length_append, List.length_cons, List.length_nil] at hj
    by_cases hj' : j < qs.length
    · have e : (qs ++ [q]).getD j 0 = qs.getD j 0 := by simp [List.getD, List.getElem?_append_left hj']
      rw [e]
      exact P.turned (hold j hj') ⟨hz, a2⟩ (fun g' hg' => hg'.imp (fun k => k.1) fun e => by omega)
    · obtain rfl : j = qs.length := by omega
      have e : (qs ++ [q]).getD qs.length 0 = q := by simp [List.getD]
      rw [e]
      refine P.turned (P.lower hq h5.size) ⟨Nat.le_trans hlu' hz, fun g' hg' hl => ?_⟩ (fun g' hg' => hg'.imp (fun k => k.2) fun e => by omega)
      have hge : u.heap.size ≤ g' := by omega
      have hnb : (Value.slice p1 qs.length c1).ownBlock ≠ some g' := fun e => by have := (own_lt h1.o1 e).2.1; omega
      refine (Below.heap_setCell _ _ _ _ (by show g' ≠ hb; omega)).trans ((hs g' hnb (by omega)).trans (hu'.block g' hl))
  · exact ((h5.trans (hu.mono h5.size)).trans hbw).setCell k.low _
/-- It is made. -/
theorem Hpt.done (h : Hpt PW W hb n qs u) (hn : qs.length = n) : Hst PW W hb qs ⟨n, fun k => start (n : Int) (k : Int) 0 0, [], []⟩ [] u := by
  obtain ⟨F, y1, h1, h3, h4, h5⟩ := h
  exact ⟨F, y1, _, _, h1, hn, h3, fun k hk => h4 k (by rw [hn]; exact hk), h5⟩
end
theorem inv_start {n : Nat} (hn : 1 ≤ n ∧ n ≤ 9) : Inv ⟨n, fun k => start (n : Int) (k : Int) 0 0, [], []⟩ :=
  ⟨hn, fun k hk => ⟨good_start (okNew_iff.2 ⟨by omega, ⟨by omega, by have : k < n := hk
                                                                     omega⟩, by omega, by omega⟩), rfl, rfl⟩, fun f hf => by (cases hf), fun i _ hb => absurd rfl hb, fun b hb => by (cases hb)⟩
theorem born_ok {n k : Nat} (hn : 1 ≤ n ∧ n ≤ 9) (hk : k < n) : okNew (n : Int) (k : Int) 0 0 = true := okNew_iff.2 ⟨by omega, by omega, by omega, by omega⟩
end Go.Proofs.Ythehbphpchmdiaa.Elect
