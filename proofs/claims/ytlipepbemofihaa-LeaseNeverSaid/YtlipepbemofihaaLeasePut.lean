/-
  The document's Put, of any wallet of up to 1000 leases.
-/
import Derived.Test.YtlipepbemofihaaLeaseLeft
namespace Go.Proofs.Ytlipepbemofihaa.Lease
open Go.RowKit
open _root_.Go.Proofs.Ytlipepbemofihaa.Codec (lt_of_heap frozen_of heap_set below_new)

/-- What is laid behind the first j: done or not. -/
def laid (x : Lz) : List Lz → List Lz × Bool
  | l => l.foldl (fun s y => if s.2 = false ∧ x.key < y.key then (s.1 ++ [x] ++ [y], true) else (s.1 ++ [y], s.2)) ([], false)
theorem laid_snoc (x : Lz) (l : List Lz) (y : Lz) : laid x (l ++ [y]) = if (laid x l).2 = false ∧ x.key < y.key then ((laid x l).1 ++ [x] ++ [y], true) else ((laid x l).1 ++ [y], (laid x l).2) := by simp [laid]
theorem laid_len (x : Lz) (l : List Lz) : (laid x l).1.length ≤ l.length + 1 ∧ ((laid x l).2 = false → (laid x l).1 = l) := by
  have key : ∀ (l : List Lz) (s : List Lz × Bool), (l.foldl (fun s y => if s.2 = false ∧ x.key < y.key then (s.1 ++ [x] ++ [y], true) else (s.1 ++ [y], s.2)) s).1.length ≤ s.1.length + l.length + (if s.2 then 0 else 1) ∧ ((l.foldl (fun s y => if s.2 = false ∧ x.key < y.key then (s.1 ++ [x] ++ [y], true) else (s.1 ++ [y], s.2)) s).2 = false → (l.foldl (fun s y => if s.2 = false ∧ x.key < y.key then (s.1 ++ [x] ++ [y], true) else (s.1 ++ [y], s.2)) s).1 = s.1 ++ l) := by
    intro l
    induction l with
    | nil => intro s; simp
    | cons y l ih =>
      intro s
      rw [List.foldl_cons]
      obtain ⟨a, d⟩ := s
      cases d
      · by_cases hk : x.key < y.key
        · have := ih (a ++ [x] ++ [y], true)
          simp only [hk, and_self, if_true, List.length_append, List.length_cons, List.length_nil] at this ⊢
          refine ⟨by simp at this ⊢; omega, fun e => ?_⟩
          have h2 : ∀ (l : List Lz) (s : List Lz), (l.foldl (fun s y => if s.2 = false ∧ x.key < y.key then (s.1 ++ [x] ++ [y], true) else (s.1 ++ [y], s.2)) (s, true)).2 = true := by
            intro l
            induction l with
            | nil => intro s; rfl
            | cons z l ih => intro s; rw [List.foldl_cons]; simpa using ih (s ++ [z])
          rw [h2] at e
          cases e
        · have := ih (a ++ [y], false)
          simp only [hk, and_false, if_false, List.length_append, List.length_cons, List.length_nil] at this ⊢
          exact ⟨by simp at this ⊢; omega, fun e => by rw [this.2 e]; simp⟩
      · have := ih (a ++ [y], true)
        simp only [Bool.true_eq_false, false_and, if_false, List.length_append, List.length_cons, List.length_nil] at this ⊢
        exact ⟨by simp at this ⊢; omega, fun e => by rw [this.2 e]; simp⟩
  have := key l ([], false)
  simpa [laid] using this
theorem laid_all (x : Lz) (l : List Lz) : (if (laid x l).2 = true then (laid x l).1 else (laid x l).1 ++ [x]) = ins x l := by
  have yes : ∀ (l s : List Lz), l.foldl (fun s y => if s.2 = false ∧ x.key < y.key then (s.1 ++ [x] ++ [y], true) else (s.1 ++ [y], s.2)) (s, true) = (s ++ l, true) := by
    intro l
    induction l with
    | nil => intro s; simp
    | cons z l ih => intro s; rw [List.foldl_cons]; simp only [Bool.true_eq_false, false_and, if_false]; rw [ih]; simp
  have no : ∀ (l s : List Lz), (if (l.foldl (fun s y => if s.2 = false ∧ x.key < y.key then (s.1 ++ [x] ++ [y], true) else (s.1 ++ [y], s.2)) (s, false)).2 = true then (l.foldl (fun s y => if s.2 = false ∧ x.key < y.key then (s.1 ++ [x] ++ [y], true) else (s.1 ++ [y], s.2)) (s, false)).1 else (l.foldl (fun s y => if s.2 = false ∧ x.key < y.key then (s.1 ++ [x] ++ [y], true) else (s.1 ++ [y], s.2)) (s, false)).1 ++ [x]) = s ++ ins x l := by
    intro l
    induction l with
    | nil => intro s; simp [ins]
    | cons z l ih =>
      intro s
      rw [List.foldl_cons]
      by_cases hk : x.key < z.key
      · simp only [hk, and_self, if_true]
        rw [yes]
        simp [ins, hk]
      · simp only [hk, and_false, if_false]
        rw [ih]
        simp [ins, hk]
  have := no l []
  simpa [laid] using this
set_option maxRecDepth 100000 in
set_option maxHeartbeats 4000000 in
theorem rput_no {B v : Nat} {l : List Lz} {w : World} (h : Wl B w v l) (hB : B ≤ w.heap.size) (x : Lz) (hx : wrong x) :
    Calls Try.prog 18 #[.pointer (some ⟨v, 0, none⟩), val x] w fun e w' => e = .returned (.int .i64 1) ∧ Step B w v l w' := by
  have HS := Lib.hid (fun u (hu : Below w.heap.size w u) => Step.same h hB hu)
  obtain ⟨b0, b1, b2, b3, b4⟩ := box5 (heap_alloc_new w (.cells #[.int .i64 x.key, .int .i64 x.gen, .int .i64 x.amount, .int .i64 x.spent, .int .i64 x.til] 52))
  have HB := Lib.hid ((Below.refl w.heap.size w).alloc (Nat.le_refl _) (.cells #[.int .i64 x.key, .int .i64 x.gen, .int .i64 x.amount, .int .i64 x.spent, .int .i64 x.til] 52))
  obtain ⟨xk, xg, xa, xs, xt⟩ := x
  unfold wrong at hx
  simp only at hx b0 b1 b2 b3 b4 HB
  have hc : xg < 1 ∨ ¬ xg < 1 ∧ (xa < 1 ∨ ¬ xa < 1 ∧ ((xs != 0) = true ∨ (xs != 0) = false ∧ xt < 0)) := by
    by_cases h1 : xg < 1
    · exact .inl h1
    · by_cases h2 : xa < 1
      · exact .inr ⟨h1, .inl h2⟩
      · by_cases h3 : xs = 0
        · exact .inr ⟨h1, .inr ⟨h2, .inr ⟨by simp [h3], by omega⟩⟩⟩
        · exact .inr ⟨h1, .inr ⟨h2, .inl (by simp [h3])⟩⟩
  clear h hx
  simp only [val]
  rcases hc with h1 | ⟨h1, h2 | ⟨h2, h3 | ⟨h3, h4⟩⟩⟩
  all_goals
    go_enter Try.func18, Try.ntmps18
    go_wp2
    go_ret
    exact ⟨rfl, HS.out _ HB.out⟩

set_option maxRecDepth 100000 in
set_option maxHeartbeats 4000000 in
theorem rput_twice {B v : Nat} {l : List Lz} {w : World} (h : Wl B w v l) (hB : B ≤ w.heap.size) (hl : l.length ≤ 1000) (x : Lz) (hx : ¬ wrong x) (hp : 0 ≤ place l x.key) :
    Calls Try.prog 18 #[.pointer (some ⟨v, 0, none⟩), val x] w fun e w' => e = .returned (.int .i64 5) ∧ Step B w v l w' := by
  have HS := Lib.hid (fun u (hu : Below w.heap.size w u) => Step.same h hB hu)
  obtain ⟨b0, b1, b2, b3, b4⟩ := box5 (heap_alloc_new w (.cells #[.int .i64 x.key, .int .i64 x.gen, .int .i64 x.amount, .int .i64 x.spent, .int .i64 x.til] 52))
  have HB := Lib.hid ((Below.refl w.heap.size w).alloc (Nat.le_refl _) (.cells #[.int .i64 x.key, .int .i64 x.gen, .int .i64 x.amount, .int .i64 x.spent, .int .i64 x.til] 52))
  have HA := rat_any (h.below HB.out) hl x.key
  generalize place l x.key = P at *
  obtain ⟨xk, xg, xa, xs, xt⟩ := x
  unfold wrong at hx
  simp only at hx b0 b1 b2 b3 b4 HB HA
  have h1 : ¬ xg < 1 := by omega
  have h2 : ¬ xa < 1 := by omega
  have h3 : (xs != 0) = false := by simp; omega
  have h4 : ¬ xt < 0 := by omega
  clear h hx
  simp only [val]
  go_enter Try.func18, Try.ntmps18
  go_wp2_with (go_at_call 27; (with_reducible refine HA.mono ?_); rintro e w1 ⟨rfl, hb⟩; have HB1 := Lib.hid (HB.out.trans (hb.mono HB.out.size)); clear hb HA)
  go_ret
  exact ⟨rfl, HS.out _ HB1.out⟩

set_option maxRecDepth 100000 in
set_option maxHeartbeats 4000000 in
theorem rput_ok {B v : Nat} {l : List Lz} {w : World} (h : Wl B w v l) (hB : B ≤ w.heap.size) (hl : l.length ≤ 1000) (x : Lz) (hx : ¬ wrong x) (hp : ¬ 0 ≤ place l x.key) :
    Calls Try.prog 18 #[.pointer (some ⟨v, 0, none⟩), val x] w fun e w' => e = .returned (.int .i64 0) ∧ Step B w v (ins x l) w' := by
  have HV := Lib.hid h
  have HBB := Lib.hid hB
  have K := heap_alloc_new w (.cells #[.int .i64 x.key, .int .i64 x.gen, .int .i64 x.amount, .int .i64 x.spent, .int .i64 x.til] 52)
  have HB := Lib.hid ((Below.refl w.heap.size w).alloc (Nat.le_refl _) (.cells #[.int .i64 x.key, .int .i64 x.gen, .int .i64 x.amount, .int .i64 x.spent, .int .i64 x.til] 52))
  have HA := rat_any (h.below HB.out) hl x.key
  have HI := Lib.hid (laid_all x l)
  have HLS := Lib.hid (laid_snoc x)
  have HLL := Lib.hid (laid_len x)
  generalize place l x.key = P at *
  generalize ins x l = R at *
  have HL0 := Lib.hid (show laid x [] = ([], false) from rfl)
  generalize laid x = LD at *
  obtain ⟨xk, xg, xa, xs, xt⟩ := x
  unfold wrong at hx
  simp only at hx K HB HA HLS
  obtain ⟨b0, b1, b2, b3, b4⟩ := box5 K
  have h1 : ¬ xg < 1 := by omega
  have h2 : ¬ xa < 1 := by omega
  have h3 : (xs != 0) = false := by simp; omega
  have h4 : ¬ xt < 0 := by omega
  have HK := Lib.hid K
  clear h hx hB K
  simp only [val]
  go_enter Try.func18, Try.ntmps18
  go_wp2_with (go_at_call 27; (with_reducible refine HA.mono ?_); rintro e w1 ⟨rfl, hb⟩; have HB1 := Lib.hid (HB.out.trans (hb.mono HB.out.size)); have HK1 := Lib.hid ((hb.block _ (lt_of_heap HK.out)).trans HK.out); clear hb HA HK b0 b1 b2 b3 b4)
  clear HB
  go_loopw [5, 6, 7] (fun y d k wr => ∃ (j : Nat) (p : Option Addr) (c n : Nat), j ≤ l.length ∧ k = .int .i64 (j : Int) ∧ y = .slice p n c ∧ d = .bool (LD (l.take j)).2 ∧ Hid (Own 52 w1.heap.size wr y (LD (l.take j)).1) ∧ Hid ((LD (l.take j)).1.length = n) ∧ Below w1.heap.size w1 wr) (fun _ _ k _ => l.length - (intOf k).toNat)
  case atStart => exact ⟨0, none, 0, 0, by omega, rfl, rfl, by rw [List.take_zero, HL0.out], by rw [List.take_zero, HL0.out]; exact Lib.hid (Own.none _ _ _), by rw [List.take_zero, HL0.out]; exact Lib.hid rfl, Below.refl _ _⟩
  case round =>
    obtain ⟨j, p, c, n, hj, rfl, rfl, rfl, hown, hn, hbw⟩ := hrel
    obtain ⟨q, cq, c1', hr⟩ := (HV.out.below HB1.out).cell
    have HR := Lib.hid hr
    have c1 := cell_on c1' hbw
    have HBW := Lib.hid hbw
    have HBX := Lib.hid (fun u (hu : Below w1.heap.size w1 u) => box5 ((hu.block _ (lt_of_heap HK1.out)).trans HK1.out))
    obtain ⟨b0, b1, b2, b3, b4⟩ := HBX.out _ hbw
    have hn2 : n ≤ 1001 := by
      have := (HLL.out (l.take j)).1
      rw [hn.out] at this
      have h5 : (l.take j).length ≤ l.length := by simp; omega
      omega
    have HC1 := Lib.hid c1'
    clear hr c1'
    by_cases hlt : j < l.length
    · obtain ⟨b, o, rfl, hat⟩ := lies_at HR.out hlt
      obtain ⟨k0, k1, k2, k3, k4⟩ := hat.below hbw
      have HAT := Lib.hid hat
      clear hat hbw
      have hlt' : (j : Int) < (l.length : Int) := by omega
      have hls := HLS.out (l.take j) (l.getD j z)
      rw [← take_snoc hlt] at hls
      generalize hx : l.getD j z = y at k0 k1 k2 k3 k4 hls HAT
      generalize hS : LD (l.take j) = S at *
      generalize hS' : LD (l.take (j + 1)) = S' at *
      have HS' := Lib.hid hS'
      obtain ⟨L, D⟩ := S
      obtain ⟨yk, yg, ya, ys, yt⟩ := y
      simp only at k0 k1 k2 k3 k4 hls hown hn
      clear hx hS hS'
      have HX : Hid (∀ u, Below w1.heap.size w1 u → (u.cell? ⟨b, o + j * 5, none⟩ = some (.int .i64 yk) ∧ u.cell? ⟨b, o + j * 5 + 1, none⟩ = some (.int .i64 yg) ∧ u.cell? ⟨b, o + j * 5 + 2, none⟩ = some (.int .i64 ya) ∧ u.cell? ⟨b, o + j * 5 + 3, none⟩ = some (.int .i64 ys) ∧ u.cell? ⟨b, o + j * 5 + 4, none⟩ = some (.int .i64 yt)) ∧ u.cell? ⟨v, 0, none⟩ = some (.slice (some ⟨b, o, none⟩) l.length cq)) := fun u hu => ⟨HAT.out.below hu, cell_on HC1.out hu⟩
      clear HAT HC1
      clear HR
      cases D with
      | true =>
        simp only [Bool.true_eq_false, false_and, if_false] at hls
        have HE := Lib.hid hls
        clear hls
        go_wp2
        go_quiet (fail)
        go_wp2_with (at_builtin; refine push_lease rfl (.tmp 59) (.tmp 67) rfl w1 wr (.slice p n c) rfl L n hn.out hown.out HBW.out (below_drewN wr _) wr.heap.size ⟨yk, yg, ya, ys, yt⟩ rfl (heap_alloc_new _ _) (by omega) ?_; intro p4 c4 w4 R4 B4)
        go_roundw
        case rel => exact ⟨j + 1, p4, c4, n + 1, by omega, by go_num, rfl, by rw [HS'.out, HE.out], by rw [HS'.out, HE.out]; exact R4, by rw [HS'.out, HE.out]; exact Lib.hid (by simp [hn.out]), B4⟩
        case measure => simp [intOf]; omega
      | false =>
        by_cases hk : xk < yk
        · simp only [hk, and_self, if_true] at hls
          have HE := Lib.hid hls
          clear hls
          go_wp2
          go_quiet (fail)
          have HN2 := Lib.hid (show (L ++ [(⟨xk, xg, xa, xs, xt⟩ : Lz)]).length = n + 1 by simp [hn.out])
          go_wp2_with (at_builtin; first
            | (refine push_lease rfl (.tmp 55) (.tmp 57) rfl w1 wr (.slice p n c) rfl L n hn.out hown.out HBW.out (below_drewN wr _) wr.heap.size ⟨xk, xg, xa, xs, xt⟩ rfl (heap_alloc_new _ _) (by omega) ?_; intro p3 c3 w3 R3 B3; clear k0 k1 k2 k3 k4 c1 b0 b1 b2 b3 b4; obtain ⟨⟨k0, k1, k2, k3, k4⟩, c1⟩ := HX.out _ B3; have HB3 := Lib.hid B3; clear B3)
            | (refine push_lease rfl (.tmp 59) (.tmp 67) rfl w1 w3 (.slice p3 (n + 1) c3) rfl (L ++ [⟨xk, xg, xa, xs, xt⟩]) (n + 1) HN2.out R3.out HB3.out (Below.refl _ _) w3.heap.size ⟨yk, yg, ya, ys, yt⟩ rfl (heap_alloc_new _ _) (by omega) ?_; intro p4 c4 w4 R4 B4))
          go_roundw
          case rel => exact ⟨j + 1, p4, c4, n + 2, by omega, by go_num, rfl, by rw [HS'.out, HE.out], by rw [HS'.out, HE.out]; exact R4, by rw [HS'.out, HE.out]; exact Lib.hid (by simp [hn.out]), B4⟩
          case measure => simp [intOf]; omega
        · simp only [hk, and_false, if_false] at hls
          have HE := Lib.hid hls
          clear hls
          go_wp2
          go_quiet (fail)
          go_wp2_with (at_builtin; refine push_lease rfl (.tmp 59) (.tmp 67) rfl w1 wr (.slice p n c) rfl L n hn.out hown.out HBW.out (below_drewN wr _) wr.heap.size ⟨yk, yg, ya, ys, yt⟩ rfl (heap_alloc_new _ _) (by omega) ?_; intro p4 c4 w4 R4 B4)
          go_roundw
          case rel => exact ⟨j + 1, p4, c4, n + 1, by omega, by go_num, rfl, by rw [HS'.out, HE.out], by rw [HS'.out, HE.out]; exact R4, by rw [HS'.out, HE.out]; exact Lib.hid (by simp [hn.out]), B4⟩
          case measure => simp [intOf]; omega
    · have hj' : l.take j = l := List.take_of_length_le (by omega)
      have hlt' : ¬ (j : Int) < (l.length : Int) := by omega
      rw [hj'] at hown hn ⊢
      have hi := HI.out
      generalize LD l = S at *
      obtain ⟨L, D⟩ := S
      simp only at hown hn hi ⊢
      have HSI := Lib.hid hi
      have HSZ := Lib.hid HB1.out.size
      have HST : Hid (∀ (u : World) (y : Value), Below w1.heap.size w1 u → Own 52 w1.heap.size u y R → u.frozen? ⟨v, 0, none⟩ = false ∧ (∃ z, u.cell? ⟨v, 0, none⟩ = some z) ∧ Hid (Step B w v R (u.setCell ⟨v, 0, none⟩ y))) := fun u y hu ho => HV.out.store HBB.out (HB1.out.trans (hu.mono HB1.out.size)) (Codec.own_lower ho HB1.out.size)
      clear HR HI hi
      cases D with
      | true =>
        have e : L = R := by have := HSI.out; simpa using this
        subst e
        obtain ⟨f0, ⟨u0, d0⟩, G⟩ := HST.out _ _ hbw hown.out
        clear HSI HST hown hbw HBX HC1
        go_wp2
        go_ret
        exact ⟨rfl, G.out⟩
      | false =>
        have e : L ++ [⟨xk, xg, xa, xs, xt⟩] = R := by have := HSI.out; simpa using this
        clear HSI hbw
        go_wp2_with (at_builtin; refine push_lease rfl (.tmp 71) (.tmp 73) rfl w1 wr (.slice p n c) rfl L n hn.out hown.out HBW.out (Below.refl _ _) wr.heap.size ⟨xk, xg, xa, xs, xt⟩ rfl (heap_alloc_new _ _) (by omega) ?_; intro p3 c3 w3 R3 B3; obtain ⟨f0, ⟨u0, d0⟩, G⟩ := HST.out _ _ B3 (by rw [← e]; exact R3.out); clear B3 R3 HST c1)
        go_ret
        exact ⟨rfl, G.out⟩

/-- Put, of any lease. -/
theorem rput_any {B v : Nat} {l : List Lz} {w : World} (h : Wl B w v l) (hB : B ≤ w.heap.size) (hl : l.length ≤ 1000) (x : Lz) :
    Calls Try.prog 18 #[.pointer (some ⟨v, 0, none⟩), val x] w fun e w' => e = .returned (.int .i64 (put l x).2) ∧ Step B w v (put l x).1 w' := by
  unfold put
  split
  · rename_i hx
    exact rput_no h hB x hx
  · rename_i hx
    split
    · rename_i hp
      exact rput_twice h hB hl x hx hp
    · rename_i hp
      exact rput_ok h hB hl x hx hp
end Go.Proofs.Ytlipepbemofihaa.Lease
