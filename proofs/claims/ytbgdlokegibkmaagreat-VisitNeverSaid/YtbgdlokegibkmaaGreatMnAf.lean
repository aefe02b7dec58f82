/-
  What is asked of the program's queue, whatever its blocks are: a predicate on memory, and what each call tells and leaves (Way12); the live question.
  The program's stampsMayBe, leasesMayBe and rowMayBe: each returns what the plain functions of FramePlain give; of what lay when the call began nothing has turned.
  The program's Table and Token: each returns what the plain functions of FramePlain give; of what lay when the call began nothing has turned.
  Words for memory: ints, leases and rows that lie ahead of a block, or in blocks of a type; what of them stays behind a call. No condition beyond those that each names.
-/
import Derived.Deep.RegionHeld3
import Derived.Test.YtbgdlokegibkmaaGreatMnAb
import Derived.Test.YtbgdlokegibkmaaGreatMnAe
import Derived.Test.YtbgdlokegibkmaaGreatMnAc
namespace Go.Proofs.YtbgdlokegibkmaaGreat.Queue
open Go.RowKit
open _root_.Go.Proofs.YtbgdlokegibkmaaGreat.Codec (lt_of_heap frozen_of heap_set own_below)
open _root_.Go.Proofs.YtbgdlokegibkmaaGreat.Kit (Enc Lies Own At Kept Laid Off cell_on lt_heap take_snoc below_drewN box5 ints)
/-- The document's blocks. -/
abbrev mine : List TypeId := [90, 113]
/-- The first one of a list. -/
def head : List It → It × Bool
  | [] => (z, false)
  | x :: _ => (x, true)
/-- Of: blocks that are none of the queue's, where these begin, the world, the queue's address, its room, its items. -/
abbrev Pw := (Nat → Prop) → Nat → World → Nat → Int → List It → Prop
/-- The program's queue moves. -/
structure Moved (PW : Pw) (F : Nat → Prop) (B : Nat) (w : World) (q : Nat) (room : Int) (l : List It) (w' : World) : Prop where
  pw : PW F B w' q room l
  off : Off mine w w'
  below : Below B w w'
  rest : ∀ g, F g → g < w.heap.size → w'.heap[g]? = w.heap[g]?
structure Way12 (PW : Pw) : Prop where
  below : ∀ {F B w q room l w'}, PW F B w q room l → Below w.heap.size w w' → PW F B w' q room l
  kept : ∀ {F B w q room l w'}, PW F B w q room l → Kept [90] w w' → Below B w w' → PW F B w' q room l
  sub : ∀ {F G B w q room l}, PW F B w q room l → (∀ g, G g → F g) → PW G B w q room l
  grow : ∀ {F B w q room l w'}, PW F B w q room l → Below w.heap.size w w' → PW (fun g => F g ∨ w.heap.size ≤ g ∧ g < w'.heap.size) B w' q room l
  new : ∀ room w, 0 ≤ room → room ≤ 16 → Calls Tryz.prog 79 #[.int .i64 room] w fun e w' => ∃ q, e = .returned (.tuple #[.pointer (some ⟨q, 0, none⟩), .int .i64 0]) ∧ PW (fun g => g < w.heap.size) w.heap.size w' q room [] ∧ Below w.heap.size w w'
  newno : ∀ room w, (room < 0 ∨ 16 < room) → Calls Tryz.prog 79 #[.int .i64 room] w fun e w' => e = .returned (.tuple #[.pointer none, .int .i64 1]) ∧ Below w.heap.size w w'
  put : ∀ {F B w q room l}, PW F B w q room l → B ≤ w.heap.size → Good room l → l.length ≤ 16 → ∀ x, Nums x → Calls Tryz.prog 89 #[.pointer (some ⟨q, 0, none⟩), val x] w fun e w' => e = .returned (.int .i64 (put room l x).2) ∧ Moved PW F B w q room (put room l x).1 w'
  take : ∀ {F B w q room l}, PW F B w q room l → B ≤ w.heap.size → Good room l → l.length ≤ 16 → ∀ id, Num id → Calls Tryz.prog 162 #[.pointer (some ⟨q, 0, none⟩), .int .i64 id] w fun e w' => e = .returned (.tuple #[val (take l id).2.1, .bool (take l id).2.2]) ∧ Moved PW F B w q room (take l id).1 w'
  first : ∀ {F B w q room l}, PW F B w q room l → Good room l → l.length ≤ 16 → ∀ key, Num key → Calls Tryz.prog 86 #[.pointer (some ⟨q, 0, none⟩), .int .i64 key] w fun e w' => e = .returned (.tuple #[val (head (of l key)).1, .bool (head (of l key)).2]) ∧ Below w.heap.size w w'
  of : ∀ {F B w q room l}, PW F B w q room l → Good room l → l.length ≤ 16 → ∀ key, Num key → Calls Tryz.prog 138 #[.pointer (some ⟨q, 0, none⟩), .int .i64 key] w fun e w' => ∃ p c, e = .returned (.slice p (of l key).length c) ∧ Lies item w' p (of l key) ∧ Below w.heap.size w w'
  keys : ∀ {F B w q room l}, PW F B w q room l → Good room l → l.length ≤ 16 → Calls Tryz.prog 159 #[.pointer (some ⟨q, 0, none⟩)] w fun e w' => ∃ p c, e = .returned (.slice p (keys l).length c) ∧ Lies ints w' p (keys l) ∧ Below w.heap.size w w'
  sum : ∀ {F B w q room l}, PW F B w q room l → Good room l → l.length ≤ 16 → ∀ key, Num key → Calls Tryz.prog 200 #[.pointer (some ⟨q, 0, none⟩), .int .i64 key] w fun e w' => e = .returned (.int .i64 (sum l key)) ∧ Below w.heap.size w w'
  all : ∀ {F B w q room l}, PW F B w q room l → Good room l → l.length ≤ 16 → Calls Tryz.prog 36 #[.pointer (some ⟨q, 0, none⟩)] w fun e w' => ∃ p c, e = .returned (.slice p l.length c) ∧ Lies item w' p l ∧ Below w.heap.size w w'
  nput : ∀ x w, Calls Tryz.prog 89 #[.pointer none, val x] w fun e w' => e = .returned (.int .i64 1) ∧ Below w.heap.size w w'
  ntake : ∀ id w, Calls Tryz.prog 162 #[.pointer none, .int .i64 id] w fun e w' => e = .returned (.tuple #[val z, .bool false]) ∧ Below w.heap.size w w'
  nfirst : ∀ key w, Calls Tryz.prog 86 #[.pointer none, .int .i64 key] w fun e w' => e = .returned (.tuple #[val z, .bool false]) ∧ Below w.heap.size w w'
  nof : ∀ key w, Calls Tryz.prog 138 #[.pointer none, .int .i64 key] w fun e w' => ∃ p c, e = .returned (.slice p 0 c) ∧ Below w.heap.size w w'
  nkeys : ∀ w, Calls Tryz.prog 159 #[.pointer none] w fun e w' => ∃ p c, e = .returned (.slice p 0 c) ∧ Below w.heap.size w w'
  nsum : ∀ key w, Calls Tryz.prog 200 #[.pointer none, .int .i64 key] w fun e w' => e = .returned (.int .i64 0) ∧ Below w.heap.size w w'
  nall : ∀ w, Calls Tryz.prog 36 #[.pointer none] w fun e w' => ∃ p c, e = .returned (.slice p 0 c) ∧ Below w.heap.size w w'
theorem lay (w : World) (o : Obj) : Below w.heap.size w (w.alloc o) := (Below.refl _ _).alloc (Nat.le_refl _) o
def x1 : It := ⟨1, 5, 3, 2, 9⟩
def x2 : It := ⟨2, 5, 4, 0, 7⟩
def x3 : It := ⟨3, 5, 4, 0, 7⟩
end Go.Proofs.YtbgdlokegibkmaaGreat.Queue

namespace Go.Proofs.YtbgdlokegibkmaaGreat.Frame
open Go.RowKit Codec
/-- The node ahead of the j-th lease. -/
def lastOf (l : List (Int × Int)) (j : Nat) : Int := if j = 0 then -1 else (l.getD (j - 1) (0, 0)).1
theorem lease_no {l : List (Int × Int)} {j : Nat} (h : (l.getD j (0, 0)).1 ≤ lastOf l j ∨ isIn (l.getD j (0, 0)).1 0 63 = false ∨ isIn (l.getD j (0, 0)).2 1 2147483648 = false) : leaseAt l j = false := by
  rcases h with h | h | h
  · unfold lastOf at h
    by_cases hj : j = 0
    · rw [if_pos hj] at h
      exact lease_false (.inl (by unfold isIn; exact decide_eq_false (by omega)))
    · rw [if_neg hj] at h
      exact lease_false (.inr (.inr ⟨by omega, h⟩))
  · exact lease_false (.inl h)
  · exact lease_false (.inr (.inl h))
theorem lease_yes {l : List (Int × Int)} {j : Nat} (h : lastOf l j < (l.getD j (0, 0)).1) (h0 : isIn (l.getD j (0, 0)).1 0 63 = true) (h1 : isIn (l.getD j (0, 0)).2 1 2147483648 = true) : leaseAt l j = true := by
  refine lease_true h0 h1 ?_
  unfold lastOf at h
  by_cases hj : j = 0
  · exact .inl hj
  · rw [if_neg hj] at h
    exact .inr h
theorem lastOf_succ (l : List (Int × Int)) (j : Nat) : lastOf l (j + 1) = (l.getD j (0, 0)).1 := by simp [lastOf]
theorem leases_rise (l : List (Int × Int)) (n : Nat) (h : ∀ q, q < n → leaseAt l q = true) : ∀ q, q < n → (q : Int) ≤ (l.getD q (0, 0)).1 ∧ (l.getD q (0, 0)).1 ≤ 63 := by
  intro q
  induction q with
  | zero =>
    intro hq
    have := h 0 hq
    unfold leaseAt at this
    simp only [Bool.and_eq_true] at this
    have := isIn_yes this.1.1
    omega
  | succ q ih =>
    intro hq
    have h1 := ih (by omega)
    have := h (q + 1) hq
    unfold leaseAt at this
    simp only [Bool.and_eq_true, Bool.or_eq_true, Nat.add_sub_cancel] at this
    have h2 := isIn_yes this.1.1
    rcases this.2 with h3 | h3
    · simp at h3
    · have := of_decide_eq_true h3
      omega
theorem leases_few (l : List (Int × Int)) (h : allTo (leaseAt l) l.length = true) : l.length ≤ 64 := by
  by_cases h0 : l.length = 0
  · omega
  · have h1 : ∀ q, q < l.length → leaseAt l q = true := by
      intro q hq
      rw [allTo, List.all_eq_true] at h
      exact h q (List.mem_range.2 hq)
    have := leases_rise l l.length h1 (l.length - 1) (by omega)
    omega
theorem rowOk_eq (r : Rw) (start : Int) : rowOk r start = (isKey r.key && isIn r.avail 0 2147483648 && isIn r.mark start 4611686018427387904 && allTo (leaseAt r.out) r.out.length) := by
  unfold rowOk
  cases h : allTo (leaseAt r.out) r.out.length with
  | false => simp
  | true =>
    have := leases_few r.out h
    rw [decide_eq_true this, Bool.and_true]
set_option maxRecDepth 100000 in
set_option maxHeartbeats 1000000 in
theorem leases_any (p : Option Addr) (l : List (Int × Int)) (c : Nat) (w : World) (hn : (l.length : Int) ≤ 9223372036854775807) (hl : LeasesAt w p l) :
    Calls Tryz.prog 185 #[.slice p l.length c] w (Asked w (allTo (leaseAt l) l.length)) := by
  generalize hB : allTo (leaseAt l) l.length = R
  have HB := Lib.hid hB
  have HL := Lib.hid hl
  clear hB hl
  go_enter Tryz.func185, Tryz.ntmps185
  go_wp2
  go_loopw [3, 8] (fun la i wr => ∃ j : Nat, j ≤ l.length ∧ la = .int .i64 (lastOf l j) ∧ i = .int .i64 (j : Int) ∧ Hid (∀ q, q < j → leaseAt l q = true) ∧ Below w.heap.size w wr) (fun _ i _ => l.length - (intOf i).toNat)
  case atStart => exact ⟨0, by omega, rfl, rfl, (by intro q hq; omega), Below.refl _ _⟩
  case round =>
    obtain ⟨j, hj, rfl, rfl, hok, hb⟩ := hrel
    have hlw : LeasesAt wr p l := HL.out.below hb
    by_cases hlt : j < l.length
    · obtain ⟨g, o, rfl, hc⟩ : ∃ g o, p = some ⟨g, o, none⟩ ∧ ∀ j, j < l.length → wr.cell? ⟨g, o + j * 2, none⟩ = some (.int .i64 (l.getD j (0, 0)).1) ∧ wr.cell? ⟨g, o + j * 2 + 1, none⟩ = some (.int .i64 (l.getD j (0, 0)).2) := by
        rcases hlw with h | h
        · rw [h] at hlt; simp at hlt
        · exact h
      have hc0 := (hc j hlt).1
      have hc1 := (hc j hlt).2
      have hgl : g < wr.heap.size := World.block_lt_of_cell? _ _ hc0
      have hlf := Lib.hid (lease_no (l := l) (j := j))
      have hlt2 := Lib.hid (lease_yes (l := l) (j := j))
      have hls := Lib.hid (lastOf_succ l j)
      generalize (l.getD j (0, 0)).1 = x at hc0 hlf hlt2 hls
      generalize (l.getD j (0, 0)).2 = y at hc1 hlf hlt2
      generalize lastOf l j = z at hlf hlt2
      clear hlw hc
      have hb1 : Below w.heap.size w (wr.alloc (.cells #[.int .i64 x, .int .i64 y] 141)) := hb.alloc hb.size _
      have HB1 := Lib.hid hb1
      have c1 := fun u => isnode_any x u
      have c2 := fun u => within_any y 1 2147483648 u
      clear hb1
      by_cases hz : x ≤ z
      · obtain rfl : R = false := by rw [← HB.out]; exact allTo_false hlt (hlf.out (.inl hz))
        have hd : decide (x ≤ z) = true := decide_eq_true hz
        clear hlf hlt2 hz hls c1 c2
        go_wp2
        go_ret
        exact ⟨rfl, HB1.out⟩
      · have hd : decide (x ≤ z) = false := decide_eq_false hz
        cases hx : isIn x 0 63 with
        | false =>
          obtain rfl : R = false := by rw [← HB.out]; exact allTo_false hlt (hlf.out (.inr (.inl hx)))
          rw [hx] at c1
          clear hlf hlt2 hz hls hx
          go_wp2_with (go_at_call 211; (with_reducible refine (c1 _).mono ?_); rintro e w1 ⟨rfl, rfl⟩)
          go_ret
          exact ⟨rfl, HB1.out⟩
        | true =>
          cases hy : isIn y 1 2147483648 with
          | false =>
            obtain rfl : R = false := by rw [← HB.out]; exact allTo_false hlt (hlf.out (.inr (.inr hy)))
            rw [hx] at c1
            rw [hy] at c2
            clear hlf hlt2 hz hls hx hy
            go_wp2_with (first
              | (go_at_call 211; (with_reducible refine (c1 _).mono ?_); rintro e w1 ⟨rfl, rfl⟩)
              | (go_at_call 142; (with_reducible refine (c2 _).mono ?_); rintro e w1 ⟨rfl, rfl⟩))
            go_ret
            exact ⟨rfl, HB1.out⟩
          | true =>
            have HJ := Lib.hid (hlt2.out (by omega) hx hy)
            rw [hx] at c1
            rw [hy] at c2
            clear hlf hlt2 hz hx hy
            go_wp2_with (first
              | (go_at_call 211; (with_reducible refine (c1 _).mono ?_); rintro e w1 ⟨rfl, rfl⟩)
              | (go_at_call 142; (with_reducible refine (c2 _).mono ?_); rintro e w1 ⟨rfl, rfl⟩))
            go_roundw
            case rel => exact ⟨j + 1, by omega, by rw [hls.out], by go_num, (by intro q hq; rcases Nat.lt_succ_iff_lt_or_eq.1 hq with h | h; exact hok.out q h; rw [h]; exact HJ.out), HB1.out⟩
            case measure => simp [intOf]; omega
    · obtain rfl : j = l.length := by omega
      obtain rfl : R = true := by rw [← HB.out]; exact allTo_true hok.out
      go_wp2
      go_ret
      exact ⟨rfl, hb⟩
set_option maxRecDepth 100000 in
set_option maxHeartbeats 1000000 in
theorem stamps_any (p : Option Addr) (l : List Int) (c : Nat) (w : World) (hn : (l.length : Int) ≤ 9223372036854775807) (hl : Ints w p l) :
    Calls Tryz.prog 95 #[.slice p l.length c] w fun e w' => e = .returned (.bool (isIn l.length 1 64 && stampsOk l l.length)) ∧ w = w' := by
  have c0 := fun u => within_any l.length 1 64 u
  generalize isIn l.length 1 64 = h at c0 ⊢
  cases h with
  | false =>
    rw [Bool.false_and]
    clear hl
    go_enter Tryz.func95, Tryz.ntmps95
    go_wp2_with (go_at_call 142; (with_reducible refine (c0 _).mono ?_); rintro e w1 ⟨rfl, rfl⟩)
    go_ret
    exact ⟨rfl, rfl⟩
  | true =>
    rw [Bool.true_and]
    unfold stampsOk
    generalize hB : allTo (fun i => isIn (l.getD i 0) (-1) 4611686018427387903) l.length = R
    have HB := Lib.hid hB
    have HL := Lib.hid hl
    clear hB hl
    go_enter Tryz.func95, Tryz.ntmps95
    go_wp2_with (go_at_call 142; (with_reducible refine (c0 _).mono ?_); rintro e w1 ⟨rfl, rfl⟩)
    clear c0
    go_loop [11] (fun i => ∃ j : Nat, j ≤ l.length ∧ i = .int .i64 (j : Int) ∧ Hid (∀ q, q < j → isIn (l.getD q 0) (-1) 4611686018427387903 = true)) (fun i => l.length - (intOf i).toNat)
    case atStart => exact ⟨0, by omega, rfl, (by intro q hq; omega)⟩
    case round =>
      obtain ⟨j, hj, rfl, hok⟩ := hrel
      by_cases hlt : j < l.length
      · obtain ⟨g, o, rfl, hc⟩ : ∃ g o, p = some ⟨g, o, none⟩ ∧ ∀ j, j < l.length → w.cell? ⟨g, o + j, none⟩ = some (.int .i64 (l.getD j 0)) := by
          rcases HL.out with h | h
          · rw [h] at hlt; simp at hlt
          · exact h
        have hcj := hc j hlt
        have ci := fun u => within_any (l.getD j 0) (-1) 4611686018427387903 u
        have HJ := Lib.hid (show ∀ bo, isIn (l.getD j 0) (-1) 4611686018427387903 = bo → (bo = false → R = false) ∧ (bo = true → ∀ q, q < j + 1 → isIn (l.getD q 0) (-1) 4611686018427387903 = true) from fun bo hbo =>
          ⟨fun h => by rw [← HB.out]; exact allTo_false hlt (by rw [hbo]; exact h), fun h q hq => by
            rcases Nat.lt_succ_iff_lt_or_eq.1 hq with h1 | h1
            · exact hok.out q h1
            · rw [h1, hbo]; exact h⟩)
        have HJ2 := Lib.hid (HJ.out _ rfl)
        generalize isIn (l.getD j 0) (-1) 4611686018427387903 = b at ci HJ2
        generalize l.getD j 0 = x at hcj ci
        clear hc HJ
        cases b with
        | false =>
          obtain rfl := HJ2.out.1 rfl
          clear HJ2
          go_wp2_with (go_at_call 142; (with_reducible refine (ci _).mono ?_); rintro e w1 ⟨rfl, rfl⟩)
          go_ret
          exact ⟨rfl, rfl⟩
        | true =>
          have HK := Lib.hid (HJ2.out.2 rfl)
          clear HJ2
          go_wp2_with (go_at_call 142; (with_reducible refine (ci _).mono ?_); rintro e w1 ⟨rfl, rfl⟩)
          go_round
          case rel => exact ⟨j + 1, by omega, by go_num, HK⟩
          case measure => simp [intOf]; omega
      · obtain rfl : j = l.length := by omega
        obtain rfl : R = true := by rw [← HB.out]; exact allTo_true hok.out
        go_wp2
        go_ret
        exact ⟨rfl, rfl⟩
set_option maxRecDepth 100000 in
set_option maxHeartbeats 1000000 in
theorem prow_core (k a m start : Int) (p : Option Addr) (n c : Nat) (w : World) (b0 b1 b2 b3 R : Bool) (h1 : isKey k = b0) (h2 : isIn a 0 2147483648 = b1) (h3 : isIn m start 4611686018427387904 = b2)
    (hl : ∀ u, Below w.heap.size w u → Calls Tryz.prog 185 #[.slice p n c] u (Asked u b3)) (hR : (b0 && b1 && b2 && b3) = R) :
    Calls Tryz.prog 143 #[.agg #[.int .i64 k, .int .i64 a, .int .i64 m, .slice p n c], .int .i64 start] w (Asked w R) := by
  have ck := fun u => ckey_any k u
  have ca := fun u => within_any a 0 2147483648 u
  have cm := fun u => within_any m start 4611686018427387904 u
  rw [h1] at ck
  rw [h2] at ca
  rw [h3] at cm
  clear h1 h2 h3
  have fin : Below w.heap.size w (w.alloc (.cells #[.int .i64 k, .int .i64 a, .int .i64 m, .slice p n c] 80)) := (Below.refl _ _).alloc (Nat.le_refl _) _
  have hl2 := hl _ fin
  clear hl
  rcases and4 hR with ⟨rfl, rfl⟩ | ⟨rfl, rfl, rfl⟩ | ⟨rfl, rfl, rfl, rfl⟩ | ⟨rfl, rfl, rfl, rfl, rfl⟩ | ⟨rfl, rfl, rfl, rfl, rfl⟩
  all_goals
    clear hR
    go_enter Tryz.func143, Tryz.ntmps143
    go_wp2_with (first
      | (go_at_call 134; (with_reducible refine (ck _).mono ?_); rintro e w1 ⟨rfl, rfl⟩)
      | (go_at_call 142; (with_reducible refine (ca _).mono ?_); rintro e w1 ⟨rfl, rfl⟩)
      | (go_at_call 142; (with_reducible refine (cm _).mono ?_); rintro e w1 ⟨rfl, rfl⟩)
      | (go_at_call 185; (with_reducible refine hl2.mono ?_); rintro e w1 ⟨rfl, hb1⟩; replace fin := fin.trans (hb1.mono fin.size); clear hb1))
    go_ret
    exact ⟨rfl, fin⟩
/-- rowMayBe, whole. -/
theorem prow_any (r : Rw) (start : Int) (p : Option Addr) (c : Nat) (w : World) (hn : (r.out.length : Int) ≤ 9223372036854775807) (hl : LeasesAt w p r.out) :
    Calls Tryz.prog 143 #[.agg #[.int .i64 r.key, .int .i64 r.avail, .int .i64 r.mark, .slice p r.out.length c], .int .i64 start] w (Asked w (rowOk r start)) :=
  prow_core _ _ _ _ _ _ _ _ _ _ _ _ _ rfl rfl rfl (fun u hu => leases_any p r.out c u hn (hl.below hu)) (rowOk_eq r start).symm
end Go.Proofs.YtbgdlokegibkmaaGreat.Frame

namespace Go.Proofs.YtbgdlokegibkmaaGreat.Frame
open Go.RowKit Codec
/-- The key ahead of the j-th row. -/
def lastKey (l : List Rw) (j : Nat) : Int := if j = 0 then -1 else (l.getD (j - 1) noRow).key
theorem rowAt_no {l : List Rw} {s : Int} {j : Nat} (h : (l.getD j noRow).key ≤ lastKey l j ∨ rowOk (l.getD j noRow) s = false) : rowAt l s j = false := by
  rcases h with h | h
  · unfold lastKey at h
    by_cases hj : j = 0
    · rw [if_pos hj] at h
      refine rowAt_false (.inl ?_)
      have : isKey (l.getD j noRow).key = false := by unfold isKey; exact decide_eq_false (by omega)
      rw [rowOk_eq, this]
      rfl
    · rw [if_neg hj] at h
      exact rowAt_false (.inr ⟨by omega, h⟩)
  · exact rowAt_false (.inl h)
theorem rowAt_yes {l : List Rw} {s : Int} {j : Nat} (h : lastKey l j < (l.getD j noRow).key) (h0 : rowOk (l.getD j noRow) s = true) : rowAt l s j = true := by
  refine rowAt_true h0 ?_
  unfold lastKey at h
  by_cases hj : j = 0
  · exact .inl hj
  · rw [if_neg hj] at h
    exact .inr h
theorem lastKey_succ (l : List Rw) (j : Nat) : lastKey l (j + 1) = (l.getD j noRow).key := by simp [lastKey]
set_option maxRecDepth 100000 in
theorem ptable_no (start : Int) (p : Option Addr) (n c : Nat) (w : World) (h : (isIn start 0 4611686018427387904 && decide (n ≤ 16)) = false) :
    Calls Tryz.prog 96 #[.agg #[.int .i64 start, .slice p n c]] w (Asked w false) := by
  have ci := fun u => within_any start 0 4611686018427387904 u
  generalize isIn start 0 4611686018427387904 = b at ci h
  have h4 : b = false ∨ (b = true ∧ 16 < (n : Int)) := by
    cases b <;> simp at h ⊢
    omega
  clear h
  rcases h4 with rfl | ⟨rfl, h5⟩
  · go_enter Tryz.func96, Tryz.ntmps96
    go_wp2_with (go_at_call 142; (with_reducible refine (ci _).mono ?_); rintro e w1 ⟨rfl, rfl⟩)
    go_ret
    exact ⟨rfl, (Below.refl _ _).alloc (Nat.le_refl _) _⟩
  · go_enter Tryz.func96, Tryz.ntmps96
    go_wp2_with (go_at_call 142; (with_reducible refine (ci _).mono ?_); rintro e w1 ⟨rfl, rfl⟩)
    go_ret
    exact ⟨rfl, (Below.refl _ _).alloc (Nat.le_refl _) _⟩
set_option maxRecDepth 100000 in
set_option maxHeartbeats 2000000 in
theorem ptable_yes (start : Int) (p : Option Addr) (l : List Rw) (c : Nat) (w : World) (h : isIn start 0 4611686018427387904 = true) (hn : l.length ≤ 16) (hl : RowsAt w p l) (hs : ∀ r ∈ l, (r.out.length : Int) ≤ 9223372036854775807) :
    Calls Tryz.prog 96 #[.agg #[.int .i64 start, .slice p l.length c]] w (Asked w (allTo (rowAt l start) l.length)) := by
  have ci := fun u => within_any start 0 4611686018427387904 u
  rw [h] at ci
  have HL := Lib.hid hl
  have HS := Lib.hid hs
  clear h hl hs
  generalize hB : allTo (rowAt l start) l.length = R
  have HB := Lib.hid hB
  clear hB
  go_enter Tryz.func96, Tryz.ntmps96
  go_wp2_with (go_at_call 142; (with_reducible refine (ci _).mono ?_); rintro e w1 ⟨rfl, rfl⟩)
  generalize hw0 : w.alloc (.cells #[.int .i64 start, .slice p l.length c] 28) = w0
  have b0 : Below w.heap.size w w0 := by rw [← hw0]; exact (Below.refl _ _).alloc (Nat.le_refl _) _
  have k0 : w0.cell? ⟨w.heap.size, 0, none⟩ = some (.int .i64 start) := by
    rw [← hw0, cell_of_row _ _ 0 _ _ (0, 0) (heap_alloc_new w _)]; rfl
  have HK0 := Lib.hid k0
  clear hw0 k0 ci
  go_loopw [3, 19] (fun la i wr => ∃ j : Nat, j ≤ l.length ∧ la = .int .i64 (lastKey l j) ∧ i = .int .i64 (j : Int) ∧ Hid (∀ q, q < j → rowAt l start q = true) ∧ Below w0.heap.size w0 wr) (fun _ i _ => l.length - (intOf i).toNat)
  case atStart => exact ⟨0, by omega, rfl, rfl, (by intro q hq; omega), Below.refl _ _⟩
  case round =>
    obtain ⟨j, hj, rfl, rfl, hok, hb⟩ := hrel
    have c0 : wr.cell? ⟨w.heap.size, 0, none⟩ = some (.int .i64 start) := cell_on HK0.out hb
    have hlw : RowsAt wr p l := (HL.out.below b0).below hb
    by_cases hlt : j < l.length
    · obtain ⟨g, o, rfl, hc⟩ : ∃ g o, p = some ⟨g, o, none⟩ ∧ ∀ j, j < l.length → RowAt wr g (o + j * 4) (l.getD j noRow) := by
        rcases hlw with h | h
        · rw [h] at hlt; simp at hlt
        · exact h
      obtain ⟨d0, d1, d2, p3, c3, d3, hle⟩ := hc j hlt
      have hro := HS.out (l.getD j noRow) (by simp [List.getD, hlt])
      have hrow := fun (u : World) (hu : Below wr.heap.size wr u) => prow_any (l.getD j noRow) start p3 c3 u hro (hle.below hu)
      have hrf := Lib.hid (rowAt_no (l := l) (s := start) (j := j))
      have hrt := Lib.hid (rowAt_yes (l := l) (s := start) (j := j))
      have hks := Lib.hid (lastKey_succ l j)
      generalize lastKey l j = z at hrf hrt
      generalize l.getD j noRow = r at d0 d1 d2 d3 hle hrow hrf hrt hro hks
      obtain ⟨x, av, mk, out⟩ := r
      simp only at d0 d1 d2 d3 hle hrow hrf hrt hro hks
      have hgl : g < wr.heap.size := World.block_lt_of_cell? _ _ d0
      have hwl : w.heap.size < wr.heap.size := World.block_lt_of_cell? _ _ c0
      clear hlw hc hle hro
      generalize hR : rowOk ⟨x, av, mk, out⟩ start = br at hrow hrf hrt
      clear hR
      have hb1 : Below wr.heap.size wr (wr.alloc (.cells #[.int .i64 x, .int .i64 av, .int .i64 mk, .slice p3 out.length c3] 80)) := (Below.refl _ _).alloc (Nat.le_refl _) _
      have hrow2 := hrow _ hb1
      have HB1 := Lib.hid hb1
      have knew : (wr.alloc (.cells #[.int .i64 x, .int .i64 av, .int .i64 mk, .slice p3 out.length c3] 80)).cell? ⟨wr.heap.size, 0, none⟩ = some (.int .i64 x) := by
        rw [cell_of_row _ _ 0 _ _ (0, 0) (heap_alloc_new wr _)]; rfl
      have HKN := Lib.hid knew
      clear hrow hb1 knew
      by_cases hz : x ≤ z
      · obtain rfl : R = false := by rw [← HB.out]; exact allTo_false hlt (hrf.out (.inl hz))
        have hd : decide (x ≤ z) = true := decide_eq_true hz
        clear hrf hrt hz hks hrow2
        go_wp2
        go_ret
        exact ⟨rfl, b0.trans ((hb.trans (HB1.out.mono hb.size)).mono b0.size)⟩
      · have hd : decide (x ≤ z) = false := decide_eq_false hz
        cases br with
        | false =>
          obtain rfl : R = false := by rw [← HB.out]; exact allTo_false hlt (hrf.out (.inr rfl))
          clear hrf hrt hz hks
          go_wp2_with (go_at_call 143; (with_reducible refine hrow2.mono ?_); rintro e w1 ⟨rfl, hb2⟩; have HB2 := Lib.hid hb2; clear hb2)
          go_ret
          exact ⟨rfl, b0.trans ((hb.trans ((HB1.out.trans (HB2.out.mono HB1.out.size)).mono hb.size)).mono b0.size)⟩
        | true =>
          have HJ := Lib.hid (hrt.out (by omega) rfl)
          clear hrf hrt hz
          go_wp2_with (go_at_call 143; (with_reducible refine hrow2.mono ?_); rintro e w1 ⟨rfl, hb2⟩; have HB2 := Lib.hid hb2; have kx := cell_on HKN.out hb2; clear hb2)
          go_roundw
          case rel => exact ⟨j + 1, by omega, by rw [hks.out], by go_num, (by intro q hq; rcases Nat.lt_succ_iff_lt_or_eq.1 hq with h | h; exact hok.out q h; rw [h]; exact HJ.out), hb.trans ((HB1.out.trans (HB2.out.mono HB1.out.size)).mono hb.size)⟩
          case measure => simp [intOf]; omega
    · obtain rfl : j = l.length := by omega
      obtain rfl : R = true := by rw [← HB.out]; exact allTo_true hok.out
      go_wp2
      go_ret
      exact ⟨rfl, b0.trans (hb.mono b0.size)⟩
/-- Table, of any. -/
theorem ptable_any (t : Tb) (p : Option Addr) (c : Nat) (w : World) (hl : RowsAt w p t.rows) (hs : Small t.rows) :
    Calls Tryz.prog 96 #[.agg #[.int .i64 t.start, .slice p t.rows.length c]] w (Asked w (tableOk t)) := by
  unfold tableOk
  cases h : (isIn t.start 0 4611686018427387904 && decide (t.rows.length ≤ 16)) with
  | false =>
    rw [Bool.false_and]
    exact ptable_no _ _ _ _ _ h
  | true =>
    rw [Bool.true_and]
    rw [Bool.and_eq_true] at h
    exact ptable_yes _ _ _ _ _ h.1 (of_decide_eq_true h.2) hl hs
set_option maxRecDepth 100000 in
set_option maxHeartbeats 1000000 in
theorem ptoken_core (g h s : Int) (ps p : Option Addr) (n cs m c : Nat) (w : World) (b0 b1 b2 b3 R : Bool) (h0 : isIn g 1 1099511627776 = b0) (h1 : isIn h 0 1099511627776 = b1)
    (hst : ∀ u, Below w.heap.size w u → Calls Tryz.prog 95 #[.slice ps n cs] u fun e w' => e = .returned (.bool b2) ∧ u = w')
    (htb : ∀ u, Below w.heap.size w u → Calls Tryz.prog 96 #[.agg #[.int .i64 s, .slice p m c]] u (Asked u b3)) (hR : (b0 && b1 && b2 && b3) = R) :
    Calls Tryz.prog 52 #[.agg #[.int .i64 g, .int .i64 h, .slice ps n cs, .int .i64 s, .slice p m c]] w (Asked w R) := by
  have cg := fun u => gen_any g u
  have ch := fun u => hop_any h u
  rw [h0] at cg
  rw [h1] at ch
  clear h0 h1
  have fin : Below w.heap.size w (w.alloc (.cells #[.int .i64 g, .int .i64 h, .slice ps n cs, .int .i64 s, .slice p m c] 30)) := (Below.refl _ _).alloc (Nat.le_refl _) _
  have hs2 := hst _ fin
  have ht2 := htb _ fin
  clear hst htb
  rcases and4 hR with ⟨rfl, rfl⟩ | ⟨rfl, rfl, rfl⟩ | ⟨rfl, rfl, rfl, rfl⟩ | ⟨rfl, rfl, rfl, rfl, rfl⟩ | ⟨rfl, rfl, rfl, rfl, rfl⟩
  all_goals
    clear hR
    go_enter Tryz.func52, Tryz.ntmps52
    go_wp2_with (first
      | (go_at_call 93; (with_reducible refine (cg _).mono ?_); rintro e w1 ⟨rfl, rfl⟩)
      | (go_at_call 94; (with_reducible refine (ch _).mono ?_); rintro e w1 ⟨rfl, rfl⟩)
      | (go_at_call 95; (with_reducible refine hs2.mono ?_); rintro e w1 ⟨rfl, rfl⟩)
      | (go_at_call 96; (with_reducible refine ht2.mono ?_); rintro e w1 ⟨rfl, hb1⟩; replace fin := fin.trans (hb1.mono fin.size); clear hb1))
    go_ret
    exact ⟨rfl, fin⟩
/-- Token, of any. -/
theorem ptoken_any (t : Tk) (ps p : Option Addr) (cs c : Nat) (w : World) (hn : (t.stamps.length : Int) ≤ 9223372036854775807) (hst : Ints w ps t.stamps) (hl : RowsAt w p t.table.rows) (hs : Small t.table.rows) :
    Calls Tryz.prog 52 #[.agg #[.int .i64 t.gen, .int .i64 t.hop, .slice ps t.stamps.length cs, .int .i64 t.table.start, .slice p t.table.rows.length c]] w (Asked w (tokenOk t)) :=
  ptoken_core _ _ _ _ _ _ _ _ _ _ _ _ _ _ _ rfl rfl (fun u hu => stamps_any ps t.stamps cs u hn (hst.below hu)) (fun u hu => ptable_any t.table p c u (hl.below hu) hs) (by
    unfold tokenOk tokenHead
    simp only [Bool.and_assoc])
end Go.Proofs.YtbgdlokegibkmaaGreat.Frame

namespace Go.Proofs.YtbgdlokegibkmaaGreat.Frame
open Go.RowKit Codec
/-- Blocks ahead of B stay, and blocks of type T. -/
def Kp (B : Nat) (T : TypeId) (w w' : World) : Prop := B ≤ w.heap.size ∧ (∀ g, g < B → w'.heap[g]? = w.heap[g]?) ∧ Stays T w w'
section
variable {B : Nat} {T : TypeId} {w w' w'' : World}
theorem Kp.below (hb : Below w.heap.size w w') (hB : B ≤ w.heap.size) : Kp B T w w' := ⟨hB, fun g hg => hb.block g (by omega), .below hb⟩
theorem Kp.grown {b : Nat} {cs : Array Value} {z : Nat × Nat} {T' : TypeId} (hb : w.heap[b]? = some (.cells cs T' z)) (hT : T' ≠ T) (hB : B ≤ b) (hg : w.grownBy w' (some b)) : Kp B T w w' :=
  ⟨Nat.le_of_lt (Nat.lt_of_le_of_lt hB (lt_of_heap hb)), fun g h => hg.block g (Nat.lt_trans (Nat.lt_of_lt_of_le h hB) (lt_of_heap hb)) (by simp; omega), .grown hb hT hg⟩
/-- Where a block may lie: ahead of B, or it is of type T. -/
def Lies2 (B : Nat) (T : TypeId) (w : World) (g : Nat) : Prop := g < B ∨ ∃ cs z, w.heap[g]? = some (Obj.cells cs T z)
theorem Lies2.cell {g o : Nat} (h : Lies2 B T w g) (k : Kp B T w w') : w'.cell? ⟨g, o, none⟩ = w.cell? ⟨g, o, none⟩ := by
  have e : w'.heap[g]? = w.heap[g]? := by
    rcases h with h | ⟨cs, z, h⟩
    · exact k.2.1 g h
    · rw [h]; exact k.2.2 g cs z h
  simp [World.cell?, e]
theorem Lies2.keep {g : Nat} (h : Lies2 B T w g) (k : Kp B T w w') : Lies2 B T w' g := by
  rcases h with h | ⟨cs, z, h⟩
  · exact .inl h
  · exact .inr ⟨cs, z, k.2.2 g cs z h⟩
def LeasesS (B : Nat) (w : World) (p : Option Addr) (l : List (Int × Int)) : Prop :=
  l = [] ∨ ∃ b o, p = some ⟨b, o, none⟩ ∧ Lies2 B 141 w b ∧ ∀ j, j < l.length → w.cell? ⟨b, o + j * 2, none⟩ = some (.int .i64 (l.getD j (0, 0)).1) ∧ w.cell? ⟨b, o + j * 2 + 1, none⟩ = some (.int .i64 (l.getD j (0, 0)).2)
def RowS (B : Nat) (w : World) (b o : Nat) (r : Rw) : Prop :=
  w.cell? ⟨b, o, none⟩ = some (.int .i64 r.key) ∧ w.cell? ⟨b, o + 1, none⟩ = some (.int .i64 r.avail) ∧ w.cell? ⟨b, o + 2, none⟩ = some (.int .i64 r.mark) ∧
    ∃ p c, w.cell? ⟨b, o + 3, none⟩ = some (.slice p r.out.length c) ∧ LeasesS B w p r.out
def RowsS (B : Nat) (w : World) (p : Option Addr) (l : List Rw) : Prop :=
  l = [] ∨ ∃ b o, p = some ⟨b, o, none⟩ ∧ Lies2 B 80 w b ∧ ∀ j, j < l.length → RowS B w b (o + j * 4) (l.getD j noRow)
theorem LeasesS.leases {p : Option Addr} {l : List (Int × Int)} (h : LeasesS B w p l) : LeasesAt w p l := by
  rcases h with h | ⟨b, o, h, _, hc⟩
  · exact .inl h
  · exact .inr ⟨b, o, h, hc⟩
theorem RowS.row {b o : Nat} {r : Rw} (h : RowS B w b o r) : RowAt w b o r := by
  obtain ⟨h0, h1, h2, p, c, h3, h4⟩ := h
  exact ⟨h0, h1, h2, p, c, h3, h4.leases⟩
theorem RowsS.rows {p : Option Addr} {l : List Rw} (h : RowsS B w p l) : RowsAt w p l := by
  rcases h with h | ⟨b, o, h, _, hc⟩
  · exact .inl h
  · exact .inr ⟨b, o, h, fun j hj => (hc j hj).row⟩
theorem LeasesS.of {p : Option Addr} {l : List (Int × Int)} (h : LeasesAt w p l) : LeasesS w.heap.size w p l := by
  by_cases h0 : l = []
  · exact .inl h0
  · rcases h with h | ⟨b, o, h, hc⟩
    · exact .inl h
    · exact .inr ⟨b, o, h, .inl (World.block_lt_of_cell? _ _ (hc 0 (List.length_pos_iff.2 h0)).1), hc⟩
theorem RowS.of {b o : Nat} {r : Rw} (h : RowAt w b o r) : RowS w.heap.size w b o r := by
  obtain ⟨h0, h1, h2, p, c, h3, h4⟩ := h
  exact ⟨h0, h1, h2, p, c, h3, .of h4⟩
theorem LeasesS.keep {p : Option Addr} {l : List (Int × Int)} (h : LeasesS B w p l) (k : Kp B 141 w w') : LeasesS B w' p l := by
  rcases h with h | ⟨b, o, h, hl, hc⟩
  · exact .inl h
  · exact .inr ⟨b, o, h, hl.keep k, fun j hj => ⟨(hl.cell k).trans (hc j hj).1, (hl.cell k).trans (hc j hj).2⟩⟩
theorem RowS.keep {b o : Nat} {r : Rw} (h : RowS B w b o r) (hl : Lies2 B 80 w b) (k : Kp B 80 w w') (k' : Kp B 141 w w') : RowS B w' b o r := by
  obtain ⟨h0, h1, h2, p, c, h3, h4⟩ := h
  exact ⟨(hl.cell k).trans h0, (hl.cell k).trans h1, (hl.cell k).trans h2, p, c, (hl.cell k).trans h3, h4.keep k'⟩
theorem RowsS.keep {p : Option Addr} {l : List Rw} (h : RowsS B w p l) (k : Kp B 80 w w') (k' : Kp B 141 w w') : RowsS B w' p l := by
  rcases h with h | ⟨b, o, h, hl, hc⟩
  · exact .inl h
  · exact .inr ⟨b, o, h, hl.keep k, fun j hj => (hc j hj).keep hl k k'⟩
theorem Lies2.lower {B' g : Nat} (h : Lies2 B T w g) (hB : B ≤ B') : Lies2 B' T w g := by
  rcases h with h | h
  · exact .inl (by omega)
  · exact .inr h
theorem LeasesS.lower {B' : Nat} {p : Option Addr} {l : List (Int × Int)} (h : LeasesS B w p l) (hB : B ≤ B') : LeasesS B' w p l := by
  rcases h with h | ⟨b, o, h, hl, hc⟩
  · exact .inl h
  · exact .inr ⟨b, o, h, hl.lower hB, hc⟩
/-- A row of cells, as they lie. -/
theorem cells_of (w : World) (b o m : Nat) (h : ∀ j, j < m → ∃ u, w.cell? ⟨b, o + j, none⟩ = some u ∧ u.oneCell' = true) :
    ∃ xs : List Value, xs.length = m ∧ (∀ j u, xs[j]? = some u → w.cell? ((⟨b, o, none⟩ : Addr).add j) = some u) ∧ (∀ j, j < m → ∃ u, xs[j]? = some u ∧ w.cell? ⟨b, o + j, none⟩ = some u) ∧ ∀ u ∈ xs, u.oneCell' = true := by
  induction m with
  | zero => exact ⟨[], rfl, by simp, by intro j hj; omega, by simp⟩
  | succ m ih =>
    obtain ⟨xs, h1, h2, h3, h4⟩ := ih (fun j hj => h j (by omega))
    obtain ⟨u, hu, ho⟩ := h m (by omega)
    refine ⟨xs ++ [u], by simp [h1], fun j v hj => ?_, fun j hj => ?_, fun v hv => ?_⟩
    · by_cases hlt : j < xs.length
      · rw [List.getElem?_append_left hlt] at hj
        exact h2 j v hj
      · rw [List.getElem?_append_right (by omega)] at hj
        have : j = m := by
          by_cases hjm : j - xs.length = 0
          · omega
          · rw [List.getElem?_eq_none (by simp; omega)] at hj; cases hj
        subst this
        rw [h1, Nat.sub_self] at hj
        simp only [List.getElem?_cons_zero, Option.some.injEq] at hj
        rw [add_at, ← hj]
        exact hu
    · by_cases hlt : j < m
      · obtain ⟨v, hv, hc⟩ := h3 j hlt
        exact ⟨v, by rw [List.getElem?_append_left (by omega)]; exact hv, hc⟩
      · obtain rfl : j = m := by omega
        exact ⟨u, by rw [List.getElem?_append_right (by omega), h1, Nat.sub_self]; rfl, hu⟩
    · rcases List.mem_append.1 hv with hv | hv
      · exact h4 v hv
      · simp only [List.mem_singleton] at hv
        rw [hv]; exact ho
end
end Go.Proofs.YtbgdlokegibkmaaGreat.Frame
