/-
  QueuePlays returns true, whatever the program's queue is, if its calls do what is asked of them.
-/
import Derived.Test.YtdcclmellabnlaaQueueStep
namespace Go.Proofs.Ytdcclmellabnlaa.Queue
open Go.RowKit
open _root_.Go.Proofs.Ytdcclmellabnlaa.Codec (lt_of_heap frozen_of heap_set below_new own_below)
open _root_.Go.Proofs.Ytdcclmellabnlaa.Kit (Enc Lies Own At Kept Laid Off cell_on lt_heap take_snoc below_drewN box5 ints)

/-- The six cells of an act. -/
def ActAt (w : World) (b o : Nat) (a : Ac) : Prop := w.cell? ⟨b, o, none⟩ = some (.int .u8 a.kind) ∧ w.cell? ⟨b, o + 1, none⟩ = some (.int .i64 a.x.id) ∧ w.cell? ⟨b, o + 2, none⟩ = some (.int .i64 a.x.key) ∧ w.cell? ⟨b, o + 3, none⟩ = some (.int .i64 a.x.cost) ∧ w.cell? ⟨b, o + 4, none⟩ = some (.int .i64 a.x.cls) ∧ w.cell? ⟨b, o + 5, none⟩ = some (.int .i64 a.x.til)
def ActsAt (w : World) (p : Option Addr) (l : List Ac) : Prop := l = [] ∨ ∃ b o, p = some ⟨b, o, none⟩ ∧ ∀ j, j < l.length → ActAt w b (o + j * 6) (l.getD j za)
theorem ActAt.below {w w' : World} {b o : Nat} {a : Ac} (h : ActAt w b o a) (hb : Below w.heap.size w w') : ActAt w' b o a :=
  ⟨cell_on h.1 hb, cell_on h.2.1 hb, cell_on h.2.2.1 hb, cell_on h.2.2.2.1 hb, cell_on h.2.2.2.2.1 hb, cell_on h.2.2.2.2.2 hb⟩
theorem acts_at {w : World} {p : Option Addr} {l : List Ac} (h : ActsAt w p l) {j : Nat} (hj : j < l.length) : ∃ b o, p = some ⟨b, o, none⟩ ∧ ActAt w b (o + j * 6) (l.getD j za) := by
  rcases h with h | ⟨b, o, e, hc⟩
  · rw [h] at hj; simp at hj
  · exact ⟨b, o, e, hc j hj⟩
/-- The items behind the first j acts. -/
def st (room : Int) (l : List Ac) (j : Nat) : List It := (l.take j).foldl (fun s a => actOf room s a) []
theorem st_zero (room : Int) (l : List Ac) : st room l 0 = [] := by simp [st]
theorem st_succ (room : Int) (l : List Ac) {j : Nat} (h : j < l.length) : st room l (j + 1) = actOf room (st room l j) (l.getD j za) := by
  unfold st
  rw [take_snoc za h, List.foldl_append]
  rfl
theorem st_good {room : Int} (hr : 0 ≤ room) (l : List Ac) (hn : ∀ a ∈ l, AcNum a) : ∀ j, j ≤ l.length → Good room (st room l j)
  | 0, _ => by rw [st_zero]; exact good_nil hr
  | j + 1, h => by
    have hm : l.getD j za ∈ l := by simp [List.getD, show j < l.length by omega]
    rw [st_succ room l (by omega)]
    exact good_act (st_good hr l hn j (by omega)) (hn _ hm)
theorem good_len {room : Int} {l : List It} (h : Good room l) (hr : room ≤ 16) : l.length ≤ 16 := by have := h.room; omega
/-- Two lists of numbers that are one. -/
theorem rsame_ints {l : List Int} {p q : Option Addr} {c d : Nat} {w : World} (h : Lies ints w p l) (h' : Lies ints w q l) (hl : l.length ≤ 1000) :
    Calls Try.prog 14 #[.slice p l.length c, .slice q l.length d] w fun e w' => e = .returned (.bool true) ∧ Below w.heap.size w w' := by
  have HB := Lib.hid (Below.refl w.heap.size w)
  have HL := Lib.hid h
  have HM := Lib.hid h'
  clear h h'
  have hne : ((l.length : Int) != (l.length : Int)) = false := by simp
  go_enter Try.func14, Try.ntmps14
  go_wp2
  go_loopw [5] (fun i wr => ∃ j : Nat, j ≤ l.length ∧ i = .int .i64 (j : Int) ∧ Hid (Below w.heap.size w wr)) (fun i _ => l.length - (intOf i).toNat)
  case atStart => exact ⟨0, by omega, rfl, HB⟩
  case round =>
    obtain ⟨j, hj, rfl, hbw⟩ := hrel
    by_cases hlt : j < l.length
    · obtain ⟨b, o, rfl, k0⟩ := ints_at (HL.out.below hbw.out) hlt
      obtain ⟨b', o', rfl, x0⟩ := ints_at (HM.out.below hbw.out) hlt
      have hlt' : (j : Int) < (l.length : Int) := by omega
      clear HL HM
      generalize l.getD j 0 = x at *
      have heq : (x != x) = false := by simp
      go_wp2
      go_quiet (fail)
      go_wp2
      go_roundw
      case rel => exact ⟨j + 1, by omega, by go_num, Lib.hid (hbw.out.trans ((below_drewN _ _).mono hbw.out.size))⟩
      case measure => simp only [intOf]; omega
    · have hlt' : ¬ (j : Int) < (l.length : Int) := by omega
      clear HL HM
      go_wp2
      go_ret
      exact ⟨rfl, hbw.out⟩
theorem rright_any (room : Int) (w : World) : Calls Try.prog 7 #[.int .i64 room] w fun e w' => e = .returned (.bool (decide (0 ≤ room ∧ room ≤ 16))) ∧ w = w' := by
  have hc : (decide (0 ≤ room) = false ∧ decide (0 ≤ room ∧ room ≤ 16) = false) ∨ (decide (0 ≤ room) = true ∧ decide (room ≤ 16) = decide (0 ≤ room ∧ room ≤ 16)) := by
    by_cases h : 0 ≤ room
    · exact .inr ⟨by simpa using h, by simp [h]⟩
    · exact .inl ⟨by simpa using h, by simp [h]⟩
  generalize decide (0 ≤ room ∧ room ≤ 16) = R at *
  rcases hc with ⟨h1, rfl⟩ | ⟨h1, rfl⟩
  all_goals
    go_enter Try.func7, Try.ntmps7
    go_wp2
    go_ret
    exact ⟨by simp [], rfl⟩
/-- A round: all that is asked of it. -/
structure Round (PW : Pw) (W : World) (q v : Nat) (room : Int) (s : List It) (a : Ac) (key : Int) : Prop where
  step : ∀ u, Qst PW (fun _ => False) W q v room s s u → Calls Try.prog 8 #[.pointer (some ⟨q, 0, none⟩), .pointer (some ⟨v, 0, none⟩), actVal a] u fun e w' => e = .returned (.bool true) ∧ Qst PW (fun _ => False) W q v room (actOf room s a) (actOf room s a) w'
  all : ∀ u, Qst PW (fun _ => False) W q v room (actOf room s a) (actOf room s a) u → Calls Try.prog 11 #[.pointer (some ⟨q, 0, none⟩)] u fun e w' => ∃ p c, e = .returned (.slice p (actOf room s a).length c) ∧ Lies item w' p (actOf room s a) ∧ Below u.heap.size u w'
  lof : ∀ u p c, Lies item u p (actOf room s a) → Calls Try.prog 10 #[.slice p (actOf room s a).length c] u fun e w' => ∃ p' c', e = .returned (.slice p' (actOf room s a).length c') ∧ Lies item w' p' (actOf room s a) ∧ Below u.heap.size u w'
  same : ∀ u p c p' c', Lies item u p (actOf room s a) → Lies item u p' (actOf room s a) → Calls Try.prog 9 #[.slice p (actOf room s a).length c, .slice p' (actOf room s a).length c'] u fun e w' => e = .returned (.bool true) ∧ Below u.heap.size u w'
  pof : ∀ u, Qst PW (fun _ => False) W q v room (actOf room s a) (actOf room s a) u → Calls Try.prog 12 #[.pointer (some ⟨q, 0, none⟩), .int .i64 key] u fun e w' => ∃ p c, e = .returned (.slice p (of (actOf room s a) key).length c) ∧ Lies item w' p (of (actOf room s a) key) ∧ Below u.heap.size u w'
  rof : ∀ u, Qst PW (fun _ => False) W q v room (actOf room s a) (actOf room s a) u → Calls Try.prog 13 #[.pointer (some ⟨v, 0, none⟩), .int .i64 key] u fun e w' => ∃ p c, e = .returned (.slice p (of (actOf room s a) key).length c) ∧ Lies item w' p (of (actOf room s a) key) ∧ Below u.heap.size u w'
  lof2 : ∀ u p c, Lies item u p (of (actOf room s a) key) → Calls Try.prog 10 #[.slice p (of (actOf room s a) key).length c] u fun e w' => ∃ p' c', e = .returned (.slice p' (of (actOf room s a) key).length c') ∧ Lies item w' p' (of (actOf room s a) key) ∧ Below u.heap.size u w'
  same2 : ∀ u p c p' c', Lies item u p (of (actOf room s a) key) → Lies item u p' (of (actOf room s a) key) → Calls Try.prog 9 #[.slice p (of (actOf room s a) key).length c, .slice p' (of (actOf room s a) key).length c'] u fun e w' => e = .returned (.bool true) ∧ Below u.heap.size u w'
  pkeys : ∀ u, Qst PW (fun _ => False) W q v room (actOf room s a) (actOf room s a) u → Calls Try.prog 15 #[.pointer (some ⟨q, 0, none⟩)] u fun e w' => ∃ p c, e = .returned (.slice p (keys (actOf room s a)).length c) ∧ Lies ints w' p (keys (actOf room s a)) ∧ Below u.heap.size u w'
  rkeys : ∀ u, Qst PW (fun _ => False) W q v room (actOf room s a) (actOf room s a) u → Calls Try.prog 16 #[.pointer (some ⟨v, 0, none⟩)] u fun e w' => ∃ p c, e = .returned (.slice p (keys (actOf room s a)).length c) ∧ Lies ints w' p (keys (actOf room s a)) ∧ Below u.heap.size u w'
  same3 : ∀ u p c p' c', Lies ints u p (keys (actOf room s a)) → Lies ints u p' (keys (actOf room s a)) → Calls Try.prog 14 #[.slice p (keys (actOf room s a)).length c, .slice p' (keys (actOf room s a)).length c'] u fun e w' => e = .returned (.bool true) ∧ Below u.heap.size u w'
  first : ∀ u, Qst PW (fun _ => False) W q v room (actOf room s a) (actOf room s a) u → Calls Try.prog 17 #[.pointer (some ⟨q, 0, none⟩), .int .i64 key] u fun e w' => e = .returned (.tuple #[val (head (of (actOf room s a) key)).1, .bool (head (of (actOf room s a) key)).2]) ∧ Below u.heap.size u w'
  psum : ∀ u, Qst PW (fun _ => False) W q v room (actOf room s a) (actOf room s a) u → Calls Try.prog 18 #[.pointer (some ⟨q, 0, none⟩), .int .i64 key] u fun e w' => e = .returned (.int .i64 (sum (actOf room s a) key)) ∧ Below u.heap.size u w'
  rsum : ∀ u, Qst PW (fun _ => False) W q v room (actOf room s a) (actOf room s a) u → Calls Try.prog 19 #[.pointer (some ⟨v, 0, none⟩), .int .i64 key] u fun e w' => e = .returned (.int .i64 (sum (actOf room s a) key)) ∧ Below u.heap.size u w'
theorem round_any {PW : Pw} (P : Way12 PW) {W : World} {q v : Nat} {room : Int} (hr : room ≤ 16) {s : List It} (hg : Good room s) {a : Ac} (ha : AcNum a) {key : Int} (nk : Num key) : Round PW W q v room s a key := by
  have hg' := good_act hg ha
  have hl := good_len hg hr
  have hl' := good_len hg' hr
  have h5 : (actOf room s a).length ≤ 1000 := by omega
  have h6 : (of (actOf room s a) key).length ≤ 1000 := Nat.le_trans (of_len _ _) h5
  have h7 : (keys (actOf room s a)).length ≤ 1000 := Nat.le_trans (keys_len _) h5
  exact ⟨fun u h => step_any P h hg hl a ha, fun u h => P.all h.pw hg' hl', fun u p c hp => of_any hp h5, fun u p c p' c' hp hp' => rsame_any hp hp' h5, fun u h => P.of h.pw hg' hl' key nk, fun u h => rof_any h.qu h5 key,
    fun u p c hp => of_any hp h6, fun u p c p' c' hp hp' => rsame_any hp hp' h6, fun u h => P.keys h.pw hg' hl', fun u h => rkeys_any h.qu h5, fun u p c p' c' hp hp' => rsame_ints hp hp' h7, fun u h => P.first h.pw hg' hl' key nk, fun u h => P.sum h.pw hg' hl' key nk, fun u h => rsum_any h.qu h5 key⟩
end Go.Proofs.Ytdcclmellabnlaa.Queue
