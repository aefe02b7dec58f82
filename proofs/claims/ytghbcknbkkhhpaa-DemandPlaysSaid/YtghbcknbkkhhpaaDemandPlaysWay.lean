/-
  DemandPlays returns true, whatever the program's estimates are, if its calls do what is asked of them.
-/
import Derived.Test.YtghbcknbkkhhpaaDemandWay
import Derived.Test.YtghbcknbkkhhpaaDemandNote
import Derived.Test.YtghbcknbkkhhpaaDemandKeys
namespace Go.Proofs.Ytghbcknbkkhhpaa.Demand
open Go.RowKit
open _root_.Go.Proofs.Ytghbcknbkkhhpaa.Codec (lt_of_heap frozen_of heap_set below_new own_below)
open _root_.Go.Proofs.Ytghbcknbkkhhpaa.Kit (Enc Lies Own At Kept Laid Off cell_on lt_heap take_snoc below_drewN box5 ints)

/-- Two lists of numbers that are one. -/
theorem rsame_ints {l : List Int} {p q : Option Addr} {c d : Nat} {w : World} (h : Lies ints w p l) (h' : Lies ints w q l) (hl : l.length ≤ 1000) :
    Calls Try.prog 13 #[.slice p l.length c, .slice q l.length d] w fun e w' => e = .returned (.bool true) ∧ Below w.heap.size w w' := by
  have HB := Lib.hid (Below.refl w.heap.size w)
  have HL := Lib.hid h
  have HM := Lib.hid h'
  clear h h'
  have hne : ((l.length : Int) != (l.length : Int)) = false := by simp
  go_enter Try.func13, Try.ntmps13
  go_wp2
  go_loopw [5] (fun i wr => ∃ j : Nat, j ≤ l.length ∧ i = .int .i64 (j : Int) ∧ Hid (Below w.heap.size w wr)) (fun i _ => l.length - (intOf i).toNat)
  case atStart => exact ⟨0, by omega, rfl, HB⟩
  case round =>
    obtain ⟨j, hj, rfl, hbw⟩ := hrel
    by_cases hlt : j < l.length
    · obtain ⟨b, o, rfl, k0⟩ := ints_at (HL.out.below hbw.out) hlt
      obtain ⟨b', o', rfl, x0⟩ := ints_at (HM.out.below hbw.out) hlt
      have hlt' : (j : Int) < (l.length : Int) := by omega
      clear HL HM
      generalize l.getD j 0 = x at *
      have heq : (x != x) = false := by simp
      go_wp2
      go_quiet (fail)
      go_wp2
      go_roundw
      case rel => exact ⟨j + 1, by omega, by go_num, Lib.hid (hbw.out.trans ((below_drewN _ _).mono hbw.out.size))⟩
      case measure => simp only [intOf]; omega
    · have hlt' : ¬ (j : Int) < (l.length : Int) := by omega
      clear HL HM
      go_wp2
      go_ret
      exact ⟨rfl, hbw.out⟩
/-- Both estimates, while notes are taken. -/
structure Dst (PW : Pw) (W : World) (q v : Nat) (s t : List Nt) (u : World) : Prop where
  pw : PW W.heap.size u q s
  dm : Dm W.heap.size u v t
  below : Below W.heap.size W u
section
variable {PW : Pw} {W u u' : World} {q v : Nat} {s t s' t' : List Nt}
theorem Dst.on (P : Way13 PW) (h : Dst PW W q v s t u) (hb : Below u.heap.size u u') : Dst PW W q v s t u' :=
  ⟨P.below h.pw hb, h.dm.below hb, h.below.trans (hb.mono h.below.size)⟩
theorem Dst.own (h : Dst PW W q v s t u) (hm : Moved PW W.heap.size u q s' u') : Dst PW W q v s' t u' :=
  ⟨hm.pw, h.dm.off hm.off, h.below.trans hm.below⟩
theorem Dst.ref (P : Way13 PW) (h : Dst PW W q v s t u) (hs : Step W.heap.size u v t' u') : Dst PW W q v s t' u' :=
  ⟨P.kept h.pw hs.kept hs.below, hs.dm, h.below.trans hs.below⟩
end
/-- A round: all that is asked of it. -/
structure Round (PW : Pw) (W : World) (q v : Nat) (s : List Nt) (a : Nt) (key q0 m0 : Int) : Prop where
  note : ∀ u, Dst PW W q v s s u → Calls Try.prog 7 #[.pointer (some ⟨q, 0, none⟩), .int .i64 a.key, .int .i64 a.spent] u fun e w' => e = .returned (.int .i64 (of (s ++ [a]) a.key)) ∧ Dst PW W q v (s ++ [a]) s w'
  rnote : ∀ u, Dst PW W q v (s ++ [a]) s u → Calls Try.prog 8 #[.pointer (some ⟨v, 0, none⟩), .int .i64 a.key, .int .i64 a.spent] u fun e w' => e = .returned (.int .i64 (of (s ++ [a]) a.key)) ∧ Dst PW W q v (s ++ [a]) (s ++ [a]) w'
  of : ∀ u, Dst PW W q v (s ++ [a]) (s ++ [a]) u → Calls Try.prog 9 #[.pointer (some ⟨q, 0, none⟩), .int .i64 key] u fun e w' => e = .returned (.int .i64 (of (s ++ [a]) key)) ∧ Dst PW W q v (s ++ [a]) (s ++ [a]) w'
  rof : ∀ u, Dst PW W q v (s ++ [a]) (s ++ [a]) u → Calls Try.prog 10 #[.pointer (some ⟨v, 0, none⟩), .int .i64 key] u fun e w' => e = .returned (.int .i64 (Demand.of (s ++ [a]) key)) ∧ Dst PW W q v (s ++ [a]) (s ++ [a]) w'
  want : ∀ u, Dst PW W q v (s ++ [a]) (s ++ [a]) u → Calls Try.prog 11 #[.pointer (some ⟨q, 0, none⟩), .int .i64 key, .int .i64 q0, .int .i64 m0] u fun e w' => e = .returned (.int .i64 (want (Demand.of (s ++ [a]) key) q0 m0)) ∧ Dst PW W q v (s ++ [a]) (s ++ [a]) w'
  rwant : ∀ u, Dst PW W q v (s ++ [a]) (s ++ [a]) u → Calls Try.prog 12 #[.pointer (some ⟨v, 0, none⟩), .int .i64 key, .int .i64 q0, .int .i64 m0] u fun e w' => e = .returned (.int .i64 (Demand.want (Demand.of (s ++ [a]) key) q0 m0)) ∧ Dst PW W q v (s ++ [a]) (s ++ [a]) w'
  keys : ∀ u, Dst PW W q v (s ++ [a]) (s ++ [a]) u → Calls Try.prog 14 #[.pointer (some ⟨q, 0, none⟩)] u fun e w' => ∃ p c, e = .returned (.slice p (keys (s ++ [a])).length c) ∧ Lies ints w' p (keys (s ++ [a])) ∧ Dst PW W q v (s ++ [a]) (s ++ [a]) w'
  rkeys : ∀ u, Dst PW W q v (s ++ [a]) (s ++ [a]) u → Calls Try.prog 15 #[.pointer (some ⟨v, 0, none⟩)] u fun e w' => ∃ p c, e = .returned (.slice p (Demand.keys (s ++ [a])).length c) ∧ Lies ints w' p (Demand.keys (s ++ [a])) ∧ Dst PW W q v (s ++ [a]) (s ++ [a]) w' ∧ Below u.heap.size u w'
  same : ∀ u p c p' c', Dst PW W q v (s ++ [a]) (s ++ [a]) u → Lies ints u p (Demand.keys (s ++ [a])) → Lies ints u p' (Demand.keys (s ++ [a])) → Calls Try.prog 13 #[.slice p (Demand.keys (s ++ [a])).length c, .slice p' (Demand.keys (s ++ [a])).length c'] u fun e w' => e = .returned (.bool true) ∧ Dst PW W q v (s ++ [a]) (s ++ [a]) w'
theorem round_any {PW : Pw} (P : Way13 PW) {W : World} {q v : Nat} {s : List Nt} (hl : s.length ≤ 100) {a : Nt} (ha : NtNum a) {key q0 m0 : Int} (nk : Num key) (nq : Num q0) (nm : Num m0) : Round PW W q v s a key q0 m0 := by
  have hl' : (s ++ [a]).length ≤ 200 := by simp; omega
  have hk := keys_len (s ++ [a])
  exact ⟨
    fun u h => (P.note h.pw h.below.size (by omega) a.key a.spent ha.1 ha.2).mono fun e w' ⟨he, hm⟩ => ⟨he, h.own hm⟩,
    fun u h => (rnote_any h.dm h.below.size (by omega) a.key a.spent).mono fun e w' ⟨he, hm⟩ => ⟨he, h.ref P hm⟩,
    fun u h => (P.of h.pw hl' key nk).mono fun e w' ⟨he, hb⟩ => ⟨he, h.on P hb⟩,
    fun u h => (rof_any h.dm (by omega) key).mono fun e w' ⟨he, hb⟩ => ⟨he, h.on P hb⟩,
    fun u h => (P.want h.pw hl' key q0 m0 nk nq nm).mono fun e w' ⟨he, hb⟩ => ⟨he, h.on P hb⟩,
    fun u h => (rwant_any h.dm (by omega) key q0 m0).mono fun e w' ⟨he, hb⟩ => ⟨he, h.on P hb⟩,
    fun u h => (P.keys h.pw hl').mono fun e w' ⟨p, c, he, hp, hb⟩ => ⟨p, c, he, hp, h.on P hb⟩,
    fun u h => (rkeys_any h.dm (by omega)).mono fun e w' ⟨p, c, he, hp, hb⟩ => ⟨p, c, he, hp, h.on P hb, hb⟩,
    fun u p c p' c' h hp hp' => (rsame_ints hp hp' (by omega)).mono fun e w' ⟨he, hb⟩ => ⟨he, h.on P hb⟩⟩
end Go.Proofs.Ytghbcknbkkhhpaa.Demand
