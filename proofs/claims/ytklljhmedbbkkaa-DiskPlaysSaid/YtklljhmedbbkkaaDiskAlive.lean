/-
  The live question of layer 6 returns true, and of what lay when the call began nothing has turned.
-/
import Derived.Test.YtklljhmedbbkkaaDiskActs
import Derived.Lib.SlBytesConst
namespace Go.Proofs.Ytklljhmedbbkkaa.Disk
open Go.RowKit Codec

theorem lit_cel (w : World) (xs : List Int) (cs : Array Value) (z : Nat × Nat) (h : cs = (cells8 xs).toArray) (g : Nat) (hg : g = w.heap.size) : Cel (w.alloc (.cells cs 5 z)) (some ⟨g, 0, none⟩) xs := by
  subst hg
  refine .inr ⟨w.heap.size, 0, rfl, fun j hj => ?_⟩
  rw [cell_of_row _ _ (0 + j) _ _ z (heap_alloc_new _ _), h, Nat.zero_add]
  simpa using cells8_get xs j hj
theorem alive_abcd : strOfNums [97, 98, 99, 100] = ⟨#[97, 98, 99, 100]⟩ := by kernel_rfl
theorem alive_xy : strOfNums [120, 121] = ⟨#[120, 121]⟩ := by kernel_rfl

section
variable {B d : Nat} {room : Int} {s s' : Sl} {x : Option Nat} {w W : World}
/-- The disk, and all that has been. -/
def Now (W : World) (w : World) (s : Sl) : Prop := (∃ x, Dsk 44 5 W.heap.size w W.heap.size 9 s x) ∧ Below W.heap.size W w
theorem Now.below {w' : World} (h : Now W w s) (hb : Below w.heap.size w w') : Now W w' s := by
  obtain ⟨⟨x, h1⟩, h2⟩ := h
  exact ⟨⟨x, h1.below hb⟩, h2.trans (hb.mono h2.size)⟩
theorem now_write (h : Now W w s) (hr : Holds 9 s) (b : List Int) (q : Option Addr) (k : Nat) (hb : Cel w q b) (hq : q = none → b = [] ∧ k = 0) (hl : (b.length : Int) ≤ 3000) (n : Nat) (hn : b.length = n) (e0 : Int) (he : eWrite 9 s b = e0) (hs : dWrite 9 s b = s') :
    Calls Try.prog 9 #[.pointer (some ⟨W.heap.size, 0, none⟩), .slice q n k] w fun e w' => e = .returned (.int .i64 e0) ∧ Now W w' s' := by
  obtain ⟨⟨x, h1⟩, h2⟩ := h
  subst he hs hn
  refine (write_any h1 hr (by omega) (by omega) h2.size q k b hb hq hl).mono ?_
  rintro e w' ⟨rfl, x', h3, -, h4⟩
  exact ⟨rfl, ⟨x', h3⟩, h2.trans h4⟩
theorem now_sync (h : Now W w s) (hr : Holds 9 s) (e0 : Int) (he : (s.2.length : Int) = e0) (hs : dSync s = s') :
    Calls Try.prog 11 #[.pointer (some ⟨W.heap.size, 0, none⟩)] w fun e w' => e = .returned (.int .i64 e0) ∧ Now W w' s' := by
  obtain ⟨⟨x, h1⟩, h2⟩ := h
  subst he hs
  refine (sync_any h1 hr (by omega) h2.size).mono ?_
  rintro e w' ⟨rfl, x', h3, -, h4⟩
  exact ⟨rfl, ⟨x', h3⟩, h2.trans h4⟩
theorem now_crash (h : Now W w s) (hr : Holds 9 s) (keep : Int) (hk0 : -9223372036854775808 ≤ keep) (hk1 : keep ≤ 9223372036854775807) (e0 : Int) (he : gone keep s = e0) (hs : dCrash keep s = s') :
    Calls Try.prog 12 #[.pointer (some ⟨W.heap.size, 0, none⟩), .int .i64 keep] w fun e w' => e = .returned (.int .i64 e0) ∧ Now W w' s' := by
  obtain ⟨⟨x, h1⟩, h2⟩ := h
  subst he hs
  refine (crash_any h1 hr (by omega) h2.size keep hk0 hk1).mono ?_
  rintro e w' ⟨rfl, x', h3, -, h4⟩
  exact ⟨rfl, ⟨x', h3⟩, h2.trans h4⟩
theorem now_replace (h : Now W w s) (b : List Int) (q : Option Addr) (k : Nat) (hb : Cel w q b) (hq : q = none → b = [] ∧ k = 0) (hl : (b.length : Int) ≤ 3000) (n : Nat) (hn : b.length = n) (e0 : Int) (he : eReplace 9 b = e0) (hs : dReplace 9 s b = s') :
    Calls Try.prog 10 #[.pointer (some ⟨W.heap.size, 0, none⟩), .slice q n k] w fun e w' => e = .returned (.int .i64 e0) ∧ Now W w' s' := by
  obtain ⟨⟨x, h1⟩, h2⟩ := h
  subst he hs hn
  refine (replace_any h1 h2.size q k b hb hq hl).mono ?_
  rintro e w' ⟨rfl, x', h3, -, h4⟩
  exact ⟨rfl, ⟨x', h3⟩, h2.trans h4⟩
theorem now_file (h : Now W w s) (hr : Holds 9 s) : Calls Try.prog 14 #[.pointer (some ⟨W.heap.size, 0, none⟩)] w fun e w' =>
    ∃ v, e = .returned v ∧ (convert 33 9 v).run Try.prog w' = .ok (.string (strOfNums (all s))) w' ∧ Now W w' s := by
  obtain ⟨⟨x, h1⟩, h2⟩ := h
  refine (file_any h1 hr (by omega)).mono ?_
  rintro e w' ⟨v, rfl, ho, hb⟩
  exact ⟨v, rfl, text_any ho, Now.below ⟨⟨x, h1⟩, h2⟩ hb⟩
theorem now_safe (h : Now W w s) (e0 : Int) (he : (s.1.length : Int) = e0) : Calls Try.prog 13 #[.pointer (some ⟨W.heap.size, 0, none⟩)] w fun e w' => e = .returned (.int .i64 e0) ∧ w = w' := by
  obtain ⟨⟨x, h1⟩, h2⟩ := h
  subst he
  exact safe_any h1
end

theorem cel_abc (u : World) (g : Nat) (hg : g = u.heap.size) : Cel (u.alloc (.cells #[.int .u8 97, .int .u8 98, .int .u8 99] 5 (3, 4))) (some ⟨g, 0, none⟩) [97, 98, 99] := lit_cel u [97, 98, 99] _ _ rfl g hg
theorem len_abc : (([97, 98, 99] : List Int).length : Int) ≤ 3000 := by decide
theorem cel_defg (u : World) (g : Nat) (hg : g = u.heap.size) : Cel (u.alloc (.cells #[.int .u8 100, .int .u8 101, .int .u8 102, .int .u8 103] 5 (4, 5))) (some ⟨g, 0, none⟩) [100, 101, 102, 103] := lit_cel u [100, 101, 102, 103] _ _ rfl g hg
theorem len_defg : (([100, 101, 102, 103] : List Int).length : Int) ≤ 3000 := by decide
theorem cel_hij (u : World) (g : Nat) (hg : g = u.heap.size) : Cel (u.alloc (.cells #[.int .u8 104, .int .u8 105, .int .u8 106] 5 (3, 4))) (some ⟨g, 0, none⟩) [104, 105, 106] := lit_cel u [104, 105, 106] _ _ rfl g hg
theorem len_hij : (([104, 105, 106] : List Int).length : Int) ≤ 3000 := by decide
theorem cel_xy (u : World) (g : Nat) (hg : g = u.heap.size) : Cel (u.alloc (.cells #[.int .u8 120, .int .u8 121] 5 (2, 3))) (some ⟨g, 0, none⟩) [120, 121] := lit_cel u [120, 121] _ _ rfl g hg
theorem len_xy : (([120, 121] : List Int).length : Int) ≤ 3000 := by decide
theorem q1 : eWrite 9 ([], []) [97, 98, 99] = 0 ∧ dWrite 9 ([], []) [97, 98, 99] = ([], [97, 98, 99]) := ⟨rfl, rfl⟩
theorem q2 : ((([], [97, 98, 99]) : Sl).2.length : Int) = 3 ∧ dSync ([], [97, 98, 99]) = ([97, 98, 99], []) := ⟨rfl, rfl⟩
theorem q3 : eWrite 9 ([97, 98, 99], []) [100, 101, 102, 103] = 0 ∧ dWrite 9 ([97, 98, 99], []) [100, 101, 102, 103] = ([97, 98, 99], [100, 101, 102, 103]) := ⟨rfl, rfl⟩
theorem q4 : eWrite 9 ([97, 98, 99], [100, 101, 102, 103]) [104, 105, 106] = 3 ∧ dWrite 9 ([97, 98, 99], [100, 101, 102, 103]) [104, 105, 106] = ([97, 98, 99], [100, 101, 102, 103]) := ⟨rfl, rfl⟩
theorem q5 : gone 1 ([97, 98, 99], [100, 101, 102, 103]) = 3 ∧ dCrash 1 ([97, 98, 99], [100, 101, 102, 103]) = ([97, 98, 99, 100], []) := ⟨rfl, rfl⟩
theorem q6 : eReplace 9 [120, 121] = 0 ∧ dReplace 9 ([97, 98, 99, 100], []) [120, 121] = ([120, 121], []) := ⟨rfl, rfl⟩
theorem q7 : ((([120, 121], []) : Sl).1.length : Int) = 2 := rfl
theorem holds_lit (a b : List Int) (h : a.length + b.length ≤ 9) : Holds 9 (a, b) := by simp only [Holds]; omega
theorem h1 : Holds 9 ([], []) := holds_lit _ _ (by decide)
theorem h2 : Holds 9 ([], [97, 98, 99]) := holds_lit _ _ (by decide)
theorem h3 : Holds 9 ([97, 98, 99], []) := holds_lit _ _ (by decide)
theorem h4 : Holds 9 ([97, 98, 99], [100, 101, 102, 103]) := holds_lit _ _ (by decide)
theorem h5 : Holds 9 ([97, 98, 99, 100], []) := holds_lit _ _ (by decide)
theorem h6 : Holds 9 ([120, 121], []) := holds_lit _ _ (by decide)
theorem no_nil {a : Addr} {P : Prop} : some a = none → P := fun e => by cases e

set_option maxRecDepth 100000 in
set_option maxHeartbeats 1000000 in
theorem alive_any (w : World) : Calls Try.prog 6 #[] w fun e w' => e = .returned (.bool true) ∧ Below w.heap.size w w' := by
  have N0 : Hid (Now w (w.alloc (.cells #[.int .i64 9, .slice none 0 0, .int .i64 0] 44)) ([], [])) := ⟨⟨none, dsk_new 9 w⟩, (Below.refl _ _).alloc (Nat.le_refl _) _⟩
  have HT1 := Lib.hid alive_abcd
  have HT2 := Lib.hid alive_xy
  have bx : ∀ (u : World) (o : Obj), Hid (Below u.heap.size u (u.alloc o)) := fun u o => (Below.refl _ _).alloc (Nat.le_refl _) _
  have kc := fun (u : World) (C : Array Value) (n c : Nat) => Lib.run_convert_bytes_const (P := Try.prog) u 33 5 C n c Try.underlying33 Try.underlying5
  have kc1 := fun (C : Array Value) (n c : Nat) => kc (w.alloc (.cells #[.int .i64 9, .slice none 0 0, .int .i64 0] 44)) C n c
  rw [show (w.alloc (.cells #[.int .i64 9, .slice none 0 0, .int .i64 0] 44)).heap.size = w.heap.size + 1 by simp] at kc1
  go_enter Try.func6, Try.ntmps6
  go_wp2_with (first
    | (go_at_call 7; refine (new_ok 9 w (by omega) (by omega)).mono ?_; rintro e w0 ⟨rfl, rfl⟩)
    | (go_at_call 9; (with_reducible refine (now_write (N0.out.below (bx _ _).out) h1 [97, 98, 99] _ 3 (cel_abc _ _ (by simp)) no_nil len_abc 3 rfl 0 q1.1 q1.2).mono ?_); rintro e w1 ⟨rfl, n1⟩; have N1 := Lib.hid n1; clear N0 n1)
    | (go_at_call 11; (with_reducible refine (now_sync N1.out h2 3 q2.1 q2.2).mono ?_); rintro e w2 ⟨rfl, n2⟩; have N2 := Lib.hid n2; clear N1 n2)
    | (go_at_call 9; (with_reducible refine (now_write (N2.out.below (bx _ _).out) h3 [100, 101, 102, 103] _ 4 (cel_defg _ _ (by simp)) no_nil len_defg 4 rfl 0 q3.1 q3.2).mono ?_); rintro e w3 ⟨rfl, n3⟩; have N3 := Lib.hid n3; clear N2 n3)
    | (go_at_call 9; (with_reducible refine (now_write (N3.out.below (bx _ _).out) h4 [104, 105, 106] _ 3 (cel_hij _ _ (by simp)) no_nil len_hij 3 rfl 3 q4.1 q4.2).mono ?_); rintro e w4 ⟨rfl, n4⟩; have N4 := Lib.hid n4; clear N3 n4)
    | (go_at_call 12; (with_reducible refine (now_crash N4.out h4 1 (by omega) (by omega) 3 q5.1 q5.2).mono ?_); rintro e w5 ⟨rfl, n5⟩; have N5 := Lib.hid n5; clear N4 n5)
    | (go_at_call 14; (with_reducible refine (now_file N5.out h5).mono ?_); rintro e w6 ⟨v6, rfl, t6, n6⟩; have N6 := Lib.hid n6; rw [show all ([97, 98, 99, 100], []) = [97, 98, 99, 100] from rfl, HT1.out] at t6; clear N5 n6)
    | (go_at_call 10; (with_reducible refine (now_replace (N6.out.below (bx _ _).out) [120, 121] _ 2 (cel_xy _ _ (by simp)) no_nil len_xy 2 rfl 0 q6.1 q6.2).mono ?_); rintro e w7 ⟨rfl, n7⟩; have N7 := Lib.hid n7; clear N6 n7 t6)
    | (go_at_call 14; (with_reducible refine (now_file N7.out h6).mono ?_); rintro e w8 ⟨v8, rfl, t8, n8⟩; have N8 := Lib.hid n8; rw [show all ([120, 121], []) = [120, 121] from rfl, HT2.out] at t8; clear N7 n8)
    | (go_at_call 13; (with_reducible refine (now_safe N8.out 2 q7).mono ?_); rintro e w9 ⟨rfl, rfl⟩))
  go_ret
  exact ⟨rfl, N8.out.2⟩
end Go.Proofs.Ytklljhmedbbkkaa.Disk
