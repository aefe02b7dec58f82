/-
  The live question of layer 4 returns true, and of what lay when the call began nothing has turned.
-/
import Derived.Test.YtblmmijjabahiaaCodecWrites
import Derived.Test.YtblmmijjabahiaaCodecReads
namespace Go.Proofs.Ytblmmijjabahiaa.Codec
open Go.RowKit

def aliveBytes : List Int := eight 258 ++ eight 9223372036854775808
theorem alive_text : strOfNums aliveBytes = ⟨#[0, 0, 0, 0, 0, 0, 1, 2, 128, 0, 0, 0, 0, 0, 0, 0]⟩ := by kernel_rfl
theorem alive_len : aliveBytes.length = 16 := by simp [aliveBytes, len_eight]
theorem alive_bytes : IsBytes aliveBytes := (eight_ok _).append (eight_ok _)

set_option maxRecDepth 100000 in
set_option maxHeartbeats 1000000 in
theorem alive_any (w : World) : Calls Try.prog 56 #[] w fun e w' => e = .returned (.bool true) ∧ Below w.heap.size w w' := by
  have hb0 : Below w.heap.size w ((w.alloc (.cells #[.slice none 0 0, .bool false] 69)).alloc (.cells #[.int .i64 258] 3)) :=
    ((Below.refl _ _).alloc (Nat.le_refl _) _).alloc (by simp) _
  have hW0 : WSt 69 5 w.heap.size ((w.alloc (.cells #[.slice none 0 0, .bool false] 69)).alloc (.cells #[.int .i64 258] 3)) w.heap.size [] true :=
    ⟨Nat.le_refl _, .slice none 0 0, (Below.heap_alloc _ _ _ (by simp)).trans (heap_alloc_new _ _), World.ownsRow_nil _ _ _ _⟩
  have hc0 : ((w.alloc (.cells #[.slice none 0 0, .bool false] 69)).alloc (.cells #[.int .i64 258] 3)).cell? ⟨w.heap.size + 1, 0, none⟩ = some (.int .i64 258) := by
    have := heap_alloc_new (w.alloc (.cells #[.slice none 0 0, .bool false] 69)) (.cells #[.int .i64 258] 3)
    rw [show (w.alloc (.cells #[.slice none 0 0, .bool false] 69)).heap.size = w.heap.size + 1 by simp] at this
    rw [cell_of_row _ _ 0 _ _ (0, 0) this]
    rfl
  have hnum := wnum_one w.heap.size w.heap.size [] (w.heap.size + 1) 0 1 258 _ hW0 (by simp) hb0.size (by omega) (by omega) hc0
  clear hW0 hc0
  rw [List.nil_append] at hnum
  have HT := Lib.hid alive_text
  go_enter Try.func56, Try.ntmps56
  go_wp2_with (first
    | (go_at_call 58; refine hnum.mono ?_; rintro e w1 ⟨rfl, hw1, hb1⟩; have hB1 := Nat.le_trans hb0.size hb1.size; have hbits := wbits_any _ _ _ true 9223372036854775808 w1 hw1 (by rw [len_eight]; omega) hB1; clear hnum hw1)
    | (go_at_call 57; refine hbits.mono ?_; rintro e w2 ⟨rfl, hw2, hb2⟩; have hdone := wdone_good _ _ aliveBytes w2 hw2 (by rw [alive_len]; omega); have hB2 := Nat.le_trans hB1 hb2.size; clear hbits hw2)
    | (go_at_call 59; refine hdone.mono ?_; rintro e w3 ⟨v, rfl, ho3, hb3⟩; clear hdone; obtain ⟨p, c, rfl, _, _, hx3, hp3⟩ := own_lies ho3; have hread := read_any p c aliveBytes w3 (by rw [alive_len]; omega) hx3.cel hp3; have HO3 := Lib.hid ho3; clear ho3 hx3 hp3)
    | (go_at_call 62; refine hread.mono ?_; rintro e w4 ⟨r, hr3, rfl, hR4, hb4⟩; clear hread; have hrn := pnum_any r (aliveBytes, false) w4 hR4 alive_bytes; rw [show pUpto 4611686018427387904 (aliveBytes, false) = (258, eight 9223372036854775808, false) from pUpto_eight _ 258 _ _ (by omega) (by omega) (by omega)] at hrn; have HR4 := Lib.hid hR4; clear hR4)
    | (go_at_call 63; refine hrn.mono ?_; rintro e w5 ⟨rfl, hR5, hg5⟩; clear hrn; have hrb := pbits_any r (eight 9223372036854775808, false) w5 hR5 (eight_ok _); rw [show pBits (eight 9223372036854775808, false) = (9223372036854775808, [], false) from (by have := pBits_eight 9223372036854775808 [] false (by omega) (by omega); rwa [List.append_nil] at this)] at hrb; have HR5 := Lib.hid hR5; clear hR5)
    | (go_at_call 65; refine hrb.mono ?_; rintro e w6 ⟨rfl, hR6, hg6⟩; clear hrb; have hrd := pdone_any r ([], false) w6 hR6; rw [show tell ([], false) = 0 from rfl] at hrd; have HR6 := Lib.hid hR6; clear hR6)
    | (go_at_call 69; refine hrd.mono ?_; rintro e w7 ⟨rfl, rfl⟩; clear hrd; have ht := own_text (P := Try.prog) Try.underlying67 Try.underlying5 Try.underlying9 (own_stays (own_stays (own_below HO3.out hb4) (HR4.out.stays (by decide) hg5)) (HR5.out.stays (by decide) hg6)); rw [HT.out] at ht))
  go_ret
  have h6 := HR4.out.lt
  have hs3 := hb3.size
  have hs4 := hb4.size
  have b3 : Below w.heap.size w w3 := ((hb0.trans hb1).trans hb2).trans (hb3.mono hB2)
  have b4 : Below w.heap.size w w4 := b3.trans (hb4.mono (by omega))
  exact ⟨rfl, (b4.grown hg5 (by omega) (fun k hk => by cases hk; omega)).grown hg6 (by have := hg5.size; omega) (fun k hk => by cases hk; omega)⟩
end Go.Proofs.Ytblmmijjabahiaa.Codec
