/-
  annonalaw17's move, of any kind: what is to hold of a hall holds behind it, whatever the program's elections are, if their calls do what is asked of them.
-/
import Derived.Test.YthehbphpchmdiaaElectMove
import Derived.Test.YthehbphpchmdiaaElectMove2
import Derived.Test.YthehbphpchmdiaaElectMove0
import Derived.Test.YthehbphpchmdiaaElectMove7
namespace Go.Proofs.Ythehbphpchmdiaa.Elect
open Go.RowKit

theorem move_any {PW : Pw} (P : Way17 PW) {W u : World} {hb : Nat} {qs : List Nat} {H : Hl} (h : Hst PW W hb qs H [] u) (hI : Inv H) (hfl : H.frames.length ≤ 1000) (hwl : H.won.length ≤ 1000) (kd who what : Int) (k0 : 0 ≤ kd ∧ kd ≤ 255) (w0 : 0 ≤ who ∧ who ≤ 255) (t0 : 0 ≤ what ∧ what ≤ 65535) :
    Calls Try.prog 15 #[.pointer (some ⟨hb, 0, none⟩), .agg #[.int .u8 kd, .int .u8 who, .int .u16 what]] u fun y w' => y = .returned (.bool true) ∧ ∃ qs' H', Inv H' ∧ H'.n = H.n ∧ H'.frames.length ≤ H.frames.length + 1 ∧ H'.won.length ≤ H.won.length + 1 ∧ Hst PW W hb qs' H' [] w' := by
  by_cases h0 : kd % 8 = 0
  · exact (move_stand P h hI hfl hwl kd who what k0 w0 h0).mono fun y w' ⟨e, k⟩ => ⟨e, qs, k⟩
  · by_cases h7 : kd % 8 = 7
    · exact move_new P h hI kd who what k0 w0 h7
    · by_cases hf : H.frames.length = 0
      · exact (move_none P h hI kd who what k0 w0 h0 h7 hf).mono fun y w' ⟨e, k⟩ => ⟨e, qs, k⟩
      · exact (move_take P h hI hfl hwl kd who what k0 w0 t0 h0 h7 hf).mono fun y w' ⟨e, k⟩ => ⟨e, qs, k⟩
end Go.Proofs.Ythehbphpchmdiaa.Elect
