/-
  The laws' question whether a vault is as the document says: it returns true, if State and Records tell what the document's vault has, and the program's disk is as the document's; of what lay when the call began nothing has turned.
-/
import Derived.Test.YtlbdkigiphnabaaVaultSame
import Derived.Deep.RegionHeld3
namespace Go.Proofs.Ytlbdkigiphnabaa.Vault
open Go.RowKit
open _root_.Go.Proofs.Ytlbdkigiphnabaa.Codec (Cel cells8 Made own_below own_lies lt_of_heap)
open _root_.Go.Proofs.Ytlbdkigiphnabaa.Disk (Sl Ref Dsk Holds all)

theorem text7 {u : World} {v : Value} {xs : List Int} {base : Nat} (h : u.ownsRow base 5 1 v xs.length (cells8 xs)) : (convert 39 9 v).run Try.prog u = .ok (.string (strOfNums xs)) u :=
  Codec.own_text (P := Try.prog) Try.underlying39 Try.underlying5 Try.underlying9 h
/-- The cells that the question loads. -/
theorem asks_cells {B v m : Nat} {room : Int} {y : Vs} {x : Option Nat} {w : World} (h : Rv B w v m room y x) : ∃ p c q k, w.cell? ⟨v, 0, none⟩ = some (.pointer (some ⟨m, 0, none⟩)) ∧ w.cell? ⟨v, 1, none⟩ = some (.slice p y.2.length c) ∧ w.cell? ⟨m, 1, none⟩ = some (.slice q y.1.1.length k) := by
  obtain ⟨p, c, h0, h1, -⟩ := h.vlt.cells
  obtain ⟨q, k, -, -, -, h2, -⟩ := h.ref.cells
  exact ⟨p, c, q, k, h0, h1, h2⟩

set_option maxRecDepth 100000 in
set_option maxHeartbeats 4000000 in
theorem same_any {B v m d q : Nat} {room : Int} {y : Vs} {x : Option Nat} {w : World} (h : Rv B w v m room y x) (hd : Dsk 65 5 B w d room y.1 x) (hh : Holds room y.1) (hm : room ≤ 16777216) (hl : (y.2.length : Int) ≤ 100000000)
    (hstate : ∀ u, Below w.heap.size w u → Calls Try.prog 21 #[.pointer (some ⟨q, 0, none⟩)] u fun e w' => e = .returned (val (last y.2)) ∧ Below u.heap.size u w')
    (hrecs : ∀ u, Below w.heap.size w u → Calls Try.prog 22 #[.pointer (some ⟨q, 0, none⟩)] u fun e w' => e = .returned (.int .i64 (y.2.length : Int)) ∧ Below u.heap.size u w') :
    Calls Try.prog 18 #[.pointer (some ⟨q, 0, none⟩), .pointer (some ⟨d, 0, none⟩), .pointer (some ⟨v, 0, none⟩)] w fun e w' => e = .returned (.bool true) ∧ Below w.heap.size w w' := by
  obtain ⟨p, c, qs, ks, c0, c1, c2⟩ := asks_cells h
  have H := Lib.hid h
  have HD := Lib.hid hd
  have hof := fun u => of_any (last y.2) u
  have hlast := fun u (hu : Below w.heap.size w u) => rlast_any (h.vlt.below hu) hl
  have heq := fun (u : World) => eql_ref (last y.2) (last y.2) u
  clear h hd
  generalize hla : last y.2 = a at *
  clear hla
  rw [same4_refl] at heq
  obtain ⟨a1, a2, a3, a4⟩ := a
  simp only [val] at *
  have hkeep : ∀ u, Below w.heap.size w u → u.cell? ⟨v, 0, none⟩ = some (.pointer (some ⟨m, 0, none⟩)) ∧ u.cell? ⟨v, 1, none⟩ = some (.slice p y.2.length c) ∧ u.cell? ⟨m, 1, none⟩ = some (.slice qs y.1.1.length ks) :=
    fun u hu => ⟨(hu.cell (p := ⟨v, 0, none⟩) H.out.vlt.lt).trans c0, (hu.cell (p := ⟨v, 1, none⟩) H.out.vlt.lt).trans c1, (hu.cell (p := ⟨m, 1, none⟩) H.out.ref.lt).trans c2⟩
  have HK := Lib.hid hkeep
  have D0 := Lib.hid (Below.refl w.heap.size w).drew
  have k0 := hkeep _ D0.out
  clear hkeep c0 c1 c2
  go_enter Try.func18, Try.ntmps18
  go_wp2
  go_region_held (fun u => u.cell? ⟨v, 0, none⟩ = some (.pointer (some ⟨m, 0, none⟩)) ∧ u.cell? ⟨v, 1, none⟩ = some (.slice p y.2.length c) ∧ u.cell? ⟨m, 1, none⟩ = some (.slice qs y.1.1.length ks)) (first | assumption | exact k0) (first
    | (go_at_call 21; (with_reducible refine (hstate _ D0.out).mono ?_); rintro e u1 ⟨rfl, hb⟩; have D1 := Lib.hid (D0.out.trans (hb.mono D0.out.size)); have k1 := HK.out _ D1.out; clear hb)
    | (go_at_call 13; (with_reducible refine (hof _).mono ?_); rintro e u2 ⟨rfl, hb⟩; have D2 := Lib.hid (D1.out.trans (hb.mono D1.out.size)); have k2 := HK.out _ D2.out; clear hb)
    | (go_at_call 31; (with_reducible refine (hlast _ D2.out).mono ?_); rintro e u3 ⟨rfl, hb⟩; have D3 := Lib.hid (D2.out.trans (hb.mono D2.out.size)); have k3 := HK.out _ D3.out; clear hb)
    | (go_at_call 22; (with_reducible refine (hrecs _ D3.out).mono ?_); rintro e u4 ⟨rfl, hb⟩; have D4 := Lib.hid (D3.out.trans (hb.mono D3.out.size)); have k4 := HK.out _ D4.out; clear hb)
    | (go_at_call 24; (with_reducible refine (Disk.file_any (HD.out.below D4.out) hh hm).mono ?_); rintro e u5 ⟨v5, rfl, ho5, hb⟩; have D5 := Lib.hid (D4.out.trans (hb.mono D4.out.size)); have k5 := HK.out _ D5.out; have O5 := Lib.hid ho5; have t5 := text7 ho5; clear hb ho5)
    | (go_at_call 28; (with_reducible refine (Disk.rfile_any (H.out.ref.below D5.out) hh hm).mono ?_); rintro e u6 ⟨v6, rfl, ho6, hb⟩; have D6 := Lib.hid (D5.out.trans (hb.mono D5.out.size)); have k6 := HK.out _ D6.out; have t6 := text7 ho6; have t65 := text7 (own_below O5.out hb); clear hb ho6)
    | (go_at_call 25; (with_reducible refine (Disk.safe_any (HD.out.below D6.out)).mono ?_); rintro e u7 ⟨rfl, rfl⟩))
  all_goals
    go_wp2
    go_ret
    exact ⟨rfl, D6.out⟩
end Go.Proofs.Ytlbdkigiphnabaa.Vault
