/-
  VaultPlays: for every room, all acts, and all pairs of states: each act's error, and behind it the state, how many records there are, and the disk's file, are as the document says; whether one state rises to the other one; of no vault, and no disk; of more than 200 acts the live question alone is asked.
-/
import Derived.Test.YtlbdkigiphnabaaRows
import Derived.Test.YtlbdkigiphnabaaVaultPlaysSt
import Derived.Deep.RegionHeld3
namespace Go.Proofs.Ytlbdkigiphnabaa.vaultPlays
open Go.ChangeShapes Go.WideShapes Go.RowKit
open _root_.Go.Proofs.Ytlbdkigiphnabaa.Codec (IsBytes lt_of_heap)
open _root_.Go.Proofs.Ytlbdkigiphnabaa.Disk (Sl Dsk Holds all dCrash stay over)
open _root_.Go.Proofs.Ytlbdkigiphnabaa.Vault

set_option maxRecDepth 100000 in
theorem long (room : Int) (p : Option Addr) (n c : Nat) (a b : Sv) (W : World) (h : 200 < (n : Int)) :
    Calls Try.prog 3 #[.int .u16 room, .slice p n c, .agg #[.int .i64 a.p, .int .i64 a.g, .int .i64 a.h, .int .i64 a.r, .int .i64 b.p, .int .i64 b.g, .int .i64 b.h, .int .i64 b.r]] W fun e w' => e = .returned (.bool true) ∧ Below W.heap.size W w' := by
  have hb : ∀ o, Below W.heap.size W (W.alloc o) := fun o => (Below.refl _ _).alloc (Nat.le_refl _) _
  have HB := Lib.hid hb
  clear hb
  obtain ⟨a1, a2, a3, a4⟩ := a
  obtain ⟨b1, b2, b3, b4⟩ := b
  go_enter Try.func3, Try.ntmps3
  go_wp2_with (go_at_call 6; (with_reducible refine (alive_way way _).mono ?_); rintro e w' ⟨rfl, hg⟩)
  go_ret
  exact ⟨rfl, (HB.out _).trans (hg.mono (HB.out _).size)⟩

theorem alloc_size (u : World) (o : Obj) : (u.alloc o).heap.size = u.heap.size + 1 := by simp
/-- An act that lies. -/
def ActAt (w : World) (g o : Nat) (a : Ac) : Prop := w.cell? ⟨g, o, none⟩ = some (.int .u8 a.kind) ∧ At w g (o + 1) a.s ∧ w.cell? ⟨g, o + 5, none⟩ = some (.int .i64 a.keep)
theorem act_on {W u : World} {g o : Nat} {a : Ac} (h : ActAt W g o a) (hb : Below W.heap.size W u) : ActAt u g o a := by
  have hg : g < W.heap.size := World.block_lt_of_cell? _ _ h.1
  obtain ⟨h1, ⟨h2, h3, h4, h5⟩, h6⟩ := h
  exact ⟨(hb.cell (p := ⟨g, o, none⟩) hg).trans h1, ⟨(hb.cell (p := ⟨g, o + 1, none⟩) hg).trans h2, (hb.cell (p := ⟨g, o + 1 + 1, none⟩) hg).trans h3, (hb.cell (p := ⟨g, o + 1 + 2, none⟩) hg).trans h4, (hb.cell (p := ⟨g, o + 1 + 3, none⟩) hg).trans h5⟩, (hb.cell (p := ⟨g, o + 5, none⟩) hg).trans h6⟩
theorem putsOf_nat (a : Ac) : ∃ P : Nat, putsOf a = (P : Int) ∧ P ≤ 70 := by
  unfold putsOf
  split
  · exact ⟨1, rfl, by omega⟩
  · split
    · exact ⟨(max (min a.keep 70) 0).toNat, by omega, by omega⟩
    · exact ⟨0, rfl, by omega⟩
theorem act_in (l : List Ac) (k : Nat) (hk : k < l.length) : l.getD k noAc ∈ l := by simp [List.getD, hk]
/-- Behind a crash. -/
theorem crash_plain {room : Int} {y : Vs} (h : Vault.Good room y) (keep : Int) : ∃ l', states (all (dCrash keep y.1)) = some l' ∧ Holds room (dCrash keep y.1) ∧ IsBytes (all (dCrash keep y.1)) ∧ Vault.Good room (cut room (dCrash keep y.1), l') := by
  obtain ⟨n, hn, h1, h2, h3⟩ := good_open h keep
  refine ⟨_, h2, Disk.holds_crash _ h.holds, ?_, h3⟩
  rw [all_crash, h.file]
  exact (recs_bytes _).take _

set_option maxRecDepth 100000 in
set_option maxHeartbeats 8000000 in
theorem few (room : Int) (h0 : 0 ≤ room) (h1 : room < 65536) (p : Option Addr) (c : Nat) (l : List Ac) (a b : Sv) (W : World) (hl : (l.length : Int) ≤ 200) (hp : ActsAt W p l) (hn : ∀ x ∈ l, (0 ≤ x.kind ∧ x.kind < 256) ∧ Nums x.s ∧ Num x.keep) :
    Calls Try.prog 3 #[.int .u16 room, .slice p l.length c, .agg #[.int .i64 a.p, .int .i64 a.g, .int .i64 a.h, .int .i64 a.r, .int .i64 b.p, .int .i64 b.g, .int .i64 b.h, .int .i64 b.r]] W fun e w' => e = .returned (.bool true) ∧ Below W.heap.size W w' := by
  have hb0 : Below W.heap.size W (W.alloc (.cells #[.int .i64 a.p, .int .i64 a.g, .int .i64 a.h, .int .i64 a.r, .int .i64 b.p, .int .i64 b.g, .int .i64 b.h, .int .i64 b.r] 26)) := (Below.refl _ _).alloc (Nat.le_refl _) _
  have hbox := heap_alloc_new W (.cells #[.int .i64 a.p, .int .i64 a.g, .int .i64 a.h, .int .i64 a.r, .int .i64 b.p, .int .i64 b.g, .int .i64 b.h, .int .i64 b.r] 26)
  have hr1 := fun u => prises_any a b u
  have hr2 := fun u => rrises_any a b u
  have hof1 := fun u => of_any a u
  have hof2 := fun u => of_any b u
  generalize rises a b = R at hr1 hr2
  obtain ⟨a1, a2, a3, a4⟩ := a
  obtain ⟨b1, b2, b3, b4⟩ := b
  simp only [val] at *
  obtain ⟨V, hV⟩ : ∃ V, V = W.alloc (.cells #[.int .i64 a1, .int .i64 a2, .int .i64 a3, .int .i64 a4, .int .i64 b1, .int .i64 b2, .int .i64 b3, .int .i64 b4] 26) := ⟨_, rfl⟩
  rw [← hV] at hbox hb0
  have hnew : Calls Try.prog 7 #[.int .i64 room] (W.alloc (.cells #[.int .i64 a1, .int .i64 a2, .int .i64 a3, .int .i64 a4, .int .i64 b1, .int .i64 b2, .int .i64 b3, .int .i64 b4] 26)) fun e w' => e = .returned (.tuple #[.pointer (some ⟨V.heap.size, 0, none⟩), .int .i64 0]) ∧ Dsk 65 5 V.heap.size w' V.heap.size room ([], []) none ∧ Below V.heap.size V w' := by
    rw [← hV]
    exact new7 room V h0 (by omega)
  have HBX := Lib.hid hbox
  have HWV := Lib.hid hb0
  have HNM := Lib.hid hn
  have hpV : ∀ k, k < l.length → ∃ g o, p = some ⟨g, o, none⟩ ∧ ActAt V g (o + k * 6) (l.getD k noAc) := by
    rcases hp with hp | ⟨g, o, rfl, hc⟩
    · intro k hk
      rw [hp] at hk
      simp at hk
    · intro k hk
      exact ⟨g, o, rfl, act_on (W := W) (hc k hk) hb0⟩
  have HPV := Lib.hid hpV
  clear hpV hp hn hbox hb0 hV
  go_enter Try.func3, Try.ntmps3
  go_wp2_with (first
    | (go_at_call 7; (with_reducible refine hnew.mono ?_); rintro e u1 ⟨rfl, hd, hb⟩; have hop := popen0 hd hb h0 (by omega); clear hnew hd hb)
    | (go_at_call 8; (with_reducible refine hop.mono ?_); rintro e u2 ⟨q, rfl, hpv, hb⟩; have hro := ropen0 (hst0 hpv hb) h0 (by omega); clear hop hpv hb)
    | (go_at_call 9; (with_reducible refine hro.mono ?_); rintro e u3 ⟨rfl, hps⟩; rw [alloc_size] at hps; have S0 := Lib.hid hps; clear hro hps))
  generalize u2.heap.size + 1 = v0 at *
  generalize u2.heap.size = m at *
  have G0 := Lib.hid (good_none h0)
  go_loopw [9, 10, 11, 13] (fun vq ve vm i wr => ∃ (k : Nat) (y : Vs) (q v : Nat), k ≤ l.length ∧ i = .int .i64 (k : Int) ∧ vq = .pointer (some ⟨q, 0, none⟩) ∧ ve = .int .i64 0 ∧ vm = .pointer (some ⟨v, 0, none⟩) ∧ Hid (Pst V q v m room y y wr) ∧ Hid (Vault.Good room y)) (fun _ _ _ i _ => l.length - (intOf i).toNat)
  case atStart => exact ⟨0, _, _, _, by omega, rfl, rfl, rfl, rfl, S0, G0⟩
  case round =>
    obtain ⟨k, y, q, v, hk, rfl, rfl, rfl, rfl, hps, hgd⟩ := hrel
    clear S0 G0
    by_cases hlt : k < l.length
    · obtain ⟨g, o, rfl, hc⟩ : ∃ g o, p = some ⟨g, o, none⟩ ∧ ActAt V g (o + k * 6) (l.getD k noAc) := HPV.out k hlt
      obtain ⟨⟨ha0, ha1⟩, hns, hnk⟩ := HNM.out _ (act_in l k hlt)
      have hlt' : (k : Int) < (l.length : Int) := by omega
      have hat := fun u (hu : Below V.heap.size V u) => act_on hc hu
      have hputs := fun u => puts_any (l.getD k noAc) ha0 ha1 hnk u
      obtain ⟨P, hP, hP70⟩ := putsOf_nat (l.getD k noAc)
      rw [hP] at hputs
      generalize l.getD k noAc = act at *
      obtain ⟨kind, s, keep⟩ := act
      have hof := fun u => of_any s u
      have hnsH := Lib.hid hns
      have hput := fun (u : World) (y1 y2 : Vs) (h : Pst V q v m room y1 y2 u) (hg : Vault.Good room y1) => pput h hg (by omega) s hns
      have href := fun (u : World) (y1 y2 : Vs) (h : Pst V q v m room y1 y2 u) (hg : Vault.Good room y2) => pref h hg h0 (by omega) s
      have hgp := fun (y : Vs) (hg : Vault.Good room y) => good_put hg s
      have HGP := Lib.hid hgp
      have HAT := Lib.hid hat
      have HNK := Lib.hid hnk
      clear hP hc hns hgp hat hnk hnsH
      obtain ⟨p1, g1, r1, t1⟩ := s
      simp only [val] at hputs hof hput href ha0 ha1
      go_wp2
      go_loopw [14] (fun i2 w2 => ∃ (j : Nat) (y2 : Vs), j ≤ P ∧ i2 = .int .i64 (j : Int) ∧ Hid (Pst V q v m room y2 y2 w2) ∧ Hid (Vault.Good room y2)) (fun i2 _ => P - (intOf i2).toNat)
      case atStart => exact ⟨0, y, by omega, rfl, hps, hgd⟩
      case round =>
        obtain ⟨j, y2, hj, rfl, hp2, hg2⟩ := hrel
        clear hps hgd
        obtain ⟨c0, ⟨c1, c2, c3, c4⟩, c5⟩ := HAT.out _ hp2.out.below
        simp only at c0 c1 c2 c3 c4 c5
        by_cases hjP : j < P
        · have hjP' : (j : Int) < (P : Int) := by omega
          have hput2 := fun u (h : Pst V q v m room y2 y2 u) => hput u y2 y2 h hg2.out
          have href2 := fun u y' (h : Pst V q v m room y' y2 u) => href u y' y2 h hg2.out
          have hg3 := Lib.hid (HGP.out y2 hg2.out)
          generalize ePut room y2 ⟨p1, g1, r1, t1⟩ = e0 at *
          generalize vPut room y2 ⟨p1, g1, r1, t1⟩ = y' at *
          clear hput href
          go_wp2_with (first
            | (go_at_call 10; (with_reducible refine (hputs _).mono ?_); rintro e u4 ⟨rfl, hb⟩; have P4 := Lib.hid (hp2.out.on hb); clear hb c0 c1 c2 c3 c4 c5 hp2 hputs; obtain ⟨c0, ⟨c1, c2, c3, c4⟩, c5⟩ := HAT.out _ P4.out.below; simp only at c0 c1 c2 c3 c4 c5)
            | (go_at_call 11; (with_reducible refine (hput2 _ P4.out).mono ?_); rintro e u5 ⟨rfl, h5⟩; have P5 := Lib.hid h5; clear h5 c0 c1 c2 c3 c4 c5 P4 hput2; obtain ⟨c0, ⟨c1, c2, c3, c4⟩, c5⟩ := HAT.out _ P5.out.below; simp only at c0 c1 c2 c3 c4 c5)
            | (go_at_call 13; (with_reducible refine (hof _).mono ?_); rintro e u6 ⟨rfl, hb⟩; have P6 := Lib.hid (P5.out.on hb); clear hb P5)
            | (go_at_call 12; (with_reducible refine (href2 _ _ P6.out).mono ?_); rintro e u7 ⟨rfl, h7⟩; have P7 := Lib.hid h7; clear h7 P6 href2))
          go_roundw
          case rel => exact ⟨j + 1, y', by omega, by go_num, P7, hg3⟩
          case measure => simp [intOf]; omega
        · obtain rfl : j = P := by omega
          have hgood := hg2.out
          clear hput href HGP hof
          have hcase : kind % 6 = 3 ∨ kind % 6 = 4 ∨ (kind % 6 ≠ 3 ∧ kind % 6 ≠ 4) := by omega
          rcases hcase with hm | hm | ⟨hm, hm'⟩
          · have hsy := fun u (h : Pst V q v m room y2 y2 u) => psync h hgood (by omega)
            have hsr := fun u y' (h : Pst V q v m room y' y2 u) => psref h hgood (by omega)
            have hg3 := Lib.hid (good_sync hgood)
            have hsame := fun u (h : Pst V q v m room (vSync room y2) (vSync room y2) u) => psame h hg3.out (by omega)
            generalize vSync room y2 = y' at *
            go_wp2_with (first
              | (go_at_call 10; (with_reducible refine (hputs _).mono ?_); rintro e u4 ⟨rfl, hb⟩; have P4 := Lib.hid (hp2.out.on hb); clear hb c0 c1 c2 c3 c4 c5 hp2 hputs; obtain ⟨c0, ⟨c1, c2, c3, c4⟩, c5⟩ := HAT.out _ P4.out.below; simp only at c0 c1 c2 c3 c4 c5)
              | (go_at_call 14; (with_reducible refine (hsy _ P4.out).mono ?_); rintro e u5 ⟨rfl, h5⟩; have P5 := Lib.hid h5; clear h5 c0 c1 c2 c3 c4 c5 P4 hsy)
              | (go_at_call 15; (with_reducible refine (hsr _ _ P5.out).mono ?_); rintro e u6 ⟨rfl, h6⟩; have P6 := Lib.hid h6; clear h6 P5 hsr)
              | (go_at_call 18; (with_reducible refine (hsame _ P6.out).mono ?_); rintro e u7 ⟨rfl, h7⟩; have P7 := Lib.hid h7; clear h7 P6 hsame))
            go_roundw
            case rel => exact ⟨k + 1, y', q, v, by omega, by go_num, rfl, rfl, rfl, P7, hg3⟩
            case measure => simp [intOf]; omega
          · obtain ⟨l', s1, s2, s3, s4⟩ := crash_plain hgood keep
            have hnk := HNK.out
            have hcr := fun u (h : Pst V q v m room y2 y2 u) => pcrash h hgood.holds (by omega) keep hnk
            have hcf := fun u (h : Dst V v m room (dCrash keep y2.1) y2 u) => pcref h hgood.holds (by omega) keep hnk
            have hop := fun u yy (h : Dst V v m room (dCrash keep y2.1) yy u) => popen h s2 (by omega) s3 l' s1
            have hro := fun u q' y1 (h : Pst V q' v m room y1 (dCrash keep y2.1, y2.2) u) => ropen h.hst s2 (by omega) s3 l' s1
            have hsame := fun u q' v' (h : Pst V q' v' m room (cut room (dCrash keep y2.1), l') (cut room (dCrash keep y2.1), l') u) => psame h s4 (by omega)
            have hg3 := Lib.hid s4
            generalize (cut room (dCrash keep y2.1), l') = y' at *
            generalize (dCrash keep y2.1, y2.2) = y3 at *
            generalize dCrash keep y2.1 = dc at *
            generalize Disk.gone keep y2.1 = gn at *
            clear s1 s2 s3 s4 hnk
            go_wp2_with (first
              | (go_at_call 10; (with_reducible refine (hputs _).mono ?_); rintro e u4 ⟨rfl, hb⟩; have P4 := Lib.hid (hp2.out.on hb); clear hb c0 c1 c2 c3 c4 c5 hp2 hputs; obtain ⟨c0, ⟨c1, c2, c3, c4⟩, c5⟩ := HAT.out _ P4.out.below; simp only at c0 c1 c2 c3 c4 c5)
              | (go_at_call 16; (with_reducible refine (hcr _ P4.out).mono ?_); rintro e u5 ⟨rfl, h5⟩; have P5 := Lib.hid (h5.on (Below.refl u5.heap.size u5).drew); clear h5 c0 c1 c2 c3 c4 c5 P4 hcr))
            obtain ⟨-, -, c5⟩ := HAT.out _ P5.out.below
            have pp := P5.out.ptr
            simp only at c5
            go_region_held3 (fun u => u.cell? ⟨v, 0, none⟩ = some (.pointer (some ⟨m, 0, none⟩)) ∧ u.cell? ⟨g, o + k * 6 + 5, none⟩ = some (.int .i64 keep)) (first | assumption | exact ⟨pp, c5⟩ | exact ⟨pp6, c6⟩) (first
              | (go_at_call 17; (with_reducible refine (hcf _ P5.out).mono ?_); rintro e u6 ⟨rfl, h6⟩; have P6 := Lib.hid h6; have pp6 := h6.ptr; obtain ⟨-, -, c6⟩ := HAT.out _ h6.below; simp only at c6; clear h6 hcf))
            all_goals
              clear pp c5 c6 pp6 P5
              go_wp2_with (first
                | (go_at_call 8; (with_reducible refine (hop _ _ P6.out).mono ?_); rintro e u7 ⟨q', rfl, h7⟩; have P7 := Lib.hid h7; have pp7 := h7.ptr; clear h7 P6 hop)
                | (go_at_call 9; (with_reducible refine (hro _ _ _ P7.out).mono ?_); rintro e u8 ⟨rfl, h8⟩; have P8 := Lib.hid h8; clear h8 P7 hro pp7)
                | (go_at_call 18; (with_reducible refine (hsame _ _ _ P8.out).mono ?_); rintro e u9 ⟨rfl, h9⟩; have P9 := Lib.hid h9; clear h9 P8 hsame))
              go_roundw
              case rel => exact ⟨k + 1, y', q', u7.heap.size, by omega, by go_num, rfl, rfl, rfl, P9, hg3⟩
              case measure => simp [intOf]; omega
          · have hsame := fun u (h : Pst V q v m room y2 y2 u) => psame h hgood (by omega)
            have hg3 := Lib.hid hgood
            go_wp2_with (first
              | (go_at_call 10; (with_reducible refine (hputs _).mono ?_); rintro e u4 ⟨rfl, hb⟩; have P4 := Lib.hid (hp2.out.on hb); clear hb c0 c1 c2 c3 c4 c5 hp2 hputs; obtain ⟨c0, ⟨c1, c2, c3, c4⟩, c5⟩ := HAT.out _ P4.out.below; simp only at c0 c1 c2 c3 c4 c5)
              | (go_at_call 18; (with_reducible refine (hsame _ P4.out).mono ?_); rintro e u7 ⟨rfl, h7⟩; have P7 := Lib.hid h7; clear h7 P4 hsame))
            go_roundw
            case rel => exact ⟨k + 1, y2, q, v, by omega, by go_num, rfl, rfl, rfl, P7, hg3⟩
            case measure => simp [intOf]; omega
    · obtain rfl : k = l.length := by omega
      have hbx : ∀ u, Below V.heap.size V u → u.cell? ⟨W.heap.size, 0, none⟩ = some (.int .i64 a1) ∧ u.cell? ⟨W.heap.size, 1, none⟩ = some (.int .i64 a2) ∧ u.cell? ⟨W.heap.size, 2, none⟩ = some (.int .i64 a3) ∧ u.cell? ⟨W.heap.size, 3, none⟩ = some (.int .i64 a4) ∧ u.cell? ⟨W.heap.size, 4, none⟩ = some (.int .i64 b1) ∧ u.cell? ⟨W.heap.size, 5, none⟩ = some (.int .i64 b2) ∧ u.cell? ⟨W.heap.size, 6, none⟩ = some (.int .i64 b3) ∧ u.cell? ⟨W.heap.size, 7, none⟩ = some (.int .i64 b4) := fun u hu => by
        have hk := (hu.block _ (lt_of_heap HBX.out)).trans HBX.out
        exact ⟨by rw [cell_of_row u _ 0 _ _ (0, 0) hk]; rfl, by rw [cell_of_row u _ 1 _ _ (0, 0) hk]; rfl, by rw [cell_of_row u _ 2 _ _ (0, 0) hk]; rfl, by rw [cell_of_row u _ 3 _ _ (0, 0) hk]; rfl, by rw [cell_of_row u _ 4 _ _ (0, 0) hk]; rfl, by rw [cell_of_row u _ 5 _ _ (0, 0) hk]; rfl, by rw [cell_of_row u _ 6 _ _ (0, 0) hk]; rfl, by rw [cell_of_row u _ 7 _ _ (0, 0) hk]; rfl⟩
      have B0 := Lib.hid hps.out.below
      have HX := Lib.hid hbx
      have hnp := fun u => pput_nil zero u
      have hns := fun u => pstate_nil u
      have hz := fun (u : World) => eql_own zero zero u
      rw [same4_refl] at hz
      simp only [val, zero] at hnp hns hz
      clear hps hgd hbx HNM HPV
      cases R
      all_goals
        go_wp2_with (first
          | (go_at_call 14; (with_reducible refine (psync_nil _).mono ?_); rintro e u1 ⟨rfl, hb⟩; have B1 := Lib.hid (B0.out.trans (hb.mono B0.out.size)); clear hb B0)
          | (go_at_call 8; (with_reducible refine (popen_nil _).mono ?_); rintro e u2 ⟨rfl, hb⟩; have B2 := Lib.hid (B1.out.trans (hb.mono B1.out.size)).drew; clear hb B1))
        have x2 := HX.out _ B2.out
        go_region_held3 (fun u => u.cell? ⟨W.heap.size, 0, none⟩ = some (.int .i64 a1) ∧ u.cell? ⟨W.heap.size, 1, none⟩ = some (.int .i64 a2) ∧ u.cell? ⟨W.heap.size, 2, none⟩ = some (.int .i64 a3) ∧ u.cell? ⟨W.heap.size, 3, none⟩ = some (.int .i64 a4) ∧ u.cell? ⟨W.heap.size, 4, none⟩ = some (.int .i64 b1) ∧ u.cell? ⟨W.heap.size, 5, none⟩ = some (.int .i64 b2) ∧ u.cell? ⟨W.heap.size, 6, none⟩ = some (.int .i64 b3) ∧ u.cell? ⟨W.heap.size, 7, none⟩ = some (.int .i64 b4)) (first | assumption | exact x2) (first
          | (go_at_call 19; (with_reducible refine (hr1 _).mono ?_); rintro e u3 ⟨rfl, hb⟩; have B3 := Lib.hid (B2.out.trans (hb.mono B2.out.size)); have x3 := HX.out _ B3.out; clear hb)
          | (go_at_call 13; (with_reducible refine (hof1 _).mono ?_); rintro e u4 ⟨rfl, hb⟩; have B4 := Lib.hid (B3.out.trans (hb.mono B3.out.size)); have x4 := HX.out _ B4.out; clear hb)
          | (go_at_call 13; (with_reducible refine (hof2 _).mono ?_); rintro e u5 ⟨rfl, hb⟩; have B5 := Lib.hid (B4.out.trans (hb.mono B4.out.size)); have x5 := HX.out _ B5.out; clear hb)
          | (go_at_call 20; (with_reducible refine (hr2 _).mono ?_); rintro e u6 ⟨rfl, hb⟩; have B6 := Lib.hid (B5.out.trans (hb.mono B5.out.size)); have x6 := HX.out _ B6.out; clear hb))
        all_goals
          go_wp2_with (first
            | (go_at_call 6; (with_reducible refine (alive_way way _).mono ?_); rintro e u7 ⟨rfl, hb⟩; have B7 := Lib.hid (B6.out.trans (hb.mono B6.out.size)); clear hb)
            | (go_at_call 11; (with_reducible refine (hnp _).mono ?_); rintro e u8 ⟨rfl, hb⟩; have B8 := Lib.hid (B7.out.trans (hb.mono B7.out.size)); clear hb)
            | (go_at_call 21; (with_reducible refine (hns _).mono ?_); rintro e u9 ⟨rfl, hb⟩; have B9 := Lib.hid (B8.out.trans (hb.mono B8.out.size)); clear hb)
            | (go_at_call 22; (with_reducible refine (precs_nil _).mono ?_); rintro e u10 ⟨rfl, hb⟩; have B10 := Lib.hid (B9.out.trans (hb.mono B9.out.size)); clear hb))
          go_ret
          exact ⟨rfl, HWV.out.trans (B10.out.mono HWV.out.size)⟩

theorem walk {W : World} (room : Int) (hr : (Lit.int .u16 room).wf = true) (p : Option Addr) (c : Nat) (l : List Ac) (_ : (l.length : Int) ≤ 9223372036854775807) (ha : ActsAt W p l) (hn : ∀ x ∈ l, 0 ≤ x.kind ∧ x.kind < 256 ∧ Nums x.s ∧ Num x.keep) (a b : Sv) (_ : Nums a) (_ : Nums b) :
    Calls Try.prog 3 #[.int .u16 room, .slice p l.length c, .agg #[.int .i64 a.p, .int .i64 a.g, .int .i64 a.h, .int .i64 a.r, .int .i64 b.p, .int .i64 b.g, .int .i64 b.h, .int .i64 b.r]] W fun e w' => e = .returned (.bool true) ∧ Below W.heap.size W w' := by
  obtain ⟨h0, h1⟩ := u16_wf hr
  by_cases hl : 200 < (l.length : Int)
  · exact long room p l.length c a b W hl
  · exact few room h0 h1 p c l a b W (by omega) ha (fun x hx => ⟨⟨(hn x hx).1, (hn x hx).2.1⟩, (hn x hx).2.2⟩)

theorem own : ownKnob Try.prog.godebug = none := by kernel_rfl

set_option maxRecDepth 100000 in
theorem lifted (os : Os) (started : os.Started) (H : Type) (enc : TypeId × Value → H) :
    ReturnsInHanded {} Try.checked os 3 .any (Rows.vaultPlaysSpec.pre6 enc Try.prog Try.f3 Rows.vaultPlaysRow.domain false) (Rows.vaultPlaysSpec.post enc Try.prog Try.f3 false true false false) := by
  refine returnsInHanded_of_change (C := Try.checked) own started (by kernel_rfl) Try.func3
    (ChangeSpec.witness6 (enc := enc) (C := Try.checked) false ⟨#[], #[.int .u16 0, .slice none 0 0, .agg #[.int .i64 0, .int .i64 0, .int .i64 0, .int .i64 0, .int .i64 0, .int .i64 0, .int .i64 0, .int .i64 0]], []⟩ 16 (by kernel_rfl) (by kernel_rfl) (by kernel_rfl) (by kernel_rfl)) ?_
  intro W base args ds gs before hval0 hW hcnd _
  have hval : ∀ (j : Nat) t v, Try.f3.params[j]? = some t → args[j]? = some v → Value.okWide Try.prog W .any base t v := hval0
  have hW' := hW
  obtain ⟨p, q, hA0, hV, rfl, hfz, hnd⟩ := hW
  have hA : DataW.TrodAll enc Try.prog W 0 (fun _ => true) true Try.f3.params.toList args.toList ds p := hA0
  rw [Try.params3] at hA hval
  obtain ⟨v0, vs0, d0, ds0, p0, q0, hargs, rfl, rfl, h0, r0⟩ := trodAll_cons hA
  obtain ⟨v1, vs1, d1, ds1, p1, q1, rfl, rfl, rfl, h1, r1⟩ := trodAll_cons r0
  obtain ⟨v2, vs2, d2, ds2, p2, q2, rfl, rfl, rfl, h2, r2⟩ := trodAll_cons r1
  obtain ⟨rfl, rfl, rfl⟩ := trodAll_nil r2
  obtain rfl : args = #[v0, v1, v2] := by cases args; simp_all
  obtain ⟨rfl, rfl⟩ := trodVars_none hV
  obtain ⟨a0, rfl, -, -, w0⟩ := open_int Try.underlying22 (hval 0 22 v0 rfl rfl) h0
  obtain ⟨p1', c1, l1, rfl, hl1, ha1, hw1⟩ := Vault.open_acts (hval 1 23 v1 rfl rfl) h1
  obtain ⟨sa2, sb2, rfl, na2, nb2⟩ := Vault.open_two_states (hval 2 26 v2 rfl rfl) h2
  clear hA0 hval0
  refine (walk a0 w0 p1' c1 l1 hl1 ha1 hw1 sa2 sb2 na2 nb2).mono fun e W' ⟨he, hg⟩ => ?_
  subst he
  exact ⟨_, rfl, Row.law_post hW' rfl rfl rfl rfl (by kernel_rfl) Try.underlying4 (by kernel_rfl) (by kernel_rfl) hg⟩

theorem over : Rows.vaultPlaysRow.holds Try.pinned (OpenSpec.ofChange Rows.vaultPlaysSpec) :=
  OpenClaim.holds_of_wide 3 Try.f3 rfl rfl rfl rfl rfl rfl rfl ⟨rfl, rfl, rfl, rfl, rfl⟩ rfl rfl rfl rfl rfl (by kernel_rfl) Try.func3 (by kernel_rfl)
    (of_decide_eq_true (by kernel_rfl)) (by unfold Func.isWrapper; first | (rw [if_pos (by decide +kernel)]; kernel_rfl) | (rw [if_neg (by decide +kernel)]; exact ⟨rfl, rfl⟩))
    (fun os started H enc _ => lifted os started H enc)

/-- The given statement. -/
theorem proved : Rows.VaultPlaysSaid :=
  over
#print axioms proved
end Go.Proofs.Ytlbdkigiphnabaa.vaultPlays
