/-
  VaultKeeps: for all states, every number of syncs and every keep: wherever it crashes, the state is one that was put, from the last safe one on; that one rises to it, and it to the last one; of more than 200 states, and where a state may not be put, the live question alone is asked.
-/
import Derived.Test.YtlbdkigiphnabaaRows
import Derived.Test.YtlbdkigiphnabaaVaultKeepsSt
import Derived.BigQuiet
namespace Go.Proofs.Ytlbdkigiphnabaa.vaultKeeps
open Go.ChangeShapes Go.WideShapes Go.RowKit
open _root_.Go.Proofs.Ytlbdkigiphnabaa.Codec (IsBytes lt_of_heap)
open _root_.Go.Proofs.Ytlbdkigiphnabaa.Disk (Sl Dsk Holds all dCrash stay over)
open _root_.Go.Proofs.Ytlbdkigiphnabaa.Vault

theorem long (p : Option Addr) (n c : Nat) (synced keep : Int) (W : World) (h : 200 < (n : Int)) :
    Calls Try.prog 5 #[.slice p n c, .int .i64 synced, .int .i64 keep] W fun e w' => e = .returned (.bool true) ∧ Below W.heap.size W w' := by
  go_enter Try.func5, Try.ntmps5
  go_wp2_with (go_at_call 6; (with_reducible refine (alive_way way _).mono ?_); rintro e w' ⟨rfl, hg⟩)
  go_ret
  exact ⟨rfl, hg⟩

theorem at_on {W u : World} {g o : Nat} {s : Sv} (h : At W g o s) (hb : Below W.heap.size W u) : At u g o s := by
  have hg : g < W.heap.size := World.block_lt_of_cell? _ _ h.1
  exact ⟨(hb.cell (p := ⟨g, o, none⟩) hg).trans h.1, (hb.cell (p := ⟨g, o + 1, none⟩) hg).trans h.2.1, (hb.cell (p := ⟨g, o + 2, none⟩) hg).trans h.2.2.1, (hb.cell (p := ⟨g, o + 3, none⟩) hg).trans h.2.2.2⟩
theorem open0 {W u : World} (hd : Dsk 65 5 W.heap.size u W.heap.size 65536 ([], []) none) (hb : Below W.heap.size W u) :
    Calls Try.prog 8 #[.pointer (some ⟨W.heap.size, 0, none⟩)] u fun e w' => ∃ q, e = .returned (.tuple #[.pointer (some ⟨q, 0, none⟩), .int .i64 0]) ∧ (∃ x, Pv W.heap.size w' q W.heap.size 65536 (([], []), []) x) ∧ Below W.heap.size W w' := by
  refine (popen_yes hd hb.size (by simp [Holds]) (by omega) (by intro x hx; cases hx) (l := []) rfl).mono ?_
  rintro e w' ⟨q, rfl, x', h1, _, h3⟩
  exact ⟨q, rfl, ⟨x', h1⟩, hb.trans h3⟩
theorem start {W u : World} {q : Nat} {l : List Sv} (h : ∃ x, Pv W.heap.size u q W.heap.size 65536 (([], []), []) x) (hb : Below W.heap.size W u) :
    Kst W q u.heap.size (u.heap.size + 1) l (([], []), []) zero zero zero ((u.alloc (.cells #[.int .i64 0, .int .i64 0, .int .i64 0, .int .i64 0] 25)).alloc (.cells #[.int .i64 0, .int .i64 0, .int .i64 0, .int .i64 0] 25)) := by
  have hb2 : Below u.heap.size u ((u.alloc (.cells #[.int .i64 0, .int .i64 0, .int .i64 0, .int .i64 0] 25)).alloc (.cells #[.int .i64 0, .int .i64 0, .int .i64 0, .int .i64 0] 25)) := ((Below.refl _ _).alloc (Nat.le_refl _) _).alloc (by simp) _
  obtain ⟨x, h⟩ := h
  refine ⟨⟨x, Half.below h hb2⟩, ⟨(Below.heap_alloc _ _ _ (by simp)).trans (heap_alloc_new _ _), ?_, hb.trans (hb2.mono hb.size), hb.size, Nat.le_succ_of_le hb.size, by omega⟩, safe_none (by omega), fun s hs => (by cases hs), .inl rfl⟩
  have := heap_alloc_new (u.alloc (.cells #[.int .i64 0, .int .i64 0, .int .i64 0, .int .i64 0] 25)) (.cells #[.int .i64 0, .int .i64 0, .int .i64 0, .int .i64 0] 25)
  rwa [show (u.alloc (.cells #[.int .i64 0, .int .i64 0, .int .i64 0, .int .i64 0] 25)).heap.size = u.heap.size + 1 by simp] at this

/-- .. and the box of the state behind the crash. -/
structure Ex (W : World) (b1 b2 b3 : Nat) (t la now : Sv) (u : World) : Prop where
  bx : Bx W b1 b2 t la u
  box3 : u.heap[b3]? = some (.cells #[.int .i64 now.p, .int .i64 now.g, .int .i64 now.h, .int .i64 now.r] 25 (0, 0))
theorem Ex.on {W u u' : World} {b1 b2 b3 : Nat} {t la now : Sv} (h : Ex W b1 b2 b3 t la now u) (hb : Below u.heap.size u u') : Ex W b1 b2 b3 t la now u' :=
  ⟨h.bx.on hb, (hb.block _ (lt_of_heap h.box3)).trans h.box3⟩
theorem take_in (l : List Sv) (k : Nat) (hk : k < l.length) : l.getD k zero ∈ l := by simp [List.getD, hk]
theorem any_take (l : List Sv) (f : Sv → Bool) (k : Nat) (hk : k < l.length) : (l.take (k + 1)).any f = ((l.take k).any f || f (l.getD k zero)) := by
  rw [List.take_succ_eq_append_getElem hk, List.any_append]
  simp [List.getD, hk]

set_option maxRecDepth 100000 in
set_option maxHeartbeats 4000000 in
theorem few (p : Option Addr) (c : Nat) (l : List Sv) (synced keep : Int) (W : World) (hl : (l.length : Int) ≤ 200) (hp : StatesAt W p l) (hn : ∀ s ∈ l, Nums s) (hk : Num keep) :
    Calls Try.prog 5 #[.slice p l.length c, .int .i64 synced, .int .i64 keep] W fun e w' => e = .returned (.bool true) ∧ Below W.heap.size W w' := by
  have hnew := new7 65536 W (by omega) (by omega)
  have HP := Lib.hid hp
  have HNM := Lib.hid hn
  have HK := Lib.hid hk
  clear hp hn hk
  go_enter Try.func5, Try.ntmps5
  go_wp2_with (first
    | (go_at_call 7; (with_reducible refine hnew.mono ?_); rintro e u1 ⟨rfl, hd, hb⟩; have hop := open0 hd hb; clear hnew hd hb)
    | (go_at_call 8; (with_reducible refine hop.mono ?_); rintro e u2 ⟨q, rfl, hpv, hb⟩; have S0 := Lib.hid (start (l := l) hpv hb); clear hop hpv hb))
  have hu2 : u2.heap.size < u2.heap.size + 1 := Nat.lt_succ_self _
  go_loopw [13] (fun i wr => ∃ (k : Nat) (y : Vs) (t : Sv), k ≤ l.length ∧ i = .int .i64 (k : Int) ∧ Hid (Kst W q u2.heap.size (u2.heap.size + 1) l y t t (last y.2) wr)) (fun i _ => l.length - (intOf i).toNat)
  case atStart => exact ⟨0, _, _, by omega, rfl, S0⟩
  case round =>
    obtain ⟨k, y, t, hk, rfl, hks⟩ := hrel
    clear S0
    by_cases hlt : k < l.length
    · obtain ⟨g, o, rfl, hc⟩ : ∃ g o, p = some ⟨g, o, none⟩ ∧ _ := by
        rcases HP.out with h | h
        · rw [h] at hlt; simp at hlt
        · exact h
      have hat := fun u (hu : Below W.heap.size W u) => at_on (hc k hlt) hu
      have hin := take_in l k hlt
      have hnm := HNM.out _ hin
      have hlt' : (k : Int) < (l.length : Int) := by omega
      have hK := hks.out
      obtain ⟨a0, a1, a2, a3⟩ := hat _ hK.bx.below
      rcases eput_cases 65536 y (l.getD k zero) with ⟨he, hok⟩ | he
      · have hput := kput_yes hK _ hnm hin he hok
        have hv := congrArg last (vput_ok hok)
        rw [last_snoc] at hv
        generalize vPut 65536 y (l.getD k zero) = y' at hput hv
        generalize l.getD k zero = s at *
        obtain ⟨p1, g1, h1, r1⟩ := s
        have HAT := Lib.hid hat
        have HV := Lib.hid hv
        have HIN := Lib.hid hin
        simp only [val] at hput a0 a1 a2 a3
        generalize last y.2 = la at *
        clear he hok hin hnm hat hc hks HP HNM hv hK
        by_cases hsk : (k : Int) < synced
        · have hsync : ∀ u, Kst W q u2.heap.size (u2.heap.size + 1) l y' t t ⟨p1, g1, h1, r1⟩ u → Calls Try.prog 14 #[.pointer (some ⟨q, 0, none⟩)] u fun e w' => e = .returned (.tuple #[]) ∧ Kst W q u2.heap.size (u2.heap.size + 1) l (vSync 65536 y') ⟨p1, g1, h1, r1⟩ t ⟨p1, g1, h1, r1⟩ w' := by
            intro u hu
            have := ksync hu (by rw [HV.out]; exact HIN.out)
            rw [HV.out] at this
            exact this
          go_wp2_with (first
            | (go_at_call 11; (with_reducible refine hput.mono ?_); rintro e u3 ⟨rfl, h3⟩; obtain ⟨b0, b1, b2, b3⟩ := HAT.out _ h3.bx.below; obtain ⟨d0, d1, d2, d3, ff⟩ := box_facts h3.bx.box2; have f0 := ff 0; have f1 := ff 1; have f2 := ff 2; have f3 := ff 3; have K4 := Lib.hid (h3.set2 p1 g1 h1 r1); clear hput h3 ff a0 a1 a2 a3)
            | (go_at_call 14; (with_reducible refine (hsync _ K4.out).mono ?_); rintro e u5 ⟨rfl, h5⟩; obtain ⟨c0, c1, c2, c3⟩ := HAT.out _ h5.bx.below; obtain ⟨k0, k1, k2, k3, gg⟩ := box_facts h5.bx.box1; have g0 := gg 0; have g1' := gg 1; have g2 := gg 2; have g3 := gg 3; have K6 := Lib.hid (h5.set1 p1 g1 h1 r1); clear hsync h5 gg K4 b0 b1 b2 b3 d0 d1 d2 d3 f0 f1 f2 f3))
          have hz : last (vSync 65536 y').2 = ⟨p1, g1, h1, r1⟩ := by rw [last_sync]; exact HV.out
          go_roundw
          case rel => exact ⟨k + 1, vSync 65536 y', ⟨p1, g1, h1, r1⟩, by omega, by go_num, (by rw [hz]; exact K6)⟩
          case measure => simp [intOf]; omega
        · have hsk' : synced ≤ (k : Int) := by omega
          go_wp2_with (go_at_call 11; (with_reducible refine hput.mono ?_); rintro e u3 ⟨rfl, h3⟩; obtain ⟨b0, b1, b2, b3⟩ := HAT.out _ h3.bx.below; obtain ⟨d0, d1, d2, d3, ff⟩ := box_facts h3.bx.box2; have f0 := ff 0; have f1 := ff 1; have f2 := ff 2; have f3 := ff 3; have K4 := Lib.hid (h3.set2 p1 g1 h1 r1); clear hput h3 ff a0 a1 a2 a3)
          go_roundw
          case rel => exact ⟨k + 1, y', t, by omega, by go_num, (by rw [HV.out]; exact K4)⟩
          case measure => simp [intOf]; omega
      · obtain ⟨e0, hee⟩ : ∃ e0, ePut 65536 y (l.getD k zero) = e0 := ⟨_, rfl⟩
        have hput := kput_no hK _ hnm e0 hee
        rw [hee] at he
        generalize l.getD k zero = s at *
        obtain ⟨p1, g1, h1, r1⟩ := s
        simp only [val] at hput a0 a1 a2 a3
        clear hin hnm hat hc hks HP HNM hK hee
        go_wp2_with (first
          | (go_at_call 11; (with_reducible refine hput.mono ?_); rintro e u3 ⟨rfl, hb3⟩; have B3 := Lib.hid hb3; clear hput hb3)
          | (go_at_call 6; (with_reducible refine (alive_way way _).mono ?_); rintro e w' ⟨rfl, hg⟩; have B4 := Lib.hid (B3.out.trans (hg.mono B3.out.size)); clear hg))
        go_ret
        exact ⟨rfl, B4.out⟩
    · obtain rfl : k = l.length := by omega
      have hK := hks.out
      obtain ⟨l', h1, h2, h3, h4, h5, h6, h7⟩ := keeps_end hK.safe hK.sub keep
      have hcr := kcrash hK keep HK.out
      have hop := fun u (hu : Cst W u2.heap.size (u2.heap.size + 1) (dCrash keep y.1) t (last y.2) u) => kopen hu h2 h3 l' h1
      have hstate : ∀ u v q', (∃ x, Pv W.heap.size u q' W.heap.size 65536 (cut 65536 (dCrash keep y.1), l') x) → Below u.heap.size u v → Calls Try.prog 21 #[.pointer (some ⟨q', 0, none⟩)] v fun e w' => e = .returned (val (last l')) ∧ Below v.heap.size v w' :=
        fun u v q' ⟨x, h⟩ hb => pstate_half (Half.below h hb)
      have hr1 := fun u => prises_any t (last l') u
      have hr2 := fun u => prises_any (last l') (last y.2) u
      rw [h4] at hr1
      rw [h5] at hr2
      have heq := fun (u : World) => eql_own (last l') t u
      have heq2 := fun (u : World) k => eql_own (last l') (l.getD k zero) u
      generalize dCrash keep y.1 = dc at *
      generalize Disk.gone keep y.1 = gn at *
      generalize last y.2 = la at *
      generalize last l' = now at *
      have H6 := Lib.hid h6
      have H7 := Lib.hid h7
      obtain ⟨k1, k2⟩ := HK.out
      clear hks hK h1 h2 h3 h4 h5 h6 h7 HK
      obtain ⟨n1, n2, n3, n4⟩ := now
      obtain ⟨t1, t2, t3, t4⟩ := t
      obtain ⟨m1, m2, m3, m4⟩ := la
      simp only [val] at hstate hr1 hr2 heq heq2
      generalize hS : same4 ⟨n1, n2, n3, n4⟩ ⟨t1, t2, t3, t4⟩ = S at heq
      have HS := Lib.hid hS
      clear hS
      go_wp2_with (first
        | (go_at_call 16; (with_reducible refine hcr.mono ?_); rintro e u3 ⟨rfl, h3⟩; have C3 := Lib.hid h3; clear hcr h3)
        | (go_at_call 8; (with_reducible refine (hop _ C3.out).mono ?_); rintro e u4 ⟨q4, rfl, hpv, hbx⟩; have P4 := Lib.hid hpv; have X4 := Lib.hid hbx; clear hop hpv hbx C3)
        | (go_at_call 21; (with_reducible refine (hstate _ _ _ P4.out (Below.refl _ _)).mono ?_); rintro e u5 ⟨rfl, hb⟩; have hx5 := X4.out.on hb; have E6 := Lib.hid (Ex.mk (now := ⟨n1, n2, n3, n4⟩) (hx5.on ((Below.refl u5.heap.size u5).alloc (Nat.le_refl _) (.cells #[.int .i64 n1, .int .i64 n2, .int .i64 n3, .int .i64 n4] 25))) (heap_alloc_new u5 (.cells #[.int .i64 n1, .int .i64 n2, .int .i64 n3, .int .i64 n4] 25))); obtain ⟨c0, c1, c2, c3, -⟩ := box_facts hx5.box1; have hlt5 := lt_of_heap hx5.box1; clear hstate hb hx5 P4 X4))
      generalize u5.alloc (.cells #[.int .i64 n1, .int .i64 n2, .int .i64 n3, .int .i64 n4] 25) = w6 at *
      generalize u5.heap.size = b5 at *
      clear c0 c1 c2 c3 hlt5 heq
      go_loopw [17, 18] (fun v i wr => ∃ k : Nat, k ≤ l.length ∧ i = .int .i64 (k : Int) ∧ v = .bool (S || (l.take k).any (same4 ⟨n1, n2, n3, n4⟩)) ∧ Hid (Ex W u2.heap.size (u2.heap.size + 1) b5 ⟨t1, t2, t3, t4⟩ ⟨m1, m2, m3, m4⟩ ⟨n1, n2, n3, n4⟩ wr)) (fun _ i _ => l.length - (intOf i).toNat)
      case atStart => exact ⟨0, by omega, rfl, by simp, E6⟩
      case round =>
        obtain ⟨k, hk, rfl, rfl, hex⟩ := hrel
        have hE := hex.out
        clear E6 hex
        by_cases hlt : k < l.length
        · obtain ⟨g, o, rfl, hc⟩ : ∃ g o, p = some ⟨g, o, none⟩ ∧ _ := by
            rcases HP.out with h | h
            · rw [h] at hlt; simp at hlt
            · exact h
          obtain ⟨a0, a1, a2, a3⟩ := at_on (hc k hlt) hE.bx.below
          obtain ⟨c0, c1, c2, c3, -⟩ := box_facts hE.box3
          have hlt' : (k : Int) < (l.length : Int) := by omega
          have hany := any_take l (same4 ⟨n1, n2, n3, n4⟩) k hlt
          have heq3 := fun u => heq2 u k
          generalize l.getD k zero = s at *
          obtain ⟨p1, g1, h1, r1⟩ := s
          simp only at a0 a1 a2 a3 heq3
          generalize same4 ⟨n1, n2, n3, n4⟩ ⟨p1, g1, h1, r1⟩ = R at heq3 hany
          generalize (l.take k).any (same4 ⟨n1, n2, n3, n4⟩) = A at *
          generalize hb : (S || A) = b at *
          have HN := Lib.hid (show (S || (l.take (k + 1)).any (same4 ⟨n1, n2, n3, n4⟩)) = (b || R) by rw [hany, ← hb, Bool.or_assoc])
          have EE := Lib.hid hE
          clear hany hb hc heq2 HP HNM hE
          cases b with
          | true =>
            go_wp2
            go_quiet (fail)
            go_wp2
            go_roundw
            case rel => exact ⟨k + 1, by omega, by go_num, (by rw [HN.out]; rfl), Lib.hid (EE.out.on ⟨rfl, rfl, rfl, Nat.le_refl _, fun _ _ => rfl⟩)⟩
            case measure => simp [intOf]; omega
          | false =>
            go_wp2
            go_quiet (fail)
            go_wp2
            go_roundw
            case rel => exact ⟨k + 1, by omega, by go_num, (by rw [HN.out]; rfl), Lib.hid (EE.out.on ⟨rfl, rfl, rfl, Nat.le_refl _, fun _ _ => rfl⟩)⟩
            case measure => simp [intOf]; omega
        · obtain rfl : k = l.length := by omega
          have hv : (S || (l.take l.length).any (same4 ⟨n1, n2, n3, n4⟩)) = true := by rw [List.take_length, ← HS.out]; exact H7.out
          rw [hv]
          have EE := Lib.hid hE
          clear hv hE heq2
          by_cases hk0 : 0 < keep
          · go_wp2_with (first
              | (go_at_call 6; (with_reducible refine (alive_way way _).mono ?_); rintro e u7 ⟨rfl, hb⟩; have E7 := Lib.hid (EE.out.on hb); obtain ⟨c0, c1, c2, c3, -⟩ := box_facts E7.out.bx.box1; obtain ⟨d0, d1, d2, d3, -⟩ := box_facts E7.out.box3; clear hb EE)
              | (go_at_call 19; (with_reducible refine (hr1 _).mono ?_); rintro e u8 ⟨rfl, hb⟩; have E8 := Lib.hid (E7.out.on hb); clear c0 c1 c2 c3 d0 d1 d2 d3; obtain ⟨c0, c1, c2, c3, -⟩ := box_facts E8.out.bx.box2; obtain ⟨d0, d1, d2, d3, -⟩ := box_facts E8.out.box3; clear hb E7 hr1)
              | (go_at_call 19; (with_reducible refine (hr2 _).mono ?_); rintro e u9 ⟨rfl, hb⟩; have E9 := Lib.hid (E8.out.on hb); clear c0 c1 c2 c3 d0 d1 d2 d3; obtain ⟨c0, c1, c2, c3, -⟩ := box_facts E9.out.bx.box1; obtain ⟨d0, d1, d2, d3, -⟩ := box_facts E9.out.box3; clear hb E8 hr2))
            go_ret
            exact ⟨rfl, E9.out.bx.below⟩
          · have hk1 : keep ≤ 0 := by omega
            have heq := fun (u : World) => eql_own ⟨n1, n2, n3, n4⟩ ⟨t1, t2, t3, t4⟩ u
            rw [H6.out hk1] at heq
            simp only [val] at heq
            clear hk0
            go_wp2_with (first
              | (go_at_call 6; (with_reducible refine (alive_way way _).mono ?_); rintro e u7 ⟨rfl, hb⟩; have E7 := Lib.hid (EE.out.on hb); obtain ⟨c0, c1, c2, c3, -⟩ := box_facts E7.out.bx.box1; obtain ⟨d0, d1, d2, d3, -⟩ := box_facts E7.out.box3; clear hb EE)
              | (go_at_call 19; (with_reducible refine (hr1 _).mono ?_); rintro e u8 ⟨rfl, hb⟩; have E8 := Lib.hid (E7.out.on hb); clear c0 c1 c2 c3 d0 d1 d2 d3; obtain ⟨c0, c1, c2, c3, -⟩ := box_facts E8.out.bx.box2; obtain ⟨d0, d1, d2, d3, -⟩ := box_facts E8.out.box3; clear hb E7 hr1)
              | (go_at_call 19; (with_reducible refine (hr2 _).mono ?_); rintro e u9 ⟨rfl, hb⟩; have E9 := Lib.hid (E8.out.on hb); clear c0 c1 c2 c3 d0 d1 d2 d3; obtain ⟨c0, c1, c2, c3, -⟩ := box_facts E9.out.bx.box1; obtain ⟨d0, d1, d2, d3, -⟩ := box_facts E9.out.box3; clear hb E8 hr2))
            go_ret
            exact ⟨rfl, E9.out.bx.below⟩

theorem walk {W : World} (p : Option Addr) (c : Nat) (l : List Sv) (_ : (l.length : Int) ≤ 9223372036854775807) (ha : StatesAt W p l) (hn : ∀ s ∈ l, Nums s) (synced : Int) (_ : (Lit.int .i64 synced).wf = true) (keep : Int) (hk : (Lit.int .i64 keep).wf = true) :
    Calls Try.prog 5 #[.slice p l.length c, .int .i64 synced, .int .i64 keep] W fun e w' => e = .returned (.bool true) ∧ Below W.heap.size W w' := by
  by_cases hl : 200 < (l.length : Int)
  · exact long p l.length c synced keep W hl
  · exact few p c l synced keep W (by omega) ha hn (num_wf hk)

theorem own : ownKnob Try.prog.godebug = none := by kernel_rfl

set_option maxRecDepth 100000 in
theorem lifted (os : Os) (started : os.Started) (H : Type) (enc : TypeId × Value → H) :
    ReturnsInHanded {} Try.checked os 5 .any (Rows.vaultKeepsSpec.pre6 enc Try.prog Try.f5 Rows.vaultKeepsRow.domain false) (Rows.vaultKeepsSpec.post enc Try.prog Try.f5 false true false false) := by
  refine returnsInHanded_of_change (C := Try.checked) own started (by kernel_rfl) Try.func5
    (ChangeSpec.witness6 (enc := enc) (C := Try.checked) false ⟨#[], #[.slice none 0 0, .int .i64 0, .int .i64 0], []⟩ 16 (by kernel_rfl) (by kernel_rfl) (by kernel_rfl) (by kernel_rfl)) ?_
  intro W base args ds gs before hval0 hW hcnd _
  have hval : ∀ (j : Nat) t v, Try.f5.params[j]? = some t → args[j]? = some v → Value.okWide Try.prog W .any base t v := hval0
  have hW' := hW
  obtain ⟨p, q, hA0, hV, rfl, hfz, hnd⟩ := hW
  have hA : DataW.TrodAll enc Try.prog W 0 (fun _ => true) true Try.f5.params.toList args.toList ds p := hA0
  rw [Try.params5] at hA hval
  obtain ⟨v0, vs0, d0, ds0, p0, q0, hargs, rfl, rfl, h0, r0⟩ := trodAll_cons hA
  obtain ⟨v1, vs1, d1, ds1, p1, q1, rfl, rfl, rfl, h1, r1⟩ := trodAll_cons r0
  obtain ⟨v2, vs2, d2, ds2, p2, q2, rfl, rfl, rfl, h2, r2⟩ := trodAll_cons r1
  obtain ⟨rfl, rfl, rfl⟩ := trodAll_nil r2
  obtain rfl : args = #[v0, v1, v2] := by cases args; simp_all
  obtain ⟨rfl, rfl⟩ := trodVars_none hV
  obtain ⟨p0', c0, l0, rfl, hl0, ha0, hw0⟩ := Vault.open_states (hval 0 62 v0 rfl rfl) h0
  obtain ⟨a1, rfl, -, -, w1⟩ := open_int Try.underlying3 (hval 1 3 v1 rfl rfl) h1
  obtain ⟨a2, rfl, -, -, w2⟩ := open_int Try.underlying3 (hval 2 3 v2 rfl rfl) h2
  clear hA0 hval0
  refine (walk p0' c0 l0 hl0 ha0 hw0 a1 w1 a2 w2).mono fun e W' ⟨he, hg⟩ => ?_
  subst he
  exact ⟨_, rfl, Row.law_post hW' rfl rfl rfl rfl (by kernel_rfl) Try.underlying4 (by kernel_rfl) (by kernel_rfl) hg⟩

theorem over : Rows.vaultKeepsRow.holds Try.pinned (OpenSpec.ofChange Rows.vaultKeepsSpec) :=
  OpenClaim.holds_of_wide 5 Try.f5 rfl rfl rfl rfl rfl rfl rfl ⟨rfl, rfl, rfl, rfl, rfl⟩ rfl rfl rfl rfl rfl (by kernel_rfl) Try.func5 (by kernel_rfl)
    (of_decide_eq_true (by kernel_rfl)) (by unfold Func.isWrapper; first | (rw [if_pos (by decide +kernel)]; kernel_rfl) | (rw [if_neg (by decide +kernel)]; exact ⟨rfl, rfl⟩))
    (fun os started H enc _ => lifted os started H enc)

/-- The given statement. -/
theorem proved : Rows.VaultKeepsSaid :=
  over
#print axioms proved
end Go.Proofs.Ytlbdkigiphnabaa.vaultKeeps
