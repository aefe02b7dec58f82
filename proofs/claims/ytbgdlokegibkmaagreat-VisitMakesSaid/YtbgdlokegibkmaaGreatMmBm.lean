/-
  The guest's grant: each key that the edge wants is minted, and lent, or refused; who is answered is told.
-/
import Derived.Test.YtbgdlokegibkmaaGreatMmAs
import Derived.Test.YtbgdlokegibkmaaGreatMmBd
import Derived.Test.YtbgdlokegibkmaaGreatMmBg
import Derived.Test.YtbgdlokegibkmaaGreatMmBl
namespace Go.Proofs.YtbgdlokegibkmaaGreat.Visit
open Go.RowKit
open _root_.Go.Proofs.YtbgdlokegibkmaaGreat.Frame (Rw Tb Tk noRow LeasesAt cell_on)
open _root_.Go.Proofs.YtbgdlokegibkmaaGreat.Ledger (RowAt RowsAt LeasesIn Rise mint held tabVal cfVal)
open _root_.Go.Proofs.YtbgdlokegibkmaaGreat.Codec (Ints lt_of_heap frozen_of heap_set)
open _root_.Go.Proofs.YtbgdlokegibkmaaGreat.Kit (Lies Kept Off)
open _root_.Go.Proofs.YtbgdlokegibkmaaGreat.Edge (Cf Eg An Ed RatesB CfNum Says HasN Typed In Moves KeepC Lens pair wants refuse)
open _root_.Go.Proofs.YtbgdlokegibkmaaGreat.Token (tokVal)
open _root_.Go.Proofs.YtbgdlokegibkmaaGreat.Lease (Num)
theorem wants_rate {c : Cf} {e : Eg} : ∀ x ∈ wants c e, 0 ≤ Ledger.rateAt c.zs x.1 := by
  intro x hx
  unfold wants at hx
  obtain ⟨h1, h2⟩ := List.mem_filter.1 hx
  obtain ⟨k, -, rfl⟩ := List.mem_map.1 h1
  simp only [decide_eq_true_eq] at h2
  unfold Edge.amount at h2
  by_cases h : 0 ≤ c.rate k
  · unfold Cf.rate at h
    unfold Ledger.rateAt
    split at h
    · rename_i h3
      rw [if_pos (by omega)]
      exact h
    · omega
  · rw [if_neg h] at h2
    omega
theorem mint_way {t : Tb} {key now : Int} {c : Cf} (h : 0 ≤ Ledger.rateAt c.zs key) : ((mint t key now (toL c)).2 = 0) ∨ ((mint t key now (toL c)).2 = 3 ∧ (mint t key now (toL c)).1 = t) := by
  unfold mint
  rw [if_neg (show ¬ Ledger.rateAt (toL c).rates key < 0 from by show ¬ Ledger.rateAt c.zs key < 0; omega)]
  split
  · exact .inl rfl
  · split
    · exact .inr ⟨rfl, rfl⟩
    · exact .inl rfl
theorem gr1_lent (c : Cf) (node gen now : Int) (s : Gs) (w : Int × Int) (h : (mint s.t w.1 now (toL c)).2 = 0) : gr1 c node gen now s w = ⟨(lent c node gen now (mint s.t w.1 now (toL c)).1 s.e w).1, (lent c node gen now (mint s.t w.1 now (toL c)).1 s.e w).2.1, s.out ++ (lent c node gen now (mint s.t w.1 now (toL c)).1 s.e w).2.2⟩ := by
  unfold gr1 lent
  rw [if_neg (by simp [h])]
  split
  · rfl
  · rename_i hn
    rw [grant_nought hn]
    simp
theorem gr1_refused (c : Cf) (node gen now : Int) (s : Gs) (w : Int × Int) (h : (mint s.t w.1 now (toL c)).2 = 3) : gr1 c node gen now s w = ⟨s.t, (refuse s.e w.1 4).1, s.out ++ (refuse s.e w.1 4).2⟩ := by
  unfold gr1
  rw [if_pos (by simp [h])]
theorem lent_few (c : Cf) (node gen now : Int) (t : Tb) (e : Eg) (w : Int × Int) : (lent c node gen now t e w).2.2.length ≤ e.Q.length := by
  unfold lent
  split
  · exact grant_few _ _ _
  · exact Nat.zero_le _
/-- What is wanted, as it was told. -/
def Wl (w : World) (pl : Option Addr) (l : List (Int × Int)) : Prop := Lies pair w pl l ∧ Typed w pl 174
theorem Wl.off {w w' : World} {pl : Option Addr} {l : List (Int × Int)} (h : Wl w pl l) (ho : Off Edge.mine w w') : Wl w' pl l := ⟨Edge.lies_off h.1 h.2 ho (by simp [Edge.mine]), h.2.off ho (by simp [Edge.mine])⟩
theorem Wl.kept {w w' : World} {pl : Option Addr} {l : List (Int × Int)} (h : Wl w pl l) (hk : Kept outs18 w w') : Wl w' pl l := ⟨Edge.lies_kept h.1 h.2 hk (by decide), h.2.kept hk (by decide)⟩
section
variable {B gb ga : Nat} {f : Gf} {y : Value} {qw qq qd : Nat} {R0 R : Nat → Prop} {w0 : World} {p : Option Addr} {d : Nat} {t : Tb} {e : Eg} {u : World}
set_option maxRecDepth 100000 in
set_option maxHeartbeats 8000000 in
theorem ggrant_any (P : Queue.Way12 Queue.Pq) {m : Nat} {vo : Value} (h : Gr B gb ga f y qw qq qd R0 R w0 p d ⟨t, e, []⟩ vo u) (hkp : Keeps f.c f.node m t e) (hm : m ≤ 676) (hD : ∀ x ∈ e.D, Num x.key) (hq : f.c.qu ≤ 16) (hk : f.c.ke ≤ 16) (hn : Num f.now) (hgn : Num f.gen) :
    Calls Tryz.prog 56 #[.pointer (some ⟨gb, 0, none⟩), .func (.func 57) #[] #[.pointer (some ⟨ga, 0, none⟩)]] u fun x w' => x = .returned (.tuple #[]) ∧ ∃ R' p' d' vo', Gr B gb ga f y qw qq qd R0 R' w0 p' d' (grs f.c f.node f.gen f.now (wants f.c e) ⟨t, e, []⟩) vo' w' := by
  have hLens := hkp.lens hq (by omega)
  have hWN := wants_num (c := f.c) (e := e)
  have hWF := wants_few (c := f.c) hLens.2.1 hLens.2.2
  have hWR := wants_rate (c := f.c) (e := e)
  have HWT := Lib.hid (Edge.pwants_any h.gu.inn hkp.good ⟨Nat.le_trans hLens.1 (by decide), hLens.2.1, hLens.2.2⟩ hD)
  generalize wants f.c e = l at *
  have HSTP := Lib.hid (fun (j : Nat) (hj : j < l.length) => grs_at f.c f.node f.gen f.now l ⟨t, e, []⟩ hj)
  have HSK := Lib.hid (fun (j : Nat) => keeps_grs (c := f.c) (node := f.node) hk hgn hn (l.take j) (s := ⟨t, e, []⟩) (fun x hx => hWN x (List.mem_of_mem_take hx)) hkp)
  have HSO := Lib.hid (fun (j : Nat) (hj : j ≤ l.length) => grs_out (c := f.c) (node := f.node) hk hq (by omega) hgn hn (s := ⟨t, e, []⟩) hWN hkp j hj)
  have HSL := Lib.hid (show grs f.c f.node f.gen f.now (l.take l.length) ⟨t, e, []⟩ = grs f.c f.node f.gen f.now l ⟨t, e, []⟩ by rw [List.take_length])
  have HS0 := Lib.hid (show grs f.c f.node f.gen f.now (l.take 0) ⟨t, e, []⟩ = ⟨t, e, []⟩ from rfl)
  have HWN := Lib.hid hWN
  have HWR := Lib.hid hWR
  have HP := Lib.hid P
  obtain ⟨-, -, -, -, -, x5, -⟩ := h.gu.cells
  have HG := Lib.hid h
  clear h hkp hWN hWR hD P
  go_enter Tryz.func56, Tryz.ntmps56
  go_wp2_with (go_at_call 107; (with_reducible refine HWT.out.mono ?_); rintro x u1 ⟨pl, kl, rfl, hl1, ht1, hb1⟩; have HL1 := Lib.hid (show Wl u1 pl l from ⟨hl1, ht1⟩); have HB1 := Lib.hid hb1; clear hl1 ht1 hb1)
  have HG0 := Lib.hid (show Gr B gb ga f y qw qq qd R0 R w0 p d (grs f.c f.node f.gen f.now (l.take 0) ⟨t, e, []⟩) vo u1 from by rw [HS0.out]; exact HG.out.on HB1.out)
  clear x5 HWT HG HB1 HS0
  go_loopw [12] (fun i wr => ∃ (j : Nat) (R' : Nat → Prop) (p' : Option Addr) (d' : Nat) (vo' : Value), j ≤ l.length ∧ i = .int .i64 (j : Int) ∧ Hid (Gr B gb ga f y qw qq qd R0 R' w0 p' d' (grs f.c f.node f.gen f.now (l.take j) ⟨t, e, []⟩) vo' wr) ∧ Hid (Wl wr pl l)) (fun i _ => l.length - (intOf i).toNat)
  case atStart => exact ⟨0, R, p, d, vo, by omega, rfl, HG0, HL1⟩
  case round =>
    obtain ⟨j, R1, p1, d1, vo1, hj, rfl, hZ, hW⟩ := hrel
    have hkj := HSK.out j
    have hoj := HSO.out j hj
    simp only [List.length_nil, Nat.zero_add] at hoj
    by_cases hlt : j < l.length
    · have hlt' : (j : Int) < (l.length : Int) := by omega
      have hst := HSTP.out j hlt
      clear HSTP HSK HSL HG0 HSO HL1
      obtain ⟨s1, hs1⟩ : ∃ s1, s1 = grs f.c f.node f.gen f.now (l.take (j + 1)) ⟨t, e, []⟩ := ⟨_, rfl⟩
      rw [← hs1] at hst
      have HS1 := Lib.hid hs1
      clear hs1
      generalize grs f.c f.node f.gen f.now (l.take j) ⟨t, e, []⟩ = s at *
      obtain ⟨bl, ol, rfl, hc0, hc1⟩ : ∃ b o, pl = some ⟨b, o, none⟩ ∧ wr.cell? ⟨b, o + j * 2, none⟩ = some (.int .i64 (l.getD j (0, 0)).1) ∧ wr.cell? ⟨b, o + j * 2 + 1, none⟩ = some (.int .i64 (l.getD j (0, 0)).2) := by
        rcases hW.out.1 with h0 | ⟨b, o, e1, hc⟩
        · rw [h0] at hlt; simp at hlt
        · exact ⟨b, o, e1, hc j hlt 0 _ rfl, hc j hlt 1 _ rfl⟩
      have hmem : l.getD j (0, 0) ∈ l := by simp [List.getD, hlt]
      have hkn : Num (l.getD j (0, 0)).1 := HWN.out _ hmem
      have hrt := HWR.out _ hmem
      clear hmem
      generalize l.getD j (0, 0) = kw at *
      obtain ⟨key, want⟩ := kw
      simp only at hkn hc0 hc1 hrt
      have hlens := hkj.lens hq (by omega)
      have hkm := Ledger.zmint hkj.rise (key := key) (now := f.now) hkn hn (f := toL f.c) hk
      go_upto_region 3 with (fail)
      have hla := lay wr (.cells #[.int .i64 key, .int .i64 want] 174)
      have HZA := Lib.hid (hZ.out.on hla)
      have HWA := Lib.hid (hW.out.off (Kit.Off.of_below hla))
      have HBX := Lib.hid (show (wr.alloc (.cells #[.int .i64 key, .int .i64 want] 174)).heap[wr.heap.size]? = some (.cells #[.int .i64 key, .int .i64 want] 174 (0, 0)) from heap_alloc_new wr _)
      clear hla hc0 hc1 hZ hW
      have hcase := mint_way (t := s.t) (now := f.now) hrt
      have HMT := Lib.hid (gmint_any HZA.out.gu HZA.out.bg hkj.rise key)
      rcases hcase with h0 | ⟨h0, hsame⟩
      · have hs2 := hst.trans (gr1_lent f.c f.node f.gen f.now s (key, want) h0)
        simp only at hs2
        rw [h0] at HMT
        generalize (mint s.t key f.now (toL f.c)).1 = T at *
        have HLN := Lib.hid (fun (v : World) R' p' d' (hv : Gu B gb f y qw qq qd R' p' d' T s.e v) => glend_any HP.out hv HZA.out.bg hkm hkj.good ⟨Nat.le_trans hlens.1 (by decide), hlens.2.1, hlens.2.2⟩ hkn want hgn)
        have hlf := lent_few f.c f.node f.gen f.now T s.e (key, want)
        generalize lent f.c f.node f.gen f.now T s.e (key, want) = LN at *
        obtain ⟨LT, LE, LA⟩ := LN
        simp only at hs2 HLN hlf
        have b0 : (wr.alloc (.cells #[.int .i64 key, .int .i64 want] 174)).cell? ⟨wr.heap.size, 0, none⟩ = _ := cell_of_row _ _ 0 _ _ (0, 0) HBX.out
        generalize wr.alloc (.cells #[.int .i64 key, .int .i64 want] 174) = wa at *
        generalize wr.heap.size = gw at *
        go_wp2_with (first
          | (go_at_call 103; (with_reducible refine HMT.out.mono ?_); rintro x u2 ⟨rfl, R2, p2, d2, hg2, hf2⟩; have HZ2 := Lib.hid (HZA.out.step hg2 hf2); have HW2 := Lib.hid (HWA.out.off hf2.off); have hb2 : u2.heap[gw]? = some (.cells #[.int .i64 key, .int .i64 want] 174 (0, 0)) := hf2.off.block gw _ _ _ HBX.out (by simp [Edge.mine]); have b2 : u2.cell? ⟨gw, 0, none⟩ = some (.int .i64 key) := (by rw [cell_of_row _ gw 0 _ _ (0, 0) hb2]; rfl); have b3 : u2.cell? ⟨gw, 1, none⟩ = some (.int .i64 want) := (by rw [cell_of_row _ gw 1 _ _ (0, 0) hb2]; rfl); clear hg2 hf2 hb2)
          | (go_at_call 109; (with_reducible refine (HLN.out _ _ _ _ HZ2.out.gu).mono ?_); rintro x u3 ⟨v3, rfl, hs3, R3, p3, d3, hg3, hf3⟩; have HS3 := Lib.hid hs3; have HZ3 := Lib.hid (HZ2.out.step hg3 hf3); have HW3 := Lib.hid (HW2.out.off hf3.off); clear hg3 hf3 hs3)
          | (go_at_call 57; (with_reducible refine (gtell_any HZ3.out.var HZ3.out.own (says_told HS3.out) (by simp only; omega)).mono ?_); rintro x u4 ⟨rfl, vo4, h41, h42, h43, h44, h45, h46⟩; have HZ4 := Lib.hid (HZ3.out.tell h41 h42 h43 h44 h45 h46); have HW4 := Lib.hid (HW3.out.kept h43); clear h41 h42 h43 h44 h45 h46))
        refine ⟨⟨j + 1, R3, p3, d3, vo4, by omega, by simp, ?_, HW4⟩, by simp only [intOf]; omega⟩
        rw [← HS1.out, hs2]
        exact HZ4
      · have hs2 := hst.trans (gr1_refused f.c f.node f.gen f.now s (key, want) h0)
        simp only at hs2
        rw [h0, hsame] at HMT
        have HRF := Lib.hid (fun (v : World) R' p' d' (hv : Gu B gb f y qw qq qd R' p' d' s.t s.e v) => Edge.prefuse_any HP.out hv.inn hv.size hkj.good ⟨Nat.le_trans hlens.1 (by decide), hlens.2.1, hlens.2.2⟩ hkn 4)
        have hlf := refuse_few s.e key 4
        generalize refuse s.e key 4 = RF at *
        obtain ⟨RE, RA⟩ := RF
        simp only at hs2 HRF hlf
        have b0 : (wr.alloc (.cells #[.int .i64 key, .int .i64 want] 174)).cell? ⟨wr.heap.size, 0, none⟩ = _ := cell_of_row _ _ 0 _ _ (0, 0) HBX.out
        generalize wr.alloc (.cells #[.int .i64 key, .int .i64 want] 174) = wa at *
        generalize wr.heap.size = gw at *
        go_upto_region 4 with (go_at_call 103; (with_reducible refine HMT.out.mono ?_); rintro x u2 ⟨rfl, R2, p2, d2, hg2, hf2⟩; have HZ2 := Lib.hid ((HZA.out.step hg2 hf2).on (Below.refl _ _).drew); have HW2 := Lib.hid ((HWA.out.off hf2.off).off (Kit.Off.of_below (Below.refl u2.heap.size u2).drew)); have HB2 := Lib.hid (show u2.drew.heap[gw]? = some (.cells #[.int .i64 key, .int .i64 want] 174 (0, 0)) from hf2.off.block gw _ _ _ HBX.out (by simp [Edge.mine])); clear hg2 hf2)
        obtain ⟨-, -, -, -, -, x5, -⟩ := HZ2.out.gu.cells
        have b2 : u2.drew.cell? ⟨gw, 0, none⟩ = some (.int .i64 key) := by rw [cell_of_row _ gw 0 _ _ (0, 0) HB2.out]; rfl
        have z0 := And.intro x5 b2
        clear x5 b2 b0
        go_region_held3 (fun v => v.cell? ⟨gb, 5, none⟩ = some (.pointer (some ⟨f.q, 0, none⟩)) ∧ v.cell? ⟨gw, 0, none⟩ = some (.int .i64 key)) (first | with_reducible assumption) (first
          | (go_at_call 108; (with_reducible refine (HRF.out _ _ _ _ HZ2.out.gu).mono ?_); rintro x u3 ⟨v3, rfl, hs3, hm3⟩; have HS3 := Lib.hid hs3; have HZ3 := Lib.hid (HZ2.out.step (HZ2.out.gu.moves hm3) (Fr18.of_moves hm3)); have HW3 := Lib.hid (HW2.out.off hm3.off); have HB3 := Lib.hid (hm3.off.block gw _ _ _ HB2.out (by simp [Edge.mine])); have z1 : _ ∧ _ := ⟨HZ3.out.gu.cells.2.2.2.2.2.1, (show u3.cell? ⟨gw, 0, none⟩ = some (.int .i64 key) from (by rw [cell_of_row _ gw 0 _ _ (0, 0) HB3.out]; rfl))⟩; clear hs3 hm3)
          | (go_at_call 57; (with_reducible refine (gtell_any HZ3.out.var HZ3.out.own (says_told HS3.out) (by simp only; omega)).mono ?_); rintro x u4 ⟨rfl, vo4, h41, h42, h43, h44, h45, h46⟩; have HZ4 := Lib.hid (HZ3.out.tell h41 h42 h43 h44 h45 h46); have HW4 := Lib.hid (HW3.out.kept h43); have z2 : _ ∧ _ := ⟨HZ4.out.gu.cells.2.2.2.2.2.1, (show u4.cell? ⟨gw, 0, none⟩ = some (.int .i64 key) from (by rw [cell_of_row _ gw 0 _ _ (0, 0) (h43.block gw _ _ _ HB3.out (by decide))]; rfl))⟩; clear h41 h42 h43 h44 h45 h46))
        all_goals (go_wp2_with (fail))
        all_goals (refine ⟨⟨j + 1, R2, p2, d2, vo4, by omega, by simp, ?_, HW4⟩, by simp only [intOf]; omega⟩)
        all_goals (rw [← HS1.out, hs2])
        all_goals exact HZ4
    · have hlt' : ¬ (j : Int) < (l.length : Int) := by omega
      have hje : j = l.length := by omega
      subst hje
      rw [HSL.out] at hZ
      clear HSTP HSK HSL HG0 HSO HL1
      go_wp2_with (fail)
      go_end0
      exact ⟨rfl, R1, p1, d1, vo1, hZ.out⟩
end
end Go.Proofs.YtbgdlokegibkmaaGreat.Visit
