/-
  The program's Visit where it may be.
-/
import Derived.Test.YtbgdlokegibkmaaGreatMmAz
import Derived.Test.YtbgdlokegibkmaaGreatMmBe
import Derived.Test.YtbgdlokegibkmaaGreatMmBm
import Derived.Test.YtbgdlokegibkmaaGreatMmAn
namespace Go.Proofs.YtbgdlokegibkmaaGreat.Visit
open Go.RowKit
open _root_.Go.Proofs.YtbgdlokegibkmaaGreat.Frame (Rw Tb Tk noRow LeasesAt cell_on Asked tokenOk OwnS RowsS CapsAt ptoken_any)
open _root_.Go.Proofs.YtbgdlokegibkmaaGreat.Ledger (RowAt RowsAt LeasesIn Rise mint held tabVal cfVal)
open _root_.Go.Proofs.YtbgdlokegibkmaaGreat.Codec (Ints lt_of_heap frozen_of heap_set)
open _root_.Go.Proofs.YtbgdlokegibkmaaGreat.Kit (Lies Kept Off)
open _root_.Go.Proofs.YtbgdlokegibkmaaGreat.Edge (Cf Eg An Ed RatesB CfNum Says HasN Typed In says_none wants close drop refuse)
open _root_.Go.Proofs.YtbgdlokegibkmaaGreat.Token (tokVal box5f stamped pstamp_far RowsK)
open _root_.Go.Proofs.YtbgdlokegibkmaaGreat.Lease (Num)
theorem dnum_close {e : Eg} {key gen : Int} (h : ∀ x ∈ e.D, Num x.key) (hk : Num key) : ∀ x ∈ (close e key gen).1.D, Num x.key := by
  intro x hx
  unfold close at hx
  simp only at hx
  split at hx
  · rcases List.mem_append.1 hx with hx | hx
    · exact h x hx
    · rw [List.mem_singleton.1 hx]; exact hk
  · exact h x hx
theorem dnum_sts {c : Cf} {node gen now : Int} : ∀ (l : List Int) (s : Tb × Eg), (∀ k ∈ l, Num k) → (∀ x ∈ s.2.D, Num x.key) → ∀ x ∈ (sts c node gen now l s).2.D, Num x.key
  | [], _, _, h => h
  | k :: l, s, hk, h => dnum_sts l (st1 c node gen now s k) (fun x hx => hk x (List.mem_cons_of_mem _ hx)) (dnum_close h (hk k List.mem_cons_self))
theorem dnum_settled {c : Cf} {node gen now : Int} {t : Tb} {e : Eg} (hr : Rise 0 t) (h : ∀ x ∈ e.D, Num x.key) : ∀ x ∈ (settled c node gen now t e).2.D, Num x.key := dnum_sts (held t node) (t, e) (held_num hr node) h
theorem gr1_D (c : Cf) (node gen now : Int) (s : Gs) (w : Int × Int) : (gr1 c node gen now s w).e.D = s.e.D := by
  unfold gr1
  split
  · rfl
  · split
    · exact grant_D _ _ _
    · rfl
theorem grs_D (c : Cf) (node gen now : Int) : ∀ (l : List (Int × Int)) (s : Gs), (grs c node gen now l s).e.D = s.e.D
  | [], _ => rfl
  | w :: l, s => (grs_D c node gen now l (gr1 c node gen now s w)).trans (gr1_D c node gen now s w)
theorem ownz_says {C : Nat} {u : World} {v : Value} {l : List An} (h : OwnZ C u v l) : Says u v l := by
  obtain ⟨p, c, e, h1, h3⟩ := h.told
  refine ⟨p, c, e, h1, fun a ha => ?_, h3⟩
  subst ha
  rcases h with ⟨h, -⟩ | ⟨g, cap, h, -, -, -, h4⟩
  · rw [h] at e; simp at e
  · rw [h] at e
    simp only [Value.slice.injEq, Option.some.injEq] at e
    rw [← e.1]
    exact ⟨_, _, h4⟩
theorem r1_ne {R : Nat → Prop} {w u1 : World} {gr : Nat} {cs : Array Value} {z : Nat × Nat} (hlow : ∀ g, R g → g < w.heap.size) (hgr : w.heap.size ≤ gr) (hb : u1.heap[gr]? = some (.cells cs 30 z)) : ∀ b, (R b ∨ Plainly u1 b) → b ≠ gr := by
  rintro b (h | h) rfl
  · have := hlow b h
    omega
  · exact not_plain hb (by decide) h
theorem kept_five {u : World} {g : Nat} {cs : Array Value} {z : Nat × Nat} (hb : u.heap[g]? = some (.cells cs 30 z)) (v0 v1 v2 v3 v4 : Value) : Kept outs18 u (((((u.setCell ⟨g, 0, none⟩ v0).setCell ⟨g, 1, none⟩ v1).setCell ⟨g, 2, none⟩ v2).setCell ⟨g, 3, none⟩ v3).setCell ⟨g, 4, none⟩ v4) :=
  ⟨by simp, fun b o ho ht => (heap_five (b := b) (by rintro rfl; rw [hb] at ho; exact ht _ _ _ (Option.some.inj ho).symm (by decide)) v0 v1 v2 v3 v4).trans ho⟩
/-- What Visit leaves, where the last of its worlds is a store into the result's box. -/
theorem moved_end {R R' : Nat → Prop} {B : Nat} {w u : World} {q : Nat} {c : Cf} {e' : Eg} {g : Nat} {cs : Array Value} {z : Nat × Nat} (hp : Pf R' B u q c e') (hlow : ∀ g, R g → g < w.heap.size) (hR : ∀ b, R b → R' b) (ho : Off Edge.mine w u) (hb : Below B w u) (hk : ∀ b, R b → HasN w b → b < w.heap.size → u.heap[b]? = w.heap[b]?) (hg : u.heap[g]? = some (.cells cs 30 z)) (hwg : w.heap.size ≤ g) (hB : B ≤ w.heap.size) (v0 v1 v2 v3 v4 : Value) :
    Pf R' B (((((u.setCell ⟨g, 0, none⟩ v0).setCell ⟨g, 1, none⟩ v1).setCell ⟨g, 2, none⟩ v2).setCell ⟨g, 3, none⟩ v3).setCell ⟨g, 4, none⟩ v4) q c e' ∧ MovedR Pf R B w q c e' (((((u.setCell ⟨g, 0, none⟩ v0).setCell ⟨g, 1, none⟩ v1).setCell ⟨g, 2, none⟩ v2).setCell ⟨g, 3, none⟩ v3).setCell ⟨g, 4, none⟩ v4) := by
  have hkf := kept_five hg v0 v1 v2 v3 v4
  have h1 : Pf R' B (((((u.setCell ⟨g, 0, none⟩ v0).setCell ⟨g, 1, none⟩ v1).setCell ⟨g, 2, none⟩ v2).setCell ⟨g, 3, none⟩ v3).setCell ⟨g, 4, none⟩ v4) q c e' := by
    obtain ⟨h0, y, qw, qq, qd, h⟩ := hp
    exact ⟨h0, y, qw, qq, qd, in_kept h hkf⟩
  refine ⟨h1, frPf.sub h1 hR, ho.trans (off_keep hg hkf.size fun b hb => heap_five hb _ _ _ _ _), hb.trans (five_below (Nat.le_trans hB hwg) _ _ _ _ _), fun b hb1 hn hl => (heap_five (b := b) (by have := hlow b hb1; omega) _ _ _ _ _).trans (hk b hb1 hn hl)⟩
theorem MovedR.drew {R : Nat → Prop} {B : Nat} {w u : World} {q : Nat} {c : Cf} {e' : Eg} (h : MovedR Pf R B w q c e' u) : MovedR Pf R B w q c e' u.drew :=
  ⟨frPf.below h.pw (Below.refl _ _).drew, h.off.trans (Kit.Off.of_below (Below.refl u.heap.size u).drew), h.below.drew, h.keep⟩
theorem plain_back {w u : World} {g : Nat} (hb : Below w.heap.size w u) (h : Plainly u g) : w.heap.size ≤ g ∨ Plainly w g := by
  obtain ⟨h1, cs, T, z, h2, h3⟩ := h
  by_cases hl : g < w.heap.size
  · exact .inr ⟨hl, cs, T, z, (hb.block g hl).symm.trans h2, h3⟩
  · exact .inl (by omega)
/-- Requests' blocks stay where a token's cells are written. -/
theorem req_five {w u : World} {g : Nat} {z0 z1 z2 z3 z4 : Value} (h : ∀ (b : Nat) (cs : Array Value) (z : Nat × Nat), w.heap[b]? = some (.cells cs 42 z) → u.heap[b]? = some (.cells cs 42 z)) (hz : w.heap.size ≤ u.heap.size) (hg : u.heap[g]? = some (.cells #[z0, z1, z2, z3, z4] 30 (0, 0))) (v0 v1 v2 v3 v4 : Value) : Kit.Off [42] w (((((u.setCell ⟨g, 0, none⟩ v0).setCell ⟨g, 1, none⟩ v1).setCell ⟨g, 2, none⟩ v2).setCell ⟨g, 3, none⟩ v3).setCell ⟨g, 4, none⟩ v4) :=
  ⟨Nat.le_trans hz (kept_five hg v0 v1 v2 v3 v4).size, fun b cs t z e ht => by
    simp only [List.mem_singleton] at ht
    subst ht
    have h1 := h b cs z e
    refine (heap_five (b := b) ?_ v0 v1 v2 v3 v4).trans h1
    rintro rfl
    rw [hg] at h1
    simp at h1⟩
theorem off_drew {ts : List TypeId} {w u : World} (h : Kit.Off ts w u) : Kit.Off ts w u.drew := h.trans (Kit.Off.of_below (Below.refl u.heap.size u).drew)
set_option maxRecDepth 100000 in
set_option maxHeartbeats 8000000 in
theorem vyes_any (P : Queue.Way12 Queue.Pq) {R : Nat → Prop} {B : Nat} {w : World} {q : Nat} {c : Cf} {e : Eg} (node now : Int) (t : Tk) (m : Nat) (ps : Option Addr) (cs : Nat) (p : Option Addr) (d : Nat) (pf : Option Addr) (cf : Nat) (hpf : Pf R B w q c e) (hB : B ≤ w.heap.size) (hkp : Keeps c node m t.table e) (hm : m ≤ 660) (hR : right c t node now = true) (hn : Num now) (hz : c.zs.length ≤ 60) (hti : TokIn R w t ps p) (hr : RatesB B w pf c.zs) :
    Calls Tryz.prog 15 #[tokVal t ps cs p (d + t.table.rows.length), .pointer (some ⟨q, 0, none⟩), .int .i64 node, .int .i64 now, c.val pf cf] w fun x w' => ∃ ps' cs' p' d' y R', x = .returned (.tuple #[tokVal (visit c node now t e).1 ps' cs' p' (d' + (visit c node now t e).1.table.rows.length), y, .int .i64 0]) ∧ Says w' y (visit c node now t e).2.2 ∧ TokIn R' w' (visit c node now t e).1 ps' p' ∧ (∀ g, R g → R' g) ∧ Pf R' B w' q c (visit c node now t e).2.1 ∧ MovedR Pf R B w q c (visit c node now t e).2.1 w' ∧ (∀ g, R' g → R g ∨ w.heap.size ≤ g ∨ Plainly w g) ∧ Kit.Off [42] w w' := by
  obtain ⟨r1, r2, r3, r4, r5, r6, r7⟩ := right_ok hR
  obtain ⟨⟨⟨q0, q16⟩, hD, hRq⟩, y, qw, qq, qd, hin⟩ := hpf
  have hke := (check_ke r2).2
  have hgn := gen_num r1
  have h16 := Ledger.rise_16 hkp.rise
  have hl64 : t.stamps.length ≤ 64 := by
    simp only [tokenOk, Frame.tokenHead, Frame.isIn, Bool.and_eq_true, decide_eq_true_eq] at r1
    omega
  have h3 : ∀ r ∈ t.table.rows, r.out.length ≤ 1000 := fun r hr => by have := (hkp.rise.base.rows r hr).len; omega
  obtain ⟨st, hs1, hs2⟩ : ∃ st : List Int, stamped t node now = (⟨t.gen, t.hop, st, t.table⟩, 0) ∧ st.length = t.stamps.length := by
    rcases stamped_way t node now with ⟨-, h⟩ | ⟨h, -⟩
    · exact absurd ⟨r4, by omega, r6, r7⟩ h
    · exact ⟨_, h, by simp⟩
  have HST := Lib.hid (fun (u : World) (hu : Below w.heap.size w u) => pstamp_far t ps cs p (d + t.table.rows.length) node now u (by omega) (by omega) h3 (hti.stamps.rest.below hu) ((rowsin_rest hti.rows).below hu).frame)
  have HTK := Lib.hid (fun (u : World) (hu : Below w.heap.size w u) => ptoken_any t ps p cs (d + t.table.rows.length) u (by omega) (hti.stamps.rest.below hu) ((rowsin_rest hti.rows).below hu).frame (fun r hr => by have := h3 r hr; omega))
  have HCH := Lib.hid (fun (u : World) (hu : Below w.heap.size w u) => Conf.check_any c.n c.sk c.tl c.va c.lo c.he c.ke c.qu pf c.zs cf u (by omega) (hr.on (hu.mono hB)).rates)
  have hck : Conf.check c.n c.sk c.tl c.va c.lo c.he c.ke c.qu c.zs = 0 := r2
  have HVL := Lib.hid (fun (u : World) ps1 cs1 p1 c1 (hi : Ints u ps1 st) => Token.pvalid_any ⟨t.gen, t.hop, st, t.table⟩ ps1 cs1 p1 c1 now c.va u (by simp only; omega) hi)
  have hVS : visit c node now t e = if Token.valid st now c.va = true then (⟨t.gen, t.hop, st, (grs c node t.gen now (wants c (settled c node t.gen now t.table e).2) ⟨(settled c node t.gen now t.table e).1, (settled c node t.gen now t.table e).2, []⟩).t⟩, (grs c node t.gen now (wants c (settled c node t.gen now t.table e).2) ⟨(settled c node t.gen now t.table e).1, (settled c node t.gen now t.table e).2, []⟩).e, (grs c node t.gen now (wants c (settled c node t.gen now t.table e).2) ⟨(settled c node t.gen now t.table e).1, (settled c node t.gen now t.table e).2, []⟩).out) else (⟨t.gen, t.hop, st, t.table⟩, e, []) := by
    unfold visit
    rw [hs1]
  have HVS := Lib.hid hVS
  have hlen : ((t.stamps.length : Int) != c.n) = false := by simp [r3]
  rw [hck] at HCH
  rw [r1] at HTK
  rw [hs1] at HST
  clear hck hVS hs1 hR r4 r5
  generalize visit c node now t e = V at *
  simp only [tokVal, Cf.val] at *
  rw [hs2] at HVL
  simp only [hs2] at HST
  have M0 := Lib.hid (((((Token.Mem.start w).box #[.int .i64 t.gen, .int .i64 t.hop, .slice ps t.stamps.length cs, .int .i64 t.table.start, .slice p t.table.rows.length (d + t.table.rows.length)] 30).box #[.int .i64 c.n, .int .i64 c.sk, .int .i64 c.tl, .int .i64 c.va, .int .i64 c.lo, .int .i64 c.he, .int .i64 c.ke, .int .i64 c.qu, .slice pf c.zs.length cf] 24).box #[.int .i64 0, .int .i64 0, .slice none 0 0, .int .i64 0, .slice none 0 0] 30))
  simp only [Token.size_alloc] at M0
  obtain ⟨x0, x1, x2, x3, x4, -⟩ := box5f (M0.out.boxes 2 _ _ _ rfl)
  have HIN := Lib.hid hin
  have HLOW := Lib.hid hin.low
  have HTI := Lib.hid hti
  have HR := Lib.hid hr
  have HKP := Lib.hid hkp
  have HRQ := Lib.hid hRq
  have HD := Lib.hid hD
  have HBB := Lib.hid hB
  have HP := Lib.hid P
  clear hin hti hr hkp hRq hD hB h3 r1 P
  go_enter Tryz.func15, Tryz.ntmps15
  go_upto_region 2 with (go_at_call 51; (with_reducible refine (HST.out _ M0.out.below).mono ?_); rintro x u1 ⟨ps1, cs1, p1, c1, rfl, ho, hrk, ⟨d1, rfl⟩, hb⟩; have HB1 := Lib.hid hb; have HO1 := Lib.hid ho; have HK1 := Lib.hid hrk; clear hb ho hrk HST x0 x1 x2 x3 x4)
  have M1 := Lib.hid ((M0.out.on HB1.out).box #[.int .i64 t.gen, .int .i64 t.hop, .slice ps1 t.stamps.length cs1, .int .i64 t.table.start, .slice p1 t.table.rows.length (d1 + t.table.rows.length)] 30)
  have HL1 := Lib.hid (lay u1 (.cells #[.int .i64 t.gen, .int .i64 t.hop, .slice ps1 t.stamps.length cs1, .int .i64 t.table.start, .slice p1 t.table.rows.length (d1 + t.table.rows.length)] 30))
  have HBW := Lib.hid (M0.out.below.trans (HB1.out.mono M0.out.below.size))
  have HGR := Lib.hid (show w.heap.size ≤ w.heap.size + 1 + 1 by omega)
  have HGL := Lib.hid (show w.heap.size + 1 + 1 < u1.heap.size from lt_of_heap ((M0.out.on HB1.out).boxes 0 _ _ _ rfl))
  clear M0 HB1
  generalize w.heap.size + 1 + 1 = gr at *
  generalize w.heap.size + 1 = gc at *
  generalize u1.alloc (.cells #[.int .i64 t.gen, .int .i64 t.hop, .slice ps1 t.stamps.length cs1, .int .i64 t.table.start, .slice p1 t.table.rows.length (d1 + t.table.rows.length)] 30) = u2 at *
  -- the token's own blocks
  have HTO := Lib.hid (show TokIn (Plainly u1) u1 ⟨t.gen, t.hop, st, t.table⟩ ps1 p1 from ⟨plain_ints HO1.out, plain_rows HK1.out.1 HK1.out.2⟩)
  have HI1 := Lib.hid (in_typed (HIN.out.below HBW.out))
  have HQ1 := Lib.hid (show ¬ (R q ∨ Plainly u1 q) from fun h => h.elim HRQ.out (not_plain (HIN.out.below HBW.out).blk (by decide)))
  clear HO1 HK1 HTI HIN HRQ
  obtain ⟨x0, x1, x2, x3, x4, -⟩ := box5f (M1.out.boxes 3 _ _ _ rfl)
  obtain ⟨c0, c1, c2, c3, c4, c5, c6, c7, c8⟩ := Ledger.nine_cells (M1.out.boxes 2 _ _ _ rfl)
  obtain ⟨v0, v1, v2, v3, v4, -⟩ := box5f (M1.out.boxes 0 _ _ _ rfl)
  go_upto_region 4 with (first
    | (go_at_call 52; (with_reducible refine (HTK.out _ M1.out.below).mono ?_); rintro x u3 ⟨rfl, hb⟩; have M2 := Lib.hid (M1.out.on hb); have HL2 := Lib.hid (HL1.out.trans (hb.mono HL1.out.size)); clear hb x0 x1 x2 x3 x4 c0 c1 c2 c3 c4 c5 c6 c7 c8 v0 v1 v2 v3 v4; obtain ⟨x0, x1, x2, x3, x4, -⟩ := box5f (M2.out.boxes 3 _ _ _ rfl); obtain ⟨c0, c1, c2, c3, c4, c5, c6, c7, c8⟩ := Ledger.nine_cells (M2.out.boxes 2 _ _ _ rfl))
    | (go_at_call 31; (with_reducible refine (HCH.out _ M2.out.below).mono ?_); rintro x u4 ⟨rfl, hb⟩; have M3 := Lib.hid (M2.out.on hb); have HL3 := Lib.hid (HL2.out.trans (hb.mono HL2.out.size)); clear hb x0 x1 x2 x3 x4 c0 c1 c2 c3 c4 c5 c6 c7 c8))
  clear M1 M2 HL1 HL2 HTK HCH
  obtain ⟨v0, v1, v2, v3, v4, -⟩ := box5f (M3.out.boxes 0 _ _ _ rfl)
  obtain ⟨c0, c1, c2, c3, c4, c5, c6, c7, c8⟩ := Ledger.nine_cells (M3.out.boxes 2 _ _ _ rfl)
  have HV4 := Lib.hid (HVL.out u4 ps1 cs1 p1 (d1 + t.table.rows.length) (HTO.out.stamps.rest.below HL3.out))
  cases hval : Token.valid st now c.va with
  | false =>
    rw [hval] at HV4
    have hV := HVS.out
    rw [if_neg (by simp [hval])] at hV
    subst hV
    go_wp2_with (go_at_call 54; (with_reducible refine HV4.out.mono ?_); rintro x u5 ⟨rfl, hb⟩; have M4 := Lib.hid (M3.out.on hb); have HL4 := Lib.hid (HL3.out.trans (hb.mono HL3.out.size)); clear hb v0 v1 v2 v3 v4 c0 c1 c2 c3 c4 c5 c6 c7 c8; obtain ⟨v0, v1, v2, v3, v4, -⟩ := box5f (M4.out.boxes 0 _ _ _ rfl); have HG5 := Lib.hid (M4.out.boxes 1 _ _ _ rfl); obtain ⟨y0, y1, y2, y3, y4, gg⟩ := box5f HG5.out; have f0 := gg 0; have f1 := gg 1; have f2 := gg 2; have f3 := gg 3; have f4 := gg 4; clear gg)
    refine bodyPost_ret (v := .tuple #[.agg #[.int .i64 t.gen, .int .i64 t.hop, .slice ps1 t.stamps.length cs1, .int .i64 t.table.start, .slice p1 t.table.rows.length (d1 + t.table.rows.length)], .slice none 0 0, .int .i64 0]) (by simp [results, Tryz.results15, go_sem, y0, y1, y2, y3, y4]) rfl ?_
    have hgr1 := (HL4.out.block gr HGL.out).symm.trans HG5.out
    have hne := r1_ne HLOW.out HGR.out hgr1
    have hb5 := HBW.out.trans (HL4.out.mono HBW.out.size)
    have hp5 : Pf (fun g => R g ∨ Plainly u1 g) B u5 q c e := ⟨⟨⟨q0, q16⟩, HD.out, HQ1.out⟩, y, qw, qq, qd, HI1.out.below HL4.out⟩
    obtain ⟨e1, e2⟩ := moved_end (R := R) hp5 HLOW.out (fun _ h => .inl h) (Kit.Off.of_below hb5) (hb5.mono HBB.out) (fun b _ _ hl => hb5.block b hl) HG5.out HGR.out HBB.out (.int .i64 t.gen) (.int .i64 t.hop) (.slice ps1 t.stamps.length cs1) (.int .i64 t.table.start) (.slice p1 t.table.rows.length (d1 + t.table.rows.length))
    refine ⟨ps1, cs1, p1, d1, _, rfl, says_none _, fun g => R g ∨ Plainly u1 g, ?_, fun _ h => .inl h, e1, e2, fun g h => h.elim .inl fun hp => .inr (plain_back HBW.out hp), req_five (fun b cs z e => (hb5.block b (lt_of_heap e)).trans e) hb5.size HG5.out _ _ _ _ _⟩
    exact (HTO.out.on (S' := fun g => R g ∨ Plainly u1 g) (w' := u5) (fun _ h _ => .inr h) fun b _ _ hl => HL4.out.block b hl).on (fun _ h _ => h) fun b hb _ _ => heap_five (hne b hb) _ _ _ _ _
  | true =>
    rw [hval] at HV4
    have hV := HVS.out
    rw [if_pos hval] at hV
    subst hV
    go_upto_region 8 with (go_at_call 54; (with_reducible refine HV4.out.mono ?_); rintro x u5 ⟨rfl, hb⟩; have M4 := Lib.hid (M3.out.on hb); have HL4 := Lib.hid (HL3.out.trans (hb.mono HL3.out.size)); clear hb v0 v1 v2 v3 v4 c0 c1 c2 c3 c4 c5 c6 c7 c8; obtain ⟨v0, v1, v2, v3, v4, -⟩ := box5f (M4.out.boxes 0 _ _ _ rfl); obtain ⟨c0, c1, c2, c3, c4, c5, c6, c7, c8⟩ := Ledger.nine_cells (M4.out.boxes 2 _ _ _ rfl); have g1 := lt_of_heap (M4.out.boxes 0 _ _ _ rfl); have g2 := lt_of_heap (M4.out.boxes 2 _ _ _ rfl))
    have hla := lay u5 (.cells #[.slice none 0 0] 45)
    have hlb := lay (u5.alloc (.cells #[.slice none 0 0] 45)) (.cells #[.int .i64 t.gen, .int .i64 t.hop, .slice ps1 t.stamps.length cs1, .int .i64 t.table.start, .slice p1 t.table.rows.length (d1 + t.table.rows.length), .pointer (some ⟨q, 0, none⟩), .int .i64 node, .int .i64 now, .int .i64 c.n, .int .i64 c.sk, .int .i64 c.tl, .int .i64 c.va, .int .i64 c.lo, .int .i64 c.he, .int .i64 c.ke, .int .i64 c.qu, .slice pf c.zs.length cf] 118)
    have hug := hla.trans (hlb.mono hla.size)
    have hga : ((u5.alloc (.cells #[.slice none 0 0] 45)).alloc (.cells #[.int .i64 t.gen, .int .i64 t.hop, .slice ps1 t.stamps.length cs1, .int .i64 t.table.start, .slice p1 t.table.rows.length (d1 + t.table.rows.length), .pointer (some ⟨q, 0, none⟩), .int .i64 node, .int .i64 now, .int .i64 c.n, .int .i64 c.sk, .int .i64 c.tl, .int .i64 c.va, .int .i64 c.lo, .int .i64 c.he, .int .i64 c.ke, .int .i64 c.qu, .slice pf c.zs.length cf] 118)).heap[u5.heap.size]? = some (.cells #[.slice none 0 0] 45 (0, 0)) := (hlb.block _ (lt_of_heap (heap_alloc_new u5 _))).trans (heap_alloc_new u5 _)
    have hgb := heap_alloc_new (u5.alloc (.cells #[.slice none 0 0] 45)) (.cells #[.int .i64 t.gen, .int .i64 t.hop, .slice ps1 t.stamps.length cs1, .int .i64 t.table.start, .slice p1 t.table.rows.length (d1 + t.table.rows.length), .pointer (some ⟨q, 0, none⟩), .int .i64 node, .int .i64 now, .int .i64 c.n, .int .i64 c.sk, .int .i64 c.tl, .int .i64 c.va, .int .i64 c.lo, .int .i64 c.he, .int .i64 c.ke, .int .i64 c.qu, .slice pf c.zs.length cf] 118)
    rw [show (u5.alloc (.cells #[.slice none 0 0] 45)).heap.size = u5.heap.size + 1 by simp] at hgb
    have HUG := Lib.hid hug
    have HGA := Lib.hid hga
    have HGB := Lib.hid hgb
    have HB5 := Lib.hid (HBW.out.trans (HL4.out.mono HBW.out.size))
    have HG5 := Lib.hid ((hug.block _ (lt_of_heap (M4.out.boxes 1 _ _ _ rfl))).trans (M4.out.boxes 1 _ _ _ rfl))
    have HGR1 := Lib.hid ((HL4.out.block gr HGL.out).symm.trans (M4.out.boxes 1 _ _ _ rfl))
    clear hla hlb hug hga hgb v0 v1 v2 v3 v4 c0 c1 c2 c3 c4 c5 c6 c7 c8 g1 g2 M3 M4
    generalize (u5.alloc (.cells #[.slice none 0 0] 45)).alloc (.cells #[.int .i64 t.gen, .int .i64 t.hop, .slice ps1 t.stamps.length cs1, .int .i64 t.table.start, .slice p1 t.table.rows.length (d1 + t.table.rows.length), .pointer (some ⟨q, 0, none⟩), .int .i64 node, .int .i64 now, .int .i64 c.n, .int .i64 c.sk, .int .i64 c.tl, .int .i64 c.va, .int .i64 c.lo, .int .i64 c.he, .int .i64 c.ke, .int .i64 c.qu, .slice pf c.zs.length cf] 118) = ug at *
    have hsz : B ≤ u5.heap.size := Nat.le_trans HBB.out HB5.out.size
    have hz15 : u1.heap.size ≤ u5.heap.size := HL4.out.size
    have hzw : w.heap.size ≤ u5.heap.size := HB5.out.size
    have HGU := Lib.hid (show Gu B (u5.heap.size + 1) ⟨t.gen, t.hop, st, ps1, cs1, t.table.start, q, node, now, c, pf, cf⟩ y qw qq qd (fun g => R g ∨ Plainly u1 g) p1 d1 t.table e ug from
      ⟨HI1.out.below (HL4.out.trans (HUG.out.mono HL4.out.size)), by rw [HGB.out]; simp only [gcells, hs2], rowsin_on HTO.out.rows (fun _ h _ => .inr h) fun b _ _ hl => (HL4.out.trans (HUG.out.mono HL4.out.size)).block b hl, rfl,
        fun h => h.elim (fun h => by have := HLOW.out _ h; omega) (fun h => by have := h.1; omega), HR.out.on ((HB5.out.trans (HUG.out.mono HB5.out.size)).mono HBB.out), Nat.le_trans hsz HUG.out.size⟩)
    have HSE := Lib.hid (show Calls Tryz.prog 55 #[.pointer (some ⟨u5.heap.size + 1, 0, none⟩)] ug fun x w' => x = .returned (.tuple #[]) ∧ ∃ R' p' d', Gu B (u5.heap.size + 1) ⟨t.gen, t.hop, st, ps1, cs1, t.table.start, q, node, now, c, pf, cf⟩ y qw qq qd R' p' d' (settled c node t.gen now t.table e).1 (settled c node t.gen now t.table e).2 w' ∧ Fr18 B (u5.heap.size + 1) (fun g => R g ∨ Plainly u1 g) R' ug w' from gsettle_any HGU.out (by omega) HKP.out hm q16 hke hn)
    have hkS := keeps_settled HKP.out hke (gen := t.gen) hn
    have hDS := dnum_settled (c := c) (node := node) (gen := t.gen) (now := now) HKP.out.rise HD.out
    obtain ⟨S, hS⟩ : ∃ S, S = settled c node t.gen now t.table e := ⟨_, rfl⟩
    rw [← hS] at HSE hkS hDS
    have HSS := Lib.hid hS
    clear hS
    have hmf : ∀ (fn : Fn) (first cap : Array Value) (w : World), (Instr.makeFunc fn first cap).run Tryz.prog w = .ok (.func fn first cap) w := fun _ _ _ _ => rfl
    have HKS := Lib.hid hkS
    have HDS := Lib.hid hDS
    have HQL := Lib.hid (show q < u5.heap.size from Nat.lt_of_lt_of_le (lt_of_heap HI1.out.blk) hz15)
    have hga0 : ¬ (R u5.heap.size ∨ Plainly u1 u5.heap.size) := fun h => h.elim (fun h => by have := HLOW.out _ h; omega) (fun h => by have := h.1; omega)
    clear HGU hkS hDS HVS HVL HV4
    go_upto_region 9 with (go_at_call 55; (with_reducible refine HSE.out.mono ?_); rintro x u6 ⟨rfl, R2, p2, d2, hg2, hf2⟩; have HZ := Lib.hid (show Gr B (u5.heap.size + 1) u5.heap.size ⟨t.gen, t.hop, st, ps1, cs1, t.table.start, q, node, now, c, pf, cf⟩ y qw qq qd (fun g => R g ∨ Plainly u1 g) R2 u5 p2 d2 ⟨S.1, S.2, []⟩ (.slice none 0 0) u6 from ⟨hg2, hf2.off2 _ _ _ _ (by omega) (by simp [Edge.theirs]) HGA.out, OwnZ.none _ _, fun hR2 => (hf2.new _ hR2).elim hga0 (fun hs => by have := lt_of_heap HGA.out; omega), fun b m d' e => by simp at e, (Fr18.of_below HUG.out hsz).trans hf2, Nat.le_refl _, hsz, by omega⟩); clear hg2 hf2)
    clear HSE
    have HGT := Lib.hid (show Calls Tryz.prog 56 #[.pointer (some ⟨u5.heap.size + 1, 0, none⟩), .func (.func 57) #[] #[.pointer (some ⟨u5.heap.size, 0, none⟩)]] u6 fun x w' => x = .returned (.tuple #[]) ∧ ∃ R' p' d' vo', Gr B (u5.heap.size + 1) u5.heap.size ⟨t.gen, t.hop, st, ps1, cs1, t.table.start, q, node, now, c, pf, cf⟩ y qw qq qd (fun g => R g ∨ Plainly u1 g) R' u5 p' d' (grs c node t.gen now (wants c S.2) ⟨S.1, S.2, []⟩) vo' w' from ggrant_any HP.out HZ.out HKS.out (by omega) HDS.out q16 hke hn hgn)
    have hGD := grs_D c node t.gen now (wants c S.2) ⟨S.1, S.2, []⟩
    obtain ⟨G, hG⟩ : ∃ G, G = grs c node t.gen now (wants c S.2) ⟨S.1, S.2, []⟩ := ⟨_, rfl⟩
    rw [← hG] at HGT hGD
    have HGG := Lib.hid hG
    clear hG
    have hgr5 : u5.heap[gr]? = some (.cells #[.int .i64 0, .int .i64 0, .slice none 0 0, .int .i64 0, .slice none 0 0] 30 (0, 0)) := (HL4.out.block gr HGL.out).trans HGR1.out
    have HGR5 := Lib.hid hgr5
    have hltg : gr < u5.heap.size := lt_of_heap hgr5
    have HNE := Lib.hid (r1_ne (R := R) HLOW.out HGR.out HGR1.out)
    clear hgr5 HZ HG5 HGR1
    go_upto_region 10 with (go_at_call 56; (with_reducible refine HGT.out.mono ?_); rintro x u7 ⟨rfl, R3, p3, d3, vo, hz3⟩; have HZ3 := Lib.hid hz3; clear hz3)
    have HG7 := Lib.hid (HZ3.out.fr.off2 gr _ _ _ (by omega) (by simp [Edge.theirs]) HGR5.out)
    obtain ⟨x0, x1, x2, x3, x4, -⟩ := HZ3.out.gu.cells
    simp only at x0 x1 x2 x3 x4
    obtain ⟨y0, y1, y2, y3, y4, gg⟩ := box5f HG7.out
    have f0 := gg 0
    have f1 := gg 1
    have f2 := gg 2
    have f3 := gg 3
    have f4 := gg 4
    have a0 : u7.cell? ⟨u5.heap.size, 0, none⟩ = some vo := by rw [cell_of_row _ _ 0 _ _ (0, 0) HZ3.out.var]; rfl
    have HS7 := Lib.hid (ownz_says HZ3.out.own)
    have hp7 : Pf R3 B u7 q c G.e := ⟨⟨⟨q0, q16⟩, fun x hx => HDS.out x (by rw [hGD] at hx; exact hx), fun h => (HZ3.out.fr.new q h).elim HQ1.out fun hs => by have := HQL.out; omega⟩, y, qw, qq, qd, HZ3.out.gu.inn⟩
    have hne3 : ∀ b, R3 b → b ≠ gr := fun b hb e => (HZ3.out.fr.new b hb).elim (fun h => HNE.out b h e) fun hs => by omega
    have HME := Lib.hid (moved_end (R := R) hp7 HLOW.out (fun g h => HZ3.out.fr.up g (.inl h)) ((Kit.Off.of_below HB5.out).trans HZ3.out.fr.off) ((HB5.out.mono HBB.out).trans HZ3.out.fr.below) (fun b hb hn hl => (HZ3.out.fr.keep b (.inl hb) (hn.on (HB5.out.block b hl)) (Nat.lt_of_lt_of_le hl HB5.out.size)).trans (HB5.out.block b hl)) HG7.out HGR.out HBB.out (.int .i64 t.gen) (.int .i64 t.hop) (.slice ps1 t.stamps.length cs1) (.int .i64 t.table.start) (.slice p3 G.t.rows.length (d3 + G.t.rows.length)))
    have HT7 := Lib.hid (show TokIn R3 u7 ⟨t.gen, t.hop, st, G.t⟩ ps1 p3 from ⟨((HTO.out.stamps.on (S' := fun g => R g ∨ Plainly u1 g) (w' := u5) (fun _ h _ => .inr h) fun b _ _ hl => HL4.out.block b hl).on (fun b hb _ => HZ3.out.fr.up b hb) HZ3.out.fr.keep), HZ3.out.gu.rows⟩)
    have HST7 := Lib.hid (show G.t.start = t.table.start from HZ3.out.gu.start)
    have HT8 := Lib.hid (HT7.out.on (S' := R3) (w' := (((((u7.setCell ⟨gr, 0, none⟩ (.int .i64 t.gen)).setCell ⟨gr, 1, none⟩ (.int .i64 t.hop)).setCell ⟨gr, 2, none⟩ (.slice ps1 t.stamps.length cs1)).setCell ⟨gr, 3, none⟩ (.int .i64 t.table.start)).setCell ⟨gr, 4, none⟩ (.slice p3 G.t.rows.length (d3 + G.t.rows.length)))) (fun _ h _ => h) fun b hb _ _ => heap_five (hne3 b hb) _ _ _ _ _)
    have HS8 := Lib.hid (HS7.out.off (off_keep (u' := (((((u7.setCell ⟨gr, 0, none⟩ (.int .i64 t.gen)).setCell ⟨gr, 1, none⟩ (.int .i64 t.hop)).setCell ⟨gr, 2, none⟩ (.slice ps1 t.stamps.length cs1)).setCell ⟨gr, 3, none⟩ (.int .i64 t.table.start)).setCell ⟨gr, 4, none⟩ (.slice p3 G.t.rows.length (d3 + G.t.rows.length)))) HG7.out (kept_five HG7.out _ _ _ _ _).size fun b hb => heap_five hb _ _ _ _ _))
    have HNE18 := Lib.hid (show ∀ g, R3 g → R g ∨ w.heap.size ≤ g ∨ Plainly w g from fun g hg => (HZ3.out.fr.new g hg).elim (fun h => h.elim .inl fun hp => .inr (plain_back HBW.out hp)) fun hs => .inr (.inl (Nat.le_trans HB5.out.size hs)))
    have HRQ8 := Lib.hid (req_five (w := w) (fun b cs z hb => HZ3.out.fr.off2 b _ _ _ (by have := lt_of_heap hb; have := HGR.out; omega) (by simp [Edge.theirs]) ((HB5.out.block b (lt_of_heap hb)).trans hb)) (Nat.le_trans HB5.out.size HZ3.out.fr.below.size) HG7.out (.int .i64 t.gen) (.int .i64 t.hop) (.slice ps1 t.stamps.length cs1) (.int .i64 t.table.start) (.slice p3 G.t.rows.length (d3 + G.t.rows.length)))
    clear gg HGT HGA HGB HUG hp7 hga0
    go_region
    all_goals go_wp2
    all_goals refine bodyPost_ret (v := .tuple #[.agg #[.int .i64 t.gen, .int .i64 t.hop, .slice ps1 t.stamps.length cs1, .int .i64 t.table.start, .slice p3 G.t.rows.length (d3 + G.t.rows.length)], vo, .int .i64 0]) (by simp [results, Tryz.results15, go_sem, y0, y1, y2, y3, y4]) rfl ?_
    all_goals
      rw [← HSS.out, ← HGG.out, HST7.out]
      exact ⟨ps1, cs1, p3, d3, vo, rfl, HS8.out.below (Below.refl _ _).drew, R3, HT8.out.below (Below.refl _ _).drew, fun g h => HZ3.out.fr.up g (.inl h), frPf.below HME.out.1 (Below.refl _ _).drew, HME.out.2.drew, HNE18.out, off_drew HRQ8.out⟩
end Go.Proofs.YtbgdlokegibkmaaGreat.Visit
