/-
  The program's Visit where it may not be: ErrArg, and the token as it is, cloned.
-/
import Derived.Test.YtbgdlokegibkmaaGreatMmAr
import Derived.Test.YtbgdlokegibkmaaGreatMmAw
import Derived.Test.YtbgdlokegibkmaaGreatMmAy
import Derived.Test.YtbgdlokegibkmaaGreatMmAc
import Derived.Test.YtbgdlokegibkmaaGreatMmAe
import Derived.Test.YtbgdlokegibkmaaGreatMmAn
namespace Go.Proofs.YtbgdlokegibkmaaGreat.Visit
open Go.RowKit
open _root_.Go.Proofs.YtbgdlokegibkmaaGreat.Frame (Rw Tb Tk noRow LeasesAt cell_on Asked tokenOk OwnS RowsS CapsAt LeasesS Lies2 ptoken_any pclone_caps)
open _root_.Go.Proofs.YtbgdlokegibkmaaGreat.Ledger (RowAt RowsAt LeasesIn Rise mint held tabVal cfVal)
open _root_.Go.Proofs.YtbgdlokegibkmaaGreat.Codec (Ints lt_of_heap frozen_of heap_set)
open _root_.Go.Proofs.YtbgdlokegibkmaaGreat.Kit (Lies Kept Off)
open _root_.Go.Proofs.YtbgdlokegibkmaaGreat.Edge (Cf Eg An Ed RatesB CfNum Says HasN Typed says_none)
open _root_.Go.Proofs.YtbgdlokegibkmaaGreat.Token (tokVal box5f stamped pstamp_far RowsK)
open _root_.Go.Proofs.YtbgdlokegibkmaaGreat.Lease (Num)
section
variable {u u' : World}
theorem plain_of {g : Nat} {cs : Array Value} {T : TypeId} {z : Nat × Nat} (h : u.heap[g]? = some (.cells cs T z)) (hT : T = 3 ∨ T = 80 ∨ T = 141) : Plainly u g := ⟨lt_of_heap h, cs, T, z, h, hT⟩
theorem plain_ints {B : Nat} {q : Option Addr} {l : List Int} (h : OwnS B u q l) : IntsIn (Plainly u) u q l := by
  rcases h with h | ⟨g, cs, e, -, hh, hc⟩
  · exact .inl h
  · exact .inr ⟨g, 0, e, plain_of hh (.inl rfl), fun j hj => by rw [Nat.zero_add]; exact hc j hj⟩
theorem plain_rows {r : Option Addr} {l : List Rw} (h : RowsS 0 u r l) (hk : CapsAt u r l) : Ledger.RowsIn (Plainly u) u r l := by
  rcases h with h | ⟨b, o, e, hl, hc⟩
  · exact .inl h
  · have hP : ∀ {g : Nat} {T : TypeId}, (T = 3 ∨ T = 80 ∨ T = 141) → Lies2 0 T u g → Plainly u g := fun hT hL => by
      rcases hL with hL | ⟨cs, z, hL⟩
      · omega
      · exact plain_of hL hT
    refine .inr ⟨b, o, e, hP (.inr (.inl rfl)) hl, fun j hj => ?_⟩
    obtain ⟨k0, k1, k2, p, c, k3, k4⟩ := hc j hj
    obtain ⟨q', c', h3⟩ := hk b o e j hj
    have e3 := k3.symm.trans h3
    simp only [Option.some.injEq, Value.slice.injEq, true_and] at e3
    obtain ⟨rfl, rfl⟩ := e3
    refine ⟨k0, k1, k2, p, c', k3, ?_⟩
    rcases k4 with k4 | ⟨b2, o2, e2, hl2, h2⟩
    · exact .inl k4
    · exact .inr ⟨b2, o2, e2, hP (.inr (.inr rfl)) hl2, h2⟩
/-- What lies in such blocks lies where another block turns. -/
theorem plain_on {S : Nat → Prop} {t : Tk} {ps p : Option Addr} {g : Nat} {cs : Array Value} {T : TypeId} {z : Nat × Nat} (h : TokIn (Plainly u) u t ps p) (hg : u.heap[g]? = some (.cells cs T z)) (hT : ¬ (T = 3 ∨ T = 80 ∨ T = 141)) (hk : ∀ b, b ≠ g → u'.heap[b]? = u.heap[b]?) (hS : ∀ b, Plainly u' b → S b) : TokIn S u' t ps p := by
  have hne : ∀ b, Plainly u b → b ≠ g := fun b hb e => not_plain hg hT (e ▸ hb)
  refine h.on (fun b hb _ => hS b ?_) fun b hb _ _ => hk b (hne b hb)
  obtain ⟨-, cs', T', z', h1, h2⟩ := hb
  exact plain_of ((hk b (hne b ⟨lt_of_heap h1, cs', T', z', h1, h2⟩)).trans h1) h2
end
theorem stamped_way (t : Tk) (node now : Int) : (stamped t node now = (t, 1) ∧ ¬ (0 ≤ node ∧ node < t.stamps.length ∧ 0 ≤ now ∧ now < 4611686018427387904)) ∨ (stamped t node now = (⟨t.gen, t.hop, t.stamps.set node.toNat now, t.table⟩, 0) ∧ 0 ≤ node ∧ node < t.stamps.length ∧ 0 ≤ now ∧ now < 4611686018427387904) := by
  unfold stamped
  by_cases h : node < 0 ∨ (t.stamps.length : Int) ≤ node ∨ now < 0 ∨ 4611686018427387903 < now
  · rw [if_pos h]
    exact .inl ⟨rfl, by omega⟩
  · rw [if_neg h]
    exact .inr ⟨rfl, by omega, by omega, by omega, by omega⟩
theorem right_way {c : Cf} {t : Tk} {node now : Int} (h : right c t node now = false) (hs : 0 ≤ node ∧ node < t.stamps.length ∧ 0 ≤ now ∧ now < 4611686018427387904) : tokenOk t = false ∨ (tokenOk t = true ∧ (((t.stamps.length : Int) != c.n) = true ∨ (((t.stamps.length : Int) != c.n) = false ∧ (c.check != 0) = true))) := by
  cases ht : tokenOk t with
  | false => exact .inl rfl
  | true =>
    refine .inr ⟨rfl, ?_⟩
    by_cases hn : (t.stamps.length : Int) = c.n
    · by_cases hc : c.check = 0
      · exfalso
        have : right c t node now = true := by
          simp only [right, Bool.and_eq_true, decide_eq_true_eq]
          exact ⟨⟨⟨⟨⟨⟨ht, hc⟩, hn⟩, hs.1⟩, by omega⟩, hs.2.2.1⟩, hs.2.2.2⟩
        rw [this] at h
        simp at h
      · exact .inr ⟨by simp [hn], by simp [hc]⟩
    · exact .inl (by simp [hn])
set_option maxRecDepth 100000 in
set_option maxHeartbeats 8000000 in
theorem vno_any (node now : Int) (t : Tk) (q : Option Addr) (ps : Option Addr) (cs : Nat) (p : Option Addr) (d : Nat) (c : Cf) (pf : Option Addr) (cf : Nat) (w : World) (hq : q = none ∨ right c t node now = false) (hf : Few18 t) (hz : c.zs.length ≤ 60) (hst : Ints w ps t.stamps) (hl : RowsAt w p t.table.rows) (hr : RatesB w.heap.size w pf c.zs) :
    Calls Tryz.prog 15 #[tokVal t ps cs p (d + t.table.rows.length), .pointer q, .int .i64 node, .int .i64 now, c.val pf cf] w fun x w' => ∃ ps' cs' p' d' y, x = .returned (.tuple #[tokVal t ps' cs' p' (d' + t.table.rows.length), y, .int .i64 1]) ∧ Says w' y [] ∧ TokIn (Plainly w') w' t ps' p' ∧ Below w.heap.size w w' := by
  have hnil : ps = none → t.stamps = [] := fun e => by
    rcases hst with h | ⟨b, o, h, _⟩
    · exact h
    · rw [e] at h; cases h
  have h1 := hf.stamps
  have h2 := hf.rows
  have h3 : ∀ r ∈ t.table.rows, r.out.length ≤ 1000 := fun r hr => Nat.le_trans (hf.outs r hr) (by decide)
  have HST := Lib.hid (fun (u : World) (hu : Below w.heap.size w u) => pstamp_far t ps cs p (d + t.table.rows.length) node now u (by omega) (by omega) h3 (hst.below hu) (hl.below hu).frame)
  have HTK := Lib.hid (fun (u : World) (hu : Below w.heap.size w u) => ptoken_any t ps p cs (d + t.table.rows.length) u (by omega) (hst.below hu) (hl.below hu).frame (fun r hr => by have := h3 r hr; omega))
  have HCH := Lib.hid (fun (u : World) (hu : Below w.heap.size w u) => Conf.check_any c.n c.sk c.tl c.va c.lo c.he c.ke c.qu pf c.zs cf u (by omega) (hr.on hu).rates)
  have HCL := Lib.hid (fun (u : World) (hu : Below w.heap.size w u) => pclone_caps t ps p cs (d + t.table.rows.length) u (by omega) (by omega) h3 (hst.below hu) hnil (hl.below hu).frame)
  have hcase : q = none ∨ (∃ a, q = some a) ∧ (((stamped t node now).2 != 0) = true ∨ (((stamped t node now).2 != 0) = false ∧ (tokenOk t = false ∨ (tokenOk t = true ∧ (((t.stamps.length : Int) != c.n) = true ∨ (((t.stamps.length : Int) != c.n) = false ∧ (c.check != 0) = true)))))) := by
    rcases q with _ | a
    · exact .inl rfl
    · refine .inr ⟨⟨a, rfl⟩, ?_⟩
      have hR : right c t node now = false := hq.elim (fun h => by cases h) id
      rcases stamped_way t node now with ⟨e, -⟩ | ⟨e, hs⟩
      · rw [e]; exact .inl rfl
      · rw [e]; exact .inr ⟨rfl, right_way hR hs⟩
  have hck : Conf.check c.n c.sk c.tl c.va c.lo c.he c.ke c.qu c.zs = c.check := rfl
  rw [hck] at HCH
  generalize c.check = ck at *
  generalize stamped t node now = SN at *
  obtain ⟨T, er⟩ := SN
  simp only [tokVal, Cf.val] at *
  have M0 := Lib.hid (((((Token.Mem.start w).box #[.int .i64 t.gen, .int .i64 t.hop, .slice ps t.stamps.length cs, .int .i64 t.table.start, .slice p t.table.rows.length (d + t.table.rows.length)] 30).box #[.int .i64 c.n, .int .i64 c.sk, .int .i64 c.tl, .int .i64 c.va, .int .i64 c.lo, .int .i64 c.he, .int .i64 c.ke, .int .i64 c.qu, .slice pf c.zs.length cf] 24).box #[.int .i64 0, .int .i64 0, .slice none 0 0, .int .i64 0, .slice none 0 0] 30))
  simp only [Token.size_alloc] at M0
  obtain ⟨x0, x1, x2, x3, x4, -⟩ := box5f (M0.out.boxes 2 _ _ _ rfl)
  clear hq hf hst hl hr hnil hck h3
  go_enter Tryz.func15, Tryz.ntmps15
  go_upto_region 2 with (go_at_call 51; (with_reducible refine (HST.out _ M0.out.below).mono ?_); rintro x u1 ⟨ps1, cs1, p1, c1, rfl, -, -, -, hb⟩; have HB1 := Lib.hid hb; clear hb HST x0 x1 x2 x3 x4)
  have M1 := Lib.hid ((M0.out.on HB1.out).on (lay u1 (.cells #[.int .i64 T.gen, .int .i64 T.hop, .slice ps1 T.stamps.length cs1, .int .i64 T.table.start, .slice p1 T.table.rows.length c1] 30)))
  clear M0 HB1
  generalize u1.alloc (.cells #[.int .i64 T.gen, .int .i64 T.hop, .slice ps1 T.stamps.length cs1, .int .i64 T.table.start, .slice p1 T.table.rows.length c1] 30) = u2 at *
  have HGR := Lib.hid (show w.heap.size ≤ w.heap.size + 1 + 1 by omega)
  generalize w.heap.size + 1 + 1 = gr at *
  generalize w.heap.size + 1 = gc at *
  obtain ⟨x0, x1, x2, x3, x4, -⟩ := box5f (M1.out.boxes 2 _ _ _ rfl)
  obtain ⟨c0, c1, c2, c3, c4, c5, c6, c7, c8⟩ := Ledger.nine_cells (M1.out.boxes 1 _ _ _ rfl)
  have HC := Lib.hid (fun (W : World) (hW : Below w.heap.size w W) (M : W.heap[gr]? = some (.cells #[.int .i64 0, .int .i64 0, .slice none 0 0, .int .i64 0, .slice none 0 0] 30 (0, 0))) => (HCL.out W hW).mono fun x u' (h : Frame.ClonedC W t x u') => show ∃ q1 k1 q2 k2, x = .returned (.agg #[.int .i64 t.gen, .int .i64 t.hop, .slice q1 t.stamps.length k1, .int .i64 t.table.start, .slice q2 t.table.rows.length (k2 + t.table.rows.length)]) ∧ Hid (TokIn (Plainly u') u' t q1 q2) ∧ Hid (Below w.heap.size w u') ∧ u'.heap[gr]? = some (.cells #[.int .i64 0, .int .i64 0, .slice none 0 0, .int .i64 0, .slice none 0 0] 30 (0, 0)) from by
    obtain ⟨q1, k1, q2, k2, rfl, h1, ⟨h2, h3, k3, rfl⟩, h4⟩ := h
    exact ⟨q1, k1, q2, k3, rfl, Lib.hid ⟨plain_ints h1, plain_rows h2 h3⟩, Lib.hid (hW.trans (h4.mono hW.size)), (h4.block _ (lt_of_heap M)).trans M⟩)
  clear HCL
  rcases hcase with rfl | ⟨⟨a, rfl⟩, h | ⟨h, h' | ⟨h', h'' | ⟨h'', h3⟩⟩⟩⟩
  case' inr.inr.inl => rw [h'] at HTK
  case' inr.inr.inr.inl => rw [h'] at HTK
  case' inr.inr.inr.inr => rw [h'] at HTK
  all_goals
    go_wp2_with (first
      | (go_at_call 52; (with_reducible refine (HTK.out _ M1.out.below).mono ?_); rintro x u3 ⟨rfl, hb⟩; have M2 := Lib.hid (M1.out.on hb); clear hb x0 x1 x2 x3 x4 c0 c1 c2 c3 c4 c5 c6 c7 c8; obtain ⟨x0, x1, x2, x3, x4, -⟩ := box5f (M2.out.boxes 2 _ _ _ rfl); obtain ⟨c0, c1, c2, c3, c4, c5, c6, c7, c8⟩ := Ledger.nine_cells (M2.out.boxes 1 _ _ _ rfl))
      | (go_at_call 31; (with_reducible refine (HCH.out _ M2.out.below).mono ?_); rintro x u4 ⟨rfl, hb⟩; have M3 := Lib.hid (M2.out.on hb); clear hb x0 x1 x2 x3 x4 c0 c1 c2 c3 c4 c5 c6 c7 c8; obtain ⟨x0, x1, x2, x3, x4, -⟩ := box5f (M3.out.boxes 2 _ _ _ rfl))
      | (go_at_call 53; (with_reducible refine (HC.out _ M3.out.below (M3.out.boxes 0 _ _ _ rfl)).mono ?_); rintro x u5 ⟨q1, k1, q2, k2, rfl, HK5, HB5, hgr5⟩; have HG5 := Lib.hid hgr5; obtain ⟨y0, y1, y2, y3, y4, gg⟩ := box5f hgr5; have f0 := gg 0; have f1 := gg 1; have f2 := gg 2; have f3 := gg 3; have f4 := gg 4; clear gg hgr5)
      | (go_at_call 53; (with_reducible refine (HC.out _ M2.out.below (M2.out.boxes 0 _ _ _ rfl)).mono ?_); rintro x u5 ⟨q1, k1, q2, k2, rfl, HK5, HB5, hgr5⟩; have HG5 := Lib.hid hgr5; obtain ⟨y0, y1, y2, y3, y4, gg⟩ := box5f hgr5; have f0 := gg 0; have f1 := gg 1; have f2 := gg 2; have f3 := gg 3; have f4 := gg 4; clear gg hgr5)
      | (go_at_call 53; (with_reducible refine (HC.out _ M1.out.below (M1.out.boxes 0 _ _ _ rfl)).mono ?_); rintro x u5 ⟨q1, k1, q2, k2, rfl, HK5, HB5, hgr5⟩; have HG5 := Lib.hid hgr5; obtain ⟨y0, y1, y2, y3, y4, gg⟩ := box5f hgr5; have f0 := gg 0; have f1 := gg 1; have f2 := gg 2; have f3 := gg 3; have f4 := gg 4; clear gg hgr5))
    refine bodyPost_ret (v := .tuple #[.agg #[.int .i64 t.gen, .int .i64 t.hop, .slice q1 t.stamps.length k1, .int .i64 t.table.start, .slice q2 t.table.rows.length (k2 + t.table.rows.length)], .slice none 0 0, .int .i64 1]) (by simp [results, Tryz.results15, go_sem, y0, y1, y2, y3, y4]) rfl ⟨q1, k1, q2, k2, _, rfl, says_none _, ?_, ?_⟩
    · exact plain_on HK5.out HG5.out (by decide) (fun b hb => heap_five hb _ _ _ _ _) fun b hb => hb
    · exact HB5.out.trans (five_below HGR.out _ _ _ _ _)
end Go.Proofs.YtbgdlokegibkmaaGreat.Visit
