/-
  The program's tokenFits and Right: each returns what the plain functions of FramePlain give, of any; of what lay when the call began nothing has turned.
-/
import Derived.Test.YtkdjhphakopfeaaFrmParts
import Derived.Test.YtkdjhphakopfeaaFrmSame
namespace Go.Proofs.Ytkdjhphakopfeaa.Frame
open Go.RowKit Codec

def noToken : Tk := ⟨0, 0, [], ⟨0, []⟩⟩
theorem allTo_zero (f : Nat → Bool) : allTo f 0 = true := rfl
theorem same_none (t : Tk) : sameToken t noToken = tokenNone t := by
  obtain ⟨g, h, l, s, rows⟩ := t
  unfold sameToken tokenNone sameInts sameTable noToken
  cases l with
  | nil =>
    cases rows with
    | nil => simp [allTo_zero]
    | cons r rows => simp
  | cons x l => simp

/-- What a frame that has q of parts may have. -/
def fitToken (t : Tk) (q : Int) : Bool := if q = 1 then tokenOk t else tokenNone t
set_option maxRecDepth 100000 in
theorem token_fits_core (g h s q : Int) (ps p : Option Addr) (n cs m c : Nat) (w : World) (R : Bool) (hq : q = 0 ∨ q = 1 ∨ q = 6 ∨ q = 10)
    (ct : q = 1 → ∀ u, Below w.heap.size w u → Calls Try.prog 52 #[.agg #[.int .i64 g, .int .i64 h, .slice ps n cs, .int .i64 s, .slice p m c]] u (Asked u R))
    (cn : q ≠ 1 → ∀ u, Below w.heap.size w u → Calls Try.prog 51 #[.agg #[.int .i64 g, .int .i64 h, .slice ps n cs, .int .i64 s, .slice p m c], .agg #[.int .i64 0, .int .i64 0, .slice none 0 0, .int .i64 0, .slice none 0 0]] u (Asked u R)) :
    Calls Try.prog 37 #[.agg #[.int .i64 g, .int .i64 h, .slice ps n cs, .int .i64 s, .slice p m c], .int .i64 q] w (Asked w R) := by
  have fin : Below w.heap.size w (w.alloc (.cells #[.int .i64 g, .int .i64 h, .slice ps n cs, .int .i64 s, .slice p m c] 39)) := (Below.refl _ _).alloc (Nat.le_refl _) _
  by_cases h1 : q = 1
  · have cc := ct h1 _ fin
    subst h1
    clear ct cn hq
    go_enter Try.func37, Try.ntmps37
    go_wp2_with (go_at_call 52; (with_reducible refine cc.mono ?_); rintro e w1 ⟨rfl, hb1⟩; replace fin := fin.trans (hb1.mono fin.size); clear hb1)
    go_ret
    exact ⟨rfl, fin⟩
  · have cc := cn h1 _ fin
    clear ct cn
    rcases hq with rfl | rfl | rfl | rfl
    · clear h1
      go_enter Try.func37, Try.ntmps37
      go_wp2_with (go_at_call 51; (with_reducible refine cc.mono ?_); rintro e w1 ⟨rfl, hb1⟩; replace fin := fin.trans (hb1.mono fin.size); clear hb1)
      go_ret
      exact ⟨rfl, fin⟩
    · exact absurd rfl h1
    · clear h1
      go_enter Try.func37, Try.ntmps37
      go_wp2_with (go_at_call 51; (with_reducible refine cc.mono ?_); rintro e w1 ⟨rfl, hb1⟩; replace fin := fin.trans (hb1.mono fin.size); clear hb1)
      go_ret
      exact ⟨rfl, fin⟩
    · clear h1
      go_enter Try.func37, Try.ntmps37
      go_wp2_with (go_at_call 51; (with_reducible refine cc.mono ?_); rintro e w1 ⟨rfl, hb1⟩; replace fin := fin.trans (hb1.mono fin.size); clear hb1)
      go_ret
      exact ⟨rfl, fin⟩

/-- tokenFits, of any. -/
theorem token_fits (t : Tk) (q : Int) (ps p : Option Addr) (cs c : Nat) (w : World) (hq : q = 0 ∨ q = 1 ∨ q = 6 ∨ q = 10) (hn : (t.stamps.length : Int) ≤ 9223372036854775807) (hm : (t.table.rows.length : Int) ≤ 9223372036854775807) (hst : Ints w ps t.stamps) (hl : RowsAt w p t.table.rows) (hs : Small t.table.rows) :
    Calls Try.prog 37 #[.agg #[.int .i64 t.gen, .int .i64 t.hop, .slice ps t.stamps.length cs, .int .i64 t.table.start, .slice p t.table.rows.length c], .int .i64 q] w (Asked w (fitToken t q)) := by
  refine token_fits_core _ _ _ _ _ _ _ _ _ _ w _ hq (fun h u hu => ?_) (fun h u hu => ?_)
  · unfold fitToken
    rw [if_pos h]
    exact ptoken_any t ps p cs c u hn (hst.below hu) (hl.below hu) hs
  · unfold fitToken
    rw [if_neg h, ← same_none]
    exact psametoken_any t noToken ps p none none cs c 0 0 u hn hm (hst.below hu) (.inl rfl) (hl.below hu) (.inl rfl) hs

/-- The frame's eleven cells. -/
def Eleven (w : World) (B : Nat) (kind src dst gen hop bits tg th ts : Int) (ps p : Option Addr) (n cs m c : Nat) : Prop :=
  w.cell? ⟨B, 0, none⟩ = some (.int .i64 kind) ∧ w.cell? ⟨B, 1, none⟩ = some (.int .i64 src) ∧ w.cell? ⟨B, 2, none⟩ = some (.int .i64 dst) ∧ w.cell? ⟨B, 3, none⟩ = some (.int .i64 gen) ∧ w.cell? ⟨B, 4, none⟩ = some (.int .i64 hop) ∧ w.cell? ⟨B, 5, none⟩ = some (.int .u64 bits) ∧
    w.cell? ⟨B, 6, none⟩ = some (.int .i64 tg) ∧ w.cell? ⟨B, 7, none⟩ = some (.int .i64 th) ∧ w.cell? ⟨B, 8, none⟩ = some (.slice ps n cs) ∧ w.cell? ⟨B, 9, none⟩ = some (.int .i64 ts) ∧ w.cell? ⟨B, 10, none⟩ = some (.slice p m c)
theorem Eleven.new (w : World) (kind src dst gen hop bits tg th ts : Int) (ps p : Option Addr) (n cs m c : Nat) :
    Eleven (w.alloc (.cells #[.int .i64 kind, .int .i64 src, .int .i64 dst, .int .i64 gen, .int .i64 hop, .int .u64 bits, .int .i64 tg, .int .i64 th, .slice ps n cs, .int .i64 ts, .slice p m c] 41)) w.heap.size kind src dst gen hop bits tg th ts ps p n cs m c := by
  have h := heap_alloc_new w (.cells #[.int .i64 kind, .int .i64 src, .int .i64 dst, .int .i64 gen, .int .i64 hop, .int .u64 bits, .int .i64 tg, .int .i64 th, .slice ps n cs, .int .i64 ts, .slice p m c] 41)
  refine ⟨?_, ?_, ?_, ?_, ?_, ?_, ?_, ?_, ?_, ?_, ?_⟩ <;> (rw [cell_of_row _ _ _ _ _ (0, 0) h]; rfl)
theorem Eleven.below {w w' : World} {B : Nat} {kind src dst gen hop bits tg th ts : Int} {ps p : Option Addr} {n cs m c : Nat} (h : Eleven w B kind src dst gen hop bits tg th ts ps p n cs m c) (hb : Below w.heap.size w w') : Eleven w' B kind src dst gen hop bits tg th ts ps p n cs m c := by
  obtain ⟨h0, h1, h2, h3, h4, h5, h6, h7, h8, h9, h10⟩ := h
  exact ⟨cell_on h0 hb, cell_on h1 hb, cell_on h2 hb, cell_on h3 hb, cell_on h4 hb, cell_on h5 hb, cell_on h6 hb, cell_on h7 hb, cell_on h8 hb, cell_on h9 hb, cell_on h10 hb⟩

theorem and31 {a b c d R : Bool} (h : (a && b && c && d) = R) : (a = false ∧ R = false) ∨ (a = true ∧ b = false ∧ R = false) ∨ (a = true ∧ b = true ∧ c = false ∧ R = false) ∨ (a = true ∧ b = true ∧ c = true ∧ d = R) := by
  subst h
  cases a <;> cases b <;> cases c <;> simp

set_option maxRecDepth 100000 in
set_option maxHeartbeats 4000000 in
theorem pright_core (kind src dst gen hop bits tg th ts : Int) (ps p : Option Addr) (n cs m c : Nat) (w : World) (bk bs bd b1 b2 b3 b4 R : Bool) (hk : (Lit.int .i64 kind).wf = true) (e0 : isKind kind = bk) (e1 : isIn src 0 63 = bs) (e2 : isIn dst 0 63 = bd)
    (ct : ∀ u, Below w.heap.size w u → Calls Try.prog 37 #[.agg #[.int .i64 tg, .int .i64 th, .slice ps n cs, .int .i64 ts, .slice p m c], .int .i64 (partOf kind)] u (Asked u b1))
    (cg : ∀ u, Calls Try.prog 38 #[.int .i64 gen, .int .i64 (partOf kind)] u fun e w' => e = .returned (.bool b2) ∧ u = w')
    (ch : ∀ u, Calls Try.prog 39 #[.int .i64 hop, .int .i64 (partOf kind)] u fun e w' => e = .returned (.bool b3) ∧ u = w')
    (cb : ∀ u, Calls Try.prog 40 #[.int .u64 bits, .int .i64 (partOf kind)] u fun e w' => e = .returned (.bool b4) ∧ u = w')
    (hR : (bk && bs && bd && (b1 && b2 && b3 && b4)) = R) :
    Calls Try.prog 24 #[.agg #[.int .i64 kind, .int .i64 src, .int .i64 dst, .int .i64 gen, .int .i64 hop, .int .u64 bits, .int .i64 tg, .int .i64 th, .slice ps n cs, .int .i64 ts, .slice p m c]] w (Asked w R) := by
  have c1 := fun u => isnode_any src u
  have c2 := fun u => isnode_any dst u
  rw [e1] at c1
  rw [e2] at c2
  have HLK := Lib.hid (show ∀ u b, IsParts u b → (Instr.lookup 80 (.map (some b)) (.int .i64 kind) true).run Try.prog u = .ok (.tuple #[.int .i64 (partOf kind), .bool bk]) u from fun u b h => by rw [parts_look_ok u b kind h hk, e0])
  generalize partOf kind = q at ct cg ch cb HLK
  clear e0 e1 e2 hk
  have HBX := Lib.hid (Eleven.new w kind src dst gen hop bits tg th ts ps p n cs m c)
  have b0 : Below w.heap.size w (w.alloc (.cells #[.int .i64 kind, .int .i64 src, .int .i64 dst, .int .i64 gen, .int .i64 hop, .int .u64 bits, .int .i64 tg, .int .i64 th, .slice ps n cs, .int .i64 ts, .slice p m c] 41)) := (Below.refl _ _).alloc (Nat.le_refl _) _
  have ways : (bk = false ∧ R = false) ∨ (bk = true ∧ bs = false ∧ R = false) ∨ (bk = true ∧ bs = true ∧ bd = false ∧ R = false) ∨ (bk = true ∧ bs = true ∧ bd = true ∧ b1 = false ∧ R = false) ∨ (bk = true ∧ bs = true ∧ bd = true ∧ b1 = true ∧ b2 = false ∧ R = false) ∨ (bk = true ∧ bs = true ∧ bd = true ∧ b1 = true ∧ b2 = true ∧ b3 = false ∧ R = false) ∨ (bk = true ∧ bs = true ∧ bd = true ∧ b1 = true ∧ b2 = true ∧ b3 = true ∧ b4 = R) := by
    rcases and31 hR with ⟨rfl, rfl⟩ | ⟨rfl, rfl, rfl⟩ | ⟨rfl, rfl, rfl, rfl⟩ | ⟨rfl, rfl, rfl, h⟩
    · exact .inl ⟨rfl, rfl⟩
    · exact .inr (.inl ⟨rfl, rfl, rfl⟩)
    · exact .inr (.inr (.inl ⟨rfl, rfl, rfl, rfl⟩))
    · rcases and31 h with ⟨rfl, rfl⟩ | ⟨rfl, rfl, rfl⟩ | ⟨rfl, rfl, rfl, rfl⟩ | ⟨rfl, rfl, rfl, rfl⟩
      · exact .inr (.inr (.inr (.inl ⟨rfl, rfl, rfl, rfl, rfl⟩)))
      · exact .inr (.inr (.inr (.inr (.inl ⟨rfl, rfl, rfl, rfl, rfl, rfl⟩))))
      · exact .inr (.inr (.inr (.inr (.inr (.inl ⟨rfl, rfl, rfl, rfl, rfl, rfl, rfl⟩)))))
      · exact .inr (.inr (.inr (.inr (.inr (.inr ⟨rfl, rfl, rfl, rfl, rfl, rfl, rfl⟩)))))
  clear hR
  rcases ways with ⟨rfl, rfl⟩ | ⟨rfl, rfl, rfl⟩ | ⟨rfl, rfl, rfl, rfl⟩ | ⟨rfl, rfl, rfl, rfl, rfl⟩ | ⟨rfl, rfl, rfl, rfl, rfl, rfl⟩ | ⟨rfl, rfl, rfl, rfl, rfl, rfl, rfl⟩ | ⟨rfl, rfl, rfl, rfl, rfl, rfl, rfl⟩
  all_goals
    go_enter Try.func24, Try.ntmps24
    go_wp2
    generalize w.alloc (.cells #[.int .i64 kind, .int .i64 src, .int .i64 dst, .int .i64 gen, .int .i64 hop, .int .u64 bits, .int .i64 tg, .int .i64 th, .slice ps n cs, .int .i64 ts, .slice p m c] 41) = w0 at HBX b0
    have g0 := HBX.out.1
    go_region_held3 (fun u => u.cell? ⟨w.heap.size, 0, none⟩ = some (.int .i64 kind)) (first | assumption | exact g0) (first
      | (go_at_call 35; (with_reducible refine (parts_any _).mono ?_); rintro e u1 ⟨b, rfl, hp, hb1⟩; have HB1 := Lib.hid (undrew hb1); clear hb1; have hlk := HLK.out u1 b hp; have s1 : u1.cell? ⟨w.heap.size, 0, none⟩ = some (.int .i64 kind) := cell_on g0 HB1.out; clear hp))
    clear hlk g0 s1 HLK
    have hbw := b0.trans (HB1.out.mono b0.size)
    have fin := hbw
    obtain ⟨k0, k1, k2, k3, k4, k5, k6, k7, k8, k9, k10⟩ := HBX.out.below HB1.out
    have HX := Lib.hid (HBX.out.below HB1.out)
    have ct2 := ct _ hbw
    clear HBX ct
    go_wp2_with (first
      | (go_at_call 36; (with_reducible refine (c1 _).mono ?_); rintro e w1 ⟨rfl, rfl⟩)
      | (go_at_call 36; (with_reducible refine (c2 _).mono ?_); rintro e w1 ⟨rfl, rfl⟩)
      | (go_at_call 37; (with_reducible refine ct2.mono ?_); rintro e u2 ⟨rfl, hb2⟩; clear ct2 k0 k1 k2 k3 k4 k5 k6 k7 k8 k9 k10; replace fin := hbw.trans (hb2.mono hbw.size); obtain ⟨k0, k1, k2, k3, k4, k5, k6, k7, k8, k9, k10⟩ := HX.out.below hb2; clear hb2)
      | (go_at_call 38; (with_reducible refine (cg _).mono ?_); rintro e w1 ⟨rfl, rfl⟩)
      | (go_at_call 39; (with_reducible refine (ch _).mono ?_); rintro e w1 ⟨rfl, rfl⟩)
      | (go_at_call 40; (with_reducible refine (cb _).mono ?_); rintro e w1 ⟨rfl, rfl⟩))
    go_ret
    exact ⟨rfl, fin⟩

theorem frameOk_eq (f : Fr) : (isKind f.kind && isIn f.src 0 63 && isIn f.dst 0 63 && (fitToken f.token (partOf f.kind) && (if partOf f.kind = 6 ∨ partOf f.kind = 10 then isIn f.gen 1 1099511627776 else f.gen == 0) && (if partOf f.kind = 6 then isIn f.hop 0 1099511627776 else f.hop == 0) && (if partOf f.kind = 10 then true else f.bits == 0))) = frameOk f := by
  unfold frameOk fitToken
  by_cases h0 : f.kind = 0
  · have e : partOf f.kind = 1 := by simp [partOf, h0]
    have k : isKind f.kind = true := by simp [isKind, h0]
    rw [e, k, if_pos h0]
    simp
  · by_cases h1 : f.kind = 1
    · have e : partOf f.kind = 6 := by simp [partOf, h1]
      have k : isKind f.kind = true := by simp [isKind, h1]
      rw [e, k, if_neg h0, if_pos h1]
      simp
    · by_cases h2 : f.kind = 2
      · have e : partOf f.kind = 10 := by simp [partOf, h2]
        have k : isKind f.kind = true := by simp [isKind, h2]
        rw [e, k, if_neg h0, if_neg h1, if_pos h2]
        simp
      · by_cases h3 : f.kind = 3
        · have e : partOf f.kind = 0 := by simp [partOf, h3]
          have k : isKind f.kind = true := by simp [isKind, h3]
          rw [e, k, if_neg h0, if_neg h1, if_neg h2, if_pos h3]
          simp
        · have k : isKind f.kind = false := by simp [isKind]; omega
          rw [k, if_neg h0, if_neg h1, if_neg h2, if_neg h3]
          simp

/-- Right, of any. -/
theorem pright_any (f : Fr) (ps p : Option Addr) (cs c : Nat) (w : World) (hk : (Lit.int .i64 f.kind).wf = true) (h : Lying w f ps p) :
    Calls Try.prog 24 #[frameVal f ps p cs c] w (Asked w (frameOk f)) :=
  pright_core _ _ _ _ _ _ _ _ _ _ _ _ _ _ _ w _ _ _ _ _ _ _ _ hk rfl rfl rfl
    (fun u hu => token_fits f.token (partOf f.kind) ps p cs c u (partOf_ways _) h.few h.many (h.stamps.below hu) (h.rows.below hu) h.small)
    (fun u => gen_fits f.gen _ u (partOf_ways _)) (fun u => hop_fits f.hop _ u (partOf_ways _)) (fun u => bits_fit f.bits _ u (partOf_ways _)) (frameOk_eq f)
end Go.Proofs.Ytkdjhphakopfeaa.Frame
