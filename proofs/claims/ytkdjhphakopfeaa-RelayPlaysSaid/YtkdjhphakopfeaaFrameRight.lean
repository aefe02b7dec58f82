/-
  The document's Right, of any frame: it returns what the plain function of FramePlain gives; of what lay when the call began nothing has turned.
-/
import Derived.Test.YtkdjhphakopfeaaFrameToken
namespace Go.Proofs.Ytkdjhphakopfeaa.Frame
open Go.RowKit Codec

theorem and4 {a b c d R : Bool} (h : (a && b && c && d) = R) : (a = false ∧ R = false) ∨ (a = true ∧ b = false ∧ R = false) ∨ (a = true ∧ b = true ∧ c = false ∧ R = false) ∨ (a = true ∧ b = true ∧ c = true ∧ d = false ∧ R = false) ∨ (a = true ∧ b = true ∧ c = true ∧ d = true ∧ R = true) := by
  subst h
  cases a <;> cases b <;> cases c <;> cases d <;> simp
theorem and3 {a b c R : Bool} (h : (a && b && c) = R) : (a = false ∧ R = false) ∨ (a = true ∧ b = false ∧ R = false) ∨ (a = true ∧ b = true ∧ c = false ∧ R = false) ∨ (a = true ∧ b = true ∧ c = true ∧ R = true) := by
  subst h
  cases a <;> cases b <;> cases c <;> simp

/-- The frame's own cells. -/
def FrameBox (w : World) (B : Nat) (kind gen hop bits tg th ts : Int) (ps p : Option Addr) (n cs m c : Nat) : Prop :=
  w.cell? ⟨B, 0, none⟩ = some (.int .i64 kind) ∧ w.cell? ⟨B, 3, none⟩ = some (.int .i64 gen) ∧ w.cell? ⟨B, 4, none⟩ = some (.int .i64 hop) ∧ w.cell? ⟨B, 5, none⟩ = some (.int .u64 bits) ∧
    w.cell? ⟨B, 6, none⟩ = some (.int .i64 tg) ∧ w.cell? ⟨B, 7, none⟩ = some (.int .i64 th) ∧ w.cell? ⟨B, 8, none⟩ = some (.slice ps n cs) ∧ w.cell? ⟨B, 9, none⟩ = some (.int .i64 ts) ∧ w.cell? ⟨B, 10, none⟩ = some (.slice p m c)
theorem FrameBox.new (w : World) (kind src dst gen hop bits tg th ts : Int) (ps p : Option Addr) (n cs m c : Nat) :
    FrameBox (w.alloc (.cells #[.int .i64 kind, .int .i64 src, .int .i64 dst, .int .i64 gen, .int .i64 hop, .int .u64 bits, .int .i64 tg, .int .i64 th, .slice ps n cs, .int .i64 ts, .slice p m c] 41)) w.heap.size kind gen hop bits tg th ts ps p n cs m c := by
  have h := heap_alloc_new w (.cells #[.int .i64 kind, .int .i64 src, .int .i64 dst, .int .i64 gen, .int .i64 hop, .int .u64 bits, .int .i64 tg, .int .i64 th, .slice ps n cs, .int .i64 ts, .slice p m c] 41)
  refine ⟨?_, ?_, ?_, ?_, ?_, ?_, ?_, ?_, ?_⟩ <;> (rw [cell_of_row _ _ _ _ _ (0, 0) h]; rfl)
theorem FrameBox.below {w w' : World} {B : Nat} {kind gen hop bits tg th ts : Int} {ps p : Option Addr} {n cs m c : Nat} (h : FrameBox w B kind gen hop bits tg th ts ps p n cs m c) (hb : Below w.heap.size w w') : FrameBox w' B kind gen hop bits tg th ts ps p n cs m c := by
  obtain ⟨h0, h1, h2, h3, h4, h5, h6, h7, h8⟩ := h
  exact ⟨cell_on h0 hb, cell_on h1 hb, cell_on h2 hb, cell_on h3 hb, cell_on h4 hb, cell_on h5 hb, cell_on h6 hb, cell_on h7 hb, cell_on h8 hb⟩

set_option maxRecDepth 100000 in
set_option maxHeartbeats 1000000 in
/-- From or To says no. -/
theorem right_no (kind src dst gen hop bits tg th ts : Int) (ps p : Option Addr) (n cs m c : Nat) (w : World) (h : (isIn src 0 63 && isIn dst 0 63) = false) :
    Calls Try.prog 30 #[.agg #[.int .i64 kind, .int .i64 src, .int .i64 dst, .int .i64 gen, .int .i64 hop, .int .u64 bits, .int .i64 tg, .int .i64 th, .slice ps n cs, .int .i64 ts, .slice p m c]] w (Asked w false) := by
  have c1 := fun u => in_any src 0 63 u
  have c2 := fun u => in_any dst 0 63 u
  generalize isIn src 0 63 = b1 at c1 h
  generalize isIn dst 0 63 = b2 at c2 h
  have ways : b1 = false ∨ (b1 = true ∧ b2 = false) := by cases b1 <;> simp_all
  clear h
  rcases ways with rfl | ⟨rfl, rfl⟩
  · go_enter Try.func30, Try.ntmps30
    go_wp2_with (first
      | (go_at_call 44; (with_reducible refine (c1 _).mono ?_); rintro e w1 ⟨rfl, rfl⟩)
      | (go_at_call 44; (with_reducible refine (c2 _).mono ?_); rintro e w1 ⟨rfl, rfl⟩))
    go_ret
    exact ⟨rfl, (Below.refl _ _).alloc (Nat.le_refl _) _⟩
  · go_enter Try.func30, Try.ntmps30
    go_wp2_with (first
      | (go_at_call 44; (with_reducible refine (c1 _).mono ?_); rintro e w1 ⟨rfl, rfl⟩)
      | (go_at_call 44; (with_reducible refine (c2 _).mono ?_); rintro e w1 ⟨rfl, rfl⟩))
    go_ret
    exact ⟨rfl, (Below.refl _ _).alloc (Nat.le_refl _) _⟩

set_option maxRecDepth 100000 in
set_option maxHeartbeats 4000000 in
theorem right_yes (kind src dst gen hop bits tg th ts : Int) (ps p : Option Addr) (n cs m c : Nat) (w : World) (b1 : isIn src 0 63 = true) (b2 : isIn dst 0 63 = true) (bt bn R : Bool)
    (ct : ∀ u, Below w.heap.size w u → Calls Try.prog 46 #[.agg #[.int .i64 tg, .int .i64 th, .slice ps n cs, .int .i64 ts, .slice p m c]] u (Asked u bt))
    (cn : ∀ u, Below w.heap.size w u → Calls Try.prog 45 #[.agg #[.int .i64 tg, .int .i64 th, .slice ps n cs, .int .i64 ts, .slice p m c]] u (Asked u bn))
    (hR : (if kind = 0 then bt && gen == 0 && hop == 0 && bits == 0
     else if kind = 1 then bn && isIn gen 1 1099511627776 && isIn hop 0 1099511627776 && bits == 0
     else if kind = 2 then bn && isIn gen 1 1099511627776 && hop == 0
     else if kind = 3 then bn && gen == 0 && hop == 0 && bits == 0
     else false) = R) :
    Calls Try.prog 30 #[.agg #[.int .i64 kind, .int .i64 src, .int .i64 dst, .int .i64 gen, .int .i64 hop, .int .u64 bits, .int .i64 tg, .int .i64 th, .slice ps n cs, .int .i64 ts, .slice p m c]] w (Asked w R) := by
  have c1 := fun u => in_any src 0 63 u
  have c2 := fun u => in_any dst 0 63 u
  have cg := fun u => in_any gen 1 1099511627776 u
  have ch := fun u => in_any hop 0 1099511627776 u
  rw [b1] at c1
  rw [b2] at c2
  clear b1 b2
  generalize isIn gen 1 1099511627776 = bg at cg hR
  generalize isIn hop 0 1099511627776 = bh at ch hR
  have HBX := Lib.hid (FrameBox.new w kind src dst gen hop bits tg th ts ps p n cs m c)
  have b0 : Below w.heap.size w (w.alloc (.cells #[.int .i64 kind, .int .i64 src, .int .i64 dst, .int .i64 gen, .int .i64 hop, .int .u64 bits, .int .i64 tg, .int .i64 th, .slice ps n cs, .int .i64 ts, .slice p m c] 41)) := (Below.refl _ _).alloc (Nat.le_refl _) _
  by_cases hk0 : kind = 0
  · rw [if_pos hk0] at hR
    subst hk0
    clear cg ch
    rcases and4 hR with ⟨rfl, rfl⟩ | ⟨rfl, e1, rfl⟩ | ⟨rfl, e1, e2, rfl⟩ | ⟨rfl, e1, e2, e3, rfl⟩ | ⟨rfl, e1, e2, e3, rfl⟩
    all_goals
      clear hR
      go_enter Try.func30, Try.ntmps30
      go_wp2_with (first
        | (go_at_call 44; (with_reducible refine (c1 _).mono ?_); rintro e w1 ⟨rfl, rfl⟩)
        | (go_at_call 44; (with_reducible refine (c2 _).mono ?_); rintro e w1 ⟨rfl, rfl⟩)
        | (go_at_call 45; (with_reducible refine (cn _ b0).mono ?_); rintro e w1 ⟨rfl, hb1⟩; clear cn; have HX1 := Lib.hid (HBX.out.below hb1); have hbw := b0.trans (hb1.mono b0.size); clear hb1; obtain ⟨g0, g3, g4, g5, g6, g7, g8, g9, g10⟩ := HX1.out)
        | (go_at_call 46; (with_reducible refine (ct _ hbw).mono ?_); rintro e w2 ⟨rfl, hb2⟩; clear ct g0 g3 g4 g5 g6 g7 g8 g9 g10; have hbw2 := hbw.trans (hb2.mono hbw.size); have HX2 := Lib.hid (HX1.out.below hb2); clear hb2; obtain ⟨f0, f3, f4, f5, f6, f7, f8, f9, f10⟩ := HX2.out))
      go_ret
      exact ⟨rfl, hbw2⟩
  · rw [if_neg hk0] at hR
    clear ct
    by_cases hk1 : kind = 1
    · rw [if_pos hk1] at hR
      subst hk1
      clear hk0
      rcases and4 hR with ⟨rfl, rfl⟩ | ⟨rfl, rfl, rfl⟩ | ⟨rfl, rfl, rfl, rfl⟩ | ⟨rfl, rfl, rfl, e3, rfl⟩ | ⟨rfl, rfl, rfl, e3, rfl⟩
      all_goals
        clear hR
        go_enter Try.func30, Try.ntmps30
        go_wp2_with (first
          | (go_at_call 44; (with_reducible refine (c1 _).mono ?_); rintro e w1 ⟨rfl, rfl⟩)
          | (go_at_call 44; (with_reducible refine (c2 _).mono ?_); rintro e w1 ⟨rfl, rfl⟩)
          | (go_at_call 45; (with_reducible refine (cn _ b0).mono ?_); rintro e w1 ⟨rfl, hb1⟩; clear cn; have HX1 := Lib.hid (HBX.out.below hb1); have hbw := b0.trans (hb1.mono b0.size); clear hb1; obtain ⟨g0, g3, g4, g5, g6, g7, g8, g9, g10⟩ := HX1.out)
          | (go_at_call 44; (with_reducible refine (cg _).mono ?_); rintro e w1 ⟨rfl, rfl⟩)
          | (go_at_call 44; (with_reducible refine (ch _).mono ?_); rintro e w1 ⟨rfl, rfl⟩))
        go_ret
        exact ⟨rfl, hbw⟩
    · rw [if_neg hk1] at hR
      by_cases hk2 : kind = 2
      · rw [if_pos hk2] at hR
        subst hk2
        clear hk0 hk1
        rcases and3 hR with ⟨rfl, rfl⟩ | ⟨rfl, rfl, rfl⟩ | ⟨rfl, rfl, e2, rfl⟩ | ⟨rfl, rfl, e2, rfl⟩
        all_goals
          clear hR
          go_enter Try.func30, Try.ntmps30
          go_wp2_with (first
            | (go_at_call 44; (with_reducible refine (c1 _).mono ?_); rintro e w1 ⟨rfl, rfl⟩)
            | (go_at_call 44; (with_reducible refine (c2 _).mono ?_); rintro e w1 ⟨rfl, rfl⟩)
            | (go_at_call 45; (with_reducible refine (cn _ b0).mono ?_); rintro e w1 ⟨rfl, hb1⟩; clear cn; have HX1 := Lib.hid (HBX.out.below hb1); have hbw := b0.trans (hb1.mono b0.size); clear hb1; obtain ⟨g0, g3, g4, g5, g6, g7, g8, g9, g10⟩ := HX1.out)
            | (go_at_call 44; (with_reducible refine (cg _).mono ?_); rintro e w1 ⟨rfl, rfl⟩)
            | (go_at_call 44; (with_reducible refine (ch _).mono ?_); rintro e w1 ⟨rfl, rfl⟩))
          go_ret
          exact ⟨rfl, hbw⟩
      · rw [if_neg hk2] at hR
        by_cases hk3 : kind = 3
        · rw [if_pos hk3] at hR
          subst hk3
          clear hk0 hk1 hk2
          rcases and4 hR with ⟨rfl, rfl⟩ | ⟨rfl, e1, rfl⟩ | ⟨rfl, e1, e2, rfl⟩ | ⟨rfl, e1, e2, e3, rfl⟩ | ⟨rfl, e1, e2, e3, rfl⟩
          all_goals
            clear hR
            go_enter Try.func30, Try.ntmps30
            go_wp2_with (first
              | (go_at_call 44; (with_reducible refine (c1 _).mono ?_); rintro e w1 ⟨rfl, rfl⟩)
              | (go_at_call 44; (with_reducible refine (c2 _).mono ?_); rintro e w1 ⟨rfl, rfl⟩)
              | (go_at_call 45; (with_reducible refine (cn _ b0).mono ?_); rintro e w1 ⟨rfl, hb1⟩; clear cn; have HX1 := Lib.hid (HBX.out.below hb1); have hbw := b0.trans (hb1.mono b0.size); clear hb1; obtain ⟨g0, g3, g4, g5, g6, g7, g8, g9, g10⟩ := HX1.out)
              | (go_at_call 44; (with_reducible refine (cg _).mono ?_); rintro e w1 ⟨rfl, rfl⟩)
              | (go_at_call 44; (with_reducible refine (ch _).mono ?_); rintro e w1 ⟨rfl, rfl⟩))
            go_ret
            exact ⟨rfl, hbw⟩
        · rw [if_neg hk3] at hR
          subst hR
          have e0 : (kind == 0) = false := by simpa using hk0
          have e1 : (kind == 1) = false := by simpa using hk1
          have e2 : (kind == 2) = false := by simpa using hk2
          have e3 : (kind == 3) = false := by simpa using hk3
          clear hk0 hk1 hk2 hk3
          go_enter Try.func30, Try.ntmps30
          go_wp2_with (first
            | (go_at_call 44; (with_reducible refine (c1 _).mono ?_); rintro e w1 ⟨rfl, rfl⟩)
            | (go_at_call 44; (with_reducible refine (c2 _).mono ?_); rintro e w1 ⟨rfl, rfl⟩)
            | (go_at_call 45; (with_reducible refine (cn _ b0).mono ?_); rintro e w1 ⟨rfl, hb1⟩; clear cn; have HX1 := Lib.hid (HBX.out.below hb1); have hbw := b0.trans (hb1.mono b0.size); clear hb1; obtain ⟨g0, g3, g4, g5, g6, g7, g8, g9, g10⟩ := HX1.out)
            | (go_at_call 44; (with_reducible refine (cg _).mono ?_); rintro e w1 ⟨rfl, rfl⟩)
            | (go_at_call 44; (with_reducible refine (ch _).mono ?_); rintro e w1 ⟨rfl, rfl⟩))
          go_ret
          exact ⟨rfl, hbw⟩

/-- A frame, and where its parts lie. -/
structure Lying (w : World) (f : Fr) (ps p : Option Addr) : Prop where
  stamps : Ints w ps f.token.stamps
  rows : RowsAt w p f.token.table.rows
  small : Small f.token.table.rows
  few : (f.token.stamps.length : Int) ≤ 9223372036854775807
  many : (f.token.table.rows.length : Int) ≤ 9223372036854775807
/-- A frame as a value. -/
def frameVal (f : Fr) (ps p : Option Addr) (cs c : Nat) : Value :=
  .agg #[.int .i64 f.kind, .int .i64 f.src, .int .i64 f.dst, .int .i64 f.gen, .int .i64 f.hop, .int .u64 f.bits, .int .i64 f.token.gen, .int .i64 f.token.hop, .slice ps f.token.stamps.length cs, .int .i64 f.token.table.start, .slice p f.token.table.rows.length c]

/-- Right, of any. -/
theorem right_any (f : Fr) (ps p : Option Addr) (cs c : Nat) (w : World) (h : Lying w f ps p) :
    Calls Try.prog 30 #[frameVal f ps p cs c] w (Asked w (frameOk f)) := by
  unfold frameOk
  cases hb : (isIn f.src 0 63 && isIn f.dst 0 63) with
  | false =>
    rw [Bool.false_and]
    exact right_no _ _ _ _ _ _ _ _ _ _ _ _ _ _ _ _ hb
  | true =>
    rw [Bool.true_and]
    rw [Bool.and_eq_true] at hb
    exact right_yes _ _ _ _ _ _ _ _ _ _ _ _ _ _ _ _ hb.1 hb.2 (tokenOk f.token) (tokenNone f.token) _ (fun u hu => token_any f.token ps p cs c u h.few (h.stamps.below hu) (h.rows.below hu) h.small) (fun u _ => none_any f.token ps p cs c u h.few h.many) rfl
end Go.Proofs.Ytkdjhphakopfeaa.Frame
