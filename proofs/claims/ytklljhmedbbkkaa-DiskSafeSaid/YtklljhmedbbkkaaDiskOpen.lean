/-
  How an argument that is a slice of acts is opened: each act's kind, its bytes, its number.
-/
import Derived.Test.YtklljhmedbbkkaaLawRow
import Derived.Test.YtklljhmedbbkkaaDiskActs
import Derived.Deep.Slices
import Derived.WalkKit
import Derived.ProofKit
namespace Go.Proofs.Ytklljhmedbbkkaa.Disk
open Go.ChangeShapes Go.WideShapes Go.RowKit Codec

section
variable {H : Type} {enc : TypeId × Value → H} {P : Program} {w : World} {base : Nat} {spare : Nat → Bool} {held : Bool}
/-- A field of a struct, with its own cells. -/
theorem field_of {t : TypeId} {fs : Array Field} {fuel : Nat} {cs : List Value} {x : DataW H × List MemPlace} (ht : P.underlying t = some (.struct fs)) (h : DataW.trod enc P w base spare held fuel t cs = some x) :
    cs.length = P.cellsOf t ∧ ∃ n, ∀ (i : Nat) (f : Field) (L : List Value), fs[i]? = some f → (cs.drop f.offset).take (P.cellsOf f.type) = L → ∃ y, DataW.trod enc P w base spare held n f.type L = some y := by
  obtain ⟨xs, n, _, _, hcl, hlen, hf⟩ := DataW.trod_struct ht h
  refine ⟨hcl, n, fun i f L hi hL => ?_⟩
  have h1 := hf i f hi
  rw [hL] at h1
  have hlt : i < xs.length := by rw [hlen]; exact (Array.getElem?_eq_some_iff.1 hi).1
  exact ⟨_, h1.trans (List.getElem?_eq_getElem hlt)⟩

/-- A slice of bytes. -/
theorem bytes_of {t e : TypeId} {v : Value} {fuel : Nat} {x : DataW H × List MemPlace} (ht : P.underlying t = some (.slice e)) (he : P.underlying e = some (.int .u8)) (hc : P.cellsOf e = 1) (hf : DataW.trod enc P w base spare held fuel t [v] = some x) :
    ∃ (p : Option Addr) (c : Nat) (zs : List Int), v = .slice p zs.length c ∧ (p = none → zs = [] ∧ c = 0) ∧ (zs.length : Int) ≤ 9223372036854775807 ∧ Cel w p zs := by
  rcases open_ints ht he hc hf with ⟨hcs, _⟩ | ⟨x, len0, cap0, zs, hcs, _, hl, hm, hz, _, hcell, -⟩
  · simp only [List.cons.injEq, and_true] at hcs
    subst hcs
    exact ⟨none, 0, [], rfl, fun _ => ⟨rfl, rfl⟩, by simp, .inl rfl⟩
  · simp only [List.cons.injEq, and_true] at hcs
    subst hcs
    have hlz : len0 ≤ zs.length := by rw [hz]; split <;> omega
    have hlen : (zs.take len0).length = len0 := by simp; omega
    refine ⟨some x, cap0, zs.take len0, by rw [hlen], (fun e => by cases e), (by rw [hlen]; unfold maxLen at hm; omega), ?_⟩
    by_cases h0 : len0 = 0
    · left; simp [h0]
    · right
      obtain ⟨b, o, sp⟩ := x
      have hs : sp = none := by simpa [Addr.add] using World.cell?_spot (hcell 0 (by omega))
      subst hs
      refine ⟨b, o, rfl, fun j hj => ?_⟩
      rw [hlen] at hj
      have := hcell j (by omega)
      rw [add_plain] at this
      rw [this]
      simp [List.getD, hj]
end

/-- One thing for each number: all of them, in a list. -/
theorem list_of {Q : Nat → Ac → Prop} : ∀ (n : Nat), (∀ i, i < n → ∃ r, Q i r) → ∃ l : List Ac, l.length = n ∧ ∀ i, i < n → Q i (l.getD i noAc)
  | 0, _ => ⟨[], rfl, fun i hi => absurd hi (Nat.not_lt_zero i)⟩
  | n + 1, h => by
    obtain ⟨l, hl, hq⟩ := list_of n fun i hi => h i (by omega)
    obtain ⟨r, hr⟩ := h n (by omega)
    refine ⟨l ++ [r], by simp [hl], fun i hi => ?_⟩
    by_cases e : i < n
    · have : (l ++ [r]).getD i noAc = l.getD i noAc := by simp [List.getD, List.getElem?_append_left (show i < l.length by omega)]
      rw [this]
      exact hq i e
    · obtain rfl : i = n := by omega
      have : (l ++ [r]).getD i noAc = r := by simp [List.getD, ← hl]
      rw [this]
      exact hr

section
variable {H : Type} {enc : TypeId × Value → H} {w : World} {base : Nat} {spare : Nat → Bool} {held : Bool}
theorem one_u8 : Try.prog.cellsOf 5 = 1 := by kernel_rfl
theorem one_int : Try.prog.cellsOf 3 = 1 := by kernel_rfl
theorem one_bytes : Try.prog.cellsOf 33 = 1 := by kernel_rfl
theorem three_act : Try.prog.cellsOf 40 = 3 := by kernel_rfl

theorem num_u8 {a : Int} (h : (Lit.int .u8 a).wf = true) : 0 ≤ a ∧ a < 256 := by simp [Lit.wf, IntKind.min, IntKind.max, IntKind.signed, IntKind.bits] at h; omega
theorem num_i64 {a : Int} (h : (Lit.int .i64 a).wf = true) : -9223372036854775808 ≤ a ∧ a ≤ 9223372036854775807 := by simp [Lit.wf, IntKind.min, IntKind.max, IntKind.signed, IntKind.bits] at h; omega

/-- A slice of acts that came in. -/
theorem open_acts {r : Reach} {b0 : Nat} {v : Value} {d : DataW H} {ps : List MemPlace} (hval : Value.okWide Try.prog w r b0 22 v) (h : DataW.Trod enc Try.prog w base spare held 22 v d ps) :
    ∃ (p : Option Addr) (c : Nat) (l : List Ac), v = .slice p l.length c ∧ (l.length : Int) ≤ 9223372036854775807 ∧ ActsAt w p l ∧ Wide l := by
  obtain ⟨a0, len, cap, rfl⟩ := okWide_slice Try.underlying22 hval
  obtain ⟨fuel, hf⟩ := h
  rcases Deep.open_slice Try.underlying22 hf with ⟨h0, _⟩ | ⟨a, len0, cap0, m, n, D, Pl, h0, _, hlc, hcm, hm, _, hx⟩
  · simp [Value.cells] at h0
    obtain ⟨rfl, rfl, rfl⟩ := h0
    exact ⟨none, 0, [], rfl, by simp, .inl rfl, fun r hr => by cases hr⟩
  · simp [Value.cells] at h0
    obtain ⟨rfl, rfl, rfl⟩ := h0
    rw [three_act] at hx
    have hlm : len ≤ m := by rw [hm]; split <;> omega
    have key : ∀ i, i < len → ∃ r : Ac, (0 ≤ r.kind ∧ r.kind < 256 ∧ -9223372036854775808 ≤ r.n ∧ r.n ≤ 9223372036854775807 ∧ (r.b.length : Int) ≤ 9223372036854775807) ∧ w.cell? (a.add (i * 3)) = some (.int .u8 r.kind) ∧ w.cell? (a.add (i * 3 + 2)) = some (.int .i64 r.n) ∧
        ∃ q c, w.cell? (a.add (i * 3 + 1)) = some (.slice q r.b.length c) ∧ (q = none → r.b = [] ∧ c = 0) ∧ Cel w q r.b := by
      intro i hi
      obtain ⟨cs, hcs, ht⟩ := hx i (by omega)
      obtain ⟨_, hcl, hat⟩ := World.cells?_some hcs
      match cs, hcl with
      | [c0, c1, c2], _ =>
        obtain ⟨_, k, hk⟩ := field_of Try.underlying40 ht
        obtain ⟨y0, g0⟩ := hk 0 _ [c0] rfl (by simp [one_u8])
        obtain ⟨y1, g1⟩ := hk 1 _ [c1] rfl (by simp [one_bytes])
        obtain ⟨y2, g2⟩ := hk 2 _ [c2] rfl (by simp [one_int])
        obtain ⟨x0, e0, _, w0⟩ := DataW.trod_int Try.underlying5 g0
        obtain ⟨x2, e2, _, w2⟩ := DataW.trod_int Try.underlying3 g2
        simp only [List.cons.injEq, and_true] at e0 e2
        obtain ⟨q, c, zs, e1, hq, hl, hz⟩ := bytes_of Try.underlying33 Try.underlying5 one_u8 g1
        subst e0 e1 e2
        have q0 := hat 0 (by decide)
        have q1 := hat 1 (by decide)
        have q2 := hat 2 (by decide)
        rw [Deep.add_add] at q0 q1 q2
        exact ⟨⟨x0, zs, x2⟩, ⟨(num_u8 w0).1, (num_u8 w0).2, (num_i64 w2).1, (num_i64 w2).2, hl⟩, q0, q2, q, c, q1, hq, hz⟩
    by_cases hl : len = 0
    · subst hl
      exact ⟨some a, cap, [], rfl, by simp, .inl rfl, fun r hr => by cases hr⟩
    · obtain ⟨b, o, sp⟩ := a
      obtain ⟨r0, _, hs, _⟩ := key 0 (by omega)
      have hsp : sp = none := by simpa [Addr.add] using World.cell?_spot hs
      subst hsp
      obtain ⟨l, hll, hq⟩ := list_of len key
      refine ⟨some ⟨b, o, none⟩, cap, l, by rw [hll], (by rw [hll]; unfold maxLen at hcm; omega), .inr ⟨b, o, rfl, fun j hj => ?_⟩, fun r hr => ?_⟩
      · obtain ⟨_, q0, q2, q, c, q1, hn, hz⟩ := hq j (by omega)
        rw [add_plain] at q0 q1 q2
        exact ⟨q0, q2, q, c, q1, hn, hz⟩
      · obtain ⟨j, hj, e⟩ := List.mem_iff_getElem.1 hr
        have := (hq j (by omega)).1
        have e2 : l.getD j noAc = r := by simp [List.getD, hj, e]
        rw [e2] at this
        exact this
end

/-- An act that lies where it lay. -/
theorem act_on {W u : World} {g o k : Nat} {l : List Ac} (hb : Below W.heap.size W u) (h : W.cell? ⟨g, o + k * 3, none⟩ = some (.int .u8 (l.getD k noAc).kind) ∧ W.cell? ⟨g, o + k * 3 + 2, none⟩ = some (.int .i64 (l.getD k noAc).n) ∧
    ∃ q c, W.cell? ⟨g, o + k * 3 + 1, none⟩ = some (.slice q (l.getD k noAc).b.length c) ∧ (q = none → (l.getD k noAc).b = [] ∧ c = 0) ∧ Cel W q (l.getD k noAc).b) :
    u.cell? ⟨g, o + k * 3, none⟩ = some (.int .u8 (l.getD k noAc).kind) ∧ u.cell? ⟨g, o + k * 3 + 2, none⟩ = some (.int .i64 (l.getD k noAc).n) ∧
    ∃ q c, u.cell? ⟨g, o + k * 3 + 1, none⟩ = some (.slice q (l.getD k noAc).b.length c) ∧ (q = none → (l.getD k noAc).b = [] ∧ c = 0) ∧ ∀ v, Below W.heap.size u v → Cel v q (l.getD k noAc).b := by
  obtain ⟨h0, h2, q, c, h1, hq, hc⟩ := h
  exact ⟨(hb.cell (p := ⟨g, o + k * 3, none⟩) (World.block_lt_of_cell? _ _ h0)).trans h0, (hb.cell (p := ⟨g, o + k * 3 + 2, none⟩) (World.block_lt_of_cell? _ _ h2)).trans h2, q, c, (hb.cell (p := ⟨g, o + k * 3 + 1, none⟩) (World.block_lt_of_cell? _ _ h1)).trans h1, hq, fun v hv => hc.below (hb.trans hv)⟩

theorem fits_out {l : List Ac} (h : fits l = true) (k : Nat) (hk : k < l.length) : ((l.getD k noAc).b.length : Int) ≤ 3000 := by
  simp only [fits, Bool.and_eq_true, decide_eq_true_eq] at h
  have := one_le l k hk
  omega
theorem holds_steps {room : Int} (h0 : 0 ≤ room) (l : List Ac) : Holds room (dSteps room ([], []) l) := by
  unfold dSteps
  have : ∀ (l : List Ac) (s : Sl), Holds room s → Holds room (l.foldl (dStep room) s) := by
    intro l
    induction l with
    | nil => intro s h; exact h
    | cons a l ih => intro s h; exact ih _ (holds_step a h)
  exact this l _ (by simpa [Holds] using h0)
end Go.Proofs.Ytklljhmedbbkkaa.Disk
