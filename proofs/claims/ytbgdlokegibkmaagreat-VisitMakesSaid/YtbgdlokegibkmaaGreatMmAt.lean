/-
  From a walk that leaves alone what lay when the call began to what a row asks of the world behind the call, whatever the arguments are; how an array of two numbers, and a struct of one-cell fields, are opened. Any function, any program.
  How an argument that is a slice of structs is opened, whatever the structs are: its elements as a list, and each one's cells. Any function, any program.
  How an argument that is a frame is opened: its eleven cells, its stamps, its rows and their leases.
-/
import Derived.WalkKit
import Derived.ProofKit
import Derived.OpenShut
import Derived.Carry
import Derived.Deep.Fields
import Derived.Deep.SlicePairs
import Derived.Deep.Slices
import Derived.Test.YtbgdlokegibkmaaGreatChecked
import Derived.Test.YtbgdlokegibkmaaGreatMmAc
namespace Go.Proofs.YtbgdlokegibkmaaGreat.Row
open Go.ChangeShapes Go.WideShapes Go.RowKit
theorem trodAll_below {H : Type} {enc : TypeId × Value → H} {P : Program} (hl : laidOutB P = true) {W W' : World} (hb : Below W.heap.size W W') :
    ∀ {ts : List TypeId} {vs : List Value} {ds : List (DataW H)} {ps : List MemPlace}, (∀ t ∈ ts, P.readableRec t = true ∧ t < P.types.size) →
      DataW.TrodAll enc P W 0 (fun _ => true) true ts vs ds ps → (∀ x ∈ ps, x.block < W.heap.size) → DataW.TrodAll enc P W' 0 (fun b => decide (b < W.heap.size)) true ts vs ds ps
  | [], _, _, _, _, h, _ => by
    obtain ⟨rfl, rfl, rfl⟩ := trodAll_nil h
    exact trodAll_mk0
  | t :: ts, _, _, _, hr, h, hlt => by
    obtain ⟨v, vs, d, ds, p, q, rfl, rfl, rfl, h0, h1⟩ := trodAll_cons h
    exact trodAll_cons_mk (Below.trod hl (hr t (by simp)).1 (hr t (by simp)).2 h0 hb (fun x hx => hlt x (by simp [hx]))) (trodAll_below hl hb (fun u hu => hr u (by simp [hu])) h1 (fun x hx => hlt x (by simp [hx])))
/-- What is asked of each parameter's type, by the kernel. -/
def rowTypes (P : Program) (ts : List TypeId) : Bool := ts.all fun t => P.readableRec t && decide (t < P.types.size)
theorem rowTypes_out {P : Program} {ts : List TypeId} (h : rowTypes P ts = true) : ∀ t ∈ ts, P.readableRec t = true ∧ t < P.types.size := by
  intro t ht
  have := List.all_eq_true.1 h t ht
  simpa using this
/-- A law's row: it returns true, and its arguments read as they did. -/
theorem law_post {H : Type} {enc : TypeId × Value → H} {P : Program} {f : Func} {s : ChangeSpec} {apart fresh handsOn : Bool} {W W' : World} {args : Array Value} {ds gs : List (DataW H)} {before : List MemPlace} {bt : TypeId}
    (hW : DataW.Whole enc P f.params.toList s.vars apart W args.toList ds gs before) (hs : s.vars = [])
    (hres : (s.fn H (ds ++ [])).results = [.lit (.bool true)]) (hargs : (s.fn H (ds ++ [])).args = ds) (hvars : (s.fn H (ds ++ [])).vars = [])
    (hrt : f.resultTypes = #[bt]) (hbt : P.underlying bt = some .bool) (hl : laidOutB P = true) (hr : rowTypes P f.params.toList = true) (hb : Below W.heap.size W W') :
    s.post enc P f apart fresh handsOn false W args (.bool true) W' := by
  have hlt := hW.lt
  have hW' := hW
  obtain ⟨p, q, hA, hV, rfl, _, _⟩ := hW
  rw [hs] at hV
  obtain ⟨rfl, rfl⟩ := trodVars_none hV
  refine ⟨ds, [], p ++ [], [], p, [], hW', ?_, ?_, ?_, hb.frame _, fun h => by cases h⟩
  · rw [hres, hrt]
    exact trodAll_mk1 (shut_bool hbt true)
  · rw [hargs]
    exact trodAll_below hl hb (rowTypes_out hr) hA (fun x hx => hlt x (by simp [hx]))
  · rw [hvars, hs]
    rfl
section
variable {H : Type} {enc : TypeId × Value → H} {P : Program} {w : World} {base : Nat} {spare : Nat → Bool} {held : Bool}
theorem open_fields {r : Reach} {b0 : Nat} {t : TypeId} {fs : Array Field} {v : Value} {d : DataW H} {ps : List MemPlace} (hs : P.underlying t = some (.struct fs))
    (hone : ∀ (i : Nat) (f : Field), fs[i]? = some f → f.offset = i ∧ P.cellsOf f.type = 1) (hC : P.cellsOf t = fs.size)
    (hval : Value.okWide P w r b0 t v) (h : DataW.Trod enc P w base spare held t v d ps) :
    ∃ (V : Nat → Value) (Y : Nat → DataW H × List MemPlace) (n : Nat), v = .agg ((List.range fs.size).map V).toArray ∧ ∀ (i : Nat) (f : Field), fs[i]? = some f → DataW.trod enc P w base spare held n f.type [V i] = some (Y i) := by
  obtain ⟨cs, rfl, hsz⟩ := okWide_struct hs hval
  rw [hC] at hsz
  obtain ⟨fuel, hf⟩ := h
  obtain ⟨xs, n, _, _, _, hxl, hx⟩ := DataW.trod_struct hs hf
  have hcs : (Value.agg cs).cells.toList = cs.toList := by simp [Value.cells]
  rw [hcs] at hx
  refine ⟨fun i => cs.toList.getD i undef, fun i => xs.getD i (.nil, []), n, ?_, fun i f hi => ?_⟩
  · congr 1
    apply Array.ext'
    have := Deep.map_by_index cs.toList undef id
    simpa [hsz] using this
  · have hlt : i < fs.size := (Array.getElem?_eq_some_iff.1 hi).1
    obtain ⟨ho, hc1⟩ := hone i f hi
    have g := hx i f hi
    rw [ho, hc1] at g
    rw [Deep.take1_drop cs.toList i undef (by simp; omega), List.getElem?_eq_getElem (by omega)] at g
    rw [g]
    simp [List.getD, List.getElem?_eq_getElem (show i < xs.length by omega)]
/-- A slice of structs of two numbers: its cells. -/
theorem open_pairs {t e : TypeId} {f0 f1 : Field} {k : IntKind} {fuel : Nat} {v : Value} {x : DataW H × List MemPlace} (ht : P.underlying t = some (.slice e)) (he : P.underlying e = some (.struct #[f0, f1]))
    (ce : P.cellsOf e = 2) (o0 : f0.offset = 0) (o1 : f1.offset = 1) (c0 : P.cellsOf f0.type = 1) (c1 : P.cellsOf f1.type = 1) (u0 : P.underlying f0.type = some (.int k)) (u1 : P.underlying f1.type = some (.int k))
    (h : DataW.trod enc P w base spare held fuel t [v] = some x) :
    ∃ (p : Option Addr) (c : Nat) (zs : List (Int × Int)), v = .slice p zs.length c ∧ (zs = [] ∨ ∃ b o, p = some ⟨b, o, none⟩ ∧ ∀ i, i < zs.length →
      w.cell? ⟨b, o + i * 2, none⟩ = some (.int k (zs.getD i (0, 0)).1) ∧ w.cell? ⟨b, o + i * 2 + 1, none⟩ = some (.int k (zs.getD i (0, 0)).2)) := by
  rcases Deep.open_slice_pairs ht he ce o0 o1 c0 c1 h with ⟨h0, _⟩ | ⟨a, len, cap, m, n, V0, V1, D0, D1, P0, P1, h0, _, hlc, _, hm, _, hx⟩
  · simp only [List.cons.injEq, and_true] at h0
    exact ⟨none, 0, [], h0, .inl rfl⟩
  · simp only [List.cons.injEq, and_true] at h0
    have hlm : len ≤ m := by rw [hm]; split <;> omega
    refine ⟨some a, cap, (List.range len).map fun i => (intOf (V0 i), intOf (V1 i)), by simpa using h0, ?_⟩
    by_cases hl : len = 0
    · left; simp [hl]
    · right
      obtain ⟨b, o, spot⟩ := a
      have hs := (hx 0 (by omega)).1
      have hspot : spot = none := by simpa [Addr.add] using World.cell?_spot hs
      subst hspot
      refine ⟨b, o, rfl, fun i hi => ?_⟩
      simp only [List.length_map, List.length_range] at hi
      obtain ⟨g0, g1, g2, g3⟩ := hx i (by omega)
      obtain ⟨x, e0, _, _⟩ := DataW.trod_int u0 g2
      obtain ⟨y, e1, _, _⟩ := DataW.trod_int u1 g3
      simp only [List.cons.injEq, and_true] at e0 e1
      rw [add_plain] at g0 g1
      rw [e0] at g0
      rw [e1] at g1
      have ez : ((List.range len).map fun i => (intOf (V0 i), intOf (V1 i))).getD i (0, 0) = (x, y) := by
        simp [List.getD, hi, e0, e1, intOf]
      rw [ez]
      exact ⟨g0, g1⟩
end
end Go.Proofs.YtbgdlokegibkmaaGreat.Row

namespace Go.Proofs.YtbgdlokegibkmaaGreat.Row
open Go.ChangeShapes Go.WideShapes Go.RowKit
theorem num_wf {a : Int} (h : (Lit.int .i64 a).wf = true) : -9223372036854775808 ≤ a ∧ a ≤ 9223372036854775807 := by simp [Lit.wf, IntKind.min, IntKind.max, IntKind.signed, IntKind.bits] at h; omega
section
variable {H : Type} {enc : TypeId × Value → H} {P : Program} {w : World} {base : Nat} {spare : Nat → Bool} {held : Bool}
/-- A field of a struct, with its own cells. -/
theorem field_of {t : TypeId} {fs : Array Field} {fuel : Nat} {cs : List Value} {x : DataW H × List MemPlace} (ht : P.underlying t = some (.struct fs)) (h : DataW.trod enc P w base spare held fuel t cs = some x) :
    cs.length = P.cellsOf t ∧ ∃ n, ∀ (i : Nat) (f : Field) (L : List Value), fs[i]? = some f → (cs.drop f.offset).take (P.cellsOf f.type) = L → ∃ y, DataW.trod enc P w base spare held n f.type L = some y := by
  obtain ⟨xs, n, _, _, hcl, hlen, hf⟩ := DataW.trod_struct ht h
  refine ⟨hcl, n, fun i f L hi hL => ?_⟩
  have h1 := hf i f hi
  rw [hL] at h1
  have hlt : i < xs.length := by rw [hlen]; exact (Array.getElem?_eq_some_iff.1 hi).1
  exact ⟨_, h1.trans (List.getElem?_eq_getElem hlt)⟩
/-- One thing for each number: all of them, in a list. -/
theorem list_of {α : Type} (z : α) {Q : Nat → α → Prop} : ∀ (n : Nat), (∀ i, i < n → ∃ r, Q i r) → ∃ l : List α, l.length = n ∧ ∀ i, i < n → Q i (l.getD i z)
  | 0, _ => ⟨[], rfl, fun i hi => absurd hi (Nat.not_lt_zero i)⟩
  | n + 1, h => by
    obtain ⟨l, hl, hq⟩ := list_of z n fun i hi => h i (by omega)
    obtain ⟨r, hr⟩ := h n (by omega)
    refine ⟨l ++ [r], by simp [hl], fun i hi => ?_⟩
    by_cases e : i < n
    · have : (l ++ [r]).getD i z = l.getD i z := by simp [List.getD, List.getElem?_append_left (show i < l.length by omega)]
      rw [this]
      exact hq i e
    · obtain rfl : i = n := by omega
      have : (l ++ [r]).getD i z = r := by simp [List.getD, ← hl]
      rw [this]
      exact hr
/-- A slice of structs of n cells, each of which is V of a thing that is Q. -/
theorem open_rows {α : Type} (z : α) (Q : α → Prop) (V : α → Nat → Value) {r : Reach} {b0 n : Nat} {t e : TypeId} {v : Value} {d : DataW H} {ps : List MemPlace} (ht : P.underlying t = some (.slice e)) (hn : P.cellsOf e = n) (h1 : 0 < n)
    (one : ∀ fuel cs x, cs.length = n → DataW.trod enc P w base spare held fuel e cs = some x → ∃ a : α, Q a ∧ ∀ k, k < n → cs[k]? = some (V a k))
    (hval : Value.okWide P w r b0 t v) (h : DataW.Trod enc P w base spare held t v d ps) :
    ∃ (p : Option Addr) (c : Nat) (l : List α), v = .slice p l.length c ∧ (l.length : Int) ≤ 9223372036854775807 ∧ (l = [] ∨ ∃ g o, p = some ⟨g, o, none⟩ ∧ ∀ j, j < l.length → ∀ k, k < n → w.cell? ⟨g, o + j * n + k, none⟩ = some (V (l.getD j z) k)) ∧ ∀ a ∈ l, Q a := by
  obtain ⟨a0, len, cap, rfl⟩ := okWide_slice ht hval
  obtain ⟨fuel, hf⟩ := h
  rcases Deep.open_slice ht hf with ⟨h0, _⟩ | ⟨a, len0, cap0, m, fu, D, Pl, h0, _, hlc, hcm, hm, _, hx⟩
  · simp [Value.cells] at h0
    obtain ⟨rfl, rfl, rfl⟩ := h0
    exact ⟨none, 0, [], rfl, by simp, .inl rfl, fun r hr => by cases hr⟩
  · simp [Value.cells] at h0
    obtain ⟨rfl, rfl, rfl⟩ := h0
    rw [hn] at hx
    have hlm : len ≤ m := by rw [hm]; split <;> omega
    have key : ∀ i, i < len → ∃ c : α, Q c ∧ ∀ k, k < n → w.cell? (a.add (i * n + k)) = some (V c k) := by
      intro i hi
      obtain ⟨cs, hcs, ht'⟩ := hx i (by omega)
      obtain ⟨_, hcl, hat⟩ := World.cells?_some hcs
      obtain ⟨c, hc, hk⟩ := one _ cs _ hcl ht'
      refine ⟨c, hc, fun k hkn => ?_⟩
      have q := hat k hkn
      rw [Deep.add_add, hk k hkn] at q
      exact q
    by_cases hl : len = 0
    · subst hl
      exact ⟨some a, cap, [], rfl, by simp, .inl rfl, fun r hr => by cases hr⟩
    · obtain ⟨b, o, sp⟩ := a
      obtain ⟨r0, _, hs⟩ := key 0 (by omega)
      have hsp : sp = none := by simpa [Addr.add] using World.cell?_spot (hs 0 h1)
      subst hsp
      obtain ⟨l, hll, hq⟩ := list_of z len key
      refine ⟨some ⟨b, o, none⟩, cap, l, by rw [hll], (by rw [hll]; unfold maxLen at hcm; omega), .inr ⟨b, o, rfl, fun j hj k hk => ?_⟩, fun r hr => ?_⟩
      · have q := (hq j (by omega)).2 k hk
        rw [add_plain] at q
        rw [Nat.add_assoc]
        exact q
      · obtain ⟨j, hj, e⟩ := List.mem_iff_getElem.1 hr
        have := (hq j (by omega)).1
        have e2 : l.getD j z = r := by simp [List.getD, hj, e]
        rw [e2] at this
        exact this
/-- A struct of ints alone: its numbers, in the order of its fields (each field one cell). -/
theorem int_of {t : TypeId} (hi : P.underlying t = some (.int .i64)) {fuel : Nat} {c : Value} {x : DataW H × List MemPlace} (h : DataW.trod enc P w base spare held fuel t [c] = some x) : ∃ a : Int, c = .int .i64 a ∧ -9223372036854775808 ≤ a ∧ a ≤ 9223372036854775807 := by
  obtain ⟨a, e, _, w0⟩ := DataW.trod_int hi h
  simp only [List.cons.injEq, and_true] at e
  exact ⟨a, e, num_wf w0⟩
end
end Go.Proofs.YtbgdlokegibkmaaGreat.Row

namespace Go.Proofs.YtbgdlokegibkmaaGreat.Frame
open Go.ChangeShapes Go.WideShapes Go.RowKit Codec
section
variable {H : Type} {enc : TypeId × Value → H} {w : World} {base : Nat} {spare : Nat → Bool} {held : Bool}
theorem one_int : Tryz.prog.cellsOf 3 = 1 := by kernel_rfl
end
end Go.Proofs.YtbgdlokegibkmaaGreat.Frame
