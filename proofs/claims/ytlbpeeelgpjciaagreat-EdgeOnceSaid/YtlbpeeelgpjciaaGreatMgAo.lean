/-
  What is asked of a round of EdgePlays, whatever the program's edge is.
  From a walk that leaves alone what lay when the call began to what a row asks of the world behind the call, whatever the arguments are; how an array of two numbers, and a struct of one-cell fields, are opened. Any function, any program.
  How an argument that is a slice of structs is opened, whatever the structs are: its elements as a list, and each one's cells. Any function, any program.
  How arguments that are configurations, and slices of annonalaw14's acts, are opened.
  The document's Put, of any wallet of up to 1000 leases.
-/
import Derived.WalkKit
import Derived.ProofKit
import Derived.OpenShut
import Derived.Carry
import Derived.Deep.Fields
import Derived.Deep.SlicePairs
import Derived.Deep.Slices
import Derived.Test.YtlbpeeelgpjciaaGreatMgAn
import Derived.Test.YtlbpeeelgpjciaaGreatChecked
import Derived.Test.YtlbpeeelgpjciaaGreatMgAm
namespace Go.Proofs.YtlbpeeelgpjciaaGreat.Edge
open Go.RowKit
open _root_.Go.Proofs.YtlbpeeelgpjciaaGreat.Codec (lt_of_heap frozen_of heap_set below_new)
open _root_.Go.Proofs.YtlbpeeelgpjciaaGreat.Kit (Enc Lies At Kept Laid Off cell_on lt_heap take_snoc below_drewN box5)
open _root_.Go.Proofs.YtlbpeeelgpjciaaGreat.Lease (Lz Num)
open _root_.Go.Proofs.YtlbpeeelgpjciaaGreat.Queue (It)

/-- The thirteen cells of an act. -/
structure ActAt (w : World) (b o : Nat) (a : Ac) : Prop where
  k0 : w.cell? ⟨b, o, none⟩ = some (.int .u8 a.kind)
  k1 : w.cell? ⟨b, o + 1, none⟩ = some (.int .i64 a.r.id)
  k2 : w.cell? ⟨b, o + 2, none⟩ = some (.int .i64 a.r.key)
  k3 : w.cell? ⟨b, o + 3, none⟩ = some (.int .i64 a.r.cost)
  k4 : w.cell? ⟨b, o + 4, none⟩ = some (.int .i64 a.r.cls)
  k5 : w.cell? ⟨b, o + 5, none⟩ = some (.int .i64 a.r.wait)
  k6 : w.cell? ⟨b, o + 6, none⟩ = some (.int .i64 a.l.key)
  k7 : w.cell? ⟨b, o + 7, none⟩ = some (.int .i64 a.l.gen)
  k8 : w.cell? ⟨b, o + 8, none⟩ = some (.int .i64 a.l.amount)
  k9 : w.cell? ⟨b, o + 9, none⟩ = some (.int .i64 a.l.spent)
  k10 : w.cell? ⟨b, o + 10, none⟩ = some (.int .i64 a.l.til)
  k11 : w.cell? ⟨b, o + 11, none⟩ = some (.int .i64 a.why)
  k12 : w.cell? ⟨b, o + 12, none⟩ = some (.int .i64 a.now)
def ActsAt (w : World) (p : Option Addr) (l : List Ac) : Prop := l = [] ∨ ∃ b o, p = some ⟨b, o, none⟩ ∧ ∀ j, j < l.length → ActAt w b (o + j * 13) (l.getD j za)
theorem ActAt.below {w w' : World} {b o : Nat} {a : Ac} (h : ActAt w b o a) (hb : Below w.heap.size w w') : ActAt w' b o a :=
  ⟨cell_on h.k0 hb, cell_on h.k1 hb, cell_on h.k2 hb, cell_on h.k3 hb, cell_on h.k4 hb, cell_on h.k5 hb, cell_on h.k6 hb, cell_on h.k7 hb, cell_on h.k8 hb, cell_on h.k9 hb, cell_on h.k10 hb, cell_on h.k11 hb, cell_on h.k12 hb⟩
theorem acts_at {w : World} {p : Option Addr} {l : List Ac} (h : ActsAt w p l) {j : Nat} (hj : j < l.length) : ∃ b o, p = some ⟨b, o, none⟩ ∧ ActAt w b (o + j * 13) (l.getD j za) := by
  rcases h with h | ⟨b, o, e, hc⟩
  · rw [h] at hj; simp at hj
  · exact ⟨b, o, e, hc j hj⟩
theorem ActsAt.below {w w' : World} {p : Option Addr} {l : List Ac} (h : ActsAt w p l) (hb : Below w.heap.size w w') : ActsAt w' p l := by
  rcases h with h | ⟨b, o, e, hc⟩
  · exact .inl h
  · exact .inr ⟨b, o, e, fun j hj => (hc j hj).below hb⟩
/-- A round: all that is asked of it. -/
structure Round (PW : Pw) (W : World) (q v : Nat) (c : Cf) (s : Eg) (a : Ac) (T : Eg) (L : List An) (n : Int) : Prop where
  step : ∀ u, Est PW W q v c s s u → Calls Tryz.prog 8 #[.pointer (some ⟨q, 0, none⟩), actVal a] u fun x w' => ∃ y, x = .returned (.tuple #[y, .int .i64 n]) ∧ Says w' y L ∧ Est PW W q v c T s w'
  want : ∀ u, Est PW W q v c T s u → Calls Tryz.prog 9 #[.pointer (some ⟨v, 0, none⟩), actVal a] u fun x w' => ∃ y, x = .returned (.tuple #[y, .int .i64 n]) ∧ Told w' y L ∧ Est PW W q v c T T w' ∧ ∀ y', Says u y' L → Says w' y' L
  same : ∀ u p k p' k', Lies ans u p L → Lies ans u p' L → Calls Tryz.prog 10 #[.slice p L.length k, .slice p' L.length k'] u fun x w' => x = .returned (.bool true) ∧ Below u.heap.size u w'
  waiting : ∀ u, Est PW W q v c T T u → Calls Tryz.prog 13 #[.pointer (some ⟨q, 0, none⟩)] u fun x w' => ∃ p k, x = .returned (.slice p T.Q.length k) ∧ Lies Queue.item w' p T.Q ∧ Below u.heap.size u w'
  of12 : ∀ u p k, Lies Queue.item u p T.Q → Calls Tryz.prog 12 #[.slice p T.Q.length k] u fun x w' => ∃ p' k', x = .returned (.slice p' T.Q.length k') ∧ Lies Queue.item w' p' T.Q ∧ Below u.heap.size u w'
  same12 : ∀ u p k p' k', Lies Queue.item u p T.Q → Lies Queue.item u p' T.Q → Calls Tryz.prog 11 #[.slice p T.Q.length k, .slice p' T.Q.length k'] u fun x w' => x = .returned (.bool true) ∧ Below u.heap.size u w'
  leases : ∀ u, Est PW W q v c T T u → Calls Tryz.prog 16 #[.pointer (some ⟨q, 0, none⟩)] u fun x w' => ∃ p k, x = .returned (.slice p T.L.length k) ∧ Lease.Lies w' p T.L ∧ Below u.heap.size u w'
  of11 : ∀ u p k, Lease.Lies u p T.L → Calls Tryz.prog 15 #[.slice p T.L.length k] u fun x w' => ∃ p' k', x = .returned (.slice p' T.L.length k') ∧ Lease.Lies w' p' T.L ∧ Below u.heap.size u w'
  same11 : ∀ u p k p' k', Lease.Lies u p T.L → Lease.Lies u p' T.L → Calls Tryz.prog 14 #[.slice p T.L.length k, .slice p' T.L.length k'] u fun x w' => x = .returned (.bool true) ∧ Below u.heap.size u w'
  wants : ∀ u, Est PW W q v c T T u → Calls Tryz.prog 17 #[.pointer (some ⟨q, 0, none⟩), .pointer (some ⟨v, 0, none⟩)] u fun x w' => x = .returned (.bool true) ∧ Below u.heap.size u w'
theorem serves_few (key now : Int) (e : Eg) : (serve e key now).2.length ≤ e.Q.length := Nat.le_trans (serves_len key now (Queue.of e.Q key) e) (Queue.of_len e.Q key)
theorem told_few (c : Cf) (e : Eg) (a : Ac) : (actOf c e a).2.1.length ≤ e.Q.length + 1 := by
  unfold actOf
  split
  · unfold grant
    split
    · exact Nat.le_succ_of_le (serves_few a.l.key a.now ⟨(Lease.put e.L a.l).1, e.Q, e.D⟩)
    · simp
  · split
    · simp
    · split
      · simp
      · split
        · simp only [expire, all_len]
          exact Nat.le_succ_of_le (List.length_filter_le _ _)
        · split
          · simp only [refuse, all_len]
            exact Nat.le_succ_of_le (Queue.of_len _ _)
          · split
            · simp only [crash, all_len]; omega
            · unfold ask wait
              split
              · simp [no]
              · split
                · simp [no]
                · split
                  · simp [no]
                  · split
                    · simp [no]
                    · split
                      · simp
                      · split
                        · simp [no]
                        · split <;> simp [no]
theorem round_any {PW : Pw} (P : Way14 PW) {W : World} {q v : Nat} {c : Cf} (h0 : 0 ≤ c.qu) (h1 : c.qu ≤ 16) {s : Eg} {j : Nat} (hg : Good c s) (hf : Fewer s j) (hj : j ≤ 90) {a : Ac} (ha : AcNum a) : Round PW W q v c s a (actOf c s a).1 (actOf c s a).2.1 (actOf c s a).2.2 := by
  have hl := good_few hg hf h1 (by omega)
  have hg' := good_act h0 hg ha
  have hf' := few_act (c := c) hf a
  have hl' := good_few hg' hf' h1 (by omega)
  have ht := told_few c s a
  obtain ⟨m1, m2, m3⟩ := hl'
  refine ⟨fun u h => ?_, fun u h => ?_, fun u p k p' k' h h' => rsame_any h h' (by have := hl.2.1; omega), fun u h => (P.waiting h.pw hg' ⟨m1, m2, m3⟩).mono (fun x w' ⟨p, k, e, h1, _, h2⟩ => ⟨p, k, e, h1, h2⟩), fun u p k h => Queue.of_any h (by omega), fun u p k p' k' h h' => Queue.rsame_any h h' (by omega),
    fun u h => P.leases h.pw hg' ⟨m1, m2, m3⟩, fun u p k h => Lease.of_any h (by omega), fun u p k p' k' h h' => Lease.rsame_any h h' rfl (by omega), fun u h => lwants_any P h hg' ⟨m1, m2, m3⟩⟩
  · refine (step_way P h.pw h.below.size hg hl a ha).mono ?_
    rintro x w' ⟨y, e, h2, hm⟩
    exact ⟨y, e, h2, h.own hm⟩
  · refine (want_any h.ed h.below.size hg hl a ha).mono ?_
    rintro x w' ⟨y, e, h2, hm⟩
    exact ⟨y, e, h2, h.ref P hm, fun y' hy => hy.step h.ed hm⟩
end Go.Proofs.YtlbpeeelgpjciaaGreat.Edge

namespace Go.Proofs.YtlbpeeelgpjciaaGreat.Row
open Go.ChangeShapes Go.WideShapes Go.RowKit

theorem trodAll_below {H : Type} {enc : TypeId × Value → H} {P : Program} (hl : laidOutB P = true) {W W' : World} (hb : Below W.heap.size W W') :
    ∀ {ts : List TypeId} {vs : List Value} {ds : List (DataW H)} {ps : List MemPlace}, (∀ t ∈ ts, P.readableRec t = true ∧ t < P.types.size) →
      DataW.TrodAll enc P W 0 (fun _ => true) true ts vs ds ps → (∀ x ∈ ps, x.block < W.heap.size) → DataW.TrodAll enc P W' 0 (fun b => decide (b < W.heap.size)) true ts vs ds ps
  | [], _, _, _, _, h, _ => by
    obtain ⟨rfl, rfl, rfl⟩ := trodAll_nil h
    exact trodAll_mk0
  | t :: ts, _, _, _, hr, h, hlt => by
    obtain ⟨v, vs, d, ds, p, q, rfl, rfl, rfl, h0, h1⟩ := trodAll_cons h
    exact trodAll_cons_mk (Below.trod hl (hr t (by simp)).1 (hr t (by simp)).2 h0 hb (fun x hx => hlt x (by simp [hx]))) (trodAll_below hl hb (fun u hu => hr u (by simp [hu])) h1 (fun x hx => hlt x (by simp [hx])))

/-- What is asked of each parameter's type, by the kernel. -/
def rowTypes (P : Program) (ts : List TypeId) : Bool := ts.all fun t => P.readableRec t && decide (t < P.types.size)
theorem rowTypes_out {P : Program} {ts : List TypeId} (h : rowTypes P ts = true) : ∀ t ∈ ts, P.readableRec t = true ∧ t < P.types.size := by
  intro t ht
  have := List.all_eq_true.1 h t ht
  simpa using this

/-- A law's row: it returns true, and its arguments read as they did. -/
theorem law_post {H : Type} {enc : TypeId × Value → H} {P : Program} {f : Func} {s : ChangeSpec} {apart fresh handsOn : Bool} {W W' : World} {args : Array Value} {ds gs : List (DataW H)} {before : List MemPlace} {bt : TypeId}
    (hW : DataW.Whole enc P f.params.toList s.vars apart W args.toList ds gs before) (hs : s.vars = [])
    (hres : (s.fn H (ds ++ [])).results = [.lit (.bool true)]) (hargs : (s.fn H (ds ++ [])).args = ds) (hvars : (s.fn H (ds ++ [])).vars = [])
    (hrt : f.resultTypes = #[bt]) (hbt : P.underlying bt = some .bool) (hl : laidOutB P = true) (hr : rowTypes P f.params.toList = true) (hb : Below W.heap.size W W') :
    s.post enc P f apart fresh handsOn false W args (.bool true) W' := by
  have hlt := hW.lt
  have hW' := hW
  obtain ⟨p, q, hA, hV, rfl, _, _⟩ := hW
  rw [hs] at hV
  obtain ⟨rfl, rfl⟩ := trodVars_none hV
  refine ⟨ds, [], p ++ [], [], p, [], hW', ?_, ?_, ?_, hb.frame _, fun h => by cases h⟩
  · rw [hres, hrt]
    exact trodAll_mk1 (shut_bool hbt true)
  · rw [hargs]
    exact trodAll_below hl hb (rowTypes_out hr) hA (fun x hx => hlt x (by simp [hx]))
  · rw [hvars, hs]
    rfl

section
variable {H : Type} {enc : TypeId × Value → H} {P : Program} {w : World} {base : Nat} {spare : Nat → Bool} {held : Bool}

theorem open_two {r : Reach} {b0 : Nat} {t e : TypeId} {k : IntKind} {v : Value} {d : DataW H} {ps : List MemPlace} (ht : P.underlying t = some (.array 2 e)) (he : P.underlying e = some (.int k)) (hce : P.cellsOf e = 1) (hct : P.cellsOf t = 2)
    (hval : Value.okWide P w r b0 t v) (h : DataW.Trod enc P w base spare held t v d ps) : ∃ x y, v = .agg #[.int k x, .int k y] ∧ (Lit.int k x).wf = true ∧ (Lit.int k y).wf = true := by
  obtain ⟨cs, rfl, hsz, _⟩ : ∃ cs, v = .agg cs ∧ cs.size = P.cellsOf t ∧ Row.okWide P w r b0 t cs := by
    simpa [Value.okWide, ht] using hval
  rw [hct] at hsz
  obtain ⟨l⟩ := cs
  match l, hsz with
  | [c0, c1], _ =>
    obtain ⟨fuel, hf⟩ := h
    obtain ⟨xs, m, _, _, _, hxl, hx⟩ := DataW.trod_array ht hf
    have h0 := hx 0 (by omega)
    have h1 := hx 1 (by omega)
    rw [hce, List.getElem?_eq_getElem (by omega)] at h0 h1
    obtain ⟨x, e0, _, w0⟩ := DataW.trod_int he h0
    obtain ⟨y, e1, _, w1⟩ := DataW.trod_int he h1
    simp [Value.cells] at e0 e1
    subst e0 e1
    exact ⟨x, y, rfl, w0, w1⟩

theorem open_fields {r : Reach} {b0 : Nat} {t : TypeId} {fs : Array Field} {v : Value} {d : DataW H} {ps : List MemPlace} (hs : P.underlying t = some (.struct fs))
    (hone : ∀ (i : Nat) (f : Field), fs[i]? = some f → f.offset = i ∧ P.cellsOf f.type = 1) (hC : P.cellsOf t = fs.size)
    (hval : Value.okWide P w r b0 t v) (h : DataW.Trod enc P w base spare held t v d ps) :
    ∃ (V : Nat → Value) (Y : Nat → DataW H × List MemPlace) (n : Nat), v = .agg ((List.range fs.size).map V).toArray ∧ ∀ (i : Nat) (f : Field), fs[i]? = some f → DataW.trod enc P w base spare held n f.type [V i] = some (Y i) := by
  obtain ⟨cs, rfl, hsz⟩ := okWide_struct hs hval
  rw [hC] at hsz
  obtain ⟨fuel, hf⟩ := h
  obtain ⟨xs, n, _, _, _, hxl, hx⟩ := DataW.trod_struct hs hf
  have hcs : (Value.agg cs).cells.toList = cs.toList := by simp [Value.cells]
  rw [hcs] at hx
  refine ⟨fun i => cs.toList.getD i undef, fun i => xs.getD i (.nil, []), n, ?_, fun i f hi => ?_⟩
  · congr 1
    apply Array.ext'
    have := Deep.map_by_index cs.toList undef id
    simpa [hsz] using this
  · have hlt : i < fs.size := (Array.getElem?_eq_some_iff.1 hi).1
    obtain ⟨ho, hc1⟩ := hone i f hi
    have g := hx i f hi
    rw [ho, hc1] at g
    rw [Deep.take1_drop cs.toList i undef (by simp; omega), List.getElem?_eq_getElem (by omega)] at g
    rw [g]
    simp [List.getD, List.getElem?_eq_getElem (show i < xs.length by omega)]

/-- A slice of structs of two numbers: its cells. -/
theorem open_pairs {t e : TypeId} {f0 f1 : Field} {k : IntKind} {fuel : Nat} {v : Value} {x : DataW H × List MemPlace} (ht : P.underlying t = some (.slice e)) (he : P.underlying e = some (.struct #[f0, f1]))
    (ce : P.cellsOf e = 2) (o0 : f0.offset = 0) (o1 : f1.offset = 1) (c0 : P.cellsOf f0.type = 1) (c1 : P.cellsOf f1.type = 1) (u0 : P.underlying f0.type = some (.int k)) (u1 : P.underlying f1.type = some (.int k))
    (h : DataW.trod enc P w base spare held fuel t [v] = some x) :
    ∃ (p : Option Addr) (c : Nat) (zs : List (Int × Int)), v = .slice p zs.length c ∧ (zs = [] ∨ ∃ b o, p = some ⟨b, o, none⟩ ∧ ∀ i, i < zs.length →
      w.cell? ⟨b, o + i * 2, none⟩ = some (.int k (zs.getD i (0, 0)).1) ∧ w.cell? ⟨b, o + i * 2 + 1, none⟩ = some (.int k (zs.getD i (0, 0)).2)) := by
  rcases Deep.open_slice_pairs ht he ce o0 o1 c0 c1 h with ⟨h0, _⟩ | ⟨a, len, cap, m, n, V0, V1, D0, D1, P0, P1, h0, _, hlc, _, hm, _, hx⟩
  · simp only [List.cons.injEq, and_true] at h0
    exact ⟨none, 0, [], h0, .inl rfl⟩
  · simp only [List.cons.injEq, and_true] at h0
    have hlm : len ≤ m := by rw [hm]; split <;> omega
    refine ⟨some a, cap, (List.range len).map fun i => (intOf (V0 i), intOf (V1 i)), by simpa using h0, ?_⟩
    by_cases hl : len = 0
    · left; simp [hl]
    · right
      obtain ⟨b, o, spot⟩ := a
      have hs := (hx 0 (by omega)).1
      have hspot : spot = none := by simpa [Addr.add] using World.cell?_spot hs
      subst hspot
      refine ⟨b, o, rfl, fun i hi => ?_⟩
      simp only [List.length_map, List.length_range] at hi
      obtain ⟨g0, g1, g2, g3⟩ := hx i (by omega)
      obtain ⟨x, e0, _, _⟩ := DataW.trod_int u0 g2
      obtain ⟨y, e1, _, _⟩ := DataW.trod_int u1 g3
      simp only [List.cons.injEq, and_true] at e0 e1
      rw [add_plain] at g0 g1
      rw [e0] at g0
      rw [e1] at g1
      have ez : ((List.range len).map fun i => (intOf (V0 i), intOf (V1 i))).getD i (0, 0) = (x, y) := by
        simp [List.getD, hi, e0, e1, intOf]
      rw [ez]
      exact ⟨g0, g1⟩
end
end Go.Proofs.YtlbpeeelgpjciaaGreat.Row

namespace Go.Proofs.YtlbpeeelgpjciaaGreat.Row
open Go.ChangeShapes Go.WideShapes Go.RowKit

theorem num_wf {a : Int} (h : (Lit.int .i64 a).wf = true) : -9223372036854775808 ≤ a ∧ a ≤ 9223372036854775807 := by simp [Lit.wf, IntKind.min, IntKind.max, IntKind.signed, IntKind.bits] at h; omega
theorem u8_wf {a : Int} (h : (Lit.int .u8 a).wf = true) : 0 ≤ a ∧ a ≤ 255 := by simp [Lit.wf, IntKind.min, IntKind.max, IntKind.signed, IntKind.bits] at h; omega

section
variable {H : Type} {enc : TypeId × Value → H} {P : Program} {w : World} {base : Nat} {spare : Nat → Bool} {held : Bool}
/-- A field of a struct, with its own cells. -/
theorem field_of {t : TypeId} {fs : Array Field} {fuel : Nat} {cs : List Value} {x : DataW H × List MemPlace} (ht : P.underlying t = some (.struct fs)) (h : DataW.trod enc P w base spare held fuel t cs = some x) :
    cs.length = P.cellsOf t ∧ ∃ n, ∀ (i : Nat) (f : Field) (L : List Value), fs[i]? = some f → (cs.drop f.offset).take (P.cellsOf f.type) = L → ∃ y, DataW.trod enc P w base spare held n f.type L = some y := by
  obtain ⟨xs, n, _, _, hcl, hlen, hf⟩ := DataW.trod_struct ht h
  refine ⟨hcl, n, fun i f L hi hL => ?_⟩
  have h1 := hf i f hi
  rw [hL] at h1
  have hlt : i < xs.length := by rw [hlen]; exact (Array.getElem?_eq_some_iff.1 hi).1
  exact ⟨_, h1.trans (List.getElem?_eq_getElem hlt)⟩
/-- One thing for each number: all of them, in a list. -/
theorem list_of {α : Type} (z : α) {Q : Nat → α → Prop} : ∀ (n : Nat), (∀ i, i < n → ∃ r, Q i r) → ∃ l : List α, l.length = n ∧ ∀ i, i < n → Q i (l.getD i z)
  | 0, _ => ⟨[], rfl, fun i hi => absurd hi (Nat.not_lt_zero i)⟩
  | n + 1, h => by
    obtain ⟨l, hl, hq⟩ := list_of z n fun i hi => h i (by omega)
    obtain ⟨r, hr⟩ := h n (by omega)
    refine ⟨l ++ [r], by simp [hl], fun i hi => ?_⟩
    by_cases e : i < n
    · have : (l ++ [r]).getD i z = l.getD i z := by simp [List.getD, List.getElem?_append_left (show i < l.length by omega)]
      rw [this]
      exact hq i e
    · obtain rfl : i = n := by omega
      have : (l ++ [r]).getD i z = r := by simp [List.getD, ← hl]
      rw [this]
      exact hr
/-- A slice of structs of n cells, each of which is V of a thing that is Q. -/
theorem open_rows {α : Type} (z : α) (Q : α → Prop) (V : α → Nat → Value) {r : Reach} {b0 n : Nat} {t e : TypeId} {v : Value} {d : DataW H} {ps : List MemPlace} (ht : P.underlying t = some (.slice e)) (hn : P.cellsOf e = n) (h1 : 0 < n)
    (one : ∀ fuel cs x, cs.length = n → DataW.trod enc P w base spare held fuel e cs = some x → ∃ a : α, Q a ∧ ∀ k, k < n → cs[k]? = some (V a k))
    (hval : Value.okWide P w r b0 t v) (h : DataW.Trod enc P w base spare held t v d ps) :
    ∃ (p : Option Addr) (c : Nat) (l : List α), v = .slice p l.length c ∧ (l.length : Int) ≤ 9223372036854775807 ∧ (l = [] ∨ ∃ g o, p = some ⟨g, o, none⟩ ∧ ∀ j, j < l.length → ∀ k, k < n → w.cell? ⟨g, o + j * n + k, none⟩ = some (V (l.getD j z) k)) ∧ ∀ a ∈ l, Q a := by
  obtain ⟨a0, len, cap, rfl⟩ := okWide_slice ht hval
  obtain ⟨fuel, hf⟩ := h
  rcases Deep.open_slice ht hf with ⟨h0, _⟩ | ⟨a, len0, cap0, m, fu, D, Pl, h0, _, hlc, hcm, hm, _, hx⟩
  · simp [Value.cells] at h0
    obtain ⟨rfl, rfl, rfl⟩ := h0
    exact ⟨none, 0, [], rfl, by simp, .inl rfl, fun r hr => by cases hr⟩
  · simp [Value.cells] at h0
    obtain ⟨rfl, rfl, rfl⟩ := h0
    rw [hn] at hx
    have hlm : len ≤ m := by rw [hm]; split <;> omega
    have key : ∀ i, i < len → ∃ c : α, Q c ∧ ∀ k, k < n → w.cell? (a.add (i * n + k)) = some (V c k) := by
      intro i hi
      obtain ⟨cs, hcs, ht'⟩ := hx i (by omega)
      obtain ⟨_, hcl, hat⟩ := World.cells?_some hcs
      obtain ⟨c, hc, hk⟩ := one _ cs _ hcl ht'
      refine ⟨c, hc, fun k hkn => ?_⟩
      have q := hat k hkn
      rw [Deep.add_add, hk k hkn] at q
      exact q
    by_cases hl : len = 0
    · subst hl
      exact ⟨some a, cap, [], rfl, by simp, .inl rfl, fun r hr => by cases hr⟩
    · obtain ⟨b, o, sp⟩ := a
      obtain ⟨r0, _, hs⟩ := key 0 (by omega)
      have hsp : sp = none := by simpa [Addr.add] using World.cell?_spot (hs 0 h1)
      subst hsp
      obtain ⟨l, hll, hq⟩ := list_of z len key
      refine ⟨some ⟨b, o, none⟩, cap, l, by rw [hll], (by rw [hll]; unfold maxLen at hcm; omega), .inr ⟨b, o, rfl, fun j hj k hk => ?_⟩, fun r hr => ?_⟩
      · have q := (hq j (by omega)).2 k hk
        rw [add_plain] at q
        rw [Nat.add_assoc]
        exact q
      · obtain ⟨j, hj, e⟩ := List.mem_iff_getElem.1 hr
        have := (hq j (by omega)).1
        have e2 : l.getD j z = r := by simp [List.getD, hj, e]
        rw [e2] at this
        exact this
/-- A struct of ints alone: its numbers, in the order of its fields (each field one cell). -/
theorem int_of {t : TypeId} (hi : P.underlying t = some (.int .i64)) {fuel : Nat} {c : Value} {x : DataW H × List MemPlace} (h : DataW.trod enc P w base spare held fuel t [c] = some x) : ∃ a : Int, c = .int .i64 a ∧ -9223372036854775808 ≤ a ∧ a ≤ 9223372036854775807 := by
  obtain ⟨a, e, _, w0⟩ := DataW.trod_int hi h
  simp only [List.cons.injEq, and_true] at e
  exact ⟨a, e, num_wf w0⟩
end
end Go.Proofs.YtlbpeeelgpjciaaGreat.Row

namespace Go.Proofs.YtlbpeeelgpjciaaGreat.Edge
open Go.ChangeShapes Go.WideShapes Go.RowKit
open _root_.Go.Proofs.YtlbpeeelgpjciaaGreat.Lease (Lz Num)

section
variable {H : Type} {enc : TypeId × Value → H} {w : World} {base : Nat} {spare : Nat → Bool} {held : Bool}
theorem one_u8 : Tryz.prog.cellsOf 5 = 1 := by kernel_rfl
theorem one_int : Tryz.prog.cellsOf 3 = 1 := by kernel_rfl
theorem one_reason : Tryz.prog.cellsOf 41 = 1 := by kernel_rfl
theorem five_lease : Tryz.prog.cellsOf 40 = 5 := by kernel_rfl
theorem five_request : Tryz.prog.cellsOf 38 = 5 := by kernel_rfl
theorem thirteen_act : Tryz.prog.cellsOf 43 = 13 := by kernel_rfl

set_option maxRecDepth 100000 in
/-- Five cells that are a lease. -/
theorem lease_of {fuel : Nat} {c0 c1 c2 c3 c4 : Value} {x : DataW H × List MemPlace} (ht : DataW.trod enc Tryz.prog w base spare held fuel 40 [c0, c1, c2, c3, c4] = some x) :
    ∃ y : Lz, Lease.Nums y ∧ c0 = .int .i64 y.key ∧ c1 = .int .i64 y.gen ∧ c2 = .int .i64 y.amount ∧ c3 = .int .i64 y.spent ∧ c4 = .int .i64 y.til := by
  obtain ⟨_, k, hk⟩ := Row.field_of Tryz.underlying40 ht
  obtain ⟨y0, g0⟩ := hk 0 _ [c0] rfl (by simp [one_int])
  obtain ⟨y1, g1⟩ := hk 1 _ [c1] rfl (by simp [one_int])
  obtain ⟨y2, g2⟩ := hk 2 _ [c2] rfl (by simp [one_int])
  obtain ⟨y3, g3⟩ := hk 3 _ [c3] rfl (by simp [one_int])
  obtain ⟨y4, g4⟩ := hk 4 _ [c4] rfl (by simp [one_int])
  obtain ⟨x0, e0, w0⟩ := Row.int_of Tryz.underlying3 g0
  obtain ⟨x1, e1, w1⟩ := Row.int_of Tryz.underlying3 g1
  obtain ⟨x2, e2, w2⟩ := Row.int_of Tryz.underlying3 g2
  obtain ⟨x3, e3, w3⟩ := Row.int_of Tryz.underlying3 g3
  obtain ⟨x4, e4, w4⟩ := Row.int_of Tryz.underlying3 g4
  exact ⟨⟨x0, x1, x2, x3, x4⟩, ⟨w0, w1, w2, w3, w4⟩, e0, e1, e2, e3, e4⟩
set_option maxRecDepth 100000 in
/-- Five cells that are a request. -/
theorem request_of {fuel : Nat} {c0 c1 c2 c3 c4 : Value} {x : DataW H × List MemPlace} (ht : DataW.trod enc Tryz.prog w base spare held fuel 38 [c0, c1, c2, c3, c4] = some x) :
    ∃ y : Rq, RqNum y ∧ c0 = .int .i64 y.id ∧ c1 = .int .i64 y.key ∧ c2 = .int .i64 y.cost ∧ c3 = .int .i64 y.cls ∧ c4 = .int .i64 y.wait := by
  obtain ⟨_, k, hk⟩ := Row.field_of Tryz.underlying38 ht
  obtain ⟨y0, g0⟩ := hk 0 _ [c0] rfl (by simp [one_int])
  obtain ⟨y1, g1⟩ := hk 1 _ [c1] rfl (by simp [one_int])
  obtain ⟨y2, g2⟩ := hk 2 _ [c2] rfl (by simp [one_int])
  obtain ⟨y3, g3⟩ := hk 3 _ [c3] rfl (by simp [one_int])
  obtain ⟨y4, g4⟩ := hk 4 _ [c4] rfl (by simp [one_int])
  obtain ⟨x0, e0, w0⟩ := Row.int_of Tryz.underlying3 g0
  obtain ⟨x1, e1, w1⟩ := Row.int_of Tryz.underlying3 g1
  obtain ⟨x2, e2, w2⟩ := Row.int_of Tryz.underlying3 g2
  obtain ⟨x3, e3, w3⟩ := Row.int_of Tryz.underlying3 g3
  obtain ⟨x4, e4, w4⟩ := Row.int_of Tryz.underlying3 g4
  exact ⟨⟨x0, x1, x2, x3, x4⟩, ⟨w0, w1, w2, w3, w4⟩, e0, e1, e2, e3, e4⟩
/-- The thirteen cells of an act. -/
def cells13 (a : Ac) : Nat → Value
  | 0 => .int .u8 a.kind
  | 1 => .int .i64 a.r.id
  | 2 => .int .i64 a.r.key
  | 3 => .int .i64 a.r.cost
  | 4 => .int .i64 a.r.cls
  | 5 => .int .i64 a.r.wait
  | 6 => .int .i64 a.l.key
  | 7 => .int .i64 a.l.gen
  | 8 => .int .i64 a.l.amount
  | 9 => .int .i64 a.l.spent
  | 10 => .int .i64 a.l.til
  | 11 => .int .i64 a.why
  | _ => .int .i64 a.now
set_option maxRecDepth 100000 in
theorem act_of {fuel : Nat} {cs : List Value} {x : DataW H × List MemPlace} (hc : cs.length = 13) (ht : DataW.trod enc Tryz.prog w base spare held fuel 43 cs = some x) :
    ∃ a : Ac, AcNum a ∧ ∀ k, k < 13 → cs[k]? = some (cells13 a k) := by
  match cs, hc with
  | [c0, c1, c2, c3, c4, c5, c6, c7, c8, c9, c10, c11, c12], _ =>
    obtain ⟨_, k, hk⟩ := Row.field_of Tryz.underlying43 ht
    obtain ⟨y0, g0⟩ := hk 0 _ [c0] rfl (by simp [one_u8])
    obtain ⟨y1, g1⟩ := hk 1 _ [c1, c2, c3, c4, c5] rfl (by simp [five_request])
    obtain ⟨y2, g2⟩ := hk 2 _ [c6, c7, c8, c9, c10] rfl (by simp [five_lease])
    obtain ⟨y3, g3⟩ := hk 3 _ [c11] rfl (by simp [one_reason])
    obtain ⟨y4, g4⟩ := hk 4 _ [c12] rfl (by simp [one_int])
    obtain ⟨x0, e0, _, w0⟩ := DataW.trod_int Tryz.underlying5 g0
    obtain ⟨x3, e3, w3⟩ := Row.int_of Tryz.underlying41 g3
    obtain ⟨x4, e4, w4⟩ := Row.int_of Tryz.underlying3 g4
    obtain ⟨r, hr, rfl, rfl, rfl, rfl, rfl⟩ := request_of g1
    obtain ⟨s, hs, rfl, rfl, rfl, rfl, rfl⟩ := lease_of g2
    simp only [List.cons.injEq, and_true] at e0
    subst e0 e3 e4
    refine ⟨⟨x0, r, s, x3, x4⟩, ⟨Row.u8_wf w0, hr, hs, w3, w4⟩, fun k hk => ?_⟩
    match k, hk with
    | 0, _ | 1, _ | 2, _ | 3, _ | 4, _ | 5, _ | 6, _ | 7, _ | 8, _ | 9, _ | 10, _ | 11, _ | 12, _ => rfl
set_option maxRecDepth 100000 in
/-- A slice of acts that came in. -/
theorem open_acts {r : Reach} {b0 : Nat} {v : Value} {d : DataW H} {ps : List MemPlace} (hval : Value.okWide Tryz.prog w r b0 25 v) (h : DataW.Trod enc Tryz.prog w base spare held 25 v d ps) :
    ∃ (p : Option Addr) (c : Nat) (l : List Ac), v = .slice p l.length c ∧ (l.length : Int) ≤ 9223372036854775807 ∧ ActsAt w p l ∧ ∀ a ∈ l, AcNum a := by
  obtain ⟨p, c, l, e, hl, ha, hn⟩ := Row.open_rows za AcNum cells13 Tryz.underlying25 thirteen_act (by decide) (fun fuel cs x hc ht => act_of hc ht) hval h
  refine ⟨p, c, l, e, hl, ?_, hn⟩
  rcases ha with ha | ⟨g, o, e2, ha⟩
  · exact .inl ha
  · exact .inr ⟨g, o, e2, fun j hj => ⟨ha j hj 0 (by decide), ha j hj 1 (by decide), ha j hj 2 (by decide), ha j hj 3 (by decide), ha j hj 4 (by decide), ha j hj 5 (by decide), ha j hj 6 (by decide), ha j hj 7 (by decide), ha j hj 8 (by decide), ha j hj 9 (by decide), ha j hj 10 (by decide), ha j hj 11 (by decide), ha j hj 12 (by decide)⟩⟩
set_option maxRecDepth 100000 in
/-- A configuration that came in. -/
theorem open_conf {r : Reach} {b0 : Nat} {v : Value} {d : DataW H} {ps : List MemPlace} (hval : Value.okWide Tryz.prog w r b0 24 v) (h : DataW.Trod enc Tryz.prog w base spare held 24 v d ps) :
    ∃ (c : Cf) (p : Option Addr) (k : Nat), v = c.val p k ∧ RatesB w.heap.size w p c.zs ∧ CfNum c := by
  obtain ⟨V, Y, m, rfl, hf⟩ := Row.open_fields Tryz.underlying24 (Deep.hone_of (by kernel_rfl)) (by kernel_rfl) hval h
  have h0 := hf 0 _ rfl
  have h1 := hf 1 _ rfl
  have h2 := hf 2 _ rfl
  have h3 := hf 3 _ rfl
  have h4 := hf 4 _ rfl
  have h5 := hf 5 _ rfl
  have h6 := hf 6 _ rfl
  have h7 := hf 7 _ rfl
  have h8 := hf 8 _ rfl
  clear hf
  obtain ⟨x0, e0, w0⟩ := Row.int_of Tryz.underlying3 h0
  obtain ⟨x1, e1, w1⟩ := Row.int_of Tryz.underlying3 h1
  obtain ⟨x2, e2, w2⟩ := Row.int_of Tryz.underlying3 h2
  obtain ⟨x3, e3, w3⟩ := Row.int_of Tryz.underlying3 h3
  obtain ⟨x4, e4, w4⟩ := Row.int_of Tryz.underlying3 h4
  obtain ⟨x5, e5, w5⟩ := Row.int_of Tryz.underlying3 h5
  obtain ⟨x6, e6, w6⟩ := Row.int_of Tryz.underlying3 h6
  obtain ⟨x7, e7, w7⟩ := Row.int_of Tryz.underlying3 h7
  obtain ⟨p, k, zs, e8, hr⟩ := Row.open_pairs Tryz.underlying22 Tryz.underlying82 (by kernel_rfl) rfl rfl (by kernel_rfl) (by kernel_rfl) Tryz.underlying3 Tryz.underlying3 h8
  refine ⟨⟨x0, x1, x2, x3, x4, x5, x6, x7, zs⟩, p, k, ?_, ?_, w0, w1, w2, w3, w4, w5, w6, w7⟩
  · show Value.agg #[V 0, V 1, V 2, V 3, V 4, V 5, V 6, V 7, V 8] = _
    rw [e0, e1, e2, e3, e4, e5, e6, e7, e8]
    rfl
  · rcases hr with hr | ⟨b, o, e, hc⟩
    · exact .inl hr
    · by_cases hz : zs = []
      · exact .inl hz
      · exact .inr ⟨b, o, e, World.block_lt_of_cell? _ _ (hc 0 (List.length_pos_iff.2 hz)).1, hc⟩
end
end Go.Proofs.YtlbpeeelgpjciaaGreat.Edge

namespace Go.Proofs.YtlbpeeelgpjciaaGreat.Lease
open Go.RowKit
open _root_.Go.Proofs.YtlbpeeelgpjciaaGreat.Codec (lt_of_heap frozen_of heap_set below_new)

/-- What is laid behind the first j: done or not. -/
def laid (x : Lz) : List Lz → List Lz × Bool
  | l => l.foldl (fun s y => if s.2 = false ∧ x.key < y.key then (s.1 ++ [x] ++ [y], true) else (s.1 ++ [y], s.2)) ([], false)
theorem laid_snoc (x : Lz) (l : List Lz) (y : Lz) : laid x (l ++ [y]) = if (laid x l).2 = false ∧ x.key < y.key then ((laid x l).1 ++ [x] ++ [y], true) else ((laid x l).1 ++ [y], (laid x l).2) := by simp [laid]
theorem laid_len (x : Lz) (l : List Lz) : (laid x l).1.length ≤ l.length + 1 ∧ ((laid x l).2 = false → (laid x l).1 = l) := by
  have key : ∀ (l : List Lz) (s : List Lz × Bool), (l.foldl (fun s y => if s.2 = false ∧ x.key < y.key then (s.1 ++ [x] ++ [y], true) else (s.1 ++ [y], s.2)) s).1.length ≤ s.1.length + l.length + (if s.2 then 0 else 1) ∧ ((l.foldl (fun s y => if s.2 = false ∧ x.key < y.key then (s.1 ++ [x] ++ [y], true) else (s.1 ++ [y], s.2)) s).2 = false → (l.foldl (fun s y => if s.2 = false ∧ x.key < y.key then (s.1 ++ [x] ++ [y], true) else (s.1 ++ [y], s.2)) s).1 = s.1 ++ l) := by
    intro l
    induction l with
    | nil => intro s; simp
    | cons y l ih =>
      intro s
      rw [List.foldl_cons]
      obtain ⟨a, d⟩ := s
      cases d
      · by_cases hk : x.key < y.key
        · have := ih (a ++ [x] ++ [y], true)
          simp only [hk, and_self, if_true, List.length_append, List.length_cons, List.length_nil] at this ⊢
          refine ⟨by simp at this ⊢; omega, fun e => ?_⟩
          have h2 : ∀ (l : List Lz) (s : List Lz), (l.foldl (fun s y => if s.2 = false ∧ x.key < y.key then (s.1 ++ [x] ++ [y], true) else (s.1 ++ [y], s.2)) (s, true)).2 = true := by
            intro l
            induction l with
            | nil => intro s; rfl
            | cons z l ih => intro s; rw [List.foldl_cons]; simpa using ih (s ++ [z])
          rw [h2] at e
          cases e
        · have := ih (a ++ [y], false)
          simp only [hk, and_false, if_false, List.length_append, List.length_cons, List.length_nil] at this ⊢
          exact ⟨by simp at this ⊢; omega, fun e => by rw [this.2 e]; simp⟩
      · have := ih (a ++ [y], true)
        simp only [Bool.true_eq_false, false_and, if_false, List.length_append, List.length_cons, List.length_nil] at this ⊢
        exact ⟨by simp at this ⊢; omega, fun e => by rw [this.2 e]; simp⟩
  have := key l ([], false)
  simpa [laid] using this
theorem laid_all (x : Lz) (l : List Lz) : (if (laid x l).2 = true then (laid x l).1 else (laid x l).1 ++ [x]) = ins x l := by
  have yes : ∀ (l s : List Lz), l.foldl (fun s y => if s.2 = false ∧ x.key < y.key then (s.1 ++ [x] ++ [y], true) else (s.1 ++ [y], s.2)) (s, true) = (s ++ l, true) := by
    intro l
    induction l with
    | nil => intro s; simp
    | cons z l ih => intro s; rw [List.foldl_cons]; simp only [Bool.true_eq_false, false_and, if_false]; rw [ih]; simp
  have no : ∀ (l s : List Lz), (if (l.foldl (fun s y => if s.2 = false ∧ x.key < y.key then (s.1 ++ [x] ++ [y], true) else (s.1 ++ [y], s.2)) (s, false)).2 = true then (l.foldl (fun s y => if s.2 = false ∧ x.key < y.key then (s.1 ++ [x] ++ [y], true) else (s.1 ++ [y], s.2)) (s, false)).1 else (l.foldl (fun s y => if s.2 = false ∧ x.key < y.key then (s.1 ++ [x] ++ [y], true) else (s.1 ++ [y], s.2)) (s, false)).1 ++ [x]) = s ++ ins x l := by
    intro l
    induction l with
    | nil => intro s; simp [ins]
    | cons z l ih =>
      intro s
      rw [List.foldl_cons]
      by_cases hk : x.key < z.key
      · simp only [hk, and_self, if_true]
        rw [yes]
        simp [ins, hk]
      · simp only [hk, and_false, if_false]
        rw [ih]
        simp [ins, hk]
  have := no l []
  simpa [laid] using this
set_option maxRecDepth 100000 in
set_option maxHeartbeats 4000000 in
theorem rput_no {B v : Nat} {l : List Lz} {w : World} (h : Wl B w v l) (hB : B ≤ w.heap.size) (x : Lz) (hx : wrong x) :
    Calls Tryz.prog 70 #[.pointer (some ⟨v, 0, none⟩), val x] w fun e w' => e = .returned (.int .i64 1) ∧ Step B w v l w' := by
  have HS := Lib.hid (fun u (hu : Below w.heap.size w u) => Step.same h hB hu)
  obtain ⟨b0, b1, b2, b3, b4⟩ := box5 (heap_alloc_new w (.cells #[.int .i64 x.key, .int .i64 x.gen, .int .i64 x.amount, .int .i64 x.spent, .int .i64 x.til] 93))
  have HB := Lib.hid ((Below.refl w.heap.size w).alloc (Nat.le_refl _) (.cells #[.int .i64 x.key, .int .i64 x.gen, .int .i64 x.amount, .int .i64 x.spent, .int .i64 x.til] 93))
  obtain ⟨xk, xg, xa, xs, xt⟩ := x
  unfold wrong at hx
  simp only at hx b0 b1 b2 b3 b4 HB
  have hc : xg < 1 ∨ ¬ xg < 1 ∧ (xa < 1 ∨ ¬ xa < 1 ∧ ((xs != 0) = true ∨ (xs != 0) = false ∧ xt < 0)) := by
    by_cases h1 : xg < 1
    · exact .inl h1
    · by_cases h2 : xa < 1
      · exact .inr ⟨h1, .inl h2⟩
      · by_cases h3 : xs = 0
        · exact .inr ⟨h1, .inr ⟨h2, .inr ⟨by simp [h3], by omega⟩⟩⟩
        · exact .inr ⟨h1, .inr ⟨h2, .inl (by simp [h3])⟩⟩
  clear h hx
  simp only [val]
  rcases hc with h1 | ⟨h1, h2 | ⟨h2, h3 | ⟨h3, h4⟩⟩⟩
  all_goals
    go_enter Tryz.func70, Tryz.ntmps70
    go_wp2
    go_ret
    exact ⟨rfl, HS.out _ HB.out⟩

set_option maxRecDepth 100000 in
set_option maxHeartbeats 4000000 in
theorem rput_twice {B v : Nat} {l : List Lz} {w : World} (h : Wl B w v l) (hB : B ≤ w.heap.size) (hl : l.length ≤ 1000) (x : Lz) (hx : ¬ wrong x) (hp : 0 ≤ place l x.key) :
    Calls Tryz.prog 70 #[.pointer (some ⟨v, 0, none⟩), val x] w fun e w' => e = .returned (.int .i64 5) ∧ Step B w v l w' := by
  have HS := Lib.hid (fun u (hu : Below w.heap.size w u) => Step.same h hB hu)
  obtain ⟨b0, b1, b2, b3, b4⟩ := box5 (heap_alloc_new w (.cells #[.int .i64 x.key, .int .i64 x.gen, .int .i64 x.amount, .int .i64 x.spent, .int .i64 x.til] 93))
  have HB := Lib.hid ((Below.refl w.heap.size w).alloc (Nat.le_refl _) (.cells #[.int .i64 x.key, .int .i64 x.gen, .int .i64 x.amount, .int .i64 x.spent, .int .i64 x.til] 93))
  have HA := rat_any (h.below HB.out) hl x.key
  generalize place l x.key = P at *
  obtain ⟨xk, xg, xa, xs, xt⟩ := x
  unfold wrong at hx
  simp only at hx b0 b1 b2 b3 b4 HB HA
  have h1 : ¬ xg < 1 := by omega
  have h2 : ¬ xa < 1 := by omega
  have h3 : (xs != 0) = false := by simp; omega
  have h4 : ¬ xt < 0 := by omega
  clear h hx
  simp only [val]
  go_enter Tryz.func70, Tryz.ntmps70
  go_wp2_with (go_at_call 124; (with_reducible refine HA.mono ?_); rintro e w1 ⟨rfl, hb⟩; have HB1 := Lib.hid (HB.out.trans (hb.mono HB.out.size)); clear hb HA)
  go_ret
  exact ⟨rfl, HS.out _ HB1.out⟩

set_option maxRecDepth 100000 in
set_option maxHeartbeats 4000000 in
theorem rput_ok {B v : Nat} {l : List Lz} {w : World} (h : Wl B w v l) (hB : B ≤ w.heap.size) (hl : l.length ≤ 1000) (x : Lz) (hx : ¬ wrong x) (hp : ¬ 0 ≤ place l x.key) :
    Calls Tryz.prog 70 #[.pointer (some ⟨v, 0, none⟩), val x] w fun e w' => e = .returned (.int .i64 0) ∧ Step B w v (ins x l) w' := by
  have HV := Lib.hid h
  have HBB := Lib.hid hB
  have K := heap_alloc_new w (.cells #[.int .i64 x.key, .int .i64 x.gen, .int .i64 x.amount, .int .i64 x.spent, .int .i64 x.til] 93)
  have HB := Lib.hid ((Below.refl w.heap.size w).alloc (Nat.le_refl _) (.cells #[.int .i64 x.key, .int .i64 x.gen, .int .i64 x.amount, .int .i64 x.spent, .int .i64 x.til] 93))
  have HA := rat_any (h.below HB.out) hl x.key
  have HI := Lib.hid (laid_all x l)
  have HLS := Lib.hid (laid_snoc x)
  have HLL := Lib.hid (laid_len x)
  generalize place l x.key = P at *
  generalize ins x l = R at *
  have HL0 := Lib.hid (show laid x [] = ([], false) from rfl)
  generalize laid x = LD at *
  obtain ⟨xk, xg, xa, xs, xt⟩ := x
  unfold wrong at hx
  simp only at hx K HB HA HLS
  obtain ⟨b0, b1, b2, b3, b4⟩ := box5 K
  have h1 : ¬ xg < 1 := by omega
  have h2 : ¬ xa < 1 := by omega
  have h3 : (xs != 0) = false := by simp; omega
  have h4 : ¬ xt < 0 := by omega
  have HK := Lib.hid K
  clear h hx hB K
  simp only [val]
  go_enter Tryz.func70, Tryz.ntmps70
  go_wp2_with (go_at_call 124; (with_reducible refine HA.mono ?_); rintro e w1 ⟨rfl, hb⟩; have HB1 := Lib.hid (HB.out.trans (hb.mono HB.out.size)); have HK1 := Lib.hid ((hb.block _ (lt_of_heap HK.out)).trans HK.out); clear hb HA HK b0 b1 b2 b3 b4)
  clear HB
  go_loopw [5, 6, 7] (fun y d k wr => ∃ (j : Nat) (p : Option Addr) (c n : Nat), j ≤ l.length ∧ k = .int .i64 (j : Int) ∧ y = .slice p n c ∧ d = .bool (LD (l.take j)).2 ∧ Hid (Own 93 w1.heap.size wr y (LD (l.take j)).1) ∧ Hid ((LD (l.take j)).1.length = n) ∧ Below w1.heap.size w1 wr) (fun _ _ k _ => l.length - (intOf k).toNat)
  case atStart => exact ⟨0, none, 0, 0, by omega, rfl, rfl, by rw [List.take_zero, HL0.out], by rw [List.take_zero, HL0.out]; exact Lib.hid (Own.none _ _ _), by rw [List.take_zero, HL0.out]; exact Lib.hid rfl, Below.refl _ _⟩
  case round =>
    obtain ⟨j, p, c, n, hj, rfl, rfl, rfl, hown, hn, hbw⟩ := hrel
    obtain ⟨q, cq, c1', hr⟩ := (HV.out.below HB1.out).cell
    have HR := Lib.hid hr
    have c1 := cell_on c1' hbw
    have HBW := Lib.hid hbw
    have HBX := Lib.hid (fun u (hu : Below w1.heap.size w1 u) => box5 ((hu.block _ (lt_of_heap HK1.out)).trans HK1.out))
    obtain ⟨b0, b1, b2, b3, b4⟩ := HBX.out _ hbw
    have hn2 : n ≤ 1001 := by
      have := (HLL.out (l.take j)).1
      rw [hn.out] at this
      have h5 : (l.take j).length ≤ l.length := by simp; omega
      omega
    have HC1 := Lib.hid c1'
    clear hr c1'
    by_cases hlt : j < l.length
    · obtain ⟨b, o, rfl, hat⟩ := lies_at HR.out hlt
      obtain ⟨k0, k1, k2, k3, k4⟩ := hat.below hbw
      have HAT := Lib.hid hat
      clear hat hbw
      have hlt' : (j : Int) < (l.length : Int) := by omega
      have hls := HLS.out (l.take j) (l.getD j z)
      rw [← take_snoc hlt] at hls
      generalize hx : l.getD j z = y at k0 k1 k2 k3 k4 hls HAT
      generalize hS : LD (l.take j) = S at *
      generalize hS' : LD (l.take (j + 1)) = S' at *
      have HS' := Lib.hid hS'
      obtain ⟨L, D⟩ := S
      obtain ⟨yk, yg, ya, ys, yt⟩ := y
      simp only at k0 k1 k2 k3 k4 hls hown hn
      clear hx hS hS'
      have HX : Hid (∀ u, Below w1.heap.size w1 u → (u.cell? ⟨b, o + j * 5, none⟩ = some (.int .i64 yk) ∧ u.cell? ⟨b, o + j * 5 + 1, none⟩ = some (.int .i64 yg) ∧ u.cell? ⟨b, o + j * 5 + 2, none⟩ = some (.int .i64 ya) ∧ u.cell? ⟨b, o + j * 5 + 3, none⟩ = some (.int .i64 ys) ∧ u.cell? ⟨b, o + j * 5 + 4, none⟩ = some (.int .i64 yt)) ∧ u.cell? ⟨v, 0, none⟩ = some (.slice (some ⟨b, o, none⟩) l.length cq)) := fun u hu => ⟨HAT.out.below hu, cell_on HC1.out hu⟩
      clear HAT HC1
      clear HR
      cases D with
      | true =>
        simp only [Bool.true_eq_false, false_and, if_false] at hls
        have HE := Lib.hid hls
        clear hls
        go_wp2
        go_quiet (fail)
        go_wp2_with (at_builtin; refine push_lease rfl (.tmp 59) (.tmp 67) rfl w1 wr (.slice p n c) rfl L n hn.out hown.out HBW.out (below_drewN wr _) wr.heap.size ⟨yk, yg, ya, ys, yt⟩ rfl (heap_alloc_new _ _) (by omega) ?_; intro p4 c4 w4 R4 B4)
        go_roundw
        case rel => exact ⟨j + 1, p4, c4, n + 1, by omega, by go_num, rfl, by rw [HS'.out, HE.out], by rw [HS'.out, HE.out]; exact R4, by rw [HS'.out, HE.out]; exact Lib.hid (by simp [hn.out]), B4⟩
        case measure => simp [intOf]; omega
      | false =>
        by_cases hk : xk < yk
        · simp only [hk, and_self, if_true] at hls
          have HE := Lib.hid hls
          clear hls
          go_wp2
          go_quiet (fail)
          have HN2 := Lib.hid (show (L ++ [(⟨xk, xg, xa, xs, xt⟩ : Lz)]).length = n + 1 by simp [hn.out])
          go_wp2_with (at_builtin; first
            | (refine push_lease rfl (.tmp 55) (.tmp 57) rfl w1 wr (.slice p n c) rfl L n hn.out hown.out HBW.out (below_drewN wr _) wr.heap.size ⟨xk, xg, xa, xs, xt⟩ rfl (heap_alloc_new _ _) (by omega) ?_; intro p3 c3 w3 R3 B3; clear k0 k1 k2 k3 k4 c1 b0 b1 b2 b3 b4; obtain ⟨⟨k0, k1, k2, k3, k4⟩, c1⟩ := HX.out _ B3; have HB3 := Lib.hid B3; clear B3)
            | (refine push_lease rfl (.tmp 59) (.tmp 67) rfl w1 w3 (.slice p3 (n + 1) c3) rfl (L ++ [⟨xk, xg, xa, xs, xt⟩]) (n + 1) HN2.out R3.out HB3.out (Below.refl _ _) w3.heap.size ⟨yk, yg, ya, ys, yt⟩ rfl (heap_alloc_new _ _) (by omega) ?_; intro p4 c4 w4 R4 B4))
          go_roundw
          case rel => exact ⟨j + 1, p4, c4, n + 2, by omega, by go_num, rfl, by rw [HS'.out, HE.out], by rw [HS'.out, HE.out]; exact R4, by rw [HS'.out, HE.out]; exact Lib.hid (by simp [hn.out]), B4⟩
          case measure => simp [intOf]; omega
        · simp only [hk, and_false, if_false] at hls
          have HE := Lib.hid hls
          clear hls
          go_wp2
          go_quiet (fail)
          go_wp2_with (at_builtin; refine push_lease rfl (.tmp 59) (.tmp 67) rfl w1 wr (.slice p n c) rfl L n hn.out hown.out HBW.out (below_drewN wr _) wr.heap.size ⟨yk, yg, ya, ys, yt⟩ rfl (heap_alloc_new _ _) (by omega) ?_; intro p4 c4 w4 R4 B4)
          go_roundw
          case rel => exact ⟨j + 1, p4, c4, n + 1, by omega, by go_num, rfl, by rw [HS'.out, HE.out], by rw [HS'.out, HE.out]; exact R4, by rw [HS'.out, HE.out]; exact Lib.hid (by simp [hn.out]), B4⟩
          case measure => simp [intOf]; omega
    · have hj' : l.take j = l := List.take_of_length_le (by omega)
      have hlt' : ¬ (j : Int) < (l.length : Int) := by omega
      rw [hj'] at hown hn ⊢
      have hi := HI.out
      generalize LD l = S at *
      obtain ⟨L, D⟩ := S
      simp only at hown hn hi ⊢
      have HSI := Lib.hid hi
      have HSZ := Lib.hid HB1.out.size
      have HST : Hid (∀ (u : World) (y : Value), Below w1.heap.size w1 u → Own 93 w1.heap.size u y R → u.frozen? ⟨v, 0, none⟩ = false ∧ (∃ z, u.cell? ⟨v, 0, none⟩ = some z) ∧ Hid (Step B w v R (u.setCell ⟨v, 0, none⟩ y))) := fun u y hu ho => HV.out.store HBB.out (HB1.out.trans (hu.mono HB1.out.size)) (Codec.own_lower ho HB1.out.size)
      clear HR HI hi
      cases D with
      | true =>
        have e : L = R := by have := HSI.out; simpa using this
        subst e
        obtain ⟨f0, ⟨u0, d0⟩, G⟩ := HST.out _ _ hbw hown.out
        clear HSI HST hown hbw HBX HC1
        go_wp2
        go_ret
        exact ⟨rfl, G.out⟩
      | false =>
        have e : L ++ [⟨xk, xg, xa, xs, xt⟩] = R := by have := HSI.out; simpa using this
        clear HSI hbw
        go_wp2_with (at_builtin; refine push_lease rfl (.tmp 71) (.tmp 73) rfl w1 wr (.slice p n c) rfl L n hn.out hown.out HBW.out (Below.refl _ _) wr.heap.size ⟨xk, xg, xa, xs, xt⟩ rfl (heap_alloc_new _ _) (by omega) ?_; intro p3 c3 w3 R3 B3; obtain ⟨f0, ⟨u0, d0⟩, G⟩ := HST.out _ _ B3 (by rw [← e]; exact R3.out); clear B3 R3 HST c1)
        go_ret
        exact ⟨rfl, G.out⟩

/-- Put, of any lease. -/
theorem rput_any {B v : Nat} {l : List Lz} {w : World} (h : Wl B w v l) (hB : B ≤ w.heap.size) (hl : l.length ≤ 1000) (x : Lz) :
    Calls Tryz.prog 70 #[.pointer (some ⟨v, 0, none⟩), val x] w fun e w' => e = .returned (.int .i64 (put l x).2) ∧ Step B w v (put l x).1 w' := by
  unfold put
  split
  · rename_i hx
    exact rput_no h hB x hx
  · rename_i hx
    split
    · rename_i hp
      exact rput_twice h hB hl x hx hp
    · rename_i hp
      exact rput_ok h hB hl x hx hp
end Go.Proofs.YtlbpeeelgpjciaaGreat.Lease
