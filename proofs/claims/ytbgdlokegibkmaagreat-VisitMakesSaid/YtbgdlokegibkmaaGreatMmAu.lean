/-
  How arguments that are configurations, tokens, and slices of annonalaw18's acts are opened.
-/
import Derived.Test.YtbgdlokegibkmaaGreatMmAt
import Derived.Test.YtbgdlokegibkmaaGreatMmAq
namespace Go.Proofs.YtbgdlokegibkmaaGreat.Visit
open Go.ChangeShapes Go.WideShapes Go.RowKit Codec
open _root_.Go.Proofs.YtbgdlokegibkmaaGreat.Frame (LeasesAt Rw Tb Tk noRow one_int)
open _root_.Go.Proofs.YtbgdlokegibkmaaGreat.Ledger (RowAt RowsAt)
open _root_.Go.Proofs.YtbgdlokegibkmaaGreat.Lease (Num)
section
variable {H : Type} {enc : TypeId × Value → H} {w : World} {base : Nat} {spare : Nat → Bool} {held : Bool}
theorem five_request : Tryz.prog.cellsOf 42 = 5 := by kernel_rfl
theorem one_bool : Tryz.prog.cellsOf 4 = 1 := by kernel_rfl
theorem eight_act : Tryz.prog.cellsOf 44 = 8 := by kernel_rfl
set_option maxRecDepth 100000 in
/-- Five cells that are a request. -/
theorem request_of {fuel : Nat} {c0 c1 c2 c3 c4 : Value} {x : DataW H × List MemPlace} (ht : DataW.trod enc Tryz.prog w base spare held fuel 42 [c0, c1, c2, c3, c4] = some x) :
    ∃ y : Edge.Rq, Edge.RqNum y ∧ c0 = .int .i64 y.id ∧ c1 = .int .i64 y.key ∧ c2 = .int .i64 y.cost ∧ c3 = .int .i64 y.cls ∧ c4 = .int .i64 y.wait := by
  obtain ⟨_, k, hk⟩ := Row.field_of Tryz.underlying42 ht
  obtain ⟨y0, g0⟩ := hk 0 _ [c0] rfl (by simp [one_int])
  obtain ⟨y1, g1⟩ := hk 1 _ [c1] rfl (by simp [one_int])
  obtain ⟨y2, g2⟩ := hk 2 _ [c2] rfl (by simp [one_int])
  obtain ⟨y3, g3⟩ := hk 3 _ [c3] rfl (by simp [one_int])
  obtain ⟨y4, g4⟩ := hk 4 _ [c4] rfl (by simp [one_int])
  obtain ⟨x0, e0, w0⟩ := Row.int_of Tryz.underlying3 g0
  obtain ⟨x1, e1, w1⟩ := Row.int_of Tryz.underlying3 g1
  obtain ⟨x2, e2, w2⟩ := Row.int_of Tryz.underlying3 g2
  obtain ⟨x3, e3, w3⟩ := Row.int_of Tryz.underlying3 g3
  obtain ⟨x4, e4, w4⟩ := Row.int_of Tryz.underlying3 g4
  exact ⟨⟨x0, x1, x2, x3, x4⟩, ⟨w0, w1, w2, w3, w4⟩, e0, e1, e2, e3, e4⟩
/-- The eight cells of an act. -/
def cells8 (a : Av) : Nat → Value
  | 0 => .bool a.visit
  | 1 => .bool a.crash
  | 2 => .int .i64 a.r.id
  | 3 => .int .i64 a.r.key
  | 4 => .int .i64 a.r.cost
  | 5 => .int .i64 a.r.cls
  | 6 => .int .i64 a.r.wait
  | _ => .int .i64 a.now
set_option maxRecDepth 100000 in
theorem act_of {fuel : Nat} {cs : List Value} {x : DataW H × List MemPlace} (hc : cs.length = 8) (ht : DataW.trod enc Tryz.prog w base spare held fuel 44 cs = some x) :
    ∃ a : Av, AvNum a ∧ ∀ k, k < 8 → cs[k]? = some (cells8 a k) := by
  match cs, hc with
  | [c0, c1, c2, c3, c4, c5, c6, c7], _ =>
    obtain ⟨_, k, hk⟩ := Row.field_of Tryz.underlying44 ht
    obtain ⟨y0, g0⟩ := hk 0 _ [c0] rfl (by simp [one_bool])
    obtain ⟨y1, g1⟩ := hk 1 _ [c1] rfl (by simp [one_bool])
    obtain ⟨y2, g2⟩ := hk 2 _ [c2, c3, c4, c5, c6] rfl (by simp [five_request])
    obtain ⟨y3, g3⟩ := hk 3 _ [c7] rfl (by simp [one_int])
    obtain ⟨x0, e0, _⟩ := DataW.trod_bool Tryz.underlying4 g0
    obtain ⟨x1, e1, _⟩ := DataW.trod_bool Tryz.underlying4 g1
    obtain ⟨x3, e3, w3⟩ := Row.int_of Tryz.underlying3 g3
    obtain ⟨r, hr, rfl, rfl, rfl, rfl, rfl⟩ := request_of g2
    simp only [List.cons.injEq, and_true] at e0 e1
    subst e0 e1 e3
    refine ⟨⟨x0, x1, r, x3⟩, ⟨hr, w3⟩, fun k hk => ?_⟩
    match k, hk with
    | 0, _ | 1, _ | 2, _ | 3, _ | 4, _ | 5, _ | 6, _ | 7, _ => rfl
set_option maxRecDepth 100000 in
/-- A slice of acts that came in. -/
theorem open_acts {r : Reach} {b0 : Nat} {v : Value} {d : DataW H} {ps : List MemPlace} (hval : Value.okWide Tryz.prog w r b0 31 v) (h : DataW.Trod enc Tryz.prog w base spare held 31 v d ps) :
    ∃ (p : Option Addr) (c : Nat) (l : List Av), v = .slice p l.length c ∧ (l.length : Int) ≤ 9223372036854775807 ∧ AvsAt w p l ∧ ∀ a ∈ l, AvNum a := by
  obtain ⟨p, c, l, e, hl, ha, hn⟩ := Row.open_rows zv AvNum cells8 Tryz.underlying31 eight_act (by decide) (fun fuel cs x hc ht => act_of hc ht) hval h
  refine ⟨p, c, l, e, hl, ?_, hn⟩
  rcases ha with ha | ⟨g, o, e2, ha⟩
  · exact .inl ha
  · exact .inr ⟨g, o, e2, fun j hj => ⟨ha j hj 0 (by decide), ha j hj 1 (by decide), ha j hj 2 (by decide), ha j hj 3 (by decide), ha j hj 4 (by decide), ha j hj 5 (by decide), ha j hj 6 (by decide), ha j hj 7 (by decide)⟩⟩
set_option maxRecDepth 100000 in
/-- A configuration that came in. -/
theorem open_conf {r : Reach} {b0 : Nat} {v : Value} {d : DataW H} {ps : List MemPlace} (hval : Value.okWide Tryz.prog w r b0 24 v) (h : DataW.Trod enc Tryz.prog w base spare held 24 v d ps) :
    ∃ (c : Edge.Cf) (p : Option Addr) (k : Nat), v = c.val p k ∧ Edge.RatesB w.heap.size w p c.zs ∧ Edge.CfNum c := by
  obtain ⟨V, Y, m, rfl, hf⟩ := Row.open_fields Tryz.underlying24 (Deep.hone_of (by kernel_rfl)) (by kernel_rfl) hval h
  have h0 := hf 0 _ rfl
  have h1 := hf 1 _ rfl
  have h2 := hf 2 _ rfl
  have h3 := hf 3 _ rfl
  have h4 := hf 4 _ rfl
  have h5 := hf 5 _ rfl
  have h6 := hf 6 _ rfl
  have h7 := hf 7 _ rfl
  have h8 := hf 8 _ rfl
  clear hf
  obtain ⟨x0, e0, w0⟩ := Row.int_of Tryz.underlying3 h0
  obtain ⟨x1, e1, w1⟩ := Row.int_of Tryz.underlying3 h1
  obtain ⟨x2, e2, w2⟩ := Row.int_of Tryz.underlying3 h2
  obtain ⟨x3, e3, w3⟩ := Row.int_of Tryz.underlying3 h3
  obtain ⟨x4, e4, w4⟩ := Row.int_of Tryz.underlying3 h4
  obtain ⟨x5, e5, w5⟩ := Row.int_of Tryz.underlying3 h5
  obtain ⟨x6, e6, w6⟩ := Row.int_of Tryz.underlying3 h6
  obtain ⟨x7, e7, w7⟩ := Row.int_of Tryz.underlying3 h7
  obtain ⟨p, k, zs, e8, hr⟩ := Row.open_pairs Tryz.underlying22 Tryz.underlying77 (by kernel_rfl) rfl rfl (by kernel_rfl) (by kernel_rfl) Tryz.underlying3 Tryz.underlying3 h8
  refine ⟨⟨x0, x1, x2, x3, x4, x5, x6, x7, zs⟩, p, k, ?_, ?_, w0, w1, w2, w3, w4, w5, w6, w7⟩
  · show Value.agg #[V 0, V 1, V 2, V 3, V 4, V 5, V 6, V 7, V 8] = _
    rw [e0, e1, e2, e3, e4, e5, e6, e7, e8]
    rfl
  · rcases hr with hr | ⟨b, o, e, hc⟩
    · exact .inl hr
    · by_cases hz : zs = []
      · exact .inl hz
      · exact .inr ⟨b, o, e, World.block_lt_of_cell? _ _ (hc 0 (List.length_pos_iff.2 hz)).1, hc⟩
end
end Go.Proofs.YtbgdlokegibkmaaGreat.Visit
