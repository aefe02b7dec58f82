/-
  The program's parts: a new map each time; what a look-up of any kind in it gives.
-/
import Derived.Test.YtkdjhphakopfeaaFrmAsk
import Derived.Maps.Own
import Derived.Maps.OwnSet
namespace Go.Proofs.Ytkdjhphakopfeaa.Frame
open Go.RowKit Codec

/-- What a kind has, as a number. -/
def partOf (k : Int) : Int := if k = 0 then 1 else if k = 1 then 6 else if k = 2 then 10 else 0
def isKind (k : Int) : Bool := decide (0 ≤ k ∧ k ≤ 3)
theorem partOf_ways (k : Int) : partOf k = 0 ∨ partOf k = 1 ∨ partOf k = 6 ∨ partOf k = 10 := by
  unfold partOf
  split
  · exact .inr (.inl rfl)
  · split
    · exact .inr (.inr (.inl rfl))
    · split
      · exact .inr (.inr (.inr rfl))
      · exact .inl rfl

def partsD : DataW Unit := .map [(.int .i64 0, .lit (.int .i64 1)), (.int .i64 1, .lit (.int .i64 6)), (.int .i64 2, .lit (.int .i64 10)), (.int .i64 3, .lit (.int .i64 0))]
def IsParts (w : World) (b : Nat) : Prop := w.ownsMap (H := Unit) Try.prog 32 (plainElem Try.prog 78) b 4 partsD

theorem zero_part (w : World) : (zeroValue 78).run Try.prog w = .ok (.int .i64 0) w := by kernel_rfl

theorem parts_at (k : Int) : partsD.atKey (.int .i64 k) (.lit (.int .i64 0)) = .lit (.int .i64 (partOf k)) := by
  unfold partsD partOf
  by_cases h0 : k = 0
  · subst h0; rfl
  · by_cases h1 : k = 1
    · subst h1; rfl
    · by_cases h2 : k = 2
      · subst h2; rfl
      · by_cases h3 : k = 3
        · subst h3; rfl
        · simp [DataW.atKey, Lit.sameKey, h0, h1, h2, Ne.symm h0, Ne.symm h1, Ne.symm h2, Ne.symm h3]
theorem parts_has (k : Int) : Maps.has partsD (.int .i64 k) = isKind k := by
  unfold partsD isKind
  by_cases h0 : k = 0
  · subst h0; rfl
  · by_cases h1 : k = 1
    · subst h1; rfl
    · by_cases h2 : k = 2
      · subst h2; rfl
      · by_cases h3 : k = 3
        · subst h3; rfl
        · have e : decide (0 ≤ k ∧ k ≤ 3) = false := by simp; omega
          rw [e]
          simp [Maps.has, Lit.sameKey, Ne.symm h0, Ne.symm h1, Ne.symm h2, Ne.symm h3]

set_option maxRecDepth 100000 in
theorem parts_look_ok (w : World) (b : Nat) (k : Int) (h : IsParts w b) (hk : (Lit.int .i64 k).wf = true) :
    (Instr.lookup 80 (.map (some b)) (.int .i64 k) true).run Try.prog w = .ok (.tuple #[.int .i64 (partOf k), .bool (isKind k)]) w := by
  obtain ⟨v, ps, hrun, hv⟩ := World.ownsMap.look_ok h (Maps.int_keyed Try.underlying32) Try.underlying80 (zero_part w) (plainElem_int Try.underlying78 (by decide)) (Maps.keyOf_int_mk Try.underlying32 hk)
  obtain ⟨c, rfl, hc, hwc⟩ := plainElem_int_inv Try.underlying78 hv
  have e := congrArg Prod.fst hc
  simp only [parts_at] at e
  injection e with e
  injection e with _ e
  rw [hrun, parts_has, e]
set_option maxRecDepth 100000 in
theorem parts_look (w : World) (b : Nat) (k : Int) (h : IsParts w b) (hk : (Lit.int .i64 k).wf = true) :
    (Instr.lookup 80 (.map (some b)) (.int .i64 k) false).run Try.prog w = .ok (.int .i64 (partOf k)) w := by
  obtain ⟨v, ps, hrun, hv⟩ := World.ownsMap.lookup h (Maps.int_keyed Try.underlying32) Try.underlying80 (zero_part w) (plainElem_int Try.underlying78 (by decide)) (Maps.keyOf_int_mk Try.underlying32 hk)
  obtain ⟨c, rfl, hc, hwc⟩ := plainElem_int_inv Try.underlying78 hv
  have e := congrArg Prod.fst hc
  simp only [parts_at] at e
  injection e with e
  injection e with _ e
  rw [hrun, e]

/-- A literal's entry. -/
theorem wpList_insert_own {H : Type} {P : Program} (w : World) {ops : Array Oper} {rest : List Oper} {o : Oper} {a : Act} {Q : Exit → Act → World → Prop}
    (hg : o.guard = none) (m x v : Operand) (t : TypeId) (hop : o.op = Op.insert t m x v)
    (k e : TypeId) (K : Maps.Keyed P k) (ht : P.underlying t = some (.map k e)) (R : Value → Option (DataW H × List MemPlace)) (b n : Nat) (D : DataW H)
    (hm : a.eval m = .map (some b)) (hown : w.ownsMap P k R b n D) (hn : n < maxLen) (key val : Value) (kl : Lit) (hx : a.eval x = key) (hv : a.eval v = val) (hkey : keyOf P k key = some kl)
    (d : DataW H) (ps : List MemPlace) (hval : R val = some (d, ps))
    (hK : ∀ w', w'.ownsMap P k R b (n + 1) (D.put kl d) → w.grownBy w' (some b) → wpList P ops Q rest (a.put o.dst undef) w') :
    wpList P ops Q (o :: rest) a w := by
  refine wpList_plain hg fun K' hK' => ?_
  obtain ⟨w', hrun, r1, r2⟩ := hown.update K ht hn hkey hval
  unfold Oper.wp
  simp [execOp, hop, hm, hx, hv, hrun, Result.andThen]
  exact hK' _ _ (hK w' r1 r2)

/-- What parts tells: a new map. -/
def NewParts (w : World) (e : Ending) (w' : World) : Prop := ∃ b, e = .returned (.map (some b)) ∧ IsParts w' b ∧ Below w.heap.size w w'

set_option maxRecDepth 100000 in
theorem parts_any (w : World) : Calls Try.prog 35 #[] w (NewParts w) := by
  have hmm := @run_makeMap Try.prog
  have h0 := World.ownsMap_made (H := Unit) w Try.prog 32 (plainElem Try.prog 78)
  have b0 : Below w.heap.size w (w.alloc (.map #[] 0)) := (Below.refl _ _).alloc (Nat.le_refl _) _
  go_enter Try.func35, Try.ntmps35
  go_wp2_with (first
    | ((refine wpList_insert_own _ rfl _ _ _ 80 rfl 32 78 (Maps.int_keyed Try.underlying32) Try.underlying80 _ _ 0 _ rfl h0 (by unfold maxLen; omega) _ _ (.int .i64 0) rfl rfl (Maps.keyOf_int_mk Try.underlying32 (by decide)) _ [] (plainElem_int Try.underlying78 (by decide)) ?_); intro w1 h1 g1; clear h0)
    | ((refine wpList_insert_own _ rfl _ _ _ 80 rfl 32 78 (Maps.int_keyed Try.underlying32) Try.underlying80 _ _ 1 _ rfl h1 (by unfold maxLen; omega) _ _ (.int .i64 1) rfl rfl (Maps.keyOf_int_mk Try.underlying32 (by decide)) _ [] (plainElem_int Try.underlying78 (by decide)) ?_); intro w2 h2 g2; clear h1)
    | ((refine wpList_insert_own _ rfl _ _ _ 80 rfl 32 78 (Maps.int_keyed Try.underlying32) Try.underlying80 _ _ 2 _ rfl h2 (by unfold maxLen; omega) _ _ (.int .i64 2) rfl rfl (Maps.keyOf_int_mk Try.underlying32 (by decide)) _ [] (plainElem_int Try.underlying78 (by decide)) ?_); intro w3 h3 g3; clear h2)
    | ((refine wpList_insert_own _ rfl _ _ _ 80 rfl 32 78 (Maps.int_keyed Try.underlying32) Try.underlying80 _ _ 3 _ rfl h3 (by unfold maxLen; omega) _ _ (.int .i64 3) rfl rfl (Maps.keyOf_int_mk Try.underlying32 (by decide)) _ [] (plainElem_int Try.underlying78 (by decide)) ?_); intro w4 h4 g4; clear h3))
  go_ret
  refine ⟨w.heap.size, rfl, ?_, ?_⟩
  · have e : (((((DataW.map [] : DataW Unit).put (.int .i64 0) (.lit (.int .i64 1))).put (.int .i64 1) (.lit (.int .i64 6))).put (.int .i64 2) (.lit (.int .i64 10))).put (.int .i64 3) (.lit (.int .i64 0))) = partsD := by rfl
    rw [e] at h4
    exact h4
  · have st : ∀ {u u' : World}, Below w.heap.size w u → u.grownBy u' (some w.heap.size) → Below w.heap.size w u' := fun hb hg => hb.grown hg hb.size (fun k hk => by simp at hk; omega)
    exact st (st (st (st b0 g1) g2) g3) g4
end Go.Proofs.Ytkdjhphakopfeaa.Frame
