/-
  How often a name is answered (annonalaw14's count); what is told, behind what was told.
-/
import Derived.Maps.AppendAt
import Derived.Test.YtlbpeeelgpjciaaGreatEdgeOncePlain
import Derived.Test.YtlbpeeelgpjciaaGreatMgAo
namespace Go.Proofs.YtlbpeeelgpjciaaGreat.Edge
open Go.RowKit
open _root_.Go.Proofs.YtlbpeeelgpjciaaGreat.Codec (lt_of_heap frozen_of heap_set below_new)
open _root_.Go.Proofs.YtlbpeeelgpjciaaGreat.Kit (Enc Lies At Kept Laid Off cell_on lt_heap take_snoc below_drewN box5)
open _root_.Go.Proofs.YtlbpeeelgpjciaaGreat.Lease (Lz Num)
open _root_.Go.Proofs.YtlbpeeelgpjciaaGreat.Queue (It)

theorem cnt_snoc (id : Int) (l : List An) (x : An) : cnt id (l ++ [x]) = if x.id = id then cnt id l + 1 else cnt id l := by
  unfold cnt
  rw [List.filter_append, List.length_append]
  by_cases h : x.id = id
  · rw [if_pos h]; simp [h]
  · rw [if_neg h]; simp [h]
theorem cnt_len (id : Int) (l : List An) : cnt id l ≤ l.length := List.length_filter_le _ _
set_option maxRecDepth 100000 in
theorem count_any {l : List An} {p : Option Addr} {d : Nat} {w : World} (h : Lies ans w p l) (hl : l.length ≤ 1000) (id : Int) :
    Calls Tryz.prog 26 #[.slice p l.length d, .int .i64 id] w fun e w' => e = .returned (.int .i64 (cnt id l)) ∧ Below w.heap.size w w' := by
  have HL := Lib.hid h
  have HB := Lib.hid (Below.refl w.heap.size w)
  have HE := Lib.hid (show cnt id l = cnt id (l.take l.length) by rw [List.take_length])
  have HT := Lib.hid (fun (j : Nat) (hj : j < l.length) => (congrArg (cnt id) (take_snoc az hj)).trans (cnt_snoc id (l.take j) (l.getD j az)))
  have HN := Lib.hid (fun (j : Nat) => Nat.le_trans (cnt_len id (l.take j)) (by simp; omega : (l.take j).length ≤ j))
  clear h
  go_enter Tryz.func26, Tryz.ntmps26
  go_wp2
  go_loop [5, 6] (fun n i => ∃ (j m : Nat), j ≤ l.length ∧ m ≤ j ∧ n = .int .i64 (m : Int) ∧ i = .int .i64 (j : Int) ∧ Hid (cnt id (l.take j) = m)) (fun _ i => l.length - (intOf i).toNat)
  case atStart => exact ⟨0, 0, by omega, by omega, rfl, rfl, Lib.hid rfl⟩
  case round =>
    obtain ⟨j, m, hj, hmj, rfl, rfl, hm⟩ := hrel
    by_cases hlt : j < l.length
    · obtain ⟨b, o, rfl, ha⟩ := ans_at HL.out hlt
      obtain ⟨k0, -, -⟩ := at3 ha
      have hlt' : (j : Int) < (l.length : Int) := by omega
      have HJ := Lib.hid (HT.out j hlt)
      by_cases hk : (l.getD j az).id = id
      · have HS := Lib.hid (show cnt id (l.take (j + 1)) = m + 1 by rw [HJ.out, if_pos hk, hm.out])
        rw [hk] at k0
        clear HT HN HE HJ ha hk HL
        go_wp2
        go_round
        case rel => exact ⟨j + 1, m + 1, by omega, by omega, by go_num, by go_num, HS⟩
        case measure => simp only [intOf]; omega
      · have HS := Lib.hid (show cnt id (l.take (j + 1)) = m by rw [HJ.out, if_neg hk, hm.out])
        generalize (l.getD j az).id = q at k0 hk
        clear HT HN HE HJ ha HL
        go_wp2
        go_round
        case rel => exact ⟨j + 1, m, by omega, by omega, rfl, by go_num, HS⟩
        case measure => simp only [intOf]; omega
    · have hlt' : ¬ (j : Int) < (l.length : Int) := by omega
      have hE := Lib.hid (show cnt id l = m by rw [HE.out, ← hm.out]; congr 2; omega)
      clear HT HN HE HL
      go_wp2
      go_ret
      exact ⟨by rw [hE.out]; rfl, HB.out⟩
/-- All elements of a slice that lies are appended to a row of its own; what is of no such type stays. -/
theorem pushes_at {α : Type} {E : Enc α} {T : TypeId} {P : Program} {ST : TypeId} (L : Laid P E T ST) {u : World} {ops : Array Oper} {rest : List Oper} {o : Oper} {a : Act} {Q : Exit → Act → World → Prop} (hgd : o.guard = none) (s y : Operand)
    (ho : o.op = .call { callee := .builtin .append, args := #[s, y], argTypes := #[ST, ST] })
    (C : Nat) (v : Value) (hs : a.eval s = v) (l : List α) (n : Nat) (hn : l.length = n) (hown : Kit.Own E T C u v l) (hC : C ≤ u.heap.size)
    (m : List α) (k c0 : Nat) (p0 : Option Addr) (hm : m.length = k) (hy : a.eval y = .slice p0 k c0) (hl : Lies E u p0 m) (hnil : p0 = none → c0 = 0) (hlen : n + k ≤ 100000)
    (h : ∀ p c w', Hid (Kit.Own E T C w' (.slice p (n + k) c) (l ++ m)) → Kept [T] u w' → Below C u w' → wpList P ops Q rest (a.put o.dst (.slice p (n + k) c)) w') : wpList P ops Q (o :: rest) a u := by
  subst hn hm
  obtain ⟨zv, byt, hi0, hzc, hby⟩ := L.info
  obtain ⟨i0, hi, hz0, hz1, hz2⟩ := info_parts hi0
  have hmul : (l.length + m.length) * byt ≤ 100000 * 1000 := Nat.mul_le_mul (by omega) hby
  cases p0 with
  | none =>
    have hm0 : m = [] := by
      rcases hl with hl | ⟨b, o, e, -⟩
      · exact hl
      · cases e
    subst hm0
    obtain rfl := hnil rfl
    refine wpList_append_own_none hgd s y ST ho C T i0 E.n L.sl hi v l.length (Kit.cells E l) hs hown hy ?_
    obtain ⟨p, c, rfl, -⟩ := hown.lies
    exact h p c u (by rw [List.append_nil]; exact hown) ⟨Nat.le_refl _, fun _ _ e _ => e⟩ (Below.refl _ _)
  | some ad =>
    refine wpList_append_own _ hgd s y ST ho C T i0 zv E.n byt L.sl hi hz0 hz1 hz2 hzc E.pos v l.length (Kit.cells E l) hs hown ad m.length c0 (Kit.cells E m) hy (Kit.cells_len m) ?_ (Kit.cells_one m) (by unfold maxLen; omega) (by omega) hC ?_
    · intro j z hz
      rcases hl with hl | ⟨b, o, e, hc⟩
      · subst hl
        simp [Kit.cells] at hz
      · simp only [Option.some.injEq] at e
        subst e
        obtain ⟨h1, h2⟩ := Kit.cells_get m j z hz
        have h3 := hc _ h1 _ _ h2
        rw [_root_.Go.Proofs.YtlbpeeelgpjciaaGreat.Codec.add_at]
        rw [Nat.add_assoc, show j / E.n * E.n + j % E.n = j by rw [Nat.mul_comm]; exact Nat.div_add_mod j E.n] at h3
        exact h3
    · intro v' w' ho2 hg2 _
      have hb2 : Below C u w' := (Below.refl C u).grown hg2 hC (fun k hk => (World.ownsRow.lt hown k hk).1)
      have R : Kit.Own E T C w' v' (l ++ m) := by
        unfold Kit.Own
        rw [Kit.cells_append, List.length_append]
        exact ho2
      have K : Kept [T] u w' := ⟨hg2.size, fun k ob e hob => by
        refine (hg2.block k (lt_heap e) fun ek => ?_).trans e
        rcases hown.2 with ⟨rfl, -⟩ | ⟨k', cap, cur, rfl, -, h2, -⟩
        · simp [Value.ownBlock] at ek
        · simp only [Value.ownBlock, Option.some.injEq] at ek
          subst ek
          rw [h2] at e
          exact hob _ _ _ (Option.some.inj e).symm (by simp)⟩
      obtain ⟨p, c, e, -⟩ := R.lies
      rw [List.length_append] at e
      subst e
      exact h p c w' R K hb2
end Go.Proofs.YtlbpeeelgpjciaaGreat.Edge
