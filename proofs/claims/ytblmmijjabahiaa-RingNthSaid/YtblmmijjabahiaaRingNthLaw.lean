/-
  For every slice of ints and every m the law RingNth returns true and leaves its arguments as they were. No condition.
-/
import Derived.Test.YtblmmijjabahiaaRows
import Derived.Test.YtblmmijjabahiaaRingAlive
import Derived.Test.YtblmmijjabahiaaRingRefNth
import Derived.Test.YtblmmijjabahiaaRingRow
import Derived.WalkKit
import Derived.ProofKit
import Derived.OpenShut
import Derived.ShutString
import Derived.ChangeOld
import Derived.Below
namespace Go.Proofs.Ytblmmijjabahiaa.ringNth
open Go.ChangeShapes Go.WideShapes Go.ChangeAt Go.RowKit Ring

theorem own : ownKnob Try.prog.godebug = none := by kernel_rfl
theorem laidOut : laidOutB Try.prog = true := by kernel_rfl

/-- A slice of integers that came in: it is nil, or it leads to a row of cells. -/
def IsRow (k : IntKind) (w : World) (a : Option Addr) (len cap : Nat) (zs : List Int) : Prop :=
  (a = none ∧ len = 0 ∧ cap = 0 ∧ zs = []) ∨
  ∃ x, a = some x ∧ len ≤ cap ∧ cap ≤ maxLen ∧ zs.length = cap ∧ (∀ i, i < zs.length → w.cell? (x.add i) = some (.int k (zs.getD i 0))) ∧ ∀ n ∈ zs, (Lit.int k n).wf = true

theorem long (p : Option Addr) (len cap : Nat) (m : Int) (w : World) (h : 200 < (len : Int)) :
    Calls Try.prog 5 #[.slice p len cap, .int .i64 m] w fun e w' => e = .returned (.bool true) ∧ Below w.heap.size w w' := by
  go_enter Try.func5, Try.ntmps5
  go_wp2_with (go_at_call 36; ((with_reducible refine (Ring.alive_any _).mono ?_)); rintro e w1 ⟨rfl, hg⟩)
  go_ret
  exact ⟨rfl, hg⟩

set_option maxRecDepth 100000 in
set_option maxHeartbeats 1000000 in
theorem none_in (p : Option Addr) (cap : Nat) (m : Int) (w : World) :
    Calls Try.prog 5 #[.slice p 0 cap, .int .i64 m] w fun e w' => e = .returned (.bool true) ∧ Below w.heap.size w w' := by
  have c1 := fun u => nth_out p 0 cap m u (by omega)
  have c2 := fun u => refnth_out p 0 cap m u (by omega)
  go_enter Try.func5, Try.ntmps5
  go_wp2_with (first
    | (go_at_call 37; ((with_reducible refine (c1 _).mono ?_)); rintro e w1 ⟨rfl, rfl⟩)
    | (go_at_call 38; ((with_reducible refine (c2 _).mono ?_)); rintro e w1 ⟨rfl, rfl⟩))
  go_loop [9, 10, 11] (fun a l i => a = .int .i64 0 ∧ l = .int .i64 0 ∧ i = .int .i64 0) (fun _ _ i => 64 - (intOf i).toNat)
  case atStart => exact ⟨rfl, rfl, rfl⟩
  case round =>
    obtain ⟨rfl, rfl, rfl⟩ := hrel
    go_wp2_with (go_at_call 36; ((with_reducible refine (Ring.alive_any _).mono ?_)); rintro e w1 ⟨rfl, hg⟩)
    go_ret
    exact ⟨rfl, hg⟩

set_option maxRecDepth 100000 in
set_option maxHeartbeats 2000000 in
theorem core (b off c : Nat) (zs : List Int) (m v : Int) (ok : Bool) (w : World) (hl : zs.length ≤ 200) (hb : b < w.heap.size)
    (hc : ∀ j, j < zs.length → w.cell? ⟨b, off + j, none⟩ = some (.int .i64 (zs.getD j 0)))
    (cN : Calls Try.prog 37 #[.slice (some ⟨b, off, none⟩) zs.length c, .int .i64 m] w fun e w' => e = .returned (.tuple #[.int .i64 v, .bool ok]) ∧ Below w.heap.size w w')
    (cR : ∀ u, Below w.heap.size w u → Calls Try.prog 38 #[.slice (some ⟨b, off, none⟩) zs.length c, .int .i64 m] u fun e w' => e = .returned (.tuple #[.int .i64 v, .bool ok]) ∧ Below w.heap.size w w')
    (hend : ok = false ∨ (ok = true ∧ (more zs v : Int) < m ∧ m ≤ (least zs v : Int))) :
    Calls Try.prog 5 #[.slice (some ⟨b, off, none⟩) zs.length c, .int .i64 m] w fun e w' => e = .returned (.bool true) ∧ Below w.heap.size w w' := by
  have HC := Lib.hid hc; clear hc
  rcases hend with rfl | ⟨rfl, he1, he2⟩
  all_goals
    go_enter Try.func5, Try.ntmps5
    go_wp2_with (first
      | (go_at_call 37; ((with_reducible refine cN.mono ?_)); clear cN; rintro e w1 ⟨rfl, hB⟩)
      | (go_at_call 38; ((with_reducible refine (cR _ hB).mono ?_)); clear cR hB; rintro e w2 ⟨rfl, hB⟩))
    go_loop [9, 10, 11] (fun a l i => ∃ k : Nat, i = .int .i64 (k : Int) ∧ k ≤ zs.length ∧ a = .int .i64 ((more (zs.take k) v : Nat) : Int) ∧ l = .int .i64 ((least (zs.take k) v : Nat) : Int)) (fun _ _ i => zs.length - (intOf i).toNat)
    case atStart => exact ⟨0, rfl, by omega, rfl, rfl⟩
    case round =>
      obtain ⟨k, rfl, hk, rfl, rfl⟩ := hrel
      by_cases hlt : k < zs.length
      · have hlt' : (k : Int) < (zs.length : Int) := by omega
        have g1 : w2.cell? ⟨b, off + k, none⟩ = some (.int .i64 (zs.getD k 0)) := (hB.cell (p := ⟨b, off + k, none⟩) hb).trans (HC.out k hlt)
        have mt := more_take zs v k hlt
        have lt := least_take zs v k hlt
        have mh := more_hi zs v k
        have lh := least_hi zs v k
        generalize zs.getD k 0 = z at g1 mt lt
        generalize more (zs.take k) v = mo at *
        generalize least (zs.take k) v = le at *
        have hw : (v < z ∧ v ≤ z ∧ more (zs.take (k + 1)) v = mo + 1 ∧ least (zs.take (k + 1)) v = le + 1) ∨ (z ≤ v ∧ v ≤ z ∧ more (zs.take (k + 1)) v = mo ∧ least (zs.take (k + 1)) v = le + 1) ∨ (z ≤ v ∧ z < v ∧ more (zs.take (k + 1)) v = mo ∧ least (zs.take (k + 1)) v = le) := by
          rcases Int.lt_trichotomy v z with q | q | q
          · rw [if_pos q] at mt; rw [if_pos (by omega)] at lt
            exact .inl ⟨q, by omega, mt, lt⟩
          · rw [if_neg (by omega)] at mt; rw [if_pos (by omega)] at lt
            exact .inr (.inl ⟨by omega, by omega, mt, lt⟩)
          · rw [if_neg (by omega)] at mt; rw [if_neg (by omega)] at lt
            exact .inr (.inr ⟨by omega, q, mt, lt⟩)
        clear mt lt
        rcases hw with ⟨q1, q2, m1, m2⟩ | ⟨q1, q2, m1, m2⟩ | ⟨q1, q2, m1, m2⟩
        all_goals
          have M1 := Lib.hid m1; clear m1
          have M2 := Lib.hid m2; clear m2
          go_wp2
          go_round
          case rel => exact ⟨k + 1, by simp, by omega, by rw [M1.out] <;> simp, by rw [M2.out] <;> simp⟩
          case measure => simp only [intOf]; omega
      · have hke : k = zs.length := by omega
        subst hke
        simp only [List.take_length]
        go_wp2_with (go_at_call 36; ((with_reducible refine (Ring.alive_any _).mono ?_)); rintro e w3 ⟨rfl, hg⟩)
        go_ret
        exact ⟨rfl, hB.trans (hg.mono hB.size)⟩

theorem walk (a0 : Option Addr) (len0 cap0 : Nat) (z0 : List Int) (a1 : Int) (w : World) (w0 : IsRow .i64 w a0 len0 cap0 z0) :
    Calls Try.prog 5 #[.slice a0 len0 cap0, .int .i64 a1] w fun e w' => e = .returned (.bool true) ∧ Below w.heap.size w w' := by
  by_cases h200 : 200 < (len0 : Int)
  · exact long a0 len0 cap0 a1 w h200
  · rcases Nat.eq_zero_or_pos len0 with rfl | hpos
    · exact none_in a0 cap0 a1 w
    · rcases w0 with ⟨_, h, _, _⟩ | ⟨x, rfl, hl, hm, hz, hcell, _⟩
      · omega
      · have h0 := hcell 0 (by omega)
        obtain ⟨b, off, spot⟩ := x
        cases spot with
        | some s =>
          exfalso
          simp only [World.cell?, Addr.add] at h0
          split at h0 <;> simp at h0
        | none =>
          have hlen : (z0.take len0).length = len0 := by simp; omega
          have hcs : ∀ j, j < (z0.take len0).length → w.cell? ⟨b, off + j, none⟩ = some (.int .i64 ((z0.take len0).getD j 0)) := fun j hj => by
            rw [hlen] at hj
            have := hcell j (by omega)
            rw [show (z0.take len0).getD j 0 = z0.getD j 0 by simp [hj]]
            rw [add_plain] at this
            exact this
          have hbs : b < w.heap.size := by
            rcases Nat.lt_or_ge b w.heap.size with q | q
            · exact q
            · have := hcs 0 (by omega)
              simp only [World.cell?] at this
              rw [Array.getElem?_eq_none q] at this
              cases this
          have hl1 : (z0.take len0).length ≤ 1000 := by omega
          have hcu : ∀ u, Below w.heap.size w u → ∀ j, j < (z0.take len0).length → u.cell? ⟨b, off + j, none⟩ = some (.int .i64 ((z0.take len0).getD j 0)) := fun u hu j hj => (hu.cell (p := ⟨b, off + j, none⟩) hbs).trans (hcs j hj)
          by_cases hin : 1 ≤ a1 ∧ a1 ≤ ((z0.take len0).length : Int)
          · have hg := (nth_good (z0.take len0) a1 hin.1 hin.2).1
            have k := core b off cap0 (z0.take len0) a1 (nth (z0.take len0) a1) true w (by omega) hbs hcs (nth_in b off cap0 _ a1 w hl1 hin.1 hin.2 hcs)
              (fun u hu => (refnth_in b off cap0 _ a1 u hl1 hin.1 hin.2 (hcu u hu)).mono fun e w' q => ⟨q.1, hu.trans (q.2.mono hu.size)⟩) (.inr ⟨rfl, hg.1, hg.2⟩)
            rwa [hlen] at k
          · have k := core b off cap0 (z0.take len0) a1 0 false w (by omega) hbs hcs ((nth_out _ _ cap0 a1 w hin).mono fun e w' q => ⟨q.1, by rw [← q.2]; exact Below.refl _ _⟩)
              (fun u hu => (refnth_out _ _ cap0 a1 u hin).mono fun e w' q => ⟨q.1, by rw [← q.2]; exact hu⟩) (.inl rfl)
            rwa [hlen] at k

set_option maxRecDepth 100000 in
theorem lifted (os : Os) (started : os.Started) (H : Type) (enc : TypeId × Value → H) :
    ReturnsInHanded {} Try.checked os 5 .any (Rows.ringNthSpec.pre6 enc Try.prog Try.f5 Rows.ringNthRow.domain false) (Rows.ringNthSpec.post enc Try.prog Try.f5 false true false false) := by
  refine returnsInHanded_of_change (C := Try.checked) own started (by kernel_rfl) Try.func5
    (ChangeSpec.witness6 (enc := enc) (C := Try.checked) false ⟨#[], #[.slice none 0 0, .int .i64 0], []⟩ 8 (by kernel_rfl) (by kernel_rfl) (by kernel_rfl) (by kernel_rfl)) ?_
  intro W base args ds gs before hval0 hW hcnd _
  have hval : ∀ (j : Nat) t v, Try.f5.params[j]? = some t → args[j]? = some v → Value.okWide Try.prog W .any base t v := hval0
  have hW' := hW
  obtain ⟨p, q, hA0, hV, rfl, hfz, hnd⟩ := hW
  have hA : DataW.TrodAll enc Try.prog W 0 (fun _ => true) true Try.f5.params.toList args.toList ds p := hA0
  rw [Try.params5] at hA hval
  obtain ⟨v0, vs0, d0, ds0, p0, q0, hargs, rfl, rfl, h0, r0⟩ := trodAll_cons hA
  obtain ⟨v1, vs1, d1, ds1, p1, q1, rfl, rfl, rfl, h1, r1⟩ := trodAll_cons r0
  obtain ⟨rfl, rfl, rfl⟩ := trodAll_nil r1
  obtain rfl : args = #[v0, v1] := by cases args; simp_all
  obtain ⟨rfl, rfl⟩ := trodVars_none hV
  obtain ⟨a0, len0, cap0, rfl⟩ := okWide_slice Try.underlying30 (hval 0 30 v0 rfl rfl)
  have k0 := h0
  have lt0 : ∀ x ∈ p0, x.block < W.heap.size := by obtain ⟨m, hm⟩ := k0; exact DataW.trod_lt m _ _ _ hm
  obtain ⟨z0, w0⟩ : ∃ zs, IsRow .i64 W a0 len0 cap0 zs := by
    obtain ⟨fuel, hf⟩ := h0
    rcases open_ints Try.underlying30 Try.underlying3 (by kernel_rfl) hf with ⟨hcs, _⟩ | ⟨x, l, c, zs, hcs, _, hl, hm, hz, _, hcell, hwz⟩
    · simp [Value.cells] at hcs
      obtain ⟨rfl, rfl, rfl⟩ := hcs
      exact ⟨[], .inl ⟨rfl, rfl, rfl, rfl⟩⟩
    · simp [Value.cells] at hcs
      obtain ⟨rfl, rfl, rfl⟩ := hcs
      exact ⟨zs, .inr ⟨_, rfl, hl, hm, by simpa using hz, hcell, hwz⟩⟩
  obtain ⟨a1, rfl, rfl, rfl, w1⟩ := open_int Try.underlying3 (hval 1 3 v1 rfl rfl) h1
  clear hA0 hval0
  refine (walk a0 len0 cap0 z0 a1 W w0).mono fun e W' ⟨he, bel⟩ => ?_
  subst he
  exact ⟨_, rfl, _, _, _, [], _, [], hW', trodAll_mk1 (shut_bool Try.underlying4 _), (trodAll_cons_mk (Below.trod laidOut (by kernel_rfl) (of_decide_eq_true (by kernel_rfl)) k0 bel lt0) (trodAll_cons_mk (shut_int Try.underlying3 w1) trodAll_mk0)), rfl, bel.frame _, fun h => by cases h⟩

theorem over : Rows.ringNthRow.holds Try.pinned (OpenSpec.ofChange Rows.ringNthSpec) :=
  OpenClaim.holds_of_wide 5 Try.f5 rfl rfl rfl rfl rfl rfl rfl ⟨rfl, rfl, rfl, rfl, rfl⟩ rfl rfl rfl rfl rfl (by kernel_rfl) Try.func5 (by kernel_rfl)
    (of_decide_eq_true (by kernel_rfl)) (by unfold Func.isWrapper; first | (rw [if_pos (by decide +kernel)]; kernel_rfl) | (rw [if_neg (by decide +kernel)]; exact ⟨rfl, rfl⟩))
    (fun os started H enc _ => lifted os started H enc)

/-- The given statement. -/
theorem proved : Rows.RingNthSaid := over
#print axioms proved
end Go.Proofs.Ytblmmijjabahiaa.ringNth
