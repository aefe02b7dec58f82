/-
  ElectPlays returns true of any numbers, any acts, whatever the program's election is, if its calls do what is asked of them.
-/
import Derived.Test.YthehbphpchmdiaaElectStep
namespace Go.Proofs.Ythehbphpchmdiaa.Elect
open Go.RowKit
open _root_.Go.Proofs.Ythehbphpchmdiaa.Codec (lt_of_heap frozen_of heap_set below_new)
open _root_.Go.Proofs.Ythehbphpchmdiaa.Kit (Enc Lies At cell_on lt_heap take_snoc below_drewN)

/-- Acts in a row. -/
def acts : Enc Ac := ⟨3, fun a => [.int .u8 a.kind, .int .i64 a.gen, .int .u64 a.bits], ⟨0, 0, 0⟩, by decide, fun _ => rfl, fun x u hu => by simp at hu; rcases hu with rfl | rfl | rfl <;> rfl⟩
theorem act_at {w : World} {p : Option Addr} {l : List Ac} (h : Lies acts w p l) {j : Nat} (hj : j < l.length) : ∃ b o, p = some ⟨b, o, none⟩ ∧ At acts w b (o + j * 3) (l.getD j ⟨0, 0, 0⟩) := Kit.lies_at h hj
theorem at3 {w : World} {b o : Nat} {a : Ac} (h : At acts w b o a) : w.cell? ⟨b, o, none⟩ = some (.int .u8 a.kind) ∧ w.cell? ⟨b, o + 1, none⟩ = some (.int .i64 a.gen) ∧ w.cell? ⟨b, o + 2, none⟩ = some (.int .u64 a.bits) := ⟨h 0 _ rfl, h 1 _ rfl, h 2 _ rfl⟩
def runs (e : El) (l : List Ac) : El := l.foldl actOf e
theorem runs_snoc (e : El) (l : List Ac) (a : Ac) : runs e (l ++ [a]) = actOf (runs e l) a := by simp [runs]
theorem Good.runs : ∀ (l : List Ac) {e : El} (_ : Good e) (_ : ∀ a ∈ l, AcNum a), Good (runs e l)
  | [], _, h, _ => h
  | a :: l, _, h, hl => Good.runs l (h.act (hl a (by simp))) (fun x hx => hl x (by simp [hx]))
theorem wins_promised (e : El) : (wins e).promised = e.promised := by unfold wins; split <;> rfl
theorem act_rises (e : El) (a : Ac) : e.promised ≤ (actOf e a).promised := by
  unfold actOf
  split
  · unfold stand
    split
    · rename_i h
      rw [wins_promised]
      have := (next_bounds h).2.2.1
      show e.promised ≤ (Conf.next e.n e.promised e.node).1
      omega
    · exact Int.le_refl _
  · split
    · unfold raise
      split
      · exact Int.le_refl _
      · rename_i h
        show e.promised ≤ a.gen
        omega
    · unfold take
      split
      · exact Int.le_refl _
      · split
        · show e.promised ≤ a.gen
          omega
        · split
          · exact Int.le_refl _
          · rw [wins_promised]; exact Int.le_refl _
theorem est_promised {PW : Pw} (P : Way17 PW) {W u : World} {q v : Nat} {s t : El} {bs : List (Nat × Obj)} (h : Est PW W q v s t bs u) : Calls Try.prog 8 #[.pointer (some ⟨q, 0, none⟩)] u fun y w' => y = .returned (.int .i64 s.promised) ∧ Est PW W q v s t bs w' := by
  have hh := h
  obtain ⟨F, h1, -⟩ := h
  exact (P.promised h1).mono fun y w' ⟨he, hb⟩ => ⟨he, hh.on P hb⟩
theorem est_round {PW : Pw} (P : Way17 PW) {W u : World} {q v : Nat} {s t : El} {bs : List (Nat × Obj)} (h : Est PW W q v s t bs u) : Calls Try.prog 10 #[.pointer (some ⟨q, 0, none⟩)] u fun y w' => y = .returned (.int .i64 s.round) ∧ Est PW W q v s t bs w' := by
  have hh := h
  obtain ⟨F, h1, -⟩ := h
  exact (P.round h1).mono fun y w' ⟨he, hb⟩ => ⟨he, hh.on P hb⟩
theorem est_standing {PW : Pw} (P : Way17 PW) {W u : World} {q v : Nat} {s t : El} {bs : List (Nat × Obj)} (h : Est PW W q v s t bs u) : Calls Try.prog 11 #[.pointer (some ⟨q, 0, none⟩)] u fun y w' => y = .returned (.int .i64 s.ballot) ∧ Est PW W q v s t bs w' := by
  have hh := h
  obtain ⟨F, h1, -⟩ := h
  exact (P.standing h1).mono fun y w' ⟨he, hb⟩ => ⟨he, hh.on P hb⟩
set_option maxRecDepth 100000 in
set_option maxHeartbeats 4000000 in
theorem plays_many {PW : Pw} (P : Way17 PW) (W : World) (n node pr ro : Int) (p : Option Addr) (c m : Nat) (hl : (120 : Int) < (m : Int)) :
    Calls Try.prog 3 #[.agg #[.int .i64 n, .int .i64 node, .int .i64 pr, .int .i64 ro], .slice p m c] W fun e w' => e = .returned (.bool true) ∧ Below W.heap.size W w' := by
  have ca := fun u => alive_way P u
  have B0 := Lib.hid (lay W (.cells #[.int .i64 n, .int .i64 node, .int .i64 pr, .int .i64 ro] 22))
  clear P
  go_enter Try.func3, Try.ntmps3
  go_wp2_with (go_at_call 5; (with_reducible refine (ca _).mono ?_); rintro e u2 ⟨rfl, hb⟩; have B2 := Lib.hid (B0.out.trans (hb.mono B0.out.size)); clear hb ca)
  go_ret
  exact ⟨rfl, B2.out⟩
theorem four_cells {W : World} {n node pr ro : Int} : (W.alloc (.cells #[.int .i64 n, .int .i64 node, .int .i64 pr, .int .i64 ro] 22)).cell? ⟨W.heap.size, 0, none⟩ = some (.int .i64 n) ∧ (W.alloc (.cells #[.int .i64 n, .int .i64 node, .int .i64 pr, .int .i64 ro] 22)).cell? ⟨W.heap.size, 1, none⟩ = some (.int .i64 node) ∧ (W.alloc (.cells #[.int .i64 n, .int .i64 node, .int .i64 pr, .int .i64 ro] 22)).cell? ⟨W.heap.size, 2, none⟩ = some (.int .i64 pr) ∧ (W.alloc (.cells #[.int .i64 n, .int .i64 node, .int .i64 pr, .int .i64 ro] 22)).cell? ⟨W.heap.size, 3, none⟩ = some (.int .i64 ro) := by
  have hz := heap_alloc_new W (.cells #[.int .i64 n, .int .i64 node, .int .i64 pr, .int .i64 ro] 22)
  exact ⟨by rw [cell_of_row _ _ 0 _ _ (0, 0) hz]; rfl, by rw [cell_of_row _ _ 1 _ _ (0, 0) hz]; rfl, by rw [cell_of_row _ _ 2 _ _ (0, 0) hz]; rfl, by rw [cell_of_row _ _ 3 _ _ (0, 0) hz]; rfl⟩
set_option maxRecDepth 100000 in
set_option maxHeartbeats 8000000 in
theorem plays_ok {PW : Pw} (P : Way17 PW) (W : World) (n node pr ro : Int) (hk : okNew n node pr ro = true) (p : Option Addr) (c : Nat) (l : List Ac) (ha : Lies acts W p l) (hn : ∀ a ∈ l, AcNum a) (hl : l.length ≤ 120) :
    Calls Try.prog 3 #[.agg #[.int .i64 n, .int .i64 node, .int .i64 pr, .int .i64 ro], .slice p l.length c] W fun e w' => e = .returned (.bool true) ∧ Below W.heap.size W w' := by
  have c0 := fun u => P.new n node pr ro u hk
  have c1 := fun u => rnew_ok n node pr ro hk u
  have HG := Lib.hid (fun j : Nat => Good.runs (l.take j) (good_start hk) (fun a h => hn a (List.mem_of_mem_take h)))
  have HN := Lib.hid (fun (j : Nat) (hj : j < l.length) => hn (l.getD j ⟨0, 0, 0⟩) (by simp [List.getD, hj]))
  have SS := Lib.hid (fun (j : Nat) (hj : j < l.length) => show runs (start n node pr ro) (l.take (j + 1)) = actOf (runs (start n node pr ro) (l.take j)) (l.getD j ⟨0, 0, 0⟩) by rw [take_snoc ⟨0, 0, 0⟩ hj, runs_snoc])
  have R0 := Lib.hid (show runs (start n node pr ro) (l.take 0) = start n node pr ro from rfl)
  have HP := Lib.hid P
  have hl' : ¬ (120 : Int) < (l.length : Int) := by omega
  have B0 := Lib.hid (lay W (.cells #[.int .i64 n, .int .i64 node, .int .i64 pr, .int .i64 ro] 22))
  have HAT := Lib.hid (ha.below B0.out)
  obtain ⟨t0, t1, t2, t3⟩ := four_cells (W := W) (n := n) (node := node) (pr := pr) (ro := ro)
  generalize hRS : (fun j => runs (start n node pr ro) (l.take j)) = RS
  have hRS' : ∀ j, runs (start n node pr ro) (l.take j) = RS j := fun j => by rw [← hRS]
  simp only [hRS'] at HG SS R0
  generalize start n node pr ro = S0 at *
  clear ha hn P hk hRS hRS'
  go_enter Try.func3, Try.ntmps3
  go_wp2_with (first
    | (go_at_call 6; (with_reducible refine (c0 _).mono ?_); rintro y u0 ⟨q, rfl, h0, hb⟩; have y0 := cell_on t0 hb; have y1 := cell_on t1 hb; have y2 := cell_on t2 hb; have y3 := cell_on t3 hb; have H0 := Lib.hid (And.intro h0 hb); clear h0 hb c0 t0 t1 t2 t3)
    | (go_at_call 7; (with_reducible refine (c1 _).mono ?_); rintro y u1 ⟨v, rfl, hv, hvl, hb⟩; have L0 := Lib.hid (show Est PW _ q v S0 S0 [] u1 from ⟨fun g => g = v, HP.out.turned H0.out.1 (Spare.below hb) (fun g hg => .inr (by rw [hg]; exact hvl)), rfl, hv, Nat.le_trans H0.out.2.size hvl, H0.out.2.trans (hb.mono H0.out.2.size), fun x hx => by cases hx⟩); clear hv hb H0 c1 y0 y1 y2 y3))
  generalize W.alloc (.cells #[.int .i64 n, .int .i64 node, .int .i64 pr, .int .i64 ro] 22) = W1 at *
  go_loopw [9] (fun i wr => ∃ j : Nat, j ≤ l.length ∧ i = .int .i64 (j : Int) ∧ Hid (Est PW W1 q v (RS j) (RS j) [] wr)) (fun i _ => l.length - (intOf i).toNat)
  case atStart => exact ⟨0, by omega, rfl, by rw [R0.out]; exact L0⟩
  case round =>
    obtain ⟨j, hj, rfl, L1⟩ := hrel
    clear L0 R0
    by_cases hlt : j < l.length
    · have hlt' : (j : Int) < (l.length : Int) := by omega
      obtain ⟨b, o, rfl, hat⟩ := act_at HAT.out hlt
      have HAX := Lib.hid (fun u (hu : Below W1.heap.size W1 u) => at3 (hat.below hu))
      have hna := HN.out j hlt
      have hss := SS.out j hlt
      have hgd := HG.out j
      have hrise := act_rises (RS j) (l.getD j ⟨0, 0, 0⟩)
      rw [← hss] at hrise
      have r1 := Lib.hid (fun u (h : Est PW W1 q v (RS j) (RS j) [] u) => by have := step_any HP.out h hgd hna; rwa [← hss] at this)
      have r2 := Lib.hid (fun u (h : Est PW W1 q v (RS j) (RS j) [] u) => est_promised HP.out h)
      have r3 := Lib.hid (fun u (h : Est PW W1 q v (RS (j + 1)) (RS (j + 1)) [] u) => est_promised HP.out h)
      have r4 := Lib.hid (fun u (h : Est PW W1 q v (RS (j + 1)) (RS (j + 1)) [] u) => est_round HP.out h)
      have r5 := Lib.hid (fun u (h : Est PW W1 q v (RS (j + 1)) (RS (j + 1)) [] u) => est_standing HP.out h)
      have MC := Lib.hid (fun u (h : Est PW W1 q v (RS (j + 1)) (RS (j + 1)) [] u) => h.re.cell)
      clear hna hss hgd SS HN HG hat
      generalize l.getD j ⟨0, 0, 0⟩ = a at *
      obtain ⟨kd, gen, bits⟩ := a
      simp only at *
      generalize hS2 : RS (j + 1) = s' at *
      have HS2 := Lib.hid hS2
      clear hS2
      generalize RS j = s at *
      have g1 : (s'.promised != s'.promised) = false := by simp
      have g2 : (s'.round != s'.round) = false := by simp
      have g3 : (s'.ballot != s'.ballot) = false := by simp
      have g4 : ¬ s'.promised < s.promised := by omega
      clear hrise
      go_wp2_with (first
        | (go_at_call 8; (with_reducible refine (r2.out _ L1.out).mono ?_); rintro y u2 ⟨rfl, h2⟩; have L2 := Lib.hid h2; obtain ⟨k0, k1, k2⟩ := HAX.out _ h2.below; clear h2 r2)
        | (go_at_call 9; (with_reducible refine (r1.out _ L2.out).mono ?_); rintro y u3 ⟨rfl, h2⟩; have L3 := Lib.hid h2; obtain ⟨-, -, x2, x3, x4, -, -⟩ := MC.out _ h2; clear h2 r1))
      have LD := Lib.hid (L3.out.on HP.out (Below.refl _ _).drew)
      go_region_held3 (fun u => u.cell? ⟨v, 2, none⟩ = some (.int .i64 s'.promised) ∧ u.cell? ⟨v, 3, none⟩ = some (.int .i64 s'.round) ∧ u.cell? ⟨v, 4, none⟩ = some (.int .i64 s'.ballot)) (first | assumption | exact ⟨x2, x3, x4⟩) (first
        | (go_at_call 8; (with_reducible refine (r3.out _ LD.out).mono ?_); rintro y u4 ⟨rfl, h2⟩; have L4 := Lib.hid h2; have mc := MC.out _ h2; have su4 : _ ∧ _ ∧ _ := ⟨mc.2.2.1, mc.2.2.2.1, mc.2.2.2.2.1⟩; clear h2 mc LD)
        | (go_at_call 10; (with_reducible refine (r4.out _ L4.out).mono ?_); rintro y u5 ⟨rfl, h2⟩; have L5 := Lib.hid h2; have mc := MC.out _ h2; have su5 : _ ∧ _ ∧ _ := ⟨mc.2.2.1, mc.2.2.2.1, mc.2.2.2.2.1⟩; clear h2 mc L4)
        | (go_at_call 11; (with_reducible refine (r5.out _ L5.out).mono ?_); rintro y u6 ⟨rfl, h2⟩; have L6 := Lib.hid h2; have mc := MC.out _ h2; have su6 : _ ∧ _ ∧ _ := ⟨mc.2.2.1, mc.2.2.2.1, mc.2.2.2.2.1⟩; clear h2 mc L5)
        | (go_at_call 8; (with_reducible refine (r3.out _ L6.out).mono ?_); rintro y u7 ⟨rfl, h2⟩; have L7 := Lib.hid h2; have mc := MC.out _ h2; have su7 : _ ∧ _ ∧ _ := ⟨mc.2.2.1, mc.2.2.2.1, mc.2.2.2.2.1⟩; clear h2 mc L6))
      go_wp2
      go_roundw
      case rel => exact ⟨j + 1, by omega, by go_num, by rw [HS2.out]; exact L7⟩
      case measure => simp only [intOf]; omega
    · have hlt' : ¬ (j : Int) < (l.length : Int) := by omega
      have B1 := Lib.hid (B0.out.trans (L1.out.below.mono B0.out.size))
      have d0 := fun u => alive_way HP.out u
      have d1 := HP.out.nstand
      have d2 := HP.out.ntake 1 1
      have d3 := HP.out.nraise 5
      have d4 := HP.out.npromised
      have d5 := HP.out.nround
      have d6 := HP.out.nstanding
      have d7 := fun u => eql4 noRs noRs u
      rw [same4_self] at d7
      simp only [rsVal, noRs] at d1 d2 d7
      clear L1 SS HG HN HP HAT
      go_wp2_with (first
        | (go_at_call 12; (with_reducible refine (d1 _).mono ?_); rintro y u2 ⟨rfl, hb⟩; have B2 := Lib.hid ((B1.out.trans (hb.mono B1.out.size)).alloc (B1.out.trans (hb.mono B1.out.size)).size (.cells #[.bool false, .int .i64 0, .int .u64 0, .bool false] 40)); obtain ⟨z0, z1, z2, z3⟩ := rs4 (r := noRs) (heap_alloc_new u2 (.cells #[.bool false, .int .i64 0, .int .u64 0, .bool false] 40)); simp only [noRs] at z0 z1 z2 z3; have HZ := Lib.hid (fun w' (hw : Below (u2.alloc (.cells #[.bool false, .int .i64 0, .int .u64 0, .bool false] 40)).heap.size (u2.alloc (.cells #[.bool false, .int .i64 0, .int .u64 0, .bool false] 40)) w') => And.intro (cell_on z0 hw) (And.intro (cell_on z1 hw) (And.intro (cell_on z2 hw) (cell_on z3 hw)))); clear hb d1 z0 z1 z2 z3)
        | (go_at_call 5; (with_reducible refine (d0 _).mono ?_); rintro y u3 ⟨rfl, hb⟩; have B3 := Lib.hid (B2.out.trans (hb.mono B2.out.size)); obtain ⟨z0, z1, z2, z3⟩ := HZ.out _ hb; clear hb d0 HZ)
        | (go_at_call 13; (with_reducible refine (d2 _).mono ?_); rintro y u4 ⟨rfl, hb⟩; have B4 := Lib.hid (B3.out.trans (hb.mono B3.out.size)); clear hb d2)
        | (go_at_call 14; (with_reducible refine (d3 _).mono ?_); rintro y u5 ⟨rfl, hb⟩; have B5 := Lib.hid (B4.out.trans (hb.mono B4.out.size)); clear hb d3)
        | (go_at_call 8; (with_reducible refine (d4 _).mono ?_); rintro y u6 ⟨rfl, hb⟩; have B6 := Lib.hid (B5.out.trans (hb.mono B5.out.size)); clear hb d4)
        | (go_at_call 10; (with_reducible refine (d5 _).mono ?_); rintro y u7 ⟨rfl, hb⟩; have B7 := Lib.hid (B6.out.trans (hb.mono B6.out.size)); clear hb d5)
        | (go_at_call 11; (with_reducible refine (d6 _).mono ?_); rintro y u8 ⟨rfl, hb⟩; have B8 := Lib.hid (B7.out.trans (hb.mono B7.out.size)); clear hb d6))
      go_ret
      exact ⟨rfl, B8.out⟩
set_option maxRecDepth 100000 in
set_option maxHeartbeats 8000000 in
theorem plays_bad {PW : Pw} (P : Way17 PW) (W : World) (n node pr ro : Int) (hk : okNew n node pr ro = false) (n1 : Num n) (n2 : Num node) (n3 : Num pr) (n4 : Num ro) (p : Option Addr) (c : Nat) (l : List Ac) (hl : l.length ≤ 120) :
    Calls Try.prog 3 #[.agg #[.int .i64 n, .int .i64 node, .int .i64 pr, .int .i64 ro], .slice p l.length c] W fun e w' => e = .returned (.bool true) ∧ Below W.heap.size W w' := by
  have c0 := fun u => P.bad n node pr ro u hk n1 n2 n3 n4
  have c1 := fun u => rnew_bad n node pr ro hk u
  have hl' : ¬ (120 : Int) < (l.length : Int) := by omega
  have B0 := Lib.hid (lay W (.cells #[.int .i64 n, .int .i64 node, .int .i64 pr, .int .i64 ro] 22))
  obtain ⟨t0, t1, t2, t3⟩ := four_cells (W := W) (n := n) (node := node) (pr := pr) (ro := ro)
  have d0 := fun u => alive_way P u
  have d1 := P.nstand
  have d2 := P.ntake 1 1
  have d3 := P.nraise 5
  have d4 := P.npromised
  have d5 := P.nround
  have d6 := P.nstanding
  have d7 := fun u => eql4 noRs noRs u
  rw [same4_self] at d7
  simp only [rsVal, noRs] at d1 d2 d7
  clear P hk
  go_enter Try.func3, Try.ntmps3
  go_wp2_with (first
    | (go_at_call 6; (with_reducible refine (c0 _).mono ?_); rintro y u0 ⟨rfl, hb⟩; have y0 := cell_on t0 hb; have y1 := cell_on t1 hb; have y2 := cell_on t2 hb; have y3 := cell_on t3 hb; have C0 := Lib.hid (B0.out.trans (hb.mono B0.out.size)); clear hb c0 t0 t1 t2 t3)
    | (go_at_call 7; (with_reducible refine (c1 _).mono ?_); rintro y u1 ⟨rfl, hb⟩; have BB := Lib.hid (C0.out.trans (hb.mono C0.out.size)); clear hb c1 y0 y1 y2 y3 C0))
  go_loopw [9] (fun i wr => i = .int .i64 0 ∧ Hid (Below W.heap.size W wr)) (fun _ _ => 0)
  case atStart => exact ⟨rfl, BB⟩
  case round =>
    obtain ⟨rfl, B1⟩ := hrel
    clear BB
    by_cases hlt : (0 : Int) < (l.length : Int)
    all_goals
      go_wp2_with (first
        | (go_at_call 12; (with_reducible refine (d1 _).mono ?_); rintro y u2 ⟨rfl, hb⟩; have B2 := Lib.hid ((B1.out.trans (hb.mono B1.out.size)).alloc (B1.out.trans (hb.mono B1.out.size)).size (.cells #[.bool false, .int .i64 0, .int .u64 0, .bool false] 40)); obtain ⟨z0, z1, z2, z3⟩ := rs4 (r := noRs) (heap_alloc_new u2 (.cells #[.bool false, .int .i64 0, .int .u64 0, .bool false] 40)); simp only [noRs] at z0 z1 z2 z3; have HZ := Lib.hid (fun w' (hw : Below (u2.alloc (.cells #[.bool false, .int .i64 0, .int .u64 0, .bool false] 40)).heap.size (u2.alloc (.cells #[.bool false, .int .i64 0, .int .u64 0, .bool false] 40)) w') => And.intro (cell_on z0 hw) (And.intro (cell_on z1 hw) (And.intro (cell_on z2 hw) (cell_on z3 hw)))); clear hb d1 z0 z1 z2 z3)
        | (go_at_call 5; (with_reducible refine (d0 _).mono ?_); rintro y u3 ⟨rfl, hb⟩; have B3 := Lib.hid (B2.out.trans (hb.mono B2.out.size)); obtain ⟨z0, z1, z2, z3⟩ := HZ.out _ hb; clear hb d0 HZ)
        | (go_at_call 13; (with_reducible refine (d2 _).mono ?_); rintro y u4 ⟨rfl, hb⟩; have B4 := Lib.hid (B3.out.trans (hb.mono B3.out.size)); clear hb d2)
        | (go_at_call 14; (with_reducible refine (d3 _).mono ?_); rintro y u5 ⟨rfl, hb⟩; have B5 := Lib.hid (B4.out.trans (hb.mono B4.out.size)); clear hb d3)
        | (go_at_call 8; (with_reducible refine (d4 _).mono ?_); rintro y u6 ⟨rfl, hb⟩; have B6 := Lib.hid (B5.out.trans (hb.mono B5.out.size)); clear hb d4)
        | (go_at_call 10; (with_reducible refine (d5 _).mono ?_); rintro y u7 ⟨rfl, hb⟩; have B7 := Lib.hid (B6.out.trans (hb.mono B6.out.size)); clear hb d5)
        | (go_at_call 11; (with_reducible refine (d6 _).mono ?_); rintro y u8 ⟨rfl, hb⟩; have B8 := Lib.hid (B7.out.trans (hb.mono B7.out.size)); clear hb d6))
      go_ret
      exact ⟨rfl, B8.out⟩
theorem plays_any {PW : Pw} (P : Way17 PW) (W : World) (n node pr ro : Int) (n1 : Num n) (n2 : Num node) (n3 : Num pr) (n4 : Num ro) (p : Option Addr) (c : Nat) (l : List Ac) (ha : Lies acts W p l) (hn : ∀ a ∈ l, AcNum a) :
    Calls Try.prog 3 #[.agg #[.int .i64 n, .int .i64 node, .int .i64 pr, .int .i64 ro], .slice p l.length c] W fun e w' => e = .returned (.bool true) ∧ Below W.heap.size W w' := by
  by_cases hl : l.length ≤ 120
  · cases hk : okNew n node pr ro
    · exact plays_bad P W n node pr ro hk n1 n2 n3 n4 p c l hl
    · exact plays_ok P W n node pr ro hk p c l ha hn hl
  · exact plays_many P W n node pr ro p c l.length (by omega)
end Go.Proofs.Ythehbphpchmdiaa.Elect
