/-
  Drop of any wallet of leases that rise by keys, and of none: maps.DeleteFunc of a map of leases, in whatever order its entries come; any generation.
-/
import Derived.Test.YtlipepbemofihaaLsPut
import Derived.Lib.SlMapFilter
import Derived.Maps.Ext
import Derived.Maps.RangeWalk
import Derived.Laws.IdiomRangeMap
import Derived.Deep.LoopGhost
namespace Go.Proofs.Ytlipepbemofihaa.Lease
open Go.RowKit Go.Maps
open _root_.Go.Proofs.Ytlipepbemofihaa.Codec (lt_of_heap frozen_of heap_set below_new)

/-- Is it elder? -/
def isElder (g : Int) (_ : Lit) (d : DataW Unit) : Bool :=
  match d with
  | .agg [_, .lit (.int .i64 x), _, _, _] => decide (x < g)
  | _ => false
theorem isElder_dat (g : Int) (k : Lit) (x : Lz) : isElder g k (dat x) = elder g x := rfl

set_option maxRecDepth 100000 in
set_option maxHeartbeats 1000000 in
theorem elder_any (k g : Int) (c : Nat) (x : Lz) (w : World) (hc : w.cell? ⟨c, 0, none⟩ = some (.int .i64 g)) (hlt : c < w.heap.size) :
    Calls Try.prog 30 #[.int .i64 k, val x, .pointer (some ⟨c, 0, none⟩)] w fun e w' => e = .returned (.bool (elder g x)) ∧ w.grownBy w' none := by
  obtain ⟨key, gen, amount, spent, til⟩ := x
  simp only [val, elder]
  go_enter Try.func30, Try.ntmps30
  go_wp2
  go_ret
  exact ⟨rfl, World.grownBy_alloc _ _ _⟩

set_option maxHeartbeats 4000000 in
set_option maxRecDepth 100000 in
theorem sweep_any (g : Int) (c b n : Nat) (D : DataW Unit) (w : World) (hown : w.ownsMap Try.prog 3 rdz b n D) (hc : w.cell? ⟨c, 0, none⟩ = some (.int .i64 g)) (hcb : c ≠ b) :
    Calls Try.prog 29 #[.map (some b), .func (.func 30) #[] #[.pointer (some ⟨c, 0, none⟩)]] w fun e w' =>
      e = .returned (.tuple #[]) ∧ w'.ownsMap Try.prog 3 rdz b n (Lib.deleteFuncD (isElder g) D) ∧ w.grownBy w' (some b) := by
  obtain ⟨es0, rfl, hap, hkeys⟩ := hown.entries int_key
  have hlt : c < w.heap.size := World.block_lt_of_cell? _ _ hc
  have HD := Lib.hid (fun (W : World) (k : Int) (x : Lz) (hg : w.grownBy W (some b)) => elder_any k g c x W ((World.cell?_of_block (hg.block c hlt (by simpa using hcb))).trans hc) (Nat.lt_of_lt_of_le hlt hg.size))
  clear hc
  go_enter Try.func29, Try.ntmps29
  go_wp2_with (first
    | (at_range; refine wpList_range_own _ rfl _ 48 rfl 3 33 int_key Try.underlying48 rdz b n _ rfl hown ?_; intro w0 hrg0 hg0 hs0)
    | go_in)
  go_frame
  go_loopw [8] (fun _ wr => ∃ (left : Lit → Bool) (cnt : Nat), wr.ranges Try.prog 3 rdz b w.heap.size n (Fk (isElder g) es0 left) left cnt ∧ w.grownBy wr (some b))
    (fun _ wr => wr.rangeLeft b w.heap.size)
  case atStart => exact ⟨_, _, by rw [Fk_start hkeys]; exact hrg0, hg0.but _⟩
  case round =>
    obtain ⟨left, cnt, hrg, hgw⟩ := hrel
    go_wp2_with (first
      | (at_next; refine wpList_next_ranges _ rfl _ rfl 3 int_key rdz (Value.int .i64) val (fun key kl h => by obtain ⟨x, rfl, -⟩ := Maps.keyOf_int_inv Try.underlying3 h; exact ⟨x, rfl⟩) (fun v y h => by obtain ⟨x, rfl, -⟩ := rdz_inv h; exact ⟨x, rfl⟩) b w.heap.size n _ _ _ rfl hrg ?_ ?_)
      | go_in)
    · intro _ hl0
      go_wp2
      go_end0
      exact ⟨rfl, by rw [← Fk_end hl0]; exact hrg.owns, hgw⟩
    · intro x y k1 yd yp w1 cnt1 hkey hlx hv hat hrg1 hlt1 hg1 hs1 hen
      simp only [rdz_val, Option.some.injEq, Prod.mk.injEq] at hv
      obtain ⟨rfl, rfl⟩ := hv
      have hgw1 := hgw.andThen hg1 (fun j hj => by cases hj; exact Or.inl (Nat.le_refl _))
      have hbl := hrg1.owns.lt
      have hrl := hrg1.lt
      have hgb := World.grownBy_alloc w1 (.cells #[.int .i64 y.key, .int .i64 y.gen, .int .i64 y.amount, .int .i64 y.spent, .int .i64 y.til] 33) none
      have hgw2 := hgw1.andThen hgb (fun j hj => by cases hj)
      have hc := HD.out _ x y hgw2
      have hrg2 := Lib.hid (hrg1.alloc (.cells #[.int .i64 y.key, .int .i64 y.gen, .int .i64 y.amount, .int .i64 y.spent, .int .i64 y.til] 33))
      simp only [val] at hc hen ⊢
      cases hp : elder g y <;> rw [hp] at hc
      · go_wp2_with (first
          | (go_at_call 30; refine hc.mono ?_; rintro e w2 ⟨rfl, hg2⟩; have hrg3 := Lib.hid (hrg2.out.kept hg2 (by simp) (by simp)))
          | go_in)
        go_roundw
        case rel => exact ⟨_, cnt1, by rw [← Fk_stays hap (int_key.key hkey) hlx hp hat]; exact hrg3.out, hgw2.andThen hg2 (fun j hj => by cases hj)⟩
        case measure => rw [hrg3.out.left_eq, hrg.left_eq]; exact hlt1
      · go_wp2_with (first
          | (go_at_call 30; refine hc.mono ?_; rintro e w2 ⟨rfl, hg2⟩; have hrg3 := Lib.hid (hrg2.out.kept hg2 (by simp) (by simp)))
          | (at_delete; refine wpList_delete_ranges _ rfl _ _ 48 3 rfl 33 int_key Try.underlying48 rdz b w.heap.size n _ _ _ rfl hrg3.out _ _ rfl hkey ?_; intro w3 cnt3 hrg4 hle hturn; go_frame)
          | go_in)
        rw [strike_twice] at hrg4
        go_roundw
        case rel => exact ⟨_, cnt3, by rw [← Fk_struck hap (int_key.key hkey) hlx hp hat]; exact hrg4, (hgw2.andThen hg2 (fun j hj => by cases hj)).andThen hturn.grown (fun j hj => by cases hj; exact Or.inr rfl)⟩
        case measure => rw [hrg4.left_eq, hrg.left_eq]; omega

set_option maxHeartbeats 2000000 in
set_option maxRecDepth 100000 in
theorem sweep_nil (fv : Value) (w : World) : Calls Try.prog 29 #[.map none, fv] w fun e w' => e = .returned (.tuple #[]) ∧ w' = w.alloc (.mapIter none 0 #[] 0) := by
  have hrg := run_range_nilMap (P := Try.prog) w 48 _ _ Try.underlying48
  have hnx : ∀ ty, (Instr.next (.pointer (some ⟨w.heap.size, 0, none⟩)) false ty).run Try.prog (w.alloc (.mapIter none 0 #[] 0)) = _ := fun ty => run_next_nilMap _ ty 0 0 #[]
  go_enter Try.func29, Try.ntmps29
  go_wp2
  refine wp_loop_rounds 1 ?_
  rw [rounds_succ]
  go_wp2
  go_end0
  exact ⟨rfl, rfl⟩
/-- Any map. -/
theorem sweep_mw {B : Nat} {g : Int} {c : Nat} {w : World} {m : Option Nat} {l : List Lz} (h : Mw B w m l) (hc : w.cell? ⟨c, 0, none⟩ = some (.int .i64 g)) :
    Calls Try.prog 29 #[.map m, .func (.func 30) #[] #[.pointer (some ⟨c, 0, none⟩)]] w fun e w' =>
      e = .returned (.tuple #[]) ∧ Mw B w' m (l.filter fun x => !elder g x) ∧ w.grownBy w' m := by
  rcases h with ⟨rfl, rfl⟩ | ⟨b, D, rfl, hB, ho, hi⟩
  · refine (sweep_nil _ w).mono ?_
    rintro e w' ⟨rfl, rfl⟩
    exact ⟨rfl, .inl ⟨rfl, rfl⟩, World.grownBy_alloc _ _ _⟩
  · have hcb : c ≠ b := by
      rintro rfl
      obtain ⟨es, clock, hb, -⟩ := ho
      simp [World.cell?, hb] at hc
    refine (sweep_any g c b _ D w ho hc hcb).mono ?_
    rintro e w' ⟨rfl, ho', hg⟩
    exact ⟨rfl, Mw.of hB ho' (hi.drop _ _ fun x => rfl), hg⟩

set_option maxRecDepth 100000 in
set_option maxHeartbeats 1000000 in
theorem ndrop_any (g : Int) (w : World) : Calls Try.prog 16 #[.pointer none, .int .i64 g] w fun e w' => e = .returned (.int .i64 0) ∧ Below w.heap.size w w' := by
  go_enter Try.func16, Try.ntmps16
  go_wp2
  go_ret
  exact ⟨rfl, lay _ _⟩
theorem drop_count (l : List Lz) (g : Int) : ((l.countP (elder g) : Nat) : Int) = (l.length : Int) - ((l.filter fun x => !elder g x).length : Nat) := by
  have h := List.length_eq_countP_add_countP (elder g) (l := l)
  rw [← List.countP_eq_length_filter (p := fun x => !elder g x)]
  have : (l.countP fun a => decide ¬elder g a = true) = l.countP fun x => !elder g x := List.countP_congr fun x _ => by simp
  omega

set_option maxRecDepth 100000 in
set_option maxHeartbeats 1000000 in
theorem pdrop_any {B q : Nat} {w : World} {l : List Lz} (h : Pm B w q l) (hB : B ≤ w.heap.size) (hlen : l.length ≤ 100) (g : Int) :
    Calls Try.prog 16 #[.pointer (some ⟨q, 0, none⟩), .int .i64 g] w fun e w' => e = .returned (.int .i64 (drop l g).2) ∧ Moved Pm B w q (drop l g).1 w' := by
  obtain ⟨m, hc, _, hm⟩ := h.cell
  have hq := h.lt
  have HT := Lib.hid (fun u v w' l' (hu : Below w.heap.size w u) (hv : u.grownBy v m) (hl : Mw B v m l') (hw : Below v.heap.size v w') => h.turned hB hc hu hm hv hl hw)
  have hb1 := lay w (.cells #[.int .i64 g] 3)
  have hz := (MapKept.heap_alloc w (.cells #[.int .i64 g] 3)).1
  have hm1 := hm.below hb1
  have hc1 := cell_on hc hb1
  have hq1 := Nat.lt_of_lt_of_le hq hb1.size
  have hs := Lib.hid (sweep_mw (g := g) (c := w.heap.size) hm1 (by rw [cell_of_row _ _ 0 _ _ (0, 0) hz]; rfl))
  have hn := fun ty => hm1.len ty
  have hqc : (w.alloc (.cells #[.int .i64 g] 3)).heap[q]? = some (.cells #[.map m] 50 (0, 0)) := by
    obtain ⟨_, m', h1, -⟩ := h.below hb1
    rw [cell_of_row _ q 0 _ _ (0, 0) h1] at hc1
    simp at hc1
    rw [h1, hc1]
  have hM1 := Lib.hid hm1
  have e : (drop l g).1 = l.filter fun x => !elder g x := rfl
  have e2 : (drop l g).2 = (l.length : Int) - ((l.filter fun x => !elder g x).length : Nat) := drop_count l g
  have hle := List.length_filter_le (fun x => !elder g x) l
  rw [e, e2]
  generalize (l.filter fun x => !elder g x) = l' at hs hle ⊢
  have hd : IntKind.i64.wrap ((l.length : Int) - (l'.length : Int)) = (l.length : Int) - (l'.length : Int) := IntWalk.i64_in _ (by omega)
  have HLE := Lib.hid hle
  clear e e2 hm h hc hz hle hlen
  go_enter Try.func16, Try.ntmps16
  go_wp2_with (first
    | (go_at_call 29; refine hs.out.mono ?_; clear hs; rintro e v ⟨rfl, hmv, hgv⟩
       have hcv := turn_cell hgv hM1.out hqc
       have hc2 : v.cell? ⟨q, 0, none⟩ = some (.map m) := by rw [cell_of_row v q 0 _ _ (0, 0) hcv]; rfl
       have hn2 := fun ty => hmv.len ty
       clear hcv)
    | go_in)
  go_ret
  exact ⟨by simp [], HT.out _ _ _ _ hb1 hgv hmv (Below.refl _ _)⟩
end Go.Proofs.Ytlipepbemofihaa.Lease
