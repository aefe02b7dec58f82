/-
  Drop of any wallet of leases that rise by keys, and of none: maps.DeleteFunc of a map of leases, in whatever order its entries come; any generation.
  A step of the program's wallet, and what it leaves alone: all blocks but its own.
  Close of any wallet of leases that rise by keys, and of none; any key, any generation.
  Spend of any wallet of leases that may be, and of none; any key, cost, reading.
  Put of any wallet of leases that rise by keys, and of none; any lease.
  Drop of any wallet of leases that rise by keys, and of none: maps.DeleteFunc of a map of leases, in whatever order its entries come; any generation.
-/
import Derived.Lib.SlMapFilter
import Derived.Maps.Ext
import Derived.Maps.RangeWalk
import Derived.Laws.IdiomRangeMap
import Derived.Deep.LoopGhost
import Derived.Test.YtbgdlokegibkmaaGreatMmAg
namespace Go.Proofs.YtbgdlokegibkmaaGreat.Lease
open Go.RowKit Go.Maps
open _root_.Go.Proofs.YtbgdlokegibkmaaGreat.Codec (lt_of_heap frozen_of heap_set)
/-- Is it elder? -/
def isElder (g : Int) (_ : Lit) (d : DataW Unit) : Bool :=
  match d with
  | .agg [_, .lit (.int .i64 x), _, _, _] => decide (x < g)
  | _ => false
end Go.Proofs.YtbgdlokegibkmaaGreat.Lease

namespace Go.Proofs.YtbgdlokegibkmaaGreat.LeaseF
open _root_.Go.Proofs.YtbgdlokegibkmaaGreat.Lease
open Go.RowKit Go.Maps
open _root_.Go.Proofs.YtbgdlokegibkmaaGreat.Codec (lt_of_heap frozen_of heap_set)
/-- Where the map is, before a step: no other block but the object's, and the map's, turns. -/
structure Turns (B : Nat) (w : World) (q : Nat) (l : List Lz) (w' : World) : Prop where
  moved : Moved Pm B w q l w'
  rest : ∀ g, g < w.heap.size → g ≠ q → w.cell? ⟨q, 0, none⟩ ≠ some (.map (some g)) → w'.heap[g]? = w.heap[g]?
  fresh : ∀ b, w'.cell? ⟨q, 0, none⟩ = some (.map (some b)) → w.cell? ⟨q, 0, none⟩ = some (.map (some b)) ∨ w.heap.size ≤ b
section
variable {B q : Nat} {w w' : World} {l : List Lz}
theorem samer (h : Pm B w q l) (hB : B ≤ w.heap.size) (hb : Below w.heap.size w w') : Turns B w q l w' := ⟨h.same hB hb, fun g hg _ _ => hb.block g hg, fun b e => .inl (by rwa [hb.cell (p := ⟨q, 0, none⟩) h.lt] at e)⟩
theorem turnedr {u v : World} {m : Option Nat} {l' : List Lz} (h : Pm B w q l) (hB : B ≤ w.heap.size) (hc : w.cell? ⟨q, 0, none⟩ = some (.map m)) (hu : Below w.heap.size w u) (hm : Mw B w m l) (hv : u.grownBy v m) (hl : Mw B v m l') (hw : Below v.heap.size v w') : Turns B w q l' w' :=
  ⟨h.turned hB hc hu hm hv hl hw, fun g hg _ hne => (hw.block g (Nat.lt_of_lt_of_le (Nat.lt_of_lt_of_le hg hu.size) hv.size)).trans ((hv.block g (Nat.lt_of_lt_of_le hg hu.size) fun e => hne (by rw [hc, e])).trans (hu.block g hg)), fun b e => .inl (by
    obtain ⟨_, m', h1, _⟩ := h
    have hq : q < w.heap.size := lt_of_heap h1
    have hm' : some q ≠ m := fun e2 => by
      rcases hm with ⟨rfl, _⟩ | ⟨b2, D, rfl, _, ho, _⟩
      · cases e2
      · cases e2
        obtain ⟨es, clock, hb2, _⟩ := ho
        rw [hb2] at h1
        cases h1
    rwa [World.cell?_of_block (a := ⟨q, 0, none⟩) ((hw.block q (Nat.lt_of_lt_of_le (Nat.lt_of_lt_of_le hq hu.size) hv.size)).trans ((hv.block q (Nat.lt_of_lt_of_le hq hu.size) hm').trans (hu.block q hq)))] at e)⟩
theorem firstr {u v : World} {l' : List Lz} (h : Pm B w q l) (hB : B ≤ w.heap.size) (hu : Below w.heap.size w u) (hv : ((u.setCell ⟨q, 0, none⟩ (.map (some u.heap.size))).alloc (.map #[] 0)).grownBy v (some u.heap.size)) (hl : Mw B v (some u.heap.size) l') : Turns B w q l' v := by
  have hq := h.lt
  have es : (u.setCell ⟨q, 0, none⟩ (.map (some u.heap.size))).heap.size = u.heap.size := by simp
  refine ⟨h.first hB hu hv hl, fun g hg hne _ => ?_, fun b e => .inr ?_⟩
  · have hgu := Nat.lt_of_lt_of_le hg hu.size
    refine (hv.block g (by simp; omega) (fun e => by cases e; omega)).trans ?_
    refine (((Below.refl _ _).alloc (Nat.le_refl _) _).block g (by rw [es]; exact hgu)).trans ?_
    exact (Below.heap_setCell _ _ _ _ hne).trans (hu.block g hg)
  · have hqu := Nat.lt_of_lt_of_le hq hu.size
    have e1 : v.heap[q]? = (u.setCell ⟨q, 0, none⟩ (.map (some u.heap.size))).heap[q]? :=
      (hv.block q (by simp; omega) (fun e => by cases e; omega)).trans (((Below.refl _ _).alloc (Nat.le_refl _) _).block q (by rw [es]; exact hqu))
    obtain ⟨_, m', h1, _⟩ := h
    rw [heap_set q 0 _ _ ((hu.block q hq).trans h1)] at e1
    rw [cell_of_row v q 0 _ _ (0, 0) e1] at e
    simp at e
    have := hu.size
    omega
end
end Go.Proofs.YtbgdlokegibkmaaGreat.LeaseF

namespace Go.Proofs.YtbgdlokegibkmaaGreat.LeaseF
open _root_.Go.Proofs.YtbgdlokegibkmaaGreat.Lease
open Go.RowKit Go.Maps
theorem turn_cell {B : Nat} {u v : World} {m : Option Nat} {l : List Lz} {g : Nat} {cs : Array Value} {t : TypeId} {zz : Nat × Nat} (hg : u.grownBy v m) (hm : Mw B u m l) (h : u.heap[g]? = some (Obj.cells cs t zz)) : v.heap[g]? = some (Obj.cells cs t zz) := by
  refine (hg.block g (Codec.lt_of_heap h) fun e => ?_).trans h
  obtain ⟨es, clock, hb⟩ := Mw.map_at (e ▸ hm)
  rw [hb] at h
  cases h
set_option maxRecDepth 100000 in
set_option maxHeartbeats 1000000 in
theorem close_none (v : Value) (k g : Int) (x : Lz) (w : World)
    (ho : Calls Tryz.prog 183 #[v, .int .i64 k] w fun e w' => e = .returned (.tuple #[val x, .bool false]) ∧ Below w.heap.size w w') :
    Calls Tryz.prog 151 #[v, .int .i64 k, .int .i64 g] w fun e w' => e = .returned (.int .i64 (-1)) ∧ Below w.heap.size w w' := by
  simp only [val] at ho
  go_enter Tryz.func151, Tryz.ntmps151
  go_wp2_with (go_at_call 183; refine ho.mono ?_; clear ho; rintro e u ⟨rfl, hb⟩)
  go_ret
  exact ⟨rfl, hb.alloc hb.size _⟩
set_option maxRecDepth 100000 in
set_option maxHeartbeats 1000000 in
theorem close_some {B q : Nat} {w : World} {l : List Lz} (hB : B ≤ w.heap.size) (h : Pm B w q l) (hr : Rise l) {k g : Int} (hk : Num k) (x : Lz)
    (ho : Calls Tryz.prog 183 #[.pointer (some ⟨q, 0, none⟩), .int .i64 k] w fun e w' => e = .returned (.tuple #[val x, .bool true]) ∧ Below w.heap.size w w') :
    Calls Tryz.prog 151 #[.pointer (some ⟨q, 0, none⟩), .int .i64 k, .int .i64 g] w fun e w' => e = .returned (.int .i64 (if x.gen = g then x.spent else -1)) ∧ Turns B w q (without l k) w' := by
  obtain ⟨key, gen, amount, spent, til⟩ := x
  simp only [val] at ho ⊢
  obtain ⟨m, hc, _, hm⟩ := h.cell
  have hq := h.lt
  have HT := Lib.hid (fun u v w' l' (hu : Below w.heap.size w u) (hv : u.grownBy v m) (hl : Mw B v m l') (hw : Below v.heap.size v w') => turnedr h hB hc hu hm hv hl hw)
  have HM := Lib.hid hm
  have HC := Lib.hid (fun u (hu : Below w.heap.size w u) => cell_on hc hu)
  clear h hm hc
  by_cases hg : gen = g
  · subst hg
    rw [if_pos rfl]
    go_enter Tryz.func151, Tryz.ntmps151
    go_wp2_with (first
      | (go_at_call 183; refine ho.mono ?_; clear ho; rintro e u ⟨rfl, hb⟩; have hc := HC.out _ (hb.alloc hb.size (.cells #[.int .i64 key, .int .i64 gen, .int .i64 amount, .int .i64 spent, .int .i64 til] 135)))
      | (at_delete; refine step_cut rfl _ _ rfl (mp := m) rfl (HM.out.below (hb.alloc hb.size _)) hr hk rfl ?_; intro v hv hgv
         have hz := turn_cell hgv (HM.out.below (hb.alloc hb.size _)) (MapKept.heap_alloc u _).1
         obtain ⟨-, z1, -, z3, -⟩ := box5 hz; clear hz))
    go_ret
    exact ⟨rfl, HT.out _ _ _ _ (hb.alloc hb.size _) hgv hv (Below.refl _ _)⟩
  · rw [if_neg hg]
    go_enter Tryz.func151, Tryz.ntmps151
    go_wp2_with (first
      | (go_at_call 183; refine ho.mono ?_; clear ho; rintro e u ⟨rfl, hb⟩; have hc := HC.out _ (hb.alloc hb.size (.cells #[.int .i64 key, .int .i64 gen, .int .i64 amount, .int .i64 spent, .int .i64 til] 135)))
      | (at_delete; refine step_cut rfl _ _ rfl (mp := m) rfl (HM.out.below (hb.alloc hb.size _)) hr hk rfl ?_; intro v hv hgv
         have hz := turn_cell hgv (HM.out.below (hb.alloc hb.size _)) (MapKept.heap_alloc u _).1
         obtain ⟨-, z1, -, z3, -⟩ := box5 hz; clear hz))
    go_ret
    exact ⟨rfl, HT.out _ _ _ _ (hb.alloc hb.size _) hgv hv (Below.refl _ _)⟩
theorem pclose_any {B q : Nat} {w : World} {l : List Lz} (h : Pm B w q l) (hB : B ≤ w.heap.size) (hg : Lease.Good l) {k g : Int} (hk : Num k) :
    Calls Tryz.prog 151 #[.pointer (some ⟨q, 0, none⟩), .int .i64 k, .int .i64 g] w fun e w' => e = .returned (.int .i64 (close l k g).2) ∧ Turns B w q (close l k g).1 w' := by
  have ho := pof_any h hg.rise hk
  by_cases hp : place l k < 0
  · rw [decide_eq_false (by omega)] at ho
    refine (close_none _ k g _ w ho).mono ?_
    rintro e w' ⟨rfl, hb⟩
    unfold close
    rw [if_pos hp]
    exact ⟨rfl, samer h hB hb⟩
  · rw [decide_eq_true (by omega)] at ho
    refine (close_some hB h hg.rise (g := g) hk _ ho).mono ?_
    rintro e w' ⟨rfl, hm⟩
    have ef : found l k = the l k := by unfold found; rw [if_pos (by omega)]
    rw [ef]
    unfold without at hm
    unfold close
    rw [if_neg hp] at hm ⊢
    exact ⟨rfl, hm⟩
end Go.Proofs.YtbgdlokegibkmaaGreat.LeaseF

namespace Go.Proofs.YtbgdlokegibkmaaGreat.LeaseF
open _root_.Go.Proofs.YtbgdlokegibkmaaGreat.Lease
open Go.RowKit Go.Maps
set_option maxRecDepth 100000 in
set_option maxHeartbeats 1000000 in
theorem spend_none (v : Value) (k c now L : Int) (w : World) (hn : c < 1 ∨ L < c)
    (ho : Calls Tryz.prog 139 #[v, .int .i64 k, .int .i64 now] w fun e w' => e = .returned (.int .i64 L) ∧ Below w.heap.size w w') :
    Calls Tryz.prog 87 #[v, .int .i64 k, .int .i64 c, .int .i64 now] w fun e w' => e = .returned (.tuple #[.int .i64 0, .bool false]) ∧ Below w.heap.size w w' := by
  by_cases h1 : c < 1
  · clear hn
    go_enter Tryz.func87, Tryz.ntmps87
    go_wp2
    refine bodyPost_ret (v := .tuple #[.int .i64 0, .bool false]) (by simp [results, Tryz.results87, go_sem]) rfl ⟨rfl, ?_⟩
    exact Below.refl _ _
  · have h2 : L < c := by omega
    clear hn
    go_enter Tryz.func87, Tryz.ntmps87
    go_wp2_with (go_at_call 139; refine ho.mono ?_; clear ho; rintro e u ⟨rfl, hb⟩)
    refine bodyPost_ret (v := .tuple #[.int .i64 0, .bool false]) (by simp [results, Tryz.results87, go_sem]) rfl ⟨rfl, ?_⟩
    exact hb
set_option maxRecDepth 100000 in
set_option maxHeartbeats 2000000 in
theorem spend_some {B q : Nat} {w : World} {l : List Lz} (hB : B ≤ w.heap.size) (h : Pm B w q l) (hr : Rise l) {k c now L : Int} (hlen : l.length < maxLen) (hk : Num k) (hp : 0 ≤ place l k) (h1 : 1 ≤ c) (h2 : c ≤ L) (x : Lz) (hx : the l k = x)
    (hs : -9223372036854775808 ≤ x.spent + c ∧ x.spent + c ≤ 9223372036854775807)
    (ho : Calls Tryz.prog 139 #[.pointer (some ⟨q, 0, none⟩), .int .i64 k, .int .i64 now] w fun e w' => e = .returned (.int .i64 L) ∧ Below w.heap.size w w') :
    Calls Tryz.prog 87 #[.pointer (some ⟨q, 0, none⟩), .int .i64 k, .int .i64 c, .int .i64 now] w fun e w' => e = .returned (.tuple #[.int .i64 x.gen, .bool true]) ∧ Turns B w q (l.set (place l k).toNat (more x c)) w' := by
  have hkey : x.key = k := by rw [← hx]; exact (place_some hp).2.1
  have hfx : found l k = x := by unfold found; rw [if_pos hp, hx]
  obtain ⟨m, hc, _, hm⟩ := h.cell
  obtain ⟨b, rfl⟩ : ∃ b, m = some b := by
    rcases hm with ⟨-, rfl⟩ | ⟨b, D, rfl, -⟩
    · simp [place, Ledger.spot] at hp
    · exact ⟨b, rfl⟩
  have HG := Lib.hid (fun u (hu : Below w.heap.size w u) => (hm.below hu).get hr hk)
  rw [hfx] at HG
  have hq := h.lt
  have HT := Lib.hid (fun u v w' l' (hu : Below w.heap.size w u) (hv : u.grownBy v (some b)) (hl : Mw B v (some b) l') (hw : Below v.heap.size v w') => turnedr h hB hc hu hm hv hl hw)
  have HM := Lib.hid hm
  have HC := Lib.hid (fun u (hu : Below w.heap.size w u) => cell_on hc hu)
  clear h hm hc
  have hd : IntKind.i64.wrap (x.spent + c) = x.spent + c := IntWalk.i64_in _ hs
  obtain ⟨key, gen, amount, spent, til⟩ := x
  simp only at hkey
  subst hkey
  simp only [val] at HG hd ⊢
  clear hs hfx hx
  go_enter Tryz.func87, Tryz.ntmps87
  go_wp2_with (first
    | (go_at_call 139; refine ho.mono ?_; clear ho; rintro e u ⟨rfl, hb⟩; have hc := HC.out _ hb; have hq := Nat.lt_of_lt_of_le hq hb.size; have hl := HG.out _ hb)
    | go_in)
  have hb5 := hb.alloc hb.size (.cells #[.int .i64 key, .int .i64 gen, .int .i64 amount, .int .i64 (spent + c), .int .i64 til] 135)
  have hz := (MapKept.heap_alloc u (.cells #[.int .i64 key, .int .i64 gen, .int .i64 amount, .int .i64 (spent + c), .int .i64 til] 135)).1
  generalize (u.alloc (.cells #[.int .i64 key, .int .i64 gen, .int .i64 amount, .int .i64 (spent + c), .int .i64 til] 135)) = u5 at *
  have hc5 := HC.out _ hb5
  obtain ⟨v, hrun, hv, hgv⟩ := (HM.out.below hb5.drew).put (w := u5.drew) hr hlen ⟨key, gen, amount, spent + c, til⟩ hk
  rw [if_neg (show ¬ place l key < 0 by omega)] at hv
  simp only [val] at hrun
  obtain ⟨z0, z1, z2, z3, z4⟩ := box5 hz
  have hzv := turn_cell hgv (HM.out.below hb5.drew) hz
  obtain ⟨y0, y1, y2, y3, y4⟩ := box5 hzv
  clear hz hzv
  go_region
  all_goals go_wp2
  all_goals refine bodyPost_ret (v := .tuple #[.int .i64 gen, .bool true]) (by simp [results, Tryz.results87, go_sem]) rfl ⟨rfl, ?_⟩
  all_goals exact HT.out _ _ _ _ hb5.drew hgv hv (Below.refl _ _)
theorem pspend_any {B q : Nat} {w : World} {l : List Lz} (h : Pm B w q l) (hB : B ≤ w.heap.size) (hg : Lease.Good l) (hlen : l.length ≤ 150) {k c now : Int} (hk : Num k) :
    Calls Tryz.prog 87 #[.pointer (some ⟨q, 0, none⟩), .int .i64 k, .int .i64 c, .int .i64 now] w fun e w' => e = .returned (.tuple #[.int .i64 (spend l k c now).2.1, .bool (spend l k c now).2.2]) ∧ Turns B w q (spend l k c now).1 w' := by
  have ho := pleft_any h hg (now := now) hk
  by_cases hn : c < 1 ∨ left l k now < c
  · refine (spend_none _ k c now _ w hn ho).mono ?_
    rintro e w' ⟨rfl, hb⟩
    unfold spend
    rw [if_pos hn]
    exact ⟨rfl, samer h hB hb⟩
  · obtain ⟨hp, -, h1, h2⟩ := left_some hn
    have hm := hg.each _ (place_some hp).2.2
    refine (spend_some hB h hg.rise (by unfold maxLen; omega) hk hp h2 (by omega) _ rfl (by unfold Nums Num at hm; omega) ho).mono ?_
    rintro e w' ⟨rfl, hv⟩
    unfold spend
    rw [if_neg hn]
    exact ⟨rfl, hv⟩
end Go.Proofs.YtbgdlokegibkmaaGreat.LeaseF

namespace Go.Proofs.YtbgdlokegibkmaaGreat.LeaseF
open _root_.Go.Proofs.YtbgdlokegibkmaaGreat.Lease
open Go.RowKit Go.Maps
open _root_.Go.Proofs.YtbgdlokegibkmaaGreat.Codec (lt_of_heap frozen_of heap_set)
theorem map_some (b : Nat) (w : World) : (binOp BinOp.eql 192 (.map (some b)) (.map none)).run Tryz.prog w = .ok (.bool false) w := by kernel_rfl
theorem map_none (w : World) : (binOp BinOp.eql 192 (.map none) (.map none)).run Tryz.prog w = .ok (.bool true) w := by kernel_rfl
set_option maxRecDepth 100000 in
set_option maxHeartbeats 1000000 in
theorem pput_wrong (q : Nat) (x : Lz) (w : World) (hx : wrong x) : Calls Tryz.prog 204 #[.pointer (some ⟨q, 0, none⟩), val x] w fun e w' => e = .returned (.int .i64 1) ∧ Below w.heap.size w w' := by
  have hf := fun u => fresh_any x u
  rw [decide_eq_true hx] at hf
  clear hx
  simp only [val] at hf ⊢
  go_enter Tryz.func204, Tryz.ntmps204
  go_wp2_with (go_at_call 229; refine (hf _).mono ?_; clear hf; rintro e u ⟨rfl, hb⟩)
  go_ret
  exact ⟨rfl, (lay _ _).trans (hb.mono (by simp))⟩
set_option maxRecDepth 100000 in
set_option maxHeartbeats 2000000 in
theorem put_twice {B q : Nat} {w : World} {l : List Lz} (h : Pm B w q l) (hr : Rise l) (x : Lz) (hx : ¬ wrong x) (hk : Num x.key) (hp : 0 ≤ place l x.key) : Calls Tryz.prog 204 #[.pointer (some ⟨q, 0, none⟩), val x] w fun e w' => e = .returned (.int .i64 5) ∧ Below w.heap.size w w' := by
  have hf := fun u => fresh_any x u
  rw [decide_eq_false hx] at hf
  clear hx
  obtain ⟨m, hc, _, hm⟩ := h.cell
  have hq := h.lt
  have HL := Lib.hid (fun u (hu : Below w.heap.size w u) => (hm.below hu).look hr hk)
  have HC := Lib.hid (fun u (hu : Below w.heap.size w u) => cell_on hc hu)
  rw [decide_eq_true hp] at HL
  generalize found l x.key = y at HL
  clear hc hm h hp
  obtain ⟨key, gen, amount, spent, til⟩ := x
  simp only [val] at hf HL ⊢
  go_enter Tryz.func204, Tryz.ntmps204
  go_wp2_with (go_at_call 229; refine (hf _).mono ?_; clear hf; rintro e u ⟨rfl, hbu⟩
               have hb := (lay w _).trans (hbu.mono (by simp))
               have hz := (hbu.block w.heap.size (by simp)).trans (MapKept.heap_alloc w _).1
               obtain ⟨z0, z1, z2, z3, z4⟩ := box5 hz; clear hz
               have hw5 : w.heap.size < u.heap.size := by have := hbu.size; simp at this; omega
               clear hbu)
  have hq5 := Nat.lt_of_lt_of_le hq hb.size
  have hc5 := HC.out _ hb
  have hl5 := HL.out _ hb.drew
  have hl6 := fun o => HL.out _ (hb.alloc hb.size o).drew
  go_region
  all_goals go_wp2
  all_goals go_ret
  all_goals exact ⟨rfl, (hb.alloc hb.size _).drew⟩
set_option maxRecDepth 100000 in
set_option maxHeartbeats 2000000 in
theorem put_more {B q b : Nat} {w : World} {l : List Lz} (hB : B ≤ w.heap.size) (h : Pm B w q l) (hc : w.cell? ⟨q, 0, none⟩ = some (.map (some b))) (hr : Rise l) (hlen : l.length < maxLen) (x : Lz) (hx : ¬ wrong x) (hk : Num x.key) (hp : place l x.key < 0) :
    Calls Tryz.prog 204 #[.pointer (some ⟨q, 0, none⟩), val x] w fun e w' => e = .returned (.int .i64 0) ∧ Turns B w q (ins x l) w' := by
  have hf := fun u => fresh_any x u
  rw [decide_eq_false hx] at hf
  clear hx
  obtain ⟨m, hc', _, hm⟩ := h.cell
  obtain rfl : m = some b := by
    rw [hc] at hc'
    simpa using hc'.symm
  clear hc'
  have hq := h.lt
  have HL := Lib.hid (fun u (hu : Below w.heap.size w u) => (hm.below hu).look hr hk)
  have HC := Lib.hid (fun u (hu : Below w.heap.size w u) => cell_on hc hu)
  have HT := Lib.hid (fun u v w' l' (hu : Below w.heap.size w u) (hv : u.grownBy v (some b)) (hl : Mw B v (some b) l') (hw : Below v.heap.size v w') => turnedr h hB hc hu hm hv hl hw)
  have HU := Lib.hid (fun u (hu : Below w.heap.size w u) => (hm.below hu).put hr hlen x hk)
  rw [if_pos hp] at HU
  rw [decide_eq_false (by omega)] at HL
  generalize found l x.key = y at HL
  generalize ins x l = l' at HU ⊢
  clear hc hm h hp
  obtain ⟨key, gen, amount, spent, til⟩ := x
  simp only [val] at hf HL HU ⊢
  have he := map_some b
  go_enter Tryz.func204, Tryz.ntmps204
  go_wp2_with (go_at_call 229; refine (hf _).mono ?_; clear hf; rintro e u ⟨rfl, hbu⟩
               have hb := (lay w _).trans (hbu.mono (by simp))
               have hz := (hbu.block w.heap.size (by simp)).trans (MapKept.heap_alloc w _).1
               obtain ⟨z0, z1, z2, z3, z4⟩ := box5 hz; clear hz
               have hw5 : w.heap.size < u.heap.size := by have := hbu.size; simp at this; omega
               clear hbu)
  have hq5 := Nat.lt_of_lt_of_le hq hb.size
  have hc5 := HC.out _ hb
  have hl5 := HL.out _ hb.drew
  have hl6 := fun o => HL.out _ (hb.alloc hb.size o).drew
  go_region
  all_goals (
    clear hl5 hl6
    have hb6 := (hb.alloc hb.size (.cells #[.int .i64 y.key, .int .i64 y.gen, .int .i64 y.amount, .int .i64 y.spent, .int .i64 y.til] 135)).drew
    have hk6 : Below u.heap.size u (u.alloc (.cells #[.int .i64 y.key, .int .i64 y.gen, .int .i64 y.amount, .int .i64 y.spent, .int .i64 y.til] 135)).drew := (lay u _).drew
    obtain ⟨u6, h6⟩ : ∃ u6, (u.alloc (.cells #[.int .i64 y.key, .int .i64 y.gen, .int .i64 y.amount, .int .i64 y.spent, .int .i64 y.til] 135)).drew = u6 := ⟨_, rfl⟩
    rw [h6] at hb6 hk6 ⊢
    replace z0 := cell_on z0 hk6
    replace z1 := cell_on z1 hk6
    replace z2 := cell_on z2 hk6
    replace z3 := cell_on z3 hk6
    replace z4 := cell_on z4 hk6
    clear hk6 h6 hc5
    have hc6 := HC.out _ hb6
    obtain ⟨v, hrun, hv, hgv⟩ := HU.out _ hb6.drew
    go_wp2)
  all_goals go_region
  all_goals go_wp2
  all_goals go_ret
  all_goals exact ⟨rfl, HT.out _ _ _ _ hb6.drew hgv hv (Below.refl _ _)⟩
theorem first_made {B q : Nat} (u : World) (hB : B ≤ u.heap.size) : Mw B ((u.setCell ⟨q, 0, none⟩ (.map (some u.heap.size))).alloc (.map #[] 0)) (some u.heap.size) [] := by
  have h := World.ownsMap_made (u.setCell ⟨q, 0, none⟩ (.map (some u.heap.size))) Tryz.prog 3 rdz
  have es : (u.setCell ⟨q, 0, none⟩ (.map (some u.heap.size))).heap.size = u.heap.size := by simp
  rw [es] at h
  exact Mw.of hB h is_nil
set_option maxRecDepth 100000 in
set_option maxHeartbeats 2000000 in
theorem put_first {B q : Nat} {w : World} (hB : B ≤ w.heap.size) (h : Pm B w q []) (hc : w.cell? ⟨q, 0, none⟩ = some (.map none)) (x : Lz) (hx : ¬ wrong x) (hk : Num x.key) :
    Calls Tryz.prog 204 #[.pointer (some ⟨q, 0, none⟩), val x] w fun e w' => e = .returned (.int .i64 0) ∧ Turns B w q [x] w' := by
  have hf := fun u => fresh_any x u
  rw [decide_eq_false hx] at hf
  clear hx
  obtain ⟨m, hc', hfz, hm⟩ := h.cell
  obtain rfl : m = none := by
    rw [hc] at hc'
    simpa using hc'.symm
  clear hc'
  have hq := h.lt
  have HL := Lib.hid (fun u (hu : Below w.heap.size w u) => (hm.below hu).look (k := x.key) .nil hk)
  have HC := Lib.hid (fun u (hu : Below w.heap.size w u) => cell_on hc hu)
  have HF := Lib.hid (fun u (hu : Below w.heap.size w u) => (hu.frozen (p := ⟨q, 0, none⟩) hq).trans hfz)
  have HT := Lib.hid (fun u v l' (hu : Below w.heap.size w u) hv (hl : Mw B v (some u.heap.size) l') => firstr h hB hu hv hl)
  have HU := Lib.hid (fun u (hu : Below w.heap.size w u) => (Mw.below (first_made (q := q) u (Nat.le_trans hB hu.size)) (Below.refl _ _).drew).put .nil (by decide) x hk)
  rw [if_pos (by simp [place, Ledger.spot])] at HU
  rw [decide_eq_false (by simp [place, Ledger.spot])] at HL
  generalize found [] x.key = y at HL
  have el : ins x [] = [x] := rfl
  rw [el] at HU
  generalize [x] = l' at HU ⊢
  clear hc hm h el
  obtain ⟨key, gen, amount, spent, til⟩ := x
  simp only [val] at hf HL HU ⊢
  have hmm := @run_makeMap Tryz.prog
  have he := map_none
  go_enter Tryz.func204, Tryz.ntmps204
  go_wp2_with (go_at_call 229; refine (hf _).mono ?_; clear hf; rintro e u ⟨rfl, hbu⟩
               have hb := (lay w _).trans (hbu.mono (by simp))
               have hz := (hbu.block w.heap.size (by simp)).trans (MapKept.heap_alloc w _).1
               obtain ⟨z0, z1, z2, z3, z4⟩ := box5 hz; clear hz
               have hw5 : w.heap.size < u.heap.size := by have := hbu.size; simp at this; omega
               clear hbu)
  have hq5 := Nat.lt_of_lt_of_le hq hb.size
  have hc5 := HC.out _ hb
  have hl5 := HL.out _ hb.drew
  have hl6 := fun o => HL.out _ (hb.alloc hb.size o).drew
  go_region
  all_goals (
    clear hl5 hl6
    have hb6 := (hb.alloc hb.size (.cells #[.int .i64 y.key, .int .i64 y.gen, .int .i64 y.amount, .int .i64 y.spent, .int .i64 y.til] 135)).drew
    have hk6 : Below u.heap.size u (u.alloc (.cells #[.int .i64 y.key, .int .i64 y.gen, .int .i64 y.amount, .int .i64 y.spent, .int .i64 y.til] 135)).drew := (lay u _).drew
    obtain ⟨u6, h6⟩ : ∃ u6, (u.alloc (.cells #[.int .i64 y.key, .int .i64 y.gen, .int .i64 y.amount, .int .i64 y.spent, .int .i64 y.til] 135)).drew = u6 := ⟨_, rfl⟩
    rw [h6] at hb6 hk6 ⊢
    replace z0 := cell_on z0 hk6
    replace z1 := cell_on z1 hk6
    replace z2 := cell_on z2 hk6
    replace z3 := cell_on z3 hk6
    replace z4 := cell_on z4 hk6
    have hw6 : w.heap.size < u6.heap.size := Nat.lt_of_lt_of_le hw5 hk6.size
    clear hk6 h6 hc5 hw5
    have hq6 := Nat.lt_of_lt_of_le hq hb6.size
    have hc6 := HC.out _ hb6
    have hf6 := HF.out _ hb6
    have hne : ¬ (q = w.heap.size) := by omega
    have hne' : ¬ (w.heap.size = q) := by omega
    obtain ⟨v, hrun, hv, hgv⟩ := HU.out _ hb6
    go_wp2)
  all_goals go_region
  all_goals go_wp2
  all_goals go_ret
  all_goals exact ⟨rfl, HT.out _ _ _ hb6 ⟨hgv.os, hgv.tape, hgv.output, hgv.size, hgv.block⟩ hv⟩
theorem pput_any {B q : Nat} {w : World} {l : List Lz} (h : Pm B w q l) (hB : B ≤ w.heap.size) (hg : Lease.Good l) (hlen : l.length ≤ 100) (x : Lz) (hk : Num x.key) :
    Calls Tryz.prog 204 #[.pointer (some ⟨q, 0, none⟩), val x] w fun e w' => e = .returned (.int .i64 (put l x).2) ∧ Turns B w q (put l x).1 w' := by
  unfold put
  by_cases hx : wrong x
  · rw [if_pos hx]
    refine (pput_wrong q x w hx).mono ?_
    rintro e w' ⟨rfl, hb⟩
    exact ⟨rfl, samer h hB hb⟩
  rw [if_neg hx]
  by_cases hp : 0 ≤ place l x.key
  · rw [if_pos hp]
    refine (put_twice h hg.rise x hx hk hp).mono ?_
    rintro e w' ⟨rfl, hb⟩
    exact ⟨rfl, samer h hB hb⟩
  rw [if_neg hp]
  obtain ⟨m, hc, -, hm⟩ := h.cell
  rcases hm with ⟨rfl, rfl⟩ | ⟨b, D, rfl, -⟩
  · exact put_first hB h hc x hx hk
  · exact put_more hB h hc hg.rise (by unfold maxLen; omega) x hx hk (by omega)
end Go.Proofs.YtbgdlokegibkmaaGreat.LeaseF

namespace Go.Proofs.YtbgdlokegibkmaaGreat.LeaseF
open _root_.Go.Proofs.YtbgdlokegibkmaaGreat.Lease
open Go.RowKit Go.Maps
open _root_.Go.Proofs.YtbgdlokegibkmaaGreat.Codec (lt_of_heap frozen_of heap_set)
/-- Is it elder? -/
def isElder (g : Int) (_ : Lit) (d : DataW Unit) : Bool :=
  match d with
  | .agg [_, .lit (.int .i64 x), _, _, _] => decide (x < g)
  | _ => false
set_option maxRecDepth 100000 in
set_option maxHeartbeats 1000000 in
theorem elder_any (k g : Int) (c : Nat) (x : Lz) (w : World) (hc : w.cell? ⟨c, 0, none⟩ = some (.int .i64 g)) (hlt : c < w.heap.size) :
    Calls Tryz.prog 195 #[.int .i64 k, val x, .pointer (some ⟨c, 0, none⟩)] w fun e w' => e = .returned (.bool (elder g x)) ∧ w.grownBy w' none := by
  obtain ⟨key, gen, amount, spent, til⟩ := x
  simp only [val, elder]
  go_enter Tryz.func195, Tryz.ntmps195
  go_wp2
  go_ret
  exact ⟨rfl, World.grownBy_alloc _ _ _⟩
set_option maxHeartbeats 4000000 in
set_option maxRecDepth 100000 in
theorem sweep_any (g : Int) (c b n : Nat) (D : DataW Unit) (w : World) (hown : w.ownsMap Tryz.prog 3 rdz b n D) (hc : w.cell? ⟨c, 0, none⟩ = some (.int .i64 g)) (hcb : c ≠ b) :
    Calls Tryz.prog 194 #[.map (some b), .func (.func 195) #[] #[.pointer (some ⟨c, 0, none⟩)]] w fun e w' =>
      e = .returned (.tuple #[]) ∧ w'.ownsMap Tryz.prog 3 rdz b n (Lib.deleteFuncD (isElder g) D) ∧ w.grownBy w' (some b) := by
  obtain ⟨es0, rfl, hap, hkeys⟩ := hown.entries int_key
  have hlt : c < w.heap.size := World.block_lt_of_cell? _ _ hc
  have HD := Lib.hid (fun (W : World) (k : Int) (x : Lz) (hg : w.grownBy W (some b)) => elder_any k g c x W ((World.cell?_of_block (hg.block c hlt (by simpa using hcb))).trans hc) (Nat.lt_of_lt_of_le hlt hg.size))
  clear hc
  go_enter Tryz.func194, Tryz.ntmps194
  go_wp2_with (first
    | (at_range; refine wpList_range_own _ rfl _ 192 rfl 3 135 int_key Tryz.underlying192 rdz b n _ rfl hown ?_; intro w0 hrg0 hg0 hs0)
    | go_in)
  go_frame
  go_loopw [8] (fun _ wr => ∃ (left : Lit → Bool) (cnt : Nat), wr.ranges Tryz.prog 3 rdz b w.heap.size n (Fk (isElder g) es0 left) left cnt ∧ w.grownBy wr (some b))
    (fun _ wr => wr.rangeLeft b w.heap.size)
  case atStart => exact ⟨_, _, by rw [Fk_start hkeys]; exact hrg0, hg0.but _⟩
  case round =>
    obtain ⟨left, cnt, hrg, hgw⟩ := hrel
    go_wp2_with (first
      | (at_next; refine wpList_next_ranges _ rfl _ rfl 3 int_key rdz (Value.int .i64) val (fun key kl h => by obtain ⟨x, rfl, -⟩ := Maps.keyOf_int_inv Tryz.underlying3 h; exact ⟨x, rfl⟩) (fun v y h => by obtain ⟨x, rfl, -⟩ := rdz_inv h; exact ⟨x, rfl⟩) b w.heap.size n _ _ _ rfl hrg ?_ ?_)
      | go_in)
    · intro _ hl0
      go_wp2
      go_end0
      exact ⟨rfl, by rw [← Fk_end hl0]; exact hrg.owns, hgw⟩
    · intro x y k1 yd yp w1 cnt1 hkey hlx hv hat hrg1 hlt1 hg1 hs1 hen
      simp only [rdz_val, Option.some.injEq, Prod.mk.injEq] at hv
      obtain ⟨rfl, rfl⟩ := hv
      have hgw1 := hgw.andThen hg1 (fun j hj => by cases hj; exact Or.inl (Nat.le_refl _))
      have hbl := hrg1.owns.lt
      have hrl := hrg1.lt
      have hgb := World.grownBy_alloc w1 (.cells #[.int .i64 y.key, .int .i64 y.gen, .int .i64 y.amount, .int .i64 y.spent, .int .i64 y.til] 135) none
      have hgw2 := hgw1.andThen hgb (fun j hj => by cases hj)
      have hc := HD.out _ x y hgw2
      have hrg2 := Lib.hid (hrg1.alloc (.cells #[.int .i64 y.key, .int .i64 y.gen, .int .i64 y.amount, .int .i64 y.spent, .int .i64 y.til] 135))
      simp only [val] at hc hen ⊢
      cases hp : elder g y <;> rw [hp] at hc
      · go_wp2_with (first
          | (go_at_call 195; refine hc.mono ?_; rintro e w2 ⟨rfl, hg2⟩; have hrg3 := Lib.hid (hrg2.out.kept hg2 (by simp) (by simp)))
          | go_in)
        go_roundw
        case rel => exact ⟨_, cnt1, by rw [← Fk_stays hap (int_key.key hkey) hlx hp hat]; exact hrg3.out, hgw2.andThen hg2 (fun j hj => by cases hj)⟩
        case measure => rw [hrg3.out.left_eq, hrg.left_eq]; exact hlt1
      · go_wp2_with (first
          | (go_at_call 195; refine hc.mono ?_; rintro e w2 ⟨rfl, hg2⟩; have hrg3 := Lib.hid (hrg2.out.kept hg2 (by simp) (by simp)))
          | (at_delete; refine wpList_delete_ranges _ rfl _ _ 192 3 rfl 135 int_key Tryz.underlying192 rdz b w.heap.size n _ _ _ rfl hrg3.out _ _ rfl hkey ?_; intro w3 cnt3 hrg4 hle hturn; go_frame)
          | go_in)
        rw [strike_twice] at hrg4
        go_roundw
        case rel => exact ⟨_, cnt3, by rw [← Fk_struck hap (int_key.key hkey) hlx hp hat]; exact hrg4, (hgw2.andThen hg2 (fun j hj => by cases hj)).andThen hturn.grown (fun j hj => by cases hj; exact Or.inr rfl)⟩
        case measure => rw [hrg4.left_eq, hrg.left_eq]; omega
set_option maxHeartbeats 2000000 in
set_option maxRecDepth 100000 in
theorem sweep_nil (fv : Value) (w : World) : Calls Tryz.prog 194 #[.map none, fv] w fun e w' => e = .returned (.tuple #[]) ∧ w' = w.alloc (.mapIter none 0 #[] 0) := by
  have hrg := run_range_nilMap (P := Tryz.prog) w 192 _ _ Tryz.underlying192
  have hnx : ∀ ty, (Instr.next (.pointer (some ⟨w.heap.size, 0, none⟩)) false ty).run Tryz.prog (w.alloc (.mapIter none 0 #[] 0)) = _ := fun ty => run_next_nilMap _ ty 0 0 #[]
  go_enter Tryz.func194, Tryz.ntmps194
  go_wp2
  refine wp_loop_rounds 1 ?_
  rw [rounds_succ]
  go_wp2
  go_end0
  exact ⟨rfl, rfl⟩
/-- Any map. -/
theorem sweep_mw {B : Nat} {g : Int} {c : Nat} {w : World} {m : Option Nat} {l : List Lz} (h : Mw B w m l) (hc : w.cell? ⟨c, 0, none⟩ = some (.int .i64 g)) :
    Calls Tryz.prog 194 #[.map m, .func (.func 195) #[] #[.pointer (some ⟨c, 0, none⟩)]] w fun e w' =>
      e = .returned (.tuple #[]) ∧ Mw B w' m (l.filter fun x => !elder g x) ∧ w.grownBy w' m := by
  rcases h with ⟨rfl, rfl⟩ | ⟨b, D, rfl, hB, ho, hi⟩
  · refine (sweep_nil _ w).mono ?_
    rintro e w' ⟨rfl, rfl⟩
    exact ⟨rfl, .inl ⟨rfl, rfl⟩, World.grownBy_alloc _ _ _⟩
  · have hcb : c ≠ b := by
      rintro rfl
      obtain ⟨es, clock, hb, -⟩ := ho
      simp [World.cell?, hb] at hc
    refine (sweep_any g c b _ D w ho hc hcb).mono ?_
    rintro e w' ⟨rfl, ho', hg⟩
    exact ⟨rfl, Mw.of hB ho' (hi.drop _ _ fun x => rfl), hg⟩
theorem drop_count (l : List Lz) (g : Int) : ((l.countP (elder g) : Nat) : Int) = (l.length : Int) - ((l.filter fun x => !elder g x).length : Nat) := by
  have h := List.length_eq_countP_add_countP (elder g) (l := l)
  rw [← List.countP_eq_length_filter (p := fun x => !elder g x)]
  have : (l.countP fun a => decide ¬elder g a = true) = l.countP fun x => !elder g x := List.countP_congr fun x _ => by simp
  omega
set_option maxRecDepth 100000 in
set_option maxHeartbeats 1000000 in
theorem pdrop_any {B q : Nat} {w : World} {l : List Lz} (h : Pm B w q l) (hB : B ≤ w.heap.size) (hlen : l.length ≤ 100) (g : Int) :
    Calls Tryz.prog 157 #[.pointer (some ⟨q, 0, none⟩), .int .i64 g] w fun e w' => e = .returned (.int .i64 (drop l g).2) ∧ Turns B w q (drop l g).1 w' := by
  obtain ⟨m, hc, _, hm⟩ := h.cell
  have hq := h.lt
  have HT := Lib.hid (fun u v w' l' (hu : Below w.heap.size w u) (hv : u.grownBy v m) (hl : Mw B v m l') (hw : Below v.heap.size v w') => turnedr h hB hc hu hm hv hl hw)
  have hb1 := lay w (.cells #[.int .i64 g] 3)
  have hz := (MapKept.heap_alloc w (.cells #[.int .i64 g] 3)).1
  have hm1 := hm.below hb1
  have hc1 := cell_on hc hb1
  have hq1 := Nat.lt_of_lt_of_le hq hb1.size
  have hs := Lib.hid (sweep_mw (g := g) (c := w.heap.size) hm1 (by rw [cell_of_row _ _ 0 _ _ (0, 0) hz]; rfl))
  have hn := fun ty => hm1.len ty
  have hqc : (w.alloc (.cells #[.int .i64 g] 3)).heap[q]? = some (.cells #[.map m] 194 (0, 0)) := by
    obtain ⟨_, m', h1, -⟩ := h.below hb1
    rw [cell_of_row _ q 0 _ _ (0, 0) h1] at hc1
    simp at hc1
    rw [h1, hc1]
  have hM1 := Lib.hid hm1
  have e : (drop l g).1 = l.filter fun x => !elder g x := rfl
  have e2 : (drop l g).2 = (l.length : Int) - ((l.filter fun x => !elder g x).length : Nat) := drop_count l g
  have hle := List.length_filter_le (fun x => !elder g x) l
  rw [e, e2]
  generalize (l.filter fun x => !elder g x) = l' at hs hle ⊢
  have hd : IntKind.i64.wrap ((l.length : Int) - (l'.length : Int)) = (l.length : Int) - (l'.length : Int) := IntWalk.i64_in _ (by omega)
  have HLE := Lib.hid hle
  clear e e2 hm h hc hz hle hlen
  go_enter Tryz.func157, Tryz.ntmps157
  go_wp2_with (first
    | (go_at_call 194; refine hs.out.mono ?_; clear hs; rintro e v ⟨rfl, hmv, hgv⟩
       have hcv := turn_cell hgv hM1.out hqc
       have hc2 : v.cell? ⟨q, 0, none⟩ = some (.map m) := by rw [cell_of_row v q 0 _ _ (0, 0) hcv]; rfl
       have hn2 := fun ty => hmv.len ty
       clear hcv)
    | go_in)
  go_ret
  exact ⟨by simp [], HT.out _ _ _ _ hb1 hgv hmv (Below.refl _ _)⟩
end Go.Proofs.YtbgdlokegibkmaaGreat.LeaseF
