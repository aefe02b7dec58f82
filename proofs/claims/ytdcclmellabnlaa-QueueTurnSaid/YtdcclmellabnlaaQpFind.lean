/-
  The program's closures over one number, named, right, head, picked; slices.IndexFunc, ContainsFunc and Clone at items. Of slices of up to 1000 items.
-/
import Derived.Test.YtdcclmellabnlaaQpWords
import Derived.Lib.SliceRun
namespace Go.Proofs.Ytdcclmellabnlaa.Queue
open Go.RowKit
open _root_.Go.Proofs.Ytdcclmellabnlaa.Codec (lt_of_heap frozen_of heap_set below_new own_below)
open _root_.Go.Proofs.Ytdcclmellabnlaa.Kit (Enc Lies Own At Kept Laid Off cell_on lt_heap take_snoc below_drewN box5 ints own_keep own_lt)
open _root_.Go.Proofs.Ytdcclmellabnlaa.Ledger (spot spot_at spot_none spot_cases)

/-- A function value over one captured number tells f of each item, and makes memory alone. -/
def Gives (c : Nat) (id : Int) (g : Nat) (f : It → Bool) : Prop := ∀ (u : World) (x : It), u.cell? ⟨c, 0, none⟩ = some (.int .i64 id) → Calls Try.prog g #[val x, .pointer (some ⟨c, 0, none⟩)] u fun e w' => e = .returned (.bool (f x)) ∧ Below u.heap.size u w'
abbrev fnv (g c : Nat) : Value := .func (.func g) #[] #[.pointer (some ⟨c, 0, none⟩)]
abbrev Ent (g : Nat) : Prop := ∀ args w, (callFunc g args).run Try.prog w = .ok (.enter g args) w
theorem ent_named : Ent 51 := _root_.Go.Proofs.enters_of Try.func51 (by kernel_rfl) rfl
theorem ent_expire : Ent 42 := _root_.Go.Proofs.enters_of Try.func42 (by kernel_rfl) rfl
theorem ent_of : Ent 29 := _root_.Go.Proofs.enters_of Try.func29 (by kernel_rfl) rfl
def isId (id : Int) (x : It) : Bool := x.id == id
def isKey (k : Int) (x : It) : Bool := x.key == k
set_option maxRecDepth 100000 in
set_option maxHeartbeats 1000000 in
theorem gives_named (c : Nat) (id : Int) : Gives c id 51 (isId id) := by
  intro u x hc
  have hl := World.block_lt_of_cell? _ _ hc
  obtain ⟨xi, xk, xc, xs, xt⟩ := x
  simp only [val, isId]
  go_enter Try.func51, Try.ntmps51
  go_wp2
  go_ret
  exact ⟨rfl, lay _ _⟩
set_option maxRecDepth 100000 in
set_option maxHeartbeats 1000000 in
theorem gives_expire (c : Nat) (now : Int) : Gives c now 42 (due now) := by
  intro u x hc
  have hl := World.block_lt_of_cell? _ _ hc
  obtain ⟨xi, xk, xc, xs, xt⟩ := x
  simp only [val, due]
  go_enter Try.func42, Try.ntmps42
  go_wp2
  go_ret
  exact ⟨rfl, lay _ _⟩
set_option maxRecDepth 100000 in
set_option maxHeartbeats 1000000 in
theorem gives_of (c : Nat) (key : Int) : Gives c key 29 (isKey key) := by
  intro u x hc
  have hl := World.block_lt_of_cell? _ _ hc
  obtain ⟨xi, xk, xc, xs, xt⟩ := x
  simp only [val, isKey]
  go_enter Try.func29, Try.ntmps29
  go_wp2
  go_ret
  exact ⟨rfl, lay _ _⟩
set_option maxRecDepth 100000 in
set_option maxHeartbeats 1000000 in
theorem named_any (id : Int) (w : World) : Calls Try.prog 39 #[.int .i64 id] w fun e w' => e = .returned (fnv 51 w.heap.size) ∧ w'.cell? ⟨w.heap.size, 0, none⟩ = some (.int .i64 id) ∧ Below w.heap.size w w' := by
  have HB := Lib.hid (lay w (.cells #[.int .i64 id] 3))
  have HK := Lib.hid (cell_of_row _ w.heap.size 0 _ _ (0, 0) (heap_alloc_new w (.cells #[.int .i64 id] 3)))
  go_enter Try.func39, Try.ntmps39
  go_wp2
  refine bodyPost_ret (v := fnv 51 w.heap.size) (by simp [results, Try.results39, go_sem]) rfl ⟨rfl, HK.out, HB.out⟩
set_option maxRecDepth 100000 in
set_option maxHeartbeats 1000000 in
theorem right_any (x : It) (w : World) : Calls Try.prog 40 #[val x] w fun e w' => e = .returned (.bool (decide (¬ wrong x))) ∧ Below w.heap.size w w' := by
  have hc : (¬ 1 ≤ x.cost ∧ decide (¬ wrong x) = false) ∨ 1 ≤ x.cost ∧ ((¬ 0 ≤ x.cls ∧ decide (¬ wrong x) = false) ∨ 0 ≤ x.cls ∧ ((¬ x.cls ≤ 2 ∧ decide (¬ wrong x) = false) ∨ x.cls ≤ 2 ∧ (¬ 0 ≤ x.til ∧ decide (¬ wrong x) = false ∨ 0 ≤ x.til ∧ decide (¬ wrong x) = true))) := by
    simp only [decide_eq_false_iff_not, decide_eq_true_eq]
    unfold wrong
    omega
  generalize decide (¬ wrong x) = R at *
  obtain ⟨xi, xk, xc, xs, xt⟩ := x
  simp only [val] at *
  rcases hc with ⟨h1, rfl⟩ | ⟨h1, ⟨h2, rfl⟩ | ⟨h2, ⟨h3, rfl⟩ | ⟨h3, ⟨h4, rfl⟩ | ⟨h4, rfl⟩⟩⟩⟩
  all_goals
    go_enter Try.func40, Try.ntmps40
    go_wp2
    go_ret
    exact ⟨rfl, lay _ _⟩
set_option maxRecDepth 100000 in
set_option maxHeartbeats 4000000 in
theorem index_any {c g : Nat} {id : Int} {f : It → Bool} (eg : Ent g) (hg : Gives c id g f) {l : List It} {p : Option Addr} {d : Nat} {w : World} (h : Lies item w p l) (hl : l.length ≤ 1000) (hc : w.cell? ⟨c, 0, none⟩ = some (.int .i64 id)) :
    Calls Try.prog 52 #[.slice p l.length d, fnv g c] w fun e w' => e = .returned (.int .i64 (spot f l)) ∧ Below w.heap.size w w' := by
  have HG := Lib.hid (fun u x (hu : Below w.heap.size w u) => hg u x (cell_on hc hu))
  have HL := Lib.hid h
  have HS := Lib.hid (fun (j : Nat) (hj : j < l.length) (hn : ∀ i, i < j → f (l.getD i z) = false) (hy : f (l.getD j z) = true) => spot_at f z l j hj hn hy)
  have HN := Lib.hid (fun (hn : ∀ i, i < l.length → f (l.getD i z) = false) => spot_none f z l hn)
  generalize spot f l = R at *
  clear h hc hg
  go_enter Try.func52, Try.ntmps52
  go_wp2
  go_loopw [8] (fun i wr => ∃ j : Nat, j ≤ l.length ∧ i = .int .i64 (j : Int) ∧ Hid (∀ i, i < j → f (l.getD i z) = false) ∧ Hid (Below w.heap.size w wr)) (fun i _ => l.length - (intOf i).toNat)
  case atStart => exact ⟨0, by omega, rfl, Lib.hid fun i hi => by omega, Lib.hid (Below.refl _ _)⟩
  case round =>
    obtain ⟨j, hj, rfl, HNE, HB⟩ := hrel
    by_cases hlt : j < l.length
    · have hlt' : (j : Int) < (l.length : Int) := by omega
      obtain ⟨b, o, rfl, ha⟩ := lies_at (HL.out.below HB.out) hlt
      obtain ⟨k0, k1, k2, k3, k4⟩ := at5 ha
      have HC := HG.out wr (l.getD j z) HB.out
      have HY := Lib.hid (fun hy => HS.out j hlt HNE.out hy)
      have HO := Lib.hid (fun (hy : f (l.getD j z) = false) (i : Nat) (hi : i < j + 1) => show f (l.getD i z) = false by
        by_cases e : i = j
        · rw [e]; exact hy
        · exact HNE.out i (by omega))
      generalize f (l.getD j z) = B at *
      generalize l.getD j z = x at *
      obtain ⟨xi, xk, xc, xs, xt⟩ := x
      simp only [val] at k0 k1 k2 k3 k4 HC
      clear ha HL HNE HS HN
      cases B
      · have HO2 := Lib.hid (HO.out rfl)
        go_wp2_with (go_at_fn g; (with_reducible refine HC.mono ?_); rintro e w2 ⟨rfl, hb⟩; have HB2 := Lib.hid (HB.out.trans (hb.mono HB.out.size)); clear hb HC)
        go_roundw
        case rel => exact ⟨j + 1, by omega, by go_num, HO2, HB2⟩
        case measure => simp only [intOf]; omega
      · have HY2 := Lib.hid (HY.out rfl)
        go_wp2_with (go_at_fn g; (with_reducible refine HC.mono ?_); rintro e w2 ⟨rfl, hb⟩; have HB2 := Lib.hid (HB.out.trans (hb.mono HB.out.size)); clear hb HC)
        go_ret
        exact ⟨by rw [HY2.out]; rfl, HB2.out⟩
    · have hlt' : ¬ (j : Int) < (l.length : Int) := by omega
      have HE := Lib.hid (HN.out (fun i hi => HNE.out i (by omega)))
      clear HL HNE HS HN
      go_wp2
      go_ret
      exact ⟨by rw [HE.out]; rfl, HB.out⟩
set_option maxRecDepth 100000 in
set_option maxHeartbeats 1000000 in
theorem contains_any {c g : Nat} {id : Int} {f : It → Bool} (eg : Ent g) (hg : Gives c id g f) {l : List It} {p : Option Addr} {d : Nat} {w : World} (h : Lies item w p l) (hl : l.length ≤ 1000) (hc : w.cell? ⟨c, 0, none⟩ = some (.int .i64 id)) :
    Calls Try.prog 41 #[.slice p l.length d, fnv g c] w fun e w' => e = .returned (.bool (decide (0 ≤ spot f l))) ∧ Below w.heap.size w w' := by
  have hi := index_any eg hg (d := d) h hl hc
  generalize spot f l = R at *
  clear h hc hg
  go_enter Try.func41, Try.ntmps41
  go_wp2_with (go_at_call 52; (with_reducible refine hi.mono ?_); rintro e w2 ⟨rfl, hb⟩; have HB2 := Lib.hid hb; clear hb hi)
  go_ret
  exact ⟨rfl, HB2.out⟩
set_option maxRecDepth 100000 in
set_option maxHeartbeats 4000000 in
theorem picked_any {c g : Nat} {id : Int} {f : It → Bool} (eg : Ent g) (hg : Gives c id g f) {l : List It} {p : Option Addr} {d : Nat} {w : World} (h : Lies item w p l) (hl : l.length ≤ 1000) (hc : w.cell? ⟨c, 0, none⟩ = some (.int .i64 id)) :
    Calls Try.prog 28 #[.slice p l.length d, fnv g c] w fun e w' => ∃ y, e = .returned y ∧ Own item 35 w.heap.size w' y (l.filter f) ∧ Below w.heap.size w w' := by
  have HG := Lib.hid (fun u x (hu : Below w.heap.size w u) => hg u x (cell_on hc hu))
  have HL := Lib.hid h
  have HF := Lib.hid (show l.filter f = (l.take l.length).filter f by rw [List.take_length])
  generalize l.filter f = R at *
  clear h hc hg
  go_enter Try.func28, Try.ntmps28
  go_wp2
  go_loopw [5, 10] (fun y k wr => ∃ (j : Nat) (q : Option Addr) (c' n : Nat), j ≤ l.length ∧ k = .int .i64 (j : Int) ∧ y = .slice q n c' ∧ Hid (Own item 35 w.heap.size wr y ((l.take j).filter f)) ∧ Hid (((l.take j).filter f).length = n) ∧ Hid (Below w.heap.size w wr)) (fun _ k _ => l.length - (intOf k).toNat)
  case atStart => exact ⟨0, none, 0, 0, by omega, rfl, rfl, Lib.hid (Own.none _ _ _ _), Lib.hid rfl, Lib.hid (Below.refl _ _)⟩
  case round =>
    obtain ⟨j, q, c', n, hj, rfl, rfl, HO, HN, HB⟩ := hrel
    by_cases hlt : j < l.length
    · have hlt' : (j : Int) < (l.length : Int) := by omega
      obtain ⟨b, o, rfl, ha⟩ := lies_at (HL.out.below HB.out) hlt
      obtain ⟨k0, k1, k2, k3, k4⟩ := at5 ha
      have hn : n ≤ 1000 := by
        rw [← HN.out]
        exact Nat.le_trans (List.length_filter_le _ _) (by simp; omega)
      have HY := Lib.hid (fun h => filter_yes (f := f) hlt h)
      have HX := Lib.hid (fun h => filter_no (f := f) hlt h)
      generalize (l.take j).filter f = L at *
      generalize l.getD j z = x at *
      have HC := HG.out (wr.alloc (.cells #[.int .i64 x.id, .int .i64 x.key, .int .i64 x.cost, .int .i64 x.cls, .int .i64 x.til] 35)) x (HB.out.trans ((lay wr _).mono HB.out.size))
      have K := Lib.hid (heap_alloc_new wr (.cells #[.int .i64 x.id, .int .i64 x.key, .int .i64 x.cost, .int .i64 x.cls, .int .i64 x.til] 35))
      have HA := Lib.hid (lay wr (.cells #[.int .i64 x.id, .int .i64 x.key, .int .i64 x.cost, .int .i64 x.cls, .int .i64 x.til] 35))
      generalize hfx : f x = fx at *
      obtain ⟨xi, xk, xc, xs, xt⟩ := x
      simp only [val] at k0 k1 k2 k3 k4 HC
      clear ha HL HG HF
      cases fx
      · have HE := Lib.hid (HX.out rfl)
        clear hfx HY HX
        go_wp2_with (go_at_fn g; (with_reducible refine HC.mono ?_); rintro e w2 ⟨rfl, hb⟩; have HB2 := Lib.hid (HA.out.trans (hb.mono HA.out.size)); clear hb HC)
        go_roundw
        case rel => exact ⟨j + 1, q, c', n, by omega, by go_num, rfl, by rw [HE.out]; exact Lib.hid (HO.out.on HB2.out), by rw [HE.out]; exact HN, Lib.hid (HB.out.trans (HB2.out.mono HB.out.size))⟩
        case measure => simp only [intOf]; omega
      · have HE := Lib.hid (HY.out rfl)
        clear hfx HY HX
        go_wp2_with (first
          | (go_at_fn g; (with_reducible refine HC.mono ?_); rintro e w2 ⟨rfl, hb⟩; have HB2 := Lib.hid (HA.out.trans (hb.mono HA.out.size)); obtain ⟨b0, b1, b2, b3, b4⟩ := box5 ((hb.block _ (lt_heap K.out)).trans K.out); clear hb HC)
          | (at_builtin; refine Kit.push laidP rfl _ _ rfl w wr (.slice q n c') rfl L n HN.out HO.out HB.out (HB2.out.alloc HB2.out.size _) w2.heap.size ⟨xi, xk, xc, xs, xt⟩ rfl (heap_alloc_new _ _) (by omega) ?_; intro p4 c4 w4 R4 B4))
        go_roundw
        case rel => exact ⟨j + 1, p4, c4, n + 1, by omega, by go_num, rfl, by rw [HE.out]; exact R4, by rw [HE.out]; exact Lib.hid (by simp [HN.out]), Lib.hid B4⟩
        case measure => simp only [intOf]; omega
    · have hlt' : ¬ (j : Int) < (l.length : Int) := by omega
      obtain rfl : j = l.length := by omega
      rw [← HF.out] at HO
      clear HL HG HF HN
      go_wp2
      go_ret
      exact ⟨_, rfl, HO.out, HB.out⟩
theorem eq_nil (w : World) (a : Option Addr) (n c n' c' : Nat) : (binOp .eql 40 (.slice a n c) (.slice none n' c')).run Try.prog w = .ok (.bool a.isNone) w := Lib.run_eql_slice_nil w _ _ a n c n' c' Try.underlying40
theorem own_slice {T : TypeId} {B : Nat} {w : World} {v : Value} {l : List It} (h : Own item T B w v l) : ∃ p c, v = .slice p l.length c ∧ Lies item w p l ∧ (p = none → c = 0) := by
  obtain ⟨p, c, rfl, hl⟩ := h.lies
  refine ⟨p, c, rfl, hl, ?_⟩
  rintro rfl
  rcases h.2 with ⟨e, -⟩ | ⟨g, cap, cur, e, -⟩
  · simp only [Value.slice.injEq] at e
    exact e.2.2
  · simp at e
set_option maxRecDepth 100000 in
set_option maxHeartbeats 1000000 in
theorem clone_items {l : List It} {p : Option Addr} {d : Nat} {w : World} (h : Lies item w p l) (hn : p = none → d = 0) (hl : l.length ≤ 1000) :
    Calls Try.prog 27 #[.slice p l.length d] w fun e w' => ∃ y, e = .returned y ∧ Own item 35 w.heap.size w' y l ∧ Below w.heap.size w w' := by
  have HL := Lib.hid h
  have HN := Lib.hid hn
  have hq := fun (w : World) a n c n' c' => eq_nil w a n c n' c'
  clear h hn
  cases p with
  | none =>
    have hl0 := HL.out.resolve_right (fun ⟨b, o, e, _⟩ => by cases e)
    subst hl0
    obtain rfl := HN.out rfl
    go_enter Try.func27, Try.ntmps27
    go_wp2
    go_ret
    exact ⟨_, rfl, Own.none _ _ _ _, Below.refl _ _⟩
  | some a =>
    have OM := Lib.hid (Kit.own_made (E := item) (T := 35) w w.heap.size (Nat.le_refl _))
    have HB := Lib.hid (lay w (.cells #[] 35))
    have LX := Lib.hid (HL.out.below HB.out)
    go_enter Try.func27, Try.ntmps27
    go_wp2_with (at_builtin; refine Kit.pushes laidP rfl _ _ rfl w _ _ rfl [] 0 rfl OM.out HB.out (Below.refl _ _) l l.length d (some a) rfl rfl LX.out (fun e => nomatch e) (by omega) ?_; intro p4 c4 w4 R4 B4; have R5 := Lib.hid (show Own item 35 w.heap.size w4 (.slice p4 l.length c4) l from by (have := R4.out; rw [Nat.zero_add] at this; exact this)); have B5 := Lib.hid B4; clear R4 B4)
    go_ret
    exact ⟨_, rfl, R5.out, B5.out⟩
set_option maxRecDepth 100000 in
set_option maxHeartbeats 1000000 in
theorem pall_any {F : Nat → Prop} {B q : Nat} {w : World} {room : Int} {l : List It} (h : Pq F B w q room l) (hl : l.length ≤ 16) :
    Calls Try.prog 11 #[.pointer (some ⟨q, 0, none⟩)] w fun e w' => ∃ y, e = .returned y ∧ Own item 35 w.heap.size w' y l ∧ Below w.heap.size w w' := by
  obtain ⟨y, hy⟩ := h
  obtain ⟨p, c, rfl, c1, hlies, hn, -⟩ := hy.cell
  have HC := clone_items (d := c) hlies hn (by omega)
  clear hy hlies hn
  go_enter Try.func11, Try.ntmps11
  go_wp2_with (go_at_call 27; (with_reducible refine HC.mono ?_); rintro e w2 ⟨y, rfl, ho, hb⟩; have HO := Lib.hid ho; have HB2 := Lib.hid hb; clear ho hb HC)
  go_ret
  exact ⟨_, rfl, HO.out, HB2.out⟩
set_option maxRecDepth 100000 in
set_option maxHeartbeats 1000000 in
theorem nall_any (w : World) : Calls Try.prog 11 #[.pointer none] w fun e w' => e = .returned (.slice none 0 0) ∧ Below w.heap.size w w' := by
  go_enter Try.func11, Try.ntmps11
  go_wp2
  go_ret
  exact ⟨rfl, Below.refl _ _⟩
end Go.Proofs.Ytdcclmellabnlaa.Queue
