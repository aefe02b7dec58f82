/-
  What the program's edge says: denied, granted, answered; conf.Rate of a configuration whose rates lie. No conditions beyond those that each names.
  The program's closures over one number, named, right, head, picked; slices.IndexFunc, ContainsFunc and Clone at items. Of slices of up to 1000 items.
  What the program's edge asks ahead of an answer: mayBe, waits, objection. Of requests that are any ints.
  slices.DeleteFunc at items, of a slice that a call owns: what is not struck stays in its place's block, the rest of it is zero. Of up to 1000 items.
-/
import Derived.Lib.SliceRun
import Derived.Deep.MidRow
import Derived.Test.YtlbpeeelgpjciaaGreatMgAu
import Derived.Test.YtlbpeeelgpjciaaGreatMgAi
namespace Go.Proofs.YtlbpeeelgpjciaaGreat.Edge
open Go.RowKit
open _root_.Go.Proofs.YtlbpeeelgpjciaaGreat.Codec (lt_of_heap frozen_of heap_set below_new)
open _root_.Go.Proofs.YtlbpeeelgpjciaaGreat.Kit (Enc Lies At Kept Laid Off cell_on lt_heap take_snoc below_drewN own_keep box5)
open _root_.Go.Proofs.YtlbpeeelgpjciaaGreat.Lease (Lz Num)
open _root_.Go.Proofs.YtlbpeeelgpjciaaGreat.Queue (It)
open _root_.Go.Proofs.YtlbpeeelgpjciaaGreat.Demand (Nt)

theorem says_own {w : World} {B : Nat} {v : Value} {l : List An} (h : Kit.Own ans 79 B w v l) : Says w v l := by
  obtain ⟨p, c, rfl, hl⟩ := h.lies
  refine ⟨p, c, rfl, hl, ?_, ?_⟩
  · rintro a rfl
    rcases h.2 with ⟨e, -⟩ | ⟨g, cap, cur, e, -, k, -⟩
    · simp at e
    · simp only [Value.slice.injEq, Option.some.injEq] at e
      obtain ⟨rfl, -, -⟩ := e
      exact ⟨_, _, k⟩
  · rintro rfl
    rcases h.2 with ⟨e, -⟩ | ⟨g, cap, cur, e, -⟩
    · simp only [Value.slice.injEq] at e
      exact e.2.2
    · simp at e
/-- One answer, just laid. -/
theorem says_one (w : World) (x : An) : Says (w.alloc (.cells (ans.cs x).toArray 79)) (.slice (some ⟨w.heap.size, 0, none⟩) 1 1) [x] :=
  ⟨_, 1, rfl, Kit.lies_one (E := ans) (x := x) (heap_alloc_new w _), fun a e => by cases e; exact ⟨_, _, heap_alloc_new w _⟩, fun e => by cases e⟩
set_option maxRecDepth 100000 in
set_option maxHeartbeats 1000000 in
theorem denied_any (r : Rq) (why : Int) (w : World) :
    Calls Tryz.prog 43 #[rval r, .int .i64 why] w fun e w' => ∃ v, e = .returned v ∧ Says w' v (no r.id why) ∧ Below w.heap.size w w' := by
  obtain ⟨ri, rk, rc, rs, rw'⟩ := r
  unfold rval
  have HB := Lib.hid (lay w (.cells #[.int .i64 ri, .int .i64 rk, .int .i64 rc, .int .i64 rs, .int .i64 rw'] 38))
  have HS := Lib.hid (fun (u : World) (g : Nat) (hg : g = u.heap.size) => show Says (u.alloc (.cells #[.int .i64 ri, .int .i64 0, .int .i64 why] 79)) (.slice (some ⟨g, 0, none⟩) 1 1) [⟨ri, 0, why⟩] from by rw [hg]; exact says_one u ⟨ri, 0, why⟩)
  have HL := Lib.hid (fun (u : World) (o : Obj) => lay u o)
  simp only
  go_enter Tryz.func43, Tryz.ntmps43
  go_wp2
  go_ret
  exact ⟨_, rfl, HS.out _ (w.heap.size + 1) (by simp), HB.out.trans ((HL.out _ _).mono HB.out.size)⟩
set_option maxRecDepth 100000 in
theorem granted_any (id gen : Int) (w : World) :
    Calls Tryz.prog 45 #[.int .i64 id, .int .i64 gen] w fun e w' => e = .returned (aval ⟨id, gen, 0⟩) ∧ Below w.heap.size w w' := by
  unfold aval
  simp only
  go_enter Tryz.func45, Tryz.ntmps45
  go_wp2
  refine bodyPost_ret (v := .agg #[.int .i64 id, .int .i64 gen, .int .i64 0]) (by simp [results, Tryz.results45, go_sem]) rfl ⟨rfl, lay _ _⟩
set_option maxRecDepth 100000 in
set_option maxHeartbeats 4000000 in
theorem answered_any {p : Option Addr} {d : Nat} {l : List It} {w : World} (h : Lies Queue.item w p l) (hl : l.length ≤ 1000) (why : Int) :
    Calls Tryz.prog 55 #[.slice p l.length d, .int .i64 why] w fun e w' => ∃ v, e = .returned v ∧ Says w' v (all l why) ∧ Below w.heap.size w w' := by
  have HL := Lib.hid h
  have HE := Lib.hid (show all l why = all (l.take l.length) why by rw [List.take_length])
  clear h
  go_enter Tryz.func55, Tryz.ntmps55
  go_wp2
  go_loopw [5, 10] (fun y i wr => ∃ (j : Nat) (q : Option Addr) (d : Nat), j ≤ l.length ∧ i = .int .i64 (j : Int) ∧ y = .slice q j d ∧ Hid (Kit.Own ans 79 w.heap.size wr y (all (l.take j) why)) ∧ Below w.heap.size w wr) (fun _ i _ => l.length - (intOf i).toNat)
  case atStart => exact ⟨0, none, 0, by omega, rfl, rfl, Lib.hid (Kit.Own.none _ _ _ _), Below.refl _ _⟩
  case round =>
    obtain ⟨j, q, d, hj, rfl, rfl, hown, hbw⟩ := hrel
    by_cases hlt : j < l.length
    · obtain ⟨b, o, rfl, ha⟩ := Queue.lies_at (HL.out.below hbw) hlt
      obtain ⟨k0, k1, k2, k3, k4⟩ := Queue.at5 ha
      have hlt' : (j : Int) < (l.length : Int) := by omega
      have HT := Lib.hid (all_at why hlt)
      have HN := Lib.hid (show (all (l.take j) why).length = j by rw [all_len, List.length_take]; omega)
      have HBW := Lib.hid hbw
      generalize all (l.take j) why = A0 at *
      generalize l.getD j Queue.z = x at *
      have HX := Lib.hid (fun (o' : Obj) => (lay wr (.cells #[.int .i64 x.id, .int .i64 x.key, .int .i64 x.cost, .int .i64 x.cls, .int .i64 x.til] 77)).alloc (lay wr (.cells #[.int .i64 x.id, .int .i64 x.key, .int .i64 x.cost, .int .i64 x.cls, .int .i64 x.til] 77)).size o')
      have HG := Lib.hid (fun (o o' : Obj) => show ((wr.alloc o).alloc o').heap[wr.heap.size + 1]? = some o' from by have := heap_alloc_new (wr.alloc o) o'; simpa using this)
      obtain ⟨xi, xk, xc, xs, xt⟩ := x
      simp only at k0 k1 k2 k3 k4 HT HX
      clear ha HL HE
      go_wp2_with (at_builtin; refine Kit.push laidA rfl _ _ rfl w wr (.slice q j d) rfl A0 j HN.out hown.out HBW.out (HX.out _) (wr.heap.size + 1) ⟨xi, 0, why⟩ rfl (HG.out _ _) (by omega) ?_; intro p6 c6 w6 R6 B6)
      go_roundw
      case rel => exact ⟨j + 1, p6, c6, by omega, by go_num, rfl, by rw [HT.out]; exact R6, B6⟩
      case measure => simp only [intOf]; omega
    · have hlt' : ¬ (j : Int) < (l.length : Int) := by omega
      obtain rfl : j = l.length := by omega
      have HS := Lib.hid (show Says wr (.slice q l.length d) (all l why) by rw [HE.out]; exact says_own hown.out)
      clear HE hown HL
      go_wp2
      go_ret
      exact ⟨_, rfl, HS.out, hbw⟩
/-- The program's rate of a key. -/
def ra (c : Cf) (key : Int) : Int := if 0 ≤ c.rate key then (c.zs.getD (c.rate key).toNat (0, 0)).1 else 0
def rb (c : Cf) (key : Int) : Int := if 0 ≤ c.rate key then c.b key else 0
theorem prate_any {c : Cf} {w : World} {p : Option Addr} (k : Nat) (h : Lies pair w p c.zs) (key : Int) :
    Calls Tryz.prog 96 #[c.val p k, .int .i64 key] w fun e w' => e = .returned (.tuple #[.agg #[.int .i64 (ra c key), .int .i64 (rb c key)], .bool (decide (0 ≤ c.rate key))]) ∧ Below w.heap.size w w' := by
  obtain ⟨n, sk, tl, va, lo, he, ke, qu, zs⟩ := c
  unfold ra rb Cf.b Cf.val Cf.rate
  simp only at *
  by_cases hk : 0 ≤ key ∧ key ≤ 524287 ∧ key / 65536 < zs.length
  · rw [if_pos hk]
    obtain ⟨j, hj⟩ : ∃ j : Nat, key / 65536 = (j : Int) := ⟨(key / 65536).toNat, by omega⟩
    rw [hj, if_pos (by omega), if_pos (by omega), decide_eq_true (by omega), Int.toNat_natCast]
    obtain ⟨b, o, rfl, ha⟩ := Kit.lies_at h (show j < zs.length by omega)
    exact Conf.rate_some n sk tl va lo he ke qu b o zs.length k j key _ _ w (Conf.within_yes hk.1 hk.2.1) hk.1 hk.2.1 hj (by omega) (ha 0 _ rfl) (ha 1 _ rfl)
  · rw [if_neg hk, if_neg (by decide), if_neg (by decide)]
    refine Conf.rate_none n sk tl va lo he ke qu p zs.length k key w ?_
    by_cases hk2 : 0 ≤ key ∧ key ≤ 524287
    · exact .inr ⟨Conf.within_yes hk2.1 hk2.2, hk2.1, hk2.2, by omega⟩
    · exact .inl (Conf.within_no hk2)
end Go.Proofs.YtlbpeeelgpjciaaGreat.Edge

namespace Go.Proofs.YtlbpeeelgpjciaaGreat.Queue
open Go.RowKit
open _root_.Go.Proofs.YtlbpeeelgpjciaaGreat.Codec (lt_of_heap frozen_of heap_set below_new own_below)
open _root_.Go.Proofs.YtlbpeeelgpjciaaGreat.Kit (Enc Lies Own At Kept Laid Off cell_on lt_heap take_snoc below_drewN box5 ints own_keep own_lt)
open _root_.Go.Proofs.YtlbpeeelgpjciaaGreat.Ledger (spot spot_at spot_none spot_cases)

/-- A function value over one captured number tells f of each item, and makes memory alone. -/
def Gives (c : Nat) (id : Int) (g : Nat) (f : It → Bool) : Prop := ∀ (u : World) (x : It), u.cell? ⟨c, 0, none⟩ = some (.int .i64 id) → Calls Tryz.prog g #[val x, .pointer (some ⟨c, 0, none⟩)] u fun e w' => e = .returned (.bool (f x)) ∧ Below u.heap.size u w'
abbrev fnv (g c : Nat) : Value := .func (.func g) #[] #[.pointer (some ⟨c, 0, none⟩)]
abbrev Ent (g : Nat) : Prop := ∀ args w, (callFunc g args).run Tryz.prog w = .ok (.enter g args) w
theorem ent_named : Ent 155 := _root_.Go.Proofs.enters_of Tryz.func155 (by kernel_rfl) rfl
theorem ent_expire : Ent 112 := _root_.Go.Proofs.enters_of Tryz.func112 (by kernel_rfl) rfl
theorem ent_of : Ent 114 := _root_.Go.Proofs.enters_of Tryz.func114 (by kernel_rfl) rfl
def isId (id : Int) (x : It) : Bool := x.id == id
def isKey (k : Int) (x : It) : Bool := x.key == k
set_option maxRecDepth 100000 in
set_option maxHeartbeats 1000000 in
theorem gives_named (c : Nat) (id : Int) : Gives c id 155 (isId id) := by
  intro u x hc
  have hl := World.block_lt_of_cell? _ _ hc
  obtain ⟨xi, xk, xc, xs, xt⟩ := x
  simp only [val, isId]
  go_enter Tryz.func155, Tryz.ntmps155
  go_wp2
  go_ret
  exact ⟨rfl, lay _ _⟩
set_option maxRecDepth 100000 in
set_option maxHeartbeats 1000000 in
theorem gives_expire (c : Nat) (now : Int) : Gives c now 112 (due now) := by
  intro u x hc
  have hl := World.block_lt_of_cell? _ _ hc
  obtain ⟨xi, xk, xc, xs, xt⟩ := x
  simp only [val, due]
  go_enter Tryz.func112, Tryz.ntmps112
  go_wp2
  go_ret
  exact ⟨rfl, lay _ _⟩
set_option maxRecDepth 100000 in
set_option maxHeartbeats 1000000 in
theorem gives_of (c : Nat) (key : Int) : Gives c key 114 (isKey key) := by
  intro u x hc
  have hl := World.block_lt_of_cell? _ _ hc
  obtain ⟨xi, xk, xc, xs, xt⟩ := x
  simp only [val, isKey]
  go_enter Tryz.func114, Tryz.ntmps114
  go_wp2
  go_ret
  exact ⟨rfl, lay _ _⟩
set_option maxRecDepth 100000 in
set_option maxHeartbeats 1000000 in
theorem named_any (id : Int) (w : World) : Calls Tryz.prog 118 #[.int .i64 id] w fun e w' => e = .returned (fnv 155 w.heap.size) ∧ w'.cell? ⟨w.heap.size, 0, none⟩ = some (.int .i64 id) ∧ Below w.heap.size w w' := by
  have HB := Lib.hid (lay w (.cells #[.int .i64 id] 3))
  have HK := Lib.hid (cell_of_row _ w.heap.size 0 _ _ (0, 0) (heap_alloc_new w (.cells #[.int .i64 id] 3)))
  go_enter Tryz.func118, Tryz.ntmps118
  go_wp2
  refine bodyPost_ret (v := fnv 155 w.heap.size) (by simp [results, Tryz.results118, go_sem]) rfl ⟨rfl, HK.out, HB.out⟩
set_option maxRecDepth 100000 in
set_option maxHeartbeats 1000000 in
theorem right_any (x : It) (w : World) : Calls Tryz.prog 139 #[val x] w fun e w' => e = .returned (.bool (decide (¬ wrong x))) ∧ Below w.heap.size w w' := by
  have hc : (¬ 1 ≤ x.cost ∧ decide (¬ wrong x) = false) ∨ 1 ≤ x.cost ∧ ((¬ 0 ≤ x.cls ∧ decide (¬ wrong x) = false) ∨ 0 ≤ x.cls ∧ ((¬ x.cls ≤ 2 ∧ decide (¬ wrong x) = false) ∨ x.cls ≤ 2 ∧ (¬ 0 ≤ x.til ∧ decide (¬ wrong x) = false ∨ 0 ≤ x.til ∧ decide (¬ wrong x) = true))) := by
    simp only [decide_eq_false_iff_not, decide_eq_true_eq]
    unfold wrong
    omega
  generalize decide (¬ wrong x) = R at *
  obtain ⟨xi, xk, xc, xs, xt⟩ := x
  simp only [val] at *
  rcases hc with ⟨h1, rfl⟩ | ⟨h1, ⟨h2, rfl⟩ | ⟨h2, ⟨h3, rfl⟩ | ⟨h3, ⟨h4, rfl⟩ | ⟨h4, rfl⟩⟩⟩⟩
  all_goals
    go_enter Tryz.func139, Tryz.ntmps139
    go_wp2
    go_ret
    exact ⟨rfl, lay _ _⟩
set_option maxRecDepth 100000 in
set_option maxHeartbeats 4000000 in
theorem index_any {c g : Nat} {id : Int} {f : It → Bool} (eg : Ent g) (hg : Gives c id g f) {l : List It} {p : Option Addr} {d : Nat} {w : World} (h : Lies item w p l) (hl : l.length ≤ 1000) (hc : w.cell? ⟨c, 0, none⟩ = some (.int .i64 id)) :
    Calls Tryz.prog 159 #[.slice p l.length d, fnv g c] w fun e w' => e = .returned (.int .i64 (spot f l)) ∧ Below w.heap.size w w' := by
  have HG := Lib.hid (fun u x (hu : Below w.heap.size w u) => hg u x (cell_on hc hu))
  have HL := Lib.hid h
  have HS := Lib.hid (fun (j : Nat) (hj : j < l.length) (hn : ∀ i, i < j → f (l.getD i z) = false) (hy : f (l.getD j z) = true) => spot_at f z l j hj hn hy)
  have HN := Lib.hid (fun (hn : ∀ i, i < l.length → f (l.getD i z) = false) => spot_none f z l hn)
  generalize spot f l = R at *
  clear h hc hg
  go_enter Tryz.func159, Tryz.ntmps159
  go_wp2
  go_loopw [8] (fun i wr => ∃ j : Nat, j ≤ l.length ∧ i = .int .i64 (j : Int) ∧ Hid (∀ i, i < j → f (l.getD i z) = false) ∧ Hid (Below w.heap.size w wr)) (fun i _ => l.length - (intOf i).toNat)
  case atStart => exact ⟨0, by omega, rfl, Lib.hid fun i hi => by omega, Lib.hid (Below.refl _ _)⟩
  case round =>
    obtain ⟨j, hj, rfl, HNE, HB⟩ := hrel
    by_cases hlt : j < l.length
    · have hlt' : (j : Int) < (l.length : Int) := by omega
      obtain ⟨b, o, rfl, ha⟩ := lies_at (HL.out.below HB.out) hlt
      obtain ⟨k0, k1, k2, k3, k4⟩ := at5 ha
      have HC := HG.out wr (l.getD j z) HB.out
      have HY := Lib.hid (fun hy => HS.out j hlt HNE.out hy)
      have HO := Lib.hid (fun (hy : f (l.getD j z) = false) (i : Nat) (hi : i < j + 1) => show f (l.getD i z) = false by
        by_cases e : i = j
        · rw [e]; exact hy
        · exact HNE.out i (by omega))
      generalize f (l.getD j z) = B at *
      generalize l.getD j z = x at *
      obtain ⟨xi, xk, xc, xs, xt⟩ := x
      simp only [val] at k0 k1 k2 k3 k4 HC
      clear ha HL HNE HS HN
      cases B
      · have HO2 := Lib.hid (HO.out rfl)
        go_wp2_with (go_at_fn g; (with_reducible refine HC.mono ?_); rintro e w2 ⟨rfl, hb⟩; have HB2 := Lib.hid (HB.out.trans (hb.mono HB.out.size)); clear hb HC)
        go_roundw
        case rel => exact ⟨j + 1, by omega, by go_num, HO2, HB2⟩
        case measure => simp only [intOf]; omega
      · have HY2 := Lib.hid (HY.out rfl)
        go_wp2_with (go_at_fn g; (with_reducible refine HC.mono ?_); rintro e w2 ⟨rfl, hb⟩; have HB2 := Lib.hid (HB.out.trans (hb.mono HB.out.size)); clear hb HC)
        go_ret
        exact ⟨by rw [HY2.out]; rfl, HB2.out⟩
    · have hlt' : ¬ (j : Int) < (l.length : Int) := by omega
      have HE := Lib.hid (HN.out (fun i hi => HNE.out i (by omega)))
      clear HL HNE HS HN
      go_wp2
      go_ret
      exact ⟨by rw [HE.out]; rfl, HB.out⟩
set_option maxRecDepth 100000 in
set_option maxHeartbeats 1000000 in
theorem contains_any {c g : Nat} {id : Int} {f : It → Bool} (eg : Ent g) (hg : Gives c id g f) {l : List It} {p : Option Addr} {d : Nat} {w : World} (h : Lies item w p l) (hl : l.length ≤ 1000) (hc : w.cell? ⟨c, 0, none⟩ = some (.int .i64 id)) :
    Calls Tryz.prog 136 #[.slice p l.length d, fnv g c] w fun e w' => e = .returned (.bool (decide (0 ≤ spot f l))) ∧ Below w.heap.size w w' := by
  have hi := index_any eg hg (d := d) h hl hc
  generalize spot f l = R at *
  clear h hc hg
  go_enter Tryz.func136, Tryz.ntmps136
  go_wp2_with (go_at_call 159; (with_reducible refine hi.mono ?_); rintro e w2 ⟨rfl, hb⟩; have HB2 := Lib.hid hb; clear hb hi)
  go_ret
  exact ⟨rfl, HB2.out⟩
set_option maxRecDepth 100000 in
set_option maxHeartbeats 4000000 in
theorem picked_any {c g : Nat} {id : Int} {f : It → Bool} (eg : Ent g) (hg : Gives c id g f) {l : List It} {p : Option Addr} {d : Nat} {w : World} (h : Lies item w p l) (hl : l.length ≤ 1000) (hc : w.cell? ⟨c, 0, none⟩ = some (.int .i64 id)) :
    Calls Tryz.prog 113 #[.slice p l.length d, fnv g c] w fun e w' => ∃ y, e = .returned y ∧ Own item 77 w.heap.size w' y (l.filter f) ∧ Below w.heap.size w w' := by
  have HG := Lib.hid (fun u x (hu : Below w.heap.size w u) => hg u x (cell_on hc hu))
  have HL := Lib.hid h
  have HF := Lib.hid (show l.filter f = (l.take l.length).filter f by rw [List.take_length])
  generalize l.filter f = R at *
  clear h hc hg
  go_enter Tryz.func113, Tryz.ntmps113
  go_wp2
  go_loopw [5, 10] (fun y k wr => ∃ (j : Nat) (q : Option Addr) (c' n : Nat), j ≤ l.length ∧ k = .int .i64 (j : Int) ∧ y = .slice q n c' ∧ Hid (Own item 77 w.heap.size wr y ((l.take j).filter f)) ∧ Hid (((l.take j).filter f).length = n) ∧ Hid (Below w.heap.size w wr)) (fun _ k _ => l.length - (intOf k).toNat)
  case atStart => exact ⟨0, none, 0, 0, by omega, rfl, rfl, Lib.hid (Own.none _ _ _ _), Lib.hid rfl, Lib.hid (Below.refl _ _)⟩
  case round =>
    obtain ⟨j, q, c', n, hj, rfl, rfl, HO, HN, HB⟩ := hrel
    by_cases hlt : j < l.length
    · have hlt' : (j : Int) < (l.length : Int) := by omega
      obtain ⟨b, o, rfl, ha⟩ := lies_at (HL.out.below HB.out) hlt
      obtain ⟨k0, k1, k2, k3, k4⟩ := at5 ha
      have hn : n ≤ 1000 := by
        rw [← HN.out]
        exact Nat.le_trans (List.length_filter_le _ _) (by simp; omega)
      have HY := Lib.hid (fun h => filter_yes (f := f) hlt h)
      have HX := Lib.hid (fun h => filter_no (f := f) hlt h)
      generalize (l.take j).filter f = L at *
      generalize l.getD j z = x at *
      have HC := HG.out (wr.alloc (.cells #[.int .i64 x.id, .int .i64 x.key, .int .i64 x.cost, .int .i64 x.cls, .int .i64 x.til] 77)) x (HB.out.trans ((lay wr _).mono HB.out.size))
      have K := Lib.hid (heap_alloc_new wr (.cells #[.int .i64 x.id, .int .i64 x.key, .int .i64 x.cost, .int .i64 x.cls, .int .i64 x.til] 77))
      have HA := Lib.hid (lay wr (.cells #[.int .i64 x.id, .int .i64 x.key, .int .i64 x.cost, .int .i64 x.cls, .int .i64 x.til] 77))
      generalize hfx : f x = fx at *
      obtain ⟨xi, xk, xc, xs, xt⟩ := x
      simp only [val] at k0 k1 k2 k3 k4 HC
      clear ha HL HG HF
      cases fx
      · have HE := Lib.hid (HX.out rfl)
        clear hfx HY HX
        go_wp2_with (go_at_fn g; (with_reducible refine HC.mono ?_); rintro e w2 ⟨rfl, hb⟩; have HB2 := Lib.hid (HA.out.trans (hb.mono HA.out.size)); clear hb HC)
        go_roundw
        case rel => exact ⟨j + 1, q, c', n, by omega, by go_num, rfl, by rw [HE.out]; exact Lib.hid (HO.out.on HB2.out), by rw [HE.out]; exact HN, Lib.hid (HB.out.trans (HB2.out.mono HB.out.size))⟩
        case measure => simp only [intOf]; omega
      · have HE := Lib.hid (HY.out rfl)
        clear hfx HY HX
        go_wp2_with (first
          | (go_at_fn g; (with_reducible refine HC.mono ?_); rintro e w2 ⟨rfl, hb⟩; have HB2 := Lib.hid (HA.out.trans (hb.mono HA.out.size)); obtain ⟨b0, b1, b2, b3, b4⟩ := box5 ((hb.block _ (lt_heap K.out)).trans K.out); clear hb HC)
          | (at_builtin; refine Kit.push laidP rfl _ _ rfl w wr (.slice q n c') rfl L n HN.out HO.out HB.out (HB2.out.alloc HB2.out.size _) w2.heap.size ⟨xi, xk, xc, xs, xt⟩ rfl (heap_alloc_new _ _) (by omega) ?_; intro p4 c4 w4 R4 B4))
        go_roundw
        case rel => exact ⟨j + 1, p4, c4, n + 1, by omega, by go_num, rfl, by rw [HE.out]; exact R4, by rw [HE.out]; exact Lib.hid (by simp [HN.out]), Lib.hid B4⟩
        case measure => simp only [intOf]; omega
    · have hlt' : ¬ (j : Int) < (l.length : Int) := by omega
      obtain rfl : j = l.length := by omega
      rw [← HF.out] at HO
      clear HL HG HF HN
      go_wp2
      go_ret
      exact ⟨_, rfl, HO.out, HB.out⟩
theorem eq_nil (w : World) (a : Option Addr) (n c n' c' : Nat) : (binOp .eql 49 (.slice a n c) (.slice none n' c')).run Tryz.prog w = .ok (.bool a.isNone) w := Lib.run_eql_slice_nil w _ _ a n c n' c' Tryz.underlying49
theorem own_slice {T : TypeId} {B : Nat} {w : World} {v : Value} {l : List It} (h : Own item T B w v l) : ∃ p c, v = .slice p l.length c ∧ Lies item w p l ∧ (p = none → c = 0) := by
  obtain ⟨p, c, rfl, hl⟩ := h.lies
  refine ⟨p, c, rfl, hl, ?_⟩
  rintro rfl
  rcases h.2 with ⟨e, -⟩ | ⟨g, cap, cur, e, -⟩
  · simp only [Value.slice.injEq] at e
    exact e.2.2
  · simp at e
set_option maxRecDepth 100000 in
set_option maxHeartbeats 1000000 in
theorem clone_items {l : List It} {p : Option Addr} {d : Nat} {w : World} (h : Lies item w p l) (hn : p = none → d = 0) (hl : l.length ≤ 1000) :
    Calls Tryz.prog 86 #[.slice p l.length d] w fun e w' => ∃ y, e = .returned y ∧ Own item 77 w.heap.size w' y l ∧ Below w.heap.size w w' := by
  have HL := Lib.hid h
  have HN := Lib.hid hn
  have hq := fun (w : World) a n c n' c' => eq_nil w a n c n' c'
  clear h hn
  cases p with
  | none =>
    have hl0 := HL.out.resolve_right (fun ⟨b, o, e, _⟩ => by cases e)
    subst hl0
    obtain rfl := HN.out rfl
    go_enter Tryz.func86, Tryz.ntmps86
    go_wp2
    go_ret
    exact ⟨_, rfl, Own.none _ _ _ _, Below.refl _ _⟩
  | some a =>
    have OM := Lib.hid (Kit.own_made (E := item) (T := 77) w w.heap.size (Nat.le_refl _))
    have HB := Lib.hid (lay w (.cells #[] 77))
    have LX := Lib.hid (HL.out.below HB.out)
    go_enter Tryz.func86, Tryz.ntmps86
    go_wp2_with (at_builtin; refine Kit.pushes laidP rfl _ _ rfl w _ _ rfl [] 0 rfl OM.out HB.out (Below.refl _ _) l l.length d (some a) rfl rfl LX.out (fun e => nomatch e) (by omega) ?_; intro p4 c4 w4 R4 B4; have R5 := Lib.hid (show Own item 77 w.heap.size w4 (.slice p4 l.length c4) l from by (have := R4.out; rw [Nat.zero_add] at this; exact this)); have B5 := Lib.hid B4; clear R4 B4)
    go_ret
    exact ⟨_, rfl, R5.out, B5.out⟩
set_option maxRecDepth 100000 in
set_option maxHeartbeats 1000000 in
theorem pall_any {F : Nat → Prop} {B q : Nat} {w : World} {room : Int} {l : List It} (h : Pq F B w q room l) (hl : l.length ≤ 16) :
    Calls Tryz.prog 38 #[.pointer (some ⟨q, 0, none⟩)] w fun e w' => ∃ y, e = .returned y ∧ Own item 77 w.heap.size w' y l ∧ Below w.heap.size w w' := by
  obtain ⟨y, hy⟩ := h
  obtain ⟨p, c, rfl, c1, hlies, hn, -⟩ := hy.cell
  have HC := clone_items (d := c) hlies hn (by omega)
  clear hy hlies hn
  go_enter Tryz.func38, Tryz.ntmps38
  go_wp2_with (go_at_call 86; (with_reducible refine HC.mono ?_); rintro e w2 ⟨y, rfl, ho, hb⟩; have HO := Lib.hid ho; have HB2 := Lib.hid hb; clear ho hb HC)
  go_ret
  exact ⟨_, rfl, HO.out, HB2.out⟩
set_option maxRecDepth 100000 in
set_option maxHeartbeats 1000000 in
theorem nall_any (w : World) : Calls Tryz.prog 38 #[.pointer none] w fun e w' => e = .returned (.slice none 0 0) ∧ Below w.heap.size w w' := by
  go_enter Tryz.func38, Tryz.ntmps38
  go_wp2
  go_ret
  exact ⟨rfl, Below.refl _ _⟩
end Go.Proofs.YtlbpeeelgpjciaaGreat.Queue

namespace Go.Proofs.YtlbpeeelgpjciaaGreat.Edge
open Go.RowKit
open _root_.Go.Proofs.YtlbpeeelgpjciaaGreat.Codec (lt_of_heap frozen_of heap_set below_new)
open _root_.Go.Proofs.YtlbpeeelgpjciaaGreat.Kit (Enc Lies At Kept Laid Off cell_on lt_heap take_snoc below_drewN own_keep box5)
open _root_.Go.Proofs.YtlbpeeelgpjciaaGreat.Lease (Lz Num spend)
open _root_.Go.Proofs.YtlbpeeelgpjciaaGreat.Queue (It Gives Ent fnv)
open _root_.Go.Proofs.YtlbpeeelgpjciaaGreat.Demand (Nt)

/-- A request that may be, whoever waits. -/
def mb (r : Rq) : Prop := 1 ≤ r.cost ∧ 0 ≤ r.cls ∧ r.cls ≤ 2 ∧ 0 ≤ r.wait ∧ r.wait ≤ 1099511627776 ∧ right r.key
instance (r : Rq) : Decidable (mb r) := by unfold mb; infer_instance
theorem bad_iff (Q : List It) (r : Rq) : bad Q r ↔ ¬ mb r ∨ 0 ≤ Queue.place Q r.id := by
  unfold bad mb
  by_cases h : right r.key
  · simp only [h, not_true_eq_false, and_true, false_or]
    omega
  · simp only [h, not_false_eq_true, and_false, true_or]
    simp
theorem pright_any (key : Int) (w : World) : Calls Tryz.prog 135 #[.int .i64 key] w fun e' w' => e' = .returned (.bool (decide (right key))) ∧ w = w' := by
  have := Conf.right_any key w
  have e : Conf.within key 0 524287 = decide (right key) := by
    by_cases h : right key
    · rw [decide_eq_true h]; exact Conf.within_yes h.1 h.2
    · rw [decide_eq_false h]; exact Conf.within_no h
  rwa [e] at this
set_option maxRecDepth 100000 in
set_option maxHeartbeats 4000000 in
theorem mayBe_any (r : Rq) (w : World) :
    Calls Tryz.prog 97 #[rval r] w fun e w' => e = .returned (.bool (decide (mb r))) ∧ Below w.heap.size w w' := by
  have HR := Lib.hid (fun u => pright_any r.key u)
  have hcase : (¬ 1 ≤ r.cost ∧ decide (mb r) = false) ∨ 1 ≤ r.cost ∧ ((¬ 0 ≤ r.cls ∧ decide (mb r) = false) ∨ 0 ≤ r.cls ∧ ((¬ r.cls ≤ 2 ∧ decide (mb r) = false) ∨ r.cls ≤ 2 ∧ ((¬ 0 ≤ r.wait ∧ decide (mb r) = false) ∨ 0 ≤ r.wait ∧ ((¬ r.wait ≤ 1099511627776 ∧ decide (mb r) = false) ∨ r.wait ≤ 1099511627776 ∧ decide (mb r) = decide (right r.key))))) := by
    unfold mb
    by_cases h1 : 1 ≤ r.cost
    · by_cases h2 : 0 ≤ r.cls
      · by_cases h3 : r.cls ≤ 2
        · by_cases h4 : 0 ≤ r.wait
          · by_cases h5 : r.wait ≤ 1099511627776
            · simp [h1, h2, h3, h4, h5]
            · simp [h1, h2, h3, h4, h5]
          · simp [h1, h2, h3, h4]
        · simp [h1, h2, h3]
      · simp [h1, h2]
    · simp [h1]
  generalize decide (mb r) = R at *
  generalize decide (right r.key) = K at *
  obtain ⟨ri, rk, rc, rs, rw'⟩ := r
  unfold rval
  have HB := Lib.hid (lay w (.cells #[.int .i64 ri, .int .i64 rk, .int .i64 rc, .int .i64 rs, .int .i64 rw'] 38))
  simp only at *
  rcases hcase with ⟨h1, rfl⟩ | ⟨h1, ⟨h2, rfl⟩ | ⟨h2, ⟨h3, rfl⟩ | ⟨h3, ⟨h4, rfl⟩ | ⟨h4, ⟨h5, rfl⟩ | ⟨h5, rfl⟩⟩⟩⟩⟩
  all_goals
    go_enter Tryz.func97, Tryz.ntmps97
    go_wp2_with (go_at_call 135; (with_reducible refine (HR.out _).mono ?_); rintro e1 w1 ⟨rfl, rfl⟩)
    go_ret
    exact ⟨rfl, HB.out⟩
theorem ent_waits : Ent 137 := _root_.Go.Proofs.enters_of Tryz.func137 (by kernel_rfl) rfl
set_option maxRecDepth 100000 in
set_option maxHeartbeats 1000000 in
theorem gives_waits (c : Nat) (id : Int) : Gives c id 137 (Queue.isId id) := by
  intro u x hc
  have hl := World.block_lt_of_cell? _ _ hc
  obtain ⟨xi, xk, xc, xs, xt⟩ := x
  simp only [Queue.val, Queue.isId]
  go_enter Tryz.func137, Tryz.ntmps137
  go_wp2
  go_ret
  exact ⟨rfl, lay _ _⟩
section
variable {R : Nat → Prop} {B q qw qq qd : Nat} {w w' u : World} {y : Value} {c : Cf} {e e' e2 : Eg}
/-- The cells of the edge's block. -/
structure Sees12 (w : World) (q : Nat) (y : Value) (qw qq qd : Nat) (c : Cf) : Prop where
  k0 : w.cell? ⟨q, 0, none⟩ = some (.pointer (some ⟨qw, 0, none⟩))
  k1 : w.cell? ⟨q, 1, none⟩ = some (.int .i64 c.n)
  k2 : w.cell? ⟨q, 2, none⟩ = some (.int .i64 c.sk)
  k3 : w.cell? ⟨q, 3, none⟩ = some (.int .i64 c.tl)
  k4 : w.cell? ⟨q, 4, none⟩ = some (.int .i64 c.va)
  k5 : w.cell? ⟨q, 5, none⟩ = some (.int .i64 c.lo)
  k6 : w.cell? ⟨q, 6, none⟩ = some (.int .i64 c.he)
  k7 : w.cell? ⟨q, 7, none⟩ = some (.int .i64 c.ke)
  k8 : w.cell? ⟨q, 8, none⟩ = some (.int .i64 c.qu)
  k9 : w.cell? ⟨q, 9, none⟩ = some y
  k10 : w.cell? ⟨q, 10, none⟩ = some (.pointer (some ⟨qq, 0, none⟩))
  k11 : w.cell? ⟨q, 11, none⟩ = some (.pointer (some ⟨qd, 0, none⟩))
theorem In.sees (h : In R B w q y qw qq qd c e) : Sees12 w q y qw qq qd c := by
  have hc : ∀ i, w.cell? ⟨q, i, none⟩ = (ecells qw c y qq qd)[i]? := fun i => by rw [cell_of_row w q i _ _ (0, 0) h.blk]
  exact ⟨hc 0, hc 1, hc 2, hc 3, hc 4, hc 5, hc 6, hc 7, hc 8, hc 9, hc 10, hc 11⟩
theorem In.rates (h : In R B w q y qw qq qd c e) : ∃ p k, y = .slice p c.zs.length k ∧ Lies pair w p c.zs := h.rt.lies
set_option maxRecDepth 100000 in
set_option maxHeartbeats 2000000 in
theorem pwaits_any (h : In R B w q y qw qq qd c e) (hl : e.Q.length ≤ 16) (id : Int) :
    Calls Tryz.prog 98 #[.pointer (some ⟨q, 0, none⟩), .int .i64 id] w fun e' w' => e' = .returned (.bool (decide (0 ≤ Queue.place e.Q id))) ∧ Below w.heap.size w w' := by
  have hb := lay w (.cells #[.int .i64 id] 3)
  have k10 := (h.below hb).sees.k10
  have HA := Lib.hid (Queue.pall_any (h.below hb).qu hl)
  have hid : (w.alloc (.cells #[.int .i64 id] 3)).cell? ⟨w.heap.size, 0, none⟩ = some (.int .i64 id) := cell_of_row _ w.heap.size 0 _ _ (0, 0) (heap_alloc_new w (.cells #[.int .i64 id] 3))
  have HID := Lib.hid (fun (u : World) (hu : Below (w.alloc (.cells #[.int .i64 id] 3)).heap.size (w.alloc (.cells #[.int .i64 id] 3)) u) => cell_on hid hu)
  have HB := Lib.hid hb
  have HC := Lib.hid (fun (u : World) (p : Option Addr) (d : Nat) (hp : Lies Queue.item u p e.Q) (hc : u.cell? ⟨w.heap.size, 0, none⟩ = some (.int .i64 id)) => Queue.contains_any ent_waits (gives_waits w.heap.size id) (d := d) hp (by omega) hc)
  rw [show Queue.place e.Q id = Ledger.spot (Queue.isId id) e.Q from rfl]
  generalize Ledger.spot (Queue.isId id) e.Q = R at *
  clear h hb hid
  go_enter Tryz.func98, Tryz.ntmps98
  go_wp2_with (first
    | (go_at_call 38; (with_reducible refine HA.out.mono ?_); rintro e1 w1 ⟨y1, rfl, ho, hb⟩; obtain ⟨p1, d1, rfl, hl1⟩ := Kit.Own.lies ho; have HL1 := Lib.hid hl1; have HB1 := Lib.hid hb; clear ho hb hl1 HA)
    | (go_at_call 136; (with_reducible refine (HC.out _ _ _ HL1.out (HID.out _ HB1.out)).mono ?_); rintro e1 w2 ⟨rfl, hb⟩; have HB2 := Lib.hid (HB.out.trans ((HB1.out.trans (hb.mono HB1.out.size)).mono HB.out.size)); clear hb HC))
  go_ret
  exact ⟨rfl, HB2.out⟩
end
end Go.Proofs.YtlbpeeelgpjciaaGreat.Edge

namespace Go.Proofs.YtlbpeeelgpjciaaGreat.Queue
open Go.RowKit
open _root_.Go.Proofs.YtlbpeeelgpjciaaGreat.Codec (lt_of_heap frozen_of heap_set below_new own_below)
open _root_.Go.Proofs.YtlbpeeelgpjciaaGreat.Kit (Enc Lies Own At Kept Laid Off cell_on lt_heap take_snoc below_drewN box5 ints own_keep own_lt cells)
open _root_.Go.Proofs.YtlbpeeelgpjciaaGreat.Ledger (spot spot_at spot_none spot_cases)

/-! Rows that a call owns, cell by cell. -/
theorem row_set {w : World} {B g n c o s : Nat} {T : TypeId} {xs : List Value} (h : w.ownsRow B T s (.slice (some ⟨g, 0, none⟩) n c) n xs) (u : Value) : (w.setCell ⟨g, o, none⟩ u).ownsRow B T s (.slice (some ⟨g, 0, none⟩) n c) n (xs.set o u) := by
  refine ⟨by simpa using h.1, ?_⟩
  rcases h.2 with ⟨e, -⟩ | ⟨g', cap, cur, e, h1, h2, h3, h4, h5, h6⟩
  · simp at e
  · simp only [Value.slice.injEq, Option.some.injEq, Addr.mk.injEq, and_true, true_and] at e
    obtain ⟨rfl, rfl⟩ := e
    exact .inr ⟨g, c, _, rfl, h1, heap_set g o _ _ h2, h3, h4, by simpa using h5, by rw [Array.toList_setIfInBounds, List.take_set, h6]⟩
theorem row_far {w : World} {B g n c o s : Nat} {T : TypeId} {xs : List Value} (h : w.ownsRow B T s (.slice (some ⟨g, 0, none⟩) n c) n xs) (ho : n * s ≤ o) (u : Value) : (w.setCell ⟨g, o, none⟩ u).ownsRow B T s (.slice (some ⟨g, 0, none⟩) n c) n xs := by
  have := row_set h (o := o) u
  rwa [List.set_eq_of_length_le (by rw [h.1]; exact ho)] at this
theorem row_fars {B g n c s : Nat} {T : TypeId} {xs : List Value} : ∀ (us : List Value) {w : World} {o : Nat}, w.ownsRow B T s (.slice (some ⟨g, 0, none⟩) n c) n xs → n * s ≤ o → (w.setCells g o us).ownsRow B T s (.slice (some ⟨g, 0, none⟩) n c) n xs
  | [], _, _, h, _ => h
  | u :: us, _, _, h, ho => row_fars us (row_far h ho u) (by omega)
theorem row_cut {w : World} {B g n c i s : Nat} {T : TypeId} {xs : List Value} (h : w.ownsRow B T s (.slice (some ⟨g, 0, none⟩) n c) n xs) (hi : i ≤ n) : w.ownsRow B T s (.slice (some ⟨g, 0, none⟩) i c) i (xs.take (i * s)) := by
  have hm : i * s ≤ n * s := Nat.mul_le_mul_right s hi
  refine ⟨by rw [List.length_take, h.1]; omega, ?_⟩
  rcases h.2 with ⟨e, -⟩ | ⟨g', cap, cur, e, h1, h2, h3, h4, h5, h6⟩
  · simp at e
  · simp only [Value.slice.injEq, Option.some.injEq, Addr.mk.injEq, and_true, true_and] at e
    obtain ⟨rfl, rfl⟩ := e
    exact .inr ⟨g, c, cur, rfl, h1, h2, by omega, h4, h5, by rw [← h6, List.take_take]; congr 1; omega⟩
theorem cells_take (m : List It) (i : Nat) : (cells item m).take (i * 5) = cells item (m.take i) := by
  induction m generalizing i with
  | nil => simp [cells]
  | cons x m ih =>
    cases i with
    | zero => simp [cells]
    | succ i =>
      rw [Kit.cells_cons, List.take_succ_cons, Kit.cells_cons, ← ih i, show (i + 1) * 5 = (item.cs x).length + i * 5 by rw [show (item.cs x).length = 5 from rfl]; omega, List.take_length_add_append]
theorem cells_set (x : It) : ∀ (m : List It) (i : Nat), i < m.length → cells item (m.set i x) = ((((((cells item m).set (i * 5) (.int .i64 x.id)).set (i * 5 + 1) (.int .i64 x.key)).set (i * 5 + 2) (.int .i64 x.cost)).set (i * 5 + 3) (.int .i64 x.cls)).set (i * 5 + 4) (.int .i64 x.til))
  | [], _, h => by simp at h
  | y :: m, 0, _ => rfl
  | y :: m, i + 1, h => by
    have ih := cells_set x m i (by simpa using h)
    rw [List.set_cons_succ, Kit.cells_cons, ih, Kit.cells_cons]
    show _ = ((((((item.cs y ++ cells item m).set ((i + 1) * 5) _).set ((i + 1) * 5 + 1) _).set ((i + 1) * 5 + 2) _).set ((i + 1) * 5 + 3) _).set ((i + 1) * 5 + 4) _)
    have e : ∀ (k : Nat) (L : List Value) (u : Value), (item.cs y ++ L).set ((i + 1) * 5 + k) u = item.cs y ++ L.set (i * 5 + k) u := fun k L u => by
      rw [List.set_append_right _ _ (by rw [show (item.cs y).length = 5 from rfl]; omega)]
      congr 2
      rw [show (item.cs y).length = 5 from rfl]; omega
    rw [show (i + 1) * 5 = (i + 1) * 5 + 0 by omega, e 0, e 1, e 2, e 3, e 4, Nat.add_zero]
    rfl
/-- An item is stored at a place. -/
def setAt (w : World) (g o : Nat) (x : It) : World := ((((w.setCell ⟨g, o, none⟩ (.int .i64 x.id)).setCell ⟨g, o + 1, none⟩ (.int .i64 x.key)).setCell ⟨g, o + 2, none⟩ (.int .i64 x.cost)).setCell ⟨g, o + 3, none⟩ (.int .i64 x.cls)).setCell ⟨g, o + 4, none⟩ (.int .i64 x.til)
theorem own_setAt {w : World} {B g c : Nat} {T : TypeId} {m : List It} (h : Own item T B w (.slice (some ⟨g, 0, none⟩) m.length c) m) {i : Nat} (hi : i < m.length) (x : It) : Own item T B (setAt w g (i * 5) x) (.slice (some ⟨g, 0, none⟩) m.length c) (m.set i x) := by
  unfold Own at h ⊢
  rw [cells_set x m i hi, List.length_set]
  exact row_set (row_set (row_set (row_set (row_set h _) _) _) _) _
theorem grown_setAt {w0 w : World} {g : Nat} (h : w0.grownBy w (some g)) (o : Nat) (x : It) : w0.grownBy (setAt w g o x) (some g) := by
  have one : ∀ {u : World} (k : Nat) (v : Value), w0.grownBy u (some g) → w0.grownBy (u.setCell ⟨g, k, none⟩ v) (some g) := fun {u} k v hu =>
    ⟨hu.os, hu.tape, hu.output, by simpa [World.setCell] using hu.size, fun j hj hn => (Below.heap_setCell _ _ _ _ (by rintro rfl; exact hn rfl)).trans (hu.block j hj hn)⟩
  exact one _ _ (one _ _ (one _ _ (one _ _ (one _ _ h))))
theorem grown_cells {w0 : World} {g : Nat} : ∀ (us : List Value) {w : World} {o : Nat}, w0.grownBy w (some g) → w0.grownBy (w.setCells g o us) (some g)
  | [], _, _, h => h
  | v :: us, w, o, hu => grown_cells us ⟨hu.os, hu.tape, hu.output, by simpa [World.setCell] using hu.size, fun j hj hn => (Below.heap_setCell _ _ _ _ (by rintro rfl; exact hn rfl)).trans (hu.block j hj hn)⟩
theorem own_there {w : World} {B g n c : Nat} {T : TypeId} {m : List It} (h : Own item T B w (.slice (some ⟨g, 0, none⟩) n c) m) {o : Nat} (ho : o < m.length * 5) : (w.cell? ⟨g, o, none⟩).isSome = true ∧ w.frozen? ⟨g, o, none⟩ = false := by
  rcases h.2 with ⟨e, -⟩ | ⟨g', cap, cur, e, h1, h2, h3, h4, h5, h6⟩
  · simp at e
  · simp only [Value.slice.injEq, Option.some.injEq, Addr.mk.injEq, and_true] at e
    obtain ⟨rfl, -, rfl⟩ := e
    have hk : o < cur.size := by
      rw [h5]
      exact Nat.lt_of_lt_of_le ho (Nat.mul_le_mul_right 5 h3)
    refine ⟨by rw [cell_of_row w g o _ _ (0, 0) h2]; simp [hk], frozen_of h2⟩
theorem own_five {w : World} {B g n c : Nat} {T : TypeId} {m : List It} (h : Own item T B w (.slice (some ⟨g, 0, none⟩) n c) m) {i : Nat} (hi : i < m.length) :
    ∃ u0 u1 u2 u3 u4, (w.cell? ⟨g, i * 5, none⟩ = some u0 ∧ w.cell? ⟨g, i * 5 + 1, none⟩ = some u1 ∧ w.cell? ⟨g, i * 5 + 2, none⟩ = some u2 ∧ w.cell? ⟨g, i * 5 + 3, none⟩ = some u3 ∧ w.cell? ⟨g, i * 5 + 4, none⟩ = some u4) ∧
      w.frozen? ⟨g, i * 5, none⟩ = false ∧ w.frozen? ⟨g, i * 5 + 1, none⟩ = false ∧ w.frozen? ⟨g, i * 5 + 2, none⟩ = false ∧ w.frozen? ⟨g, i * 5 + 3, none⟩ = false ∧ w.frozen? ⟨g, i * 5 + 4, none⟩ = false := by
  obtain ⟨a0, f0⟩ := own_there h (o := i * 5) (by omega)
  obtain ⟨a1, f1⟩ := own_there h (o := i * 5 + 1) (by omega)
  obtain ⟨a2, f2⟩ := own_there h (o := i * 5 + 2) (by omega)
  obtain ⟨a3, f3⟩ := own_there h (o := i * 5 + 3) (by omega)
  obtain ⟨a4, f4⟩ := own_there h (o := i * 5 + 4) (by omega)
  obtain ⟨u0, e0⟩ := Option.isSome_iff_exists.1 a0
  obtain ⟨u1, e1⟩ := Option.isSome_iff_exists.1 a1
  obtain ⟨u2, e2⟩ := Option.isSome_iff_exists.1 a2
  obtain ⟨u3, e3⟩ := Option.isSome_iff_exists.1 a3
  obtain ⟨u4, e4⟩ := Option.isSome_iff_exists.1 a4
  exact ⟨u0, u1, u2, u3, u4, ⟨e0, e1, e2, e3, e4⟩, f0, f1, f2, f3, f4⟩
/-- clear, of items. -/
theorem run_clear {w : World} {B g c i : Nat} {m : List It} (h : Own item 77 B w (.slice (some ⟨g, 0, none⟩) m.length c) m) (hi : i < m.length) (c' : Nat) (ty : TypeId) :
    (Builtin.clear_ #[49] ty #[.slice (some ⟨g, i * 5, none⟩) (m.length - i) c']).run Tryz.prog w = .ok (.tuple #[]) (w.setCells g (i * 5) (List.replicate ((m.length - i) * 5) (.int .i64 0))) := by
  have hzv : ∀ w, (zeroValue 77).run Tryz.prog w = .ok (val z) w := fun w => by kernel_rfl
  have hzc : ∀ n, (Builtin.zeroCells (val z).cells n).toList = List.replicate (n * 5) (.int .i64 0) := fun n => by
    apply List.ext_getElem
    · simp [Builtin.zeroCells, val, Value.cells]
    · intro k h1 h2
      have hm : k % 5 = 0 ∨ k % 5 = 1 ∨ k % 5 = 2 ∨ k % 5 = 3 ∨ k % 5 = 4 := by omega
      simp only [Builtin.zeroCells, val, Value.cells, z]
      rcases hm with e | e | e | e | e <;> simp [e]
  have hst := run_storeCells_cells (P := Tryz.prog) g (i * 5) (List.replicate ((m.length - i) * 5) (.int .i64 0)) 0 w (fun j hj => (own_there h (by simp at hj; omega)).1) (fun j hj => (own_there h (by simp at hj; omega)).2) (fun v hv => by rw [List.eq_of_mem_replicate hv]; rfl)
  simp only [Nat.add_zero] at hst
  obtain ⟨k, hk⟩ : ∃ k, m.length - i = k + 1 := ⟨m.length - i - 1, by omega⟩
  rw [hk] at hst ⊢
  simp [Builtin.clear_, run_underlying Tryz.underlying49, hzv, hzc, hst]
theorem below_grown {w w' : World} (hb : Below w.heap.size w w') (r : Option Nat) : w.grownBy w' r := ⟨hb.os, hb.tape, hb.output, hb.size, fun i hi _ => hb.block i hi⟩
theorem grown_then {a b c : World} {r : Option Nat} (h : a.grownBy b r) (k : Below b.heap.size b c) : a.grownBy c r := ⟨k.os.trans h.os, k.tape.trans h.tape, k.output.trans h.output, Nat.le_trans h.size k.size, fun i hi hn => (k.block i (Nat.lt_of_lt_of_le hi h.size)).trans (h.block i hi hn)⟩
/-- Behind j items, of which i stayed. -/
structure Keep (f : It → Bool) (l m : List It) (i j : Nat) : Prop where
  len : m.length = l.length
  lt : i < j
  le : j ≤ l.length
  low : m.take i = (l.take j).filter fun x => !f x
  high : m.drop j = l.drop j
theorem Keep.at_ {f : It → Bool} {l m : List It} {i j : Nat} (h : Keep f l m i j) (_ : j < l.length) : m.getD j z = l.getD j z := by
  have := congrArg (fun t => t.getD 0 z) h.high
  simpa [List.getD] using this
theorem Keep.skip {f : It → Bool} {l m : List It} {i j : Nat} (h : Keep f l m i j) (hj : j < l.length) (hf : f (l.getD j z) = true) : Keep f l m i (j + 1) := by
  refine ⟨h.len, by have := h.lt; omega, hj, ?_, ?_⟩
  · rw [h.low, filter_no (f := fun x => !f x) hj (by show (!f (l.getD j z)) = false; rw [hf]; rfl)]
  · have := congrArg (fun t => t.drop 1) h.high
    simpa [List.drop_drop] using this
theorem Keep.keep {f : It → Bool} {l m : List It} {i j : Nat} (h : Keep f l m i j) (hj : j < l.length) (hf : f (l.getD j z) = false) : Keep f l (m.set i (l.getD j z)) (i + 1) (j + 1) := by
  have hi : i < m.length := by have := h.len; have := h.lt; omega
  have h1 := h.lt
  refine ⟨by simpa using h.len, by omega, hj, ?_, ?_⟩
  · rw [filter_yes (f := fun x => !f x) hj (by show (!f (l.getD j z)) = true; rw [hf]; rfl), ← h.low, take_snoc z (by simpa using hi), List.take_set_of_le (Nat.le_refl i)]
    simp [List.getD, hi]
  · have := congrArg (fun t => t.drop 1) h.high
    simp only [List.drop_drop] at this
    rw [List.drop_set_of_lt (by omega)]
    exact this
theorem Keep.start {f : It → Bool} {l : List It} {k : Nat} (hk : k < l.length) (hn : ∀ i, i < k → f (l.getD i z) = false) (hy : f (l.getD k z) = true) : Keep f l l k (k + 1) := by
  refine ⟨rfl, by omega, hk, ?_, rfl⟩
  rw [filter_no (f := fun x => !f x) hk (by show (!f (l.getD k z)) = false; rw [hy]; rfl)]
  have key : ∀ j, j ≤ k → (l.take j).filter (fun x => !f x) = l.take j := by
    intro j
    induction j with
    | zero => intro _; rfl
    | succ j ih =>
      intro hj
      rw [filter_yes (f := fun x => !f x) (by omega) (by show (!f (l.getD j z)) = true; rw [hn j (by omega)]; rfl), ih (by omega), ← take_snoc z (by omega)]
  exact (key k (Nat.le_refl _)).symm
theorem filter_all {f : It → Bool} {l : List It} (hn : ∀ i, i < l.length → f (l.getD i z) = false) : l.filter (fun x => !f x) = l := by
  rw [List.filter_eq_self]
  intro x hx
  obtain ⟨i, hi, rfl⟩ := List.getElem_of_mem hx
  have := hn i hi
  simp only [List.getD, List.getElem?_eq_getElem hi, Option.getD_some] at this
  simp [this]
set_option maxRecDepth 100000 in
set_option maxHeartbeats 8000000 in
theorem delete_any {c g0 : Nat} {id : Int} {f : It → Bool} (eg : Ent g0) (hg : Gives c id g0 f) {l : List It} {y : Value} {B : Nat} {w : World} (h : Own item 77 B w y l) (hl : l.length ≤ 1000) (hc : w.cell? ⟨c, 0, none⟩ = some (.int .i64 id)) (hcy : y.ownBlock ≠ some c) :
    Calls Tryz.prog 153 #[y, fnv g0 c] w fun e w' => ∃ y', e = .returned y' ∧ Own item 77 B w' y' (l.filter fun x => !f x) ∧ y'.ownBlock = y.ownBlock ∧ w.grownBy w' y.ownBlock := by
  obtain ⟨p, d, rfl, hlies, -⟩ := own_slice h
  have hi := index_any eg hg (d := d) hlies hl hc
  rcases spot_cases f z l with ⟨e, hn⟩ | ⟨k, e, hk, hy, hn⟩
  · rw [e] at hi
    rw [filter_all hn]
    have HO := Lib.hid h
    clear h hc hg hlies hn hcy
    go_enter Tryz.func153, Tryz.ntmps153
    go_wp2_with (go_at_call 159; (with_reducible refine hi.mono ?_); rintro e w2 ⟨rfl, hb⟩; have HB2 := Lib.hid hb; clear hb hi)
    go_ret
    exact ⟨_, rfl, HO.out.on HB2.out, rfl, below_grown HB2.out _⟩
  · rw [e] at hi
    have hne1 : ((k : Int) == -1) = false := beq_eq_false_iff_ne.2 (by omega)
    obtain ⟨g, rfl⟩ : ∃ g, p = some ⟨g, 0, none⟩ := by
      rcases h.2 with ⟨e, e0⟩ | ⟨g, cap, cur, e, -⟩
      · omega
      · simp only [Value.slice.injEq] at e
        exact ⟨g, e.1⟩
    have HK := Lib.hid (Keep.start hk hn hy)
    have HO := Lib.hid h
    have hgc : c ≠ g := fun e => hcy (by rw [e]; rfl)
    have HC := Lib.hid (fun (u : World) (x : It) (hu : w.grownBy u (some g)) => hg u x ((World.cell?_of_block (hu.block c (World.block_lt_of_cell? _ _ hc) (by simpa using hgc))).trans hc))
    have hlt := own_lt h (b := g) rfl
    clear h hc hg hlies hn hy hcy
    go_enter Tryz.func153, Tryz.ntmps153
    go_wp2_with (go_at_call 159; (with_reducible refine hi.mono ?_); rintro e w2 ⟨rfl, hb⟩; have HB2 := Lib.hid hb; clear hb hi)
    have HD := Lib.hid (show l.filter (fun x => !f x) = l.filter (fun x => !f x) from rfl)
    generalize hn : l.length = n at *
    go_loopw [5, 6] (fun a1 a2 wr => ∃ (i j : Nat) (m : List It), a1 = .int .i64 (i : Int) ∧ a2 = .int .i64 (j : Int) ∧ j ≤ n ∧ i < j ∧ Hid (Keep f l m i j) ∧ Hid (Own item 77 B wr (.slice (some ⟨g, 0, none⟩) n d) m) ∧ Hid (w.grownBy wr (some g))) (fun _ a2 _ => n - (intOf a2).toNat)
    case atStart => exact ⟨k, k + 1, l, rfl, by go_num, by omega, by omega, HK, Lib.hid (HO.out.on HB2.out), Lib.hid (below_grown HB2.out _)⟩
    case round =>
      obtain ⟨i, j, m, rfl, rfl, hj, hij, HI, HM, HG⟩ := hrel
      have hm : m.length = n := by rw [HI.out.len, hn]
      by_cases hlt : j < n
      · have hlt' : (j : Int) < (n : Int) := by omega
        have hit : (i : Int) < (n : Int) := by omega
        obtain ⟨p', c', ep, hlies⟩ := HM.out.lies
        simp only [Value.slice.injEq] at ep
        obtain ⟨rfl, -, -⟩ := ep
        obtain ⟨b, o, eb, ha⟩ := lies_at hlies (show j < m.length by omega)
        simp only [Option.some.injEq, Addr.mk.injEq, and_true] at eb
        obtain ⟨rfl, rfl⟩ := eb
        rw [HI.out.at_ (by omega), Nat.zero_add] at ha
        obtain ⟨k0, k1, k2, k3, k4⟩ := at5 ha
        have HY := Lib.hid (fun h => HI.out.skip (by omega) h)
        have HN := Lib.hid (fun h => HI.out.keep (by omega) h)
        generalize l.getD j z = x at *
        have hbx := lay wr (.cells #[.int .i64 x.id, .int .i64 x.key, .int .i64 x.cost, .int .i64 x.cls, .int .i64 x.til] 77)
        have hg1 : w.grownBy (wr.alloc (.cells #[.int .i64 x.id, .int .i64 x.key, .int .i64 x.cost, .int .i64 x.cls, .int .i64 x.til] 77)) (some g) := grown_then HG.out hbx
        have HCx := HC.out _ x hg1
        have K := Lib.hid (heap_alloc_new wr (.cells #[.int .i64 x.id, .int .i64 x.key, .int .i64 x.cost, .int .i64 x.cls, .int .i64 x.til] 77))
        have HA := Lib.hid hbx
        have HG1 := Lib.hid hg1
        generalize hfx : f x = fx at *
        obtain ⟨xi, xk, xc, xs, xt⟩ := x
        simp only [val] at k0 k1 k2 k3 k4 HCx
        clear ha hlies hbx hg1 HC HD
        cases fx
        · have HE := Lib.hid (HN.out rfl)
          clear hfx HY HN
          go_wp2_with (first
            | (go_at_fn g0; (with_reducible refine HCx.mono ?_); rintro e w3 ⟨rfl, hb⟩; have HO3 := Lib.hid ((HM.out.on HA.out).on hb); have HG3 := Lib.hid (grown_then HG1.out hb); obtain ⟨b0, b1, b2, b3, b4⟩ := box5 ((hb.block _ (lt_heap K.out)).trans K.out); obtain ⟨u0, u1, u2, u3, u4, ⟨c0, c1, c2, c3, c4⟩, f0, f1, f2, f3, f4⟩ := own_five HO3.out (i := i) (by omega); clear hb HCx))
          have HS := Lib.hid (own_setAt (i := i) (show Own item 77 B w3 (.slice (some ⟨g, 0, none⟩) m.length d) m by rw [hm]; exact HO3.out) (by omega) ⟨xi, xk, xc, xs, xt⟩)
          rw [hm] at HS
          have HGS := Lib.hid (grown_setAt HG3.out (i * 5) ⟨xi, xk, xc, xs, xt⟩)
          rw [show ((((w3.setCell ⟨g, i * 5, none⟩ (.int .i64 xi)).setCell ⟨g, i * 5 + 1, none⟩ (.int .i64 xk)).setCell ⟨g, i * 5 + 2, none⟩ (.int .i64 xc)).setCell ⟨g, i * 5 + 3, none⟩ (.int .i64 xs)).setCell ⟨g, i * 5 + 4, none⟩ (.int .i64 xt) = setAt w3 g (i * 5) ⟨xi, xk, xc, xs, xt⟩ from rfl]
          generalize setAt w3 g (i * 5) ⟨xi, xk, xc, xs, xt⟩ = w4 at *
          go_roundw
          case rel => exact ⟨i + 1, j + 1, _, by go_num, by go_num, by omega, by omega, HE, HS, HGS⟩
          case measure => simp only [intOf]; omega
        · have HE := Lib.hid (HY.out rfl)
          clear hfx HY HN
          go_wp2_with (first
            | (go_at_fn g0; (with_reducible refine HCx.mono ?_); rintro e w3 ⟨rfl, hb⟩; have HO3 := Lib.hid ((HM.out.on HA.out).on hb); have HG3 := Lib.hid (grown_then HG1.out hb); clear hb HCx))
          go_roundw
          case rel => exact ⟨i, j + 1, m, rfl, by go_num, by omega, by omega, HE, HO3, HG3⟩
          case measure => simp only [intOf]; omega
      · have hlt' : ¬ (j : Int) < (n : Int) := by omega
        have hij' : (i : Int) < (n : Int) := by omega
        obtain rfl : j = n := by omega
        have hlow := HI.out.low
        rw [show l.take j = l from List.take_of_length_le (by omega)] at hlow
        have hrow : wr.ownsRow B 77 5 (.slice (some ⟨g, 0, none⟩) j d) j (cells item m) := by
          have := HM.out
          unfold Own at this
          rwa [hm] at this
        have hcut := row_fars (List.replicate ((j - i) * 5) (.int .i64 0)) (row_cut hrow (i := i) (by omega)) (Nat.le_refl _)
        rw [cells_take, hlow] at hcut
        have hil : (l.filter fun x => !f x).length = i := by rw [← hlow, List.length_take, hm]; omega
        have HF := Lib.hid (show Own item 77 B (wr.setCells g (i * 5) (List.replicate ((j - i) * 5) (.int .i64 0))) (.slice (some ⟨g, 0, none⟩) i d) (l.filter fun x => !f x) by unfold Own; rw [hil]; exact hcut)
        have HG2 := Lib.hid (grown_cells (List.replicate ((j - i) * 5) (.int .i64 0)) (o := i * 5) HG.out)
        have hclr := fun c' ty => run_clear (g := g) (c := d) (i := i) (B := B) (m := m) (by rw [hm]; exact HM.out) (by omega) c' ty
        rw [hm] at hclr
        generalize wr.setCells g (i * 5) (List.replicate ((j - i) * 5) (.int .i64 0)) = w5 at *
        have hcap : j ≤ d := by
          rcases hrow.2 with ⟨e, -⟩ | ⟨g', cap, cur, e, h1, h2, h3, -⟩
          · simp at e
          · simp only [Value.slice.injEq] at e
            omega
        have hd1 : (i : Int) ≤ (d : Int) := by omega
        have hd2 : ¬ d = i := by omega
        clear hrow hcut hlow
        go_wp2
        go_ret
        exact ⟨_, rfl, HF.out, rfl, HG2.out⟩
end Go.Proofs.YtlbpeeelgpjciaaGreat.Queue
