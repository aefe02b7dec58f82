/-
  A map of leases, as the program's wallet has one: how its entries read, what it holds of a list of leases (in whatever order), and what look-up, length, deletion and store tell and leave. No conditions beyond those that each names.
-/
import Derived.Test.YtlipepbemofihaaLeaseWay
import Derived.Lib.SlMapFilter
import Derived.Maps.OwnSet
import Derived.WalkArith
namespace Go.Proofs.Ytlipepbemofihaa.Lease
open Go.RowKit Go.Maps Go.WideShapes

def dat (x : Lz) : DataW Unit := .agg [.lit (.int .i64 x.key), .lit (.int .i64 x.gen), .lit (.int .i64 x.amount), .lit (.int .i64 x.spent), .lit (.int .i64 x.til)]
theorem dat_inj {x y : Lz} (h : dat x = dat y) : x = y := by
  cases x; cases y
  simp [dat] at h
  obtain ⟨rfl, rfl, rfl, rfl, rfl⟩ := h
  rfl
/-- How a map's element reads. -/
def rdz : Value → Option (DataW Unit × List MemPlace)
  | .agg cs => match cs.toList with
    | [.int .i64 a, .int .i64 b, .int .i64 c, .int .i64 d, .int .i64 e] => some (dat ⟨a, b, c, d, e⟩, [])
    | _ => none
  | _ => none
theorem rdz_val (x : Lz) : rdz (val x) = some (dat x, []) := rfl
theorem rdz_inv {v : Value} {y : DataW Unit × List MemPlace} (h : rdz v = some y) : ∃ x, v = val x ∧ y = (dat x, []) := by
  unfold rdz at h
  split at h
  · rename_i cs
    split at h
    · rename_i a b c d e hc
      refine ⟨⟨a, b, c, d, e⟩, ?_, (Option.some.inj h).symm⟩
      have : cs = #[.int .i64 a, .int .i64 b, .int .i64 c, .int .i64 d, .int .i64 e] := by
        apply Array.toList_inj.1
        rw [hc]
      rw [this]
      rfl
    · cases h
  · cases h
theorem rdz_dat {v : Value} {x : Lz} {ps : List MemPlace} (h : rdz v = some (dat x, ps)) : v = val x := by
  obtain ⟨y, rfl, e⟩ := rdz_inv h
  rw [dat_inj (congrArg Prod.fst e)]

def kl (k : Int) : Lit := .int .i64 k
theorem kl_key (k : Int) : WideAt.IsKeyLit (kl k) := by simp [kl, WideAt.IsKeyLit]
theorem kl_same (a b : Int) : (kl a).sameKey (kl b) = (a == b) := by
  simp [kl, Lit.sameKey]
  rfl
def ent (x : Lz) : Lit × DataW Unit := (kl x.key, dat x)
/-- The map holds just these leases. -/
def Is (D : DataW Unit) (l : List Lz) : Prop := ∃ es, D = .map es ∧ es.Perm (l.map ent)
def Rise (l : List Lz) : Prop := l.Pairwise fun a b => a.key < b.key
/-- A key's lease, or the zero one. -/
def found (l : List Lz) (k : Int) : Lz := if 0 ≤ place l k then the l k else z

theorem is_nil : Is (.map []) [] := ⟨[], rfl, .nil⟩
theorem apart {l : List Lz} (h : Rise l) : (l.map ent).Pairwise fun p q => p.1 ≠ q.1 :=
  List.pairwise_map.2 (h.imp fun {a b} hlt e => by simp [ent, kl] at e; omega)
theorem Is.apart {l : List Lz} {es : List (Lit × DataW Unit)} (hp : es.Perm (l.map ent)) (h : Rise l) : es.Pairwise fun p q => p.1 ≠ q.1 :=
  (hp.pairwise_iff (fun {_ _} hne => Ne.symm hne)).2 (Lease.apart h)
theorem has_one {l : List Lz} (k : Int) : (l.map ent).any (fun p => p.1.sameKey (kl k)) = decide (0 ≤ place l k) := by
  rw [List.any_map]
  by_cases h : 0 ≤ place l k
  · obtain ⟨_, hk, hm⟩ := place_some h
    rw [decide_eq_true h]
    exact List.any_eq_true.2 ⟨_, hm, by simp [ent, kl_same, hk]⟩
  · rw [decide_eq_false h]
    refine List.any_eq_false.2 fun x hx => ?_
    have := place_none (l := l) (k := k) (by omega) x hx
    simp [ent, kl_same, this]
theorem Is.has {D : DataW Unit} {l : List Lz} (h : Is D l) (k : Int) : Maps.has D (kl k) = decide (0 ≤ place l k) := by
  obtain ⟨es, rfl, hp⟩ := h
  rw [Maps.has_eq, hp.any_eq, has_one]
theorem Is.at {D : DataW Unit} {l : List Lz} (h : Is D l) (hr : Rise l) (k : Int) : D.atKey (kl k) (dat z) = dat (found l k) := by
  have hh := h.has k
  obtain ⟨es, rfl, hp⟩ := h
  unfold found
  by_cases hpl : 0 ≤ place l k
  · rw [if_pos hpl]
    obtain ⟨_, hk, hm⟩ := place_some hpl
    refine WideAt.atKey_mem _ (kl_key k) (Is.apart hp hr) (hp.mem_iff.2 (List.mem_map.2 ⟨_, hm, ?_⟩))
    simp [ent, hk]
  · rw [if_neg hpl]
    exact Maps.atKey_of_not_has (by rw [hh, decide_eq_false hpl]) _
theorem Is.size {D : DataW Unit} {l : List Lz} (h : Is D l) : Maps.size D = l.length := by
  obtain ⟨es, rfl, hp⟩ := h
  rw [Maps.size_eq, hp.length_eq, List.length_map]

theorem ins_perm (x : Lz) : ∀ l : List Lz, (ins x l).Perm (x :: l)
  | [] => .refl _
  | y :: l => by
    unfold ins
    split
    · exact .refl _
    · exact ((ins_perm x l).cons y).trans (.swap x y l)
theorem not_key {l : List Lz} (k : Int) (p : Lz → Bool) (hp : ∀ x, p x = !(x.key == k)) : (l.map ent).filter (fun e => !e.1.sameKey (kl k)) = (l.filter p).map ent := by
  rw [List.filter_map]
  congr 1
  refine List.filter_congr fun x _ => ?_
  simp [ent, kl_same, hp]
theorem erase_filter {k : Int} : ∀ {l : List Lz} (j : Nat), Rise l → (∀ hj : j < l.length, l[j].key = k) → j < l.length → l.filter (fun x => !(x.key == k)) = l.eraseIdx j
  | [], _, _, _, hj => by simp at hj
  | x :: l, 0, h, hk, _ => by
    have hx : x.key = k := by simpa using hk
    have h' := (List.pairwise_cons.1 h).1
    rw [List.filter_cons_of_neg (by simp [hx])]
    exact List.filter_eq_self.2 fun y hy => by have := h' y hy; have : y.key ≠ k := by omega
                                               simp [this]
  | x :: l, j + 1, h, hk, hj => by
    have h' := List.pairwise_cons.1 h
    have hj' : j < l.length := by simpa using hj
    have hk' : l[j].key = k := hk hj
    have hx : x.key < k := by rw [← hk']; exact h'.1 _ (List.getElem_mem hj')
    have hne : (x.key == k) = false := by simp; omega
    rw [List.filter_cons_of_pos (by simp [hne]), List.eraseIdx_cons_succ]
    congr 1
    exact erase_filter j h'.2 (fun _ => hk') hj'
theorem gone_is {l : List Lz} (h : Rise l) (k : Int) : l.filter (fun x => !(x.key == k)) = if place l k < 0 then l else l.eraseIdx (place l k).toNat := by
  split
  · rename_i hn
    exact List.filter_eq_self.2 fun y hy => by have := place_none hn y hy; simp [this]
  · rename_i hn
    obtain ⟨hj, hk, hm⟩ := place_some (l := l) (k := k) (by omega)
    have hx : the l k = l[(place l k).toNat] := by unfold the; simp [List.getD, hj]
    exact erase_filter _ h (fun _ => by rw [← hx]; exact hk) hj
theorem Is.del {D : DataW Unit} {l : List Lz} (h : Is D l) (hr : Rise l) (k : Int) : Is (D.del (kl k)) (if place l k < 0 then l else l.eraseIdx (place l k).toNat) := by
  obtain ⟨es, rfl, hp⟩ := h
  refine ⟨_, DataW.del_eq _ _, ?_⟩
  rw [← gone_is hr, ← not_key k _ (fun _ => rfl)]
  exact hp.filter _
theorem Is.put {D : DataW Unit} {l : List Lz} (h : Is D l) {x : Lz} (hn : place l x.key < 0) : Is (D.put (kl x.key) (dat x)) (ins x l) := by
  obtain ⟨es, rfl, hp⟩ := h
  refine ⟨_, DataW.put_eq _ _ _, ?_⟩
  unfold ChangeMaps.putKey
  refine (insert_perm _ _).trans (List.Perm.trans ?_ ((ins_perm x l).map ent).symm)
  have : es.filter (ChangeMaps.notKey (kl x.key)) = es := List.filter_eq_self.2 fun p hp' => by
    obtain ⟨y, hy, rfl⟩ := List.mem_map.1 (hp.mem_iff.1 hp')
    have := place_none hn y hy
    simp [ChangeMaps.notKey, ent, kl_same, this]
  rw [this]
  exact hp.cons _
theorem set_perm {α : Type} (y : α) : ∀ (l : List α) (j : Nat), j < l.length → (l.set j y).Perm (y :: l.eraseIdx j)
  | [], _, h => by simp at h
  | x :: l, 0, _ => by simp
  | x :: l, j + 1, h => by
    simp only [List.set_cons_succ, List.eraseIdx_cons_succ]
    exact ((set_perm y l j (by simpa using h)).cons x).trans (.swap y x _)
theorem Is.more {D : DataW Unit} {l : List Lz} (h : Is D l) (hr : Rise l) {y : Lz} (hp : 0 ≤ place l y.key) : Is (D.put (kl y.key) (dat y)) (l.set (place l y.key).toNat y) := by
  obtain ⟨hj, _, _⟩ := place_some hp
  obtain ⟨es, rfl, hpm⟩ := h
  refine ⟨_, DataW.put_eq _ _ _, ?_⟩
  unfold ChangeMaps.putKey
  refine (insert_perm _ _).trans (List.Perm.trans ?_ ((set_perm y l _ hj).map ent).symm)
  have hg := gone_is hr y.key
  rw [if_neg (by omega)] at hg
  rw [List.map_cons, ← hg, ← not_key y.key _ (fun _ => rfl)]
  exact (hpm.filter _).cons _
theorem Is.drop {D : DataW Unit} {l : List Lz} (h : Is D l) (pd : Lit → DataW Unit → Bool) (p : Lz → Bool) (hp : ∀ x, pd (kl x.key) (dat x) = p x) : Is (Lib.deleteFuncD pd D) (l.filter fun x => !p x) := by
  obtain ⟨es, rfl, hpm⟩ := h
  refine ⟨_, rfl, (hpm.filter _).trans ?_⟩
  rw [List.filter_map]
  refine .of_eq ?_
  congr 1
  exact List.filter_congr fun x _ => by simp [ent, hp]
end Go.Proofs.Ytlipepbemofihaa.Lease
