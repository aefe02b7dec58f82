/-
  A map of estimates, as the program has one: how its entries read, what it holds behind a list of notes (in whatever order), and what look-up, length, deletion and store tell and leave. No conditions beyond those that each names.
-/
import Derived.Test.YtghbcknbkkhhpaaDemandWay
import Derived.Maps.OwnSet
import Derived.WalkArith
namespace Go.Proofs.Ytghbcknbkkhhpaa.Demand
open Go.RowKit Go.Maps Go.WideShapes

def dv (x : Int) : DataW Unit := .lit (.int .i64 x)
theorem dv_inj {x y : Int} (h : dv x = dv y) : x = y := by simpa [dv] using h
/-- How a map's element reads. -/
def rdi : Value → Option (DataW Unit × List MemPlace)
  | .int .i64 a => some (dv a, [])
  | _ => none
theorem rdi_val (x : Int) : rdi (.int .i64 x) = some (dv x, []) := rfl
theorem rdi_inv {v : Value} {y : DataW Unit × List MemPlace} (h : rdi v = some y) : ∃ x, v = .int .i64 x ∧ y = (dv x, []) := by
  unfold rdi at h
  split at h
  · rename_i a
    exact ⟨a, rfl, (Option.some.inj h).symm⟩
  · cases h
theorem rdi_dv {v : Value} {x : Int} {ps : List MemPlace} (h : rdi v = some (dv x, ps)) : v = .int .i64 x := by
  obtain ⟨y, rfl, e⟩ := rdi_inv h
  rw [dv_inj (congrArg Prod.fst e)]
def kl (k : Int) : Lit := .int .i64 k
theorem kl_key (k : Int) : WideAt.IsKeyLit (kl k) := by simp [kl, WideAt.IsKeyLit]
theorem kl_same (a b : Int) : (kl a).sameKey (kl b) = (a == b) := by
  simp [kl, Lit.sameKey]
  rfl
def ent (l : List Nt) (k : Int) : Lit × DataW Unit := (kl k, dv (of l k))
/-- The map holds just the estimates behind these notes. -/
def Is (D : DataW Unit) (l : List Nt) : Prop := ∃ es, D = .map es ∧ es.Perm ((keys l).map (ent l))
theorem is_nil : Is (.map []) [] := ⟨[], rfl, .nil⟩
theorem is_keys {l : List Nt} (h : keys l = []) : Is (.map []) l := ⟨[], rfl, by rw [h]; exact .nil⟩
theorem keys_apart (l : List Nt) : ((keys l).map (ent l)).Pairwise fun p q => p.1 ≠ q.1 :=
  List.pairwise_map.2 ((keys_rise l).imp fun {a b} hlt e => by simp [ent, kl] at e; omega)
theorem Is.apart {l : List Nt} {es : List (Lit × DataW Unit)} (hp : es.Perm ((keys l).map (ent l))) : es.Pairwise fun p q => p.1 ≠ q.1 :=
  (hp.pairwise_iff (fun {_ _} hne => Ne.symm hne)).2 (keys_apart l)
theorem has_one (l : List Nt) (k : Int) : ((keys l).map (ent l)).any (fun p => p.1.sameKey (kl k)) = decide (of l k ≠ 0) := by
  rw [List.any_map]
  by_cases h : of l k ≠ 0
  · rw [decide_eq_true h]
    exact List.any_eq_true.2 ⟨k, (keys_mem l k).2 h, by simp [ent, kl_same]⟩
  · rw [decide_eq_false h]
    refine List.any_eq_false.2 fun x hx => ?_
    have : x ≠ k := by rintro rfl; exact h ((keys_mem l _).1 hx)
    simp [ent, kl_same, this]
theorem Is.has {D : DataW Unit} {l : List Nt} (h : Is D l) (k : Int) : Maps.has D (kl k) = decide (of l k ≠ 0) := by
  obtain ⟨es, rfl, hp⟩ := h
  rw [Maps.has_eq, hp.any_eq, has_one]
theorem Is.at {D : DataW Unit} {l : List Nt} (h : Is D l) (k : Int) : D.atKey (kl k) (dv 0) = dv (of l k) := by
  have hh := h.has k
  obtain ⟨es, rfl, hp⟩ := h
  by_cases hpl : of l k ≠ 0
  · exact WideAt.atKey_mem _ (kl_key k) (Is.apart hp) (hp.mem_iff.2 (List.mem_map.2 ⟨k, (keys_mem l k).2 hpl, rfl⟩))
  · rw [Maps.atKey_of_not_has (by rw [hh, decide_eq_false hpl]) _]
    have : of l k = 0 := by omega
    rw [this]
theorem Is.size {D : DataW Unit} {l : List Nt} (h : Is D l) : Maps.size D = (keys l).length := by
  obtain ⟨es, rfl, hp⟩ := h
  rw [Maps.size_eq, hp.length_eq, List.length_map]
theorem not_key (l : List Nt) (k : Int) (ks : List Int) : (ks.map (ent l)).filter (fun e => !e.1.sameKey (kl k)) = (ks.filter fun x => !(x == k)).map (ent l) := by
  rw [List.filter_map]
  congr 1
  refine List.filter_congr fun x _ => ?_
  simp [ent, kl_same]
theorem ent_other (l : List Nt) (k s : Int) (ks : List Int) : (ks.filter fun x => !(x == k)).map (ent l) = (ks.filter fun x => !(x == k)).map (ent (l ++ [⟨k, s⟩])) := by
  refine List.map_congr_left fun x hx => ?_
  have hne : x ≠ k := by simpa using (List.mem_filter.1 hx).2
  unfold ent
  rw [of_other l s (Ne.symm hne)]
theorem Is.del {D : DataW Unit} {l : List Nt} (h : Is D l) {k s : Int} (h0 : of (l ++ [⟨k, s⟩]) k = 0) : Is (D.del (kl k)) (l ++ [⟨k, s⟩]) := by
  obtain ⟨es, rfl, hp⟩ := h
  refine ⟨_, DataW.del_eq _ _, ?_⟩
  rw [keys_zero l h0, ← ent_other, ← not_key]
  exact hp.filter _
theorem nodup_rise {l : List Int} (h : l.Pairwise (· < ·)) : l.Nodup := h.imp fun {a b} hab e => by rw [e] at hab; omega
theorem kput_perm (k : Int) {ks : List Int} (h : ks.Pairwise (· < ·)) : (kput k ks).Perm (k :: ks.filter fun x => !(x == k)) := by
  obtain ⟨h1, h2⟩ := kput_rise k h
  refine (List.perm_ext_iff_of_nodup (nodup_rise h1) (List.nodup_cons.2 ⟨by simp, (nodup_rise h).filter _⟩)).2 fun x => ?_
  rw [h2, List.mem_cons, List.mem_filter]
  by_cases e : x = k <;> simp [e]
theorem Is.put {D : DataW Unit} {l : List Nt} (h : Is D l) {k s : Int} (h0 : of (l ++ [⟨k, s⟩]) k ≠ 0) : Is (D.put (kl k) (dv (of (l ++ [⟨k, s⟩]) k))) (l ++ [⟨k, s⟩]) := by
  obtain ⟨es, rfl, hp⟩ := h
  refine ⟨_, DataW.put_eq _ _ _, ?_⟩
  unfold ChangeMaps.putKey
  rw [keys_some l h0]
  refine (insert_perm _ _).trans (List.Perm.trans ?_ ((kput_perm k (keys_rise l)).map _).symm)
  rw [List.map_cons]
  refine List.Perm.cons _ ?_
  rw [← ent_other, ← not_key]
  exact hp.filter _
end Go.Proofs.Ytghbcknbkkhhpaa.Demand
