/-
  Each request is answered once, or waits: names of answers and of items, as lists up to order. Plain functions, no program.
-/
import Derived.Test.YtlbpeeelgpjciaaGreatMgAh
namespace Go.Proofs.YtlbpeeelgpjciaaGreat.Edge
open _root_.Go.Proofs.YtlbpeeelgpjciaaGreat.Lease (Lz spend Num)
open _root_.Go.Proofs.YtlbpeeelgpjciaaGreat.Queue (It take)
open _root_.Go.Proofs.YtlbpeeelgpjciaaGreat.Kit (take_snoc)

def ids (l : List An) : List Int := l.map fun x => x.id
def names (Q : List It) : List Int := Q.map fun x => x.id
theorem ids_append (a b : List An) : ids (a ++ b) = ids a ++ ids b := by simp [ids]
theorem ids_all (l : List It) (why : Int) : ids (all l why) = names l := by simp [ids, all, names]
theorem place_mem {Q : List It} {id : Int} (h : id ∈ names Q) : 0 ≤ Queue.place Q id := by
  by_cases hp : 0 ≤ Queue.place Q id
  · exact hp
  · obtain ⟨x, hx, e⟩ := List.mem_map.1 h
    exact absurd e (Queue.place_none (by omega) x hx)
theorem erase_perm {α : Type} : ∀ (l : List α) (i : Nat) (h : i < l.length), l.Perm (l[i] :: l.eraseIdx i)
  | [], _, h => by simp at h
  | a :: l, 0, _ => by simp
  | a :: l, i + 1, h => by
    simp only [List.getElem_cons_succ, List.eraseIdx_cons_succ]
    exact ((erase_perm l i (by simpa using h)).cons a).trans (List.Perm.swap _ _ _)
theorem once_take {Q : List It} {id : Int} (h : id ∈ names Q) : (names Q).Perm (id :: names (take Q id).1) := by
  have hp := place_mem h
  obtain ⟨h1, h2, h3⟩ := Queue.place_some hp
  unfold take
  rw [if_neg (by omega)]
  have e : (Queue.the Q id) = Q[(Queue.place Q id).toNat] := by
    unfold Queue.the
    simp [List.getD, h1]
  have hh := (erase_perm Q _ h1).map (fun x : It => x.id)
  rw [List.map_cons, ← e, h2] at hh
  exact hh
theorem once_serves (key now : Int) : ∀ (l : List It) (e : Eg), (names l).Nodup → (∀ x ∈ l, x.id ∈ names e.Q) → (ids (serves key now l e).2 ++ names (serves key now l e).1.Q).Perm (names e.Q)
  | [], e, _, _ => List.Perm.refl _
  | x :: l, e, hn, hm => by
    simp only [serves]
    split
    · have h1 := once_take (hm x (by simp))
      simp only [names, List.map_cons, List.nodup_cons] at hn
      have h2 := once_serves key now l ⟨(spend e.L key x.cost now).1, (take e.Q x.id).1, e.D⟩ hn.2 (fun y hy => by
        have hy1 := hm y (List.mem_cons_of_mem _ hy)
        have hy2 := (h1.mem_iff).1 hy1
        rcases List.mem_cons.1 hy2 with hy2 | hy2
        · exact absurd (List.mem_map.2 ⟨y, hy, hy2⟩) hn.1
        · exact hy2)
      exact (List.Perm.cons x.id h2).trans h1.symm
    · exact List.Perm.refl _
theorem once_without : ∀ (l Q : List It), (names l).Nodup → (∀ x ∈ l, x.id ∈ names Q) → (names l ++ names (without Q l)).Perm (names Q)
  | [], Q, _, _ => List.Perm.refl _
  | x :: l, Q, hn, hm => by
    have h1 := once_take (hm x (by simp))
    simp only [names, List.map_cons, List.nodup_cons] at hn
    have h2 := once_without l (take Q x.id).1 hn.2 (fun y hy => by
      have hy1 := hm y (List.mem_cons_of_mem _ hy)
      have hy2 := (h1.mem_iff).1 hy1
      rcases List.mem_cons.1 hy2 with hy2 | hy2
      · exact absurd (List.mem_map.2 ⟨y, hy, hy2⟩) hn.1
      · exact hy2)
    exact (List.Perm.cons x.id h2).trans h1.symm
theorem names_nodup {Q : List It} (h : Q.Pairwise fun a b => a.id ≠ b.id) : (names Q).Nodup := by
  unfold names List.Nodup
  rw [List.pairwise_map]
  exact h
theorem names_inj {Q : List It} (h : Q.Pairwise fun a b => a.id ≠ b.id) {x y : It} (hx : x ∈ Q) (hy : y ∈ Q) (e : x.id = y.id) : x = y := by
  induction Q with
  | nil => cases hx
  | cons a Q ih =>
    rw [List.pairwise_cons] at h
    rcases List.mem_cons.1 hx with hx | hx <;> rcases List.mem_cons.1 hy with hy | hy
    · rw [hx, hy]
    · rw [hx] at e; exact absurd e (h.1 y hy)
    · rw [hy] at e; exact absurd e.symm (h.1 x hx)
    · exact ih h.2 hx hy
theorem of_sub (Q : List It) (k : Int) : ∀ x ∈ Queue.of Q k, x ∈ Q := by
  intro x hx
  unfold Queue.of Queue.ofc at hx
  simp only [List.mem_append, List.mem_filter] at hx
  rcases hx with (hx | hx) | hx <;> exact hx.1
theorem of_pair {Q : List It} (h : Q.Pairwise fun a b => a.id ≠ b.id) (k : Int) : (Queue.of Q k).Pairwise fun a b => a.id ≠ b.id := by
  have cross : ∀ c c' : Int, c ≠ c' → ∀ x ∈ Queue.ofc Q k c, ∀ y ∈ Queue.ofc Q k c', x.id ≠ y.id := by
    intro c c' hc x hx y hy e
    simp only [Queue.ofc, List.mem_filter, Queue.isOf, Bool.and_eq_true, beq_iff_eq] at hx hy
    obtain rfl := names_inj h hx.1 hy.1 e
    exact hc (hx.2.2.symm.trans hy.2.2)
  have one : ∀ c : Int, (Queue.ofc Q k c).Pairwise fun a b => a.id ≠ b.id := fun c => h.sublist List.filter_sublist
  unfold Queue.of
  rw [List.pairwise_append, List.pairwise_append]
  refine ⟨⟨one 0, one 1, cross 0 1 (by decide)⟩, one 2, fun x hx y hy => ?_⟩
  rcases List.mem_append.1 hx with hx | hx
  · exact cross 0 2 (by decide) x hx y hy
  · exact cross 1 2 (by decide) x hx y hy
theorem of_once {Q : List It} (h : Q.Pairwise fun a b => a.id ≠ b.id) (k : Int) : (names (Queue.of Q k)).Nodup ∧ ∀ x ∈ Queue.of Q k, x.id ∈ names Q :=
  ⟨names_nodup (of_pair h k), fun x hx => List.mem_map.2 ⟨x, of_sub Q k x hx, rfl⟩⟩
theorem once_expire (Q : List It) (now : Int) : (names (Queue.expire Q now).2 ++ names (Queue.expire Q now).1).Perm (names Q) := by
  unfold names Queue.expire
  rw [← List.map_append]
  refine List.Perm.map _ ?_
  have := List.filter_append_perm (Queue.due now) Q
  exact this
/-- Does an act ask? -/
def asks (a : Ac) : Prop := a.kind % 10 < 4
instance (a : Ac) : Decidable (asks a) := by unfold asks; infer_instance
theorem once_ask (c : Cf) (e : Eg) (r : Rq) (now : Int) : (ids (ask c e r now).2 ++ names (ask c e r now).1.Q).Perm (r.id :: names e.Q) := by
  unfold ask wait
  split
  · exact List.Perm.refl _
  · split
    · exact List.Perm.refl _
    · split
      · exact List.Perm.refl _
      · split
        · exact List.Perm.refl _
        · split
          · exact List.Perm.refl _
          · split
            · exact List.Perm.refl _
            · split
              · rename_i hp
                unfold Queue.put at hp ⊢
                split
                · rename_i h1; rw [if_pos h1] at hp; exact absurd hp (by simp)
                · rename_i h1
                  rw [if_neg h1] at hp
                  split
                  · rename_i h2; rw [if_pos h2] at hp; exact absurd hp (by simp)
                  · rename_i h2
                    rw [if_neg h2] at hp
                    split
                    · rename_i h3; rw [if_pos h3] at hp; exact absurd hp (by simp)
                    · simp only [ids, List.map_nil, List.nil_append, names, List.map_append, List.map_cons, item]
                      exact List.perm_append_singleton _ _
              · exact List.Perm.refl _
theorem once_act {c : Cf} {e : Eg} (hg : Good c e) {a : Ac} (_ : 0 ≤ a.kind) : (ids (actOf c e a).2.1 ++ names (actOf c e a).1.Q).Perm ((if asks a then [a.r.id] else []) ++ names e.Q) := by
  have hn := hg.q.names
  unfold actOf
  by_cases h4 : a.kind % 10 = 4
  · rw [if_pos h4, if_neg (by unfold asks; omega)]
    unfold grant
    split
    · obtain ⟨n1, n2⟩ := of_once hn a.l.key
      exact once_serves a.l.key a.now (Queue.of e.Q a.l.key) ⟨(Lease.put e.L a.l).1, e.Q, e.D⟩ n1 n2
    · exact List.Perm.refl _
  · rw [if_neg h4]
    by_cases h5 : a.kind % 10 = 5
    · rw [if_pos h5, if_neg (by unfold asks; omega)]
      exact List.Perm.refl _
    · rw [if_neg h5]
      by_cases h6 : a.kind % 10 = 6
      · rw [if_pos h6, if_neg (by unfold asks; omega)]
        exact List.Perm.refl _
      · rw [if_neg h6]
        by_cases h7 : a.kind % 10 = 7
        · rw [if_pos h7, if_neg (by unfold asks; omega)]
          simp only [expire, ids_all]
          exact once_expire e.Q a.now
        · rw [if_neg h7]
          by_cases h8 : a.kind % 10 = 8
          · rw [if_pos h8, if_neg (by unfold asks; omega)]
            simp only [refuse, ids_all]
            obtain ⟨n1, n2⟩ := of_once hn a.l.key
            exact once_without _ _ n1 n2
          · rw [if_neg h8]
            by_cases h9 : a.kind % 10 = 9
            · rw [if_pos h9, if_neg (by unfold asks; omega)]
              simp only [crash, ids_all, e0, names, List.map_nil, List.append_nil, List.nil_append]
              exact List.Perm.refl _
            · rw [if_neg h9, if_pos (by unfold asks; omega)]
              exact once_ask c e a.r a.now
/-- An act whose request has a name of its own. -/
def named (a : Ac) (i : Nat) : Ac := ⟨a.kind, ⟨i, a.r.key, a.r.cost, a.r.cls, a.r.wait⟩, a.l, a.why, a.now⟩
def nameds (l : List Ac) : List Ac := (List.range l.length).map fun i => named (l.getD i za) i
theorem nameds_len (l : List Ac) : (nameds l).length = l.length := by simp [nameds]
theorem nameds_at {l : List Ac} {j : Nat} (h : j < l.length) : (nameds l).getD j za = named (l.getD j za) j := by
  simp [nameds, List.getD, h]
theorem named_num {a : Ac} (h : AcNum a) {i : Nat} (hi : i ≤ 100) : AcNum (named a i) := by
  obtain ⟨h1, ⟨_, h3⟩, h4, h5, h6⟩ := h
  exact ⟨h1, ⟨by unfold Num named; simp only; omega, h3⟩, h4, h5, h6⟩
theorem nameds_num {l : List Ac} (h : ∀ a ∈ l, AcNum a) (hl : l.length ≤ 100) : ∀ a ∈ nameds l, AcNum a := by
  intro a ha
  obtain ⟨i, hi, rfl⟩ := List.mem_map.1 ha
  have hi' : i < l.length := List.mem_range.1 hi
  exact named_num (h _ (by simp [List.getD, hi'])) (by omega)
/-- What the first j acts tell. -/
def told (c : Cf) (l : List Ac) : Nat → List An
  | 0 => []
  | j + 1 => told c l j ++ (actOf c (st c l j) (l.getD j za)).2.1
/-- Who was asked for by the first j acts. -/
def asked (l : List Ac) : Nat → List Int
  | 0 => []
  | j + 1 => if asks (l.getD j za) then (j : Int) :: asked l j else asked l j
theorem asked_len (l : List Ac) : ∀ j, (asked l j).length ≤ j
  | 0 => by simp [asked]
  | j + 1 => by
    have := asked_len l j
    unfold asked
    split
    · simp; omega
    · omega
theorem asked_mem (l : List Ac) : ∀ j, ∀ x ∈ asked l j, ∃ i : Nat, x = (i : Int) ∧ i < j ∧ asks (l.getD i za)
  | 0, x, h => by simp [asked] at h
  | j + 1, x, h => by
    unfold asked at h
    split at h
    · rename_i ha
      rcases List.mem_cons.1 h with h | h
      · exact ⟨j, h, by omega, ha⟩
      · obtain ⟨i, e, hi, ha⟩ := asked_mem l j x h
        exact ⟨i, e, by omega, ha⟩
    · obtain ⟨i, e, hi, ha⟩ := asked_mem l j x h
      exact ⟨i, e, by omega, ha⟩
theorem asked_nodup (l : List Ac) : ∀ j, (asked l j).Nodup
  | 0 => by simp [asked]
  | j + 1 => by
    unfold asked
    split
    · rw [List.nodup_cons]
      refine ⟨fun h => ?_, asked_nodup l j⟩
      obtain ⟨i, e, hi, _⟩ := asked_mem l j _ h
      omega
    · exact asked_nodup l j
theorem once_all {c : Cf} (hq : 0 ≤ c.qu) {l : List Ac} (hn : ∀ a ∈ l, AcNum a) (hl : l.length ≤ 100) : ∀ j, j ≤ l.length → (ids (told c (nameds l) j) ++ names (st c (nameds l) j).Q).Perm (asked l j)
  | 0, _ => by rw [st_zero]; exact List.Perm.refl _
  | j + 1, h => by
    have ih := once_all hq hn hl j (by omega)
    have hm : l.getD j za ∈ l := by simp [List.getD, show j < l.length by omega]
    have hg := (st_good hq (nameds l) (nameds_num hn hl) j (by rw [nameds_len]; omega)).1
    rw [st_succ c (nameds l) (by rw [nameds_len]; omega)]
    unfold told
    rw [nameds_at (show j < l.length by omega), ids_append]
    have h1 := once_act hg (a := named (l.getD j za) j) (hn _ hm).1.1
    have e1 : asks (named (l.getD j za) j) ↔ asks (l.getD j za) := Iff.rfl
    generalize actOf c (st c (nameds l) j) (named (l.getD j za) j) = R at *
    rw [List.append_assoc]
    refine (List.Perm.append_left _ h1).trans ?_
    unfold asked
    by_cases ha : asks (l.getD j za)
    · rw [if_pos ha, if_pos (e1.2 ha)]
      refine (List.perm_middle).trans ?_
      exact ih.cons _
    · rw [if_neg ha, if_neg (fun h => ha (e1.1 h)), List.nil_append]
      exact ih
/-- All that is answered, and who waits. -/
def waits (Q : List It) : List An := Q.map fun x => ⟨x.id, 0, 0⟩
theorem ids_waits (Q : List It) : ids (waits Q) = names Q := by simp [ids, waits, names]
def whole (c : Cf) (l : List Ac) : List An := told c (nameds l) l.length ++ waits (st c (nameds l) l.length).Q
theorem whole_perm {c : Cf} (hq : 0 ≤ c.qu) {l : List Ac} (hn : ∀ a ∈ l, AcNum a) (hl : l.length ≤ 100) : (ids (whole c l)).Perm (asked l l.length) := by
  unfold whole
  rw [ids_append, ids_waits]
  exact once_all hq hn hl _ (Nat.le_refl _)
theorem whole_len {c : Cf} (hq : 0 ≤ c.qu) {l : List Ac} (hn : ∀ a ∈ l, AcNum a) (hl : l.length ≤ 100) : (whole c l).length = (asked l l.length).length := by
  have := (whole_perm hq hn hl).length_eq
  simpa [ids] using this
def cnt (id : Int) (l : List An) : Nat := (l.filter fun x => x.id == id).length
theorem cnt_none {id : Int} : ∀ {l : List An}, id ∉ ids l → cnt id l = 0
  | [], _ => rfl
  | x :: l, h => by
    simp only [ids, List.map_cons, List.mem_cons, not_or] at h
    have e : (x.id == id) = false := by rw [beq_eq_false_iff_ne]; exact fun e => h.1 e.symm
    unfold cnt
    rw [List.filter_cons, e]
    exact cnt_none h.2
theorem cnt_one {id : Int} : ∀ {l : List An}, (ids l).Nodup → id ∈ ids l → cnt id l = 1
  | [], _, h => by simp [ids] at h
  | x :: l, hn, h => by
    simp only [ids, List.map_cons, List.nodup_cons] at hn
    simp only [ids, List.map_cons, List.mem_cons] at h
    unfold cnt
    rw [List.filter_cons]
    by_cases e : x.id = id
    · subst e
      rw [if_pos (by simp), List.length_cons]
      have := cnt_none (l := l) hn.1
      unfold cnt at this
      omega
    · rw [if_neg (by simpa using e)]
      exact cnt_one (l := l) hn.2 (h.resolve_left fun e2 => e e2.symm)
/-- Each one: answered once, by its own name. -/
theorem whole_one {c : Cf} (hq : 0 ≤ c.qu) {l : List Ac} (hn : ∀ a ∈ l, AcNum a) (hl : l.length ≤ 100) {j : Nat} (hj : j < (whole c l).length) :
    cnt ((whole c l).getD j az).id (whole c l) = 1 ∧ ∃ i : Nat, ((whole c l).getD j az).id = (i : Int) ∧ i < l.length ∧ asks (l.getD i za) := by
  have hp := whole_perm hq hn hl
  have hm : ((whole c l).getD j az).id ∈ ids (whole c l) := List.mem_map.2 ⟨_, by simp [List.getD, hj], rfl⟩
  refine ⟨cnt_one ((hp.nodup_iff).2 (asked_nodup l _)) hm, ?_⟩
  exact asked_mem l _ _ ((hp.mem_iff).1 hm)
end Go.Proofs.YtlbpeeelgpjciaaGreat.Edge
