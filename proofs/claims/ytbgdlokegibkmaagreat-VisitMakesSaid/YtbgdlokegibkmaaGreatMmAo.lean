/-
  The document's Grant, of any table of up to 1000 rows and leases, returns the plain function's table and number; of what lay when the call began nothing has turned.
  What holds of a table that began as one that may be, behind n acts: how many rows and leases, and which numbers; each act keeps it. No program.
  What is asked of the program's ledger (Way9), of tables of which I holds (Inv); the document's acts, and the program's, of any kind (step, want); whether two rows are one (sameRow).
  Gone, and the same, plain: a key whose row is idle, looked at not farther ahead than twice the skew, is as if its row were gone. No program.
  What holds of a table, behind n acts, besides: its rows rise by keys, each row's leases by nodes; each act keeps it. No program.
  Tables that rise, plain: how many rows and leases there are stays within bounds, whatever is minted, settled and granted; what a node holds of a key, behind each. No program.
  The budget, plain: of acts of one key, on a table that begins without credit: what a row has in total, and what was settled as spent, behind each act is not more than what it had in total ahead of it, and R times how far its Mark has gone. No program.
-/
import Derived.Laws.Cover1
import Derived.Laws.StructEq
import Derived.Test.YtbgdlokegibkmaaGreatMmAc
import Derived.Test.YtbgdlokegibkmaaGreatMmAe
namespace Go.Proofs.YtbgdlokegibkmaaGreat.Ledger
open Go.RowKit
open _root_.Go.Proofs.YtbgdlokegibkmaaGreat.Frame (Rw Tb noRow LeasesAt cell_on)
open _root_.Go.Proofs.YtbgdlokegibkmaaGreat.Codec (own_below own_lower lt_of_heap frozen_of heap_set)
open _root_.Go.Proofs.YtbgdlokegibkmaaGreat.Sat (fit add sub mul rfit_any)
/-- What is granted. -/
def grantN (r : Rw) (want : Int) : Int := min (min (fit want) r.avail) 2147483648
def mayGrant (t : Tb) (key node want : Int) : Bool := findIs t key && decide (1 ≤ grantN (findRow t key) want) && decide (0 ≤ node) && decide (node ≤ 63) && decide (outAt (findRow t key).out node < 0)
/-- Leases with another one, by nodes: how far it is. -/
def leaseStep (x : Int × Int) (s : List (Int × Int) × Bool) (y : Int × Int) : List (Int × Int) × Bool := ((if s.2 = false ∧ x.1 < y.1 then s.1 ++ [x] else s.1) ++ [y], s.2 || decide (x.1 < y.1))
def leaseTo (x : Int × Int) (l : List (Int × Int)) : List (Int × Int) × Bool := l.foldl (leaseStep x) ([], false)
def withLease (l : List (Int × Int)) (x : Int × Int) : List (Int × Int) := if (leaseTo x l).2 = true then (leaseTo x l).1 else (leaseTo x l).1 ++ [x]
def granted (r : Rw) (node n : Int) : Rw := ⟨r.key, r.avail - n, r.mark, withLease r.out (node, n)⟩
def grant (t : Tb) (key node want : Int) : Tb × Int :=
  if mayGrant t key node want = true then (setRow t (granted (findRow t key) node (grantN (findRow t key) want)), grantN (findRow t key) want) else (t, 0)
theorem leaseTo_rest (x : Int × Int) : ∀ (l : List (Int × Int)) (s : List (Int × Int) × Bool), (l.foldl (leaseStep x) s).1.length + rest (l.foldl (leaseStep x) s).2 = s.1.length + rest s.2 + l.length
  | [], s => rfl
  | y :: l, (a, b) => by
    refine Eq.trans (leaseTo_rest x l _) ?_
    simp only [leaseStep, List.length_append, List.length_cons, List.length_nil]
    cases b <;> by_cases h1 : x.1 < y.1 <;> simp [h1, rest] <;> omega
theorem leaseTo_len (x : Int × Int) (l : List (Int × Int)) : (leaseTo x l).1.length + rest (leaseTo x l).2 = l.length + 1 := by
  have : (l.foldl (leaseStep x) ([], false)).1.length + rest (l.foldl (leaseStep x) ([], false)).2 = 0 + 1 + l.length := leaseTo_rest x l ([], false)
  unfold leaseTo
  omega
theorem withLease_len (l : List (Int × Int)) (x : Int × Int) : (withLease l x).length = l.length + 1 := by
  have := leaseTo_len x l
  unfold withLease
  split
  · rename_i h
    rw [h] at this
    simp only [rest] at this
    omega
  · rename_i h
    rw [Bool.not_eq_true] at h
    rw [h] at this
    simp only [rest] at this
    simp
    omega
/-- The least of three. -/
theorem least_run (f a N : Int) (h : N = min (min f a) 2147483648) (ts : Array TypeId) (t : TypeId) (w : World) : (Builtin.min_ ts t #[.int .i64 f, .int .i64 a, .int .i64 2147483648]).run Tryz.prog w = .ok (.int .i64 N) w := by
  rw [run_min_int3]
  have : (if 2147483648 < (if a < f then a else f) then 2147483648 else (if a < f then a else f)) = N := by
    by_cases h1 : a < f
    · rw [if_pos h1]
      split <;> omega
    · rw [if_neg h1]
      split <;> omega
  rw [this]
end Go.Proofs.YtbgdlokegibkmaaGreat.Ledger

namespace Go.Proofs.YtbgdlokegibkmaaGreat.Ledger
open _root_.Go.Proofs.YtbgdlokegibkmaaGreat.Frame (Rw Tb noRow tableOk rowOk leaseAt isIn isKey allTo)
open _root_.Go.Proofs.YtbgdlokegibkmaaGreat.Sat (fit add sub mul add_lo add_hi fit_lo fit_hi)
/-- An int. -/
def Num (x : Int) : Prop := -9223372036854775808 ≤ x ∧ x ≤ 9223372036854775807
/-- An act. -/
structure Ac where
  kind : Int
  key : Int
  now : Int
  node : Int
  n : Int
/-- What an act makes, and what it tells. -/
def actOf (f : Cf) (t : Tb) (a : Ac) : Tb × Int :=
  if a.kind % 5 ≤ 1 then mint t a.key a.now f else if a.kind % 5 = 2 then settle t a.key a.node a.n else grant t a.key a.node a.n
structure RowB (m : Nat) (r : Rw) : Prop where
  len : r.out.length ≤ m
  lo : 0 ≤ r.avail
  hi : r.avail ≤ 4611686018427387904
  mark : Num r.mark
  key : Num r.key
  out : ∀ x ∈ r.out, (0 ≤ x.1 ∧ x.1 ≤ 63) ∧ 1 ≤ x.2 ∧ x.2 ≤ 2147483648
structure Base (n : Nat) (t : Tb) : Prop where
  len : t.rows.length ≤ 16 + n
  lo : 0 ≤ t.start
  hi : t.start ≤ 4611686018427387904
  rows : ∀ r ∈ t.rows, RowB (64 + n) r
theorem RowB.more {m m' : Nat} {r : Rw} (h : RowB m r) (hm : m ≤ m') : RowB m' r := ⟨Nat.le_trans h.len hm, h.lo, h.hi, h.mark, h.key, h.out⟩
theorem Base.more {n : Nat} {t : Tb} (h : Base n t) : Base (n + 1) t := ⟨by have := h.len; omega, h.lo, h.hi, fun r hr => (h.rows r hr).more (by omega)⟩
theorem is_in {x lo hi : Int} (h : isIn x lo hi = true) : lo ≤ x ∧ x ≤ hi := by
  simpa [isIn] using h
theorem base_first {t : Tb} (h : tableOk t = true) : Base 0 t := by
  simp only [tableOk, Bool.and_eq_true, decide_eq_true_eq] at h
  obtain ⟨⟨h1, h2⟩, h3⟩ := h
  have h1 := is_in h1
  refine ⟨by omega, h1.1, h1.2, fun r hr => ?_⟩
  obtain ⟨j, hj, e⟩ := List.mem_iff_getElem.1 hr
  have h4 : Frame.rowAt t.rows t.start j = true := by
    rw [allTo, List.all_eq_true] at h3
    exact h3 j (List.mem_range.2 hj)
  have e2 : t.rows.getD j noRow = r := by simp [List.getD, hj, e]
  simp only [Frame.rowAt, e2, Bool.and_eq_true, rowOk, decide_eq_true_eq] at h4
  obtain ⟨⟨⟨⟨⟨k1, k2⟩, k3⟩, k4⟩, k5⟩, -⟩ := h4
  have k2 := is_in k2
  have k3 := is_in k3
  have k1 : 0 ≤ r.key ∧ r.key < 524288 := by simpa [isKey] using k1
  refine ⟨by omega, k2.1, by omega, by unfold Num; omega, by unfold Num; omega, fun x hx => ?_⟩
  obtain ⟨i, hi, e3⟩ := List.mem_iff_getElem.1 hx
  have h5 : leaseAt r.out i = true := by
    rw [allTo, List.all_eq_true] at k5
    exact k5 i (List.mem_range.2 hi)
  have e4 : r.out.getD i (0, 0) = x := by simp [List.getD, hi, e3]
  simp only [leaseAt, e4, Bool.and_eq_true] at h5
  have m1 := is_in h5.1.1
  have m2 := is_in h5.1.2
  omega
theorem find_in (t : Tb) (key : Int) : findRow t key = ⟨key, 0, t.start, []⟩ ∨ findRow t key ∈ t.rows := by
  unfold findRow
  split
  · exact .inl rfl
  · rename_i h
    rcases spot_cases (fun r => r.key == key) noRow t.rows with ⟨h1, -⟩ | ⟨j, h1, h2, -⟩
    · exact absurd (show place t.rows key < 0 by unfold place; omega) h
    · have : (place t.rows key).toNat = j := by unfold place; omega
      rw [this]
      exact .inr (by simp [List.getD, h2])
theorem base_find {n : Nat} {t : Tb} (h : Base n t) {key : Int} (hk : Num key) : RowB (64 + n) (findRow t key) := by
  rcases find_in t key with e | e
  · rw [e]
    have := h.lo
    have := h.hi
    exact ⟨by simp, Int.le_refl _, by simp, by simp only [Num]; omega, hk, fun x hx => by cases hx⟩
  · exact h.rows _ e
theorem base_minted {m : Nat} {r : Rw} (h : RowB m r) {now : Int} (hn : Num now) (R B : Int) : RowB m (minted r now R B) := by
  have h1 := h.mark
  refine ⟨h.len, add_lo _, add_hi _, ?_, h.key, h.out⟩
  simp only [minted, Num] at *
  omega
theorem base_look {n : Nat} {t : Tb} (h : Base n t) {key now : Int} (hk : Num key) (hn : Num now) (R B : Int) : RowB (64 + n) (look t key now R B) := base_minted (base_find h hk) hn R B
theorem setTo_mem (r x : Rw) : ∀ (l : List Rw) (s : List Rw × Bool), x ∈ (l.foldl (setStep r) s).1 → x = r ∨ x ∈ s.1 ∨ x ∈ l
  | [], s, h => .inr (.inl h)
  | y :: l, (a, b), h => by
    rcases setTo_mem r x l _ h with h1 | h1 | h1
    · exact .inl h1
    · simp only [setStep, List.mem_append] at h1
      rcases h1 with h1 | h1
      · split at h1
        · rcases List.mem_append.1 h1 with h2 | h2
          · exact .inr (.inl h2)
          · simp only [List.mem_singleton] at h2
            exact .inl h2
        · exact .inr (.inl h1)
      · split at h1
        · cases h1
        · simp only [List.mem_singleton] at h1
          exact .inr (.inr (by rw [h1]; exact List.mem_cons_self))
    · exact .inr (.inr (List.mem_cons_of_mem _ h1))
theorem setRows_mem {r x : Rw} {l : List Rw} (h : x ∈ setRows l r) : x = r ∨ x ∈ l := by
  have key : x ∈ (setTo r l).1 → x = r ∨ x ∈ l := fun h => by
    rcases setTo_mem r x l ([], false) h with h1 | h1 | h1
    · exact .inl h1
    · cases h1
    · exact .inr h1
  unfold setRows at h
  split at h
  · exact key h
  · rcases List.mem_append.1 h with h1 | h1
    · exact key h1
    · simp only [List.mem_singleton] at h1
      exact .inl h1
theorem base_set {n : Nat} {t : Tb} (h : Base n t) {r : Rw} (hr : RowB (64 + n + 1) r) : Base (n + 1) (setRow t r) := by
  have h1 := setRows_len t.rows r
  have h2 := h.len
  refine ⟨by simp only [setRow]; omega, h.lo, h.hi, fun x hx => ?_⟩
  rcases setRows_mem hx with e | e
  · rw [e]; exact hr
  · exact (h.rows x e).more (by omega)
theorem base_sweep {n : Nat} {t : Tb} (h : Base n t) (now : Int) (f : Cf) : Base n (sweep t now f) := ⟨Nat.le_trans (sweep_len t now f) h.len, h.lo, h.hi, fun r hr => h.rows r (sweep_mem hr)⟩
theorem base_mint {n : Nat} {t : Tb} (h : Base n t) {key now : Int} (hk : Num key) (hn : Num now) (f : Cf) : Base (n + 1) (mint t key now f).1 := by
  unfold mint
  split
  · exact h.more
  · split
    · exact base_set h ((base_look h hk hn _ _).more (by omega))
    · split
      · exact h.more
      · exact base_set (base_sweep h now f) ((base_look (base_sweep h now f) hk hn _ _).more (by omega))
theorem amount_in {n : Nat} {t : Tb} (h : Base n t) {key node : Int} (hk : Num key) (hh : has t key node = true) : 1 ≤ amountOf t key node ∧ amountOf t key node ≤ 2147483648 := by
  have hb := base_find h hk
  unfold has at hh
  simp only [Bool.and_eq_true, decide_eq_true_eq] at hh
  unfold amountOf
  rcases spot_cases (fun x => x.1 == node) (0, 0) (findRow t key).out with ⟨h1, -⟩ | ⟨j, h1, h2, -⟩
  · have := hh.2
    unfold outAt at this
    omega
  · have e : (outAt (findRow t key).out node).toNat = j := by unfold outAt; omega
    rw [e]
    have hm : (findRow t key).out.getD j (0, 0) ∈ (findRow t key).out := by simp [List.getD, h2]
    exact (hb.out _ hm).2
theorem base_settle {n : Nat} {t : Tb} (h : Base n t) {key : Int} (hk : Num key) (node spent : Int) : Base (n + 1) (settle t key node spent).1 := by
  unfold settle
  split
  · have hb := base_find h hk
    refine base_set h ⟨?_, add_lo _, add_hi _, hb.mark, hb.key, fun x hx => hb.out x (List.mem_of_mem_eraseIdx hx)⟩
    have h1 : (settled (findRow t key) (outAt (findRow t key).out node).toNat (amountOf t key node - spentOf (amountOf t key node) spent)).out.length ≤ (findRow t key).out.length := List.length_eraseIdx_le _ _
    have := hb.len
    omega
  · exact h.more
theorem leaseTo_mem (x y : Int × Int) : ∀ (l : List (Int × Int)) (s : List (Int × Int) × Bool), y ∈ (l.foldl (leaseStep x) s).1 → y = x ∨ y ∈ s.1 ∨ y ∈ l
  | [], s, h => .inr (.inl h)
  | z :: l, (a, b), h => by
    rcases leaseTo_mem x y l _ h with h1 | h1 | h1
    · exact .inl h1
    · simp only [leaseStep, List.mem_append] at h1
      rcases h1 with h1 | h1
      · split at h1
        · rcases List.mem_append.1 h1 with h2 | h2
          · exact .inr (.inl h2)
          · simp only [List.mem_singleton] at h2
            exact .inl h2
        · exact .inr (.inl h1)
      · simp only [List.mem_singleton] at h1
        exact .inr (.inr (by rw [h1]; exact List.mem_cons_self))
    · exact .inr (.inr (List.mem_cons_of_mem _ h1))
theorem withLease_mem {x y : Int × Int} {l : List (Int × Int)} (h : y ∈ withLease l x) : y = x ∨ y ∈ l := by
  have key : y ∈ (leaseTo x l).1 → y = x ∨ y ∈ l := fun h => by
    rcases leaseTo_mem x y l ([], false) h with h1 | h1 | h1
    · exact .inl h1
    · cases h1
    · exact .inr h1
  unfold withLease at h
  split at h
  · exact key h
  · rcases List.mem_append.1 h with h1 | h1
    · exact key h1
    · simp only [List.mem_singleton] at h1
      exact .inl h1
theorem may_in {t : Tb} {key node want : Int} (h : mayGrant t key node want = true) : 1 ≤ grantN (findRow t key) want ∧ 0 ≤ node ∧ node ≤ 63 := by
  simp only [mayGrant, Bool.and_eq_true, decide_eq_true_eq] at h
  exact ⟨h.1.1.1.2, h.1.1.2, h.1.2⟩
theorem base_grant {n : Nat} {t : Tb} (h : Base n t) {key : Int} (hk : Num key) (node want : Int) : Base (n + 1) (grant t key node want).1 := by
  unfold grant
  split
  · rename_i hm
    have hm := may_in hm
    have hb := base_find h hk
    have h1 := hb.lo
    have h2 := hb.hi
    have h3 := fit_hi want
    have hg : grantN (findRow t key) want ≤ (findRow t key).avail ∧ grantN (findRow t key) want ≤ 2147483648 := by unfold grantN; omega
    refine base_set h ⟨?_, ?_, ?_, hb.mark, hb.key, fun x hx => ?_⟩
    · have := hb.len
      simp only [granted]
      rw [withLease_len]
      omega
    · simp only [granted]; omega
    · simp only [granted]; omega
    · rcases withLease_mem hx with e | e
      · rw [e]; exact ⟨⟨hm.2.1, hm.2.2⟩, hm.1, hg.2⟩
      · exact hb.out x e
  · exact h.more
end Go.Proofs.YtbgdlokegibkmaaGreat.Ledger

namespace Go.Proofs.YtbgdlokegibkmaaGreat.Ledger
open Go.RowKit
open _root_.Go.Proofs.YtbgdlokegibkmaaGreat.Frame (Rw Tb noRow LeasesAt cell_on tableOk Asked)
open _root_.Go.Proofs.YtbgdlokegibkmaaGreat.Codec (lt_of_heap frozen_of heap_set)
/-- What holds of tables behind n acts. -/
structure Inv (I : Nat → Tb → Prop) : Prop where
  base : ∀ {n : Nat} {t : Tb}, I n t → Base n t
  first : ∀ {t : Tb}, tableOk t = true → I 0 t
  mint : ∀ {n : Nat} {t : Tb} {key now : Int} (f : Cf), I n t → Num key → Num now → f.keys ≤ 16 → I (n + 1) (mint t key now f).1
  settle : ∀ {n : Nat} {t : Tb} {key : Int} (node spent : Int), I n t → Num key → I (n + 1) (settle t key node spent).1
  grant : ∀ {n : Nat} {t : Tb} {key : Int} (node want : Int), I n t → Num key → I (n + 1) (grant t key node want).1
  sweep : ∀ {n : Nat} {t : Tb} (now : Int) (f : Cf), I n t → I n (sweep t now f)
/-- Rows whose own block, and whose leases' blocks, S holds of. -/
def LeasesIn (S : Nat → Prop) (w : World) (p : Option Addr) (l : List (Int × Int)) : Prop :=
  l = [] ∨ ∃ b o, p = some ⟨b, o, none⟩ ∧ S b ∧ ∀ j, j < l.length → w.cell? ⟨b, o + j * 2, none⟩ = some (.int .i64 (l.getD j (0, 0)).1) ∧ w.cell? ⟨b, o + j * 2 + 1, none⟩ = some (.int .i64 (l.getD j (0, 0)).2)
def RowIn (S : Nat → Prop) (w : World) (b o : Nat) (r : Rw) : Prop :=
  w.cell? ⟨b, o, none⟩ = some (.int .i64 r.key) ∧ w.cell? ⟨b, o + 1, none⟩ = some (.int .i64 r.avail) ∧ w.cell? ⟨b, o + 2, none⟩ = some (.int .i64 r.mark) ∧ ∃ p c, w.cell? ⟨b, o + 3, none⟩ = some (.slice p r.out.length (c + r.out.length)) ∧ LeasesIn S w p r.out
def RowsIn (S : Nat → Prop) (w : World) (p : Option Addr) (l : List Rw) : Prop :=
  l = [] ∨ ∃ b o, p = some ⟨b, o, none⟩ ∧ S b ∧ ∀ j, j < l.length → RowIn S w b (o + j * 4) (l.getD j noRow)
section
variable {S S' : Nat → Prop} {w w' : World} {p : Option Addr}
theorem LeasesIn.rest {l : List (Int × Int)} (h : LeasesIn S w p l) : LeasesAt w p l := by
  rcases h with h | ⟨b, o, e, -, hc⟩
  · exact .inl h
  · exact .inr ⟨b, o, e, hc⟩
theorem RowsIn.rest {l : List Rw} (h : RowsIn S w p l) : RowsAt w p l := by
  rcases h with h | ⟨b, o, e, -, hc⟩
  · exact .inl h
  · refine .inr ⟨b, o, e, fun j hj => ?_⟩
    obtain ⟨h0, h1, h2, q, c, h3, h4⟩ := hc j hj
    exact ⟨h0, h1, h2, q, c, h3, h4.rest⟩
/-- In a world where the blocks of S are as they were. -/
theorem LeasesIn.on {l : List (Int × Int)} (h : LeasesIn S w p l) (hS : ∀ b, S b → b < w.heap.size → S' b) (hk : ∀ b, S b → b < w.heap.size → w'.heap[b]? = w.heap[b]?) : LeasesIn S' w' p l := by
  rcases h with h | ⟨b, o, e, hb, hc⟩
  · exact .inl h
  · by_cases hl : l = []
    · exact .inl hl
    · have hlt : b < w.heap.size := World.block_lt_of_cell? _ _ (hc 0 (List.length_pos_iff.2 hl)).1
      refine .inr ⟨b, o, e, hS _ hb hlt, fun j hj => ?_⟩
      have he : ∀ i, w'.cell? ⟨b, i, none⟩ = w.cell? ⟨b, i, none⟩ := fun i => World.cell?_of_block (w := w) (hk b hb hlt)
      rw [he, he]
      exact hc j hj
theorem RowsIn.on {l : List Rw} (h : RowsIn S w p l) (hS : ∀ b, S b → b < w.heap.size → S' b) (hk : ∀ b, S b → b < w.heap.size → w'.heap[b]? = w.heap[b]?) : RowsIn S' w' p l := by
  rcases h with h | ⟨b, o, e, hb, hc⟩
  · exact .inl h
  · by_cases hl : l = []
    · exact .inl hl
    · have hlt : b < w.heap.size := World.block_lt_of_cell? _ _ (hc 0 (List.length_pos_iff.2 hl)).1
      refine .inr ⟨b, o, e, hS _ hb hlt, fun j hj => ?_⟩
      obtain ⟨h0, h1, h2, q, c, h3, h4⟩ := hc j hj
      have he : ∀ i, w'.cell? ⟨b, i, none⟩ = w.cell? ⟨b, i, none⟩ := fun i => World.cell?_of_block (w := w) (hk b hb hlt)
      exact ⟨by rw [he]; exact h0, by rw [he]; exact h1, by rw [he]; exact h2, q, c, by rw [he]; exact h3, h4.on hS hk⟩
theorem RowsIn.below {l : List Rw} (h : RowsIn S w p l) (hb : Below w.heap.size w w') : RowsIn S w' p l := h.on (fun _ h _ => h) fun b _ hlt => hb.block b hlt
/-- Where a table's box is turned. -/
theorem leasesin_tab {b o : Nat} {x : Int} {q : Option Addr} {m k : Nat} {y : Value} {l : List (Int × Int)} (hb : w.heap[b]? = some (.cells #[.int .i64 x, .slice q m k] 28 (0, 0))) (h : LeasesIn S w p l) : LeasesIn S (w.setCell ⟨b, o, none⟩ y) p l := by
  rcases h with h | ⟨b', o', e, hs, hc⟩
  · exact .inl h
  · by_cases hl : l = []
    · exact .inl hl
    · have hne : b' ≠ b := by
        rintro rfl
        have h1 := (hc 0 (List.length_pos_iff.2 hl)).2
        rw [cell_of_row w b' _ _ _ (0, 0) hb] at h1
        match o', h1 with
        | 0, h1 => simp at h1
        | n + 1, h1 => simp at h1
      refine .inr ⟨b', o', e, hs, fun j hj => ?_⟩
      have he : ∀ i, (w.setCell ⟨b, o, none⟩ y).cell? ⟨b', i, none⟩ = w.cell? ⟨b', i, none⟩ := fun i => World.cell?_of_block (w := w) (Below.heap_setCell _ _ _ _ (by simpa using hne))
      rw [he, he]
      exact hc j hj
theorem rowsin_tab {b o : Nat} {x : Int} {q : Option Addr} {m k : Nat} {y : Value} {l : List Rw} (hb : w.heap[b]? = some (.cells #[.int .i64 x, .slice q m k] 28 (0, 0))) (h : RowsIn S w p l) : RowsIn S (w.setCell ⟨b, o, none⟩ y) p l := by
  rcases h with h | ⟨b', o', e, hs, hc⟩
  · exact .inl h
  · by_cases hl : l = []
    · exact .inl hl
    · have hne : b' ≠ b := by
        rintro rfl
        have h1 := (hc 0 (List.length_pos_iff.2 hl)).2.2.1
        rw [cell_of_row w b' _ _ _ (0, 0) hb] at h1
        match o', h1 with
        | n, h1 => simp at h1
      refine .inr ⟨b', o', e, hs, fun j hj => ?_⟩
      have he : ∀ i, (w.setCell ⟨b, o, none⟩ y).cell? ⟨b', i, none⟩ = w.cell? ⟨b', i, none⟩ := fun i => World.cell?_of_block (w := w) (Below.heap_setCell _ _ _ _ (by simpa using hne))
      obtain ⟨h0, h1, h2, pl, cl, h3, h4⟩ := hc j hj
      exact ⟨by rw [he]; exact h0, by rw [he]; exact h1, by rw [he]; exact h2, pl, cl, by rw [he]; exact h3, leasesin_tab hb h4⟩
end
/-- What tells a table, whose rows lie where those of the elder one lay, or are new. -/
def TellsTabFar (w : World) (pt : Option Addr) (t T : Tb) (mk : Value → Value) (e : Ending) (w' : World) : Prop := ∃ p c, e = .returned (mk (tabVal T p c)) ∧ (RowsAt w' p T.rows ∧ ∀ S, RowsIn S w pt t.rows → RowsIn (fun b => S b ∨ w.heap.size ≤ b) w' p T.rows) ∧ Below w.heap.size w w'
/-! The document's, of tables of which Base holds. -/
section
variable {n : Nat} {t : Tb}
theorem base_len (h : Base n t) (hn : n ≤ 61) : t.rows.length ≤ 1000 ∧ ∀ r ∈ t.rows, r.out.length ≤ 1000 := ⟨by have := h.len; omega, fun r hr => by have := (h.rows r hr).len; omega⟩
end
/-- What stays with memory, and where a table's box is turned. -/
structure Stay (X : World → Option Addr → Prop) : Prop where
  on : ∀ {u u' : World} {p : Option Addr}, X u p → Below u.heap.size u u' → X u' p
  tab : ∀ {u : World} {p : Option Addr} {b o : Nat} {x : Int} {q : Option Addr} {m k : Nat} {y : Value}, u.heap[b]? = some (.cells #[.int .i64 x, .slice q m k] 28 (0, 0)) → X u p → X (u.setCell ⟨b, o, none⟩ y) p
theorem stay_far (l : List Rw) (N : (Nat → Prop) → Prop) (S' : (Nat → Prop) → Nat → Prop) : Stay fun u p => RowsAt u p l ∧ ∀ S, N S → RowsIn (S' S) u p l := ⟨fun h hb => ⟨h.1.below hb, fun S hS => (h.2 S hS).below hb⟩, fun hb h => ⟨rows_tab hb h.1, fun S hS => rowsin_tab hb (h.2 S hS)⟩⟩
/-- A result's box is set. -/
theorem tells_atX {X : World → Option Addr → Prop} (hX : Stay X) {w u : World} {start : Int} {p' : Option Addr} {c' n : Nat} {x : Int} (b : Nat) (hbw : w.heap.size ≤ b) (hres : u.heap[b]? = some (.cells #[.int .i64 x, .slice none 0 0] 28 (0, 0))) (hr : X u p') (hb : Below w.heap.size w u) (mk : Value → Value) :
    ∃ p c, Ending.returned (mk (.agg #[.int .i64 start, .slice p' n (c' + n)])) = .returned (mk (.agg #[.int .i64 start, .slice p n (c + n)])) ∧ X ((u.setCell ⟨b, 0, none⟩ (.int .i64 start)).setCell ⟨b, 1, none⟩ (.slice p' n (c' + n))) p ∧ Below w.heap.size w ((u.setCell ⟨b, 0, none⟩ (.int .i64 start)).setCell ⟨b, 1, none⟩ (.slice p' n (c' + n))) := by
  have h2 : (u.setCell ⟨b, 0, none⟩ (.int .i64 start)).heap[b]? = some (.cells #[.int .i64 start, .slice none 0 0] 28 (0, 0)) := by rw [heap_set _ 0 _ _ hres]; rfl
  exact ⟨p', c', rfl, hX.tab h2 (hX.tab hres hr), (hb.setCell hbw _).setCell hbw _⟩
end Go.Proofs.YtbgdlokegibkmaaGreat.Ledger

namespace Go.Proofs.YtbgdlokegibkmaaGreat.Ledger
open _root_.Go.Proofs.YtbgdlokegibkmaaGreat.Frame (Rw Tb noRow tableOk rowOk leaseAt isIn isKey allTo)
open _root_.Go.Proofs.YtbgdlokegibkmaaGreat.Sat (fit add sub mul add_lo add_hi fit_lo fit_hi fit_self sum_two)
/-- The keys of a table that may be rise. -/
theorem keys_rise {t : Tb} (h : tableOk t = true) : ∀ i j, i < j → j < t.rows.length → (t.rows.getD i noRow).key < (t.rows.getD j noRow).key := by
  simp only [tableOk, Bool.and_eq_true] at h
  have h3 := h.2
  rw [allTo, List.all_eq_true] at h3
  have step : ∀ j, 0 < j → j < t.rows.length → (t.rows.getD (j - 1) noRow).key < (t.rows.getD j noRow).key := fun j h0 hj => by
    have h4 := h3 j (List.mem_range.2 hj)
    simp only [Frame.rowAt, Bool.and_eq_true, Bool.or_eq_true, beq_iff_eq, decide_eq_true_eq] at h4
    rcases h4.2 with h5 | h5
    · omega
    · exact h5
  intro i j hij hj
  induction j with
  | zero => omega
  | succ j ih =>
    have h1 := step (j + 1) (by omega) hj
    rw [Nat.add_sub_cancel] at h1
    by_cases e : i = j
    · rw [e]; exact h1
    · exact Int.lt_trans (ih (by omega) (by omega)) h1
theorem sub_two (a b : Int) : sub a b = if fit a < fit b then 0 else fit a - fit b := by
  have a1 := fit_hi a; have b0 := fit_lo b; have b1 := fit_hi b
  unfold sub
  by_cases h : fit a < fit b
  · rw [if_pos h]; generalize fit a = x at *; generalize fit b = y at *; unfold fit; rw [if_pos (by omega)]
  · rw [if_neg h, fit_self (by omega) (by omega)]
theorem add_two (a b : Int) : add [a, b] = if 4611686018427387904 < fit a + fit b then 4611686018427387904 else fit a + fit b := by
  unfold add Sat.top; rw [sum_two]
end Go.Proofs.YtbgdlokegibkmaaGreat.Ledger

namespace Go.Proofs.YtbgdlokegibkmaaGreat.Ledger
open _root_.Go.Proofs.YtbgdlokegibkmaaGreat.Frame (Rw Tb noRow tableOk rowOk leaseAt isIn allTo)
def Up (l : List Rw) : Prop := l.Pairwise fun a b => a.key < b.key
def UpL (l : List (Int × Int)) : Prop := l.Pairwise fun a b => a.1 < b.1
structure Rise (n : Nat) (t : Tb) : Prop where
  base : Base n t
  up : Up t.rows
  ups : ∀ r ∈ t.rows, UpL r.out
theorem up_fold (r : Rw) : ∀ (l : List Rw) (s : List Rw × Bool), Up s.1 → Up l → (∀ x ∈ s.1, ∀ y ∈ l, x.key < y.key) → (s.2 = false → ∀ x ∈ s.1, x.key < r.key) →
    Up (l.foldl (setStep r) s).1 ∧ ((l.foldl (setStep r) s).2 = false → ∀ x ∈ (l.foldl (setStep r) s).1, x.key < r.key)
  | [], s, h1, _, _, h4 => ⟨h1, h4⟩
  | x :: l, (a, b), h1, h2, h3, h4 => by
    obtain ⟨h2a, h2b⟩ := List.pairwise_cons.1 h2
    have e3 : ∀ y ∈ a, y.key < x.key := fun y hy => h3 y hy x List.mem_cons_self
    have e4 : ∀ y ∈ a, ∀ z ∈ l, y.key < z.key := fun y hy z hz => h3 y hy z (List.mem_cons_of_mem _ hz)
    rw [List.foldl_cons]
    have ha : Up (if b = false ∧ r.key ≤ x.key then a ++ [r] else a) := by
      split
      · rename_i hb
        exact List.pairwise_append.2 ⟨h1, List.pairwise_singleton _ _, fun y hy z hz => by rw [List.mem_singleton.1 hz]; exact h4 hb.1 y hy⟩
      · exact h1
    have hm : ∀ y ∈ (if b = false ∧ r.key ≤ x.key then a ++ [r] else a), y ∈ a ∨ y = r ∧ r.key ≤ x.key := fun y hy => by
      split at hy
      · rename_i hb
        rcases List.mem_append.1 hy with h | h
        · exact .inl h
        · exact .inr ⟨List.mem_singleton.1 h, hb.2⟩
      · exact .inl hy
    refine up_fold r l _ ?_ h2b ?_ ?_
    · refine List.pairwise_append.2 ⟨ha, ?_, fun y hy z hz => ?_⟩
      · split
        · exact List.Pairwise.nil
        · exact List.pairwise_singleton _ _
      · split at hz
        · cases hz
        · rename_i hne
          rw [List.mem_singleton.1 hz]
          rcases hm y hy with h | ⟨h, h'⟩
          · exact e3 y h
          · rw [h]; omega
    · intro y hy z hz
      have hxz := h2a z hz
      rcases List.mem_append.1 hy with h | h
      · rcases hm y h with h | ⟨h, h'⟩
        · exact e4 y h z hz
        · rw [h]; omega
      · split at h
        · cases h
        · rw [List.mem_singleton.1 h]; exact hxz
    · intro hb0 y hy
      have hb : (b || decide (r.key ≤ x.key)) = false := hb0
      simp only [Bool.or_eq_false_iff, decide_eq_false_iff_not] at hb
      rcases List.mem_append.1 hy with h | h
      · rcases hm y h with h | ⟨h, h'⟩
        · exact h4 hb.1 y h
        · omega
      · split at h
        · cases h
        · rw [List.mem_singleton.1 h]; omega
theorem up_set {l : List Rw} (h : Up l) (r : Rw) : Up (setRows l r) := by
  have k := up_fold r l ([], false) List.Pairwise.nil h (fun x hx => by cases hx) (fun _ x hx => by cases hx)
  unfold setRows
  split
  · exact k.1
  · rename_i hb
    exact List.pairwise_append.2 ⟨k.1, List.pairwise_singleton _ _, fun y hy z hz => by rw [List.mem_singleton.1 hz]; exact k.2 (Bool.eq_false_iff.2 hb) y hy⟩
theorem upl_fold (r : Int × Int) : ∀ (l : List (Int × Int)) (s : List (Int × Int) × Bool), UpL s.1 → UpL l → (∀ y ∈ l, y.1 ≠ r.1) → (∀ x ∈ s.1, ∀ y ∈ l, x.1 < y.1) → (s.2 = false → ∀ x ∈ s.1, x.1 < r.1) →
    UpL (l.foldl (leaseStep r) s).1 ∧ ((l.foldl (leaseStep r) s).2 = false → ∀ x ∈ (l.foldl (leaseStep r) s).1, x.1 < r.1)
  | [], s, h1, _, _, _, h4 => ⟨h1, h4⟩
  | x :: l, (a, b), h1, h2, h0, h3, h4 => by
    obtain ⟨h2a, h2b⟩ := List.pairwise_cons.1 h2
    have hx := h0 x List.mem_cons_self
    have e3 : ∀ y ∈ a, y.1 < x.1 := fun y hy => h3 y hy x List.mem_cons_self
    have e4 : ∀ y ∈ a, ∀ z ∈ l, y.1 < z.1 := fun y hy z hz => h3 y hy z (List.mem_cons_of_mem _ hz)
    rw [List.foldl_cons]
    have ha : UpL (if b = false ∧ r.1 < x.1 then a ++ [r] else a) := by
      split
      · rename_i hb
        exact List.pairwise_append.2 ⟨h1, List.pairwise_singleton _ _, fun y hy z hz => by rw [List.mem_singleton.1 hz]; exact h4 hb.1 y hy⟩
      · exact h1
    have hm : ∀ y ∈ (if b = false ∧ r.1 < x.1 then a ++ [r] else a), y ∈ a ∨ y = r ∧ r.1 < x.1 := fun y hy => by
      split at hy
      · rename_i hb
        rcases List.mem_append.1 hy with h | h
        · exact .inl h
        · exact .inr ⟨List.mem_singleton.1 h, hb.2⟩
      · exact .inl hy
    refine upl_fold r l _ ?_ h2b (fun y hy => h0 y (List.mem_cons_of_mem _ hy)) ?_ ?_
    · refine List.pairwise_append.2 ⟨ha, List.pairwise_singleton _ _, fun y hy z hz => ?_⟩
      rw [List.mem_singleton.1 hz]
      rcases hm y hy with h | ⟨h, h'⟩
      · exact e3 y h
      · rw [h]; exact h'
    · intro y hy z hz
      have hxz := h2a z hz
      rcases List.mem_append.1 hy with h | h
      · rcases hm y h with h | ⟨h, h'⟩
        · exact e4 y h z hz
        · rw [h]; omega
      · rw [List.mem_singleton.1 h]; exact hxz
    · intro hb0 y hy
      have hb : (b || decide (r.1 < x.1)) = false := hb0
      simp only [Bool.or_eq_false_iff, decide_eq_false_iff_not] at hb
      rcases List.mem_append.1 hy with h | h
      · rcases hm y h with h | ⟨h, h'⟩
        · exact h4 hb.1 y h
        · omega
      · rw [List.mem_singleton.1 h]; omega
theorem upl_with {l : List (Int × Int)} (h : UpL l) {r : Int × Int} (h0 : ∀ y ∈ l, y.1 ≠ r.1) : UpL (withLease l r) := by
  have k := upl_fold r l ([], false) List.Pairwise.nil h h0 (fun x hx => by cases hx) (fun _ x hx => by cases hx)
  unfold withLease
  split
  · exact k.1
  · rename_i hb
    exact List.pairwise_append.2 ⟨k.1, List.pairwise_singleton _ _, fun y hy z hz => by rw [List.mem_singleton.1 hz]; exact k.2 (Bool.eq_false_iff.2 hb) y hy⟩
theorem rise_first {t : Tb} (h : tableOk t = true) : Rise 0 t := by
  refine ⟨base_first h, List.pairwise_iff_getElem.2 fun i j hi hj hij => ?_, fun r hr => List.pairwise_iff_getElem.2 fun i j hi hj hij => ?_⟩
  · have := keys_rise h i j hij hj
    simpa [List.getD, hi, hj] using this
  · simp only [tableOk, Bool.and_eq_true] at h
    have h3 := h.2
    rw [allTo, List.all_eq_true] at h3
    obtain ⟨q, hq, e⟩ := List.mem_iff_getElem.1 hr
    have h4 := h3 q (List.mem_range.2 hq)
    have e2 : t.rows.getD q noRow = r := by simp [List.getD, hq, e]
    simp only [Frame.rowAt, e2, Bool.and_eq_true, rowOk] at h4
    have h5 := h4.1.2
    rw [allTo, List.all_eq_true] at h5
    have step : ∀ j, 0 < j → j < r.out.length → (r.out.getD (j - 1) (0, 0)).1 < (r.out.getD j (0, 0)).1 := fun j h0 hj => by
      have h6 := h5 j (List.mem_range.2 hj)
      simp only [leaseAt, Bool.and_eq_true, Bool.or_eq_true, beq_iff_eq, decide_eq_true_eq] at h6
      rcases h6.2 with h7 | h7
      · omega
      · exact h7
    have key : ∀ d, i + 1 + d < r.out.length → (r.out.getD i (0, 0)).1 < (r.out.getD (i + 1 + d) (0, 0)).1 := by
      intro d
      induction d with
      | zero => intro hd; have := step (i + 1) (by omega) hd; simpa using this
      | succ d ih =>
        intro hd
        have := step (i + 1 + (d + 1)) (by omega) hd
        rw [show i + 1 + (d + 1) - 1 = i + 1 + d by omega] at this
        have := ih (by omega)
        omega
    have := key (j - i - 1) (by omega)
    rw [show i + 1 + (j - i - 1) = j by omega] at this
    simpa [List.getD, hi, hj] using this
theorem upl_find {n : Nat} {t : Tb} (h : Rise n t) (key : Int) : UpL (findRow t key).out := by
  rcases find_in t key with e | e
  · rw [e]; exact List.Pairwise.nil
  · exact h.ups _ e
theorem ups_set {t : Tb} (h : ∀ r ∈ t.rows, UpL r.out) {r : Rw} (hr : UpL r.out) : ∀ x ∈ setRows t.rows r, UpL x.out := fun x hx => by
  rcases setRows_mem hx with e | e
  · rw [e]; exact hr
  · exact h x e
theorem rise_sweep {n : Nat} {t : Tb} (h : Rise n t) (now : Int) (f : Cf) : Rise n (sweep t now f) :=
  ⟨base_sweep h.base now f, List.Pairwise.sublist List.filter_sublist h.up, fun r hr => h.ups r (sweep_mem hr)⟩
theorem rise_mint {n : Nat} {t : Tb} (h : Rise n t) {key now : Int} (hk : Num key) (hn : Num now) (f : Cf) : Rise (n + 1) (mint t key now f).1 := by
  refine ⟨base_mint h.base hk hn f, ?_, ?_⟩
  all_goals
    unfold mint
    split
    · first | exact h.up | exact h.ups
    · split
      · first | exact up_set h.up _ | exact ups_set h.ups (upl_find h key)
      · split
        · first | exact h.up | exact h.ups
        · first | exact up_set (rise_sweep h now f).up _ | exact ups_set (rise_sweep h now f).ups (upl_find (rise_sweep h now f) key)
theorem rise_settle {n : Nat} {t : Tb} (h : Rise n t) {key : Int} (hk : Num key) (node spent : Int) : Rise (n + 1) (settle t key node spent).1 := by
  refine ⟨base_settle h.base hk node spent, ?_, ?_⟩
  all_goals
    unfold settle
    split
  · exact up_set h.up _
  · exact h.up
  · exact ups_set h.ups (List.Pairwise.sublist (List.eraseIdx_sublist _ _) (upl_find h key))
  · exact h.ups
theorem out_none {l : List (Int × Int)} {node : Int} (h : outAt l node < 0) : ∀ y ∈ l, y.1 ≠ node := by
  rcases spot_cases (fun x : Int × Int => x.1 == node) (0, 0) l with ⟨-, h2⟩ | ⟨j, h1, -⟩
  · intro y hy
    obtain ⟨i, hi, e⟩ := List.mem_iff_getElem.1 hy
    have h3 := h2 i hi
    have e2 : l.getD i (0, 0) = y := by simp [List.getD, hi, e]
    rw [e2] at h3
    simpa using h3
  · unfold outAt at h
    omega
theorem rise_grant {n : Nat} {t : Tb} (h : Rise n t) {key : Int} (hk : Num key) (node want : Int) : Rise (n + 1) (grant t key node want).1 := by
  refine ⟨base_grant h.base hk node want, ?_, ?_⟩
  all_goals
    unfold grant
    split
  · exact up_set h.up _
  · exact h.up
  · rename_i hm
    simp only [mayGrant, Bool.and_eq_true, decide_eq_true_eq] at hm
    exact ups_set h.ups (upl_with (upl_find h key) (out_none hm.2))
  · exact h.ups
/-! Rows and leases that rise: where one goes. -/
theorem fold_lo (r : Rw) : ∀ (A a : List Rw), (∀ x ∈ A, x.key < r.key) → A.foldl (setStep r) (a, false) = (a ++ A, false)
  | [], a, _ => by simp
  | x :: A, a, h => by
    have hx := h x List.mem_cons_self
    have e : setStep r (a, false) x = (a ++ [x], false) := by
      simp only [setStep, Bool.false_or]
      rw [if_neg (by omega), if_neg (by omega), decide_eq_false (by omega)]
    rw [List.foldl_cons, e, fold_lo r A _ fun y hy => h y (List.mem_cons_of_mem _ hy)]
    simp
theorem fold_hi (r : Rw) : ∀ (B a : List Rw), (∀ x ∈ B, r.key < x.key) → B.foldl (setStep r) (a, true) = (a ++ B, true)
  | [], a, _ => by simp
  | x :: B, a, h => by
    have hx := h x List.mem_cons_self
    have e : setStep r (a, true) x = (a ++ [x], true) := by
      simp only [setStep, Bool.true_or]
      rw [if_neg (by simp), if_neg (by omega)]
    rw [List.foldl_cons, e, fold_hi r B _ fun y hy => h y (List.mem_cons_of_mem _ hy)]
    simp
theorem setRows_put {A B : List Rw} {r : Rw} (hA : ∀ x ∈ A, x.key < r.key) (hB : ∀ x ∈ B, r.key < x.key) : setRows (A ++ B) r = A ++ r :: B := by
  have e : setTo r (A ++ B) = B.foldl (setStep r) (A, false) := by
    unfold setTo
    rw [List.foldl_append, fold_lo r A [] hA]
    rfl
  unfold setRows
  rw [e]
  cases B with
  | nil => simp
  | cons y B =>
    have hy := hB y List.mem_cons_self
    have e : setStep r (A, false) y = (A ++ [r, y], true) := by
      simp only [setStep, Bool.false_or, true_and]
      rw [if_pos (by omega), if_neg (by omega), decide_eq_true (by omega)]
      simp
    rw [List.foldl_cons, e, fold_hi r B _ fun z hz => hB z (List.mem_cons_of_mem _ hz)]
    simp
theorem setRows_in {A B : List Rw} {r y : Rw} (hA : ∀ x ∈ A, x.key < r.key) (he : y.key = r.key) (hB : ∀ x ∈ B, r.key < x.key) : setRows (A ++ y :: B) r = A ++ r :: B := by
  have e : setStep r (A, false) y = (A ++ [r], true) := by
    simp only [setStep, Bool.false_or, true_and]
    rw [if_pos (by omega), if_pos he, decide_eq_true (by omega), List.append_nil]
  unfold setRows setTo
  rw [List.foldl_append, fold_lo r A [] hA, List.nil_append, List.foldl_cons, e, fold_hi r B _ hB]
  simp
theorem lease_lo (r : Int × Int) : ∀ (A a : List (Int × Int)), (∀ x ∈ A, x.1 < r.1) → A.foldl (leaseStep r) (a, false) = (a ++ A, false)
  | [], a, _ => by simp
  | x :: A, a, h => by
    have hx := h x List.mem_cons_self
    have e : leaseStep r (a, false) x = (a ++ [x], false) := by
      simp only [leaseStep, Bool.false_or]
      rw [if_neg (by omega), decide_eq_false (by omega)]
    rw [List.foldl_cons, e, lease_lo r A _ fun y hy => h y (List.mem_cons_of_mem _ hy)]
    simp
theorem lease_hi (r : Int × Int) : ∀ (B a : List (Int × Int)), B.foldl (leaseStep r) (a, true) = (a ++ B, true)
  | [], a => by simp
  | x :: B, a => by
    have e : leaseStep r (a, true) x = (a ++ [x], true) := by
      simp only [leaseStep, Bool.true_or]
      rw [if_neg (by simp)]
    rw [List.foldl_cons, e, lease_hi r B _]
    simp
theorem withLease_put {A B : List (Int × Int)} {r : Int × Int} (hA : ∀ x ∈ A, x.1 < r.1) (hB : ∀ x ∈ B, r.1 < x.1) : withLease (A ++ B) r = A ++ r :: B := by
  have e : leaseTo r (A ++ B) = B.foldl (leaseStep r) (A, false) := by
    unfold leaseTo
    rw [List.foldl_append, lease_lo r A [] hA]
    rfl
  unfold withLease
  rw [e]
  cases B with
  | nil => simp
  | cons y B =>
    have hy := hB y List.mem_cons_self
    have e : leaseStep r (A, false) y = (A ++ [r, y], true) := by
      simp only [leaseStep, Bool.false_or, true_and]
      rw [if_pos hy, decide_eq_true hy]
      simp
    rw [List.foldl_cons, e, lease_hi r B _]
    simp
end Go.Proofs.YtbgdlokegibkmaaGreat.Ledger

namespace Go.Proofs.YtbgdlokegibkmaaGreat.Ledger
open _root_.Go.Proofs.YtbgdlokegibkmaaGreat.Frame (Rw Tb noRow tableOk)
/-- Numbers that rise within bounds are few. -/
theorem rise_few {α : Type} (f : α → Int) : ∀ (l : List α) (lo hi : Int), (l.Pairwise fun a b => f a < f b) → (∀ x ∈ l, lo ≤ f x ∧ f x ≤ hi) → lo ≤ hi + 1 → (l.length : Int) ≤ hi - lo + 1
  | [], lo, hi, _, _, h => by simp; omega
  | a :: l, lo, hi, h, hb, hl => by
    obtain ⟨h1, h2⟩ := List.pairwise_cons.1 h
    have ha := hb a List.mem_cons_self
    have := rise_few f l (f a + 1) hi h2 (fun x hx => by have := h1 x hx; have := hb x (List.mem_cons_of_mem _ hx); omega) (by omega)
    simp only [List.length_cons, Int.natCast_add, Int.natCast_one]
    omega
theorem out_few {l : List (Int × Int)} (h : UpL l) (hn : ∀ x ∈ l, 0 ≤ x.1 ∧ x.1 ≤ 63) : l.length ≤ 64 := by
  have := rise_few (fun x : Int × Int => x.1) l 0 63 h hn (by omega)
  omega
/-- Numbers that rise, each of a list, are not more. -/
theorem rise_sub : ∀ (a m : List Int), (a.Pairwise (· < ·)) → (∀ x ∈ a, x ∈ m) → a.length ≤ m.length
  | [], m, _, _ => Nat.zero_le _
  | x :: a, m, h, hs => by
    obtain ⟨h1, h2⟩ := List.pairwise_cons.1 h
    obtain ⟨A, B, rfl⟩ := List.append_of_mem (hs x List.mem_cons_self)
    have := rise_sub a (A ++ B) h2 fun y hy => by
      have h3 := hs y (List.mem_cons_of_mem _ hy)
      have h4 := h1 y hy
      simp only [List.mem_append, List.mem_cons] at h3 ⊢
      rcases h3 with h3 | h3 | h3
      · exact .inl h3
      · omega
      · exact .inr h3
    simp only [List.length_append, List.length_cons] at this ⊢
    omega
/-- Where a key's row is, or would be. -/
theorem up_cut (k : Int) : ∀ (l : List Rw), Up l → ∃ A M B, l = A ++ M ++ B ∧ (∀ x ∈ A, x.key < k) ∧ (∀ x ∈ B, k < x.key) ∧ (M = [] ∨ ∃ y, M = [y] ∧ y.key = k)
  | [], _ => ⟨[], [], [], rfl, fun x h => (by cases h), fun x h => (by cases h), .inl rfl⟩
  | a :: l, h => by
    obtain ⟨h1, h2⟩ := List.pairwise_cons.1 h
    rcases Int.lt_trichotomy a.key k with h3 | h3 | h3
    · obtain ⟨A, M, B, e, hA, hB, hM⟩ := up_cut k l h2
      refine ⟨a :: A, M, B, by rw [e]; rfl, fun x hx => ?_, hB, hM⟩
      rcases List.mem_cons.1 hx with rfl | hx
      · exact h3
      · exact hA x hx
    · exact ⟨[], [a], l, rfl, fun x h => (by cases h), fun x hx => by have := h1 x hx; omega, .inr ⟨a, rfl, h3⟩⟩
    · refine ⟨[], [], a :: l, rfl, fun x h => (by cases h), fun x hx => ?_, .inl rfl⟩
      rcases List.mem_cons.1 hx with rfl | hx
      · exact h3
      · have := h1 x hx; omega
theorem mem_set {l : List Rw} (h : Up l) (r x : Rw) : x ∈ setRows l r ↔ x = r ∨ (x ∈ l ∧ x.key ≠ r.key) := by
  obtain ⟨A, M, B, rfl, hA, hB, hM⟩ := up_cut r.key l h
  rcases hM with rfl | ⟨y, rfl, hy⟩
  · rw [List.append_nil, setRows_put hA hB]
    simp only [List.mem_append, List.mem_cons]
    constructor
    · rintro (h | h | h)
      · exact .inr ⟨.inl h, by have := hA x h; omega⟩
      · exact .inl h
      · exact .inr ⟨.inr h, by have := hB x h; omega⟩
    · rintro (h | ⟨h | h, -⟩)
      · exact .inr (.inl h)
      · exact .inl h
      · exact .inr (.inr h)
  · rw [List.append_assoc, List.singleton_append, setRows_in hA hy hB]
    simp only [List.mem_append, List.mem_cons]
    constructor
    · rintro (h | h | h)
      · exact .inr ⟨.inl h, by have := hA x h; omega⟩
      · exact .inl h
      · exact .inr ⟨.inr (.inr h), by have := hB x h; omega⟩
    · rintro (h | ⟨h | h | h, hn⟩)
      · exact .inr (.inl h)
      · exact .inl h
      · exact absurd (h ▸ hy) hn
      · exact .inr (.inr h)
theorem len_set_found {l : List Rw} (h : Up l) {r : Rw} (hf : ∃ x ∈ l, x.key = r.key) : (setRows l r).length = l.length := by
  obtain ⟨A, M, B, rfl, hA, hB, hM⟩ := up_cut r.key l h
  obtain ⟨x, hx, hk⟩ := hf
  rcases hM with rfl | ⟨y, rfl, hy⟩
  · exfalso
    simp only [List.append_nil, List.mem_append] at hx
    rcases hx with hx | hx
    · have := hA x hx; omega
    · have := hB x hx; omega
  · rw [List.append_assoc, List.singleton_append, setRows_in hA hy hB]
    simp
theorem place_iff {l : List Rw} {k : Int} : 0 ≤ place l k ↔ ∃ x ∈ l, x.key = k := by
  rcases spot_cases (fun r : Rw => r.key == k) noRow l with ⟨h1, h2⟩ | ⟨j, h1, h2, h3, -⟩
  · constructor
    · intro h
      unfold place at h
      omega
    · rintro ⟨x, hx, hk⟩
      obtain ⟨i, hi, e⟩ := List.mem_iff_getElem.1 hx
      have := h2 i hi
      simp [List.getD, hi, e, hk] at this
  · constructor
    · intro _
      refine ⟨l.getD j noRow, by simp [List.getD, h2], by simpa using h3⟩
    · intro _
      unfold place
      omega
theorem outAt_iff {l : List (Int × Int)} {k : Int} : 0 ≤ outAt l k ↔ ∃ y ∈ l, y.1 = k := by
  rcases spot_cases (fun y : Int × Int => y.1 == k) (0, 0) l with ⟨h1, h2⟩ | ⟨j, h1, h2, h3, -⟩
  · constructor
    · intro h
      unfold outAt at h
      omega
    · rintro ⟨x, hx, hk⟩
      obtain ⟨i, hi, e⟩ := List.mem_iff_getElem.1 hx
      have := h2 i hi
      simp [List.getD, hi, e, hk] at this
  · constructor
    · intro _
      refine ⟨l.getD j (0, 0), by simp [List.getD, h2], by simpa using h3⟩
    · intro _
      unfold outAt
      omega
/-- A key's row. -/
theorem find_some {t : Tb} (h : Up t.rows) {x : Rw} (hx : x ∈ t.rows) : findRow t x.key = x := by
  have h0 : 0 ≤ place t.rows x.key := place_iff.2 ⟨x, hx, rfl⟩
  unfold findRow
  rw [if_neg (by omega)]
  rcases spot_cases (fun r : Rw => r.key == x.key) noRow t.rows with ⟨h1, -⟩ | ⟨j, h1, h2, h3, -⟩
  · unfold place at h0; omega
  · have e : (place t.rows x.key).toNat = j := by unfold place; omega
    rw [e]
    have hk : (t.rows.getD j noRow).key = x.key := by simpa using h3
    obtain ⟨i, hi, ei⟩ := List.mem_iff_getElem.1 hx
    have ej : t.rows.getD j noRow = t.rows[j] := by simp [List.getD, h2]
    rw [ej] at hk ⊢
    rcases Nat.lt_trichotomy i j with h4 | h4 | h4
    · have := List.pairwise_iff_getElem.1 h i j hi h2 h4
      rw [ei] at this; omega
    · subst h4; exact ei
    · have := List.pairwise_iff_getElem.1 h j i h2 hi h4
      rw [ei] at this; omega
theorem find_key' (t : Tb) (k : Int) : (findRow t k).key = k := by
  unfold findRow
  split
  · rfl
  · rename_i hn
    rcases spot_cases (fun r : Rw => r.key == k) noRow t.rows with ⟨h1, -⟩ | ⟨j, h1, h2, h3, -⟩
    · unfold place at hn; omega
    · have e : (place t.rows k).toNat = j := by unfold place; omega
      rw [e]
      simpa using h3
theorem findIs_iff {t : Tb} {k : Int} : findIs t k = true ↔ ∃ x ∈ t.rows, x.key = k := by
  unfold findIs
  rw [decide_eq_true_iff]
  exact place_iff
/-- What a node holds. -/
theorem has_iff {t : Tb} (h : Up t.rows) {k node : Int} : has t k node = true ↔ ∃ x ∈ t.rows, x.key = k ∧ ∃ y ∈ x.out, y.1 = node := by
  unfold has
  rw [Bool.and_eq_true, decide_eq_true_iff, findIs_iff]
  constructor
  · rintro ⟨⟨x, hx, rfl⟩, h2⟩
    rw [find_some h hx] at h2
    exact ⟨x, hx, rfl, outAt_iff.1 h2⟩
  · rintro ⟨x, hx, rfl, h2⟩
    rw [find_some h hx]
    exact ⟨⟨x, hx, rfl⟩, outAt_iff.2 h2⟩
/-- Few rows, few leases. -/
theorem rise_zero {n : Nat} {t : Tb} (h : Rise n t) (hr : t.rows.length ≤ 16) : Rise 0 t :=
  ⟨⟨by omega, h.base.lo, h.base.hi, fun r hm => by
    have hb := h.base.rows r hm
    exact ⟨Nat.le_trans (out_few (h.ups r hm) fun x hx => (hb.out x hx).1) (by omega), hb.lo, hb.hi, hb.mark, hb.key, hb.out⟩⟩, h.up, h.ups⟩
theorem rise_16 {t : Tb} (h : Rise 0 t) : t.rows.length ≤ 16 := by have := h.base.len; omega
theorem zmint {t : Tb} (h : Rise 0 t) {key now : Int} (hk : Num key) (hn : Num now) {f : Cf} (hf : f.keys ≤ 16) : Rise 0 (mint t key now f).1 := by
  refine rise_zero (rise_mint h hk hn f) ?_
  have h16 := rise_16 h
  unfold mint
  split
  · exact h16
  · split
    · rename_i h1
      by_cases hp : 0 ≤ place t.rows key
      · show (setRows _ _).length ≤ 16
        rw [len_set_found h.up]
        · exact h16
        · obtain ⟨x, hx, hk2⟩ := place_iff.1 hp
          exact ⟨x, hx, by rw [hk2]; exact (find_key' t key).symm⟩
      · have := setRows_len t.rows (look t key now (rateOf f key).1 (rateOf f key).2)
        show (setRows _ _).length ≤ 16
        omega
    · split
      · exact h16
      · rename_i h3
        have := setRows_len (sweep t now f).rows (look (sweep t now f) key now (rateOf f key).1 (rateOf f key).2)
        show (setRows _ _).length ≤ 16
        omega
theorem zset {t : Tb} (h : Rise 0 t) {key : Int} (hf : findIs t key = true) {r : Rw} (hr : r.key = (findRow t key).key) : (setRow t r).rows.length ≤ 16 := by
  have h16 := rise_16 h
  show (setRows _ _).length ≤ 16
  rw [len_set_found h.up]
  · exact h16
  · obtain ⟨x, hx, hk⟩ := findIs_iff.1 hf
    exact ⟨x, hx, by rw [hr, find_key', hk]⟩
theorem zsettle {t : Tb} (h : Rise 0 t) {key : Int} (hk : Num key) (node spent : Int) : Rise 0 (settle t key node spent).1 := by
  refine rise_zero (rise_settle h hk node spent) ?_
  unfold settle
  split
  · rename_i hh
    exact zset h (by unfold has at hh; simp only [Bool.and_eq_true] at hh; exact hh.1) rfl
  · exact rise_16 h
theorem zgrant {t : Tb} (h : Rise 0 t) {key : Int} (hk : Num key) (node want : Int) : Rise 0 (grant t key node want).1 := by
  refine rise_zero (rise_grant h hk node want) ?_
  unfold grant
  split
  · rename_i hh
    exact zset h (by simp only [mayGrant, Bool.and_eq_true] at hh; exact hh.1.1.1.1) rfl
  · exact rise_16 h
/-- A table with another row: what a node holds of the other keys stays. -/
theorem has_set {t : Tb} (h : Up t.rows) {r : Rw} {k node : Int} (hk : k ≠ r.key) : has (setRow t r) k node = has t k node := by
  rw [Bool.eq_iff_iff, has_iff (show Up (setRow t r).rows from up_set h r), has_iff h]
  constructor
  · rintro ⟨x, hx, rfl, hy⟩
    rcases (mem_set h r x).1 hx with rfl | ⟨h1, -⟩
    · exact absurd rfl hk
    · exact ⟨x, h1, rfl, hy⟩
  · rintro ⟨x, hx, rfl, hy⟩
    exact ⟨x, (mem_set h r x).2 (.inr ⟨hx, hk⟩), rfl, hy⟩
theorem has_set_same {t : Tb} (h : Up t.rows) {r : Rw} {node : Int} : has (setRow t r) r.key node = true ↔ ∃ y ∈ r.out, y.1 = node := by
  rw [has_iff (show Up (setRow t r).rows from up_set h r)]
  constructor
  · rintro ⟨x, hx, he, hy⟩
    rcases (mem_set h r x).1 hx with rfl | ⟨-, h2⟩
    · exact hy
    · exact absurd he h2
  · intro hy
    exact ⟨r, (mem_set h r r).2 (.inl rfl), rfl, hy⟩
theorem has_sweep {t : Tb} (h : Up t.rows) {k node now : Int} {f : Cf} (hh : has t k node = true) : has (sweep t now f) k node = true := by
  obtain ⟨x, hx, rfl, y, hy, hn⟩ := (has_iff h).1 hh
  refine (has_iff (show Up (sweep t now f).rows from List.Pairwise.sublist List.filter_sublist h)).2 ⟨x, ?_, rfl, y, hy, hn⟩
  show x ∈ sweepOf _ _ _ _
  unfold sweepOf
  refine List.mem_filter.2 ⟨hx, ?_⟩
  have : idle t.start x now f = false := by
    unfold idle
    have hl : ¬ x.out.length = 0 := by
      intro e
      rw [List.length_eq_zero_iff] at e
      rw [e] at hy
      cases hy
    simp [hl]
  rw [this]; rfl
theorem has_look {t : Tb} (h : Up t.rows) {k key node now R B : Int} (hh : has t k node = true) : has (setRow t (look t key now R B)) k node = true := by
  by_cases hk : k = key
  · subst hk
    have e : (look t k now R B).key = k := find_key' t k
    have h2 := (has_set_same h (r := look t k now R B) (node := node)).2 ?_
    · rwa [e] at h2
    · obtain ⟨x, hx, rfl, hy⟩ := (has_iff h).1 hh
      show ∃ y ∈ (findRow t x.key).out, y.1 = node
      rw [find_some h hx]
      exact hy
  · rw [has_set h (by rw [show (look t key now R B).key = key from find_key' t key]; exact hk)]
    exact hh
theorem has_mint {t : Tb} (h : Up t.rows) {k key node now : Int} {f : Cf} (hh : has t k node = true) : has (mint t key now f).1 k node = true := by
  unfold mint
  split
  · exact hh
  · split
    · exact has_look h hh
    · split
      · exact hh
      · exact has_look (List.Pairwise.sublist List.filter_sublist h) (has_sweep h hh)
theorem has_settle {t : Tb} (h : Up t.rows) {k key node spent : Int} (hk : k ≠ key) (node' : Int) : has (settle t key node spent).1 k node' = has t k node' := by
  unfold settle
  split
  · exact has_set h (by show k ≠ (findRow t key).key; rw [find_key']; exact hk)
  · rfl
theorem with_mem (l : List (Int × Int)) (x : Int × Int) : ∀ y ∈ l, y ∈ withLease l x := by
  have key : ∀ (l : List (Int × Int)) (s : List (Int × Int) × Bool) (y : Int × Int), y ∈ s.1 ∨ y ∈ l → y ∈ (l.foldl (leaseStep x) s).1 := by
    intro l
    induction l with
    | nil => intro s y h; exact h.elim id fun h => by cases h
    | cons z l ih =>
      intro s y h
      refine ih _ y ?_
      rcases h with h | h
      · left
        simp only [leaseStep, List.mem_append]
        left
        split
        · exact List.mem_append_left _ h
        · exact h
      · rcases List.mem_cons.1 h with rfl | h
        · left
          simp [leaseStep]
        · exact .inr h
  intro y hy
  have := key l ([], false) y (.inr hy)
  unfold withLease leaseTo
  split
  · exact this
  · exact List.mem_append_left _ this
theorem with_self (l : List (Int × Int)) (x : Int × Int) : x ∈ withLease l x := by
  have key : ∀ (l : List (Int × Int)) (s : List (Int × Int) × Bool), (s.2 = true → x ∈ s.1) → (l.foldl (leaseStep x) s).2 = true → x ∈ (l.foldl (leaseStep x) s).1 := by
    intro l
    induction l with
    | nil => intro s h h2; exact h h2
    | cons z l ih =>
      intro s h
      refine ih _ fun h2 => ?_
      simp only [leaseStep, Bool.or_eq_true, decide_eq_true_iff] at h2 ⊢
      cases hb : s.2
      · rw [hb] at h2
        have h3 : x.1 < z.1 := by simpa using h2
        simp [h3]
      · simp [h hb]
  unfold withLease
  split
  · rename_i h
    exact key l ([], false) (fun h => by cases h) h
  · simp
theorem has_grant {t : Tb} (h : Up t.rows) {k key node node' want : Int} (hh : has t k node = true) : has (grant t key node' want).1 k node = true := by
  unfold grant
  split
  · by_cases hk : k = key
    · subst hk
      have e : (granted (findRow t k) node' (grantN (findRow t k) want)).key = k := find_key' t k
      have h2 := (has_set_same h (r := granted (findRow t k) node' (grantN (findRow t k) want)) (node := node)).2 ?_
      · rwa [e] at h2
      · obtain ⟨x, hx, rfl, y, hy, hn⟩ := (has_iff h).1 hh
        refine ⟨y, ?_, hn⟩
        show y ∈ withLease (findRow t x.key).out _
        rw [find_some h hx]
        exact with_mem _ _ _ hy
    · rw [has_set h (by show k ≠ (findRow t key).key; rw [find_key']; exact hk)]
      exact hh
  · exact hh
theorem has_granted {t : Tb} (h : Up t.rows) {key node want : Int} (hg : 0 < (grant t key node want).2) : has (grant t key node want).1 key node = true := by
  unfold grant at hg ⊢
  split at hg
  · rename_i hm
    rw [if_pos hm]
    have e : (granted (findRow t key) node (grantN (findRow t key) want)).key = key := find_key' t key
    have h2 := (has_set_same h (r := granted (findRow t key) node (grantN (findRow t key) want)) (node := node)).2 ⟨_, with_self _ _, rfl⟩
    rwa [e] at h2
  · exact absurd hg (by simp)
theorem held_few {t : Tb} (h : Rise 0 t) (node : Int) : (held t node).length ≤ 16 := by
  have := heldOf_len node t.rows t.rows.length
  rw [List.take_length] at this
  have := rise_16 h
  unfold held
  omega
end Go.Proofs.YtbgdlokegibkmaaGreat.Ledger

namespace Go.Proofs.YtbgdlokegibkmaaGreat.Ledger
open _root_.Go.Proofs.YtbgdlokegibkmaaGreat.Frame (Rw Tb noRow tableOk)
open _root_.Go.Proofs.YtbgdlokegibkmaaGreat.Sat (fit add sub mul add_lo add_hi fit_lo fit_hi fit_self sum_two)
/-- All amounts. -/
def outs : List (Int × Int) → Int
  | [] => 0
  | x :: l => x.2 + outs l
theorem outs_lo {l : List (Int × Int)} (h : ∀ x ∈ l, 1 ≤ x.2) : 0 ≤ outs l := by
  induction l with
  | nil => exact Int.le_refl _
  | cons x l ih =>
    have h1 := h x List.mem_cons_self
    have h2 := ih fun y hy => h y (List.mem_cons_of_mem _ hy)
    simp only [outs]; omega
theorem sum_outs {l : List (Int × Int)} (h : ∀ x ∈ l, 1 ≤ x.2 ∧ x.2 ≤ 2147483648) : Sat.sum (l.map (·.2)) = outs l := by
  induction l with
  | nil => rfl
  | cons x l ih =>
    have h1 := h x List.mem_cons_self
    simp only [List.map_cons, Sat.sum, outs, ih fun y hy => h y (List.mem_cons_of_mem _ hy), fit_self (show 0 ≤ x.2 by omega) (by omega)]
/-- A row's total, where it does not run over. -/
theorem total_outs {m : Nat} {r : Rw} (h : RowB m r) (hs : r.avail + outs r.out ≤ 4611686018427387904) : total r = r.avail + outs r.out := by
  have h1 := sum_outs fun x hx => (h.out x hx).2
  simp only [total, add, Sat.sum, h1, fit_self h.lo h.hi]
  rw [if_neg]
  unfold Sat.top
  omega
/-- What is kept behind an act. -/
def Kept (R : Int) (r r' : Rw) (s : Int) : Prop := total r' + s ≤ total r + R * (r'.mark - r.mark) ∧ 0 ≤ s ∧ s ≤ 2147483648 ∧ r.mark ≤ r'.mark
end Go.Proofs.YtbgdlokegibkmaaGreat.Ledger
