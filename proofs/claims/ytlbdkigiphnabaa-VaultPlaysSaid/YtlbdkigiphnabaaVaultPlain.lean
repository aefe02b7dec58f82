/-
  States and records as data: which may be, which rise, a record's bytes, the states of bytes; a vault as a disk and its records; what each call makes of it and tells. Plain functions, no program.
-/
import Derived.Test.YtlbdkigiphnabaaCodecPlain
import Derived.Test.YtlbdkigiphnabaaDiskPlain
namespace Go.Proofs.Ytlbdkigiphnabaa.Vault
open _root_.Go.Proofs.Ytlbdkigiphnabaa.Codec (num eight puts goods good IsBytes)
open _root_.Go.Proofs.Ytlbdkigiphnabaa.Disk (Sl all over dWrite eWrite dSync dReplace dCrash Holds)

structure Sv where
  p : Int
  g : Int
  h : Int
  r : Int
def zero : Sv := ⟨0, 0, 0, 0⟩
def may (n : Int) : Bool := decide (0 ≤ n) && decide (n ≤ 1099511627776)
/-- May a state be? -/
def right (s : Sv) : Bool := may s.p && (may s.g && (may s.h && may s.r))
/-- Does a rise to b? -/
def rises (a b : Sv) : Bool := decide (a.p ≤ b.p) && (decide (a.r ≤ b.r) && (decide (a.g < b.g) || (decide (a.g = b.g) && decide (a.h ≤ b.h))))
def nums (s : Sv) : List Int := [s.p, s.g, s.h, s.r]
/-- A record. -/
def rec (s : Sv) : List Int := puts (nums s)
def recs (l : List Sv) : List Int := l.flatMap rec
def last (l : List Sv) : Sv := l.getLastD zero

theorem may_iff {n : Int} : may n = true ↔ 0 ≤ n ∧ n ≤ 1099511627776 := by simp [may]
theorem right_iff {s : Sv} : right s = true ↔ (0 ≤ s.p ∧ s.p ≤ 1099511627776) ∧ (0 ≤ s.g ∧ s.g ≤ 1099511627776) ∧ (0 ≤ s.h ∧ s.h ≤ 1099511627776) ∧ (0 ≤ s.r ∧ s.r ≤ 1099511627776) := by
  simp [right, may_iff]
theorem rises_iff {a b : Sv} : rises a b = true ↔ a.p ≤ b.p ∧ a.r ≤ b.r ∧ (a.g < b.g ∨ (a.g = b.g ∧ a.h ≤ b.h)) := by
  simp [rises]
theorem rises_refl (a : Sv) : rises a a = true := rises_iff.2 ⟨by omega, by omega, .inr ⟨rfl, by omega⟩⟩
theorem rises_trans {a b c : Sv} (h : rises a b = true) (k : rises b c = true) : rises a c = true := by
  rw [rises_iff] at *
  omega
theorem rises_zero {s : Sv} (h : right s = true) : rises zero s = true := by
  rw [right_iff] at h
  rw [rises_iff]
  simp only [zero]
  omega
theorem len_rec (s : Sv) : (rec s).length = 32 := by simp [rec, nums, Codec.len_puts]
theorem len_recs (l : List Sv) : (recs l).length = 32 * l.length := by
  induction l with
  | nil => rfl
  | cons s l ih =>
    simp only [recs, List.flatMap_cons, List.length_append, len_rec, List.length_cons] at ih ⊢
    omega
theorem recs_snoc (l : List Sv) (s : Sv) : recs (l ++ [s]) = recs l ++ rec s := by simp [recs]
theorem last_snoc (l : List Sv) (s : Sv) : last (l ++ [s]) = s := by simp [last]
theorem goods_nums {s : Sv} (h : right s = true) : goods (nums s) = true := by
  rw [right_iff] at h
  simp [goods, nums, good]
  omega

/-- The four numbers of a record's bytes. -/
def four (b : List Int) : Sv := ⟨num (b.take 8), num ((b.drop 8).take 8), num ((b.drop 16).take 8), num ((b.drop 24).take 8)⟩
theorem four_rec {s : Sv} (h : right s = true) (t : List Int) : four (rec s ++ t) = s := by
  rw [right_iff] at h
  have e : rec s ++ t = eight s.p ++ (eight s.g ++ (eight s.h ++ (eight s.r ++ t))) := by simp [rec, nums, puts]
  have t8 : ∀ (x : Int) (l : List Int), (eight x ++ l).take 8 = eight x := fun x l => List.take_left' (Codec.len_eight x)
  have d8 : ∀ (x : Int) (l : List Int), (eight x ++ l).drop 8 = l := fun x l => List.drop_left' (Codec.len_eight x)
  have e1 : (rec s ++ t).drop 8 = eight s.g ++ (eight s.h ++ (eight s.r ++ t)) := by rw [e, d8]
  have e2 : (rec s ++ t).drop 16 = eight s.h ++ (eight s.r ++ t) := by rw [show 16 = 8 + 8 from rfl, ← List.drop_drop, e1, d8]
  have e3 : (rec s ++ t).drop 24 = eight s.r ++ t := by rw [show 24 = 16 + 8 from rfl, ← List.drop_drop, e2, d8]
  unfold four
  rw [e1, e2, e3, e, t8, t8, t8, t8, Codec.num_eight _ (by omega) (by omega), Codec.num_eight _ (by omega) (by omega), Codec.num_eight _ (by omega) (by omega), Codec.num_eight _ (by omega) (by omega)]

/-- The states of the first n records of bytes, behind those of l; none, if one is none's. -/
def parse : Nat → List Int → List Sv → Option (List Sv)
  | 0, _, l => some l
  | n + 1, b, l => if right (four b) = true ∧ rises (last l) (four b) = true then parse n (b.drop 32) (l ++ [four b]) else none
/-- The states of bytes. -/
def states (b : List Int) : Option (List Sv) := parse (b.length / 32) b []

/-- States that rise, one to the other, from s on. -/
def Chain (s : Sv) : List Sv → Prop
  | [] => True
  | t :: l => right t = true ∧ rises s t = true ∧ Chain t l
theorem last_cons (s : Sv) (l : List Sv) (d : Sv) : (s :: l).getLastD d = l.getLastD s := List.getLastD_cons
theorem chain_snoc : ∀ (l : List Sv) (s t : Sv), Chain s l → right t = true → rises (l.getLastD s) t = true → Chain s (l ++ [t])
  | [], s, t, _, h1, h2 => ⟨h1, by simpa using h2, trivial⟩
  | u :: l, s, t, ⟨h, h', h''⟩, h1, h2 => ⟨h, h', chain_snoc l u t h'' h1 (by rwa [last_cons] at h2)⟩
theorem parse_recs : ∀ (l : List Sv) (l0 : List Sv) (t : List Int), Chain (last l0) l → parse l.length (recs l ++ t) l0 = some (l0 ++ l)
  | [], l0, t, _ => by simp [parse]
  | s :: l, l0, t, ⟨h1, h2, h3⟩ => by
    have e : recs (s :: l) ++ t = rec s ++ (recs l ++ t) := by simp [recs]
    have hd : (rec s ++ (recs l ++ t)).drop 32 = recs l ++ t := by rw [List.drop_append, len_rec]; simp [len_rec]
    rw [e, List.length_cons, parse, four_rec h1, if_pos ⟨h1, h2⟩, hd, parse_recs l (l0 ++ [s]) t (by rwa [last_snoc])]
    simp
theorem chain_take : ∀ (l : List Sv) (s : Sv) (n : Nat), Chain s l → Chain s (l.take n)
  | [], _, _, _ => by simp [Chain]
  | _ :: _, _, 0, _ => trivial
  | t :: l, s, n + 1, ⟨h1, h2, h3⟩ => ⟨h1, h2, chain_take l t n h3⟩
theorem recs_split (l : List Sv) (n : Nat) : recs l = recs (l.take n) ++ recs (l.drop n) := by
  unfold recs
  rw [← List.flatMap_append, List.take_append_drop]
/-- What is left of records behind a crash. -/
theorem states_torn (l : List Sv) (k : Nat) (h : Chain zero l) (hk : k ≤ 32 * l.length) : states ((recs l).take k) = some (l.take (k / 32)) ∧ 32 * (k / 32) ≤ k ∧ (recs l).take (32 * (k / 32)) = recs (l.take (k / 32)) := by
  have hn : k / 32 ≤ l.length := by omega
  have hl : (l.take (k / 32)).length = k / 32 := by simp; omega
  have hlr : (recs (l.take (k / 32))).length = 32 * (k / 32) := by rw [len_recs, hl]
  have ht : (recs l).take k = recs (l.take (k / 32)) ++ (recs (l.drop (k / 32))).take (k - 32 * (k / 32)) := by
    rw [recs_split l (k / 32), List.take_append, hlr, List.take_of_length_le (by rw [hlr]; omega)]
  refine ⟨?_, by omega, ?_⟩
  · have hlen : ((recs l).take k).length = k := by simp [len_recs]; omega
    unfold states
    rw [hlen, ht]
    have := parse_recs (l.take (k / 32)) [] ((recs (l.drop (k / 32))).take (k - 32 * (k / 32))) (chain_take l _ _ h)
    rw [hl] at this
    simpa using this
  · rw [recs_split l (k / 32), List.take_append, hlr]
    simp
    rw [List.take_of_length_le (by rw [hlr]; omega)]

/-- A vault: what lies on its disk, its states. -/
abbrev Vs := Sl × List Sv
def vPut (room : Int) (v : Vs) (s : Sv) : Vs := if right s = true ∧ rises (last v.2) s = true ∧ over room v.1 (rec s) = false then (dWrite room v.1 (rec s), v.2 ++ [s]) else v
def ePut (room : Int) (v : Vs) (s : Sv) : Int := if right s = true then (if rises (last v.2) s = true then eWrite room v.1 (rec s) else 7) else 1
def vSync (room : Int) (v : Vs) : Vs := if 64 < v.2.length then (dReplace room (dSync v.1) (rec (last v.2)), [last v.2]) else (dSync v.1, v.2)
/-- The file is cut behind the last whole record. -/
def cut (room : Int) (d : Sl) : Sl := if 32 * ((all d).length / 32) < (all d).length then dReplace room d ((all d).take (32 * ((all d).length / 32))) else d
end Go.Proofs.Ytlbdkigiphnabaa.Vault
