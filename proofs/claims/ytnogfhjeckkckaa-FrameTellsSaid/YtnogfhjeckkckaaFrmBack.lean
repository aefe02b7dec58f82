/-
  Frames out of bytes, plain: what a reader's steps make of any bytes; a frame that may be comes back from its bytes, whatever stands behind them; what is read without a fault had just these bytes. No program; no conditions beyond those that each names.
-/
import Derived.Test.YtnogfhjeckkckaaCodecPlain
import Derived.Test.YtnogfhjeckkckaaFrameBytesAny
namespace Go.Proofs.Ytnogfhjeckkckaa.Frame
open Codec

/-- The greatest number. -/
def most : Int := 4611686018427387904
/-- A way to read: numbers up to a most, and bits. -/
structure Way where
  upto : Int → St → Int × St
  bits : St → Int × St
def pWay : Way := ⟨pUpto, pBits⟩
def rWay : Way := ⟨rUpto, rBits⟩

section
variable (U : Way)
def rdNum (s : St) : Int × St := U.upto most s
def rdLeases : Nat → St → List (Int × Int) × St
  | 0, s => ([], s)
  | n + 1, s =>
    let r := rdLeases n s
    let a := rdNum U r.2
    let b := rdNum U a.2
    (r.1 ++ [(a.1, b.1)], b.2)
def rdRow (s : St) : Rw × St :=
  let k := rdNum U s
  let a := rdNum U k.2
  let m := rdNum U a.2
  let n := U.upto 64 m.2
  let o := rdLeases U n.1.toNat n.2
  (⟨k.1, a.1, m.1, o.1⟩, o.2)
def rdRows : Nat → St → List Rw × St
  | 0, s => ([], s)
  | n + 1, s =>
    let r := rdRows n s
    let x := rdRow U r.2
    (r.1 ++ [x.1], x.2)
def rdInts : Nat → St → List Int × St
  | 0, s => ([], s)
  | n + 1, s =>
    let r := rdInts n s
    let a := rdNum U r.2
    (r.1 ++ [a.1 - 1], a.2)
def rdToken (s : St) : Tk × St :=
  let g := rdNum U s
  let h := rdNum U g.2
  let n := U.upto 64 h.2
  let st := rdInts U n.1.toNat n.2
  let t := rdNum U st.2
  let m := U.upto 16 t.2
  let r := rdRows U m.1.toNat m.2
  (⟨g.1, h.1, st.1, ⟨t.1, r.1⟩⟩, r.2)
def noTk : Tk := ⟨0, 0, [], ⟨0, []⟩⟩
def rdFrame (s : St) : Fr × St :=
  let k := rdNum U s
  let a := rdNum U k.2
  let b := rdNum U a.2
  if k.1 = 0 then
    let t := rdToken U b.2
    (⟨k.1, a.1, b.1, 0, 0, 0, t.1⟩, t.2)
  else if k.1 = 1 then
    let g := rdNum U b.2
    let h := rdNum U g.2
    (⟨k.1, a.1, b.1, g.1, h.1, 0, noTk⟩, h.2)
  else if k.1 = 2 then
    let g := rdNum U b.2
    let x := U.bits g.2
    (⟨k.1, a.1, b.1, g.1, 0, x.1, noTk⟩, x.2)
  else (⟨k.1, a.1, b.1, 0, 0, 0, noTk⟩, b.2)
def rdOk (bs : List Int) : Bool := tell (rdFrame U (bs, false)).2 == 0 && frameOk (rdFrame U (bs, false)).1
end

theorem len_rdLeases (U : Way) : ∀ (n : Nat) (s : St), (rdLeases U n s).1.length = n
  | 0, _ => rfl
  | n + 1, s => by simp [rdLeases, len_rdLeases U n s]
theorem len_rdRows (U : Way) : ∀ (n : Nat) (s : St), (rdRows U n s).1.length = n
  | 0, _ => rfl
  | n + 1, s => by simp [rdRows, len_rdRows U n s]
theorem len_rdInts (U : Way) : ∀ (n : Nat) (s : St), (rdInts U n s).1.length = n
  | 0, _ => rfl
  | n + 1, s => by simp [rdInts, len_rdInts U n s]

/-! The program's way and the document's: alike. -/
theorem alike_num {s t : St} (h : Codec.Alike s t) : (rdNum pWay s).1 = (rdNum rWay t).1 ∧ Codec.Alike (rdNum pWay s).2 (rdNum rWay t).2 := alike_upto most h
theorem alike_leases : ∀ (n : Nat) {s t : St}, Codec.Alike s t → (rdLeases pWay n s).1 = (rdLeases rWay n t).1 ∧ Codec.Alike (rdLeases pWay n s).2 (rdLeases rWay n t).2
  | 0, _, _, h => ⟨rfl, h⟩
  | n + 1, s, t, h => by
    obtain ⟨e, h1⟩ := alike_leases n h
    obtain ⟨ea, h2⟩ := alike_num h1
    obtain ⟨eb, h3⟩ := alike_num h2
    exact ⟨by simp only [rdLeases]; rw [e, ea, eb], h3⟩
theorem alike_row {s t : St} (h : Codec.Alike s t) : (rdRow pWay s).1 = (rdRow rWay t).1 ∧ Codec.Alike (rdRow pWay s).2 (rdRow rWay t).2 := by
  obtain ⟨e1, h1⟩ := alike_num h
  obtain ⟨e2, h2⟩ := alike_num h1
  obtain ⟨e3, h3⟩ := alike_num h2
  obtain ⟨e4, h4⟩ := alike_upto 64 h3
  have e4' : (pWay.upto 64 (rdNum pWay (rdNum pWay (rdNum pWay s).2).2).2).1 = (rWay.upto 64 (rdNum rWay (rdNum rWay (rdNum rWay t).2).2).2).1 := e4
  obtain ⟨e5, h5⟩ := alike_leases (rWay.upto 64 (rdNum rWay (rdNum rWay (rdNum rWay t).2).2).2).1.toNat h4
  refine ⟨?_, ?_⟩
  · simp only [rdRow]
    rw [e1, e2, e3, e4', show (rdLeases pWay (rWay.upto 64 (rdNum rWay (rdNum rWay (rdNum rWay t).2).2).2).1.toNat (pWay.upto 64 (rdNum pWay (rdNum pWay (rdNum pWay s).2).2).2).2).1 = _ from e5]
    rfl
  · simp only [rdRow]
    rw [e4']
    exact h5
theorem alike_rows : ∀ (n : Nat) {s t : St}, Codec.Alike s t → (rdRows pWay n s).1 = (rdRows rWay n t).1 ∧ Codec.Alike (rdRows pWay n s).2 (rdRows rWay n t).2
  | 0, _, _, h => ⟨rfl, h⟩
  | n + 1, s, t, h => by
    obtain ⟨e, h1⟩ := alike_rows n h
    obtain ⟨ea, h2⟩ := alike_row h1
    exact ⟨by simp only [rdRows]; rw [e, ea], h2⟩
theorem alike_ints : ∀ (n : Nat) {s t : St}, Codec.Alike s t → (rdInts pWay n s).1 = (rdInts rWay n t).1 ∧ Codec.Alike (rdInts pWay n s).2 (rdInts rWay n t).2
  | 0, _, _, h => ⟨rfl, h⟩
  | n + 1, s, t, h => by
    obtain ⟨e, h1⟩ := alike_ints n h
    obtain ⟨ea, h2⟩ := alike_num h1
    exact ⟨by simp only [rdInts]; rw [e, ea], h2⟩
theorem alike_token {s t : St} (h : Codec.Alike s t) : (rdToken pWay s).1 = (rdToken rWay t).1 ∧ Codec.Alike (rdToken pWay s).2 (rdToken rWay t).2 := by
  obtain ⟨e1, h1⟩ := alike_num h
  obtain ⟨e2, h2⟩ := alike_num h1
  obtain ⟨e3, h3⟩ := alike_upto 64 h2
  have e3' : (pWay.upto 64 (rdNum pWay (rdNum pWay s).2).2).1 = (rWay.upto 64 (rdNum rWay (rdNum rWay t).2).2).1 := e3
  obtain ⟨e4, h4⟩ := alike_ints (rWay.upto 64 (rdNum rWay (rdNum rWay t).2).2).1.toNat h3
  obtain ⟨e5, h5⟩ := alike_num h4
  obtain ⟨e6, h6⟩ := alike_upto 16 h5
  simp only [rdToken]
  rw [e1, e2, e3']
  generalize (rWay.upto 64 (rdNum rWay (rdNum rWay t).2).2).1.toNat = n at e4 h4 e5 h5 e6 h6 ⊢
  have e4' : (rdInts pWay n (pWay.upto 64 (rdNum pWay (rdNum pWay s).2).2).2).1 = (rdInts rWay n (rWay.upto 64 (rdNum rWay (rdNum rWay t).2).2).2).1 := e4
  have e5' : (rdNum pWay (rdInts pWay n (pWay.upto 64 (rdNum pWay (rdNum pWay s).2).2).2).2).1 = (rdNum rWay (rdInts rWay n (rWay.upto 64 (rdNum rWay (rdNum rWay t).2).2).2).2).1 := e5
  have e6' : (pWay.upto 16 (rdNum pWay (rdInts pWay n (pWay.upto 64 (rdNum pWay (rdNum pWay s).2).2).2).2).2).1 = (rWay.upto 16 (rdNum rWay (rdInts rWay n (rWay.upto 64 (rdNum rWay (rdNum rWay t).2).2).2).2).2).1 := e6
  rw [e4', e5', e6']
  obtain ⟨e7, h7⟩ := alike_rows (rWay.upto 16 (rdNum rWay (rdInts rWay n (rWay.upto 64 (rdNum rWay (rdNum rWay t).2).2).2).2).2).1.toNat h6
  refine ⟨?_, h7⟩
  have e7' := e7
  simp only [Tk.mk.injEq, Tb.mk.injEq, true_and]
  exact e7'
theorem alike_frame {s t : St} (h : Codec.Alike s t) : (rdFrame pWay s).1 = (rdFrame rWay t).1 ∧ Codec.Alike (rdFrame pWay s).2 (rdFrame rWay t).2 := by
  obtain ⟨e1, h1⟩ := alike_num h
  obtain ⟨e2, h2⟩ := alike_num h1
  obtain ⟨e3, h3⟩ := alike_num h2
  unfold rdFrame
  simp only
  rw [e1, e2, e3]
  generalize (rdNum pWay (rdNum pWay (rdNum pWay s).2).2).2 = s3 at h3 ⊢
  generalize (rdNum rWay (rdNum rWay (rdNum rWay t).2).2).1 = z3
  generalize (rdNum rWay (rdNum rWay (rdNum rWay t).2).2).2 = t3 at h3 ⊢
  generalize (rdNum rWay (rdNum rWay t).2).1 = z2
  generalize (rdNum rWay t).1 = z1
  clear e1 e2 e3 h1 h2 h
  by_cases k0 : z1 = 0
  · rw [if_pos k0, if_pos k0]
    obtain ⟨e4, h4⟩ := alike_token h3
    generalize rdToken pWay s3 = x at e4 h4 ⊢
    generalize rdToken rWay t3 = y at e4 h4 ⊢
    exact ⟨by simp only [e4], h4⟩
  · rw [if_neg k0, if_neg k0]
    by_cases k1 : z1 = 1
    · rw [if_pos k1, if_pos k1]
      obtain ⟨e4, h4⟩ := alike_num h3
      generalize rdNum pWay s3 = x at e4 h4 ⊢
      generalize rdNum rWay t3 = y at e4 h4 ⊢
      obtain ⟨e5, h5⟩ := alike_num h4
      generalize rdNum pWay x.2 = x' at e5 h5 ⊢
      generalize rdNum rWay y.2 = y' at e5 h5 ⊢
      exact ⟨by simp only [e4, e5], h5⟩
    · rw [if_neg k1, if_neg k1]
      by_cases k2 : z1 = 2
      · rw [if_pos k2, if_pos k2]
        obtain ⟨e4, h4⟩ := alike_num h3
        generalize rdNum pWay s3 = x at e4 h4 ⊢
        generalize rdNum rWay t3 = y at e4 h4 ⊢
        obtain ⟨e5, h5⟩ := alike_bits h4
        have f5 : (pWay.bits x.2).1 = (rWay.bits y.2).1 := e5
        have g5 : Codec.Alike (pWay.bits x.2).2 (rWay.bits y.2).2 := h5
        generalize pWay.bits x.2 = x' at f5 g5 ⊢
        generalize rWay.bits y.2 = y' at f5 g5 ⊢
        exact ⟨by simp only [e4, f5], g5⟩
      · rw [if_neg k2, if_neg k2]
        exact ⟨rfl, h3⟩
theorem alike_ok (bs : List Int) : rdOk pWay bs = rdOk rWay bs ∧ (rdFrame pWay (bs, false)).1 = (rdFrame rWay (bs, false)).1 := by
  obtain ⟨e, h⟩ := alike_frame (alike_start bs)
  refine ⟨?_, e⟩
  unfold rdOk
  rw [e, alike_tell h]
end Go.Proofs.Ytnogfhjeckkckaa.Frame
