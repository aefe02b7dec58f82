/-
  The document's at and Of, of any queue of up to 1000 items; of what lay when the call began nothing has turned.
  Two rows of one element type that a call owns, each in a block of its own: what is appended to the one leaves the other. Any program.
  The document's Take, of any queue of up to 1000 items.
  The document's at, of any wallet of up to 1000 leases; of what lay when the call began nothing has turned.
  The document's gone, of any wallet of up to 1000 leases and any place in it.
-/
import Derived.Maps.AppendAt
import Derived.Test.YtlbpeeelgpjciaaGreatMgAe
import Derived.Test.YtlbpeeelgpjciaaGreatMgAb
import Derived.Test.YtlbpeeelgpjciaaGreatMgAd
namespace Go.Proofs.YtlbpeeelgpjciaaGreat.Queue2
open _root_.Go.Proofs.YtlbpeeelgpjciaaGreat.Queue
variable {ov : Nat}
open Go.RowKit
open _root_.Go.Proofs.YtlbpeeelgpjciaaGreat.Codec (lt_of_heap frozen_of heap_set below_new)
open _root_.Go.Proofs.YtlbpeeelgpjciaaGreat.Ledger (spot spot_at spot_none)
open _root_.Go.Proofs.YtlbpeeelgpjciaaGreat.Kit (Enc Lies Own At Kept Laid cell_on lt_heap take_snoc below_drewN)

set_option maxRecDepth 100000 in
theorem rat_any {B v : Nat} {room : Int} {l : List It} {w : World} (h : Qu B w v ov room l) (hl : l.length ≤ 1000) (id : Int) :
    Calls Tryz.prog 126 #[.pointer (some ⟨v, ov, none⟩), .int .i64 id] w fun e w' => e = .returned (.int .i64 (place l id)) ∧ Below w.heap.size w w' := by
  obtain ⟨p, c, c1, hr, -⟩ := h.cell
  have HPL := Lib.hid (show place l id = spot (fun x => x.id == id) l from rfl)
  generalize place l id = R at HPL ⊢
  have HR := Lib.hid hr
  have HB := Lib.hid (Below.refl w.heap.size w)
  clear hr h
  go_enter Tryz.func126, Tryz.ntmps126
  go_wp2
  go_loop [5] (fun i => ∃ j : Nat, j ≤ l.length ∧ i = .int .i64 (j : Int) ∧ Hid (∀ i, i < j → (l.getD i z).id ≠ id)) (fun i => l.length - (intOf i).toNat)
  case atStart => exact ⟨0, by omega, rfl, fun i hi => by omega⟩
  case round =>
    obtain ⟨j, hj, rfl, hne⟩ := hrel
    by_cases hlt : j < l.length
    · obtain ⟨b, o, rfl, hat⟩ := lies_at HR.out hlt
      obtain ⟨k0, -⟩ := at5 hat
      have hlt' : (j : Int) < (l.length : Int) := by omega
      by_cases hk : (l.getD j z).id = id
      · have HE := Lib.hid (show R = (j : Int) by rw [HPL.out]; exact spot_at _ z l j hlt (fun i hi => by simpa using hne.out i hi) (by simpa using hk))
        rw [hk] at k0
        clear hne HPL HR hk hat
        go_wp2
        go_ret
        exact ⟨by rw [HE.out]; rfl, HB.out⟩
      · have HN : Hid (∀ i, i < j + 1 → (l.getD i z).id ≠ id) := fun i hi => by
          by_cases e : i = j
          · rw [e]; exact hk
          · exact hne.out i (by omega)
        generalize (l.getD j z).id = q at k0 hk
        clear hne HPL HR hat
        go_wp2
        go_round
        case rel => exact ⟨j + 1, by omega, by go_num, HN⟩
        case measure => simp only [intOf]; omega
    · have hlt' : ¬ (j : Int) < (l.length : Int) := by omega
      have HE := Lib.hid (show R = -1 by rw [HPL.out]; exact spot_none _ z l (fun i hi => by simpa using hne.out i (by omega)))
      clear hne HPL HR
      go_wp2
      go_ret
      exact ⟨by rw [HE.out]; rfl, HB.out⟩

theorem filter_yes {f : It → Bool} {l : List It} {j : Nat} (h : j < l.length) (e : f (l.getD j z) = true) : (l.take (j + 1)).filter f = (l.take j).filter f ++ [l.getD j z] := by
  rw [take_snoc z h, List.filter_append]
  simp only [List.filter_cons, e, if_true, List.filter_nil]
theorem filter_no {f : It → Bool} {l : List It} {j : Nat} (h : j < l.length) (e : f (l.getD j z) = false) : (l.take (j + 1)).filter f = (l.take j).filter f := by
  rw [take_snoc z h, List.filter_append]
  simp only [List.filter_cons, e, Bool.false_eq_true, if_false, List.filter_nil, List.append_nil]
/-- What was found in the classes ahead of one. -/
def ahead (l : List It) (k : Int) : Nat → List It
  | 0 => []
  | 1 => ofc l k 0
  | 2 => ofc l k 0 ++ ofc l k 1
  | _ => of l k
theorem ahead_succ (l : List It) (k : Int) {c : Nat} (h : c < 3) : ahead l k (c + 1) = ahead l k c ++ ofc l k (c : Int) := by
  match c, h with
  | 0, _ => simp [ahead]
  | 1, _ => simp [ahead]
  | 2, _ => simp [ahead, of]
theorem ahead_len (l : List It) (k : Int) (c : Nat) : (ahead l k c).length ≤ 3 * l.length := by
  have h0 := ofc_len l k 0
  have h1 := ofc_len l k 1
  have h2 := ofc_len l k 2
  unfold ahead
  split <;> simp [of] <;> omega
set_option maxRecDepth 100000 in
set_option maxHeartbeats 4000000 in
theorem rof_own {B v : Nat} {room : Int} {l : List It} {w : World} (h : Qu B w v ov room l) (hl : l.length ≤ 1000) (key : Int) :
    Calls Tryz.prog 77 #[.pointer (some ⟨v, ov, none⟩), .int .i64 key] w fun e w' => ∃ p c, e = .returned (.slice p (of l key).length c) ∧ Own item 95 w.heap.size w' (.slice p (of l key).length c) (of l key) ∧ Below w.heap.size w w' := by
  have HV := Lib.hid h
  have HD := Lib.hid (show ahead l key 3 = of l key from rfl)
  have HS := Lib.hid (fun (c : Nat) (h : c < 3) => ahead_succ l key h)
  have HL := Lib.hid (ahead_len l key)
  have H0 := Lib.hid (show ahead l key 0 = [] from rfl)
  generalize of l key = R at HD ⊢
  generalize ahead l key = AH at *
  clear h
  go_enter Tryz.func77, Tryz.ntmps77
  go_wp2
  go_loopw [5, 6] (fun y k wr => ∃ (c : Nat) (p : Option Addr) (d n : Nat), c ≤ 3 ∧ k = .int .i64 (c : Int) ∧ y = .slice p n d ∧ Hid (Own item 95 w.heap.size wr y (AH c)) ∧ Hid ((AH c).length = n) ∧ Below w.heap.size w wr) (fun _ k _ => 3 - (intOf k).toNat)
  case atStart => exact ⟨0, none, 0, 0, by omega, rfl, rfl, by rw [H0.out]; exact Lib.hid (Own.none _ _ _ _), by rw [H0.out]; exact Lib.hid rfl, Below.refl _ _⟩
  case round =>
    obtain ⟨c, p, d, n, hc, rfl, rfl, hown, hn, hbw⟩ := hrel
    by_cases hlt : c < 3
    · have hlt' : (c : Int) < 3 := by omega
      have HC := Lib.hid (HS.out c hlt)
      have HN := Lib.hid (HL.out c)
      generalize AH c = A0 at *
      have HBW := Lib.hid hbw
      clear hbw
      go_wp2
      go_loopw [5, 7] (fun y k wu => ∃ (j : Nat) (p : Option Addr) (d n : Nat), j ≤ l.length ∧ k = .int .i64 (j : Int) ∧ y = .slice p n d ∧ Hid (Own item 95 w.heap.size wu y (A0 ++ (l.take j).filter (isOf key (c : Int)))) ∧ Hid ((A0 ++ (l.take j).filter (isOf key (c : Int))).length = n) ∧ Hid (Below w.heap.size w wu)) (fun _ k _ => l.length - (intOf k).toNat)
      case atStart => exact ⟨0, p, d, n, by omega, rfl, rfl, by simpa using hown, by simpa using hn, HBW⟩
      case round =>
        obtain ⟨j, p1, d1, n1, hj, rfl, rfl, hown1, hn1, hbw1⟩ := hrel
        obtain ⟨q, cq, c1, hr, -⟩ := (HV.out.below hbw1.out).cell
        have HR := Lib.hid hr
        clear hr hown hn HBW
        by_cases hlj : j < l.length
        · have hlj' : (j : Int) < (l.length : Int) := by omega
          obtain ⟨b, o, rfl, hat⟩ := lies_at HR.out hlj
          obtain ⟨k0, k1, k2, k3, k4⟩ := at5 hat
          have hn2 : n1 ≤ 5000 := by
            have := hn1.out
            have h5 : ((l.take j).filter (isOf key (c : Int))).length ≤ l.length := Nat.le_trans (List.length_filter_le _ _) (by simp; omega)
            rw [List.length_append] at this
            have := HN.out
            omega
          have HY := Lib.hid (filter_yes (f := isOf key (c : Int)) hlj)
          have HO := Lib.hid (filter_no (f := isOf key (c : Int)) hlj)
          have HA := Lib.hid hat
          generalize l.getD j z = x at *
          generalize hF : (l.take j).filter (isOf key (c : Int)) = F at *
          clear hF hat
          have hdec : isOf key (c : Int) x = (x.key == key && x.cls == (c : Int)) := rfl
          obtain ⟨xi, xk, xc, xs, xt⟩ := x
          simp only at k0 k1 k2 k3 k4 hdec
          by_cases hk : xk = key
          · by_cases hs : xs = (c : Int)
            · have HE := Lib.hid (HY.out (by rw [hdec]; simp [hk, hs]))
              subst hk hs
              clear hdec HY HO HR
              go_wp2_with (at_builtin; refine Kit.push laidR rfl _ _ rfl w wr (.slice p1 n1 d1) rfl (A0 ++ F) n1 hn1.out hown1.out hbw1.out ((Below.refl _ _).alloc (Nat.le_refl _) _) wr.heap.size ⟨xi, xk, xc, c, xt⟩ rfl (heap_alloc_new _ _) (by omega) ?_; intro p4 c4 w4 R4 B4)
              go_roundw
              case rel => exact ⟨j + 1, p4, c4, n1 + 1, by omega, by go_num, rfl, by rw [HE.out, ← List.append_assoc]; exact R4, Lib.hid (by rw [HE.out, ← List.append_assoc, List.length_append, hn1.out]; rfl), Lib.hid B4⟩
              case measure => simp only [intOf]; omega
            · have HE := Lib.hid (HO.out (by rw [hdec]; simp [hs]))
              subst hk
              clear hdec HY HO HR
              go_wp2
              go_roundw
              case rel => exact ⟨j + 1, p1, d1, n1, by omega, by go_num, rfl, by rw [HE.out]; exact hown1, by rw [HE.out]; exact hn1, hbw1⟩
              case measure => simp only [intOf]; omega
          · have HE := Lib.hid (HO.out (by rw [hdec]; simp [hk]))
            clear hdec HY HO HR
            go_wp2
            go_roundw
            case rel => exact ⟨j + 1, p1, d1, n1, by omega, by go_num, rfl, by rw [HE.out]; exact hown1, by rw [HE.out]; exact hn1, hbw1⟩
            case measure => simp only [intOf]; omega
        · have hlj' : ¬ (j : Int) < (l.length : Int) := by omega
          rw [List.take_of_length_le (by omega)] at hown1 hn1
          rw [show A0 ++ l.filter (isOf key (c : Int)) = A0 ++ ofc l key (c : Int) from rfl, ← HC.out] at hown1 hn1
          clear HR
          go_wp2
          go_roundw
          case rel => exact ⟨c + 1, p1, d1, n1, by omega, by go_num, rfl, hown1, hn1, hbw1.out⟩
          case measure => simp only [intOf]; omega
    · have hlt' : ¬ (c : Int) < 3 := by omega
      obtain rfl : c = 3 := by omega
      rw [HD.out] at hown hn
      have hw := hown.out
      have hnn := hn.out
      subst hnn
      obtain ⟨q', d', hq, hlies⟩ := hw.lies
      simp only [Value.slice.injEq] at hq
      obtain ⟨rfl, -, rfl⟩ := hq
      have HQ := Lib.hid hw
      have HBW := Lib.hid hbw
      clear hlies hw hown hn hbw
      go_wp2
      refine bodyPost_ret (v := .slice p R.length d) (by simp [results, Tryz.results77, go_sem]) rfl ⟨p, d, rfl, HQ.out, HBW.out⟩
theorem rof_any {B v : Nat} {room : Int} {l : List It} {w : World} (h : Qu B w v ov room l) (hl : l.length ≤ 1000) (key : Int) :
    Calls Tryz.prog 77 #[.pointer (some ⟨v, ov, none⟩), .int .i64 key] w fun e w' => ∃ p c, e = .returned (.slice p (of l key).length c) ∧ Lies item w' p (of l key) ∧ Below w.heap.size w w' := by
  refine (rof_own h hl key).mono ?_
  rintro e w' ⟨p, c, rfl, ho, hb⟩
  obtain ⟨p', c', e', hl'⟩ := Own.lies ho
  simp only [Value.slice.injEq] at e'
  obtain ⟨rfl, -, rfl⟩ := e'
  exact ⟨p, c, rfl, hl', hb⟩
end Go.Proofs.YtlbpeeelgpjciaaGreat.Queue2

namespace Go.Proofs.YtlbpeeelgpjciaaGreat.Kit
open Go.RowKit
open _root_.Go.Proofs.YtlbpeeelgpjciaaGreat.Codec (own_below own_lower own_stays lt_of_heap frozen_of heap_set grown_set below_new)

structure Two {α : Type} (E : Enc α) (T : TypeId) (B : Nat) (w : World) (v1 v2 : Value) (l1 l2 : List α) : Prop where
  o1 : Own E T B w v1 l1
  o2 : Own E T B w v2 l2
  ap : ∀ b, v1.ownBlock = some b → v2.ownBlock ≠ some b
section
variable {α : Type} {E : Enc α} {T : TypeId} {B : Nat} {w w' : World} {v1 v2 : Value} {l1 l2 : List α}
theorem Two.swap (h : Two E T B w v1 v2 l1 l2) : Two E T B w v2 v1 l2 l1 := ⟨h.o2, h.o1, fun b e e2 => h.ap b e2 e⟩
theorem Two.on (h : Two E T B w v1 v2 l1 l2) (hb : Below w.heap.size w w') : Two E T B w' v1 v2 l1 l2 := ⟨h.o1.on hb, h.o2.on hb, h.ap⟩
theorem Two.none (E : Enc α) (T : TypeId) (B : Nat) (w : World) : Two E T B w (.slice Option.none 0 0) (.slice Option.none 0 0) [] [] := ⟨Own.none _ _ _ _, Own.none _ _ _ _, fun b e => by simp [Value.ownBlock] at e⟩
theorem own_keep {v : Value} {l : List α} (h : Own E T B w v l) (hk : ∀ b, v.ownBlock = some b → w'.heap[b]? = w.heap[b]?) : Own E T B w' v l := by
  refine ⟨h.1, ?_⟩
  rcases h.2 with h0 | ⟨g, cap, cur, rfl, h1, h2, h3⟩
  · exact .inl h0
  · exact .inr ⟨g, cap, cur, rfl, h1, (hk g rfl).trans h2, h3⟩
theorem own_lt {v : Value} {l : List α} (h : Own E T B w v l) {b : Nat} (hb : v.ownBlock = some b) : b < w.heap.size := by
  rcases h.2 with ⟨rfl, -⟩ | ⟨g, cap, cur, rfl, h1, h2, -⟩
  · simp [Value.ownBlock] at hb
  · simp only [Value.ownBlock, Option.some.injEq] at hb
    subst hb
    exact lt_of_heap h2
/-- One element, just laid, is appended to the first one. -/
theorem push2 {P : Program} {ST : TypeId} (L : Laid P E T ST) {u : World} {ops : Array Oper} {rest : List Oper} {o : Oper} {a : Act} {Q : Exit → Act → World → Prop} (hgd : o.guard = Option.none) (s y : Operand)
    (ho : o.op = .call { callee := .builtin .append, args := #[s, y], argTypes := #[ST, ST] })
    (w0 wr : World) (v v2 : Value) (hs : a.eval s = v) (l l2 : List α) (n : Nat) (hn : l.length = n) (hown : Two E T w0.heap.size wr v v2 l l2) (hbw : Below w0.heap.size w0 wr) (hu : Below wr.heap.size wr u)
    (g : Nat) (x : α) {tg : TypeId} {fr : Nat × Nat} (hy : a.eval y = .slice (some ⟨g, 0, Option.none⟩) 1 1) (hg : u.heap[g]? = some (.cells (E.cs x).toArray tg fr)) (hlen : n ≤ 100000)
    (h : ∀ p c w', Hid (Two E T w0.heap.size w' (.slice p (n + 1) c) v2 (l ++ [x]) l2) → Below w0.heap.size w0 w' → wpList P ops Q rest (a.put o.dst (.slice p (n + 1) c)) w') : wpList P ops Q (o :: rest) a u := by
  subst hn
  obtain ⟨zv, byt, hi0, hzc, hby⟩ := L.info
  obtain ⟨i0, hi, hz0, hz1, hz2⟩ := info_parts hi0
  have hmul : (l.length + 1) * byt ≤ 100001 * 1000 := Nat.mul_le_mul (by omega) hby
  have H2 := hown.on hu
  refine wpList_append_own_at _ hgd s y ST ho w0.heap.size T i0 zv E.n byt L.sl hi hz0 hz1 hz2 hzc E.pos v l.length (cells E l) hs H2.o1 ⟨g, 0, Option.none⟩ 1 1 (E.cs x) hy (by rw [E.len, Nat.one_mul]) (fun j z hz => World.news_of_block hg j z (by simpa using hz)) (E.one x) (by unfold maxLen; omega) (by omega) (Nat.le_trans hbw.size hu.size) ?_
  intro v' w' ho2 hg2 _ hat
  have hb2 := (hbw.trans (hu.mono hbw.size)).grown hg2 (Nat.le_trans hbw.size hu.size) (fun k hk => (World.ownsRow.lt H2.o1 k hk).1)
  have R : Own E T w0.heap.size w' v' (l ++ [x]) := by
    unfold Own
    rw [cells_snoc, List.length_append]
    exact ho2
  obtain ⟨p, c, rfl⟩ : ∃ p c, v' = .slice p (l.length + 1) c := by
    rcases ho2.2 with ⟨_, h0⟩ | ⟨g, cap, cur, rfl, _⟩
    · omega
    · exact ⟨_, cap, rfl⟩
  refine h p c w' ⟨R, own_keep H2.o2 (fun b e => hg2.block b (own_lt H2.o2 e) (fun e2 => H2.ap b e2.symm e)), fun b e e2 => ?_⟩ hb2
  rcases hat with hat | hat
  · exact H2.ap b (by rw [← hat]; exact e) e2
  · have h1 := own_lt H2.o2 e2
    rw [hat] at e
    simp only [Option.some.injEq] at e
    omega
end
theorem frozen5 {w : World} {b : Nat} {cs : Array Value} {T : TypeId} (h : w.heap[b]? = some (.cells cs T (0, 0))) : w.frozen? ⟨b, 0, none⟩ = false ∧ w.frozen? ⟨b, 1, none⟩ = false ∧ w.frozen? ⟨b, 2, none⟩ = false ∧ w.frozen? ⟨b, 3, none⟩ = false ∧ w.frozen? ⟨b, 4, none⟩ = false :=
  ⟨frozen_of h, frozen_of h, frozen_of h, frozen_of h, frozen_of h⟩
end Go.Proofs.YtlbpeeelgpjciaaGreat.Kit

namespace Go.Proofs.YtlbpeeelgpjciaaGreat.Queue2
open _root_.Go.Proofs.YtlbpeeelgpjciaaGreat.Queue
variable {ov : Nat}
open Go.RowKit
open _root_.Go.Proofs.YtlbpeeelgpjciaaGreat.Codec (lt_of_heap frozen_of heap_set below_new)
open _root_.Go.Proofs.YtlbpeeelgpjciaaGreat.Kit (Enc Lies Own At Kept Laid cell_on lt_heap take_snoc below_drewN box5)

/-- What is kept of the first j. -/
theorem erase_at {l : List It} {i j : Nat} (h : j < l.length) (e : j = i) : (l.take (j + 1)).eraseIdx i = (l.take j).eraseIdx i := by
  subst e
  have hl : (l.take j).length = j := by simp; omega
  rw [take_snoc z h, List.eraseIdx_append_of_length_le (by omega), hl, Nat.sub_self, List.eraseIdx_of_length_le (l := l.take j) (by omega)]
  simp
theorem erase_not {l : List It} {i j : Nat} (h : j < l.length) (e : j ≠ i) : (l.take (j + 1)).eraseIdx i = (l.take j).eraseIdx i ++ [l.getD j z] := by
  have hl : (l.take j).length = j := by simp; omega
  rw [take_snoc z h]
  by_cases hij : i < j
  · rw [List.eraseIdx_append_of_lt_length (by omega)]
  · rw [List.eraseIdx_append_of_length_le (by omega), hl, List.eraseIdx_of_length_le (l := l.take j) (by omega), List.eraseIdx_of_length_le (by simp; omega)]
set_option maxRecDepth 100000 in
set_option maxHeartbeats 4000000 in
theorem rtake_no {B v : Nat} {room : Int} {l : List It} {w : World} (h : Qu B w v ov room l) (hB : B ≤ w.heap.size) (hl : l.length ≤ 1000) (id : Int) (hp : place l id < 0) :
    Calls Tryz.prog 78 #[.pointer (some ⟨v, ov, none⟩), .int .i64 id] w fun e w' => e = .returned (.tuple #[val z, .bool false]) ∧ Step B w v ov room l w' := by
  have HS := Lib.hid (fun u (hu : Below w.heap.size w u) => Step.same h hB hu)
  have HB := Lib.hid ((Below.refl w.heap.size w).alloc (Nat.le_refl _) (.cells #[.int .i64 0, .int .i64 0, .int .i64 0, .int .i64 0, .int .i64 0] 95))
  have HK := Lib.hid (heap_alloc_new w (.cells #[.int .i64 0, .int .i64 0, .int .i64 0, .int .i64 0, .int .i64 0] 95))
  have HA := rat_any (h.below HB.out) hl id
  generalize place l id = P at *
  clear h
  go_enter Tryz.func78, Tryz.ntmps78
  go_wp2_with (go_at_call 126; (with_reducible refine HA.mono ?_); rintro e w1 ⟨rfl, hb⟩; have HB1 := Lib.hid (HB.out.trans (hb.mono HB.out.size)); have hk1 := (hb.block _ (lt_of_heap HK.out)).trans HK.out; obtain ⟨b0, b1, b2, b3, b4⟩ := box5 hk1; obtain ⟨f0, f1, f2, f3, f4⟩ := Kit.frozen5 hk1; have HK1 := Lib.hid hk1; clear hb HA hk1)
  rw [show ((((w1.setCell ⟨w.heap.size, 0, none⟩ (.int .i64 0)).setCell ⟨w.heap.size, 1, none⟩ (.int .i64 0)).setCell ⟨w.heap.size, 2, none⟩ (.int .i64 0)).setCell ⟨w.heap.size, 3, none⟩ (.int .i64 0)).setCell ⟨w.heap.size, 4, none⟩ (.int .i64 0) = set5 w1 w.heap.size z from rfl]
  obtain ⟨e0, e1, e2, e3, e4⟩ := box5 (set5_block HK1.out z)
  have HB2 := Lib.hid (set5_below HB1.out (Nat.le_refl _) z)
  generalize set5 w1 w.heap.size z = w2 at *
  simp only [z] at e0 e1 e2 e3 e4
  refine bodyPost_ret (v := .tuple #[val z, .bool false]) (by simp [results, Tryz.results78, go_sem, val, z, e0, e1, e2, e3, e4]) rfl ⟨rfl, HS.out _ HB2.out⟩
set_option maxRecDepth 100000 in
set_option maxHeartbeats 4000000 in
theorem rtake_ok {B v : Nat} {room : Int} {l : List It} {w : World} (h : Qu B w v ov room l) (hB : B ≤ w.heap.size) (hl : l.length ≤ 1000) (id : Int) (i : Nat) (hp : place l id = (i : Int)) (hi : i < l.length) :
    Calls Tryz.prog 78 #[.pointer (some ⟨v, ov, none⟩), .int .i64 id] w fun e w' => e = .returned (.tuple #[val (l.getD i z), .bool true]) ∧ Step B w v ov room (l.eraseIdx i) w' := by
  have HV := Lib.hid h
  have HBB := Lib.hid hB
  have HB := Lib.hid ((Below.refl w.heap.size w).alloc (Nat.le_refl _) (.cells #[.int .i64 0, .int .i64 0, .int .i64 0, .int .i64 0, .int .i64 0] 95))
  have HK := Lib.hid (heap_alloc_new w (.cells #[.int .i64 0, .int .i64 0, .int .i64 0, .int .i64 0, .int .i64 0] 95))
  have HA := rat_any (h.below HB.out) hl id
  rw [hp] at HA
  have hi' : (i : Int) < (l.length : Int) := by omega
  have hvw := h.lt
  have HAT := Lib.hid (fun (u : World) (p : Option Addr) (hr : Lies item u p l) => lies_at hr hi)
  generalize l.getD i z = X at HAT ⊢
  obtain ⟨Xi, Xk, Xc, Xs, Xt⟩ := X
  clear h hp hB
  go_enter Tryz.func78, Tryz.ntmps78
  go_wp2_with (go_at_call 126; (with_reducible refine HA.mono ?_); rintro e w1 ⟨rfl, hb⟩; have HB1 := Lib.hid (HB.out.trans (hb.mono HB.out.size)); have HK1 := Lib.hid ((hb.block _ (lt_of_heap HK.out)).trans HK.out); obtain ⟨p, c, c1, hr, -, -⟩ := (HV.out.below HB1.out).cell; have HR := Lib.hid hr; obtain ⟨b, o, rfl, hat⟩ := HAT.out _ _ hr; obtain ⟨k0, k1, k2, k3, k4⟩ := at5 hat; clear hb HA hr hat)
  have HK2 := Lib.hid (heap_alloc_new w1 (.cells #[.int .i64 Xi, .int .i64 Xk, .int .i64 Xc, .int .i64 Xs, .int .i64 Xt] 95))
  have hb2 := (Below.refl w1.heap.size w1).alloc (Nat.le_refl _) (.cells #[.int .i64 Xi, .int .i64 Xk, .int .i64 Xc, .int .i64 Xs, .int .i64 Xt] 95)
  have hw1 := lt_of_heap HK1.out
  have hw2 := lt_of_heap HK2.out
  have HKR := Lib.hid ((hb2.block _ hw1).trans HK1.out)
  have HB2 := Lib.hid (HB1.out.trans (hb2.mono HB1.out.size))
  generalize w1.alloc (.cells #[.int .i64 Xi, .int .i64 Xk, .int .i64 Xc, .int .i64 Xs, .int .i64 Xt] 95) = w2 at *
  have ne1 : ¬ (v = w1.heap.size) := by omega
  have ne2 : ¬ (w1.heap.size = v) := by omega
  have ne3 : ¬ (v = w.heap.size) := by omega
  have ne4 : ¬ (w.heap.size = v) := by omega
  have ne5 : ¬ (w.heap.size = w1.heap.size) := by omega
  have ne6 : ¬ (w1.heap.size = w.heap.size) := by omega
  clear k0 k1 k2 k3 k4 c1 HR hb2 HK HB
  go_loopw [8, 9] (fun y k wr => ∃ (j : Nat) (p : Option Addr) (c n : Nat), j ≤ l.length ∧ k = .int .i64 (j : Int) ∧ y = .slice p n c ∧ Hid (Own item 95 w2.heap.size wr y ((l.take j).eraseIdx i)) ∧ Hid (((l.take j).eraseIdx i).length = n) ∧ Below w2.heap.size w2 wr) (fun _ k _ => l.length - (intOf k).toNat)
  case atStart => exact ⟨0, none, 0, 0, by omega, rfl, rfl, Own.none _ _ _ _, Lib.hid (by simp), Below.refl _ _⟩
  case round =>
    obtain ⟨j, p, c, n, hj, rfl, rfl, hown, hn, hbw⟩ := hrel
    obtain ⟨q, cq, c1, hr, -, -⟩ := ((HV.out.below HB2.out).below hbw).cell
    have HR := Lib.hid hr
    have HBW := Lib.hid hbw
    clear hr hbw
    by_cases hlt : j < l.length
    · obtain ⟨b', o', rfl, hat⟩ := lies_at HR.out hlt
      obtain ⟨k0, k1, k2, k3, k4⟩ := at5 hat
      have hlt' : (j : Int) < (l.length : Int) := by omega
      clear hat
      by_cases hk : j = i
      · have HE := Lib.hid (erase_at hlt hk)
        have hk' : ((j : Int) != (i : Int)) = false := by simp [hk]
        clear k0 k1 k2 k3 k4 HR hk
        go_wp2
        go_roundw
        case rel => exact ⟨j + 1, p, c, n, by omega, by go_num, rfl, by rw [HE.out]; exact hown, by rw [HE.out]; exact hn, HBW.out⟩
        case measure => simp only [intOf]; omega
      · have HE := Lib.hid (erase_not hlt hk)
        have hk' : ((j : Int) != (i : Int)) = true := by simp; omega
        have hn1 : ((l.take j).eraseIdx i).length ≤ 1000 := Nat.le_trans (List.eraseIdx_sublist _ _).length_le (by simp; omega)
        have hn2 : n ≤ 1000 := hn.out ▸ hn1
        clear hn1
        generalize l.getD j z = x at k0 k1 k2 k3 k4 HE
        generalize (l.take j).eraseIdx i = L at *
        obtain ⟨xi, xk, xc, xs, xt⟩ := x
        simp only at k0 k1 k2 k3 k4
        clear HR hk
        go_wp2_with (at_builtin; refine Kit.push laidR rfl _ _ rfl w2 wr (.slice p n c) rfl L n hn.out hown.out HBW.out ((Below.refl _ _).alloc (Nat.le_refl _) _) wr.heap.size ⟨xi, xk, xc, xs, xt⟩ rfl (heap_alloc_new _ _) (by omega) ?_; intro p4 c4 w4 R4 B4)
        go_roundw
        case rel => exact ⟨j + 1, p4, c4, n + 1, by omega, by go_num, rfl, by rw [HE.out]; exact R4, Lib.hid (by rw [HE.out]; simp [hn.out]), B4⟩
        case measure => simp only [intOf]; omega
    · have hlt' : ¬ (j : Int) < (l.length : Int) := by omega
      have HO := Lib.hid (show Own item 95 w2.heap.size wr (.slice p n c) (l.eraseIdx i) by have := hown.out; rwa [List.take_of_length_le (by omega)] at this)
      obtain ⟨f0, -, -⟩ := (HV.out.below HB2.out).store (Nat.le_trans HBB.out HB2.out.size) HBW.out HO.out
      have hkx := (HBW.out.block _ hw2).trans HK2.out
      obtain ⟨x0, x1, x2, x3, x4⟩ := box5 hkx
      have hkr := (HBW.out.block _ (Nat.lt_trans hw1 hw2)).trans HKR.out
      have HR2 := Lib.hid ((Below.heap_setCell wr ⟨v, ov + 1, none⟩ (.slice p n c) _ ne4).trans hkr)
      obtain ⟨b0, b1, b2, b3, b4⟩ := box5 hkr
      obtain ⟨g0, g1, g2, g3, g4⟩ := Kit.frozen5 hkr
      have DD := Lib.hid (HV.out.store5 HBB.out (HB2.out.trans (HBW.out.mono HB2.out.size)) (Nat.le_refl w.heap.size) (Nat.lt_trans hw1 hw2) HO.out ⟨Xi, Xk, Xc, Xs, Xt⟩)
      clear HR hown hn HO hkx hkr
      go_wp2
      rw [show (((((wr.setCell ⟨v, ov + 1, none⟩ (.slice p n c)).setCell ⟨w.heap.size, 0, none⟩ (.int .i64 Xi)).setCell ⟨w.heap.size, 1, none⟩ (.int .i64 Xk)).setCell ⟨w.heap.size, 2, none⟩ (.int .i64 Xc)).setCell ⟨w.heap.size, 3, none⟩ (.int .i64 Xs)).setCell ⟨w.heap.size, 4, none⟩ (.int .i64 Xt) = set5 (wr.setCell ⟨v, ov + 1, none⟩ (.slice p n c)) w.heap.size ⟨Xi, Xk, Xc, Xs, Xt⟩ from rfl]
      obtain ⟨e0, e1, e2, e3, e4⟩ := box5 (set5_block HR2.out ⟨Xi, Xk, Xc, Xs, Xt⟩)
      generalize set5 (wr.setCell ⟨v, ov + 1, none⟩ (.slice p n c)) w.heap.size ⟨Xi, Xk, Xc, Xs, Xt⟩ = w5 at *
      refine bodyPost_ret (v := .tuple #[val ⟨Xi, Xk, Xc, Xs, Xt⟩, .bool true]) (by simp [results, Tryz.results78, go_sem, val, e0, e1, e2, e3, e4]) rfl ⟨rfl, DD.out⟩
theorem rtake_any {B v : Nat} {room : Int} {l : List It} {w : World} (h : Qu B w v ov room l) (hB : B ≤ w.heap.size) (hl : l.length ≤ 1000) (id : Int) :
    Calls Tryz.prog 78 #[.pointer (some ⟨v, ov, none⟩), .int .i64 id] w fun e w' => e = .returned (.tuple #[val (take l id).2.1, .bool (take l id).2.2]) ∧ Step B w v ov room (take l id).1 w' := by
  unfold take
  split
  · rename_i hp
    exact rtake_no h hB hl id hp
  · rename_i hp
    obtain ⟨h1, h2, h3⟩ := place_some (l := l) (k := id) (by omega)
    exact rtake_ok h hB hl id (place l id).toNat (by omega) h1
end Go.Proofs.YtlbpeeelgpjciaaGreat.Queue2

namespace Go.Proofs.YtlbpeeelgpjciaaGreat.Lease2
open _root_.Go.Proofs.YtlbpeeelgpjciaaGreat.Lease
variable {ov : Nat}
open Go.RowKit
open _root_.Go.Proofs.YtlbpeeelgpjciaaGreat.Codec (lt_of_heap frozen_of heap_set below_new)
open _root_.Go.Proofs.YtlbpeeelgpjciaaGreat.Ledger (spot spot_at spot_none)

set_option maxRecDepth 100000 in
theorem rat_any {B v : Nat} {l : List Lz} {w : World} (h : Wl B w v ov l) (hl : l.length ≤ 1000) (key : Int) :
    Calls Tryz.prog 124 #[.pointer (some ⟨v, ov, none⟩), .int .i64 key] w fun e w' => e = .returned (.int .i64 (place l key)) ∧ Below w.heap.size w w' := by
  obtain ⟨p, c, c1, hr⟩ := h.cell
  have HPL := Lib.hid (show place l key = spot (fun x => x.key == key) l from rfl)
  generalize place l key = R at HPL ⊢
  have HR := Lib.hid hr
  have HB := Lib.hid (Below.refl w.heap.size w)
  clear hr h
  go_enter Tryz.func124, Tryz.ntmps124
  go_wp2
  go_loop [5] (fun i => ∃ j : Nat, j ≤ l.length ∧ i = .int .i64 (j : Int) ∧ Hid (∀ i, i < j → (l.getD i z).key ≠ key)) (fun i => l.length - (intOf i).toNat)
  case atStart => exact ⟨0, by omega, rfl, fun i hi => by omega⟩
  case round =>
    obtain ⟨j, hj, rfl, hne⟩ := hrel
    by_cases hlt : j < l.length
    · obtain ⟨b, o, rfl, k0, -⟩ := lies_at HR.out hlt
      have hlt' : (j : Int) < (l.length : Int) := by omega
      by_cases hk : (l.getD j z).key = key
      · have HE := Lib.hid (show R = (j : Int) by rw [HPL.out]; exact spot_at _ z l j hlt (fun i hi => by simpa using hne.out i hi) (by simpa using hk))
        rw [hk] at k0
        clear hne HPL HR hk
        go_wp2
        go_ret
        exact ⟨by rw [HE.out]; rfl, HB.out⟩
      · have HN : Hid (∀ i, i < j + 1 → (l.getD i z).key ≠ key) := fun i hi => by
          by_cases e : i < j
          · exact hne.out i e
          · rw [show i = j by omega]; exact hk
        generalize (l.getD j z).key = y at k0 hk
        clear hne HPL HR
        go_wp2
        go_round
        case rel => exact ⟨j + 1, by omega, by go_num, HN⟩
        case measure => simp only [intOf]; omega
    · have HE := Lib.hid (show R = -1 by rw [HPL.out]; exact spot_none _ z l (fun i hi => by simpa using hne.out i (by omega)))
      have hlt' : ¬ (j : Int) < (l.length : Int) := by omega
      clear hne HPL HR
      go_wp2
      go_ret
      exact ⟨by rw [HE.out]; rfl, HB.out⟩
end Go.Proofs.YtlbpeeelgpjciaaGreat.Lease2

namespace Go.Proofs.YtlbpeeelgpjciaaGreat.Lease2
open _root_.Go.Proofs.YtlbpeeelgpjciaaGreat.Lease
variable {ov : Nat}
open Go.RowKit
open _root_.Go.Proofs.YtlbpeeelgpjciaaGreat.Codec (lt_of_heap frozen_of heap_set below_new)

theorem take_snoc {l : List Lz} {j : Nat} (h : j < l.length) : l.take (j + 1) = l.take j ++ [l.getD j z] := by
  rw [List.take_add_one]
  simp [List.getD, h]
/-- What is kept of the first j. -/
theorem erase_at {l : List Lz} {i j : Nat} (h : j < l.length) (e : j = i) : (l.take (j + 1)).eraseIdx i = (l.take j).eraseIdx i := by
  subst e
  have hl : (l.take j).length = j := by simp; omega
  rw [take_snoc h, List.eraseIdx_append_of_length_le (by omega), hl, Nat.sub_self, List.eraseIdx_of_length_le (l := l.take j) (by omega)]
  simp
theorem erase_not {l : List Lz} {i j : Nat} (h : j < l.length) (e : j ≠ i) : (l.take (j + 1)).eraseIdx i = (l.take j).eraseIdx i ++ [l.getD j z] := by
  have hl : (l.take j).length = j := by simp; omega
  rw [take_snoc h]
  by_cases hij : i < j
  · rw [List.eraseIdx_append_of_lt_length (by omega)]
  · rw [List.eraseIdx_append_of_length_le (by omega), hl, List.eraseIdx_of_length_le (l := l.take j) (by omega), List.eraseIdx_of_length_le (by simp; omega)]

set_option maxRecDepth 100000 in
set_option maxHeartbeats 4000000 in
theorem rgone_any {B v : Nat} {l : List Lz} {w : World} (h : Wl B w v ov l) (hB : B ≤ w.heap.size) (hl : l.length ≤ 1000) (i : Nat) :
    Calls Tryz.prog 74 #[.pointer (some ⟨v, ov, none⟩), .int .i64 (i : Int)] w fun e w' => e = .returned (.tuple #[]) ∧ Step B w v ov (l.eraseIdx i) w' := by
  have HV := Lib.hid h
  have HBB := Lib.hid hB
  clear h hB
  go_enter Tryz.func74, Tryz.ntmps74
  go_wp2
  go_loopw [4, 5] (fun y k wr => ∃ (j : Nat) (p : Option Addr) (c n : Nat), j ≤ l.length ∧ k = .int .i64 (j : Int) ∧ y = .slice p n c ∧ Hid (Own 93 w.heap.size wr y ((l.take j).eraseIdx i)) ∧ Hid (((l.take j).eraseIdx i).length = n) ∧ Below w.heap.size w wr) (fun _ k _ => l.length - (intOf k).toNat)
  case atStart => exact ⟨0, none, 0, 0, by omega, rfl, rfl, Own.none _ _ _, Lib.hid (by simp), Below.refl _ _⟩
  case round =>
    obtain ⟨j, p, c, n, hj, rfl, rfl, hown, hn, hbw⟩ := hrel
    obtain ⟨q, cq, c1, hr⟩ := (HV.out.below hbw).cell
    have HR := Lib.hid hr
    have HBW := Lib.hid hbw
    clear hr hbw
    by_cases hlt : j < l.length
    · obtain ⟨b, o, rfl, k0, k1, k2, k3, k4⟩ := lies_at HR.out hlt
      have hlt' : (j : Int) < (l.length : Int) := by omega
      by_cases hk : j = i
      · have HE := Lib.hid (erase_at hlt hk)
        have hk' : ((j : Int) != (i : Int)) = false := by simp [hk]
        clear k0 k1 k2 k3 k4 HR hk
        go_wp2
        go_roundw
        case rel => exact ⟨j + 1, p, c, n, by omega, by go_num, rfl, by rw [HE.out]; exact hown, by rw [HE.out]; exact hn, HBW.out⟩
        case measure => simp [intOf]; omega
      · have HE := Lib.hid (erase_not hlt hk)
        have hk' : ((j : Int) != (i : Int)) = true := by simp; omega
        have hn1 : ((l.take j).eraseIdx i).length ≤ 1000 := Nat.le_trans (List.eraseIdx_sublist _ _).length_le (by simp; omega)
        have hn2 : n ≤ 1000 := hn.out ▸ hn1
        clear hn1
        generalize hx : l.getD j z = x at k0 k1 k2 k3 k4 HE
        generalize (l.take j).eraseIdx i = L at *
        obtain ⟨xk, xg, xa, xs, xt⟩ := x
        simp only at k0 k1 k2 k3 k4
        clear HR hk hx
        go_wp2_with (at_builtin; refine push_lease rfl (.tmp 18) (.tmp 26) rfl w wr (.slice p n c) rfl L n hn.out hown.out HBW.out (Below.refl _ _) wr.heap.size ⟨xk, xg, xa, xs, xt⟩ rfl (heap_alloc_new _ _) (by omega) ?_; intro p4 c4 w4 R4 B4)
        go_roundw
        case rel => exact ⟨j + 1, p4, c4, n + 1, by omega, by go_num, rfl, by rw [HE.out]; exact R4, Lib.hid (by rw [HE.out]; simp [hn.out]), B4⟩
        case measure => simp [intOf]; omega
    · have hlt' : ¬ (j : Int) < (l.length : Int) := by omega
      have HO := Lib.hid (show Own 93 w.heap.size wr (.slice p n c) (l.eraseIdx i) by have := hown.out; rwa [List.take_of_length_le (by omega)] at this)
      obtain ⟨f0, ⟨u0, d0⟩, D⟩ := HV.out.store HBB.out HBW.out HO.out
      clear HR hown hn HO HV
      go_wp2
      go_end0
      exact ⟨rfl, D.out⟩
end Go.Proofs.YtlbpeeelgpjciaaGreat.Lease2
