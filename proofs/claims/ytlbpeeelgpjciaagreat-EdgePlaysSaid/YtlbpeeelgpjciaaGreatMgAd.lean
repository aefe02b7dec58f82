/-
  From a walk that leaves alone what lay when the call began to what a row asks of the world behind the call; any function, any program.
  What the calls of package conf on configurations stand on: a configuration as a value, its rates in memory, its box. Any configuration, any world.
  An edge as data (its leases, items, notes), requests and answers, and what each of its calls makes and tells. Plain functions, no program.
  Words for memory: leases, the document's wallet, what lies of it, and what a step of it leaves alone. No conditions beyond those that each names.
  The document's wallet as one cell of a bigger block (at ov): what lies of it, and what a step of it leaves alone. No conditions beyond those that each names.
-/
import Derived.WalkKit
import Derived.ProofKit
import Derived.OpenShut
import Derived.Below
import Derived.Deep.QuietTactic
import Derived.BigQuiet
import Derived.Laws.AppendOwnNone
import Derived.Outline
import Derived.Test.YtlbpeeelgpjciaaGreatChecked
import Derived.Test.YtlbpeeelgpjciaaGreatMgAc
import Derived.Test.YtlbpeeelgpjciaaGreatMgAa
import Derived.Test.YtlbpeeelgpjciaaGreatMgAb
namespace Go.Proofs.YtlbpeeelgpjciaaGreat.Ring
open Go.RowKit

theorem post_of_below {H : Type} {enc : TypeId × Value → H} {P : Program} {f : Func} {s : ChangeSpec} {apart fresh handsOn : Bool} {W W' : World} {args : Array Value} {v : Value} {ds gs : List (DataW H)} {before pa pv : List MemPlace}
    (hW : DataW.Whole enc P f.params.toList s.vars apart W args.toList ds gs before)
    (hres : ∀ (b : Nat) (sp : Nat → Bool) (hd : Bool), DataW.TrodAll enc P W' b sp hd f.resultTypes.toList (v.resultList f.resultTypes.size) (s.fn H (ds ++ gs)).results [])
    (hargs : ∀ sp : Nat → Bool, (∀ p ∈ before, sp p.block = true) → DataW.TrodAll enc P W' 0 sp true f.params.toList args.toList (s.fn H (ds ++ gs)).args pa)
    (hvars : ∀ sp : Nat → Bool, (∀ p ∈ before, sp p.block = true) → DataW.TrodVars enc P W' sp s.vars (s.fn H (ds ++ gs)).vars pv)
    (hb : Below W.heap.size W W') :
    s.post enc P f apart fresh handsOn false W args v W' := by
  have hold : ∀ p ∈ before, (fun b => decide (b < W.heap.size)) p.block = true := fun p hp => by simpa using hW.lt p hp
  exact ⟨ds, gs, before, [], pa, pv, hW, hres _ _ _, hargs _ hold, hvars _ hold, hb.frame _, fun h => by cases h⟩

theorem wf_lo {a : Int} (h : (Lit.int .u64 a).wf = true) : 0 ≤ a := by have := h; simp [Lit.wf, IntKind.min, IntKind.max, IntKind.signed, IntKind.bits] at this; omega
theorem wf_hi {a : Int} (h : (Lit.int .u64 a).wf = true) : a < 18446744073709551616 := by have := h; simp [Lit.wf, IntKind.min, IntKind.max, IntKind.signed, IntKind.bits] at this; omega
theorem wf_lo8 {a : Int} (h : (Lit.int .u8 a).wf = true) : 0 ≤ a := by have := h; simp [Lit.wf, IntKind.min, IntKind.max, IntKind.signed, IntKind.bits] at this; omega
theorem wf_hi8 {a : Int} (h : (Lit.int .u8 a).wf = true) : a < 256 := by have := h; simp [Lit.wf, IntKind.min, IntKind.max, IntKind.signed, IntKind.bits] at this; omega
theorem wf_loi {a : Int} (h : (Lit.int .i64 a).wf = true) : -9223372036854775808 ≤ a := by have := h; simp [Lit.wf, IntKind.min, IntKind.max, IntKind.signed, IntKind.bits] at this; omega
theorem wf_hii {a : Int} (h : (Lit.int .i64 a).wf = true) : a ≤ 9223372036854775807 := by have := h; simp [Lit.wf, IntKind.min, IntKind.max, IntKind.signed, IntKind.bits] at this; omega
end Go.Proofs.YtlbpeeelgpjciaaGreat.Ring

namespace Go.Proofs.YtlbpeeelgpjciaaGreat.Conf
open Go.RowKit Ring

/-- A cell of what lay stays. -/
theorem cell_stays {w w' : World} (h : Below w.heap.size w w') {a : Addr} {v : Value} (hc : w.cell? a = some v) : w'.cell? a = some v := by
  rw [h.cell (World.block_lt_of_cell? w a hc)]
  exact hc

/-- Rates in memory: two ints each. -/
def IsRates (w : World) (p : Option Addr) (zs : List (Int × Int)) : Prop :=
  zs = [] ∨ ∃ b o, p = some ⟨b, o, none⟩ ∧ ∀ i, i < zs.length →
    w.cell? ⟨b, o + i * 2, none⟩ = some (.int .i64 (zs.getD i (0, 0)).1) ∧ w.cell? ⟨b, o + i * 2 + 1, none⟩ = some (.int .i64 (zs.getD i (0, 0)).2)
theorem IsRates.stays {w w' : World} {p : Option Addr} {zs : List (Int × Int)} (h : IsRates w p zs) (hb : Below w.heap.size w w') : IsRates w' p zs := by
  rcases h with h | ⟨b, o, hp, h⟩
  · exact .inl h
  · exact .inr ⟨b, o, hp, fun i hi => ⟨cell_stays hb (h i hi).1, cell_stays hb (h i hi).2⟩⟩

/-- A box of nine cells at a block. -/
def Nine (W : World) (g : Nat) (v0 v1 v2 v3 v4 v5 v6 v7 v8 : Value) : Prop :=
  W.cell? ⟨g, 0, none⟩ = some v0 ∧ W.cell? ⟨g, 1, none⟩ = some v1 ∧ W.cell? ⟨g, 2, none⟩ = some v2 ∧ W.cell? ⟨g, 3, none⟩ = some v3 ∧ W.cell? ⟨g, 4, none⟩ = some v4 ∧
  W.cell? ⟨g, 5, none⟩ = some v5 ∧ W.cell? ⟨g, 6, none⟩ = some v6 ∧ W.cell? ⟨g, 7, none⟩ = some v7 ∧ W.cell? ⟨g, 8, none⟩ = some v8
theorem Nine.stays {W W' : World} {g : Nat} {v0 v1 v2 v3 v4 v5 v6 v7 v8 : Value} (h : Nine W g v0 v1 v2 v3 v4 v5 v6 v7 v8) (hb : Below W.heap.size W W') : Nine W' g v0 v1 v2 v3 v4 v5 v6 v7 v8 := by
  obtain ⟨h0, h1, h2, h3, h4, h5, h6, h7, h8⟩ := h
  exact ⟨cell_stays hb h0, cell_stays hb h1, cell_stays hb h2, cell_stays hb h3, cell_stays hb h4, cell_stays hb h5, cell_stays hb h6, cell_stays hb h7, cell_stays hb h8⟩
theorem nine_new (w : World) (v0 v1 v2 v3 v4 v5 v6 v7 v8 : Value) (t : TypeId) : Nine (w.alloc (.cells #[v0, v1, v2, v3, v4, v5, v6, v7, v8] t)) w.heap.size v0 v1 v2 v3 v4 v5 v6 v7 v8 := by
  refine ⟨?_, ?_, ?_, ?_, ?_, ?_, ?_, ?_, ?_⟩ <;> (rw [World.cell?_alloc_new]; rfl)
theorem below_new (w : World) (o : Obj) : Below w.heap.size w (w.alloc o) := (Below.refl _ w).alloc (Nat.le_refl _) o

def times (sk tl va lo he : Int) : Bool := within tl 1 2147483648 && within va 1 2147483648 && within lo 1 2147483648 && within he 1 2147483648 && within sk 0 2147483648
def rooms (ke qu : Int) : Bool := within ke 1 16 && within qu 0 16
def rate1 (r : Int × Int) : Bool := within r.1 0 2147483648 && within r.2 0 2147483648
def rates (zs : List (Int × Int)) : Bool := within zs.length 1 8 && zs.all rate1
def check (n sk tl va lo he ke qu : Int) (zs : List (Int × Int)) : Int :=
  if within n 1 64 = false then 21 else if times sk tl va lo he = false then 22 else if rooms ke qu = false then 23 else if rates zs = false then 24 else 0

set_option maxRecDepth 100000 in
set_option maxHeartbeats 1000000 in
theorem rooms_any (n sk tl va lo he ke qu : Int) (p : Option Addr) (l c : Nat) (w : World) :
    Calls Tryz.prog 63 #[.agg #[.int .i64 n, .int .i64 sk, .int .i64 tl, .int .i64 va, .int .i64 lo, .int .i64 he, .int .i64 ke, .int .i64 qu, .slice p l c]] w fun e w' => e = .returned (.bool (rooms ke qu)) ∧ Below w.heap.size w w' := by
  rcases Bool.eq_false_or_eq_true (within ke 1 16) with h | h
  all_goals
    go_enter Tryz.func63, Tryz.ntmps63
    go_wp2_with (go_at_call 123; refine (within_any _ _ _ _).mono ?_; rintro e w' ⟨rfl, rfl⟩)
    go_ret
    exact ⟨ret_bool (by unfold rooms; rw [h]; rfl), below_new _ _⟩

set_option maxRecDepth 100000 in
set_option maxHeartbeats 1000000 in
theorem times_any (n sk tl va lo he ke qu : Int) (p : Option Addr) (l c : Nat) (w : World) :
    Calls Tryz.prog 62 #[.agg #[.int .i64 n, .int .i64 sk, .int .i64 tl, .int .i64 va, .int .i64 lo, .int .i64 he, .int .i64 ke, .int .i64 qu, .slice p l c]] w fun e w' => e = .returned (.bool (times sk tl va lo he)) ∧ Below w.heap.size w w' := by
  have i0 : ∀ w, (Instr.index 175 (.agg #[.int .i64 tl, .int .i64 va, .int .i64 lo, .int .i64 he]) (.int .i64 0)).run Tryz.prog w = .ok (.int .i64 tl) w := fun _ => by kernel_rfl
  have i1 : ∀ w, (Instr.index 175 (.agg #[.int .i64 tl, .int .i64 va, .int .i64 lo, .int .i64 he]) (.int .i64 1)).run Tryz.prog w = .ok (.int .i64 va) w := fun _ => by kernel_rfl
  have i2 : ∀ w, (Instr.index 175 (.agg #[.int .i64 tl, .int .i64 va, .int .i64 lo, .int .i64 he]) (.int .i64 2)).run Tryz.prog w = .ok (.int .i64 lo) w := fun _ => by kernel_rfl
  have i3 : ∀ w, (Instr.index 175 (.agg #[.int .i64 tl, .int .i64 va, .int .i64 lo, .int .i64 he]) (.int .i64 3)).run Tryz.prog w = .ok (.int .i64 he) w := fun _ => by kernel_rfl
  go_enter Tryz.func62, Tryz.ntmps62
  go_wp2
  go_loop [4, 14] (fun _ i => ∃ k : Nat, i = .int .i64 (k : Int) ∧ k ≤ 4 ∧ Hid ((1 ≤ k → within tl 1 2147483648 = true) ∧ (2 ≤ k → within va 1 2147483648 = true) ∧ (3 ≤ k → within lo 1 2147483648 = true) ∧ (4 ≤ k → within he 1 2147483648 = true))) (fun _ i => 4 - (intOf i).toNat)
  case atStart => exact ⟨0, rfl, by omega, Lib.hid ⟨fun h => absurd h (by omega), fun h => absurd h (by omega), fun h => absurd h (by omega), fun h => absurd h (by omega)⟩⟩
  case round =>
    obtain ⟨k, rfl, hk, H⟩ := hrel
    have hk' : k = 0 ∨ k = 1 ∨ k = 2 ∨ k = 3 ∨ k = 4 := by omega
    rcases hk' with rfl | rfl | rfl | rfl | rfl
    · rcases Bool.eq_false_or_eq_true (within tl 1 2147483648) with h | h
      · go_wp2_with (go_at_call 123; refine (within_any _ _ _ _).mono ?_; rintro e w' ⟨rfl, rfl⟩)
        go_round
        case rel => exact ⟨1, by go_num, by omega, Lib.hid ⟨fun _ => h, fun h => absurd h (by omega), fun h => absurd h (by omega), fun h => absurd h (by omega)⟩⟩
        case measure => simp [intOf]
      · go_wp2_with (go_at_call 123; refine (within_any _ _ _ _).mono ?_; rintro e w' ⟨rfl, rfl⟩)
        go_ret
        exact ⟨ret_bool (by unfold times; simp [h]), below_new _ _⟩
    · rcases Bool.eq_false_or_eq_true (within va 1 2147483648) with h | h
      · go_wp2_with (go_at_call 123; refine (within_any _ _ _ _).mono ?_; rintro e w' ⟨rfl, rfl⟩)
        go_round
        case rel => exact ⟨2, by go_num, by omega, Lib.hid ⟨fun _ => H.out.1 (by omega), fun _ => h, fun h => absurd h (by omega), fun h => absurd h (by omega)⟩⟩
        case measure => simp [intOf]
      · go_wp2_with (go_at_call 123; refine (within_any _ _ _ _).mono ?_; rintro e w' ⟨rfl, rfl⟩)
        go_ret
        exact ⟨ret_bool (by unfold times; simp [h]), below_new _ _⟩
    · rcases Bool.eq_false_or_eq_true (within lo 1 2147483648) with h | h
      · go_wp2_with (go_at_call 123; refine (within_any _ _ _ _).mono ?_; rintro e w' ⟨rfl, rfl⟩)
        go_round
        case rel => exact ⟨3, by go_num, by omega, Lib.hid ⟨fun _ => H.out.1 (by omega), fun _ => H.out.2.1 (by omega), fun _ => h, fun h => absurd h (by omega)⟩⟩
        case measure => simp [intOf]
      · go_wp2_with (go_at_call 123; refine (within_any _ _ _ _).mono ?_; rintro e w' ⟨rfl, rfl⟩)
        go_ret
        exact ⟨ret_bool (by unfold times; simp [h]), below_new _ _⟩
    · rcases Bool.eq_false_or_eq_true (within he 1 2147483648) with h | h
      · go_wp2_with (go_at_call 123; refine (within_any _ _ _ _).mono ?_; rintro e w' ⟨rfl, rfl⟩)
        go_round
        case rel => exact ⟨4, by go_num, by omega, Lib.hid ⟨fun _ => H.out.1 (by omega), fun _ => H.out.2.1 (by omega), fun _ => H.out.2.2.1 (by omega), fun _ => h⟩⟩
        case measure => simp [intOf]
      · go_wp2_with (go_at_call 123; refine (within_any _ _ _ _).mono ?_; rintro e w' ⟨rfl, rfl⟩)
        go_ret
        exact ⟨ret_bool (by unfold times; simp [h]), below_new _ _⟩
    · have H1 := H.out.1 (by omega); have H2 := H.out.2.1 (by omega); have H3 := H.out.2.2.1 (by omega); have H4 := H.out.2.2.2 (by omega)
      have HT := Lib.hid (show times sk tl va lo he = within sk 0 2147483648 by unfold times; simp [H1, H2, H3, H4])
      clear H H1 H2 H3 H4
      go_wp2_with (go_at_call 123; refine (within_any _ _ _ _).mono ?_; rintro e w' ⟨rfl, rfl⟩)
      go_ret
      exact ⟨ret_bool HT.out.symm, below_new _ _⟩
end Go.Proofs.YtlbpeeelgpjciaaGreat.Conf

namespace Go.Proofs.YtlbpeeelgpjciaaGreat.Edge
open _root_.Go.Proofs.YtlbpeeelgpjciaaGreat.Lease (Lz spend)
open _root_.Go.Proofs.YtlbpeeelgpjciaaGreat.Queue (It take)
open _root_.Go.Proofs.YtlbpeeelgpjciaaGreat.Demand (Nt)
open _root_.Go.Proofs.YtlbpeeelgpjciaaGreat.Sat (add)

/-- An answer: a name, a generation, a reason. -/
structure An where
  id : Int
  gen : Int
  why : Int
def az : An := ⟨0, 0, 0⟩
/-- A request. -/
structure Rq where
  id : Int
  key : Int
  cost : Int
  cls : Int
  wait : Int
/-- A configuration. -/
structure Cf where
  n : Int
  sk : Int
  tl : Int
  va : Int
  lo : Int
  he : Int
  ke : Int
  qu : Int
  zs : List (Int × Int)
def Cf.check (c : Cf) : Int := Conf.check c.n c.sk c.tl c.va c.lo c.he c.ke c.qu c.zs
/-- Which rate; -1: there is none. -/
def Cf.rate (c : Cf) (key : Int) : Int := if 0 ≤ key ∧ key ≤ 524287 ∧ key / 65536 < c.zs.length then key / 65536 else -1
def Cf.b (c : Cf) (key : Int) : Int := (c.zs.getD (c.rate key).toNat (0, 0)).2
/-- An edge. -/
structure Eg where
  L : List Lz
  Q : List It
  D : List Nt
def e0 : Eg := ⟨[], [], []⟩
def no (id why : Int) : List An := [⟨id, 0, why⟩]
def right (key : Int) : Prop := 0 ≤ key ∧ key ≤ 524287
instance (key : Int) : Decidable (right key) := by unfold right; infer_instance
/-- A request that may not be. -/
def bad (Q : List It) (r : Rq) : Prop := r.cost < 1 ∨ r.cls < 0 ∨ 2 < r.cls ∨ r.wait < 0 ∨ 1099511627776 < r.wait ∨ ¬ right r.key ∨ 0 ≤ Queue.place Q r.id
instance (Q : List It) (r : Rq) : Decidable (bad Q r) := by unfold bad right; infer_instance
def item (r : Rq) (now : Int) : It := ⟨r.id, r.key, r.cost, r.cls, add [now, r.wait]⟩
/-- A request that is granted at once, waits, or is denied. -/
def wait (c : Cf) (e : Eg) (r : Rq) (now : Int) : Eg × List An :=
  if r.wait = 0 then (e, no r.id 1) else if (Queue.put c.qu e.Q (item r now)).2 = 0 then (⟨e.L, (Queue.put c.qu e.Q (item r now)).1, e.D⟩, []) else (e, no r.id 2)
def ask (c : Cf) (e : Eg) (r : Rq) (now : Int) : Eg × List An :=
  if bad e.Q r then (e, no r.id 7)
  else if now < 0 ∨ 4611686018427387904 ≤ now then (e, no r.id 1)
  else if c.rate r.key < 0 then (e, no r.id 6)
  else if c.b r.key < r.cost then (e, no r.id 5)
  else if Queue.of e.Q r.key = [] ∧ (spend e.L r.key r.cost now).2.2 = true then (⟨(spend e.L r.key r.cost now).1, e.Q, e.D⟩, [⟨r.id, (spend e.L r.key r.cost now).2.1, 0⟩])
  else wait c e r now
/-- Items, the first one first, are served as far as the wallet spends. -/
def serves (key now : Int) : List It → Eg → Eg × List An
  | [], e => (e, [])
  | x :: l, e => if (spend e.L key x.cost now).2.2 = true
    then ((serves key now l ⟨(spend e.L key x.cost now).1, (take e.Q x.id).1, e.D⟩).1, ⟨x.id, (spend e.L key x.cost now).2.1, 0⟩ :: (serves key now l ⟨(spend e.L key x.cost now).1, (take e.Q x.id).1, e.D⟩).2)
    else (e, [])
def serve (e : Eg) (key now : Int) : Eg × List An := serves key now (Queue.of e.Q key) e
def grant (e : Eg) (x : Lz) (now : Int) : Eg × List An := if (Lease.put e.L x).2 = 0 then serve ⟨(Lease.put e.L x).1, e.Q, e.D⟩ x.key now else (e, [])
def close (e : Eg) (key gen : Int) : Eg × Int := (⟨(Lease.close e.L key gen).1, e.Q, if 0 ≤ (Lease.close e.L key gen).2 then e.D ++ [⟨key, (Lease.close e.L key gen).2⟩] else e.D⟩, (Lease.close e.L key gen).2)
def drop (e : Eg) (gen : Int) : Eg := ⟨(Lease.drop e.L gen).1, e.Q, e.D⟩
/-- Two lists that rise, as one. -/
def merge : List Int → List Int → List Int
  | [], b => b
  | a :: l, [] => a :: l
  | a :: l, b :: m => if a < b then a :: merge l (b :: m) else if a = b then b :: merge l m else b :: merge (a :: l) m
def keys (e : Eg) : List Int := merge (Queue.keys e.Q) (Demand.keys e.D)
def amount (c : Cf) (e : Eg) (k : Int) : Int := if 0 ≤ c.rate k then Demand.want (Demand.of e.D k) (Queue.sum e.Q k) (c.b k) else 0
def wants (c : Cf) (e : Eg) : List (Int × Int) := ((keys e).map fun k => (k, amount c e k)).filter fun p => decide (0 < p.2)
def all (l : List It) (why : Int) : List An := l.map fun x => ⟨x.id, 0, why⟩
def expire (e : Eg) (now : Int) : Eg × List An := (⟨e.L, (Queue.expire e.Q now).1, e.D⟩, all (Queue.expire e.Q now).2 3)
/-- Without some. -/
def without (Q : List It) (l : List It) : List It := l.foldl (fun s x => (take s x.id).1) Q
def refuse (e : Eg) (key why : Int) : Eg × List An := (⟨e.L, without e.Q (Queue.of e.Q key), e.D⟩, all (Queue.of e.Q key) why)
def crash (e : Eg) : Eg × List An := (e0, all e.Q 8)
/-- An act: its kind, a request, a lease, a reason, a reading. -/
structure Ac where
  kind : Int
  r : Rq
  l : Lz
  why : Int
  now : Int
/-- What an act makes, and tells. -/
def actOf (c : Cf) (e : Eg) (a : Ac) : Eg × List An × Int :=
  if a.kind % 10 = 4 then ((grant e a.l a.now).1, (grant e a.l a.now).2, 0)
  else if a.kind % 10 = 5 then ((close e a.l.key a.l.gen).1, [], (close e a.l.key a.l.gen).2)
  else if a.kind % 10 = 6 then (drop e a.l.gen, [], 0)
  else if a.kind % 10 = 7 then ((expire e a.now).1, (expire e a.now).2, 0)
  else if a.kind % 10 = 8 then ((refuse e a.l.key a.why).1, (refuse e a.l.key a.why).2, 0)
  else if a.kind % 10 = 9 then ((crash e).1, (crash e).2, 0)
  else ((ask c e a.r a.now).1, (ask c e a.r a.now).2, 0)

/-- What an edge keeps. -/
structure Good (c : Cf) (e : Eg) : Prop where
  l : Lease.Good e.L
  q : Queue.Good c.qu e.Q
  until' : ∀ x ∈ e.Q, x.til ≤ 4611686018427387904
end Go.Proofs.YtlbpeeelgpjciaaGreat.Edge

namespace Go.Proofs.YtlbpeeelgpjciaaGreat.Lease
open Go.RowKit
open _root_.Go.Proofs.YtlbpeeelgpjciaaGreat.Codec (own_below own_lower own_stays lt_of_heap frozen_of heap_set grown_set below_new)

def val (x : Lz) : Value := .agg #[.int .i64 x.key, .int .i64 x.gen, .int .i64 x.amount, .int .i64 x.spent, .int .i64 x.til]
theorem infoZ : (Tryz.prog.info? 93).map (fun i => (i.zero, i.size, i.bytes)) = some (some (.agg #[.int .i64 0, .int .i64 0, .int .i64 0, .int .i64 0, .int .i64 0]), 5, 40) := by kernel_rfl
def cells5 (l : List Lz) : List Value := l.flatMap fun x => [.int .i64 x.key, .int .i64 x.gen, .int .i64 x.amount, .int .i64 x.spent, .int .i64 x.til]
theorem cells5_snoc (l : List Lz) (x : Lz) : cells5 (l ++ [x]) = cells5 l ++ [.int .i64 x.key, .int .i64 x.gen, .int .i64 x.amount, .int .i64 x.spent, .int .i64 x.til] := by simp [cells5]
theorem cells5_len (l : List Lz) : (cells5 l).length = l.length * 5 := by
  induction l with
  | nil => rfl
  | cons s l ih =>
    simp only [cells5, List.flatMap_cons, List.length_append, List.length_cons, List.length_nil] at ih ⊢
    omega
theorem cells5_one (l : List Lz) : ∀ u ∈ cells5 l, u.oneCell' = true := by
  intro u hu
  simp only [cells5, List.mem_flatMap] at hu
  obtain ⟨s, _, hs⟩ := hu
  simp at hs
  rcases hs with rfl | rfl | rfl | rfl | rfl <;> rfl
theorem cells5_at : ∀ (l : List Lz) (j : Nat) (_ : j < l.length), (cells5 l)[j * 5]? = some (.int .i64 (l.getD j z).key) ∧ (cells5 l)[j * 5 + 1]? = some (.int .i64 (l.getD j z).gen) ∧ (cells5 l)[j * 5 + 2]? = some (.int .i64 (l.getD j z).amount) ∧ (cells5 l)[j * 5 + 3]? = some (.int .i64 (l.getD j z).spent) ∧ (cells5 l)[j * 5 + 4]? = some (.int .i64 (l.getD j z).til)
  | [], j, hj => by simp at hj
  | x :: l, 0, _ => by simp [cells5]
  | x :: l, j + 1, hj => by
    have := cells5_at l j (by simpa using hj)
    have e : cells5 (x :: l) = [.int .i64 x.key, .int .i64 x.gen, .int .i64 x.amount, .int .i64 x.spent, .int .i64 x.til] ++ cells5 l := by simp [cells5]
    rw [e]
    have s : ∀ n, ([Value.int .i64 x.key, .int .i64 x.gen, .int .i64 x.amount, .int .i64 x.spent, .int .i64 x.til] ++ cells5 l)[5 + n]? = (cells5 l)[n]? := fun n => by
      rw [List.getElem?_append_right (by simp)]; simp
    have d : (x :: l).getD (j + 1) z = l.getD j z := by simp [List.getD]
    rw [d]
    refine ⟨?_, ?_, ?_, ?_, ?_⟩
    · rw [show (j + 1) * 5 = 5 + j * 5 by omega, s]; exact this.1
    · rw [show (j + 1) * 5 + 1 = 5 + (j * 5 + 1) by omega, s]; exact this.2.1
    · rw [show (j + 1) * 5 + 2 = 5 + (j * 5 + 2) by omega, s]; exact this.2.2.1
    · rw [show (j + 1) * 5 + 3 = 5 + (j * 5 + 3) by omega, s]; exact this.2.2.2.1
    · rw [show (j + 1) * 5 + 4 = 5 + (j * 5 + 4) by omega, s]; exact this.2.2.2.2
/-- The five cells of a lease. -/
def At (w : World) (b o : Nat) (x : Lz) : Prop := w.cell? ⟨b, o, none⟩ = some (.int .i64 x.key) ∧ w.cell? ⟨b, o + 1, none⟩ = some (.int .i64 x.gen) ∧ w.cell? ⟨b, o + 2, none⟩ = some (.int .i64 x.amount) ∧ w.cell? ⟨b, o + 3, none⟩ = some (.int .i64 x.spent) ∧ w.cell? ⟨b, o + 4, none⟩ = some (.int .i64 x.til)
/-- Leases that lie. -/
def Lies (w : World) (p : Option Addr) (l : List Lz) : Prop := l = [] ∨ ∃ b o, p = some ⟨b, o, none⟩ ∧ ∀ j, j < l.length → At w b (o + j * 5) (l.getD j z)
theorem cell_on {w w' : World} {b o : Nat} {v : Value} (h : w.cell? ⟨b, o, none⟩ = some v) (hb : Below w.heap.size w w') : w'.cell? ⟨b, o, none⟩ = some v :=
  (hb.cell (p := ⟨b, o, none⟩) (World.block_lt_of_cell? _ _ h)).trans h
theorem At.below {w w' : World} {b o : Nat} {x : Lz} (h : At w b o x) (hb : Below w.heap.size w w') : At w' b o x :=
  ⟨cell_on h.1 hb, cell_on h.2.1 hb, cell_on h.2.2.1 hb, cell_on h.2.2.2.1 hb, cell_on h.2.2.2.2 hb⟩
theorem Lies.below {w w' : World} {p : Option Addr} {l : List Lz} (h : Lies w p l) (hb : Below w.heap.size w w') : Lies w' p l := by
  rcases h with h | ⟨b, o, e, hc⟩
  · exact .inl h
  · exact .inr ⟨b, o, e, fun j hj => (hc j hj).below hb⟩
theorem lies_at {w : World} {p : Option Addr} {l : List Lz} (h : Lies w p l) {j : Nat} (hj : j < l.length) : ∃ b o, p = some ⟨b, o, none⟩ ∧ At w b (o + j * 5) (l.getD j z) := by
  rcases h with h | ⟨b, o, e, hc⟩
  · rw [h] at hj; simp at hj
  · exact ⟨b, o, e, hc j hj⟩

/-- Leases (of element type E) that a call owns. -/
def Own (E : TypeId) (B : Nat) (w : World) (v : Value) (l : List Lz) : Prop := w.ownsRow B E 5 v l.length (cells5 l)
section
variable {w w' : World} {E : TypeId} {B b : Nat} {v : Value} {l : List Lz}
theorem Own.none (E : TypeId) (B : Nat) (w : World) : Own E B w (.slice Option.none 0 0) [] := World.ownsRow_nil _ _ _ _
theorem Own.on (h : Own E B w v l) (hb : Below w.heap.size w w') : Own E B w' v l := own_below h hb
theorem Own.lies (h : Own E B w v l) : ∃ p c, v = .slice p l.length c ∧ Lies w p l := by
  have ho := h
  rcases h.2 with ⟨rfl, h0⟩ | ⟨g, cap, cur, rfl, h1, h2, h3⟩
  · exact ⟨Option.none, 0, by rw [h0], .inl (List.eq_nil_of_length_eq_zero h0)⟩
  · refine ⟨_, cap, rfl, .inr ⟨g, 0, rfl, fun j hj => ?_⟩⟩
    obtain ⟨c0, c1, c2, c3, c4⟩ := cells5_at l j hj
    have hc := World.ownsRow.cells (g := g) ho rfl
    have k0 := hc _ _ c0
    have k1 := hc _ _ c1
    have k2 := hc _ _ c2
    have k3 := hc _ _ c3
    have k4 := hc _ _ c4
    rw [Codec.add_at] at k0 k1 k2 k3 k4
    rw [← Nat.add_assoc] at k1 k2 k3 k4
    exact ⟨k0, k1, k2, k3, k4⟩
theorem Own.set {o : Nat} {u : Value} (h : Own E B w v l) (hb : b < B) : Own E B (w.setCell ⟨b, o, Option.none⟩ u) v l := by
  refine ⟨h.1, ?_⟩
  rcases h.2 with h0 | ⟨g, cap, cur, rfl, h1, h2, h3⟩
  · exact .inl h0
  · exact .inr ⟨g, cap, cur, rfl, h1, (Below.heap_setCell _ _ _ _ (by simp; omega)).trans h2, h3⟩

theorem lt_heap {w : World} {g : Nat} {o : Obj} (h : w.heap[g]? = some o) : g < w.heap.size := (Array.getElem?_eq_some_iff.1 h).1
/-- What is of none of these types stays. -/
structure Kept (ts : List TypeId) (w w' : World) : Prop where
  size : w.heap.size ≤ w'.heap.size
  obj : ∀ (g : Nat) (o : Obj), w.heap[g]? = some o → (∀ cs t z, o = Obj.cells cs t z → t ∉ ts) → w'.heap[g]? = some o
theorem Kept.block {ts : List TypeId} {w w' : World} (h : Kept ts w w') (g : Nat) (cs : Array Value) (t : TypeId) (z : Nat × Nat) (e : w.heap[g]? = some (Obj.cells cs t z)) (ht : t ∉ ts) : w'.heap[g]? = some (Obj.cells cs t z) :=
  h.obj g _ e fun cs' t' z' k => by
    simp only [Obj.cells.injEq] at k
    exact k.2.1 ▸ ht
/-- The document's wallet. -/
def Wl (B : Nat) (w : World) (v : Nat) (l : List Lz) : Prop := B ≤ v ∧ ∃ y, w.heap[v]? = some (.cells #[y] 55 (0, 0)) ∧ Own 93 B w y l
/-- The document's step. -/
structure Step (B : Nat) (w : World) (v : Nat) (l : List Lz) (w' : World) : Prop where
  wl : Wl B w' v l
  kept : Kept [55] w w'
  below : Below B w w'
theorem Wl.lt (h : Wl B w b l) : b < w.heap.size := by
  obtain ⟨_, y, h, _⟩ := h
  exact lt_of_heap h
theorem Wl.below (h : Wl B w b l) (hb : Below w.heap.size w w') : Wl B w' b l := by
  obtain ⟨h0, y, h1, h2⟩ := h
  exact ⟨h0, y, (hb.block b (lt_of_heap h1)).trans h1, h2.on hb⟩
theorem Wl.cell (h : Wl B w b l) : ∃ p c, w.cell? ⟨b, 0, Option.none⟩ = some (.slice p l.length c) ∧ Lies w p l := by
  obtain ⟨_, y, h1, h2⟩ := h
  obtain ⟨p, c, rfl, hl⟩ := h2.lies
  exact ⟨p, c, by rw [cell_of_row w b 0 _ _ (0, 0) h1]; rfl, hl⟩
theorem Step.same (h : Wl B w b l) (hB : B ≤ w.heap.size) (hb : Below w.heap.size w w') : Step B w b l w' :=
  ⟨h.below hb, ⟨hb.size, fun g _ e _ => (hb.block g (lt_heap e)).trans e⟩, hb.mono hB⟩
theorem Step.trans {w2 : World} {l' l2 : List Lz} (h : Step B w b l' w') (k : Step B w' b l2 w2) : Step B w b l2 w2 :=
  ⟨k.wl, ⟨Nat.le_trans h.kept.size k.kept.size, fun g o e ht => k.kept.obj g o (h.kept.obj g o e ht) ht⟩, h.below.trans k.below⟩
/-- New leases are stored. -/
theorem Wl.store {l' : List Lz} {y : Value} (h : Wl B w b l) (hB : B ≤ w.heap.size) (hb : Below w.heap.size w w') (ho : Own 93 w.heap.size w' y l') :
    w'.frozen? ⟨b, 0, Option.none⟩ = false ∧ (∃ u, w'.cell? ⟨b, 0, Option.none⟩ = some u) ∧ Hid (Step B w b l' (w'.setCell ⟨b, 0, Option.none⟩ y)) := by
  obtain ⟨h0, y0, h1, h2⟩ := h
  have hv : w'.heap[b]? = _ := (hb.block b (lt_of_heap h1)).trans h1
  refine ⟨frozen_of hv, ⟨_, by rw [cell_of_row w' b 0 _ _ (0, 0) hv]; rfl⟩, ⟨⟨h0, y, ?_, ?_⟩, ⟨Nat.le_trans hb.size (by simp), ?_⟩, (hb.mono hB).setCell (p := ⟨b, 0, Option.none⟩) h0 _⟩⟩
  · rw [heap_set b 0 _ _ hv]; rfl
  · exact own_lower (Own.set ho (lt_of_heap h1)) hB
  · intro g o e ht
    have hne : g ≠ b := by
      rintro rfl
      rw [h1] at e
      simp only [Option.some.injEq] at e
      exact ht _ _ _ e.symm (by simp)
    exact (Below.heap_setCell _ _ _ _ hne).trans ((hb.block g (lt_heap e)).trans e)
end
theorem box5 {w : World} {b : Nat} {v0 v1 v2 v3 v4 : Value} {T : TypeId} (h : w.heap[b]? = some (.cells #[v0, v1, v2, v3, v4] T (0, 0))) : w.cell? ⟨b, 0, none⟩ = some v0 ∧ w.cell? ⟨b, 1, none⟩ = some v1 ∧ w.cell? ⟨b, 2, none⟩ = some v2 ∧ w.cell? ⟨b, 3, none⟩ = some v3 ∧ w.cell? ⟨b, 4, none⟩ = some v4 :=
  ⟨by rw [cell_of_row w b 0 _ _ (0, 0) h]; rfl, by rw [cell_of_row w b 1 _ _ (0, 0) h]; rfl, by rw [cell_of_row w b 2 _ _ (0, 0) h]; rfl, by rw [cell_of_row w b 3 _ _ (0, 0) h]; rfl, by rw [cell_of_row w b 4 _ _ (0, 0) h]; rfl⟩
/-- A lease, just laid, is appended. -/
theorem push_lease {u : World} {ops : Array Oper} {rest : List Oper} {o : Oper} {a : Act} {Q : Exit → Act → World → Prop} (hgd : o.guard = none) (s y : Operand)
    (ho : o.op = .call { callee := .builtin .append, args := #[s, y], argTypes := #[53, 53] })
    (w0 wr : World) (v : Value) (hs : a.eval s = v) (l : List Lz) (n : Nat) (hn : l.length = n) (hown : Own 93 w0.heap.size wr v l) (hbw : Below w0.heap.size w0 wr) (hu : Below wr.heap.size wr u)
    (g : Nat) (x : Lz) (hy : a.eval y = .slice (some ⟨g, 0, Option.none⟩) 1 1)
    (hg : (u.alloc (.cells #[.int .i64 x.key, .int .i64 x.gen, .int .i64 x.amount, .int .i64 x.spent, .int .i64 x.til] 93)).heap[g]? = some (.cells #[.int .i64 x.key, .int .i64 x.gen, .int .i64 x.amount, .int .i64 x.spent, .int .i64 x.til] 93 (0, 0))) (hlen : n ≤ 100000)
    (h : ∀ p c w', Hid (Own 93 w0.heap.size w' (.slice p (n + 1) c) (l ++ [x])) → Below w0.heap.size w0 w' → wpList Tryz.prog ops Q rest (a.put o.dst (.slice p (n + 1) c)) w') : wpList Tryz.prog ops Q (o :: rest) a (u.alloc (.cells #[.int .i64 x.key, .int .i64 x.gen, .int .i64 x.amount, .int .i64 x.spent, .int .i64 x.til] 93)) := by
  subst hn
  obtain ⟨i0, hi, hz0, hz1, hz2⟩ := info_parts infoZ
  have hua : Below wr.heap.size wr (u.alloc (.cells #[.int .i64 x.key, .int .i64 x.gen, .int .i64 x.amount, .int .i64 x.spent, .int .i64 x.til] 93)) := hu.alloc hu.size _
  refine wpList_append_own _ hgd s y 53 ho w0.heap.size 93 i0 (.agg #[.int .i64 0, .int .i64 0, .int .i64 0, .int .i64 0, .int .i64 0]) 5 40 Tryz.underlying53 hi hz0 hz1 hz2 rfl (by decide) v l.length (cells5 l) hs (own_below hown hua) ⟨g, 0, Option.none⟩ 1 1 [.int .i64 x.key, .int .i64 x.gen, .int .i64 x.amount, .int .i64 x.spent, .int .i64 x.til] hy rfl (World.news_of_block hg) ?_ (by unfold maxLen; omega) (by omega) (Nat.le_trans hbw.size hua.size) ?_
  · intro z hz
    simp at hz
    rcases hz with rfl | rfl | rfl | rfl | rfl <;> rfl
  · intro v' w' ho2 hg2 _
    have hb2 := (hbw.trans (hua.mono hbw.size)).grown hg2 (Nat.le_trans hbw.size hua.size) (fun k hk => (World.ownsRow.lt hown k hk).1)
    have R : Own 93 w0.heap.size w' v' (l ++ [x]) := by
      unfold Own
      rw [cells5_snoc, List.length_append]
      exact ho2
    obtain ⟨p, c, rfl⟩ : ∃ p c, v' = .slice p (l.length + 1) c := by
      rcases ho2.2 with ⟨_, h0⟩ | ⟨g, cap, cur, rfl, _⟩
      · omega
      · exact ⟨_, cap, rfl⟩
    exact h p c w' R hb2
end Go.Proofs.YtlbpeeelgpjciaaGreat.Lease

namespace Go.Proofs.YtlbpeeelgpjciaaGreat.Lease2
open Go.RowKit
open _root_.Go.Proofs.YtlbpeeelgpjciaaGreat.Codec (own_below own_lower own_stays lt_of_heap frozen_of heap_set grown_set below_new)
open _root_.Go.Proofs.YtlbpeeelgpjciaaGreat.Lease

/-- The document's wallet. -/
def Wl (B : Nat) (w : World) (v ov : Nat) (l : List Lz) : Prop := B ≤ v ∧ ∃ cs T y, w.heap[v]? = some (.cells cs T (0, 0)) ∧ cs[ov]? = some y ∧ Own 93 B w y l
/-- The document's step. -/
structure Step (B : Nat) (w : World) (v ov : Nat) (l : List Lz) (w' : World) : Prop where
  wl : Wl B w' v ov l
  row : ∀ cs T, w.heap[v]? = some (.cells cs T (0, 0)) → ∃ cs', w'.heap[v]? = some (.cells cs' T (0, 0)) ∧ ∀ k, k ≠ ov → cs'[k]? = cs[k]?
  only : ∀ g, g ≠ v → g < w.heap.size → w'.heap[g]? = w.heap[g]?
  below : Below B w w'
  size : w.heap.size ≤ w'.heap.size
section
variable {w w' : World} {B b ov : Nat} {l : List Lz}
theorem Wl.lt (h : Wl B w b ov l) : b < w.heap.size := by
  obtain ⟨_, cs, T, y, h, _⟩ := h
  exact lt_of_heap h
theorem Wl.below (h : Wl B w b ov l) (hb : Below w.heap.size w w') : Wl B w' b ov l := by
  obtain ⟨h0, cs, T, y, h1, h2, h3⟩ := h
  exact ⟨h0, cs, T, y, (hb.block b (lt_of_heap h1)).trans h1, h2, h3.on hb⟩
theorem Wl.cell (h : Wl B w b ov l) : ∃ p c, w.cell? ⟨b, ov, Option.none⟩ = some (.slice p l.length c) ∧ Lies w p l := by
  obtain ⟨_, cs, T, y, h1, h2, h3⟩ := h
  obtain ⟨p, c, rfl, hl⟩ := h3.lies
  exact ⟨p, c, by rw [cell_of_row w b ov _ _ (0, 0) h1, h2], hl⟩
theorem Step.same (h : Wl B w b ov l) (hB : B ≤ w.heap.size) (hb : Below w.heap.size w w') : Step B w b ov l w' :=
  ⟨h.below hb, fun cs _ e => ⟨cs, (hb.block b (lt_of_heap e)).trans e, fun _ _ => rfl⟩, fun g _ hg => hb.block g hg, hb.mono hB, hb.size⟩
theorem Step.trans {w2 : World} {l' l2 : List Lz} (h : Step B w b ov l' w') (k : Step B w' b ov l2 w2) : Step B w b ov l2 w2 :=
  ⟨k.wl, fun cs T e => by
    obtain ⟨c1, e1, h1⟩ := h.row cs T e
    obtain ⟨c2, e2, h2⟩ := k.row c1 T e1
    exact ⟨c2, e2, fun i hi => (h2 i hi).trans (h1 i hi)⟩, fun g hn hg => (k.only g hn (Nat.lt_of_lt_of_le hg h.size)).trans (h.only g hn hg), h.below.trans k.below, Nat.le_trans h.size k.size⟩
/-- New leases are stored. -/
theorem Wl.store {l' : List Lz} {y : Value} (h : Wl B w b ov l) (hB : B ≤ w.heap.size) (hb : Below w.heap.size w w') (ho : Own 93 w.heap.size w' y l') :
    w'.frozen? ⟨b, ov, Option.none⟩ = false ∧ (∃ u, w'.cell? ⟨b, ov, Option.none⟩ = some u) ∧ Hid (Step B w b ov l' (w'.setCell ⟨b, ov, Option.none⟩ y)) := by
  obtain ⟨h0, cs, T, y0, h1, h2, h3⟩ := h
  have hv : w'.heap[b]? = _ := (hb.block b (lt_of_heap h1)).trans h1
  have hlt : ov < cs.size := (Array.getElem?_eq_some_iff.1 h2).1
  refine ⟨frozen_of hv, ⟨_, by rw [cell_of_row w' b ov _ _ (0, 0) hv, h2]⟩, ⟨⟨h0, cs.setIfInBounds ov y, T, y, heap_set b ov _ _ hv, by simp [hlt], own_lower (Own.set ho (lt_of_heap h1)) hB⟩, fun cs' T' e => ?_, fun g hn hg => (Below.heap_setCell _ _ _ _ hn).trans (hb.block g hg), (hb.mono hB).setCell (p := ⟨b, ov, Option.none⟩) h0 _, Nat.le_trans hb.size (by simp)⟩⟩
  rw [h1] at e
  cases e
  refine ⟨_, heap_set b ov _ _ hv, fun k hk => ?_⟩
  simp [Ne.symm hk]
end
end Go.Proofs.YtlbpeeelgpjciaaGreat.Lease2
