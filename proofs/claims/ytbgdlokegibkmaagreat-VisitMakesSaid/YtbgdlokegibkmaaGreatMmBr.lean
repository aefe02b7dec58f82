/-
  The program's edge, and its visit, do what is asked of them.
  The program's edge, and its visit, do what is asked of them besides: requests' blocks stay, and which blocks a visit's token lies in.
-/
import Derived.Test.YtbgdlokegibkmaaGreatMmBn
import Derived.Test.YtbgdlokegibkmaaGreatMmAn
import Derived.Test.YtbgdlokegibkmaaGreatMmBg
import Derived.Test.YtbgdlokegibkmaaGreatMmBl
import Derived.Test.YtbgdlokegibkmaaGreatMmBq
import Derived.Test.YtbgdlokegibkmaaGreatMmAs
namespace Go.Proofs.YtbgdlokegibkmaaGreat.Visit
open Go.RowKit
open _root_.Go.Proofs.YtbgdlokegibkmaaGreat.Frame (Rw Tb Tk)
open _root_.Go.Proofs.YtbgdlokegibkmaaGreat.Codec (lt_of_heap)
open _root_.Go.Proofs.YtbgdlokegibkmaaGreat.Edge (Cf Eg RatesB CfNum Says HasN In e0)
open _root_.Go.Proofs.YtbgdlokegibkmaaGreat.Lease (Num)
theorem in_low {R : Nat → Prop} {B B' : Nat} {w : World} {q qw qq qd : Nat} {y : Value} {c : Cf} {e : Eg} (h : In R B' w q y qw qq qd c e) (hB : B ≤ B') : In R B w q y qw qq qd c e :=
  ⟨Nat.le_trans hB h.ge, h.blk, Kit.Own.lower h.rt hB, Edge.pw_low h.wl hB, Edge.pq_low h.qu hB, Edge.pd_low h.dm hB, h.apart⟩
theorem rates_low {B B' : Nat} {w : World} {p : Option Addr} {zs : List (Int × Int)} (h : RatesB B w p zs) (hB : B ≤ B') : RatesB B' w p zs := by
  rcases h with h | ⟨b, o, e, hl, hc⟩
  · exact .inl h
  · exact .inr ⟨b, o, e, Nat.lt_of_lt_of_le hl hB, hc⟩
theorem moves_r {R : Nat → Prop} {B : Nat} {w w' : World} {q qw qq qd : Nat} {y : Value} {c : Cf} {e' : Eg} (h0 : 0 ≤ c.qu ∧ c.qu ≤ 16) (hq : ¬ R q) (hD : ∀ x ∈ e'.D, Num x.key) (m : Edge.Moves R B w q y qw qq qd c e' w') : MovedR Pf R B w q c e' w' :=
  ⟨⟨⟨h0, hD, hq⟩, y, qw, qq, qd, m.inn⟩, m.off, m.below, m.keep⟩
theorem way18 : Way18 Pf where
  fr := frPf
  new := fun B c p k w hB hr hl _ h0 => (Edge.pnew_in Queue.way12 (rates_low hr hB) hl).mono fun _ _ ⟨hb, h⟩ => by
    rcases h with ⟨h1, -⟩ | ⟨-, q, he, hq, y, qw, qq, qd, hi⟩
    · exact absurd h0 h1
    · exact ⟨q, he, ⟨⟨hq, fun x hx => by simp [e0] at hx, fun hlt => by have := hi.ge; omega⟩, y, qw, qq, qd, in_low hi hB⟩, hb⟩
  newno := fun c p k w hr _ h0 => by
    by_cases hl : c.zs.length ≤ 100
    · refine (Edge.pnew_in Queue.way12 hr hl).mono fun _ _ ⟨hb, h⟩ => ?_
      rcases h with ⟨-, he⟩ | ⟨h1, -⟩
      · exact ⟨he, hb⟩
      · exact absurd h1 h0
    · exact new_many (by omega)
  ask := fun ⟨⟨h0, hD, hq⟩, _, _, _, _, h⟩ hB hg hf r hr now _ => (Edge.pask_any Queue.way12 h hB hg hf r hr now).mono fun _ _ ⟨v, he, hs, hm⟩ => ⟨v, he, hs, moves_r h0 hq (by rw [(Edge.ask_few _ _ _ _).2]; exact hD) hm⟩
  crash := fun ⟨⟨h0, hD, hq⟩, y, _, _, _, h⟩ hB _ hf => (Edge.pcrash_in Queue.way12 h hB hf h0).mono fun _ _ ⟨v, he, hs, ⟨qw, qq, qd, hi⟩, ho, hb, hk⟩ => ⟨v, he, hs, ⟨⟨⟨h0, fun x hx => by simp [Edge.crash, e0] at hx, hq⟩, y, qw, qq, qd, hi⟩, ho, hb, fun g hR _ hl => hk g (fun e => hq (e ▸ hR)) hl⟩⟩
  waiting := fun ⟨_, _, _, _, _, h⟩ _ hf => Edge.pwaiting_any h hf
  leases := fun ⟨_, _, _, _, _, h⟩ hg hf => Edge.pleases_any h hg hf
  visit := fun node now t m ps cs p d pf cf hp hB hkp hm hR _ hn _ hz hti hr => (vyes_any Queue.way12 node now t m ps cs p d pf cf hp hB hkp hm hR hn hz hti hr).mono fun _ _ ⟨ps', cs', p', d', y, R', h1, h2, h3, h4, h5, h6, _, _⟩ => ⟨ps', cs', p', d', y, R', h1, h2, h3, h4, h5, h6⟩
  visitno := fun node now t q ps cs p d c pf cf w hq hf _ hz hst hl hr => vno_any node now t q ps cs p d c pf cf w hq hf hz hst hl hr
end Go.Proofs.YtbgdlokegibkmaaGreat.Visit

namespace Go.Proofs.YtbgdlokegibkmaaGreat.Visit
open Go.RowKit
open _root_.Go.Proofs.YtbgdlokegibkmaaGreat.Codec (lt_of_heap)
theorem freePf : Free Pf where
  beside := besidePf
  ask := fun ⟨⟨h0, hD, hq⟩, _, _, _, _, h⟩ hB hg hf r hr now _ => (Edge.pask_any Queue.way12 h hB hg hf r hr now).mono fun _ _ ⟨v, he, hs, hm⟩ => ⟨v, he, hs, moves_r h0 hq (by rw [(Edge.ask_few _ _ _ _).2]; exact hD) hm, ⟨hm.off2.size, fun g cs t z e ht => hm.off2.block g cs t z e (by simp only [List.mem_singleton] at ht; subst ht; simp [Edge.theirs])⟩⟩
  visit := fun node now t m ps cs p d pf cf hp hB hkp hm hR _ hn _ hz hti hr => vyes_any Queue.way12 node now t m ps cs p d pf cf hp hB hkp hm hR hn hz hti hr
end Go.Proofs.YtbgdlokegibkmaaGreat.Visit
