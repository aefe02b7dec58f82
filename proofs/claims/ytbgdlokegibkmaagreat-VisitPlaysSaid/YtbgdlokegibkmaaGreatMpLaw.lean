/-
  VisitPlays: any requests at an edge of any configuration, and visits of any token, in any order, at any readings: the answers to each one, the token behind it, who waits, and all leases, are as the document says, or the error; the token that was handed in stays; no edge: ErrArg; of more than 40 acts, or rates, or 100 stamps, rows, or leases of a row, the live question alone is asked. No condition.
-/
import Derived.Test.YtbgdlokegibkmaaGreatRows
import Derived.Test.YtbgdlokegibkmaaGreatMpBd
import Derived.Test.YtbgdlokegibkmaaGreatMpCb
set_option maxRecDepth 100000
namespace Go.Proofs.YtbgdlokegibkmaaGreat.visitPlays
open Go.ChangeShapes Go.WideShapes Go.RowKit
open _root_.Go.Proofs.YtbgdlokegibkmaaGreat.Zn
open _root_.Go.Proofs.YtbgdlokegibkmaaGreat.Zx (Tk)
open _root_.Go.Proofs.YtbgdlokegibkmaaGreat.Zy (Cf bD fh)
open _root_.Go.Proofs.YtbgdlokegibkmaaGreat.Zo (aS)
theorem acD (f:Cf)(p:Option Addr)(k:Nat){W:World}(hr:bD W.heap.size W p f.zs)(hc:fh f)(t:Tk)(sp pt:Option Addr)(cs d:Nat)(hs:(t.stamps.length:Int)<=9223372036854775807)(hm:(t.table.rows.length:Int)<=9223372036854775807)(C5:dZ (fun g=>g<W.heap.size) W t sp pt)(pa:Option Addr)(ka:Nat)(l:List Av)(_:(l.length:Int)<=9223372036854775807)(ha:IB W pa l)(hn:∀a∈l,tS a)(_:World) :
 Calls Tryz.prog 3 #[f.val p k,aS t sp cs pt (d+t.table.rows.length),.slice pa l.length ka] W fun e w'=>e=.returned (.bool true)/\Below W.heap.size W w' :=
 Lh Yi W f p k t sp cs pt d pa ka l ha hn hs hm C5 hr hc
theorem ic:ownKnob Tryz.prog.godebug=none:=by kernel_rfl
theorem UT (os:Os)(Bf:os.Started)(H:Type)(enc:TypeId×Value->H) :
 ReturnsInHanded {} Tryz.checked os 3 .any (Rows.visitPlaysSpec.pre6 enc Tryz.prog Tryz.f3 Rows.visitPlaysRow.domain false) (Rows.visitPlaysSpec.post enc Tryz.prog Tryz.f3 false true false false):=by
 refine returnsInHanded_of_change (C:=Tryz.checked) ic Bf (by kernel_rfl) Tryz.func3
  (ChangeSpec.witness6 (enc:=enc) (C:=Tryz.checked) false ⟨#[],#[.agg #[.int .i64 0,.int .i64 0,.int .i64 0,.int .i64 0,.int .i64 0,.int .i64 0,.int .i64 0,.int .i64 0,.slice none 0 0],.agg #[.int .i64 0,.int .i64 0,.slice none 0 0,.int .i64 0,.slice none 0 0],.slice none 0 0],[]⟩ 16 (by kernel_rfl) (by kernel_rfl) (by kernel_rfl) (by kernel_rfl)) ?_
 intro W dJ args ds gs before SY hW hcnd _;have hval:∀(j:Nat) t v,Tryz.f3.params[j]? =some t->args[j]? =some v->Value.okWide Tryz.prog W .any dJ t v:=SY;have hW':=hW;obtain⟨p,q,hA0,hV,rfl,hfz,Wi⟩:=hW;have hA:DataW.TrodAll enc Tryz.prog W 0 (fun _=>true) true Tryz.f3.params.toList args.toList ds p:=hA0
 rw[Tryz.params3] at hA hval;obtain⟨v0,vs0,d0,ds0,p0,q0,Su,rfl,rfl,h0,r0⟩:=trodAll_cons hA;obtain⟨v1,vs1,d1,ds1,p1,q1,rfl,rfl,rfl,h1,r1⟩:=trodAll_cons r0;obtain⟨v2,vs2,d2,ds2,p2,q2,rfl,rfl,rfl,h2,r2⟩:=trodAll_cons r1;obtain⟨rfl,rfl,rfl⟩:=trodAll_nil r2;obtain rfl:args= #[v0,v1,v2]:=by cases args;simp_all
 obtain⟨rfl,rfl⟩:=trodVars_none hV;obtain⟨f0,p0',c0,rfl,Vl,hc0⟩:=Zn.Lm (hval 0 24 v0 rfl rfl) h0;obtain⟨t1,sp1,p1',cs1,c1,rfl,hs1,Xa,ht1⟩:=Zn.OD (hval 1 30 v1 rfl rfl) h1;obtain⟨p2',c2,l2,rfl,hl2,ha2,jJ⟩:=Zn.Ll (hval 2 31 v2 rfl rfl) h2;clear hA0 SY;refine(acD f0 p0' c0 Vl hc0 t1 sp1 p1' cs1 c1 hs1 Xa ht1 p2' c2 l2 hl2 ha2 jJ W).mono fun e W' ⟨he,hg⟩=> ?_
 subst he;exact⟨_,rfl,Zs.OA hW' rfl rfl rfl rfl (by kernel_rfl) Tryz.underlying4 (by kernel_rfl) (by kernel_rfl) hg⟩
theorem VB:Rows.visitPlaysRow.holds Tryz.pinned (OpenSpec.ofChange Rows.visitPlaysSpec) :=
 OpenClaim.holds_of_wide 3 Tryz.f3 rfl rfl rfl rfl rfl rfl rfl ⟨rfl,rfl,rfl,rfl,rfl⟩ rfl rfl rfl rfl rfl (by kernel_rfl) Tryz.func3 (by kernel_rfl)
  (of_decide_eq_true (by kernel_rfl)) (by unfold Func.isWrapper;first | (rw[if_pos (by decide +kernel)];kernel_rfl) | (rw[if_neg (by decide +kernel)];exact⟨rfl,rfl⟩))
  (fun os Bf H enc _=>UT os Bf H enc)
theorem proved:Rows.VisitPlaysSaid :=
 VB
#print axioms proved
end Go.Proofs.YtbgdlokegibkmaaGreat.visitPlays
