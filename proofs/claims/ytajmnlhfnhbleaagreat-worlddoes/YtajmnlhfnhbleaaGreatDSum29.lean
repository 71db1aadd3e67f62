/- Several texts of one proof, in their order. -/
import Derived.Test.YtajmnlhfnhbleaaGreatDSum28
namespace Go.Proofs.YtajmnlhfnhbleaaGreat
open Go.RowKit CurveMath
set_option linter.unusedVariables false
set_option maxHeartbeats 2000000
theorem restored_any(vb:Value)(n:Nat)(PV:Nat→Value)(b:Bk)(vl:Value)(np:Nat)(KV:Nat→Value)(UV:Nat→Nat→Value)(P:Ps)(k:Int)(w:World)(hv:VeSl w w.heap.size vb n PV b)(hl:PsSl w w.heap.size vl np KV UV P):
 Calls Tryz.prog 94 #[meshV vb vl,.int .i64 k] w (RestPost w n b np P k):=by
 have hb:=below_alloc w (.cells #[vb,vl] 27)
 have CK:=hid (version_any _ n PV b _ np KV UV P k _ (hv.up hb) (hl.up hb))
 have HB:=hid hb
 have HK:=hid (heap_alloc_new w (.cells #[vb,vl] 27))
 have HV:=hid hv
 have HL:=hid hl
 obtain⟨ad,cap,rfl,_,hx⟩:=hv
 obtain⟨al,cl,rfl,_,_⟩:=hl
 obtain⟨c,hc⟩:∃c,verM n b np P k=c:=⟨_,rfl⟩
 rw[hc]at CK
 have HC:=hid hc
 have HX:=hid hx
 clear hb hc hx
 unfold meshV at CK
 unfold meshV
 go_enter Tryz.func94,Tryz.ntmps94
 go_wp2_with fail
 refine Calls.mono CK.out ?_
 rintro e W ⟨rfl,hbW⟩
 have BW:=hid (HB.out.trans (hbW.mono HB.out.size))
 obtain⟨c0,c1⟩:=two_at (stayB HK.out hbW)
 clear hbW CK
 by_cases h0:c=0
 ·subst h0
  obtain⟨hR,hk0,hkn⟩:=verM_ok HC.out;obtain⟨q,rfl⟩:∃q:Nat,k=q:=⟨k.toNat,by omega⟩;have hqn:q<n:=by omega
  have HR:=hid hR;rcases HX.out with h0|⟨bv,ov,rfl,hbv,hxv⟩;·omega
  obtain⟨_,v1,v2,v3,_⟩:=hxv q hqn;have q1:W.cell? ⟨bv,ov+q*4+1,none⟩=some (.int .i64 (b.nd q)):=by rw[BW.out.cell hbv];exact v1
  have q2:W.cell? ⟨bv,ov+q*4+2,none⟩=some (.int .i64 (b.of q)):=by rw[BW.out.cell hbv];exact v2
  have q3:W.cell? ⟨bv,ov+q*4+3,none⟩=some (.int .i64 (b.sz q)):=by rw[BW.out.cell hbv];exact v3
  have hne:Nonempty (Of (Below W.heap.size W)):=⟨⟨W,Below.refl _ _⟩⟩;have F0:∀u:Of (Below W.heap.size W),u.val.cell? ⟨w.heap.size,0,none⟩=some (.slice (some ⟨bv,ov,none⟩) n cap):=fun u=>by rw[u.is.cell (cell_lt c0)];exact c0
  have F1:∀u:Of (Below W.heap.size W),u.val.cell? ⟨w.heap.size,1,none⟩=some (.slice al np cl):=fun u=>by rw[u.is.cell (cell_lt c1)];exact c1
  have F2:∀u:Of (Below W.heap.size W),u.val.cell? ⟨bv,ov+q*4+1,none⟩=some (.int .i64 (b.nd q)):=fun u=>by rw[u.is.cell (cell_lt q1)];exact q1
  have F3:∀u:Of (Below W.heap.size W),u.val.cell? ⟨bv,ov+q*4+2,none⟩=some (.int .i64 (b.of q)):=fun u=>by rw[u.is.cell (cell_lt q2)];exact q2
  have F4:∀u:Of (Below W.heap.size W),u.val.cell? ⟨bv,ov+q*4+3,none⟩=some (.int .i64 (b.sz q)):=fun u=>by rw[u.is.cell (cell_lt q3)];exact q3
  have CT:Hid (∀u,Below W.heap.size W u→Calls Tryz.prog 70 #[meshV (.slice (some ⟨bv,ov,none⟩) n cap) (.slice al np cl),.int .i64 (q:Int)] u fun e w'=>Below u.heap.size u w'∧∃vo,e=.returned vo∧ShSl w' w'.heap.size vo (thereL P q np).length (nL P (thereL P q np)) (vaL UV (thereL P q np)) (lL P (thereL P q np)) (xL P (thereL P q np))):=fun u hbu =>
   there_any _ _ np KV UV P q u ⟨_,_,_,rfl⟩ (HL.out.up (BW.out.trans (hbu.mono BW.out.size))) HR.out.few HR.out.small HR.out.num
  unfold meshV at CT;have hki:(q:Int)<(n:Int):=by omega
  clear hR hxv v1 v2 v3 q1 q2 q3 c0 c1;go_wp2_with fail
  have HD1:Hid (Below W.heap.size W W.drew):=drew_below W;refine region_mixed (Below W.heap.size W) [([0,1,2,3,4,5,6,7,8],9),([],10)] [11,12,13,14,15,16] (by kernel_rfl) (by kernel_rfl) HD1.out ?_;refine mixO_cons ?_;repeat(go_big_quiet_step (fail))
  refine wpQuiet_nil ?_;intro K hK;go_wp2_with fail
  refine Calls.mono (CT.out _ HD1.out) ?_;rintro e W5 ⟨hb5,vo,rfl,hsh0⟩;have hsh:=hsh0.agree fun j hj=>tT_eq P (thereL P (q:Int) np) hj;clear hsh0;have H5:Hid (Below W.heap.size W W5):=HD1.out.trans (hb5.mono HD1.out.size);have CE:=hid (elect_any (b.nd q) (b.of q) (b.sz q) vo _ _ _ _ _ W5 hsh);unfold planV at CE;obtain⟨ao,co,rfl,_,_⟩:=hsh;clear hb5;go_wp2;refine⟨rfl,hK _ _ H5.out ?_⟩;clear hK K;refine mixO_cons (lq:=[]) ?_ rfl;refine wpQuiet_nil ?_;intro K hK;go_wp2_with fail
  refine Calls.mono CE.out ?_;rintro e W6 hM;have B5:=hid (BW.out.trans (H5.out.mono BW.out.size));have HRe:=hid (rest_of (n:=n) (b:=b) (np:=np) (P:=P) (k:=(q:Int)) B5.out HC.out (by rw[Int.toNat_natCast];exact hM));obtain⟨hb6,r,bb,m,rfl,_,hr,hbb⟩:=hM;have H6:Hid (Below W.heap.size W W6):=H5.out.trans (hb6.mono H5.out.size);obtain⟨ar,cr,rfl,_,_⟩:=hr;obtain⟨ab,cb,rfl,_,_⟩:=hbb;clear hb6;go_wp2;refine⟨rfl,hK _ _ H6.out ?_⟩;clear hK K;refine mixO_nil ?_;repeat(go_big_quiet_step (fail))
  refine wpQuiet_nil ?_;clear F0 F1 F2 F3 F4 hne;go_wp2;go_ret3
  exact HRe.out
 ·have hcb:(c != 0)=true:=by simpa using h0
  have H0:=hid h0;clear h0;go_wp2;go_ret3
  exact rest_err BW.out HC.out H0.out
section
structure RpInv(w wr:World)(vb:Value)(av:Option Addr)(g np cap:Nat)(KV:Nat→Value)(UV:Nat→Nat→Value)(P:Ps)(gp gs:Nat)(nd of sz:Int)(T:List Int):Prop where
 gv:GvInv w wr vb av g np cap KV UV P
 plan:wr.heap[gp]?=some (.cells #[.int .i64 nd,.int .i64 of,.int .i64 sz] 59 (0,0))
 seen:∃cs:Array Value,wr.heap[gs]?=some (.cells cs 126 (0,0))∧cs.size=8∧∀q,q<8→cs[q]?=some (.bool (T.contains (q:Int)))
section
variable {w wr w' : World} {vb : Value} {av : Option Addr} {g np cap : Nat} {KV : Nat → Value} {UV : Nat → Nat → Value} {P P' : Ps} {gp gs : Nat} {nd of sz : Int} {T : List Int}
theorem RpInv.up(h:RpInv w wr vb av g np cap KV UV P gp gs nd of sz T)(hb:Below wr.heap.size wr w'):RpInv w w' vb av g np cap KV UV P gp gs nd of sz T:=by
 obtain⟨cs,h1,h2,h3⟩:=h.seen;exact⟨h.gv.up hb,stayB h.plan hb,cs,stayB h1 hb,h2,h3⟩
theorem RpInv.bit(h:RpInv w wr vb av g np cap KV UV P gp gs nd of sz T){q:Nat}(hq:q<8):wr.cell? ⟨gs,q,none⟩=some (.bool (T.contains (q:Int)))∧wr.frozen? ⟨gs,q,none⟩=false:=by
 obtain⟨cs,h1,h2,h3⟩:=h.seen;exact⟨cell_at h1 (h3 q hq),frozen_at h1⟩
theorem RpInv.put(h:RpInv w wr vb av g np cap KV UV P gp gs nd of sz T)(hg:w.heap.size+1<g)(hgp:gp≠g)(hgs:gs≠g){q:Nat}(hq:q<np){r:Value}{UR:Nat→Value}(hs:∃a n c,KV q=.slice a n c)(e1:P'.th=P.th)(e2:P'.rm=P.rm)(e3:∀k,k<np→k≠q→P'.m k=P.m k∧P'.t k=P.t k)
 (hr:KeSl wr wr.heap.size r (P'.m q) UR (P'.t q)):RpInv w (wr.setCell ⟨g,q*3+2,none⟩ r) vb av g np cap (fun k=>if k=q then r else KV k) (fun k=>if k=q then UR else UV k) P' gp gs nd of sz T:=by
 obtain⟨cs,h1,h2,h3⟩:=h.seen
 exact⟨h.gv.put hg hq hs e1 e2 e3 hr,by rw[Below.heap_setCell _ _ _ _ (by show gp≠g;exact hgp)];exact h.plan,cs,by rw[Below.heap_setCell _ _ _ _ (by show gs≠g;exact hgs)];exact h1,h2,h3⟩
theorem RpInv.see(h:RpInv w wr vb av g np cap KV UV P gp gs nd of sz T)(hs:w.heap.size+1<gs)(hgp:gp≠gs)(hgs:1≤np→g≠gs){q:Nat}(hq:q<8):RpInv w (wr.setCell ⟨gs,q,none⟩ (.bool true)) vb av g np cap KV UV P gp gs nd of sz (T++[(q:Int)]):=by
 obtain⟨cs,h1,h2,h3⟩:=h.seen;have hbit:=(h.bit hq).1;have hz:(wr.setCell ⟨gs,q,none⟩ (.bool true)).heap.size=wr.heap.size:=by simp[World.setCell]
 refine⟨⟨h.gv.below.setCell (p:=⟨gs,q,none⟩) (by show w.heap.size≤gs;omega) _,?_,?_,?_,fun k hk=>?_⟩,?_,cs.setIfInBounds q (.bool true),?_,?_,fun j hj=>?_⟩;·rw[Below.heap_setCell _ _ _ _ (by show w.heap.size≠gs;omega)];exact h.gv.box
 ·rw[Below.heap_setCell _ _ _ _ (by show w.heap.size+1≠gs;omega)];exact h.gv.out
 ·refine⟨fun k hk=>?_,fun i hi=>by rw[frozen_set];exact h.gv.row.free i hi,by rw[hz];exact h.gv.row.lt⟩
  have hne:=hgs (by omega);obtain⟨q1,q2,q3⟩:=h.gv.row.cell k hk;exact⟨by rw[cell_set_lit (Or.inl hne)];exact q1,by rw[cell_set_lit (Or.inl hne)];exact q2,by rw[cell_set_lit (Or.inl hne)];exact q3⟩
 ·rw[hz];exact kel_bool (h.gv.kept k hk) hbit _
 ·rw[Below.heap_setCell _ _ _ _ (by show gp≠gs;exact hgp)];exact h.plan
 ·simp[World.setCell,Array.getElem?_modify,h1]
 ·simpa using h2
 rw[Array.getElem?_setIfInBounds];by_cases e:q=j
 ·subst e
  rw[if_pos rfl,if_pos (by omega)];simp
 rw[if_neg e,h3 j hj];have hne:¬(j:Int)=(q:Int):=by omega
 simp[hne]
end
end
end Go.Proofs.YtajmnlhfnhbleaaGreat
