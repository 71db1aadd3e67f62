/- Several texts of one proof, in their order. -/
import Derived.Test.YtajmnlhfnhbleaaGreatSSum19
namespace Go.Proofs.YtajmnlhfnhbleaaGreat
open Go.RowKit CurveMath
set_option linter.unusedVariables false
set_option maxHeartbeats 8000000
set_option maxRecDepth 10000
def PsO(B:Nat)(I:Nat→Prop)(np:Nat)(KV:Nat→Value)(UV:Nat→Nat→Value)(P:Ps):Prop:=∀s,s<B→I s→∀k,k<np→KeOff s (KV k) (P.m k) (UV k) (P.t k)
theorem PsO.put{B:Nat}{I:Nat→Prop}{np q:Nat}{KV:Nat→Value}{UV:Nat→Nat→Value}{P P':Ps}(h:PsO B I np KV UV P){r:Value}{UR:Nat→Value}(e3:∀k,k<np→k≠q→P'.m k=P.m k∧P'.t k=P.t k)(hr:∀s,s<B→I s→KeOff s r (P'.m q) UR (P'.t q)):
 PsO B I np (fun k=>if k=q then r else KV k) (fun k=>if k=q then UR else UV k) P':=fun s hs hI k hk=>by
 by_cases e:k=q
 ·subst e
  simp only[if_true];exact hr s hs hI
 ·simp only[if_neg e]
  rw[(e3 k hk e).1,(e3 k hk e).2];exact h s hs hI k hk
theorem GvInv.finO{w wr:World}{vb:Value}{av:Option Addr}{g np cap:Nat}{KV:Nat→Value}{UV:Nat→Nat→Value}{P:Ps}{I:Nat→Prop}(h:GvInv w wr vb av g np cap KV UV P){n:Nat}{PV:Nat→Value}{b:Bk}(hv:VeSl w w.heap.size vb n PV b)(ha:1≤np→av=some ⟨g,0,none⟩)(hg:1≤np→w.heap.size+1<g)(hc:np≤cap)(hn:np≤8)
 (hvo:∀s,s<w.heap.size→I s→VeOff s vb n PV b) (ho:PsO w.heap.size I np KV UV P) :
 MeshPostO w 0 n b np P I (.returned (.tuple #[.agg #[vb,.slice av np cap],.int .i64 0])) (put2 wr (w.heap.size+1) vb (.slice av np cap)):=by
 obtain⟨h1,vb',vl',n',np',PV',KV',UV',e,h2,h3,h4,h5⟩:=h.fin hv ha hg hc hn
 have hB:Below w.heap.size w (put2 wr (w.heap.size+1) vb (.slice av np cap)):=put2_below h.below (by omega)
 refine⟨hB,vb,.slice av np cap,n,np,PV,KV,UV,rfl,rfl,rfl,hv.up hB,?_,fun s hs hI=>⟨hvo s hs hI,?_,ho s hs hI⟩⟩
 ·by_cases h1:1≤np
  ·have hr:RowP (put2 wr (w.heap.size+1) vb (.slice av np cap)) g np KV P:=by
    have hg1:=hg h1;refine⟨fun k hk=>?_,fun i hi=>by unfold put2;rw[frozen_set,frozen_set];exact h.row.free i hi,by rw[put2_size];exact h.row.lt⟩;obtain⟨q1,q2,q3⟩:=h.row.cell k hk;unfold put2;exact⟨by rw[cell_set_lit (Or.inl (by omega)),cell_set_lit (Or.inl (by omega))];exact q1,by rw[cell_set_lit (Or.inl (by omega)),cell_set_lit (Or.inl (by omega))];exact q2,by rw[cell_set_lit (Or.inl (by omega)),cell_set_lit (Or.inl (by omega))];exact q3⟩
   exact hr.sl ha hc (by omega) fun k hk=>kel_put2 h.out (h.kept k hk) _ _
  exact⟨av,cap,rfl,⟨hc,by omega⟩,Or.inl (by omega)⟩
 ·by_cases h1:1≤np
  ·have hg1:=hg h1
   rw[ha h1];refine Or.inr fun ad n' c e=>?_;injection e with e;injection e with e;subst e;show g≠s;omega
  exact Or.inl (by omega)
theorem mesh_noneO{w w':World}{er:Int}{n:Nat}{b:Bk}{np:Nat}{P:Ps}{I:Nat→Prop}(hb:Below w.heap.size w w')(he:er≠0):MeshPostO w er n b np P I (.returned (.tuple #[.agg #[.slice none 0 0,.slice none 0 0],.int .i64 er])) w' :=
 ⟨hb,.slice none 0 0,.slice none 0 0,0,0,fun _=>.int .i64 0,fun _=>.int .i64 0,fun _ _=>.int .i64 0,rfl,by rw[if_neg he],by rw[if_neg he],⟨none,0,rfl,⟨Nat.le_refl _,by omega⟩,Or.inl rfl⟩,⟨none,0,rfl,⟨Nat.le_refl _,by omega⟩,Or.inl rfl⟩,fun s _ _=>⟨⟨Or.inl rfl,fun j hj=>absurd hj (Nat.not_lt_zero _)⟩,Or.inl rfl,fun k hk=>absurd hk (Nat.not_lt_zero _)⟩⟩
theorem mesh_outO{w w1 w':World}{er:Int}{n:Nat}{b:Bk}{np:Nat}{P:Ps}{I I1:Nat→Prop}{vb vl:Value}(hb:Below w.heap.size w w1)(h:MeshPostO w1 er n b np P I1 (.returned (.tuple #[.agg #[vb,vl],.int .i64 er])) w')(hI:∀s,s<w.heap.size→I s→I1 s){g:Nat}{T:TypeId}{a0 a1:Option Addr}{n0 c0 n1 c1:Nat}(hg:w'.heap[g]?=some (.cells #[.slice a0 n0 c0,.slice a1 n1 c1] T (0,0)))(hwg:w.heap.size≤g):
 MeshPostO w er n b np P I (.returned (.tuple #[.agg #[vb,vl],.int .i64 er])) (put2 w' g vb vl):=by
 obtain⟨h1,vb',vl',n',np',PV,KV,UV,e,h2,h3,h4,h5,h6⟩:=h
 injection e with e
 injection e with e
 have e1 : #[Value.agg #[vb,vl],.int .i64 er]=#[meshV vb' vl',.int .i64 er]:=e
 unfold meshV at e1
 simp at e1
 obtain⟨rfl,rfl⟩:=e1
 refine⟨put2_below (hb.trans (h1.mono hb.size)) hwg,vb,vl,n',np',PV,KV,UV,rfl,h2,h3,?_,ps_put2 hg h5 _ _,fun s hs hIs=>h6 s (Nat.lt_of_lt_of_le hs hb.size) (hI s hs hIs)⟩
 have h4':=h4
 obtain⟨a,c,rfl,_⟩:=h4'
 exact ve_put2 hg h4 _
theorem given_anyO(I:Nat→Prop)(vb:Value)(n:Nat)(PV:Nat→Value)(b:Bk)(vl:Value)(np:Nat)(KV:Nat→Value)(UV:Nat→Nat→Value)(P:Ps)(ver:Int)(vs:Value)(cnt:Nat)(SN:Nat→Int)(SV:Nat→Value)(SL:Nat→Nat)(SX:Nat→Nat→Int)(w:World)
 (hv:VeSl w w.heap.size vb n PV b) (hl:PsSl w w.heap.size vl np KV UV P) (hs:ShSl w w.heap.size vs cnt SN SV SL SX) (hR:MeshR n b np P) (hver:0≤ver∧ver<(n:Int)) (hvo:∀s,s<w.heap.size→I s→VeOff s vb n PV b) (hlo:PsO w.heap.size I np KV UV P) (hso:∀s,s<w.heap.size→I s→∀j,j<cnt→OfB s (SL j) (SV j)) (hS:∀j,j<cnt→oneE (b.nd ver.toNat) (b.of ver.toNat) (b.sz ver.toNat) (SN j) (SL j) (SX j)=0) :
 Calls Tryz.prog 93 #[meshV vb vl,.int .i64 ver,vs] w (MeshPostO w (manyE P ver np (cnt:Int)) n b np (giveP P ver (forA P ver np cnt) SN SL SX cnt) I):=by
 have hb0:=((Below.refl w.heap.size w).alloc (Nat.le_refl _) (.cells #[vb,vl] 27)).alloc (by simp) (.cells #[.slice none 0 0,.slice none 0 0] 27)
 have k1:=heap_two_old w (.cells #[vb,vl] 27) (.cells #[.slice none 0 0,.slice none 0 0] 27)
 have k2:=heap_two_new w (.cells #[vb,vl] 27) (.cells #[.slice none 0 0,.slice none 0 0] 27)
 obtain⟨W0,hW0⟩:∃W,(w.alloc (.cells #[vb,vl] 27)).alloc (.cells #[.slice none 0 0,.slice none 0 0] 27)=W:=⟨_,rfl⟩
 rw[hW0]at hb0 k1 k2
 have HV:=hid hv
 have HVo:=hid hvo
 have HLo:=hid hlo
 have HSo:=hid hso
 have HL:=hid hl
 have HSh:=hid hs
 have HR:=hid hR
 have HS:=hid hS
 obtain⟨ad,cap0,rfl,_,_⟩:=hv
 obtain⟨al,cl,rfl,_,_⟩:=hl
 obtain⟨ash,csh,rfl,_,hxs⟩:=hs
 have CP:=hid (placesFor_any _ np KV UV P ver (cnt:Int) W0 hR.few (fun k hk=>⟨(hR.peer k hk).room_,(hR.peer k hk).few⟩) (HL.out.up hb0))
 obtain⟨c,hc⟩:∃c,manyE P ver np (cnt:Int)=c:=⟨_,rfl⟩
 rw[hc]at CP ⊢
 have HC:=hid hc
 obtain⟨m0,m1⟩:=two_at k1
 have B0:=hid hb0
 have K1:=hid k1
 have K2:=hid k2
 have HXs:=hid hxs
 have hnp8:=hR.few
 clear hb0 k1 k2 hc hxs hR hS hvo hlo hso
 unfold meshV
 go_enter Tryz.func93,Tryz.ntmps93
 go_wp2_with fail
 refine Calls.mono CP.out ?_
 rintro e W ⟨hbW,va,rfl,hva⟩
 have B1:=hid (B0.out.trans (hbW.mono B0.out.size))
 have d1:=stayB K1.out hbW
 have d2:=stayB K2.out hbW
 have D1:=hid d1
 have D2:=hid d2
 have HVa:=hid hva
 obtain⟨aa,ca,rfl,⟨_,hbiga⟩,_⟩:=hva
 clear hbW m0 m1 CP
 by_cases h0:c=0
 ·subst h0
  obtain⟨hfe,_,hfl⟩:=forL_len HC.out;have hlen:(forL P ver np (cnt:Int)).length=cnt:=by rw[hfe];omega
  have HLen:=hid hlen;rw[hlen]at HVa hbiga ⊢;obtain⟨m0,m1⟩:=two_at d1;have fm:=frozen_at (i:=1) d1;have CC:=hid (cloneP (HL.out.up B1.out) (by omega));clear d1 d2 hfe hfl hlen;go_wp2_with fail
  refine Calls.mono CC.out ?_;rintro e W2 ⟨v2,rfl,hown,hb2⟩;have B2:=hid (B1.out.trans (hb2.mono B1.out.size));have e1:=stayB D1.out hb2;have e2:=stayB D2.out hb2;obtain⟨av,g,cap,rfl,hav,hcap,hrow⟩:=rowP_any hown (Array.getElem?_eq_some_iff.1 e1).1;obtain⟨m0,m1⟩:=two_at e1;have fm:=frozen_at (i:=1) e1;obtain⟨Y,hY⟩:∃Y,W2.setCell ⟨w.heap.size,1,none⟩ (.slice av np cap)=Y:=⟨_,rfl⟩;have hs1:w.heap.size+1<W.heap.size:=(Array.getElem?_eq_some_iff.1 D2.out).1;have hgw:1≤np→w.heap.size+1<g:=fun h=>by have:=(hav h).2;omega
  have GI:Hid (GvInv w Y (.slice ad n cap0) av g np cap KV UV P):=by
   show GvInv _ _ _ _ _ _ _ _ _ _;rw[←hY];have hz:(W2.setCell ⟨w.heap.size,1,none⟩ (.slice av np cap)).heap.size=W2.heap.size:=by simp[World.setCell]
   have hbY:Below w.heap.size w (W2.setCell ⟨w.heap.size,1,none⟩ (.slice av np cap)):=B2.out.setCell (p:=⟨w.heap.size,1,none⟩) (Nat.le_refl _) _;refine⟨hbY,?_,?_,?_,fun k hk=>?_⟩;·simp[World.setCell,Array.getElem?_modify,e1]
   ·rw[Below.heap_setCell _ _ _ _ (by show w.heap.size+1≠w.heap.size;omega)];exact e2
   ·by_cases hn:1≤np
    ·have hg:=hgw hn
     refine⟨fun k hk=>?_,fun i hi=>by rw[frozen_set];exact hrow.free i hi,by rw[hz];exact hrow.lt⟩;obtain⟨q1,q2,q3⟩:=hrow.cell k hk;exact⟨by rw[cell_set_lit (Or.inl (by omega))];exact q1,by rw[cell_set_lit (Or.inl (by omega))];exact q2,by rw[cell_set_lit (Or.inl (by omega))];exact q3⟩
    exact⟨fun k hk=>(by omega),fun i hi=>(by omega),by rw[hz];exact hrow.lt⟩
   obtain⟨_,_,_,_,_,_,_,hke⟩:=HL.out.at hk;exact hke.up hbY
  have HAv:=hid hav;have HGw:=hid hgw;have HIa:Hid (IntSl Y Y.heap.size (.slice aa cnt ca) cnt (forA P ver np cnt)):=by
   show IntSl _ _ _ _ _;have h9:=(HVa.out.up hb2);have h8:IntSl Y Y.heap.size (.slice aa cnt ca) cnt (fun j=>(forL P ver np (cnt:Int)).getD j 0):=by
    have hz:Y.heap.size=W2.heap.size:=by rw[←hY];simp[World.setCell]
    rw[hz,←hY];exact isl_slice h9 m1 _
   exact h8
  clear hav hgw hown hb2 e1 e2 hrow D1 D2 CC HVa;go_wp2;clear m0 m1 fm hY;go_loopw [31] (fun iv wr=>∃(i:Nat) (KVi:Nat→Value) (UVi:Nat→Nat→Value),i≤cnt∧iv=.int .i64 i∧Hid (GvInv w wr (.slice ad n cap0) av g np cap KVi UVi (giveP P ver (forA P ver np cnt) SN SL SX i))∧Hid (PsO w.heap.size I np KVi UVi (giveP P ver (forA P ver np cnt) SN SL SX i))∧Hid (IntSl wr wr.heap.size (.slice aa cnt ca) cnt (forA P ver np cnt))) (fun iv _=>cnt-(intOf iv).toNat)
  case atStart=>exact⟨0,KV,UV,Nat.zero_le _,rfl,(by show GvInv _ _ _ _ _ _ _ _ _ _;rw[giveP_zero];exact GI.out),(by show PsO _ _ _ _ _ _;rw[giveP_zero];exact HLo.out),HIa⟩
  case round =>
   obtain⟨i,KVi,UVi,hi,rfl,GR,GO,HIr⟩:=hrel;by_cases hlt:i<cnt
   ·have hii:(i:Int)<(cnt:Int):=by omega
    obtain⟨q,hAq,hqn,hmay,hleft⟩:=forA_at HC.out hlt;have hne9:∀j,j<i→forA P ver np cnt j≠forA P ver np cnt i:=fun j hj=>forA_ne HC.out hj hlt;obtain⟨hav,_⟩:=HAv.out (by omega);subst hav;have hgw:=HGw.out (by omega);have hold:=giveP_old (P:=P) (ver:=ver) (A:=forA P ver np cnt) (SN:=SN) (SL:=SL) (SX:=SX) (i:=i) (k:=q) (fun j hj e=>hne9 j hj (by rw[e,hAq]));obtain⟨ak,ck,hKq⟩:=GR.out.slices hqn;rw[hold.1]at hKq;obtain⟨r1,r2,r3⟩:=GR.out.row.cell q hqn;rw[hKq]at r3;have hkeq:=GR.out.kept q hqn;rw[hold.1,hold.2,hKq]at hkeq;have HKe:=hid hkeq;have hia:=HIr.out;obtain⟨aa',ca',hea,_,hxa⟩:=hia;injection hea with hea1 _ hea3;subst hea1 hea3;rcases hxa with h0|⟨ba,oa,rfl,hba,hxa⟩;·omega
    have a1:=hxa i hlt;rw[hAq]at a1;rcases HXs.out with h0|⟨bs,os,rfl,hbs,hxs⟩;·omega
    obtain⟨s1,s2,s3⟩:=hxs i hlt;have HIs:Hid (∀u,Below w.heap.size w u→IntSl u u.heap.size (SV i) (SL i) (SX i)):=fun u hb=>s3.up hb;obtain⟨ap,cp,hpe,_,_⟩:=s3;rw[hpe]at s2 HIs;have HPe:=hid hpe;have t1:wr.cell? ⟨bs,os+i*2,none⟩=some (.int .i64 (SN i)):=by rw[GR.out.below.cell hbs];exact s1
    have t2:wr.cell? ⟨bs,os+i*2+1,none⟩=some (.slice ap (SL i) cp):=by rw[GR.out.below.cell hbs];exact s2
    obtain⟨m0,m1⟩:=two_at GR.out.box;have hbsz:w.heap.size<wr.heap.size:=cell_lt m0;have hbw:bs<w.heap.size:=hbs;have hne:Nonempty (Of (fun u=>wr.grownBy u (some g))):=⟨⟨wr,rfl,rfl,rfl,Nat.le_refl _,fun _ _ _=>rfl⟩⟩;have F0:∀u:Of (fun u=>wr.grownBy u (some g)),u.val.cell? ⟨w.heap.size,0,none⟩=some (.slice ad n cap0):=fun u=>u.is.cell m0 (by simp;omega);have F1:∀u:Of (fun u=>wr.grownBy u (some g)),u.val.cell? ⟨w.heap.size,1,none⟩=some (.slice (some ⟨g,0,none⟩) np cap):=fun u=>u.is.cell m1 (by simp;omega);have F2:∀u:Of (fun u=>wr.grownBy u (some g)),u.val.cell? ⟨bs,os+i*2,none⟩=some (.int .i64 (SN i)):=fun u=>u.is.cell t1 (by simp;omega);have F3:∀u:Of (fun u=>wr.grownBy u (some g)),u.val.cell? ⟨bs,os+i*2+1,none⟩=some (.slice ap (SL i) cp):=fun u=>u.is.cell t2 (by simp;omega)
    have hqi:(q:Int)<(np:Int):=by omega
    have HAq:=hid hAq;have HNe:=hid hne9;have HMay:=hid hmay;have HLeft:=hid hleft;have HGw1:=hid hgw;have HOld:=hid hold;have HKq:=hid hKq;have HRow:=hid (And.intro r1 (And.intro r2 r3));clear hAq hne9 hmay hleft hold hKq hkeq hxa hxs s1 s2 hpe r1 r2 r3 t1 t2 m0 m1;go_wp2_with fail
    refine region_mixed (fun u=>wr.grownBy u (some g)) [([0,1,2,3,4,5,6,7,8,10,11,12,13,14,15],9),([],16),([17,18,19,20],21)] [22] (by kernel_rfl) (by kernel_rfl) (drew_grown wr _) ?_;have hb0:=drew_below wr;obtain⟨U0,hU0⟩:∃U,wr.drew=U:=⟨_,rfl⟩;rw[hU0]at hb0 ⊢;have HU0:=hid hb0;have HBU:=hid (GR.out.below.trans (hb0.mono GR.out.below.size));have y1:U0.cell? ⟨g,q*3,none⟩=some (.bool (P.th q)):=by rw[hb0.cell GR.out.row.lt];exact HRow.out.1
    have y2:U0.cell? ⟨g,q*3+1,none⟩=some (.int .i64 (P.rm q)):=by rw[hb0.cell GR.out.row.lt];exact HRow.out.2.1
    have y3:U0.cell? ⟨g,q*3+2,none⟩=some (.slice ak (P.m q) ck):=by rw[hb0.cell GR.out.row.lt];exact HRow.out.2.2
    have CS:=hid (keeps_anyO _ n PV b (P.th q) (P.rm q) _ (P.m q) _ (P.t q) ver (SN i) _ (SL i) (SX i) U0 (HV.out.up HBU.out) (HKe.out.up hb0) (HIs.out _ HBU.out));unfold bookV peerV keptV at CS;clear hU0 hb0;refine mixO_cons ?_;repeat(go_big_quiet_step (fail))
    refine wpQuiet_nil ?_;intro K hK;go_wp2;refine⟨rfl,hK _ _ (grown_of_below HU0.out _) ?_⟩;clear hK K;refine mixO_cons (lq:=[]) ?_ rfl;refine wpQuiet_nil ?_;intro K hK;go_wp2_with fail
    refine Calls.mono CS.out ?_;rintro e U1 ⟨hb1,er,th',room',r,m',UR,t',rfl,hkr,hto,hof⟩;have hlf:=HLeft.out;unfold leftK at hlf;obtain⟨rfl,rfl,rfl,rfl,rfl⟩:=keepsTo_ok hto (HR.out.peer q hqn) (by omega) HMay.out.2 hver (HS.out i hlt);have HKr:=hid hkr;obtain⟨ar,cr,rfl,_,_⟩:=hkr;have hb01:=HU0.out.trans (hb1.mono HU0.out.size);have G1:=hid (GR.out.up hb01);have HI1:=hid (HIr.out.up hb01);have HB1:=hid hb01;obtain⟨z1,z2,z3⟩:=G1.out.row.cell q hqn;rw[HKq.out]at z3;have z1':U1.cell? ⟨g,q*3,none⟩=some (.bool (P.th q)):=z1;have z2':U1.cell? ⟨g,q*3+1,none⟩=some (.int .i64 (P.rm q)):=z2;have S1:=setCell_same z1';have S2:=setCell_same z2';have f1:=G1.out.row.free (q*3) (by omega);have f2:=G1.out.row.free (q*3+1) (by omega);have f3:=G1.out.row.free (q*3+2) (by omega)
    obtain⟨Y,hY⟩:∃Y,U1.setCell ⟨g,q*3+2,none⟩ (.slice ar (P.m q+1) cr)=Y:=⟨_,rfl⟩;have HYi:Hid (IntSl Y Y.heap.size (.slice (some ⟨ba,oa,none⟩) cnt ca) cnt (forA P ver np cnt)):=by
     show IntSl _ _ _ _ _;have hz:Y.heap.size=U1.heap.size:=by rw[←hY];simp[World.setCell]
     rw[hz,←hY];exact isl_slice HI1.out z3 _
    have HYg:Hid (GvInv w Y (.slice ad n cap0) (some ⟨g,0,none⟩) g np cap (fun k=>if k=q then .slice ar (P.m q+1) cr else KVi k) (fun k=>if k=q then UR else UVi k) (giveP P ver (forA P ver np cnt) SN SL SX (i+1))):=by
     show GvInv _ _ _ _ _ _ _ _ _ _;rw[←hY];have hst:=fun k=>giveP_succ (P:=P) (ver:=ver) (A:=forA P ver np cnt) (SN:=SN) (SL:=SL) (SX:=SX) (i:=i) (k:=k) HNe.out;refine G1.out.put HGw1.out hqn ⟨_,_,_,HKq.out⟩ rfl rfl (fun k hk hkq=>?_) ?_
     ·have hne2:¬forA P ver np cnt i=(k:Int):=by rw[HAq.out];omega
      rw[(hst k).1,(hst k).2,if_neg hne2,if_neg hne2];exact⟨rfl,rfl⟩
     rw[(hst q).1,(hst q).2,if_pos HAq.out,if_pos HAq.out];exact HKr.out
    have HOf:Hid (∀s,s<w.heap.size→I s→KeOff s (.slice ar (P.m q+1) cr) (P.m q+1) UR (keepT (P.t q) (P.m q) ver (SN i) (SL i) (SX i))):=fun s hs hI=>hof s (Nat.lt_of_lt_of_le hs HBU.out.size) (by
     have h9:=(GO.out s hs hI q hqn).2;rw[HOld.out.1,HOld.out.2]at h9;exact h9) (by
     have h9:=HSo.out s hs hI i hlt;rw[HPe.out]at h9;exact h9)
    have HYo:Hid (PsO w.heap.size I np (fun k=>if k=q then .slice ar (P.m q+1) cr else KVi k) (fun k=>if k=q then UR else UVi k) (giveP P ver (forA P ver np cnt) SN SL SX (i+1))):=by
     show PsO _ _ _ _ _ _;have hst:=fun k=>giveP_succ (P:=P) (ver:=ver) (A:=forA P ver np cnt) (SN:=SN) (SL:=SL) (SX:=SX) (i:=i) (k:=k) HNe.out;refine GO.out.put (fun k hk hkq=>?_) ?_
     ·have hne2:¬forA P ver np cnt i=(k:Int):=by rw[HAq.out];omega
      rw[(hst k).1,(hst k).2,if_neg hne2,if_neg hne2];exact⟨rfl,rfl⟩
     rw[(hst q).1,(hst q).2,if_pos HAq.out,if_pos HAq.out];exact HOf.out
    have HYd:Hid (wr.grownBy Y (some g)):=by
     show World.grownBy _ _ _;rw[←hY];have h9:wr.grownBy U1 (some g):=(grown_of_below HB1.out _);exact⟨h9.os,h9.tape,h9.output,by simpa[World.setCell]using h9.size,fun k hk hkg=>by rw[Below.heap_setCell _ _ _ _ (by show k≠g;intro e;exact hkg (by rw[e]))];exact h9.block k hk hkg⟩
    clear hb1 hto hb01 y1 y2 y3 z1 z2 hof;unfold peerV;go_wp2;refine⟨rfl,hK _ _ (grown_of_below HB1.out _) ?_⟩;clear hK K;refine mixO_cons ?_;repeat(go_big_quiet_step (fail))
    refine wpQuiet_nil ?_;intro K hK;go_wp2;refine⟨rfl,hK _ _ HYd.out ?_⟩;clear hK K;refine mixO_nil ?_;repeat(go_big_quiet_step (fail))
    refine wpQuiet_nil ?_;clear F0 F1 F2 F3 hne z1' z2' z3 S1 S2 f1 f2 f3 hY;go_wp2;go_roundw
    case rel=>exact⟨i+1,_,_,by omega,by go_num,HYg,HYo,HYi⟩
    case measure=>simp only[intOf];omega
   have hie:cnt=i:=by omega
   subst hie;obtain⟨m0,m1⟩:=two_at GR.out.box;obtain⟨r1,r2⟩:=two_at GR.out.out;have f1:=frozen_at (i:=0) GR.out.out;have f2:=frozen_at (i:=1) GR.out.out;go_wp2;refine ret2 (put2_whole GR.out.out _ _) Tryz.underlying27 ?_;exact GR.out.finO HV.out (fun h=>(HAv.out h).1) HGw.out hcap hnp8 HVo.out GO.out
 ·have hcb:(c != 0)=true:=by simpa using h0
  have H0:=hid h0;obtain⟨r1,r2⟩:=two_at d2;have f1:=frozen_at (i:=0) d2;have f2:=frozen_at (i:=1) d2;clear h0 d1 d2;go_wp2;refine ret2 (put2_whole D2.out _ _) Tryz.underlying27 ?_;exact mesh_noneO (put2_below B1.out (by omega)) H0.out
end Go.Proofs.YtajmnlhfnhbleaaGreat
