/- Several texts of one proof, in their order. -/
import Derived.Test.YtajmnlhfnhbleaaGreatKw35
import Derived.Test.YtajmnlhfnhbleaaGreatKw36
namespace Go.Proofs.YtajmnlhfnhbleaaGreat
open Go.RowKit Go.Maps CurveMath
set_option linter.unusedVariables false
set_option maxHeartbeats 4000000
set_option maxRecDepth 10000
theorem meshN_out{w w1 w':World}{er:Int}{n:Nat}{b:Bk}{np:Nat}{P:Ps}{vb vl:Value}(hb:Below w.heap.size w w1)(h:MeshPostN w1 er n b np P (.returned (.tuple #[.agg #[vb,vl],.int .i64 er])) w'){g:Nat}{T:TypeId}{a0 a1:Option Addr}{n0 c0 n1 c1:Nat}(hg:w'.heap[g]?=some (.cells #[.slice a0 n0 c0,.slice a1 n1 c1] T (0,0)))(hwg:w.heap.size≤g):
 MeshPostN w er n b np P (.returned (.tuple #[.agg #[vb,vl],.int .i64 er])) (put2 w' g vb vl):=by
 obtain⟨h1,vb',vl',n',np',PV,KV,UV,e,h2,h3,h4,h5,h6,hvo⟩:=h
 injection e with e
 injection e with e
 have e1 : #[Value.agg #[vb,vl],.int .i64 er]=#[meshV vb' vl',.int .i64 er]:=e
 unfold meshV at e1
 simp at e1
 obtain⟨rfl,rfl⟩:=e1
 refine⟨put2_below (hb.trans (h1.mono hb.size)) hwg,vb,vl,n',np',PV,KV,UV,rfl,h2,h3,?_,ps_put2 hg h5 _ _,?_,fun s hs=>hvo s (Nat.lt_of_lt_of_le hs hb.size)⟩
 ·have h4':=h4
  obtain⟨a,c,rfl,_⟩:=h4';exact ve_put2 hg h4 _
 ·have h7:NewP w.heap.size w' vl np' KV UV P:=⟨h6.1.mono hb.size,fun k hk=>⟨(h6.2 k hk).1.mono hb.size,fun i hi=>((h6.2 k hk).2 i hi).imp id fun h=>h.mono hb.size⟩⟩
  unfold put2;exact(h7.setS _ _).setS _ _
theorem meshW_out{w w1 w':World}{er:Int}{n:Nat}{b:Bk}{np:Nat}{P:Ps}{C:Prop}{ver:Int}{vb vl:Value}(hb:Below w.heap.size w w1)(h:MeshPostW w1 er n b np P C ver (.returned (.tuple #[.agg #[vb,vl],.int .i64 er])) w'){g:Nat}{T:TypeId}{a0 a1:Option Addr}{n0 c0 n1 c1:Nat}(hg:w'.heap[g]?=some (.cells #[.slice a0 n0 c0,.slice a1 n1 c1] T (0,0)))(hwg:w.heap.size≤g):
 MeshPostW w er n b np P C ver (.returned (.tuple #[.agg #[vb,vl],.int .i64 er])) (put2 w' g vb vl):=by
 obtain⟨h1,vb',vl',n',np',PV,KV,UV,e,h2,h3,h4,h5,h6,h9,hvo⟩:=h
 injection e with e
 injection e with e
 have e1 : #[Value.agg #[vb,vl],.int .i64 er]=#[meshV vb' vl',.int .i64 er]:=e
 unfold meshV at e1
 simp at e1
 obtain⟨rfl,rfl⟩:=e1
 refine⟨put2_below (hb.trans (h1.mono hb.size)) hwg,vb,vl,n',np',PV,KV,UV,rfl,h2,h3,?_,ps_put2 hg h5 _ _,?_,h9,fun s hs=>hvo s (Nat.lt_of_lt_of_le hs hb.size)⟩
 ·have h4':=h4
  obtain⟨a,c,rfl,_⟩:=h4';exact ve_put2 hg h4 _
 ·have h7:NewP w.heap.size w' vl np' KV UV P:=⟨h6.1.mono hb.size,fun k hk=>⟨(h6.2 k hk).1.mono hb.size,fun i hi=>((h6.2 k hk).2 i hi).imp id fun h=>h.mono hb.size⟩⟩
  unfold put2;exact(h7.setS _ _).setS _ _
theorem msSave(vb:Value)(n:Nat)(PV:Nat→Value)(b:Bk)(vl:Value)(np:Nat)(KV:Nat→Value)(UV:Nat→Nat→Value)(P:Ps)(vd:Value)(len:Nat)(D:Nat→Int)(vp:Value)(lp:Nat)(X:Nat→Int)(need of:Int)(w:World)
 (hv:VeSl w w.heap.size vb n PV b) (hl:PsSl w w.heap.size vl np KV UV P) (hd:IntSl w w.heap.size vd len D) (hp:IntSl w w.heap.size vp lp X) :
 Calls Tryz.prog 37 #[meshV vb vl,vd,vp,.int .i64 need,.int .i64 of] w (MeshPostW w (saveE n b np P need of len D lp X) (n+1) (saveB n b need of len lp X) np (saveP n np P need of len D) (NoneOf P np (n:Int)) (n:Int)):=by
 have hb0:=((Below.refl w.heap.size w).alloc (Nat.le_refl _) (.cells #[vb,vl] 27)).alloc (by simp) (.cells #[.slice none 0 0,.slice none 0 0] 27)
 have k1:=heap_two_old w (.cells #[vb,vl] 27) (.cells #[.slice none 0 0,.slice none 0 0] 27)
 have k2:=heap_two_new w (.cells #[vb,vl] 27) (.cells #[.slice none 0 0,.slice none 0 0] 27)
 obtain⟨W0,hW0⟩:∃W,(w.alloc (.cells #[vb,vl] 27)).alloc (.cells #[.slice none 0 0,.slice none 0 0] 27)=W:=⟨_,rfl⟩
 rw[hW0]at hb0 k1 k2
 have HV:=hid hv
 have HL:=hid hl
 have HDt:=hid hd
 have HPa:=hid hp
 obtain⟨ad,cap0,rfl,⟨_,hbv⟩,_⟩:=hv
 obtain⟨al,cl,rfl,_,_⟩:=hl
 obtain⟨adt,cdt,rfl,⟨_,hbd⟩,_⟩:=hd
 obtain⟨apa,cpa,rfl,_,_⟩:=hp
 have CK:=hid (msCheck _ n PV b _ np KV UV P W0 (HV.out.up hb0) (HL.out.up hb0))
 obtain⟨er,her⟩:∃c,saveE n b np P need of len D lp X=c:=⟨_,rfl⟩
 rw[her]
 unfold saveE at her
 obtain⟨c,hc⟩:∃c,peersE n b np P=c:=⟨_,rfl⟩
 rw[hc]at CK her
 have HC:=hid hc
 have HEr:=hid her
 obtain⟨m0,m1⟩:=two_at k1
 have B0:=hid hb0
 have K1:=hid k1
 have K2:=hid k2
 clear hb0 k1 k2 hc her
 unfold meshV at CK
 unfold meshV
 go_enter Tryz.func37,Tryz.ntmps37
 go_wp2_with fail
 refine Calls.mono CK.out ?_
 rintro e W ⟨rfl,hbW⟩
 have B1:=hid (B0.out.trans (hbW.mono B0.out.size))
 have d1:=stayB K1.out hbW
 have d2:=stayB K2.out hbW
 have D1:=hid d1
 have D2:=hid d2
 clear hbW m0 m1 CK hW0
 by_cases h0:c=0
 ·subst h0
  have hE1:=HEr.out;rw[if_pos rfl]at hE1;have HE1:=hid hE1;have hbP:=below_alloc W (.cells #[.int .i64 need,.int .i64 of,.int .i64 (len:Int)] 59);have kp:=heap_alloc_new W (.cells #[.int .i64 need,.int .i64 of,.int .i64 (len:Int)] 59);obtain⟨W1,hW1⟩:∃W',W.alloc (.cells #[.int .i64 need,.int .i64 of,.int .i64 (len:Int)] 59)=W':=⟨_,rfl⟩;rw[hW1]at hbP kp;have B2:=hid (B1.out.trans (hbP.mono B1.out.size));have D1:=hid (stayB d1 hbP);have D2:=hid (stayB d2 hbP);have KP:=hid kp;have CSp:=hid (owes.split need of (len:Int) _ len D W1 (HDt.out.up B2.out));unfold planV at CSp;obtain⟨p0,p1,p2⟩:=three_at kp;clear d1 d2 hE1 hbP kp;go_wp2_with fail
  refine Calls.mono CSp.out ?_;rintro e W2 ⟨hb2,vs,cnt,SV,rfl,hcnt,hsh,_,_⟩;have B3:=hid (B2.out.trans (hb2.mono B2.out.size));have d1:=stayB D1.out hb2;have d2:=stayB D2.out hb2;have kp:=stayB KP.out hb2;have D1:=hid d1;have D2:=hid d2;have HSh:=hid hsh;obtain⟨ash,csh,rfl,_,_⟩:=hsh;obtain⟨c2,hc2⟩:∃c,splitE need of (len:Int) len D=c:=⟨_,rfl⟩;have hE1:=HE1.out;rw[hc2]at hE1 hcnt;rw[hc2];have HC2:=hid hc2;clear hb2 p0 p1 p2 CSp hc2 hW1;by_cases h2:c2=0
  ·subst h2
   rw[if_pos rfl]at hE1 hcnt;have HE2:=hid hE1;have HCnt:=hid hcnt;obtain⟨m0,m1⟩:=two_at d1;obtain⟨p0,p1,p2⟩:=three_at kp;have CA:=hid (bkAdd _ n PV b _ lp X need of (len:Int) W2 (HV.out.up B3.out) (HPa.out.up B3.out));unfold bookV verV at CA;clear d1 d2 hE1 hcnt kp;go_wp2_with fail
   refine Calls.mono CA.out ?_;rintro e W3 ⟨hb3,rb,nb,QV,rfl,hnb,hvb⟩;unfold bookV;have HVb3:=hid hvb;obtain⟨ab,cb,rfl,_,_⟩:=hvb;have hb34:=below_alloc W3 (.cells #[.slice ab nb cb] 24);have kb:=heap_alloc_new W3 (.cells #[.slice ab nb cb] 24);obtain⟨W4,hW4⟩:∃u,World.alloc W3 (.cells #[.slice ab nb cb] 24)=u:=⟨_,rfl⟩;rw[hW4]at hb34 kb;have hb4:=hb3.trans (hb34.mono hb3.size);have B4:=hid (B3.out.trans (hb4.mono B3.out.size));have D14:=hid (stayB D1.out hb4);have D24:=hid (stayB D2.out hb4);have HSh4:=hid (HSh.out.up hb4);have HVb:=hid (HVb3.out.up hb34);have hR:=meshR_of HC.out;have hae:addE n b (snocB n b lp X need of (len:Int))=bookE (n+1) (saveB n b need of len lp X):=by unfold addE saveB;rw[if_pos hR.book]
   rw[hae]at hnb;have HR:=hid hR;obtain⟨c3,hc3⟩:∃c,bookE (n+1) (saveB n b need of len lp X)=c:=⟨_,rfl⟩;have hE2:=HE2.out;rw[hc3]at hE2 hnb;rw[hae,hc3];have HC3:=hid hc3;clear m0 m1 p0 p1 p2;obtain⟨m0,m1⟩:=two_at D14.out;have b0:W4.cell? ⟨W3.heap.size,0,none⟩=some (.slice ab nb cb):=cell_at kb rfl;obtain⟨r1,r2⟩:=two_at D24.out;have f1:=frozen_at (i:=0) D24.out;have f2:=frozen_at (i:=1) D24.out;clear hb3 hb34 hb4 hR CA hae hc3 kb;by_cases h3:c3=0
   ·subst h3
    rw[if_pos rfl]at hE2 hnb;subst hnb;have HE3:=hid hE2;obtain⟨hpl,_,_⟩:=splitE_ok HC2.out;have hofp:=(planOk_spec hpl).2.1;have hndp:=(planOk_spec hpl).1;have hof:(cnt:Int)=of:=HCnt.out;have hofn:of.toNat=cnt:=by omega
    have CG:=hid (msSpread _ (n+1) _ (saveB n b need of len lp X) _ np KV UV P (n:Int) _ cnt (fun k=>(k:Int)) SV (fun _=>rowsN need (len:Int)) (fun k i=>shv need.toNat len D k i) W4 HVb.out (HL.out.up B4.out) HSh4.out (HR.out.snoc HC3.out) ⟨by omega,by omega⟩ (fun j hj=>by
     have e1:(saveB n b need of len lp X).nd (n:Int).toNat=need:=by simp[saveB,snocB]
     have e2:(saveB n b need of len lp X).of (n:Int).toNat=of:=by simp[saveB,snocB]
     have e3:(saveB n b need of len lp X).sz (n:Int).toNat=(len:Int):=by simp[saveB,snocB]
     rw[e1,e2,e3];exact split_right HC2.out (by omega)))
    have hsv:giveP P (n:Int) (forA P (n:Int) np cnt) (fun k=>(k:Int)) (fun _=>rowsN need (len:Int)) (fun k i=>shv need.toNat len D k i) cnt=saveP n np P need of len D:=by unfold saveP;rw[hofn]
    rw[hsv,hof,HE3.out]at CG;unfold meshV at CG;clear hE2 hpl hofp hndp hof hofn hsv;go_wp2_with fail
    refine Calls.mono CG.out ?_;rintro e W5 hM;have HM:=hid hM;obtain⟨hb5,gb,gl,n5,np5,PV5,KV5,UV5,rfl,hn5,hnp5,hv5,hl5,_⟩:=hM;clear hn5 hnp5;obtain⟨a5,c5,rfl,_,_⟩:=hv5;obtain⟨a6,c6,rfl,_,_⟩:=hl5;unfold meshV at HM;have o5:=stayB D24.out hb5;have HO5:=hid o5;clear r1 r2 f1 f2;obtain⟨r1,r2⟩:=two_at o5;have f1:=frozen_at (i:=0) o5;have f2:=frozen_at (i:=1) o5;unfold meshV;clear hb5 o5;go_wp2;refine ret2 (put2_whole HO5.out _ _) Tryz.underlying27 ?_;exact meshW_out B4.out HM.out HO5.out (by omega)
   have hcb:(c3 != 0)=true:=by simpa using h3
   rw[if_neg h3]at hE2;have H3:=hid h3;have HE3:=hid hE2;clear h3 hE2 hnb;go_wp2;refine ret2 (put2_whole D24.out _ _) Tryz.underlying27 ?_;rw[←HE3.out];exact meshW_none (put2_below B4.out (by omega)) H3.out
  have hcb:(c2 != 0)=true:=by simpa using h2
  rw[if_neg h2]at hE1;have H2:=hid h2;have HE2:=hid hE1;obtain⟨r1,r2⟩:=two_at d2;have f1:=frozen_at (i:=0) d2;have f2:=frozen_at (i:=1) d2;clear h2 d1 d2 kp hE1 hcnt;go_wp2;refine ret2 (put2_whole D2.out _ _) Tryz.underlying27 ?_;rw[←HE2.out];exact meshW_none (put2_below B3.out (by omega)) H2.out
 ·have hcb:(c != 0)=true:=by simpa using h0
  have H0:=hid h0;have hE1:=HEr.out;rw[if_neg h0]at hE1;have HE1:=hid hE1;obtain⟨r1,r2⟩:=two_at d2;have f1:=frozen_at (i:=0) d2;have f2:=frozen_at (i:=1) d2;clear h0 d1 d2 hE1;go_wp2;refine ret2 (put2_whole D2.out _ _) Tryz.underlying27 ?_;rw[←HE1.out];exact meshW_none (put2_below B1.out (by omega)) H0.out
theorem msRepair(vb:Value)(n:Nat)(PV:Nat→Value)(b:Bk)(vl:Value)(np:Nat)(KV:Nat→Value)(UV:Nat→Nat→Value)(P:Ps)(k:Int)(w:World)(hv:VeSl w w.heap.size vb n PV b)(hl:PsSl w w.heap.size vl np KV UV P):
 Calls Tryz.prog 38 #[meshV vb vl,.int .i64 k] w (MeshPostN w (mendE n b np P k) n b np (mendP b np P k)):=by
 have hb0:=((Below.refl w.heap.size w).alloc (Nat.le_refl _) (.cells #[vb,vl] 27)).alloc (by simp) (.cells #[.slice none 0 0,.slice none 0 0] 27)
 have k1:=heap_two_old w (.cells #[vb,vl] 27) (.cells #[.slice none 0 0,.slice none 0 0] 27)
 have k2:=heap_two_new w (.cells #[vb,vl] 27) (.cells #[.slice none 0 0,.slice none 0 0] 27)
 obtain⟨W0,hW0⟩:∃W,(w.alloc (.cells #[vb,vl] 27)).alloc (.cells #[.slice none 0 0,.slice none 0 0] 27)=W:=⟨_,rfl⟩
 rw[hW0]at hb0 k1 k2
 have HV:=hid hv
 have HL:=hid hl
 obtain⟨ad,cap0,rfl,_,hxv⟩:=hv
 obtain⟨al,cl,rfl,_,_⟩:=hl
 have CR:=hid (msRestore _ n PV b _ np KV UV P k W0 (HV.out.up hb0) (HL.out.up hb0))
 obtain⟨er,her⟩:∃c,mendE n b np P k=c:=⟨_,rfl⟩
 rw[her]
 unfold mendE at her
 have HEr:=hid her
 obtain⟨m0,m1⟩:=two_at k1
 have B0:=hid hb0
 have K1:=hid k1
 have K2:=hid k2
 have HXv:=hid hxv
 clear hb0 k1 k2 her hxv
 unfold meshV at CR
 unfold meshV
 go_enter Tryz.func38,Tryz.ntmps38
 go_wp2_with fail
 refine Calls.mono CR.out ?_
 rintro e W ⟨hbW,vd,vbad,ld,rfl,hld,hvd,hbad⟩
 have B1:=hid (B0.out.trans (hbW.mono B0.out.size))
 have d1:=stayB K1.out hbW
 have d2:=stayB K2.out hbW
 have D1:=hid d1
 have D2:=hid d2
 have HVd:=hid hvd
 obtain⟨adt,cdt,rfl,_,_⟩:=hvd
 obtain⟨abd,cbd,rfl,_,_⟩:=hbad
 obtain⟨c,hc⟩:∃c,rsE n b np P k=c:=⟨_,rfl⟩
 have hE1:=HEr.out
 rw[hc]at hE1 hld
 rw[hc]
 have HC:=hid hc
 clear hbW m0 m1 CR hc hW0
 by_cases h0:c=0
 ·subst h0
  rw[if_pos rfl]at hE1 hld;have HE1:=hid hE1;obtain⟨hver,d,mo,sN,e1,e2,e3,hpl⟩:=rsE_ok HC.out;obtain⟨hR,hk0,hkn⟩:=verM_ok hver;obtain⟨q,rfl⟩:∃q:Nat,k=q:=⟨k.toNat,by omega⟩;rw[Int.toNat_natCast]at e1 e2 e3 hld;have hqn:q<n:=by omega
  have hki:(q:Int)<(n:Int):=by omega
  have hls:ld=sN:=by rw[e3]at hld;omega
  subst hls;have HR:=hid hR;have HPl:=hid hpl;have hps:=planOk_spec hpl;have HNd:=hid e1;have HOf:=hid e2;have HSz:=hid e3;rcases HXv.out with h0|⟨bv,ov,rfl,hbv,hxv⟩;·omega
  obtain⟨_,v1,v2,v3,_⟩:=hxv q hqn;rw[e1]at v1;rw[e2]at v2;rw[e3]at v3;have q1:W.cell? ⟨bv,ov+q*4+1,none⟩=some (.int .i64 (d:Int)):=by rw[B1.out.cell hbv];exact v1
  have q2:W.cell? ⟨bv,ov+q*4+2,none⟩=some (.int .i64 (mo:Int)):=by rw[B1.out.cell hbv];exact v2
  have q3:W.cell? ⟨bv,ov+q*4+3,none⟩=some (.int .i64 (ld:Int)):=by rw[B1.out.cell hbv];exact v3
  obtain⟨m0,m1⟩:=two_at d1;have CSp:=hid (owes.split (d:Int) (mo:Int) (ld:Int) _ ld (rsD b np P (q:Int)) W HVd.out);rw[split_ok hpl (fun j=>rsD_num b np P (q:Int) j)]at CSp;unfold planV at CSp;clear d1 d2 hE1 hxv v1 v2 v3 hld hver hR hpl e1 e2 e3;go_wp2_with fail
  refine Calls.mono CSp.out ?_;rintro e W2 ⟨hb2,vs,cnt,SV,rfl,hcnt,hsh,_,_⟩;rw[if_pos trivial]at hcnt;obtain rfl:cnt=mo:=by omega
  obtain⟨R,hRr⟩:∃R:Nat,rowsN (d:Int) (ld:Int)=R:=⟨_,rfl⟩;obtain⟨S,hSs⟩:∃S,rsS b np P (q:Int)=S:=⟨_,rfl⟩;have hsx:(fun(j:Nat) (r:Nat)=>shv (d:Int).toNat ld (rsD b np P (q:Int)) j r)=S:=by
   rw[←hSs];funext j r;unfold rsS;simp only[Int.toNat_natCast];rw[HNd.out,HSz.out];simp only[Int.toNat_natCast]
  rw[hsx,hRr]at hsh;have B2:=hid (B1.out.trans (hb2.mono B1.out.size));have d1:=stayB D1.out hb2;have D21:=hid d1;have D22:=hid (stayB D2.out hb2);have HSh:=hid hsh;obtain⟨ash,csh,rfl,_,_⟩:=hsh;have hNl:∀i,i<np→hasK P (q:Int) i=true→numK P (q:Int) i<(cnt:Int):=fun i hi hh=>by
   obtain⟨_,h1,h2⟩:=hasK_at hh;have h3:=((HR.out.peer i hi).right _ h1).2;unfold oneK at h3;rw[h2,Int.toNat_natCast,HNd.out,HOf.out,HSz.out]at h3;exact(oneE_ok h3).2.1.2
  have CSf:=hid (msSift _ n PV b _ np KV UV P (q:Int) _ cnt R SV S W2 (HV.out.up B2.out) (HL.out.up B2.out) HSh.out HR.out (by omega) hNl);have HRr:=hid hRr;have HSs:=hid hSs;clear m0 m1;obtain⟨m0,m1⟩:=two_at d1;unfold meshV at CSf;clear hb2 CSp q1 q2 q3 hsx d1 hNl hRr hSs hcnt;go_wp2_with fail
  refine Calls.mono CSf.out ?_;rintro e W3 ⟨hb3,vl2,vo,LV,VV,SV2,rfl,hl2,hs2⟩;have B3:=hid (B2.out.trans (hb3.mono B2.out.size));have d1:=stayB D21.out hb3;have D32:=hid (stayB D22.out hb3);have HL2:=hid hl2;have HS2:=hid hs2;obtain⟨al2,cl2,rfl,_,_⟩:=hl2;obtain⟨as2,cs2,rfl,_,_⟩:=hs2;clear m0 m1;obtain⟨m0,m1⟩:=two_at d1;have hof:lackK (repS P (q:Int) R S np) cnt=lackL P (q:Int) R S np cnt:=rfl;obtain⟨L,hL⟩:∃L,lackK (repS P (q:Int) R S np) cnt=L:=⟨_,rfl⟩;have hLlt:∀i,i<L.length→L.getD i 0<cnt:=fun i hi=>by rw[←hL]at hi ⊢;exact lackK_lt (getD_in (d:=0) hi)
  rw[hL]at HS2 hof;rw[hL];have CG:=hid (msSpread _ n PV b _ np LV VV (repP P (q:Int) R S np) (q:Int) _ L.length (fun i=>((L.getD i 0:Nat):Int)) SV2 (fun _=>R) (fun i=>S (L.getD i 0)) W3 (HV.out.up B3.out) HL2.out HS2.out (HR.out.rep (q:Int) R S np) ⟨by omega,by omega⟩ (fun i hi=>by
   rw[Int.toNat_natCast,HNd.out,HOf.out,HSz.out];have hlt9:=hLlt i hi;unfold oneE;rw[if_pos HPl.out,if_pos ⟨by omega,by omega⟩,if_pos (by rw[HRr.out]),if_pos];unfold numsB;refine decide_eq_true fun r _=>?_;rw[←HSs.out];unfold rsS isNum;exact decide_eq_true (shv_num _ _ _ _ _)))
  have hE9:manyE (repP P (q:Int) R S np) (q:Int) np (L.length:Int)=er:=by
   have h9:=HE1.out;rw[Int.toNat_natCast,HNd.out,HOf.out,HSz.out,HRr.out,HSs.out,Int.toNat_natCast]at h9;unfold fillE at h9;rw[hof];exact h9
  have hP9:giveP (repP P (q:Int) R S np) (q:Int) (forA (repP P (q:Int) R S np) (q:Int) np L.length) (fun i=>((L.getD i 0:Nat):Int)) (fun _=>R) (fun i=>S (L.getD i 0)) L.length=mendP b np P (q:Int):=by
   unfold mendP fillP;rw[Int.toNat_natCast,HNd.out,HOf.out,HSz.out,HRr.out,HSs.out,Int.toNat_natCast,hof]
  rw[hE9,hP9]at CG;unfold meshV at CG;clear hof hE9 hP9 hLlt hL hb3 d1 CSf;go_wp2_with fail
  refine Calls.mono CG.out ?_;rintro e W5 hM;replace hM:=hM.n;have HM:=hid hM;obtain⟨hb5,gb,gl,n5,np5,PV5,KV5,UV5,rfl,hn5,hnp5,hv5,hl5,_⟩:=hM;clear hn5 hnp5;obtain⟨a5,c5,rfl,_,_⟩:=hv5;obtain⟨a6,c6,rfl,_,_⟩:=hl5;unfold meshV at HM;have o5:=stayB D32.out hb5;have HO5:=hid o5;obtain⟨r1,r2⟩:=two_at o5;have f1:=frozen_at (i:=0) o5;have f2:=frozen_at (i:=1) o5;unfold meshV;clear hb5 o5 m0 m1;go_wp2;refine ret2 (put2_whole HO5.out _ _) Tryz.underlying27 ?_;exact meshN_out B3.out HM.out HO5.out (by omega)
 ·have hcb:(c != 0)=true:=by simpa using h0
  rw[if_neg h0]at hE1;have H0:=hid h0;have HE1:=hid hE1;obtain⟨r1,r2⟩:=two_at d2;have f1:=frozen_at (i:=0) d2;have f2:=frozen_at (i:=1) d2;clear h0 d1 d2 hE1 hld;go_wp2;refine ret2 (put2_whole D2.out _ _) Tryz.underlying27 ?_;rw[←HE1.out];exact meshN_none (put2_below B1.out (by omega)) H0.out
theorem meshCore:MeshCore where
 check:=msCheck
 new:=fun vr len X w h hl=>msNew vr len X w h hl
 restore:=msRestore
 save:=fun vb n PV b vl np KV UV P vd len D vp lp X need of w hv hl hd hp=>(msSave vb n PV b vl np KV UV P vd len D vp lp X need of w hv hl hd hp).mono fun e w' h=>h.n
 repair:=msRepair
theorem meshOwes:MeshOwes where
 toMeshCore:=meshCore
 same:=fun w vb vl vb' vl' n n' np np' PV PV' KV KV' UV UV' b b' P P' hv hl hv' hl'=>msSame hv hl hv' hl'
end Go.Proofs.YtajmnlhfnhbleaaGreat
