/- Several texts of one proof, in their order. -/
import Derived.Test.YtajmnlhfnhbleaaGreatSSum37
namespace Go.Proofs.YtajmnlhfnhbleaaGreat
open Go.RowKit Go.Maps CurveMath
set_option linter.unusedVariables false
set_option maxHeartbeats 8000000
set_option maxRecDepth 10000
theorem tlSpare(vb:Value)(n:Nat)(PV:Nat→Value)(b:Bk)(vl:Value)(np:Nat)(KV:Nat→Value)(UV:Nat→Nat→Value)(P:Ps)(k:Int)(w:World)(hv:VeSl w w.heap.size vb n PV b)(hl:PsSl w w.heap.size vl np KV UV P):
 Calls Tryz.prog 26 #[meshV vb vl,.int .i64 k] w fun e w'=>e=.returned (.tuple #[.int .i64 (spV n b np P k),.int .i64 (verM n b np P k)])∧Below w.heap.size w w':=by
 have hb0:=below_alloc w (.cells #[vb,vl] 27)
 have k1:=heap_alloc_new w (.cells #[vb,vl] 27)
 obtain⟨W0,hW0⟩:∃W,w.alloc (.cells #[vb,vl] 27)=W:=⟨_,rfl⟩
 rw[hW0]at hb0 k1
 have HV:=hid hv
 have HL:=hid hl
 obtain⟨ad,cap0,rfl,_,hxv⟩:=hv
 obtain⟨al,cl,rfl,_,_⟩:=hl
 have CK:=hid (msCheck _ n PV b _ np KV UV P W0 (HV.out.up hb0) (HL.out.up hb0))
 obtain⟨lv,hlv⟩:∃c,spV n b np P k=c:=⟨_,rfl⟩
 obtain⟨ve,hve⟩:∃c,verM n b np P k=c:=⟨_,rfl⟩
 rw[hlv,hve]
 unfold spV at hlv
 rw[hve]at hlv
 have HVe:=hid hve
 have HLv:=hid hlv
 obtain⟨c,hc⟩:∃c,peersE n b np P=c:=⟨_,rfl⟩
 rw[hc]at CK
 unfold verM at hve
 rw[hc]at hve
 have HVc:=hid hve
 have HC:=hid hc
 obtain⟨m0,m1⟩:=two_at k1
 have B0:=hid hb0
 have K1:=hid k1
 have HXv:=hid hxv
 clear hb0 k1 hlv hve hxv hc
 unfold meshV at CK
 unfold meshV
 go_enter Tryz.func26,Tryz.ntmps26
 go_wp2_with fail
 refine Calls.mono CK.out ?_
 rintro e W ⟨rfl,hbW⟩
 have B1:=hid (B0.out.trans (hbW.mono B0.out.size))
 have d1:=stayB K1.out hbW
 have D1:=hid d1
 clear hbW m0 m1 CK hW0
 obtain⟨m0,m1⟩:=two_at d1
 clear d1
 by_cases h0:c=0
 ·subst h0
  have hve:=HVc.out;rw[if_pos rfl]at hve;by_cases hlo:k<0
  ·have hne:¬(0≤k∧k<(n:Int)):=by omega
   rw[if_neg hne]at hve;subst hve;have hl0:=HLv.out;rw[if_neg (by decide)]at hl0;subst hl0;clear hne;go_wp2;go_ret2;exact⟨rfl,B1.out⟩
  by_cases hhi:k<(n:Int)
  ·rw[if_pos ⟨by omega,hhi⟩]at hve
   subst hve;obtain⟨q,rfl⟩:∃q:Nat,k=q:=⟨k.toNat,by omega⟩;obtain⟨hR,_,_⟩:=verM_ok HVe.out;have hqn:q<n:=by omega
   have HR:=hid hR;have h8:=hR.few;have hpb:=plan_bd hR hqn;have hl0:=HLv.out;rw[if_pos rfl]at hl0;unfold spN at hl0;rw[Int.toNat_natCast,←thN_len]at hl0;obtain⟨o,ho⟩:∃o:Int,b.nd q=o:=⟨_,rfl⟩;rw[ho]at hl0 hpb;have HTl:Hid ((thN P (q:Int) np).length≤8):=by
    have:=thAll_len hR (q:Int) np (Nat.le_refl _);have h9:=thN_len P (q:Int) np;unfold thereL at h9;show _≤_;omega
   have HOb:Hid (0≤o∧o≤100):=by show _∧_;omega
   have HLn:=hid hl0;rcases HXv.out with h0|⟨bv,ov,rfl,hbv,hxv⟩;·omega
   obtain⟨_,v1,_,_,_⟩:=hxv q hqn;rw[ho]at v1;have V1:Hid (∀u,Below w.heap.size w u→u.cell? ⟨bv,ov+q*4+1,none⟩=some (.int .i64 o)):=fun u hu=>by rw[hu.cell hbv];exact v1
   have hnl:¬(q:Int)<0:=hlo;have hki:(q:Int)<(n:Int):=hhi;have hge:¬(q:Int)≥(n:Int):=by omega
   have hd1:decide (n≤q)=false:=decide_eq_false (by omega);have hd2:decide ((n:Int)≤(q:Int))=false:=decide_eq_false (by omega);have hd3:decide ((q:Int)<0)=false:=decide_eq_false (by omega);clear hxv v1 hl0 hR hpb hlo hhi ho;have hbx:=below_alloc W (.map #[] 0);have hcm:=cntL_made W;obtain⟨W4,hW4⟩:∃u,W.alloc (.map #[] 0)=u:=⟨_,rfl⟩;rw[hW4]at hbx hcm;have hgl:W.heap.size<W4.heap.size:=by rw[←hW4];simp
   have J0:Hid (SpI W W4 W.heap.size P (q:Int) 0):=⟨hbx,⟨Nat.le_refl _,hgl⟩,_,hcm,fun x=>⟨Int.le_refl _,Int.le_refl _⟩⟩;obtain⟨gm,hgm⟩:∃g,W.heap.size=g:=⟨_,rfl⟩;rw[hgm]at J0;have D4:=hid (stayB D1.out hbx);clear hbx hcm hgl;obtain⟨r0,r1⟩:=two_at D4.out;have hmm:=@run_makeMap Tryz.prog;go_wp2;clear hmm m0 m1 r0 r1 hW4;go_loopw [30] (fun iv wr=>∃i:Nat,i≤np∧iv=.int .i64 i∧Hid (SpI W wr gm P (q:Int) i)) (fun iv _=>np-(intOf iv).toNat)
   case atStart=>exact⟨0,Nat.zero_le _,rfl,J0⟩
   case round =>
    obtain⟨i,hi,rfl,J⟩:=hrel;by_cases hlt:i<np
    ·have hii:(i:Int)<(np:Int):=by omega
     have BJ:=hid (B1.out.trans (J.out.below.mono B1.out.size));obtain⟨bl,off,rfl,hbl,g0,g1,g2,g3⟩:=(HL.out.up BJ.out).at hlt;have G3:=hid g3;obtain⟨ak,ck,hke,_,hx9⟩:=g3;have HX9:=hid hx9;rw[hke]at g2 G3;have hbA:=below_alloc wr (.cells #[.bool (P.th i),.int .i64 (P.rm i),.slice ak (P.m i) ck] 41);have kp:=heap_alloc_new wr (.cells #[.bool (P.th i),.int .i64 (P.rm i),.slice ak (P.m i) ck] 41);obtain⟨W1,hW1⟩:∃u,wr.alloc (.cells #[.bool (P.th i),.int .i64 (P.rm i),.slice ak (P.m i) ck] 41)=u:=⟨_,rfl⟩;rw[hW1]at hbA kp;have HBA:=hid hbA;obtain⟨p0,p1,p2⟩:=three_at kp;have KP:=hid kp;have JA:=hid (J.out.up hbA);have CF:=hid (peFind (P.th i) (P.rm i) _ (P.m i) (UV i) (P.t i) (q:Int) W1 (G3.out.up hbA));obtain⟨fa,hfa⟩:∃x,fstAt (P.t i).V (q:Int) (P.m i) 0=x:=⟨_,rfl⟩;rw[hfa]at CF;have hst:=thN_succ HR.out (q:Int) hlt
     have hhk:hasK P (q:Int) i=(P.th i&&decide (0≤fa)):=by unfold hasK;rw[hfa]
     have hak:atK P (q:Int) i=fa.toNat:=by unfold atK;rw[hfa]
     have HSt:=hid hst;have HHk:=hid hhk;have HAk:=hid hak;have HFa:=hid hfa;unfold peerV at CF;clear hbA kp hke hst hhk hak hfa J G3 hx9;go_wp2_with fail
     refine Calls.mono CF.out ?_;rintro e w2 ⟨rfl,hb2⟩;have JB:=hid (JA.out.up hb2);have d3:=stayB KP.out hb2;have H2:=hid (HBA.out.trans (hb2.mono HBA.out.size));clear p0 p1 p2 hb2 CF hW1;obtain⟨p0,p1,p2⟩:=three_at d3;clear d3;obtain⟨th,hth⟩:∃t,P.th i=t:=⟨_,rfl⟩;rw[hth]at p0 HHk;clear hth;cases th with
     |false =>
      have hf:hasK P (q:Int) i=false:=by rw[HHk.out];rfl
      have hst:=HSt.out;rw[hf,if_neg (by decide)]at hst;have HS2:=hid hst;clear hst hf;go_wp2;go_roundw
      case rel=>exact⟨i+1,by omega,by go_num,JB.out.skip HS2.out⟩
      case measure=>simp only[intOf];omega
     |true =>
      by_cases hf:0≤fa
      ·have hh:hasK P (q:Int) i=true:=by rw[HHk.out,decide_eq_true hf];rfl
       obtain⟨_,h1,_⟩:=hasK_at hh;have hnum:0≤numK P (q:Int) i∧numK P (q:Int) i<8:=HR.out.num i _ hlt h1;obtain⟨j,hj⟩:∃j:Nat,fa=(j:Int):=⟨fa.toNat,by omega⟩;rw[HAk.out,hj,Int.toNat_natCast]at h1;have hst:=HSt.out;rw[hh,if_pos rfl]at hst;unfold numK at hst hnum;rw[HAk.out,hj,Int.toNat_natCast]at hst hnum;rcases HX9.out with h9|⟨bk,ok,rfl,hbk,hx9⟩;·omega
       obtain⟨_,x1,_,_⟩:=hx9 j h1;obtain⟨x,hx⟩:∃x,(P.t i).N j=x:=⟨_,rfl⟩;rw[hx]at x1 hst hnum;have y1:w2.cell? ⟨bk,ok+j*3+1,none⟩=some (.int .i64 x):=by rw[H2.out.cell hbk];exact x1
       have HS2:=hid hst;have hxk:0≤x∧x≤1000:=by omega
       have HK:=hid (keyInt hxk);obtain⟨c9,⟨D,hD,hat,hha,hsz⟩,hc9⟩:=JB.out.map;have HD:=hid hD;have HAt:=hid hat;have HHa:=hid hha;have HSz:=hid hsz;have HC9:=hid hc9;obtain⟨cx,hcx⟩:∃cx,c9 x=cx:=⟨_,rfl⟩;have HCx:=hid hcx;have hbd:=hc9 x;rw[hcx]at hbd;have hjm:(j:Int)<(P.m i:Int):=by omega
       have hj0:(j:Int)≥0:=by omega
       subst hj;clear hh hnum hst hx9 x1 hx hD hat hha hsz hc9 hcx hf;go_wp2_with(first
        |(at_lookup;refine wpList_lookup_own_int _ rfl _ _ 102 rfl 3 3 .i64 keyedInt Tryz.underlying102 Tryz.underlying3 (zeroInt _) gm i _ rfl HD.out _ _ rfl HK.out ?_;intro cz hat0 hwc;obtain rfl:=(cnt_val HAt.out hat0).trans HCx.out;clear hat0 hwc)
        |(at_mapUpdate;refine wpList_mapUpdate_own _ rfl _ _ _ 102 rfl 3 3 keyedInt Tryz.underlying102 _ gm i _ rfl HD.out (by unfold maxLen;omega) _ _ _ rfl rfl HK.out _ [] (plainElem_int Tryz.underlying3 (by first|exact wrap64_wf _|exact WalkArith.wf_i64 (by omega))) ?_;intro w7 hown7 hgrow7;have HO7:=hid hown7;have HG7:=hid hgrow7;clear hown7 hgrow7))
       go_roundw
       case rel=>exact⟨i+1,by omega,by go_num,JB.out.put HD.out HAt.out HHa.out HSz.out HC9.out HO7.out HG7.out (by rw[HCx.out]) HS2.out⟩
       case measure=>simp only[intOf];omega
      have hfl:¬fa≥0:=hf;have hfn:hasK P (q:Int) i=false:=by rw[HHk.out,decide_eq_false hf];rfl
      have hst:=HSt.out;rw[hfn,if_neg (by decide)]at hst;have HS2:=hid hst;clear hst hfn hf;go_wp2;go_roundw
      case rel=>exact⟨i+1,by omega,by go_num,JB.out.skip HS2.out⟩
      case measure=>simp only[intOf];omega
    have hie:np=i:=by omega
    subst hie;have hjn:¬(np:Int)<(np:Int):=by omega
    have BJ:=hid (B1.out.trans (J.out.below.mono B1.out.size));have HDr:Hid (Below wr.heap.size wr wr.drew):=drew_below wr;have v1:=V1.out wr BJ.out;obtain⟨m0,m1⟩:=two_at (stayB D1.out J.out.below);obtain⟨c9,hm9,_⟩:=J.out.map;have HM9:=hid hm9;clear hm9;go_wp2_with fail
    have hne:Nonempty (Of (Below wr.heap.size wr)):=⟨⟨wr,Below.refl _ _⟩⟩;have F0:∀u:Of (Below wr.heap.size wr),u.val.cell? _=some _:=fun u=>by rw[u.is.cell (cell_lt m0)];exact m0
    have F1:∀u:Of (Below wr.heap.size wr),u.val.cell? _=some _:=fun u=>by rw[u.is.cell (cell_lt v1)];exact v1
    have FL:∀u:Of (Below wr.heap.size wr),(Builtin.len_ #[102] 3 #[.map (some gm)]).run Tryz.prog u.val=.ok (.int .i64 (((thN P (q:Int) np).length:Nat):Int)) u.val:=fun u=>(HM9.out.up u.is).len_;have hob:=HOb.out;have htl:=HTl.out;refine region_mixed (Below wr.heap.size wr) [] [0,1,2,3,4,5,6,7,8,9,10,11,12] (by kernel_rfl) (by kernel_rfl) HDr.out ?_;refine mixO_nil ?_;repeat(go_big_quiet_step (fail))
    refine wpQuiet_nil ?_;clear F0 F1 FL hne;go_wp2;go_ret2;exact⟨by rw[←HLn.out];rfl,BJ.out.trans (HDr.out.mono BJ.out.size)⟩
  rw[if_neg (fun h=>hhi h.2)]at hve;subst hve;have hl0:=HLv.out;rw[if_neg (by decide)]at hl0;subst hl0;have hge:k≥(n:Int):=by omega
  clear hhi;go_wp2;go_ret2;exact⟨rfl,B1.out⟩
 ·have hcb:(c != 0)=true:=by simpa using h0
  have hve:=HVc.out;rw[if_neg h0]at hve;subst hve;have hl0:=HLv.out;rw[if_neg h0]at hl0;subst hl0;clear h0;go_wp2;go_ret2;exact⟨rfl,B1.out⟩
theorem Tryz.infoLs:(Tryz.prog.info? 28).map (fun i=>(i.zero,i.size,i.bytes))=some (some (.slice none 0 0),1,24):=by kernel_rfl
theorem one_ls{w:World}{g:Nat}{x:Value}{T:TypeId}(k:w.heap[g]?=some (.cells #[x] T (0,0))):∀j u,[x][j]?=some u→w.cell? ((⟨g,0,none⟩:Addr).add j)=some u:=by
 intro j u hj;cases j with
 |zero =>
  have e:x=u:=by simpa using hj
  rw[←e];exact cell_at (i:=0) k rfl
 |succ j=>simp at hj
theorem savedL_parts(l:List Hp):∀(m:Ms) (k:List Hp),savedL m (l++k)=savedL m l++savedL (runM m l) k:=by
 induction l with
 |nil=>intro m k;rfl
 |cons x l ih=>intro m k;simp only[List.cons_append,savedL,ih,List.append_assoc];rfl
theorem savedL_next(m:Ms)(H:Nat→Hp)(i:Nat):savedL m (hapL H (i+1))=savedL m (hapL H i)++(if(H i).kd=1∧happE (runM m (hapL H i)) (H i)=0 then[((H i).len,(H i).D)]else[]):=by
 rw[hapL_succ,savedL_parts];simp only[savedL,List.append_nil]
theorem runS_at(m:Ms)(H:Nat→Hp){len i:Nat}(hi:i<len):(runS m (hapL H len)).getD i 0=happE (runM m (hapL H i)) (H i):=by
 rw[←runS_new,hapL_cut H len (i+1) (by omega),runS_parts,List.getD_eq_getElem?_getD,List.getD_eq_getElem?_getD,List.getElem?_append_left (by rw[runS_len,hapL_len];omega)]
theorem savedL_len(l:List Hp):∀m:Ms,(savedL m l).length≤l.length:=by
 induction l with
 |nil=>intro m;exact Nat.le_refl _
 |cons x l ih =>
  intro m;have:=ih (stepM m x);simp only[savedL,List.length_append,List.length_cons];by_cases c:x.kd=1∧happE m x=0;·rw[if_pos c];simp;omega
  rw[if_neg c];simp;omega
theorem isl_at0{w:World}{B g n c m:Nat}{X:Nat→Int}(h:IntSl w B (.slice (some ⟨g,0,none⟩) n c) m X){j:Nat}(hj:j<m):w.cell? ⟨g,j,none⟩=some (.int .i64 (X j)):=by
 obtain⟨ad,cap,e,_,h2⟩:=h;injection e with e1;subst e1;rcases h2 with h2|⟨b,off,e1,_,h5⟩;·omega
 injection e1 with e1;injection e1 with e1 e2;subst e1 e2;have:=h5 j hj;rw[Nat.zero_add]at this;exact this
theorem saved_none{w w':World}{er:Int}{l:List (Nat×(Nat→Int))}(hb:Below w.heap.size w w')(h0:er≠0):SavedPost w er l (.returned (.tuple #[.slice none 0 0,.int .i64 er])) w' :=
 ⟨hb,_,0,fun _=>undef,rfl,by rw[if_neg h0],none,0,rfl,⟨Nat.le_refl _,by omega⟩,Or.inl rfl⟩
theorem tlSaved(vr:Value)(lr:Nat)(Z:Nat→Int)(vs:Value)(len:Nat)(DV QV:Nat→Value)(H:Nat→Hp)(w:World)(hr:IntSl w w.heap.size vr lr Z)(hlr:lr≤1048576)(hs:HpSl w w.heap.size vs len DV QV H):
 Calls Tryz.prog 25 #[vr,vs] w (SavedPost w (savE lr Z len) (savedL ⟨0,noB,lr,freshP Z⟩ (hapL H len))):=by
 have HS:=hid hs
 have CK:=hid (msNew _ lr Z w hr hlr)
 obtain⟨ar,cr,rfl,_,_⟩:=hr
 obtain⟨asl,csl,rfl,⟨hsc,hsb⟩,_⟩:=hs
 obtain⟨ie,hie,hez0,hez1,hez2⟩:=info_parts Tryz.infoLs
 obtain⟨en,hen⟩:∃c,newE lr Z=c:=⟨_,rfl⟩
 obtain⟨er,her⟩:∃c,savE lr Z len=c:=⟨_,rfl⟩
 obtain⟨M,hM⟩:∃m:Ms,(⟨0,noB,lr,freshP Z⟩:Ms)=m:=⟨_,rfl⟩
 rw[hen]at CK
 rw[her,hM]
 unfold savE at her
 rw[hen]at her
 have HEn:=hid hen
 have HEr:=hid her
 have HM:=hid hM
 clear hen her hM
 go_enter Tryz.func25,Tryz.ntmps25
 go_wp2_with fail
 refine Calls.mono CK.out ?_
 rintro e u1 hMp
 obtain⟨hb,a1,n1,c1,PV1,l1,np1,d1,KV1,UV1,rfl,hn1,hnp1,hv9,hl9⟩:=mesh_open hMp.old
 clear hMp CK
 have HN1:=hid hn1
 have HP1:=hid hnp1
 have hb1:=below_alloc u1 (.cells #[.slice none 0 0,.slice none 0 0] 27)
 have k0:=heap_alloc_new u1 (.cells #[.slice none 0 0,.slice none 0 0] 27)
 replace hv9:=hv9.up hb1
 replace hl9:=hl9.up hb1
 obtain⟨V1,hV1⟩:∃v,World.alloc u1 (.cells #[.slice none 0 0,.slice none 0 0] 27)=v:=⟨_,rfl⟩
 rw[hV1]at k0 hv9 hl9 hb1
 have hb2:Below u1.heap.size u1 (put2 V1 u1.heap.size (.slice a1 n1 c1) (.slice l1 np1 d1)):=put2_below hb1 (Nat.le_refl _)
 obtain⟨gy,hgy⟩:∃g,u1.heap.size=g:=⟨_,rfl⟩
 rw[hgy]at k0
 rw[show put2 V1 u1.heap.size (.slice a1 n1 c1) (.slice l1 np1 d1)=put2 V1 gy (.slice a1 n1 c1) (.slice l1 np1 d1) by rw[hgy]]at hb2
 have bx:MsAt (put2 V1 gy (.slice a1 n1 c1) (.slice l1 np1 d1)) gy _ _ _ _ _ _ _ _ _ _ _:=pt_store k0 hv9 hl9
 obtain⟨q0,q1⟩:=two_at k0
 have f0:=frozen_at (i:=0) k0
 have f1:=frozen_at (i:=1) k0
 obtain⟨Y1,hY1⟩:∃y,put2 V1 gy (.slice a1 n1 c1) (.slice l1 np1 d1)=y:=⟨_,rfl⟩
 rw[hY1]at hb2 bx
 unfold put2 at hY1
 have HB1:=hid (hb.trans (hb2.mono hb.size))
 have X0:=hid bx
 clear hb hb1 hb2 k0 hv9 hl9 bx hn1 hnp1
 by_cases h0:en=0
 ·subst h0
  have hn1:=HN1.out;have hnp1:=HP1.out;rw[if_pos rfl]at hn1 hnp1;have hnp2:=hnp1.symm;subst hn1 hnp2;have hM0:msE M=0:=by rw[←HM.out];exact HEn.out
  have HM0:=hid hM0;have CD:=hid (wdRunS _ 0 PV1 noB _ lr KV1 UV1 (freshP Z) _ len DV QV H Y1 X0.out.2.1 X0.out.2.2 (HS.out.up HB1.out));rw[HM.out]at CD;unfold meshV at CD;obtain⟨c0,c1⟩:=X0.out.cells;have her:=HEr.out;rw[if_pos rfl]at her;clear hM0;by_cases hlen:len≤100
  ·rw[if_pos hlen]at her
   subst her;rw[runE_of HM0.out hlen]at CD;obtain⟨mA,hmA⟩:∃q,runM M (hapL H len)=q:=⟨_,rfl⟩;obtain⟨sA,hsA⟩:∃q,runS M (hapL H len)=q:=⟨_,rfl⟩;rw[hmA,hsA]at CD;have HSA:=hid hsA;have HSl:Hid (sA.length=len):=by show _=_;rw[←hsA,runS_len,hapL_len]
   clear hmA hsA;go_wp2_with fail
   refine Calls.mono CD.out ?_;rintro e u2 hR;obtain⟨hb,ay,cy,PVy,ly,dy,KVy,UVy,gsy,rfl,hv9,hl9,ho9⟩:=run_said hR;clear hR CD c0 c1 q0 q1 f0 f1 hV1 hY1;rw[HSl.out]at ho9 ⊢;have hb1:=below_alloc u2 (.cells #[.slice none 0 0,.slice none 0 0] 27);have k0:=heap_alloc_new u2 (.cells #[.slice none 0 0,.slice none 0 0] 27);replace ho9:=ho9.up hb1;obtain⟨V2,hV2⟩:∃v,World.alloc u2 (.cells #[.slice none 0 0,.slice none 0 0] 27)=v:=⟨_,rfl⟩;rw[hV2]at k0 ho9 hb1;have hb2:Below u2.heap.size u2 (put2 V2 u2.heap.size (.slice ay mA.n cy) (.slice ly mA.np dy)):=put2_below hb1 (Nat.le_refl _);obtain⟨gz,hgz⟩:∃g,u2.heap.size=g:=⟨_,rfl⟩;rw[hgz]at k0;rw[show put2 V2 u2.heap.size (.slice ay mA.n cy) (.slice ly mA.np dy)=put2 V2 gz (.slice ay mA.n cy) (.slice ly mA.np dy) by rw[hgz]]at hb2
   have so:=isl_put2D k0 ho9 (.slice ay mA.n cy) (.slice ly mA.np dy);obtain⟨q0,q1⟩:=two_at k0;have f0:=frozen_at (i:=0) k0;have f1:=frozen_at (i:=1) k0;obtain⟨Y2,hY2⟩:∃y,put2 V2 gz (.slice ay mA.n cy) (.slice ly mA.np dy)=y:=⟨_,rfl⟩;rw[hY2]at hb2 so;unfold put2 at hY2;replace hb:=hb.trans (hb2.mono hb.size);have HB2:=hid (HB1.out.trans (hb.mono HB1.out.size));have SO:=hid so;clear hb hb1 hb2 k0 hv9 hl9 ho9 so X0 HB1;go_wp2;clear q0 q1 f0 f1 hV2 hY2;go_loopw [10,33] (fun vo iv wr=>∃(i:Nat) (VV:List Value),i≤len∧iv=.int .i64 i∧Hid (LsInv Y2 wr vo VV (savedL M (hapL H i)))) (fun _ iv _=>len-(intOf iv).toNat)
   case atStart=>exact⟨0,[],Nat.zero_le _,rfl,LsInv.nil _⟩
   case round =>
    obtain⟨i,VV,hi,rfl,J⟩:=hrel;by_cases hlt:i<len
    ·have hii:(i:Int)<(len:Int):=by omega
     have BJ:=hid (HB2.out.trans (J.out.below.mono HB2.out.size));obtain⟨bl,off,rfl,hbl,⟨x0,x1,x2,x3,x4,x5,x6⟩,hat⟩:=(HS.out.up BJ.out).at hlt;have HAt:=hid hat;obtain⟨⟨avd,cvd,hvd,_,_⟩,⟨avp,cvp,hvp,_,_⟩⟩:=hat;rw[hvd]at x3 HAt;rw[hvp]at x4 HAt;obtain⟨x,hx⟩:∃x,H i=x:=⟨_,rfl⟩;rw[hx]at x0 x1 x2 x3 x4 x5 x6 HAt;obtain⟨Q,hQ⟩:∃Q,runM M (hapL H i)=Q:=⟨_,rfl⟩;have hsv:=savedL_next M H i;have hsa:=runS_at M H hlt;rw[hQ,hx]at hsv hsa;rw[HSA.out]at hsa;have hbU:=below_alloc wr (.cells #[.int .i64 x.kd,.int .i64 x.N,.int .i64 x.M,.slice avd x.len cvd,.slice avp x.lp cvp,.int .i64 x.need,.int .i64 x.of] 30);have kx:=heap_alloc_new wr (.cells #[.int .i64 x.kd,.int .i64 x.N,.int .i64 x.M,.slice avd x.len cvd,.slice avp x.lp cvp,.int .i64 x.need,.int .i64 x.of] 30)
     obtain⟨U,hU⟩:∃u,wr.alloc (.cells #[.int .i64 x.kd,.int .i64 x.N,.int .i64 x.M,.slice avd x.len cvd,.slice avp x.lp cvp,.int .i64 x.need,.int .i64 x.of] 30)=u:=⟨_,rfl⟩;rw[hU]at hbU kx;obtain⟨bx,hbx⟩:∃q,wr.heap.size=q:=⟨_,rfl⟩;rw[hbx]at kx;obtain⟨y0,_,_,y3,_,_,_⟩:=seven_atC kx;have HLt:Hid (∀s,u10.ownBlock=some s→s<U.heap.size):=fun s hs=>((J.out.up hbU).own.lt s hs).2;replace J:=hid (J.out.up hbU);have z0:=isl_at0 ((SO.out).up J.out.below) hlt;obtain⟨e9,he9⟩:∃c,happE Q x=c:=⟨_,rfl⟩;rw[hsa,he9]at z0;rw[he9]at hsv;have HSv:=hid hsv;have HE9:=hid he9;obtain⟨kd,hkd⟩:∃c,x.kd=c:=⟨_,rfl⟩;rw[hkd]at y0 hU;have HKd:=hid hkd;have HA9:=hid (HAt.out.up hbU);clear hbU hvd hvp hsv hsa hQ he9 kx hkd hx;rw[HKd.out]at x0;by_cases c1:kd=1
     ·subst c1
      by_cases c2:e9=0
      ·subst c2
       have hsp:1≤x.len∧x.len≤24:=by
        have h9:=HE9.out;unfold happE at h9;rw[if_pos HKd.out]at h9;have:=planOk_spec (splitE_ok (saveE_ok h9).split).1;omega
       have HSp:=hid hsp;have hsn:=HSv.out;rw[HKd.out,if_pos ⟨rfl,rfl⟩]at hsn;have HSn:=hid hsn;have hll:=savedL_len (hapL H i) M;rw[hapL_len]at hll;have HLl:=hid hll;clear hsn hll hsp;go_wp2_with fail
       refine Calls.mono (clone_isl HA9.out.1 HSp.out.1) ?_;rintro e u5 ⟨g9,cap9,rfl,hcap9,hrow⟩;have HX9:=hid (hrow.isl hcap9 (by have:=HSp.out;omega));have HG9:=hid hrow.ge;replace J:=hid (J.out.up hrow.below);clear hrow x0 x1 x2 x3 x4 x5 x6 y0 y3 z0 hU hbx;have hb1:=below_alloc u5 (.cells #[.slice (some ⟨g9,0,none⟩) x.len cap9] 28);have k0:=heap_alloc_new u5 (.cells #[.slice (some ⟨g9,0,none⟩) x.len cap9] 28);obtain⟨V7,hV7⟩:∃v,World.alloc u5 (.cells #[.slice (some ⟨g9,0,none⟩) x.len cap9] 28)=v:=⟨_,rfl⟩;obtain⟨g7,hg7⟩:∃g,u5.heap.size=g:=⟨_,rfl⟩;rw[hV7]at hb1 k0;rw[hg7]at k0;have HOf:Hid (∀s,u10.ownBlock=some s→OfB s x.len (.slice (some ⟨g9,0,none⟩) x.len cap9)):=fun s hs=>by
        have h8:=HLt.out s hs;have h9:=HG9.out;refine Or.inr fun ad n c e=>?_;injection e with e1;injection e1 with e1;subst e1;show g9≠s;omega
       replace J:=hid (J.out.up hb1);replace HX9:=hid (HX9.out.up hb1);have KN:=hid k0;clear hb1 k0;go_wp2_with(at_builtin;go_must(refine wpList_append_own_at _ rfl (.tmp 48) (.tmp 52) 53 rfl Y2.heap.size 28 ie (.slice none 0 0) 1 24 Tryz.underlying53 hie hez0 hez1 hez2 rfl (by decide) u10 (savedL M (hapL H i)).length _ rfl J.out.own ⟨g7,0,none⟩ 1 1 [.slice (some ⟨g9,0,none⟩) x.len cap9] rfl rfl (one_ls KN.out) (by intro u hu;simp at hu;subst hu;rfl) (by have:=HLl.out;unfold maxLen;omega) (by have:=HLl.out;omega) J.out.below.size ?_;intro v9 w9 ho9 hg9 _ hat9;have J9:=hid (J.out.grow HX9.out HOf.out hg9 ho9 hat9);clear ho9 hg9 hat9))
       go_roundw
       case rel=>exact⟨i+1,_,by omega,by go_num,by rw[HSn.out];exact J9⟩
       case measure=>simp only[intOf];omega
      have hcb:(e9==0)=false:=by rw[beq_eq_false_iff_ne];exact c2
      have hsn:=HSv.out;rw[if_neg (fun q=>c2 q.2),List.append_nil]at hsn;have HSn:=hid hsn;clear hsn c2;go_wp2;go_roundw
      case rel=>exact⟨i+1,_,by omega,by go_num,by rw[HSn.out];exact J⟩
      case measure=>simp only[intOf];omega
     have hcb:(kd==1)=false:=by rw[beq_eq_false_iff_ne];exact c1
     have hsn:=HSv.out;rw[HKd.out,if_neg (fun q=>c1 q.1),List.append_nil]at hsn;have HSn:=hid hsn;clear hsn c1;go_wp2;go_roundw
     case rel=>exact⟨i+1,_,by omega,by go_num,by rw[HSn.out];exact J⟩
     case measure=>simp only[intOf];omega
    have hie':i=len:=by omega
    subst hie';have hjn:¬(i:Int)<(i:Int):=by omega
    have hll:=savedL_len (hapL H i) M;rw[hapL_len]at hll;have HLi:=hid (J.out.lisl (by omega));have BJ:=hid (HB2.out.trans (J.out.below.mono HB2.out.size));clear hll;go_wp2;go_ret2;exact⟨BJ.out,_,_,_,rfl,by rw[if_pos rfl],HLi.out⟩
  rw[if_neg hlen]at her;subst her;have hrE:runE M len=1:=by unfold runE;rw[if_pos HM0.out,if_neg hlen]
  rw[hrE]at CD;clear hrE hlen;go_wp2_with fail
  refine Calls.mono CD.out ?_;rintro e u2 hR;obtain⟨hb,ay,ny,cy,ly,my,dy,so,no,co,rfl⟩:=run_none hR;clear hR CD c0 c1 q0 q1 f0 f1 hV1 hY1;have hb1:=below_alloc u2 (.cells #[.slice none 0 0,.slice none 0 0] 27);have k0:=heap_alloc_new u2 (.cells #[.slice none 0 0,.slice none 0 0] 27);obtain⟨V2,hV2⟩:∃v,World.alloc u2 (.cells #[.slice none 0 0,.slice none 0 0] 27)=v:=⟨_,rfl⟩;rw[hV2]at k0 hb1;have hb2:Below u2.heap.size u2 (put2 V2 u2.heap.size (.slice ay ny cy) (.slice ly my dy)):=put2_below hb1 (Nat.le_refl _);have HB2:=hid (HB1.out.trans ((hb.trans (hb2.mono hb.size)).mono HB1.out.size));obtain⟨gz,hgz⟩:∃g,u2.heap.size=g:=⟨_,rfl⟩;rw[hgz]at k0;obtain⟨q0,q1⟩:=two_at k0;have f0:=frozen_at (i:=0) k0;have f1:=frozen_at (i:=1) k0;unfold put2 at HB2;clear hb hb1 hb2 k0;go_wp2;go_ret2
  exact saved_none (by rw[hgz]at HB2;exact HB2.out) (by decide)
 ·have hcb:(en != 0)=true:=by simpa using h0
  have her:=HEr.out;rw[if_neg h0]at her;subst her;have H0:=hid h0;clear h0;go_wp2;go_ret2;exact saved_none HB1.out H0.out
theorem taleOwes:TaleOwes where
 saved:=tlSaved
 spare:=tlSpare
def lackV(n:Nat)(b:Bk)(np:Nat)(P:Ps)(k:Int):Int:=if verM n b np P k=0 then laN b np P k else 0
def blameV(n:Nat)(b:Bk)(np:Nat)(P:Ps)(k:Int):List Int:=if rsE n b np P k=0 then blL b np P k else[]
section
theorem lackingIn_any(vb:Value)(n:Nat)(PV:Nat→Value)(b:Bk)(vl:Value)(np:Nat)(KV:Nat→Value)(UV:Nat→Nat→Value)(P:Ps)(k:Int)(w:World)(hv:VeSl w w.heap.size vb n PV b)(hl:PsSl w w.heap.size vl np KV UV P):
 Calls Tryz.prog 27 #[meshV vb vl,.int .i64 k] w fun e w'=>e=.returned (.tuple #[.int .i64 (lackV n b np P k),.int .i64 (verM n b np P k)])∧Below w.heap.size w w':=by
 have hb:=below_alloc w (.cells #[vb,vl] 27)
 have CK:=hid (version_any _ n PV b _ np KV UV P k _ (hv.up hb) (hl.up hb))
 have HB:=hid hb
 have HK:=hid (heap_alloc_new w (.cells #[vb,vl] 27))
 have HL:=hid hl
 obtain⟨ad,cap,rfl,_,hx⟩:=hv
 obtain⟨al,cl,rfl,_,_⟩:=hl
 obtain⟨c,hc⟩:∃c,verM n b np P k=c:=⟨_,rfl⟩
 obtain⟨lv,hlv⟩:∃c,lackV n b np P k=c:=⟨_,rfl⟩
 rw[hc]at CK
 rw[hc,hlv]
 unfold lackV at hlv
 rw[hc]at hlv
 have HC:=hid hc
 have HLv:=hid hlv
 have HX:=hid hx
 clear hb hc hx hlv
 unfold meshV at CK
 unfold meshV
 go_enter Tryz.func27,Tryz.ntmps27
 go_wp2_with fail
 refine Calls.mono CK.out ?_
 rintro e W ⟨rfl,hbW⟩
 have BW:=hid (HB.out.trans (hbW.mono HB.out.size))
 obtain⟨c0,c1⟩:=two_at (stayB HK.out hbW)
 clear hbW CK
 by_cases h0:c=0
 ·subst h0
  obtain⟨hR,hk0,hkn⟩:=verM_ok HC.out;obtain⟨q,rfl⟩:∃q:Nat,k=q:=⟨k.toNat,by omega⟩;have hqn:q<n:=by omega
  have HR:=hid hR;have hpb:=plan_bd hR hqn;have hlv:=HLv.out;rw[if_pos rfl]at hlv;unfold laN at hlv;rw[Int.toNat_natCast]at hlv;have hlen:=thAll_len hR (q:Int) np (Nat.le_refl _);have h8:=hR.few;rcases HX.out with h0|⟨bv,ov,rfl,hbv,hxv⟩;·omega
  obtain⟨_,v1,v2,v3,_⟩:=hxv q hqn;have q2:W.cell? ⟨bv,ov+q*4+2,none⟩=some (.int .i64 (b.of q)):=by rw[BW.out.cell hbv];exact v2
  have hne:Nonempty (Of (Below W.heap.size W)):=⟨⟨W,Below.refl _ _⟩⟩;have F0:∀u:Of (Below W.heap.size W),u.val.cell? ⟨w.heap.size,0,none⟩=some (.slice (some ⟨bv,ov,none⟩) n cap):=fun u=>by rw[u.is.cell (cell_lt c0)];exact c0
  have F1:∀u:Of (Below W.heap.size W),u.val.cell? ⟨w.heap.size,1,none⟩=some (.slice al np cl):=fun u=>by rw[u.is.cell (cell_lt c1)];exact c1
  have F3:∀u:Of (Below W.heap.size W),u.val.cell? ⟨bv,ov+q*4+2,none⟩=some (.int .i64 (b.of q)):=fun u=>by rw[u.is.cell (cell_lt q2)];exact q2
  have CT:Hid (∀u,Below W.heap.size W u→Calls Tryz.prog 70 #[meshV (.slice (some ⟨bv,ov,none⟩) n cap) (.slice al np cl),.int .i64 (q:Int)] u fun e w'=>Below u.heap.size u w'∧∃vo,e=.returned vo∧ShSl w' w'.heap.size vo (thereL P q np).length (nL P (thereL P q np)) (vaL UV (thereL P q np)) (lL P (thereL P q np)) (xL P (thereL P q np))):=fun u hbu =>
   there_any _ _ np KV UV P q u ⟨_,_,_,rfl⟩ (HL.out.up (BW.out.trans (hbu.mono BW.out.size))) HR.out.few HR.out.small HR.out.num
  unfold meshV at CT;have hki:(q:Int)<(n:Int):=by omega
  obtain⟨z,hz⟩:∃z,(thereL P (q:Int) np).length=z:=⟨_,rfl⟩;have hz8:z≤8:=by unfold thereL at hz;omega
  rw[hz]at hlv;obtain⟨o,ho⟩:∃o,b.of q=o:=⟨_,rfl⟩;rw[ho]at F3 hlv hpb;have ho8:=hpb.2.1;have hnd:=hpb.1;have HLv2:=hid hlv;have HZ:=hid hz;clear hR hxv v1 v2 v3 q2 c0 c1 hlv hlen hz hpb ho;go_wp2_with fail
  have HD1:Hid (Below W.heap.size W W.drew):=drew_below W;refine region_mixed (Below W.heap.size W) [([0,1,2,3,4,5,6,7,8,9],10)] [11,12,13,14] (by kernel_rfl) (by kernel_rfl) HD1.out ?_;refine mixO_cons ?_;repeat(go_big_quiet_step (fail))
  refine wpQuiet_nil ?_;intro K hK;go_wp2_with fail
  refine Calls.mono (CT.out _ HD1.out) ?_;rintro e W5 ⟨hb5,vo,rfl,hsh⟩;have H5:Hid (Below W.heap.size W W5):=HD1.out.trans (hb5.mono HD1.out.size);obtain⟨ao,co,rfl,_,_⟩:=hsh;rw[HZ.out];clear hb5;go_wp2;refine⟨rfl,hK _ _ H5.out ?_⟩;clear hK K;refine mixO_nil ?_;repeat(go_big_quiet_step (fail))
  refine wpQuiet_nil ?_;clear F0 F1 F3 hne;go_wp2;go_ret2;exact⟨by rw[←HLv2.out];rfl,BW.out.trans (H5.out.mono BW.out.size)⟩
 ·have hcb:(c != 0)=true:=by simpa using h0
  have hlv:=HLv.out;rw[if_neg h0]at hlv;subst hlv;clear h0;go_wp2;go_ret2;exact⟨rfl,BW.out⟩
section
variable {P : Ps} {ver : Int} {R : Nat} {S : Nat → Nat → Int} {k i : Nat}
end
end
structure FrInv(w wr:World)(vo:Value)(X:Nat→Int)(i:Nat):Prop where
 below:Below w.heap.size w wr
 out:wr.heap[w.heap.size]?=some (.cells #[.slice none 0 0,.slice none 0 0] 27 (0,0))
 box:wr.heap[w.heap.size+1]?=some (.cells #[.slice none 0 0,vo] 27 (0,0))
 row:wr.ownsRow (w.heap.size+2) 41 3 vo i (flatP (fun _=>.slice none 0 0) (freshP X) i)
theorem FrInv.push{w wr w6:World}{vo v1:Value}{X:Nat→Int}{i:Nat}(h:FrInv w wr vo X i)(hs:w.heap.size+2≤wr.heap.size){o:Obj}(ho:w6.ownsRow (w.heap.size+2) 41 3 v1 (i+1) (flatP (fun _=>.slice none 0 0) (freshP X) i++[.bool true,.int .i64 (X i),.slice none 0 0]))(hg:(wr.alloc o).grownBy w6 vo.ownBlock):
 FrInv w (w6.setCell ⟨w.heap.size+1,1,none⟩ v1) v1 X (i+1)∧w6.heap[w.heap.size+1]?=some (.cells #[.slice none 0 0,vo] 27 (0,0)):=by
 have hbA:Below w.heap.size w (wr.alloc o):=h.below.alloc h.below.size o
 have hlo:∀k,vo.ownBlock=some k→w.heap.size+2≤k:=fun k hk=>(h.row.lt k hk).1
 have hb6:Below w.heap.size w w6:=hbA.grown hg hbA.size (fun k hk=>by have:=hlo k hk;omega)
 have key:∀k,k<w.heap.size+2→w6.heap[k]?=wr.heap[k]?:=fun k hk=>by
  rw[hg.block k (by simp;omega) (fun e=>by have:=hlo k e.symm;omega),Below.heap_alloc _ _ _ (by omega)]
 have hbx:w6.heap[w.heap.size+1]?=some (.cells #[.slice none 0 0,vo] 27 (0,0)):=by rw[key _ (by omega)];exact h.box
 refine⟨⟨hb6.setCell (p:=⟨w.heap.size+1,1,none⟩) (by show w.heap.size≤w.heap.size+1;omega) _,?_,?_,?_⟩,hbx⟩
 ·rw[Below.heap_setCell _ _ _ _ (by show w.heap.size≠w.heap.size+1;omega),key _ (by omega)];exact h.out
 ·simp[World.setCell,Array.getElem?_modify,hbx]
 ·rw[flatP_succ]
  exact owns_set_other ho (fun e=>by have:=(ho.lt _ e).1;omega) _
theorem fresh_kel(w:World)(B:Nat)(UV:Nat→Value)(t:Kt):KeSl w B (.slice none 0 0) 0 UV t:=⟨none,0,rfl,⟨Nat.le_refl _,by omega⟩,Or.inl rfl⟩
theorem freshMesh_any(vr:Value)(len:Nat)(X:Nat→Int)(w:World)(h:IntSl w w.heap.size vr len X)(hn:len≤1048576):
 Calls Tryz.prog 29 #[vr] w (MeshPost w (newE len X) 0 noB len (freshP X)):=by
 have hb0:=((Below.refl w.heap.size w).alloc (Nat.le_refl _) (.cells #[.slice none 0 0,.slice none 0 0] 27)).alloc (by simp) (.cells #[.slice none 0 0,.slice none 0 0] 27)
 have k1:=heap_two_old w (.cells #[.slice none 0 0,.slice none 0 0] 27) (.cells #[.slice none 0 0,.slice none 0 0] 27)
 have k2:=heap_two_new w (.cells #[.slice none 0 0,.slice none 0 0] 27) (.cells #[.slice none 0 0,.slice none 0 0] 27)
 obtain⟨W0,hW0⟩:∃W,(w.alloc (.cells #[.slice none 0 0,.slice none 0 0] 27)).alloc (.cells #[.slice none 0 0,.slice none 0 0] 27)=W:=⟨_,rfl⟩
 have hsz:W0.heap.size=w.heap.size+2:=by rw[←hW0];simp
 rw[hW0]at hb0 k1 k2
 obtain⟨ad,cap,rfl,_,hx⟩:=h
 obtain⟨ii,hii,hz0,hz1,hz2⟩:=info_parts Tryz.infoPeer
 have J0:Hid (FrInv w W0 (.slice none 0 0) X 0):=⟨hb0,k1,k2,World.ownsRow_nil _ _ _ _⟩
 have HX:=hid hx
 have HSz:=hid hsz
 obtain⟨er,her⟩:∃c,newE len X=c:=⟨_,rfl⟩
 rw[her]
 have HEr:=hid her
 clear hb0 k1 k2 hx hsz her
 go_enter Tryz.func29,Tryz.ntmps29
 go_wp2
 go_loopw [10] (fun iv wr=>∃(i:Nat) (vo:Value),i≤len∧iv=.int .i64 i∧Hid (FrInv w wr vo X i)∧Hid (w.heap.size+2≤wr.heap.size)) (fun iv _=>len-(intOf iv).toNat)
 case atStart=>exact⟨0,.slice none 0 0,Nat.zero_le _,rfl,J0,Nat.le_of_eq HSz.out.symm⟩
 case round =>
  obtain⟨i,vo,hi,rfl,J,HS⟩:=hrel;obtain⟨m0,m1⟩:=two_at J.out.box;obtain⟨ao,co,hvo⟩:=owns_sliceV J.out.row;subst hvo;by_cases hlt:i<len
  ·have hli:(i:Int)<(len:Int):=by omega
   rcases HX.out with h0|⟨bl,off,rfl,hbl,hx⟩;·omega
   have a1:wr.cell? ⟨bl,off+i,none⟩=some (.int .i64 (X i)):=by rw[J.out.below.cell hbl];exact hx i hlt
   have HCt:=hid (cells_three wr (.bool true) (.int .i64 (X i)) (.slice none 0 0) 41);have hs:=HS.out;clear hx
   go_wp2_with(at_builtin;go_must(refine wpList_append_own _ rfl (.tmp 15) (.tmp 18) 25 rfl (w.heap.size+2) 41 ii (.agg #[.bool false,.int .i64 0,.slice none 0 0]) 3 40 Tryz.underlying25 hii hz0 hz1 hz2 rfl (by decide) _ _ _ rfl (World.ownsRow.alloc J.out.row _) ⟨_,0,none⟩ 1 1 [.bool true,.int .i64 (X i),.slice none 0 0] rfl rfl HCt.out (by intro u hu;simp at hu;rcases hu with rfl|rfl|rfl<;>rfl) (by unfold maxLen;omega) (by omega) (by simp;omega) ?_;intro v1 w6 ho6 hg6 _;obtain⟨j1,j2⟩:=J.out.push hs ho6 hg6;have HJ:=hid j1;have hs6:w.heap.size+2≤(w6.setCell ⟨w.heap.size+1,1,none⟩ v1).heap.size:=Nat.lt_of_lt_of_le (Array.getElem?_eq_some_iff.1 j2).1 (by simp[World.setCell]);have HS6:=hid hs6;obtain⟨n0,n1⟩:=two_at j2;have fn:=frozen_at (i:=1) j2;obtain⟨a9,c9,hv9⟩:=owns_sliceV ho6;subst hv9;clear ho6 hg6 j1 j2 hs6))
   go_roundw
   case rel=>exact⟨i+1,_,by omega,by go_num,HJ,HS6⟩
   case measure=>simp only[intOf];omega
  have hie:len=i:=by omega
  subst hie;have hwl:w.heap.size<wr.heap.size:=by have:=HS.out;omega
  obtain⟨av,g,cap9,hve,hav,hcap,hrow⟩:=rowP_any J.out.row hwl;injection hve with hv1 _ hv3;subst hv1 hv3;have hpsl:=hrow.sl (UV:=fun _ _=>.int .i64 0) (fun h=>(hav h).1) hcap (by omega) (fun k hk=>fresh_kel wr wr.heap.size _ _);have hve0:VeSl wr wr.heap.size (.slice none 0 0) 0 (fun _=>.int .i64 0) noB:=⟨none,0,rfl,⟨Nat.le_refl _,by omega⟩,Or.inl rfl⟩;have CK:=hid (checkMesh_any _ 0 _ noB _ len _ _ (freshP X) wr hve0 hpsl);have hE:=HEr.out;unfold newE at hE;rw[hE]at CK;have HPs:=hid hpsl;unfold meshV at CK;clear hve0 hpsl hav hrow hE;go_wp2_with fail
  refine Calls.mono CK.out ?_;rintro e W5 ⟨rfl,hb5⟩;have B5:=hid (J.out.below.trans (hb5.mono J.out.below.size));have o5:=stayB J.out.out hb5;have HO5:=hid o5;have HP5:=hid (HPs.out.up hb5);clear m0 m1;obtain⟨m0,m1⟩:=two_at (stayB J.out.box hb5);obtain⟨r1,r2⟩:=two_at o5;have f1:=frozen_at (i:=0) o5;have f2:=frozen_at (i:=1) o5;clear hb5 o5 CK;by_cases h0:er=0
  ·subst h0
   go_wp2;refine ret2 (put2_whole HO5.out _ _) Tryz.underlying27 ?_;exact⟨put2_below B5.out (Nat.le_refl _),.slice none 0 0,.slice ao len co,0,len,fun _=>.int .i64 0,_,_,rfl,rfl,rfl,⟨none,0,rfl,⟨Nat.le_refl _,by omega⟩,Or.inl rfl⟩,ps_put2 HO5.out HP5.out _ _⟩
  have heb:(er != 0)=true:=by simpa using h0
  have H0:=hid h0;clear h0;go_wp2;refine ret2 (put2_whole HO5.out _ _) Tryz.underlying27 ?_;exact mesh_none (put2_below B5.out (Nat.le_refl _)) H0.out
section
theorem tlEqual{w:World}{v1 v2:Value}{n:Nat}{X:Nat→Int}(h1:IntSl w w.heap.size v1 n X)(h2:IntSl w w.heap.size v2 n X):
 Calls Tryz.prog 31 #[v1,v2] w fun e w'=>e=.returned (.bool true)∧Below w.heap.size w w':=by
 have CE:=hid (equal_isl h1 h2)
 rw[eqB_self]at CE
 obtain⟨a1,c1,rfl,_,_⟩:=h1
 obtain⟨a2,c2,rfl,_,_⟩:=h2
 go_enter Tryz.func31,Tryz.ntmps31
 go_wp2_with fail
 refine Calls.mono CE.out ?_
 rintro e y1 ⟨rfl,j1,hy1⟩
 have hb:Below w.heap.size w y1:=by rw[hy1];exact drewN_up _ _
 have HB:=hid hb
 clear hb hy1 CE
 go_wp2
 go_ret
 exact⟨rfl,HB.out⟩
theorem eqLists{w:World}{v1 v2:Value}{n:Nat}{VV VW:Nat→Value}{L:Nat→Nat}{X:Nat→Nat→Int}(hn:n≤1000)(h1:LiSl w w.heap.size v1 n VV L X)(h2:LiSl w w.heap.size v2 n VW L X):
 Calls Tryz.prog 30 #[v1,v2,.func (.func 31) #[] #[]] w fun e w'=>e=.returned (.bool true)∧Below w.heap.size w w':=by
 have H1:=hid h1
 have H2:=hid h2
 obtain⟨a1,c1,rfl,⟨hc1,_⟩,_⟩:=h1
 obtain⟨a2,c2,rfl,⟨hc2,_⟩,_⟩:=h2
 go_enter Tryz.func30,Tryz.ntmps30
 go_wp2
 go_loopw [17] (fun i wr=>∃k:Nat,k≤n∧i=.int .i64 k∧Hid (Below w.heap.size w wr)) (fun i _=>n-(intOf i).toNat)
 case atStart=>exact⟨0,Nat.zero_le _,rfl,Below.refl _ _⟩
 case round =>
  obtain⟨k,hk,rfl,HB⟩:=hrel;by_cases hlt:k<n
  ·have hki:(k:Int)<(n:Int):=by omega
   obtain⟨b1,o1,cp1,e1,l1,x1,i1⟩:=(H1.out.up HB.out).at hlt;obtain⟨b2,o2,cp2,e2,l2,x2,i2⟩:=(H2.out.up HB.out).at hlt;injection e1 with e1 _ e3;injection e2 with e2 _ e4;subst e1 e2 e3 e4;have CE:=hid (tlEqual i1 i2);obtain⟨u1,d1,hu1,_,_⟩:=i1;obtain⟨u2,d2,hu2,_,_⟩:=i2;rw[hu1]at x1 CE;rw[hu2]at x2 CE;clear hu1 hu2;go_wp2_with fail
   refine Calls.mono CE.out ?_;rintro e w2 ⟨rfl,hb⟩;have HB2:=hid (HB.out.trans (hb.mono HB.out.size));clear hb CE x1 x2;go_wp2;go_roundw
   case rel=>exact⟨k+1,by omega,by go_num,HB2⟩
   case measure=>simp only[intOf];omega
  have hkn:n=k:=by omega
  subst hkn;have hjn:¬(n:Int)<(n:Int):=by omega
  go_wp2;go_ret;exact⟨rfl,HB.out⟩
structure TsInv(w wr:World)(gx:Nat)(Q:Ms)(a0:Option Addr)(c0:Nat)(a1:Option Addr)(c1:Nat)(PV KV:Nat→Value)(UV:Nat→Nat→Value)(v:Value)(VV:List Value)(l:List (Nat×(Nat→Int))):Prop where
 ge:w.heap.size≤gx
 made:MsAt wr gx a0 Q.n c0 PV Q.b a1 Q.np c1 KV UV Q.P
 ls:LsInv w wr v VV l
 off:∀s,v.ownBlock=some s→MsOff s (.slice a0 Q.n c0) Q.n PV Q.b (.slice a1 Q.np c1) Q.np KV UV Q.P
section
variable {w wr w' : World} {gx : Nat} {Q Q' : Ms} {a0 a2 : Option Addr} {c0 c2 : Nat} {a1 a3 : Option Addr} {c1 c3 : Nat} {PV KV PV2 KV2 : Nat → Value} {UV UV2 : Nat → Nat → Value} {v v' : Value} {VV : List Value} {l : List (Nat × (Nat → Int))}
theorem TsInv.up(h:TsInv w wr gx Q a0 c0 a1 c1 PV KV UV v VV l)(hb:Below wr.heap.size wr w'):TsInv w w' gx Q a0 c0 a1 c1 PV KV UV v VV l :=
 ⟨h.ge,h.made.up hb,h.ls.up hb,h.off⟩
theorem TsInv.ne(h:TsInv w wr gx Q a0 c0 a1 c1 PV KV UV v VV l):some gx≠v.ownBlock:=row_ne h.ls.own h.made.1 (by decide)
theorem TsInv.next(h:TsInv w wr gx Q a0 c0 a1 c1 PV KV UV v VV l)(hv:VeSl wr wr.heap.size (.slice a2 Q'.n c2) Q'.n PV2 Q'.b)(hp:PsSl wr wr.heap.size (.slice a3 Q'.np c3) Q'.np KV2 UV2 Q'.P)
 (ho:∀s,v.ownBlock=some s→MsOff s (.slice a2 Q'.n c2) Q'.n PV2 Q'.b (.slice a3 Q'.np c3) Q'.np KV2 UV2 Q'.P):TsInv w (put2 wr gx (.slice a2 Q'.n c2) (.slice a3 Q'.np c3)) gx Q' a2 c2 a3 c3 PV2 KV2 UV2 v VV l:=by
 refine⟨h.ge,⟨put2_whole h.made.1 _ _,ve_put2 h.made.1 hv _,ps_put2 h.made.1 hp _ _⟩,⟨put2_below h.ls.below h.ge,?_,h.ls.len,fun j hj=>isl_put2D h.made.1 (h.ls.at_ j hj) _ _,h.ls.off⟩,ho⟩
 have hne:=h.ne
 obtain⟨h1,h2⟩:=h.ls.own
 refine⟨h1,?_⟩
 rcases h2 with h2|⟨g,cap,cur,e1,e2,e3,e4⟩
 ·exact Or.inl h2
 ·have hg:g≠gx:=fun e=>hne (by rw[e1,e];rfl)
  refine Or.inr ⟨g,cap,cur,e1,e2,?_,e4⟩;unfold put2;rw[Below.heap_setCell _ _ _ _ hg,Below.heap_setCell _ _ _ _ hg];exact e3
theorem TsInv.grow{x:Value}{d:Nat}{D:Nat→Int}(h:TsInv w wr gx Q a0 c0 a1 c1 PV KV UV v VV l)(hx:IntSl wr wr.heap.size x d D)(hox:∀s,v.ownBlock=some s→OfB s d x)(hg:wr.grownBy w' v.ownBlock)(ho:w'.ownsRow w.heap.size 28 1 v' (l.length+1) (VV++[x]))(hat:v'.ownBlock=v.ownBlock∨v'.ownBlock=some wr.heap.size):
 TsInv w w' gx Q a0 c0 a1 c1 PV KV UV v' (VV++[x]) (l++[(d,D)]):=by
 have hne:=h.ne
 have hoff:∀s,v'.ownBlock=some s→MsOff s (.slice a0 Q.n c0) Q.n PV Q.b (.slice a1 Q.np c1) Q.np KV UV Q.P:=fun s hs=>by
  rcases hat with hat|hat;·exact h.off s (by rw[←hat];exact hs)
  rw[hat]at hs;injection hs with hs;subst hs;exact MsOff.of h.made.2.1 h.made.2.2 (Nat.le_refl _)
 refine⟨h.ge,⟨by rw[hg.block gx (Array.getElem?_eq_some_iff.1 h.made.1).1 hne];exact h.made.1,?_,?_⟩,h.ls.grow hx hox hg ho hat,hoff⟩
 ·cases hrow:v.ownBlock with
  |none=>rw[hrow]at hg;exact h.made.2.1.up (below_of_grown hg)
  |some s=>rw[hrow]at hg;exact h.made.2.1.grownO hg (h.off s hrow).1
 ·cases hrow:v.ownBlock with
  |none=>rw[hrow]at hg;exact h.made.2.2.up (below_of_grown hg)
  |some s=>rw[hrow]at hg;exact h.made.2.2.grownO hg (h.off s hrow).2
end
end
section
section
variable {n : Nat} {b : Bk} {np : Nat} {P : Ps} {k : Nat}
end
end
end Go.Proofs.YtajmnlhfnhbleaaGreat
