/- Several texts of one proof, in their order. -/
import Derived.Test.YtajmnlhfnhbleaaGreatSSum22
namespace Go.Proofs.YtajmnlhfnhbleaaGreat
open Go.RowKit CurveMath
set_option linter.unusedVariables false
set_option maxHeartbeats 8000000
set_option maxRecDepth 10000
theorem repaired_anyO(I:Nat→Prop)(vb:Value)(n:Nat)(PV:Nat→Value)(b:Bk)(vl:Value)(np:Nat)(KV:Nat→Value)(UV:Nat→Nat→Value)(P:Ps)(k:Int)(w:World)(hv:VeSl w w.heap.size vb n PV b)(hl:PsSl w w.heap.size vl np KV UV P)(hmo:∀s,s<w.heap.size→I s→MsOff s vb n PV b vl np KV UV P):
 Calls Tryz.prog 53 #[meshV vb vl,.int .i64 k] w (MeshPostO w (mendE n b np P k) n b np (mendP b np P k) I):=by
 have hb0:=((Below.refl w.heap.size w).alloc (Nat.le_refl _) (.cells #[vb,vl] 27)).alloc (by simp) (.cells #[.slice none 0 0,.slice none 0 0] 27)
 have k1:=heap_two_old w (.cells #[vb,vl] 27) (.cells #[.slice none 0 0,.slice none 0 0] 27)
 have k2:=heap_two_new w (.cells #[vb,vl] 27) (.cells #[.slice none 0 0,.slice none 0 0] 27)
 obtain⟨W0,hW0⟩:∃W,(w.alloc (.cells #[vb,vl] 27)).alloc (.cells #[.slice none 0 0,.slice none 0 0] 27)=W:=⟨_,rfl⟩
 rw[hW0]at hb0 k1 k2
 have HV:=hid hv
 have HMo:=hid hmo
 clear hmo
 have HL:=hid hl
 obtain⟨ad,cap0,rfl,_,hxv⟩:=hv
 obtain⟨al,cl,rfl,_,_⟩:=hl
 have CR:=hid (restored_any _ n PV b _ np KV UV P k W0 (HV.out.up hb0) (HL.out.up hb0))
 obtain⟨er,her⟩:∃c,mendE n b np P k=c:=⟨_,rfl⟩
 rw[her]
 unfold mendE at her
 have HEr:=hid her
 obtain⟨m0,m1⟩:=two_at k1
 have B0:=hid hb0
 have K1:=hid k1
 have K2:=hid k2
 have HXv:=hid hxv
 clear hb0 k1 k2 her hxv
 unfold meshV at CR
 unfold meshV
 go_enter Tryz.func53,Tryz.ntmps53
 go_wp2_with fail
 refine Calls.mono CR.out ?_
 rintro e W ⟨hbW,vd,vbad,ld,rfl,hld,hvd,hbad⟩
 have B1:=hid (B0.out.trans (hbW.mono B0.out.size))
 have d1:=stayB K1.out hbW
 have d2:=stayB K2.out hbW
 have D1:=hid d1
 have D2:=hid d2
 have HVd:=hid hvd
 obtain⟨adt,cdt,rfl,_,_⟩:=hvd
 obtain⟨abd,cbd,rfl,_,_⟩:=hbad
 obtain⟨c,hc⟩:∃c,rsE n b np P k=c:=⟨_,rfl⟩
 have hE1:=HEr.out
 rw[hc]at hE1 hld
 rw[hc]
 have HC:=hid hc
 clear hbW m0 m1 CR hc
 by_cases h0:c=0
 ·subst h0
  rw[if_pos rfl]at hE1 hld;have HE1:=hid hE1;obtain⟨hver,d,mo,sN,e1,e2,e3,hpl⟩:=rsE_ok HC.out;obtain⟨hR,hk0,hkn⟩:=verM_ok hver;obtain⟨q,rfl⟩:∃q:Nat,k=q:=⟨k.toNat,by omega⟩;rw[Int.toNat_natCast]at e1 e2 e3 hld;have hqn:q<n:=by omega
  have hki:(q:Int)<(n:Int):=by omega
  have hls:ld=sN:=by rw[e3]at hld;omega
  subst hls;have HR:=hid hR;have HPl:=hid hpl;have hps:=planOk_spec hpl;have HNd:=hid e1;have HOf:=hid e2;have HSz:=hid e3;rcases HXv.out with h0|⟨bv,ov,rfl,hbv,hxv⟩;·omega
  obtain⟨_,v1,v2,v3,_⟩:=hxv q hqn;rw[e1]at v1;rw[e2]at v2;rw[e3]at v3;have q1:W.cell? ⟨bv,ov+q*4+1,none⟩=some (.int .i64 (d:Int)):=by rw[B1.out.cell hbv];exact v1
  have q2:W.cell? ⟨bv,ov+q*4+2,none⟩=some (.int .i64 (mo:Int)):=by rw[B1.out.cell hbv];exact v2
  have q3:W.cell? ⟨bv,ov+q*4+3,none⟩=some (.int .i64 (ld:Int)):=by rw[B1.out.cell hbv];exact v3
  obtain⟨m0,m1⟩:=two_at d1;have hbP:=below_alloc W (.cells #[.int .i64 (d:Int),.int .i64 (mo:Int),.int .i64 (ld:Int)] 59);have kp:=heap_alloc_new W (.cells #[.int .i64 (d:Int),.int .i64 (mo:Int),.int .i64 (ld:Int)] 59);obtain⟨W1,hW1⟩:∃W',W.alloc (.cells #[.int .i64 (d:Int),.int .i64 (mo:Int),.int .i64 (ld:Int)] 59)=W':=⟨_,rfl⟩;rw[hW1]at hbP kp;have B2:=hid (B1.out.trans (hbP.mono B1.out.size));have D1:=hid (stayB d1 hbP);have D2:=hid (stayB d2 hbP);have KP:=hid kp;have HVd:=hid (HVd.out.up hbP);have hnp8:=hR.few;have CC:=hid (cloneP (HL.out.up B2.out) (by omega));obtain⟨n0,n1⟩:=two_at (stayB d1 hbP);have hsp:w.heap.size+1<W.heap.size:=(Array.getElem?_eq_some_iff.1 d2).1;have HSp:=hid hsp;clear d1 d2 hE1 hbP kp hxv v1 v2 v3 hld hver hR hpl e1 e2 e3 hsp;go_wp2_with fail
  refine Calls.mono CC.out ?_;rintro e W2 ⟨v2,rfl,hown,hb2⟩;have B3:=hid (B2.out.trans (hb2.mono B2.out.size));have e1:=stayB D1.out hb2;have e2:=stayB D2.out hb2;have e3:=stayB KP.out hb2;have hgW1:W.heap.size<W1.heap.size:=(Array.getElem?_eq_some_iff.1 KP.out).1;obtain⟨av,g,cap,rfl,hav,hcap,hrow⟩:=rowP_any hown (Array.getElem?_eq_some_iff.1 e1).1;clear q1 q2 q3 m0 m1 n0 n1;obtain⟨m0,m1⟩:=two_at e1;have fm:=frozen_at (i:=1) e1;obtain⟨Y,hY⟩:∃Y,W2.setCell ⟨w.heap.size,1,none⟩ (.slice av np cap)=Y:=⟨_,rfl⟩;have hz:Y.heap.size=W2.heap.size:=by rw[←hY];simp[World.setCell]
  have hgw:1≤np→w.heap.size+1<g∧W.heap.size≠g:=fun h=>by have h1:=(hav h).2;have h2:=HSp.out;omega
  have hYb:Y.heap[w.heap.size]?=some (.cells #[.slice (some ⟨bv,ov,none⟩) n cap0,.slice av np cap] 27 (0,0)):=by rw[←hY];simp[World.setCell,Array.getElem?_modify,e1]
  have hYo:Y.heap[w.heap.size+1]?=some (.cells #[.slice none 0 0,.slice none 0 0] 27 (0,0)):=by rw[←hY,Below.heap_setCell _ _ _ _ (by show w.heap.size+1≠w.heap.size;omega)];exact e2
  have hYp:Y.heap[W.heap.size]?=some (.cells #[.int .i64 (d:Int),.int .i64 (mo:Int),.int .i64 (ld:Int)] 59 (0,0)):=by rw[←hY,Below.heap_setCell _ _ _ _ (by show W.heap.size≠w.heap.size;have:=HSp.out;omega)];exact e3
  have hYw:Below w.heap.size w Y:=by rw[←hY];exact B3.out.setCell (p:=⟨w.heap.size,1,none⟩) (Nat.le_refl _) _
  have hYr:RowP Y g np KV P:=by
   by_cases hn:1≤np
   ·have hg:=(hgw hn).1
    refine⟨fun k hk=>?_,fun i hi=>by rw[←hY,frozen_set];exact hrow.free i hi,by rw[hz];exact hrow.lt⟩;obtain⟨q1,q2,q3⟩:=hrow.cell k hk;rw[←hY];exact⟨by rw[cell_set_lit (Or.inl (by omega))];exact q1,by rw[cell_set_lit (Or.inl (by omega))];exact q2,by rw[cell_set_lit (Or.inl (by omega))];exact q3⟩
   exact⟨fun k hk=>(by omega),fun i hi=>(by omega),by rw[hz];exact hrow.lt⟩
  have hYi:IntSl Y Y.heap.size (.slice adt ld cdt) ld (rsD b np P (q:Int)):=by
   rw[hz,←hY];exact isl_slice (HVd.out.up hb2) m1 _
  have hbS:=below_alloc Y (.cells #[.bool false,.bool false,.bool false,.bool false,.bool false,.bool false,.bool false,.bool false] 126);have ks:=heap_alloc_new Y (.cells #[.bool false,.bool false,.bool false,.bool false,.bool false,.bool false,.bool false,.bool false] 126);obtain⟨Y1,hY1⟩:∃Y',Y.alloc (.cells #[.bool false,.bool false,.bool false,.bool false,.bool false,.bool false,.bool false,.bool false] 126)=Y':=⟨_,rfl⟩;rw[hY1]at hbS ks;obtain⟨R,hRr⟩:∃R:Nat,rowsN (d:Int) (ld:Int)=R:=⟨_,rfl⟩;obtain⟨S,hSs⟩:∃S,rsS b np P (q:Int)=S:=⟨_,rfl⟩;have RI:Hid (RpInv w Y1 (.slice (some ⟨bv,ov,none⟩) n cap0) av g np cap KV UV (repP P (q:Int) R S 0) W.heap.size Y.heap.size (d:Int) (mo:Int) (ld:Int) (repS P (q:Int) R S 0)):=by
   show RpInv _ _ _ _ _ _ _ _ _ _ _ _ _ _ _ _;rw[repP_zero];refine⟨(GvInv.up ⟨hYw,hYb,hYo,hYr,fun k hk=>?_⟩ hbS),stayB hYp hbS,_,ks,rfl,fun q hq=>?_⟩
   ·obtain⟨_,_,_,_,_,_,_,hke⟩:=HL.out.at hk
    exact hke.up hYw
   match q,hq with
   |0,_=>rfl
   |1,_=>rfl
   |2,_=>rfl
   |3,_=>rfl
   |4,_=>rfl
   |5,_=>rfl
   |6,_=>rfl
   |7,_=>rfl
  have HI1:=hid (hYi.up hbS);have HAv:=hid hav;have HGw:=hid hgw;have HGs:Hid (w.heap.size+1<Y.heap.size∧W.heap.size≠Y.heap.size∧(1≤np→g≠Y.heap.size)):=⟨(Array.getElem?_eq_some_iff.1 hYo).1,Nat.ne_of_lt (Array.getElem?_eq_some_iff.1 hYp).1,fun _=>Nat.ne_of_lt hYr.lt⟩;obtain⟨gs,hgs⟩:∃gs,Y.heap.size=gs:=⟨_,rfl⟩;obtain⟨gp,hgp⟩:∃gp,W.heap.size=gp:=⟨_,rfl⟩;obtain⟨o0,o1⟩:=two_at (stayB hYb hbS);obtain⟨y0,y1⟩:=two_at hYb;have HRr:=hid hRr;have HSs:=hid hSs;have HGp:=hid hgp;have HGsz:=hid hgs;rw[hgs]at RI HGs;rw[hgp]at RI HGs HGw;clear hz hrow hown hYb hYo hYp hYw hYr hYi hbS ks e1 e2 e3 hRr hSs hav hgw hb2 hgp hgs hgW1 CC D1 D2 KP;go_wp2;rw[HGp.out,HGsz.out];clear m0 m1 fm y0 y1 o0 o1 hY hY1
  go_loopw [42] (fun iv wr=>∃(kk:Nat) (KVi:Nat→Value) (UVi:Nat→Nat→Value),kk≤np∧iv=.int .i64 kk∧Hid (RpInv w wr (.slice (some ⟨bv,ov,none⟩) n cap0) av g np cap KVi UVi (repP P (q:Int) R S kk) gp gs (d:Int) (mo:Int) (ld:Int) (repS P (q:Int) R S kk))∧Hid (PsO w.heap.size I np KVi UVi (repP P (q:Int) R S kk))∧Hid (IntSl wr wr.heap.size (.slice adt ld cdt) ld (rsD b np P (q:Int)))) (fun iv _=>np-(intOf iv).toNat)
  case atStart=>exact⟨0,KV,UV,Nat.zero_le _,rfl,RI,(by show PsO _ _ _ _ _ _;rw[repP_zero];exact fun s hs hI=>(HMo.out s hs hI).2.2),HI1⟩
  case round =>
   obtain⟨kk,KVi,UVi,hkk,rfl,RR,PO,HIr⟩:=hrel;by_cases hlt:kk<np
   ·have hkki:(kk:Int)<(np:Int):=by omega
    obtain⟨hav,_⟩:=HAv.out (by omega);subst hav;obtain⟨hgw1,hgw2⟩:=HGw.out (by omega);obtain⟨hgs1,hgs2,hgs3⟩:=HGs.out;have hgs4:=hgs3 (by omega);have hat:=repP_at (P:=P) (ver:=(q:Int)) (R:=R) (S:=S) (k:=kk);obtain⟨r1,r2,r3⟩:=RR.out.gv.row.cell kk hlt;obtain⟨ak,ck,hKq⟩:=RR.out.gv.slices hlt;rw[hat.1]at hKq;rw[hKq]at r3;have r1':wr.cell? ⟨g,kk*3,none⟩=some (.bool (P.th kk)):=r1;have r2':wr.cell? ⟨g,kk*3+1,none⟩=some (.int .i64 (P.rm kk)):=r2;have hke:=RR.out.gv.kept kk hlt;rw[hat.1,hat.2,hKq]at hke;have HKq:=hid hKq;have hbA:=below_alloc wr (.cells #[.bool (P.th kk),.int .i64 (P.rm kk),.slice ak (P.m kk) ck] 41);have kz:=heap_alloc_new wr (.cells #[.bool (P.th kk),.int .i64 (P.rm kk),.slice ak (P.m kk) ck] 41)
    obtain⟨Z,hZ⟩:∃Z,wr.alloc (.cells #[.bool (P.th kk),.int .i64 (P.rm kk),.slice ak (P.m kk) ck] 41)=Z:=⟨_,rfl⟩;rw[hZ]at hbA kz;obtain⟨bp,hbp⟩:∃bp,wr.heap.size=bp:=⟨_,rfl⟩;rw[hbp]at kz;have RZ:=hid (RR.out.up hbA);have HIz:=hid (HIr.out.up hbA);have HKe:=hid (hke.up hbA);have KZ:=hid kz;have CA:=hid (atPeer_any (P.th kk) (P.rm kk) _ (P.m kk) _ (P.t kk) (q:Int) Z HKe.out);obtain⟨x,hx⟩:∃x,fstAt (P.t kk).V (q:Int) (P.m kk) 0=x:=⟨_,rfl⟩;rw[hx]at CA;have HX:=hid hx;unfold peerV at CA;obtain⟨z0,z1,z2⟩:=three_at kz;have HBp:=hid hbp;clear r1 r2 hKq hat hke kz hx hbA;go_wp2_with fail
    refine Calls.mono CA.out ?_;rintro e W5 ⟨rfl,hb5⟩;have R5:=hid (RZ.out.up hb5);have HI5:=hid (HIz.out.up hb5);have HK5:=hid (HKe.out.up hb5);have KZ5:=hid (stayB KZ.out hb5);clear z0 z1 z2 r1' r2' r3 hb5 CA hbp hZ;obtain⟨z0,z1,z2⟩:=three_at KZ5.out;obtain⟨tk,htk⟩:∃t,P.th kk=t:=⟨_,rfl⟩;rw[htk]at z0;have HTk:=hid htk;clear htk;cases tk with
    |false =>
     have hh:hasK P (q:Int) kk=false:=by unfold hasK;rw[HTk.out,Bool.false_and]
     obtain⟨g1,g2⟩:=rep_none (R:=R) (S:=S) hh;have RN:Hid (RpInv w W5 (.slice (some ⟨bv,ov,none⟩) n cap0) (some ⟨g,0,none⟩) g np cap KVi UVi (repP P (q:Int) R S (kk+1)) gp gs (d:Int) (mo:Int) (ld:Int) (repS P (q:Int) R S (kk+1))):=by show RpInv _ _ _ _ _ _ _ _ _ _ _ _ _ _ _ _;rw[repP_keep g1,g2];exact R5.out
     have PN:Hid (PsO w.heap.size I np KVi UVi (repP P (q:Int) R S (kk+1))):=by show PsO _ _ _ _ _ _;rw[repP_keep g1];exact PO.out
     clear hh g1 g2;go_wp2;go_roundw
     case rel=>exact⟨kk+1,KVi,UVi,by omega,by go_num,RN,PN,HI5⟩
     case measure=>simp only[intOf];omega
    |true =>
     by_cases hx0:x<0
     ·have hh:hasK P (q:Int) kk=false:=by unfold hasK;rw[HTk.out,Bool.true_and,HX.out,decide_eq_false (by omega)]
      obtain⟨g1,g2⟩:=rep_none (R:=R) (S:=S) hh;have RN:Hid (RpInv w W5 (.slice (some ⟨bv,ov,none⟩) n cap0) (some ⟨g,0,none⟩) g np cap KVi UVi (repP P (q:Int) R S (kk+1)) gp gs (d:Int) (mo:Int) (ld:Int) (repS P (q:Int) R S (kk+1))):=by show RpInv _ _ _ _ _ _ _ _ _ _ _ _ _ _ _ _;rw[repP_keep g1,g2];exact R5.out
      have PN:Hid (PsO w.heap.size I np KVi UVi (repP P (q:Int) R S (kk+1))):=by show PsO _ _ _ _ _ _;rw[repP_keep g1];exact PO.out
      clear hh g1 g2;go_wp2;go_roundw
      case rel=>exact⟨kk+1,KVi,UVi,by omega,by go_num,RN,PN,HI5⟩
      case measure=>simp only[intOf];omega
     have hh:hasK P (q:Int) kk=true:=by unfold hasK;rw[HTk.out,Bool.true_and,HX.out,decide_eq_true (by omega)]
     have hpl9:=fstAt_place (P.t kk).V (q:Int) (P.m kk) 0 (by rw[HX.out];omega);obtain⟨i,hi1,_,hi2,hi3⟩:=hpl9;rw[Nat.zero_add]at hi2;obtain rfl:x=(i:Int):=by rw[←HX.out];exact hi1
     have hii:(i:Int)<(P.m kk:Int):=by omega
     have hN:=HR.out.num kk i hlt hi2;obtain⟨N,hNe⟩:∃N:Nat,(P.t kk).N i=N:=⟨((P.t kk).N i).toNat,by omega⟩;have hN8:N<8:=by omega
     have hNi:(N:Int)<8:=by omega
     have hatk:atK P (q:Int) kk=i:=by unfold atK;rw[hi1,Int.toNat_natCast]
     have hnum:numK P (q:Int) kk=(N:Int):=by unfold numK;rw[hatk,hNe]
     have hgood:goodK P (q:Int) R S kk=sameB (N:Int) (N:Int) ((P.t kk).L i) R ((P.t kk).X i) (S N):=by unfold goodK;rw[hnum,hatk,Int.toNat_natCast]
     obtain⟨bk,ok,hak,hbk,hxk⟩:∃bk ok,ak=some ⟨bk,ok,none⟩∧bk<W5.heap.size∧(W5.cell? ⟨bk,ok+i*3+1,none⟩=some (.int .i64 (N:Int))∧W5.cell? ⟨bk,ok+i*3+2,none⟩=some (UVi kk i)∧IntSl W5 W5.heap.size (UVi kk i) ((P.t kk).L i) ((P.t kk).X i)):=by
      obtain⟨ad9,cap9,he9,_,h9⟩:=HK5.out;injection he9 with he1 _ _;subst he1;rcases h9 with h9|⟨bk,ok,e9,hbk,hx9⟩;·omega
      obtain⟨_,x1,x2,x3⟩:=hx9 i hi2;rw[hNe]at x1;exact⟨bk,ok,e9,hbk,x1,x2,x3⟩
     subst hak;obtain⟨x1,x2,x3⟩:=hxk;have HIv:=hid x3;obtain⟨au,cu,hue,_,_⟩:=x3;rw[hue]at x2 HIv;have hbB:=below_alloc W5 (.cells #[.int .i64 (N:Int),.slice au ((P.t kk).L i) cu] 81);have ku:=heap_alloc_new W5 (.cells #[.int .i64 (N:Int),.slice au ((P.t kk).L i) cu] 81);obtain⟨U,hU⟩:∃U,W5.alloc (.cells #[.int .i64 (N:Int),.slice au ((P.t kk).L i) cu] 81)=U:=⟨_,rfl⟩;rw[hU]at hbB ku;obtain⟨bq,hbq⟩:∃bq,W5.heap.size=bq:=⟨_,rfl⟩;have RU:=hid (R5.out.up hbB);have HIU:=hid (HI5.out.up hbB);have HVU:=hid (HIv.out.up hbB);have HKU:=hid (HK5.out.up hbB);have KZU:=hid (stayB KZ5.out hbB);rw[hbq]at ku;obtain⟨u0,u1⟩:=two_at ku;have KU:=hid ku;obtain⟨p0,p1,p2⟩:=three_at RU.out.plan;have hbit:=(RU.out.bit hN8).1;obtain⟨sn,hsn⟩:∃t,(repS P (q:Int) R S kk).contains (N:Int)=t:=⟨_,rfl⟩;rw[hsn]at hbit
     have hne:Nonempty (Of (Below U.heap.size U)):=⟨⟨U,Below.refl _ _⟩⟩;have F0:∀u:Of (Below U.heap.size U),u.val.cell? ⟨bq,0,none⟩=some (.int .i64 (N:Int)):=fun u=>by rw[u.is.cell (cell_lt u0)];exact u0
     have F1:∀u:Of (Below U.heap.size U),u.val.cell? ⟨bq,1,none⟩=some (.slice au ((P.t kk).L i) cu):=fun u=>by rw[u.is.cell (cell_lt u1)];exact u1
     have F2:∀u:Of (Below U.heap.size U),u.val.cell? ⟨gp,0,none⟩=some (.int .i64 (d:Int)):=fun u=>by rw[u.is.cell (cell_lt p0)];exact p0
     have F3:∀u:Of (Below U.heap.size U),u.val.cell? ⟨gp,1,none⟩=some (.int .i64 (mo:Int)):=fun u=>by rw[u.is.cell (cell_lt p1)];exact p1
     have F4:∀u:Of (Below U.heap.size U),u.val.cell? ⟨gp,2,none⟩=some (.int .i64 (ld:Int)):=fun u=>by rw[u.is.cell (cell_lt p2)];exact p2
     have F5:∀u:Of (Below U.heap.size U),u.val.cell? ⟨gs,N,none⟩=some (.bool sn):=fun u=>by rw[u.is.cell (cell_lt hbit)];exact hbit
     have CO:Hid (∀u,Below U.heap.size U u→Calls Tryz.prog 96 #[planV (d:Int) (mo:Int) (ld:Int),.slice adt ld cdt,.int .i64 (N:Int)] u fun e w'=>ShareIs u w' (N:Int) R (S N) e):=fun u hbu=>by
      have h9:=shareOf_any d mo ld (ld:Int) adt cdt (rsD b np P (q:Int)) N u HPl.out (fun j _=>rsD_num b np P (q:Int) j) (by omega) (by omega) HRr.out (HIU.out.up hbu);have h8:(fun r=>shv d ld (rsD b np P (q:Int)) N r)=S N:=by rw[←HSs.out];funext r;unfold rsS;rw[Int.toNat_natCast,HNd.out,HSz.out,Int.toNat_natCast,Int.toNat_natCast]
      rw[h8]at h9;exact h9
     unfold planV at CO;have HH:=hid hh;have HNm:=hid hnum;have HGd:=hid hgood;have HSn:=hid hsn;have HBq:=hid hbq;clear hh hnum hgood hatk hi1 hi3 hN hNe hue hbB hbit p0 p1 p2 u0 u1 ku hsn hx0 hbk;go_wp2_with fail
     have HD1:Hid (Below U.heap.size U U.drew):=drew_below U;refine region_mixed (Below U.heap.size U) [([0,1,2,3,4],5),([],6)] [7,8,9,10,11,12,13] (by kernel_rfl) (by kernel_rfl) HD1.out ?_;refine mixO_cons ?_;repeat(go_big_quiet_step (fail))
     refine wpQuiet_nil ?_;intro K hK;go_wp2_with fail
     refine Calls.mono (CO.out _ HD1.out) ?_;rintro e U2 ⟨Vn,rfl,hvn,hb2,_⟩;have H2:Hid (Below U.heap.size U U2):=HD1.out.trans (hb2.mono HD1.out.size);have CS:=hid (sameShare_any (N:Int) (N:Int) _ _ ((P.t kk).L i) R ((P.t kk).X i) (S N) U2 (HVU.out.up H2.out) hvn);obtain⟨sb,hsb⟩:∃t,sameB (N:Int) (N:Int) ((P.t kk).L i) R ((P.t kk).X i) (S N)=t:=⟨_,rfl⟩;rw[hsb]at CS;have HSb:=hid hsb;obtain⟨an,cn,rfl,_,_⟩:=hvn;unfold shareV at CS;unfold shareV;clear hb2 hsb;go_wp2;refine⟨rfl,hK _ _ H2.out ?_⟩;clear hK K;refine mixO_cons (lq:=[]) ?_ rfl;refine wpQuiet_nil ?_;intro K hK;go_wp2_with fail
     refine Calls.mono CS.out ?_;rintro e U3 ⟨rfl,hb3⟩;have H3:Hid (Below U.heap.size U U3):=H2.out.trans (hb3.mono H2.out.size);clear hb3 CS;go_wp2;refine⟨rfl,hK _ _ H3.out ?_⟩;clear hK K;cases sb with
     |false =>
      refine mixO_nil ?_;repeat(go_big_quiet_step (fail))
      refine wpQuiet_nil ?_;clear F0 F1 F2 F3 F4 F5 hne;have hbad:(goodK P (q:Int) R S kk && !(repS P (q:Int) R S kk).contains (numK P (q:Int) kk))=false:=by rw[HGd.out,HNm.out,HSn.out,HSb.out];rfl
      obtain⟨g1,g2⟩:=rep_bad HH.out hbad;have HG1:=hid g1;have HG2:=hid g2;clear hbad g1 g2;have R3:=hid (RU.out.up H3.out);have HI3:=hid (HIU.out.up H3.out);have HK3:=hid (HKU.out.up H3.out);obtain⟨z0,z1,z2⟩:=three_at (stayB KZU.out H3.out);rw[HTk.out]at z0;obtain⟨m0,m1⟩:=two_at R3.out.gv.box;have hne:Nonempty (Of (Below U3.heap.size U3)):=⟨⟨U3,Below.refl _ _⟩⟩;have F1:∀u:Of (Below U3.heap.size U3),u.val.cell? ⟨w.heap.size,1,none⟩=some (.slice (some ⟨g,0,none⟩) np cap):=fun u=>by rw[u.is.cell (cell_lt m1)];exact m1
      have F2:∀u:Of (Below U3.heap.size U3),u.val.cell? ⟨bp,0,none⟩=some (.bool true):=fun u=>by rw[u.is.cell (cell_lt z0)];exact z0
      have F3:∀u:Of (Below U3.heap.size U3),u.val.cell? ⟨bp,1,none⟩=some (.int .i64 (P.rm kk)):=fun u=>by rw[u.is.cell (cell_lt z1)];exact z1
      have F4:∀u:Of (Below U3.heap.size U3),u.val.cell? ⟨bp,2,none⟩=some (.slice (some ⟨bk,ok,none⟩) (P.m kk) ck):=fun u=>by rw[u.is.cell (cell_lt z2)];exact z2
      have CW:Hid (∀u,Below U3.heap.size U3 u→Calls Tryz.prog 58 #[peerV true (P.rm kk) (.slice (some ⟨bk,ok,none⟩) (P.m kk) ck),.int .i64 (q:Int)] u (PePostO u true (P.rm kk) (P.m kk) (UVi kk) (P.t kk) (butL (P.t kk) (q:Int) (P.m kk)).length (selT (P.t kk) (butL (P.t kk) (q:Int) (P.m kk))))):=fun u hbu=>without_anyO true (P.rm kk) _ (P.m kk) _ (P.t kk) (q:Int) u (by have:=HR.out.small kk hlt;omega) (HK3.out.up hbu);unfold peerV at CW;clear z0 z1 z2 m0 m1;go_wp2_with fail
      have HD3:Hid (Below U3.heap.size U3 U3.drew):=drew_below U3;refine region_mixed_last (Below U3.heap.size U3) [([0,1,2,3,4],5)] [6] 7 (by kernel_rfl) (by kernel_rfl) HD3.out ?_;refine mixO_cons ?_;repeat(go_big_quiet_step (fail))
      refine wpQuiet_nil ?_;intro K hK;go_wp2_with fail
      refine Calls.mono (CW.out _ HD3.out) ?_;rintro e U4 ⟨hb4,rw9,UR,rfl,hkr,hof⟩;have H4:Hid (Below U3.heap.size U3 U4):=HD3.out.trans (hb4.mono HD3.out.size);have HKr:=hid hkr;obtain⟨ar,cr,rfl,_,_⟩:=hkr;have R4:=hid (R3.out.up H4.out);have HI4:=hid (HI3.out.up H4.out);obtain⟨t1,t2,t3⟩:=R4.out.gv.row.cell kk hlt;rw[HKq.out]at t3;have t1':U4.cell? ⟨g,kk*3,none⟩=some (.bool true):=by rw[←HTk.out];exact t1
      have t2':U4.cell? ⟨g,kk*3+1,none⟩=some (.int .i64 (P.rm kk)):=t2;have S1:=setCell_same t1';have S2:=setCell_same t2';have f1:=R4.out.gv.row.free (kk*3) (by omega);have f2:=R4.out.gv.row.free (kk*3+1) (by omega);have f3:=R4.out.gv.row.free (kk*3+2) (by omega);obtain⟨Y4,hY4⟩:∃Y,U4.setCell ⟨g,kk*3+2,none⟩ (.slice ar (butL (P.t kk) (q:Int) (P.m kk)).length cr)=Y:=⟨_,rfl⟩;have HYi:Hid (IntSl Y4 Y4.heap.size (.slice adt ld cdt) ld (rsD b np P (q:Int))):=by
       show IntSl _ _ _ _ _;have hz:Y4.heap.size=U4.heap.size:=by rw[←hY4];simp[World.setCell]
       rw[hz,←hY4];exact isl_slice HI4.out t3 _
      have HYg:Hid (RpInv w Y4 (.slice (some ⟨bv,ov,none⟩) n cap0) (some ⟨g,0,none⟩) g np cap (fun k=>if k=kk then .slice ar (butL (P.t kk) (q:Int) (P.m kk)).length cr else KVi k) (fun k=>if k=kk then UR else UVi k) (repP P (q:Int) R S (kk+1)) gp gs (d:Int) (mo:Int) (ld:Int) (repS P (q:Int) R S (kk+1))):=by
       show RpInv _ _ _ _ _ _ _ _ _ _ _ _ _ _ _ _;rw[←hY4,HG2.out];obtain⟨h9,h8⟩:=repP_drop HG1.out;refine R4.out.put hgw1 hgw2 (fun e=>hgs4 e.symm) hlt ⟨_,_,_,HKq.out⟩ rfl rfl (fun k _ hkq=>h8 k hkq) ?_;rw[h9.1,h9.2];exact HKr.out
      have HOf:Hid (∀s,s<w.heap.size→I s→KeOff s (.slice ar (butL (P.t kk) (q:Int) (P.m kk)).length cr) (butL (P.t kk) (q:Int) (P.m kk)).length UR (selT (P.t kk) (butL (P.t kk) (q:Int) (P.m kk)))):=fun s hs hI=>hof s (Nat.lt_of_lt_of_le hs (Nat.le_trans R3.out.gv.below.size HD3.out.size)) (by
       have h9:=(PO.out s hs hI kk hlt).2;rw[repP_at.1,repP_at.2]at h9;exact h9)
      have PN:Hid (PsO w.heap.size I np (fun k=>if k=kk then .slice ar (butL (P.t kk) (q:Int) (P.m kk)).length cr else KVi k) (fun k=>if k=kk then UR else UVi k) (repP P (q:Int) R S (kk+1))):=by
       show PsO _ _ _ _ _ _;obtain⟨h9,h8⟩:=repP_drop HG1.out;refine PO.out.put (fun k _ hkq=>h8 k hkq) ?_;rw[h9.1,h9.2];exact HOf.out
      clear hb4 t1 t2 hof;unfold peerV;go_wp2;refine⟨rfl,hK _ _ H4.out ?_⟩;clear hK K;refine mixO_last ?_;repeat(go_big_quiet_step (fail))
      refine wpQuiet_nil ?_;clear F1 F2 F3 F4 hne;go_wp2;clear S1 S2 f1 f2 f3 hY4 t1' t2' t3;go_roundw
      case rel=>exact⟨kk+1,_,_,by omega,by go_num,HYg,PN,HYi⟩
      case measure=>simp only[intOf];omega
     |true =>
      cases sn with
      |true =>
       refine mixO_nil ?_;repeat(go_big_quiet_step (fail))
       refine wpQuiet_nil ?_;clear F0 F1 F2 F3 F4 F5 hne;have hbad:(goodK P (q:Int) R S kk && !(repS P (q:Int) R S kk).contains (numK P (q:Int) kk))=false:=by rw[HGd.out,HNm.out,HSn.out,HSb.out];rfl
       obtain⟨g1,g2⟩:=rep_bad HH.out hbad;have HG1:=hid g1;have HG2:=hid g2;clear hbad g1 g2;have R3:=hid (RU.out.up H3.out);have HI3:=hid (HIU.out.up H3.out);have HK3:=hid (HKU.out.up H3.out);obtain⟨z0,z1,z2⟩:=three_at (stayB KZU.out H3.out);rw[HTk.out]at z0;obtain⟨m0,m1⟩:=two_at R3.out.gv.box;have hne:Nonempty (Of (Below U3.heap.size U3)):=⟨⟨U3,Below.refl _ _⟩⟩;have F1:∀u:Of (Below U3.heap.size U3),u.val.cell? ⟨w.heap.size,1,none⟩=some (.slice (some ⟨g,0,none⟩) np cap):=fun u=>by rw[u.is.cell (cell_lt m1)];exact m1
       have F2:∀u:Of (Below U3.heap.size U3),u.val.cell? ⟨bp,0,none⟩=some (.bool true):=fun u=>by rw[u.is.cell (cell_lt z0)];exact z0
       have F3:∀u:Of (Below U3.heap.size U3),u.val.cell? ⟨bp,1,none⟩=some (.int .i64 (P.rm kk)):=fun u=>by rw[u.is.cell (cell_lt z1)];exact z1
       have F4:∀u:Of (Below U3.heap.size U3),u.val.cell? ⟨bp,2,none⟩=some (.slice (some ⟨bk,ok,none⟩) (P.m kk) ck):=fun u=>by rw[u.is.cell (cell_lt z2)];exact z2
       have CW:Hid (∀u,Below U3.heap.size U3 u→Calls Tryz.prog 58 #[peerV true (P.rm kk) (.slice (some ⟨bk,ok,none⟩) (P.m kk) ck),.int .i64 (q:Int)] u (PePostO u true (P.rm kk) (P.m kk) (UVi kk) (P.t kk) (butL (P.t kk) (q:Int) (P.m kk)).length (selT (P.t kk) (butL (P.t kk) (q:Int) (P.m kk))))):=fun u hbu=>without_anyO true (P.rm kk) _ (P.m kk) _ (P.t kk) (q:Int) u (by have:=HR.out.small kk hlt;omega) (HK3.out.up hbu);unfold peerV at CW;clear z0 z1 z2 m0 m1;go_wp2_with fail
       have HD3:Hid (Below U3.heap.size U3 U3.drew):=drew_below U3;refine region_mixed_last (Below U3.heap.size U3) [([0,1,2,3,4],5)] [6] 7 (by kernel_rfl) (by kernel_rfl) HD3.out ?_;refine mixO_cons ?_;repeat(go_big_quiet_step (fail))
       refine wpQuiet_nil ?_;intro K hK;go_wp2_with fail
       refine Calls.mono (CW.out _ HD3.out) ?_;rintro e U4 ⟨hb4,rw9,UR,rfl,hkr,hof⟩;have H4:Hid (Below U3.heap.size U3 U4):=HD3.out.trans (hb4.mono HD3.out.size);have HKr:=hid hkr;obtain⟨ar,cr,rfl,_,_⟩:=hkr;have R4:=hid (R3.out.up H4.out);have HI4:=hid (HI3.out.up H4.out);obtain⟨t1,t2,t3⟩:=R4.out.gv.row.cell kk hlt;rw[HKq.out]at t3;have t1':U4.cell? ⟨g,kk*3,none⟩=some (.bool true):=by rw[←HTk.out];exact t1
       have t2':U4.cell? ⟨g,kk*3+1,none⟩=some (.int .i64 (P.rm kk)):=t2;have S1:=setCell_same t1';have S2:=setCell_same t2';have f1:=R4.out.gv.row.free (kk*3) (by omega);have f2:=R4.out.gv.row.free (kk*3+1) (by omega);have f3:=R4.out.gv.row.free (kk*3+2) (by omega);obtain⟨Y4,hY4⟩:∃Y,U4.setCell ⟨g,kk*3+2,none⟩ (.slice ar (butL (P.t kk) (q:Int) (P.m kk)).length cr)=Y:=⟨_,rfl⟩;have HYi:Hid (IntSl Y4 Y4.heap.size (.slice adt ld cdt) ld (rsD b np P (q:Int))):=by
        show IntSl _ _ _ _ _;have hz:Y4.heap.size=U4.heap.size:=by rw[←hY4];simp[World.setCell]
        rw[hz,←hY4];exact isl_slice HI4.out t3 _
       have HYg:Hid (RpInv w Y4 (.slice (some ⟨bv,ov,none⟩) n cap0) (some ⟨g,0,none⟩) g np cap (fun k=>if k=kk then .slice ar (butL (P.t kk) (q:Int) (P.m kk)).length cr else KVi k) (fun k=>if k=kk then UR else UVi k) (repP P (q:Int) R S (kk+1)) gp gs (d:Int) (mo:Int) (ld:Int) (repS P (q:Int) R S (kk+1))):=by
        show RpInv _ _ _ _ _ _ _ _ _ _ _ _ _ _ _ _;rw[←hY4,HG2.out];obtain⟨h9,h8⟩:=repP_drop HG1.out;refine R4.out.put hgw1 hgw2 (fun e=>hgs4 e.symm) hlt ⟨_,_,_,HKq.out⟩ rfl rfl (fun k _ hkq=>h8 k hkq) ?_;rw[h9.1,h9.2];exact HKr.out
       have HOf:Hid (∀s,s<w.heap.size→I s→KeOff s (.slice ar (butL (P.t kk) (q:Int) (P.m kk)).length cr) (butL (P.t kk) (q:Int) (P.m kk)).length UR (selT (P.t kk) (butL (P.t kk) (q:Int) (P.m kk)))):=fun s hs hI=>hof s (Nat.lt_of_lt_of_le hs (Nat.le_trans R3.out.gv.below.size HD3.out.size)) (by
        have h9:=(PO.out s hs hI kk hlt).2;rw[repP_at.1,repP_at.2]at h9;exact h9)
       have PN:Hid (PsO w.heap.size I np (fun k=>if k=kk then .slice ar (butL (P.t kk) (q:Int) (P.m kk)).length cr else KVi k) (fun k=>if k=kk then UR else UVi k) (repP P (q:Int) R S (kk+1))):=by
        show PsO _ _ _ _ _ _;obtain⟨h9,h8⟩:=repP_drop HG1.out;refine PO.out.put (fun k _ hkq=>h8 k hkq) ?_;rw[h9.1,h9.2];exact HOf.out
       clear hb4 t1 t2 hof;unfold peerV;go_wp2;refine⟨rfl,hK _ _ H4.out ?_⟩;clear hK K;refine mixO_last ?_;repeat(go_big_quiet_step (fail))
       refine wpQuiet_nil ?_;clear F1 F2 F3 F4 hne;go_wp2;clear S1 S2 f1 f2 f3 hY4 t1' t2' t3;go_roundw
       case rel=>exact⟨kk+1,_,_,by omega,by go_num,HYg,PN,HYi⟩
       case measure=>simp only[intOf];omega
      |false =>
       refine mixO_nil ?_;repeat(go_big_quiet_step (fail))
       refine wpQuiet_nil ?_;clear F0 F1 F2 F3 F4 F5 hne;obtain⟨g1,g2⟩:=rep_good (k:=kk) HH.out (by rw[HGd.out];exact HSb.out) (by rw[HNm.out];exact HSn.out);rw[HNm.out]at g2;have R3:=hid (RU.out.up H3.out);have HI3:=hid (HIU.out.up H3.out);obtain⟨z0,z1⟩:=two_at (stayB KU.out H3.out);obtain⟨tb,tf⟩:=R3.out.bit hN8;have HYi:Hid (IntSl (U3.setCell ⟨gs,N,none⟩ (.bool true)) (U3.setCell ⟨gs,N,none⟩ (.bool true)).heap.size (.slice adt ld cdt) ld (rsD b np P (q:Int))):=by
        show IntSl _ _ _ _ _;have hz:(U3.setCell ⟨gs,N,none⟩ (.bool true)).heap.size=U3.heap.size:=by simp[World.setCell]
        rw[hz];exact isl_bool HI3.out tb _
       have HYg:Hid (RpInv w (U3.setCell ⟨gs,N,none⟩ (.bool true)) (.slice (some ⟨bv,ov,none⟩) n cap0) (some ⟨g,0,none⟩) g np cap KVi UVi (repP P (q:Int) R S (kk+1)) gp gs (d:Int) (mo:Int) (ld:Int) (repS P (q:Int) R S (kk+1))):=by
        show RpInv _ _ _ _ _ _ _ _ _ _ _ _ _ _ _ _;rw[repP_keep g1,g2];exact R3.out.see hgs1 hgs2 hgs3 hN8
       have PN:Hid (PsO w.heap.size I np KVi UVi (repP P (q:Int) R S (kk+1))):=by show PsO _ _ _ _ _ _;rw[repP_keep g1];exact PO.out
       clear g1 g2;go_wp2;go_roundw
       case rel=>exact⟨kk+1,_,_,by omega,by go_num,HYg,PN,HYi⟩
       case measure=>simp only[intOf];omega
   have hke:np=kk:=by omega
   subst hke;obtain⟨T,hT⟩:∃T,repS P (q:Int) R S np=T:=⟨_,rfl⟩;rw[hT]at RR;have HT:=hid hT;obtain⟨w1,hw1⟩:∃w1,w1=wr:=⟨_,rfl⟩;subst hw1;obtain⟨p0,p1,p2⟩:=three_at RR.out.plan;obtain⟨ii,hii,hz0,hz1,hz2⟩:=info_parts Tryz.infoShare;have hRb:=rowsN_bd hps.1 hps.2.2;rw[HRr.out]at hRb;have hR1:1≤R:=by omega
   have CO:Hid (∀u j,Below w1.heap.size w1 u→j<mo→Calls Tryz.prog 96 #[planV (d:Int) (mo:Int) (ld:Int),.slice adt ld cdt,.int .i64 (j:Int)] u fun e w'=>ShareIs u w' (j:Int) R (S j) e):=fun u j hbu hj=>by
    have h9:=shareOf_any d mo ld (ld:Int) adt cdt (rsD b np P (q:Int)) j u HPl.out (fun j _=>rsD_num b np P (q:Int) j) (by omega) (by omega) HRr.out (HIr.out.up hbu);have h8:(fun r=>shv d ld (rsD b np P (q:Int)) j r)=S j:=by rw[←HSs.out];funext r;unfold rsS;rw[Int.toNat_natCast,HNd.out,HSz.out,Int.toNat_natCast,Int.toNat_natCast]
    rw[h8]at h9;exact h9
   unfold planV at CO;clear hT;go_wp2;clear p0 p1 p2;go_loopw [15,90] (fun vo iv wr=>∃(j:Nat) (V:Nat→Value),j≤mo∧iv=.int .i64 j∧Hid (OwnS w1 wr vo (lackK T j).length (fun i=>(((lackK T j).getD i 0:Nat):Int)) V)∧Hid (∀i,i<(lackK T j).length→IntSl wr wr.heap.size (V i) R (S ((lackK T j).getD i 0))∧Off vo (V i))∧Hid (∀i,i<(lackK T j).length→Above w.heap.size (V i))) (fun _ iv _=>mo-(intOf iv).toNat)
   case atStart=>exact⟨0,fun _=>.bool false,Nat.zero_le _,rfl,OwnS.nil _ _ _,fun i hi=>by simp[lackK]at hi,fun i hi=>by simp[lackK]at hi⟩
   case round =>
    obtain⟨j,V,hj,rfl,OW,IW,AW⟩:=hrel;by_cases hjm:j<mo
    ·have hji:(j:Int)<(mo:Int):=by omega
     have RW:=hid (RR.out.up OW.out.2);obtain⟨p0,p1,p2⟩:=three_at RW.out.plan;have hj8:j<8:=by omega
     have hj8i:(j:Int)<8:=by omega
     have hbit:=(RW.out.bit hj8).1;have hsc:=lackK_succ T j;have hll:=lackK_len T j;obtain⟨sn,hsn⟩:∃t,T.contains (j:Int)=t:=⟨_,rfl⟩;rw[hsn]at hbit hsc;clear hsn;cases sn with
     |true =>
      rw[Bool.not_true,if_neg (by decide),List.append_nil]at hsc;have HSc:=hid hsc;clear hsc;go_wp2;go_roundw
      case rel=>exact⟨j+1,V,by omega,by go_num,by rw[HSc.out];exact OW.out,by rw[HSc.out];exact IW.out,by rw[HSc.out];exact AW.out⟩
      case measure=>simp only[intOf];omega
     |false =>
      rw[Bool.not_false,if_pos rfl]at hsc;have HSc:=hid hsc;clear hsc;go_wp2_with fail
      refine Calls.mono (CO.out wr j OW.out.2 hjm) ?_;rintro e w3 ⟨Vn,rfl,hvn,hb3,hab⟩;have O3:=hid (OW.out.up hb3);have I3:Hid (∀i,i<(lackK T j).length→IntSl w3 w3.heap.size (V i) R (S ((lackK T j).getD i 0))):=fun i hi=>(IW.out i hi).1.up hb3;have HAb:=hid hab;have HVn:=hid hvn;obtain⟨av9,cv9,hve,_,_⟩:=hvn;subst hve;have hge:w1.heap.size≤w3.heap.size:=O3.out.2.size;clear hb3 hab;unfold shareV
      go_wp2_with(at_builtin;go_must(refine wpList_append_own_at _ rfl (.tmp 97) (.tmp 102) 103 rfl w1.heap.size 81 ii (.agg #[.int .i64 0,.slice none 0 0]) 2 32 Tryz.underlying103 hii hz0 hz1 hz2 rfl (by decide) _ _ _ rfl (World.ownsRow.alloc O3.out.1 _) ⟨_,0,none⟩ 1 1 [.int .i64 (j:Int),.slice av9 R cv9] rfl rfl (cells_two _ _ _ _) (by intro u hu;simp at hu;rcases hu with rfl|rfl<;>rfl) (by unfold maxLen;omega) (by omega) (by simp;omega) ?_;intro v4 w4 ho4 hg4 _ hat4;have HO4:=hid ho4;have HG4:=hid hg4;have HA4:=hid hat4;clear ho4 hg4 hat4))
      go_roundw
      case rel =>
       have hl9:(lackK T (j+1)).length=(lackK T j).length+1:=by rw[HSc.out,List.length_append];rfl
       have o4:=O3.out.pushS (N':=fun i=>(((lackK T (j+1)).getD i 0:Nat):Int)) (V':=fun i=>if i<(lackK T j).length then V i else .slice av9 R cv9) HO4.out HG4.out (fun i hi=>⟨by simp only[HSc.out];rw[getD_old _ _ _ hi],by rw[if_pos hi]⟩) (by simp only[HSc.out];rw[getD_new]) (by rw[if_neg (Nat.lt_irrefl _)]);rw[←hl9]at o4;refine⟨j+1,_,by omega,by go_num,o4,fun i hi=>?_,fun i hi=>?_⟩
       ·by_cases hij:i<(lackK T j).length
        ·rw[if_pos hij,HSc.out,getD_old _ _ _ hij]
         exact off_step hR1 (I3.out i hij) (IW.out i hij).2 HG4.out HA4.out
        obtain rfl:i=(lackK T j).length:=by omega
        rw[if_neg (Nat.lt_irrefl _),HSc.out,getD_new];exact off_step hR1 HVn.out (off_new OW.out HAb.out) HG4.out HA4.out
       by_cases hij:i<(lackK T j).length
       ·rw[if_pos hij]
        exact AW.out i hij
       rw[if_neg hij];exact HAb.out.mono' RW.out.gv.below.size
      case measure=>simp only[intOf];omega
    have hje:mo=j:=by omega
    subst hje;have RW:=hid (RR.out.up OW.out.2);have hll:=lackK_len T mo;obtain⟨ao,co,hvo⟩:=owns_sliceV OW.out.1;subst hvo;have hsh:=OW.out.shl (by omega) (fun i hi=>(IW.out i hi).1);have hpsl:=RW.out.gv.row.sl (fun h=>(HAv.out h).1) hcap (by omega) RW.out.gv.kept;obtain⟨m0,m1⟩:=two_at RW.out.gv.box;have hof:(lackK T mo)=lackL P (q:Int) R S np mo:=by unfold lackK lackL;rw[HT.out]
    have CG:=hid (given_anyO (fun s=>I s∧s<w.heap.size) _ n PV b _ np _ _ (repP P (q:Int) R S np) (q:Int) _ (lackK T mo).length (fun i=>(((lackK T mo).getD i 0:Nat):Int)) V (fun _=>R) (fun i=>S ((lackK T mo).getD i 0)) wr (HV.out.up RW.out.gv.below) hpsl hsh (HR.out.rep (q:Int) R S np) ⟨by omega,by omega⟩ (fun s _ hI=>(HMo.out s hI.2 hI.1).1) (fun s _ hI=>PO.out s hI.2 hI.1) (fun s _ hI j hj=>OfB.above ((AW.out j hj).mono' hI.2)) (fun i hi=>by
     rw[Int.toNat_natCast,HNd.out,HOf.out,HSz.out];have hlt9:=lackK_lt (getD_in (d:=0) hi);unfold oneE;rw[if_pos HPl.out,if_pos ⟨by omega,by omega⟩,if_pos (by rw[HRr.out]),if_pos];unfold numsB;refine decide_eq_true fun r _=>?_;rw[←HSs.out];unfold rsS isNum;exact decide_eq_true (shv_num _ _ _ _ _)))
    have hE9:manyE (repP P (q:Int) R S np) (q:Int) np ((lackK T mo).length:Int)=er:=by
     have h9:=HE1.out;rw[Int.toNat_natCast,HNd.out,HOf.out,HSz.out,HRr.out,HSs.out,Int.toNat_natCast]at h9;unfold fillE at h9;rw[hof];exact h9
    have hP9:giveP (repP P (q:Int) R S np) (q:Int) (forA (repP P (q:Int) R S np) (q:Int) np (lackK T mo).length) (fun i=>(((lackK T mo).getD i 0:Nat):Int)) (fun _=>R) (fun i=>S ((lackK T mo).getD i 0)) (lackK T mo).length=mendP b np P (q:Int):=by
     unfold mendP fillP;rw[Int.toNat_natCast,HNd.out,HOf.out,HSz.out,HRr.out,HSs.out,Int.toNat_natCast,hof]
    rw[hE9,hP9]at CG;unfold meshV at CG;clear hsh hpsl hof hE9 hP9;go_wp2_with fail
    refine Calls.mono CG.out ?_;rintro e W5 hM;have HM:=hid hM;obtain⟨hb5,gb,gl,n5,np5,PV5,KV5,UV5,rfl,hn5,hnp5,hv5,hl5,_⟩:=hM;clear hn5 hnp5;obtain⟨a5,c5,rfl,_,_⟩:=hv5;obtain⟨a6,c6,rfl,_,_⟩:=hl5;unfold meshV at HM;have o5:=stayB RW.out.gv.out hb5;have HO5:=hid o5;obtain⟨r1,r2⟩:=two_at o5;have f1:=frozen_at (i:=0) o5;have f2:=frozen_at (i:=1) o5;unfold meshV;clear hb5 o5;go_wp2;refine ret2 (put2_whole HO5.out _ _) Tryz.underlying27 ?_;exact mesh_outO RW.out.gv.below HM.out (fun s hs hI=>⟨hI,hs⟩) HO5.out (by omega)
 ·have hcb:(c != 0)=true:=by simpa using h0
  rw[if_neg h0]at hE1;have H0:=hid h0;have HE1:=hid hE1;obtain⟨r1,r2⟩:=two_at d2;have f1:=frozen_at (i:=0) d2;have f2:=frozen_at (i:=1) d2;clear h0 d1 d2 hE1 hld;go_wp2;refine ret2 (put2_whole D2.out _ _) Tryz.underlying27 ?_;rw[←HE1.out];exact mesh_noneO (put2_below B1.out (by omega)) H0.out
section
def CRow(w:World)(g:Nat)(T:TypeId)(sz k:Nat)(C:Nat→Value):Prop :=
 ∃cs:Array Value,w.heap[g]?=some (.cells cs T (0,0))∧cs.size=sz∧∀i,i<k→cs[i]?=some (C i)
section
variable {w w' : World} {g : Nat} {T : TypeId} {sz k : Nat} {C : Nat → Value}
theorem CRow.lt(h:CRow w g T sz k C):g<w.heap.size:=by
 obtain⟨cs,h1,_⟩:=h;exact(Array.getElem?_eq_some_iff.1 h1).1
theorem CRow.up(h:CRow w g T sz k C)(hb:Below w.heap.size w w'):CRow w' g T sz k C:=by
 obtain⟨cs,h1,h2⟩:=h;exact⟨cs,stayB h1 hb,h2⟩
theorem CRow.room(h:CRow w g T sz k C){i:Nat}(hi:i<sz):(∃u,w.cell? ⟨g,i,none⟩=some u)∧w.frozen? ⟨g,i,none⟩=false:=by
 obtain⟨cs,h1,h2,h3⟩:=h;exact⟨⟨cs[i]'(by omega),cell_at h1 (by simp[show i<cs.size by omega])⟩,frozen_at h1⟩
theorem CRow.free(h:CRow w g T sz k C)(i:Nat):w.frozen? ⟨g,i,none⟩=false:=by
 obtain⟨cs,h1,h2,h3⟩:=h;exact frozen_at h1
theorem CRow.cell(h:CRow w g T sz k C){i:Nat}(hi:i<k):w.cell? ⟨g,i,none⟩=some (C i):=by
 obtain⟨cs,h1,h2,h3⟩:=h;exact cell_at h1 (h3 i hi)
theorem CRow.put(h:CRow w g T sz k C)(hk:k<sz){u:Value}(hu:u=C k):CRow (w.setCell ⟨g,k,none⟩ u) g T sz (k+1) C:=by
 obtain⟨cs,h1,h2,h3⟩:=h;refine⟨cs.setIfInBounds k u,by simp[World.setCell,Array.getElem?_modify,h1],by simpa using h2,fun i hi=>?_⟩;rw[Array.getElem?_setIfInBounds];by_cases e:k=i
 ·subst e
  rw[if_pos rfl,if_pos (by omega),hu]
 rw[if_neg e];exact h3 i (by omega)
theorem CRow.other(h:CRow w g T sz k C){g' o:Nat}(hg:g≠g')(u:Value):CRow (w.setCell ⟨g',o,none⟩ u) g T sz k C:=by
 obtain⟨cs,h1,h2⟩:=h;exact⟨cs,by rw[Below.heap_setCell _ _ _ _ (by show g≠g';exact hg)];exact h1,h2⟩
theorem CRow.congr(h:CRow w g T sz k C){C':Nat→Value}(e:∀i,i<k→C i=C' i):CRow w g T sz k C':=by
 obtain⟨cs,h1,h2,h3⟩:=h;exact⟨cs,h1,h2,fun i hi=>by rw[h3 i hi,e i hi]⟩
theorem CRow.made{B n size:Nat}{z:Value}(ho:w.ownsRow B T size (.slice (some ⟨g,0,none⟩) n n) n (madeCells z.cells (n*size)).toList)(C:Nat→Value):CRow w g T (n*size) 0 C:=by
 obtain⟨hl,h2⟩:=ho;rcases h2 with⟨h1,_⟩|⟨g',cap,cur,hv,_,hh,hc1,hc2,hsz,hcur⟩;·cases h1
 injection hv with e1 _ e3;injection e1 with e1;injection e1 with e1;subst e1 e3;exact⟨cur,hh,hsz,fun i hi=>by omega⟩
theorem CRow.three(h:CRow w g T sz (k*3) C)(hk:k*3+3≤sz){u0 u1 u2:Value}(e0:u0=C (k*3))(e1:u1=C (k*3+1))(e2:u2=C (k*3+2)):CRow (((w.setCell ⟨g,k*3,none⟩ u0).setCell ⟨g,k*3+1,none⟩ u1).setCell ⟨g,k*3+2,none⟩ u2) g T sz ((k+1)*3) C:=by
 have h1:=((h.put (by omega) e0).put (by omega) e1).put (by omega) e2;rw[show(k+1)*3=k*3+1+1+1 by omega];exact h1
end
def cellP(KV:Nat→Value)(P:Ps)(i:Nat):Value:=if i%3=0 then .bool (P.th (i/3))else if i%3=1 then .int .i64 (P.rm (i/3))else KV (i/3)
def cellK(UV:Nat→Value)(t:Kt)(i:Nat):Value:=if i%3=0 then .int .i64 (t.V (i/3))else if i%3=1 then .int .i64 (t.N (i/3))else UV (i/3)
section
variable {KV : Nat → Value} {P : Ps} {UV PV : Nat → Value} {t : Kt} {b : Bk} {k : Nat}
theorem cellP_at:cellP KV P (k*3)=.bool (P.th k)∧cellP KV P (k*3+1)=.int .i64 (P.rm k)∧cellP KV P (k*3+2)=KV k:=by
 unfold cellP;refine⟨?_,?_,?_⟩;·rw[if_pos (by omega),show k*3/3=k by omega]
 ·rw[if_neg (by omega),if_pos (by omega),show(k*3+1)/3=k by omega]
 rw[if_neg (by omega),if_neg (by omega),show(k*3+2)/3=k by omega]
theorem cellK_at:cellK UV t (k*3)=.int .i64 (t.V k)∧cellK UV t (k*3+1)=.int .i64 (t.N k)∧cellK UV t (k*3+2)=UV k:=by
 unfold cellK;refine⟨?_,?_,?_⟩;·rw[if_pos (by omega),show k*3/3=k by omega]
 ·rw[if_neg (by omega),if_pos (by omega),show(k*3+1)/3=k by omega]
 rw[if_neg (by omega),if_neg (by omega),show(k*3+2)/3=k by omega]
theorem cellP_cong{KV':Nat→Value}(h:∀j,j<k→KV j=KV' j):∀i,i<k*3→cellP KV P i=cellP KV' P i:=fun i hi=>by
 unfold cellP;rw[h (i/3) (by omega)]
theorem cellK_cong{UV':Nat→Value}(h:∀j,j<k→UV j=UV' j):∀i,i<k*3→cellK UV t i=cellK UV' t i:=fun i hi=>by
 unfold cellK;rw[h (i/3) (by omega)]
end
section
variable {w : World} {g n m : Nat} {KV : Nat → Value} {P : Ps} {UV PV : Nat → Value} {t : Kt} {b : Bk}
theorem CRow.rowP{sz:Nat}(h:CRow w g 41 sz (n*3) (cellP KV P)):RowP w g n KV P :=
 ⟨fun k hk=>by
  obtain⟨e0,e1,e2⟩:=cellP_at (KV:=KV) (P:=P) (k:=k);exact⟨by rw[h.cell (by omega),e0],by rw[h.cell (by omega),e1],by rw[h.cell (by omega),e2]⟩,fun i _=>h.free i,h.lt⟩
theorem CRow.kel{sz:Nat}(h:CRow w g 83 sz (m*3) (cellK UV t))(hr:m*40≤140737488351232)(hi:∀j,j<m→IntSl w w.heap.size (UV j) (t.L j) (t.X j)):KeSl w w.heap.size (.slice (some ⟨g,0,none⟩) m m) m UV t:=by
 refine⟨_,_,rfl,⟨Nat.le_refl _,hr⟩,Or.inr ⟨g,0,rfl,h.lt,fun j hj=>?_⟩⟩;obtain⟨e0,e1,e2⟩:=cellK_at (UV:=UV) (t:=t) (k:=j);rw[Nat.zero_add];exact⟨by rw[h.cell (by omega),e0],by rw[h.cell (by omega),e1],by rw[h.cell (by omega),e2],hi j hj⟩
theorem CRow.newV{T:TypeId}{sz k n c:Nat}{C:Nat→Value}{B:Nat}(h:CRow w g T sz k C)(hB:B≤g):NewV B w (.slice (some ⟨g,0,none⟩) n c):=by
 obtain⟨cs,h1,_⟩:=h;exact newV_block h1 hB
end
end
end Go.Proofs.YtajmnlhfnhbleaaGreat
