/- Several texts of one proof, in their order. -/
import Derived.Test.YtajmnlhfnhbleaaGreatKw21
namespace Go.Proofs.YtajmnlhfnhbleaaGreat
open Go.RowKit Go.Maps CurveMath
set_option linter.unusedVariables false
set_option maxHeartbeats 8000000
set_option maxRecDepth 10000
section
def hasV(th:Bool)(t:Kt)(ver:Int)(m:Nat):Bool:=th&&decide (0≤fstAt t.V ver m 0)
def shownV(th:Bool)(UV:Nat→Value)(t:Kt)(ver:Int)(m:Nat):Value:=if hasV th t ver m=true then .agg #[.int .i64 (t.N (fstAt t.V ver m 0).toNat),UV (fstAt t.V ver m 0).toNat]else .agg #[.int .i64 0,.slice none 0 0]
theorem msShows(th:Bool)(room:Int)(v:Value)(m:Nat)(UV:Nat→Value)(t:Kt)(ver:Int)(w:World)(h:KeSl w w.heap.size v m UV t):
 Calls Tryz.prog 108 #[peerV th room v,.int .i64 ver] w fun e w'=>e=.returned (.tuple #[shownV th UV t ver m,.bool (hasV th t ver m)])∧Below w.heap.size w w':=by
 have hb:=((Below.refl w.heap.size w).alloc (Nat.le_refl _) (.cells #[.bool th,.int .i64 room,v] 41)).alloc (by simp) (.cells #[.int .i64 0,.slice none 0 0] 81)
 have k0:=heap_two_old w (.cells #[.bool th,.int .i64 room,v] 41) (.cells #[.int .i64 0,.slice none 0 0] 81)
 have k1:=heap_two_new w (.cells #[.bool th,.int .i64 room,v] 41) (.cells #[.int .i64 0,.slice none 0 0] 81)
 have HK:=hid h
 obtain⟨ak,ck,rfl,_,hx⟩:=h
 obtain⟨W,hW⟩:∃W,(w.alloc (.cells #[.bool th,.int .i64 room,.slice ak m ck] 41)).alloc (.cells #[.int .i64 0,.slice none 0 0] 81)=W:=⟨_,rfl⟩
 rw[hW]at hb k0 k1
 have CF:=hid (peFind th room _ m UV t ver W (HK.out.up hb))
 obtain⟨q0,q1,q2⟩:=three_at k0
 have HB:=hid hb
 have K0:=hid k0
 have K1:=hid k1
 have HX:=hid hx
 obtain⟨fa,hfa⟩:∃x,fstAt t.V ver m 0=x:=⟨_,rfl⟩
 obtain⟨hv,hhv⟩:∃x,hasV th t ver m=x:=⟨_,rfl⟩
 obtain⟨sv,hsv⟩:∃x,shownV th UV t ver m=x:=⟨_,rfl⟩
 have hpl:0≤fa→∃i:Nat,fa=(i:Int)∧i<m:=fun h9=>by
  rw[←hfa]at h9;obtain⟨i,e1,_,e2,_⟩:=fstAt_place _ _ _ _ h9;exact⟨i,by rw[←hfa];exact e1,by omega⟩
 rw[hfa]at CF
 rw[hsv,hhv]
 unfold shownV at hsv
 rw[hhv]at hsv
 unfold hasV at hhv
 rw[hfa]at hsv hhv
 have HSv:=hid hsv
 have HHv:=hid hhv
 have HPl:=hid hpl
 clear hb k0 k1 hx hfa hsv hhv hpl
 unfold peerV at CF
 unfold peerV
 go_enter Tryz.func108,Tryz.ntmps108
 go_wp2_with fail
 refine Calls.mono CF.out ?_
 rintro e w2 ⟨rfl,hb2⟩
 have B2:=hid (HB.out.trans (hb2.mono HB.out.size))
 have d0:=stayB K0.out hb2
 have d1:=stayB K1.out hb2
 have D1:=hid d1
 have HK2:=hid (HK.out.up B2.out)
 clear q0 q1 q2
 obtain⟨q0,q1,q2⟩:=three_at d0
 obtain⟨r0,r1⟩:=two_at d1
 have f0:=frozen_at (i:=0) d1
 have f1:=frozen_at (i:=1) d1
 clear hb2 d0 d1 CF
 cases th with
 |false =>
  have e1:=HHv.out;rw[Bool.false_and]at e1;subst e1;have e2:=HSv.out;rw[if_neg (by decide)]at e2;subst e2;go_wp2;refine ret2 (put2_whole D1.out _ _) Tryz.underlying81 ?_;exact⟨rfl,put2_below B2.out (by omega)⟩
 |true =>
  by_cases hf:0≤fa
  ·obtain⟨i,rfl,him⟩:=HPl.out hf
   have e1:=HHv.out;rw[Bool.true_and,decide_eq_true hf]at e1;subst e1;have e2:=HSv.out;rw[if_pos rfl,Int.toNat_natCast]at e2;subst e2;rcases HX.out with h0|⟨bl,off,rfl,hbl,hx⟩;·omega
   obtain⟨x0,x1,x2,x3⟩:=hx i him;obtain⟨au,cu,hue,_,_⟩:=x3;rw[hue]at x2;have y1:w2.cell? ⟨bl,off+i*3+1,none⟩=some (.int .i64 (t.N i)):=by rw[B2.out.cell hbl];exact x1
   have y2:w2.cell? ⟨bl,off+i*3+2,none⟩=some (.slice au (t.L i) cu):=by rw[B2.out.cell hbl];exact x2
   have hii:(i:Int)<(m:Int):=by omega
   have HU:=hid hue;clear x0 x1 x2 hx hf hue;go_wp2;refine ret2 (put2_whole D1.out _ _) Tryz.underlying81 ?_;exact⟨by rw[HU.out];rfl,put2_below B2.out (by omega)⟩
  have hf2:fa<0:=by omega
  have e1:=HHv.out;rw[Bool.true_and,decide_eq_false hf]at e1;subst e1;have e2:=HSv.out;rw[if_neg (by decide)]at e2;subst e2;clear hf;go_wp2;refine ret2 (put2_whole D1.out _ _) Tryz.underlying81 ?_;exact⟨rfl,put2_below B2.out (by omega)⟩
structure PrInv(w wr:World)(vb vl:Value)(P:Ps)(UV:Nat→Nat→Value)(l s:List (Nat×Nat))(M:Nat)(vo:Value):Prop where
 below:Below w.heap.size w wr
 box:wr.heap[w.heap.size]?=some (.cells #[vb,vl] 27 (0,0))
 map:∃(mm:Nat) (c:Int→Int),mm≤M∧CntM wr (w.heap.size+1) mm c∧(∀x,0≤c x∧c x≤(M:Int))∧∀x,c x=0↔seenN P s x=false
 own:wr.ownsRow (w.heap.size+2) 81 2 vo l.length (flatS l.length (nL P l) (vaL UV l))
section
variable {w wr w' : World} {vb vl : Value} {P : Ps} {UV : Nat → Nat → Value} {l s s' : List (Nat × Nat)} {M : Nat} {vo : Value}
theorem PrInv.up(h:PrInv w wr vb vl P UV l s M vo)(hb:Below wr.heap.size wr w'):PrInv w w' vb vl P UV l s M vo:=by
 obtain⟨mm,c,h0,h1,h2⟩:=h.map;exact⟨h.below.trans (hb.mono h.below.size),stayB h.box hb,⟨mm,c,h0,h1.up hb,h2⟩,owns_below h.own hb⟩
theorem PrInv.ne(h:PrInv w wr vb vl P UV l s M vo):some (w.heap.size+1)≠vo.ownBlock∧some w.heap.size≠vo.ownBlock:=by
 refine⟨fun e=>?_,fun e=>?_⟩;·have:=(h.own.lt _ e.symm).1;omega
 have:=(h.own.lt _ e.symm).1;omega
theorem PrInv.push(h:PrInv w wr vb vl P UV l s M vo){k i:Nat}{v1:Value}{o:Obj}(ho:w'.ownsRow (w.heap.size+2) 81 2 v1 (l.length+1) (flatS l.length (nL P l) (vaL UV l)++[.int .i64 ((P.t k).N i),UV k i]))(hg:(wr.alloc o).grownBy w' vo.ownBlock):PrInv w w' vb vl P UV (l++[(k,i)]) s M v1:=by
 have hA:=h.up (below_alloc wr o);obtain⟨mm,c,h0,h1,h2⟩:=hA.map;refine⟨hA.below.grown hg hA.below.size (fun g hgg=>by have:=(hA.own.lt g hgg).1;omega),?_,⟨mm,c,h0,h1.kept hg hA.ne.1,h2⟩,?_⟩;·rw[hg.block _ (Array.getElem?_eq_some_iff.1 hA.box).1 hA.ne.2];exact hA.box
 rw[flatS_snoc,List.length_append];exact ho
theorem PrInv.count(h:PrInv w wr vb vl P UV l s M vo)(hg:wr.grownBy w' (some (w.heap.size+1))){mm:Nat}{c:Int→Int}(hmm:mm≤M+1)(hm:CntM w' (w.heap.size+1) mm c)(hc:(∀x,0≤c x∧c x≤((M+1:Nat):Int))∧∀x,c x=0↔seenN P s' x=false):PrInv w w' vb vl P UV l s' (M+1) vo:=by
 refine⟨h.below.grown hg h.below.size (fun g hgg=>by injection hgg with hgg;omega),?_,⟨mm,c,hmm,hm,hc.1,hc.2⟩,?_⟩;·rw[hg.block _ (Array.getElem?_eq_some_iff.1 h.box).1 (by intro e;injection e with e;omega)];exact h.box
 exact h.own.kept hg (Or.inr fun e=>h.ne.1 e.symm)
end
theorem msPresent(vb:Value)(n:Nat)(b:Bk)(vl:Value)(np:Nat)(KV:Nat→Value)(UV:Nat→Nat→Value)(P:Ps)(ver:Int)(w:World)(hvb:∃a n c,vb=.slice a n c)(hl:PsSl w w.heap.size vl np KV UV P)(hR:MeshR n b np P):
 Calls Tryz.prog 73 #[meshV vb vl,.int .i64 ver] w fun e w'=>Below w.heap.size w w'∧∃vo,e=.returned vo∧ShSl w' w'.heap.size vo (thereL P ver np).length (nL P (thereL P ver np)) (vaL UV (thereL P ver np)) (lL P (thereL P ver np)) (xL P (thereL P ver np)):=by
 obtain⟨ab,nb,cb,rfl⟩:=hvb
 have HL:=hid hl
 have HR:=hid hR
 have h8:=hR.few
 obtain⟨al,cl,rfl,_,_⟩:=hl
 obtain⟨ii,hii,hz0,hz1,hz2⟩:=info_parts Tryz.infoShare
 have hb0:=((Below.refl w.heap.size w).alloc (Nat.le_refl _) (.cells #[.slice ab nb cb,.slice al np cl] 27)).alloc (by simp) (.map #[] 0)
 have k0:=heap_two_old w (.cells #[.slice ab nb cb,.slice al np cl] 27) (.map #[] 0)
 have hcm:CntM ((w.alloc (.cells #[.slice ab nb cb,.slice al np cl] 27)).alloc (.map #[] 0)) (w.heap.size+1) 0 (fun _=>0):=by
  have:=cntM_made (w.alloc (.cells #[.slice ab nb cb,.slice al np cl] 27));simpa using this
 have J0:Hid (PrInv w ((w.alloc (.cells #[.slice ab nb cb,.slice al np cl] 27)).alloc (.map #[] 0)) (.slice ab nb cb) (.slice al np cl) P UV (thAll P ver 0) (thAll P ver 0) 0 (.slice none 0 0)) :=
  ⟨hb0,k0,⟨0,_,Nat.le_refl _,hcm,fun x=>⟨Int.le_refl _,Int.le_refl _⟩,fun x=>⟨fun _=>rfl,fun _=>rfl⟩⟩,World.ownsRow_nil _ _ _ _⟩
 have c1:=(two_at k0).2
 have HStep:Hid (∀k,k<np→thAll P ver (k+1)=if(hasK P ver k && !seenN P (thAll P ver k) (numK P ver k))=true then thAll P ver k++[(k,atK P ver k)]else thAll P ver k):=fun k hk=>thAll_has HR.out ver hk
 have HLen:Hid (∀k,k≤np→(thAll P ver k).length≤k):=thAll_len HR.out ver
 clear hb0 k0 hcm hR
 unfold meshV thereL
 go_enter Tryz.func73,Tryz.ntmps73
 have hmm:=@run_makeMap Tryz.prog
 go_wp2
 clear hmm c1
 go_loopw [6,15] (fun vo kv wr=>∃k:Nat,k≤np∧kv=.int .i64 k∧Hid (PrInv w wr (.slice ab nb cb) (.slice al np cl) P UV (thAll P ver k) (thAll P ver k) k vo)) (fun _ kv _=>np-(intOf kv).toNat)
 case atStart=>exact⟨0,Nat.zero_le _,rfl,J0⟩
 case round =>
  obtain⟨k,hk,rfl,J⟩:=hrel;by_cases hlt:k<np
  ·have hki:(k:Int)<(np:Int):=by omega
   obtain⟨bl,off,rfl,hbl,g0,g1,g2,g3⟩:=(HL.out.up J.out.below).at hlt;have G3:=hid g3;obtain⟨ak,ck,hke,_,_⟩:=g3;rw[hke]at g2 G3;have hbA:=below_alloc wr (.cells #[.bool (P.th k),.int .i64 (P.rm k),.slice ak (P.m k) ck] 41);have kp:=heap_alloc_new wr (.cells #[.bool (P.th k),.int .i64 (P.rm k),.slice ak (P.m k) ck] 41);obtain⟨W1,hW1⟩:∃u,wr.alloc (.cells #[.bool (P.th k),.int .i64 (P.rm k),.slice ak (P.m k) ck] 41)=u:=⟨_,rfl⟩;rw[hW1]at hbA kp;obtain⟨p0,p1,p2⟩:=three_at kp;have JA:=hid (J.out.up hbA);have CS:=hid (msShows (P.th k) (P.rm k) _ (P.m k) (UV k) (P.t k) ver W1 (G3.out.up hbA));have hst:=HStep.out k hlt;have hln:=HLen.out k (by omega);have hhk:hasV (P.th k) (P.t k) ver (P.m k)=hasK P ver k:=rfl
   have hsk:shownV (P.th k) (UV k) (P.t k) ver (P.m k)=if hasK P ver k=true then .agg #[.int .i64 (numK P ver k),UV k (atK P ver k)]else .agg #[.int .i64 0,.slice none 0 0]:=rfl
   rw[hhk,hsk]at CS;have HNum:Hid (hasK P ver k=true→(0≤numK P ver k∧numK P ver k<8)∧∃a c,UV k (atK P ver k)=.slice a ((P.t k).L (atK P ver k)) c):=fun hh=>by
    obtain⟨_,h1,_⟩:=hasK_at hh;refine⟨HR.out.num k _ hlt h1,?_⟩;obtain⟨a,c,e,_⟩:=HL.out.ints hlt h1;exact⟨a,c,e⟩
   unfold peerV at CS;clear hbA kp hke hhk hsk J G3;cases hh:hasK P ver k with
   |false =>
    rw[hh,if_neg (by decide)]at CS;rw[hh,Bool.false_and,if_neg (by decide)]at hst;have HSt:=hid hst;clear hst hh;go_wp2_with fail
    refine Calls.mono CS.out ?_;rintro e w2 ⟨rfl,hb2⟩;have hb3:=hb2.alloc hb2.size (.cells #[.int .i64 0,.slice none 0 0] 81);have JB:=hid (JA.out.up hb3);clear hb2 hb3 CS p0 p1 p2;go_wp2;go_roundw
    case rel =>
     refine⟨k+1,by omega,by go_num,?_⟩;show PrInv _ _ _ _ _ _ _ _ _ _;rw[HSt.out];obtain⟨mm,c,h0,h1,h2,h3⟩:=JB.out.map;exact⟨JB.out.below,JB.out.box,⟨mm,c,by omega,h1,fun x=>by have:=h2 x;omega,h3⟩,JB.out.own⟩
    case measure=>simp only[intOf];omega
   |true =>
    obtain⟨hNb,au,cu,hue⟩:=HNum.out hh;obtain⟨q,hq⟩:∃q:Nat,numK P ver k=(q:Int):=⟨(numK P ver k).toNat,by omega⟩;have hq8:(q:Int)<8:=by omega
    have hqk:0≤(q:Int)∧(q:Int)≤1000:=by omega
    rw[hh,if_pos rfl,hq,hue]at CS;rw[hh,Bool.true_and,hq]at hst;have HQ:=hid hq;have HU:=hid hue;clear hh hq hue hNb;go_wp2_with fail
    refine Calls.mono CS.out ?_;rintro e w2 ⟨rfl,hb2⟩;have HOb:Hid (some w2.heap.size≠(u6:Value).ownBlock):=fun e=>by have:=((JA.out.up hb2).own.lt _ e.symm).2;omega
    have hb3:=hb2.alloc hb2.size (.cells #[.int .i64 (q:Int),.slice au ((P.t k).L (atK P ver k)) cu] 81);have k9:=heap_alloc_new w2 (.cells #[.int .i64 (q:Int),.slice au ((P.t k).L (atK P ver k)) cu] 81);obtain⟨W3,hW3⟩:∃u,w2.alloc (.cells #[.int .i64 (q:Int),.slice au ((P.t k).L (atK P ver k)) cu] 81)=u:=⟨_,rfl⟩;rw[hW3]at hb3 k9;have JB:=hid (JA.out.up hb3);have K9:=hid k9;obtain⟨s0,s1⟩:=two_at k9;obtain⟨mm,c,h0,hcm,hc2,hc3⟩:=JB.out.map;obtain⟨D,hD,hat⟩:=hcm;have HD:=hid hD;have HAt:=hid hat;have HC2:=hid hc2;have HC3:=hid hc3;have HK:=hid (keyInt hqk);obtain⟨cx,hcx⟩:∃cx,c (q:Int)=cx:=⟨_,rfl⟩;have HCx:=hid hcx;have hbd:=hc2 (q:Int);rw[hcx]at hbd;have hcq:=hc3 (q:Int);rw[hcx]at hcq;have HLst:=hid hst;clear hb2 hb3 CS p0 p1 p2 hD hat hc2 hc3 hcx k9
    have hge:w.heap.size+2≤W3.heap.size:=by have h9:=HD.out.lt;omega
    by_cases hc0:cx=0
    ·have hs:=hcq.1 hc0
     have hst2:=hst;rw[hs,Bool.not_false,if_pos rfl]at hst2;have hcb:(cx==0)=true:=by rw[beq_iff_eq];exact hc0
     have HSt:=hid hst2;have hl9:(thAll P ver k).length≤8:=by omega
     clear hst hst2 hs hcq hc0;go_wp2_with(first
      |(at_builtin;go_must(refine wpList_append_own _ rfl (.tmp 32) (.tmp 34) 103 rfl (w.heap.size+2) 81 ii (.agg #[.int .i64 0,.slice none 0 0]) 2 32 Tryz.underlying103 hii hz0 hz1 hz2 rfl (by decide) _ _ _ rfl (World.ownsRow.alloc JB.out.own _) ⟨_,0,none⟩ 1 1 [.int .i64 (q:Int),.slice au ((P.t k).L (atK P ver k)) cu] rfl rfl (cells_pr _ _ _ _) (by intro u hu;simp at hu;rcases hu with rfl|rfl<;>rfl) (by unfold maxLen;omega) (by omega) (by simp;omega) ?_;intro v1 w6 ho6 hg6 _;have hb5:=below_alloc W3 (.cells #[.int .i64 (q:Int),.slice au ((P.t k).L (atK P ver k)) cu] 81);have h5:=stayB K9.out hb5;rw[←hg6.block _ (Array.getElem?_eq_some_iff.1 h5).1 HOb.out]at h5;obtain⟨t0,t1⟩:=two_at h5;have HD6:=hid ((HD.out.kept (grown_of_below hb5 none) (by intro e;cases e)).kept hg6 JB.out.ne.1);have J6:=hid (JB.out.push (k:=k) (i:=atK P ver k) (by rw[show(P.t k).N (atK P ver k)=(q:Int)from HQ.out,HU.out];exact ho6) hg6);have hge6:w.heap.size+2≤w6.heap.size:=HD6.out.lt;clear ho6 hg6 hb5 h5 s0 s1))
      |(at_lookup;refine wpList_lookup_own_int _ rfl _ _ 102 rfl 3 3 .i64 keyedInt Tryz.underlying102 Tryz.underlying3 (zeroInt _) (w.heap.size+1) mm _ rfl HD.out _ _ rfl HK.out ?_;intro cz hat0 hwc;obtain rfl:=(cnt_val HAt.out hat0).trans HCx.out;clear hat0 hwc)
      |(at_lookup;refine wpList_lookup_own_int _ rfl _ _ 102 rfl 3 3 .i64 keyedInt Tryz.underlying102 Tryz.underlying3 (zeroInt _) (w.heap.size+1) mm _ rfl HD6.out _ _ rfl HK.out ?_;intro cz hat0 hwc;obtain rfl:=(cnt_val HAt.out hat0).trans HCx.out;clear hat0 hwc)
      |(at_mapUpdate;refine wpList_mapUpdate_own _ rfl _ _ _ 102 rfl 3 3 keyedInt Tryz.underlying102 _ (w.heap.size+1) mm _ rfl HD6.out (by unfold maxLen;omega) _ _ _ rfl rfl HK.out _ [] (plainElem_int Tryz.underlying3 (by first|exact wrap64_wf _|exact WalkArith.wf_i64 (by omega))) ?_;intro w7 hown7 hgrow7;have HO7:=hid hown7;have HG7:=hid hgrow7;clear hown7 hgrow7))
     go_roundw
     case rel =>
      refine⟨k+1,by omega,by go_num,?_⟩;show PrInv _ _ _ _ _ _ _ _ _ _;have hst9:=HLst.out;rw[HSt.out];rw[HSt.out]at hst9;refine J6.out.count HG7.out (by omega) (cntM_put HD6.out HAt.out HO7.out) ?_;have h9:=seen_hit (M:=k) (c:=c) HC2.out HC3.out HQ.out hst9;rw[HCx.out]at h9;exact h9
     case measure=>simp only[intOf];omega
    have hs:seenN P (thAll P ver k) (q:Int)=true:=by
     cases h9:seenN P (thAll P ver k) (q:Int)with
     |true=>rfl
     |false=>exact absurd (hcq.2 h9) hc0
    have hst2:=hst;rw[hs,Bool.not_true,if_neg (by decide)]at hst2;have hcb:(cx==0)=false:=by rw[beq_eq_false_iff_ne];exact hc0
    have HSt:=hid hst2;clear hst hst2 hs hcq hc0;go_wp2_with(first
     |(at_lookup;refine wpList_lookup_own_int _ rfl _ _ 102 rfl 3 3 .i64 keyedInt Tryz.underlying102 Tryz.underlying3 (zeroInt _) (w.heap.size+1) mm _ rfl HD.out _ _ rfl HK.out ?_;intro cz hat0 hwc;obtain rfl:=(cnt_val HAt.out hat0).trans HCx.out;clear hat0 hwc)
     |(at_mapUpdate;refine wpList_mapUpdate_own _ rfl _ _ _ 102 rfl 3 3 keyedInt Tryz.underlying102 _ (w.heap.size+1) mm _ rfl HD.out (by unfold maxLen;omega) _ _ _ rfl rfl HK.out _ [] (plainElem_int Tryz.underlying3 (by first|exact wrap64_wf _|exact WalkArith.wf_i64 (by omega))) ?_;intro w7 hown7 hgrow7;have HO7:=hid hown7;have HG7:=hid hgrow7;clear hown7 hgrow7))
    go_roundw
    case rel =>
     refine⟨k+1,by omega,by go_num,?_⟩;show PrInv _ _ _ _ _ _ _ _ _ _;have hst9:=HLst.out;rw[HSt.out];rw[HSt.out]at hst9;refine JB.out.count HG7.out (by omega) (cntM_put HD.out HAt.out HO7.out) ?_;have h9:=seen_hit (M:=k) (c:=c) HC2.out HC3.out HQ.out hst9;rw[HCx.out]at h9;exact h9
    case measure=>simp only[intOf];omega
  have hke:np=k:=by omega
  subst hke;have hlen:=HLen.out np (Nat.le_refl _);have hsl:ShSl wr wr.heap.size u6 (thAll P ver np).length (nL P (thAll P ver np)) (vaL UV (thAll P ver np)) (lL P (thAll P ver np)) (xL P (thAll P ver np)):=by
   refine OwnS.shl (w0:=w) ⟨owns_base J.out.own (by omega),J.out.below⟩ (by omega) fun j hj=>?_;obtain⟨h1,h2,_⟩:=(thAll_ok P ver np np (Nat.le_refl _)).at_ ((thAll P ver np).getD j (0,0)) (by rw[List.getD_eq_getElem?_getD,List.getElem?_eq_getElem hj];exact List.getElem_mem hj);exact(HL.out.up J.out.below).ints h1 h2
  have HS:=hid hsl;clear hsl;go_wp2;go_ret;exact⟨J.out.below,_,rfl,HS.out⟩
end
end Go.Proofs.YtajmnlhfnhbleaaGreat
