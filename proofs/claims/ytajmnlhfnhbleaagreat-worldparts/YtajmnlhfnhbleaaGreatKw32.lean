/- Several texts of one proof, in their order. -/
import Derived.Test.YtajmnlhfnhbleaaGreatKw31
namespace Go.Proofs.YtajmnlhfnhbleaaGreat
open Go.RowKit Go.Maps CurveMath
set_option linter.unusedVariables false
set_option maxHeartbeats 16000000
set_option maxRecDepth 10000
section
theorem CntM.look{w:World}{g m:Nat}{c:Int→Int}(h:CntM w g m c){x:Int}(hx:0≤x∧x≤1000):(Instr.lookup 102 (.map (some g)) (.int .i64 x) false).run Tryz.prog w=.ok (.int .i64 (c x)) w:=by
 obtain⟨D,hD,hat⟩:=h;obtain⟨v,hrun,hv,_⟩:=hD.lookup_int (t:=102) (e:=3) keyedInt Tryz.underlying102 Tryz.underlying3 (zeroInt w) (keyInt hx);rw[cnt_val hat hv]at hrun;exact hrun
theorem IntSl.grownC{w w':World}{B g m l:Nat}{c:Int→Int}{v:Value}{X:Nat→Int}(h:IntSl w B v l X)(hm:CntM w g m c)(hg:w.grownBy w' (some g)):IntSl w' B v l X:=by
 obtain⟨ad,cap,rfl,h0,h2⟩:=h;refine⟨ad,cap,rfl,h0,?_⟩;rcases h2 with h2|⟨b,off,rfl,h4,h5⟩;·exact Or.inl h2
 exact Or.inr ⟨b,off,rfl,h4,fun j hj=>hg.cell (h5 j hj) (by intro e;injection e with e;exact hm.ne (h5 j hj) e)⟩
theorem KeSl.grownC{w w':World}{B g m l:Nat}{c:Int→Int}{v:Value}{UV:Nat→Value}{t:Kt}(h:KeSl w B v l UV t)(hm:CntM w g m c)(hg:w.grownBy w' (some g)):KeSl w' B v l UV t:=by
 obtain⟨ad,cap,rfl,h0,h2⟩:=h;refine⟨ad,cap,rfl,h0,?_⟩;rcases h2 with h2|⟨b,off,rfl,h4,h5⟩;·exact Or.inl h2
 refine Or.inr ⟨b,off,rfl,h4,fun j hj=>?_⟩;obtain⟨x0,x1,x2,x3⟩:=h5 j hj;exact⟨hg.cell x0 (by intro e;injection e with e;exact hm.ne x0 e),hg.cell x1 (by intro e;injection e with e;exact hm.ne x1 e),hg.cell x2 (by intro e;injection e with e;exact hm.ne x2 e),x3.grownC hm hg⟩
theorem grown_set{w:World}{g o:Nat}{u:Value}:w.grownBy (w.setCell ⟨g,o,none⟩ u) (some g) :=
 ⟨rfl,rfl,rfl,by simp[World.setCell],fun k hk hkg=>Below.heap_setCell _ _ _ _ (by show k≠g;intro e;exact hkg (by rw[e]))⟩
structure SfInv(w wr:World)(ab:Option Addr)(n cb:Nat)(al:Option Addr)(np cl g gs:Nat)(KV:Nat→Value)(UV:Nat→Nat→Value)(P:Ps)(T:List Int)(M:Nat):Prop where
 below:Below w.heap.size w wr
 box:wr.heap[w.heap.size]?=some (.cells #[.slice ab n cb,.slice al np cl] 27 (0,0))
 map:∃(mm:Nat) (c:Int→Int),mm≤M∧CntM wr gs mm c∧(∀x,0≤c x∧c x≤(M:Int))∧∀x,c x=0↔T.contains x=false
 row:RowP wr g np KV P
 kept:∀k,k<np→KeSl wr wr.heap.size (KV k) (P.m k) (UV k) (P.t k)
 ge:w.heap.size<gs∧(1≤np→w.heap.size<g)
section
variable {w wr w' : World} {ab : Option Addr} {n cb : Nat} {al : Option Addr} {np cl g gs : Nat} {KV : Nat → Value} {UV : Nat → Nat → Value} {P P' : Ps} {T T' : List Int} {M : Nat}
theorem SfInv.up(h:SfInv w wr ab n cb al np cl g gs KV UV P T M)(hb:Below wr.heap.size wr w'):SfInv w w' ab n cb al np cl g gs KV UV P T M:=by
 obtain⟨mm,c,h0,h1,h2⟩:=h.map;exact⟨h.below.trans (hb.mono h.below.size),stayB h.box hb,⟨mm,c,h0,h1.up hb,h2⟩,h.row.up hb,fun k hk=>(h.kept k hk).up hb,h.ge⟩
theorem SfInv.more(h:SfInv w wr ab n cb al np cl g gs KV UV P T M):SfInv w wr ab n cb al np cl g gs KV UV P T (M+1):=by
 obtain⟨mm,c,h0,h1,h2,h3⟩:=h.map;exact⟨h.below,h.box,⟨mm,c,by omega,h1,fun x=>by have:=h2 x;omega,h3⟩,h.row,h.kept,h.ge⟩
theorem SfInv.slices(h:SfInv w wr ab n cb al np cl g gs KV UV P T M){q:Nat}(hq:q<np):∃a c,KV q=.slice a (P.m q) c:=by
 obtain⟨a,c,e,_⟩:=h.kept q hq;exact⟨a,c,e⟩
theorem SfInv.put(h:SfInv w wr ab n cb al np cl g gs KV UV P T M){q:Nat}(hq:q<np){r:Value}{UR:Nat→Value}(e1:P'.th=P.th)(e2:P'.rm=P.rm)(e3:∀k,k<np→k≠q→P'.m k=P.m k∧P'.t k=P.t k)
 (hr:KeSl wr wr.heap.size r (P'.m q) UR (P'.t q)):SfInv w (wr.setCell ⟨g,q*3+2,none⟩ r) ab n cb al np cl g gs (fun k=>if k=q then r else KV k) (fun k=>if k=q then UR else UV k) P' T M:=by
 obtain⟨mm,c,h0,h1,h2⟩:=h.map
 obtain⟨c1,c2,c3⟩:=h.row.cell q hq
 obtain⟨ak,ck,hsl⟩:=h.slices hq
 rw[hsl]at c3
 have hgg:w.heap.size<g:=h.ge.2 (by omega)
 have hne:g≠gs:=h1.ne c1
 refine⟨h.below.setCell (p:=⟨g,q*3+2,none⟩) (by show w.heap.size≤g;omega) r,?_,⟨mm,c,h0,h1.kept grown_set (by intro e;injection e with e;exact hne e.symm),h2⟩,h.row.put hq r (fun k _=>by rw[e1]) (fun k _=>by rw[e2]),fun k hk=>?_,h.ge⟩
 ·rw[Below.heap_setCell _ _ _ _ (by show w.heap.size≠g;omega)];exact h.box
 ·have hz:(wr.setCell ⟨g,q*3+2,none⟩ r).heap.size=wr.heap.size:=by simp[World.setCell]
  rw[hz];by_cases e:k=q
  ·subst e
   simp only[if_true];exact kel_slice hr c3 c1 r
  simp only[if_neg e];rw[(e3 k hk e).1,(e3 k hk e).2];exact kel_slice (h.kept k hk) c3 c1 r
theorem SfInv.count(h:SfInv w wr ab n cb al np cl g gs KV UV P T M)(hg:wr.grownBy w' (some gs)){mm:Nat}{c:Int→Int}(hmm:mm≤M+1)(hm:CntM w' gs mm c)(hc:(∀x,0≤c x∧c x≤((M+1:Nat):Int))∧∀x,c x=0↔T'.contains x=false):SfInv w w' ab n cb al np cl g gs KV UV P T' (M+1):=by
 obtain⟨m0,c0,_,h1,_⟩:=h.map;have hgs:=h.ge.1;refine⟨h.below.grown hg h.below.size (fun k hk=>by injection hk with hk;omega),?_,⟨mm,c,hmm,hm,hc.1,hc.2⟩,⟨fun k hk=>?_,fun i hi=>?_,Nat.lt_of_lt_of_le h.row.lt hg.size⟩,fun k hk=>((h.kept k hk).grownC h1 hg).mono hg.size,h.ge⟩;·rw[hg.block _ (Array.getElem?_eq_some_iff.1 h.box).1 (by intro e;injection e with e;omega)];exact h.box
 ·obtain⟨q1,q2,q3⟩:=h.row.cell k hk
  have hne:some g≠some gs:=by intro e;injection e with e;exact h1.ne q1 e
  exact⟨hg.cell q1 hne,hg.cell q2 hne,hg.cell q3 hne⟩
 have hnp:0<np:=by omega
 have hne:some g≠some gs:=by intro e;injection e with e;exact h1.ne (h.row.cell 0 hnp).1 e
 rw[←h.row.free i hi];exact World.frozen?_of_block (hg.block _ h.row.lt hne)
end
def SiftPost(w:World)(np:Nat)(Q:Ps)(L:List Nat)(R:Nat)(S:Nat→Nat→Int)(e:Ending)(w':World):Prop :=
 Below w.heap.size w w'∧∃(vl vo:Value) (KV:Nat→Value) (UV:Nat→Nat→Value) (SV:Nat→Value),e=.returned (.tuple #[vl,vo,.int .i64 0])∧PsSl w' w'.heap.size vl np KV UV Q ∧
  ShSl w' w'.heap.size vo L.length (fun i=>((L.getD i 0:Nat):Int)) SV (fun _=>R) (fun i=>S (L.getD i 0))
theorem msSift(vb:Value)(n:Nat)(PV:Nat→Value)(b:Bk)(vl:Value)(np:Nat)(KV:Nat→Value)(UV:Nat→Nat→Value)(P:Ps)(ver:Int)(vs:Value)(mo R:Nat)(SV:Nat→Value)(S:Nat→Nat→Int)(w:World)
 (hv:VeSl w w.heap.size vb n PV b) (hl:PsSl w w.heap.size vl np KV UV P) (hs:ShSl w w.heap.size vs mo (fun k=>(k:Int)) SV (fun _=>R) S) (hR:MeshR n b np P) (hmo:mo≤8) (hN:∀k,k<np→hasK P ver k=true→numK P ver k<(mo:Int)) :
 Calls Tryz.prog 82 #[meshV vb vl,.int .i64 ver,vs] w (SiftPost w np (repP P ver R S np) (lackK (repS P ver R S np) mo) R S):=by
 have HV:=hid hv
 have HL:=hid hl
 have HSh:=hid hs
 have HR:=hid hR
 have HNl:=hid hN
 have h8:=hR.few
 obtain⟨ab,cb,rfl,_,_⟩:=hv
 obtain⟨al,cl,rfl,_,_⟩:=hl
 obtain⟨ash,csh,rfl,_,hxs⟩:=hs
 have HXs:=hid hxs
 obtain⟨ii,hii,hz0,hz1,hz2⟩:=info_parts Tryz.infoShare
 have hb0:=below_alloc w (.cells #[.slice ab n cb,.slice al np cl] 27)
 have k0:=heap_alloc_new w (.cells #[.slice ab n cb,.slice al np cl] 27)
 obtain⟨W,hW⟩:∃W,w.alloc (.cells #[.slice ab n cb,.slice al np cl] 27)=W:=⟨_,rfl⟩
 rw[hW]at hb0 k0
 have CC:=hid (cloneP (HL.out.up hb0) (by omega))
 obtain⟨m0,m1⟩:=two_at k0
 have B0:=hid hb0
 have K0:=hid k0
 clear hb0 k0 hxs hR hN
 have hmm:=@run_makeMap Tryz.prog
 unfold meshV
 go_enter Tryz.func82,Tryz.ntmps82
 go_wp2_with fail
 refine Calls.mono CC.out ?_
 rintro e W2 ⟨v2,rfl,hown,hb2⟩
 have hwW:w.heap.size<W.heap.size:=(Array.getElem?_eq_some_iff.1 K0.out).1
 obtain⟨av,g,cap,rfl,hav,hcap,hrow⟩:=rowP_any hown (g0:=w.heap.size) (by have:=hb2.size;omega)
 have B2:=hid (B0.out.trans (hb2.mono B0.out.size))
 have hbM:=below_alloc W2 (.map #[] 0)
 have hcm:=cntM_made W2
 obtain⟨Y,hY⟩:∃u,World.alloc W2 (.map #[] 0)=u:=⟨_,rfl⟩
 rw[hY]at hbM hcm
 have e1:=stayB (stayB K0.out hb2) hbM
 have J0:Hid (SfInv w Y ab n cb al np cl g W2.heap.size KV UV (repP P ver R S 0) (repS P ver R S 0) 0):=by
  show SfInv _ _ _ _ _ _ _ _ _ _ _ _ _ _ _;rw[repP_zero];exact⟨B2.out.trans (hbM.mono B2.out.size),e1,⟨0,_,Nat.le_refl _,hcm,fun x=>⟨Int.le_refl _,Int.le_refl _⟩,fun x=>⟨fun _=>rfl,fun _=>rfl⟩⟩,hrow.up hbM,fun k hk=>by
   obtain⟨_,_,_,_,_,_,_,hke⟩:=HL.out.at hk;exact(hke.up B2.out).up hbM,⟨by have:=hb2.size;omega,fun h=>by have:=(hav h).2;omega⟩⟩
 obtain⟨gs,hgs⟩:∃q,W2.heap.size=q:=⟨_,rfl⟩
 rw[hgs]at J0
 have HAv:Hid (1≤np→av=some ⟨g,0,none⟩):=fun h=>(hav h).1
 have HCap:=hid hcap
 clear hown hb2 hav hrow hbM hcm hcap CC m0 m1
 obtain⟨m0,m1⟩:=two_at e1
 clear e1
 go_wp2
 clear m0 m1 hmm hY hgs
 go_loopw [26] (fun iv wr=>∃(kk:Nat) (KVi:Nat→Value) (UVi:Nat→Nat→Value),kk≤np∧iv=.int .i64 kk∧Hid (SfInv w wr ab n cb al np cl g gs KVi UVi (repP P ver R S kk) (repS P ver R S kk) kk)) (fun iv _=>np-(intOf iv).toNat)
 case atStart=>exact⟨0,KV,UV,Nat.zero_le _,rfl,J0⟩
 case round =>
  obtain⟨kk,KVi,UVi,hkk,rfl,J⟩:=hrel;by_cases hlt:kk<np
  ·have hki:(kk:Int)<(np:Int):=by omega
   obtain⟨bl,off,rfl,hbl,g0,g1,g2,g3⟩:=(HL.out.up J.out.below).at hlt;have G3:=hid g3;obtain⟨ak,ck,hke,_,_⟩:=g3;rw[hke]at g2 G3;have hbA:=below_alloc wr (.cells #[.bool (P.th kk),.int .i64 (P.rm kk),.slice ak (P.m kk) ck] 41);have kp:=heap_alloc_new wr (.cells #[.bool (P.th kk),.int .i64 (P.rm kk),.slice ak (P.m kk) ck] 41);obtain⟨W1,hW1⟩:∃u,wr.alloc (.cells #[.bool (P.th kk),.int .i64 (P.rm kk),.slice ak (P.m kk) ck] 41)=u:=⟨_,rfl⟩;rw[hW1]at hbA kp;obtain⟨p0,p1,p2⟩:=three_at kp;obtain⟨bp,hbp⟩:∃q,wr.heap.size=q:=⟨_,rfl⟩;rw[hbp]at kp p0 p1 p2;have KP:=hid kp;have JA:=hid (J.out.up hbA);have GA:=hid (G3.out.up hbA);have CS:=hid (msShows (P.th kk) (P.rm kk) _ (P.m kk) (UV kk) (P.t kk) ver W1 GA.out);have hhk:hasV (P.th kk) (P.t kk) ver (P.m kk)=hasK P ver kk:=rfl
   have hsk:shownV (P.th kk) (UV kk) (P.t kk) ver (P.m kk)=if hasK P ver kk=true then .agg #[.int .i64 (numK P ver kk),UV kk (atK P ver kk)]else .agg #[.int .i64 0,.slice none 0 0]:=rfl
   rw[hhk,hsk]at CS;have HNum:Hid (hasK P ver kk=true→(0≤numK P ver kk∧numK P ver kk<(mo:Int))∧∀u,Below w.heap.size w u→IntSl u u.heap.size (UV kk (atK P ver kk)) ((P.t kk).L (atK P ver kk)) ((P.t kk).X (atK P ver kk))):=fun hh=>by
    obtain⟨_,h1,_⟩:=hasK_at hh;exact⟨⟨(HR.out.num kk _ hlt h1).1,HNl.out kk hlt hh⟩,fun u hu=>(HL.out.up hu).ints hlt h1⟩
   unfold peerV at CS;clear hbA kp hke hhk hsk J G3;cases hh:hasK P ver kk with
   |false =>
    rw[hh,if_neg (by decide)]at CS;obtain⟨r1,r2⟩:=rep_none (R:=R) (S:=S) hh;have RN:Hid (SfInv w W1 ab n cb (some ⟨bl,off,none⟩) np cl g gs KVi UVi (repP P ver R S (kk+1)) (repS P ver R S (kk+1)) (kk+1)):=by show SfInv _ _ _ _ _ _ _ _ _ _ _ _ _ _ _;rw[repP_keep r1,r2];exact JA.out.more
    clear hh r1 r2;go_wp2_with fail
    refine Calls.mono CS.out ?_;rintro e w2 ⟨rfl,hb2⟩;have hb3:=hb2.alloc hb2.size (.cells #[.int .i64 0,.slice none 0 0] 81);have JB:=hid (RN.out.up hb3);clear hb2 hb3 CS p0 p1 p2;go_wp2;go_roundw
    case rel=>exact⟨kk+1,KVi,UVi,by omega,by go_num,JB⟩
    case measure=>simp only[intOf];omega
   |true =>
    obtain⟨hNb,hIx⟩:=HNum.out hh;obtain⟨N,hNe⟩:∃N:Nat,numK P ver kk=(N:Int):=⟨(numK P ver kk).toNat,by omega⟩;have hNm:N<mo:=by omega
    have hNi:(N:Int)<(mo:Int):=by omega
    have hNk:0≤(N:Int)∧(N:Int)≤1000:=by omega
    have HIx:=hid hIx;obtain⟨au,cu,hue,_,_⟩:=hIx w (Below.refl _ _);rw[hue]at HIx;rw[hh,if_pos rfl,hNe,hue]at CS;have HH:=hid hh;have HNm:=hid hNe;have hgood:goodK P ver R S kk=sameB (N:Int) (N:Int) ((P.t kk).L (atK P ver kk)) R ((P.t kk).X (atK P ver kk)) (S N):=by unfold goodK;rw[hNe,Int.toNat_natCast]
    have HGd:=hid hgood;clear hh hNe hue hNb hIx hgood;go_wp2_with fail
    refine Calls.mono CS.out ?_;rintro e w2 ⟨rfl,hb2⟩;have hb3:=hb2.alloc hb2.size (.cells #[.int .i64 (N:Int),.slice au ((P.t kk).L (atK P ver kk)) cu] 81);have k9:=heap_alloc_new w2 (.cells #[.int .i64 (N:Int),.slice au ((P.t kk).L (atK P ver kk)) cu] 81);obtain⟨W3,hW3⟩:∃u,w2.alloc (.cells #[.int .i64 (N:Int),.slice au ((P.t kk).L (atK P ver kk)) cu] 81)=u:=⟨_,rfl⟩;rw[hW3]at hb3 k9;obtain⟨bq,hbq⟩:∃q,w2.heap.size=q:=⟨_,rfl⟩;rw[hbq]at k9;have JB:=hid (JA.out.up hb3);have GB:=hid (GA.out.up hb3);have KPB:=hid (stayB KP.out hb3);have K9:=hid k9;clear p0 p1 p2;obtain⟨p0,p1,p2⟩:=three_at KPB.out;obtain⟨s0,s1⟩:=two_at k9;obtain⟨mm,c,h0,hcm,hc2,hc3⟩:=JB.out.map;have HCm:=hid hcm;have HC2:=hid hc2;have HC3:=hid hc3;have hcq:=hc3 (N:Int);obtain⟨cx,hcx⟩:∃cx,c (N:Int)=cx:=⟨_,rfl⟩;have HCx:=hid hcx;rw[hcx]at hcq
    have hbd:=hc2 (N:Int);rw[hcx]at hbd;rcases HXs.out with h9|⟨bs,os,rfl,hbs,hxs⟩;·omega
    obtain⟨x1,x2,x3⟩:=hxs N hNm;have HIs:Hid (∀u,Below w.heap.size w u→IntSl u u.heap.size (SV N) R (S N)):=fun u hu=>x3.up hu;obtain⟨av9,cv9,hve,_,_⟩:=x3;rw[hve]at x2 HIs;have t1:W3.cell? ⟨bs,os+N*2,none⟩=some (.int .i64 (N:Int)):=by rw[JB.out.below.cell hbs];exact x1
    have t2:W3.cell? ⟨bs,os+N*2+1,none⟩=some (.slice av9 R cv9):=by rw[JB.out.below.cell hbs];exact x2
    have hne:Nonempty (Of (Below W3.heap.size W3)):=⟨⟨W3,Below.refl _ _⟩⟩;have F0:∀u:Of (Below W3.heap.size W3),u.val.cell? ⟨bq,0,none⟩=some (.int .i64 (N:Int)):=fun u=>by rw[u.is.cell (cell_lt s0)];exact s0
    have F1:∀u:Of (Below W3.heap.size W3),u.val.cell? ⟨bq,1,none⟩=some (.slice au ((P.t kk).L (atK P ver kk)) cu):=fun u=>by rw[u.is.cell (cell_lt s1)];exact s1
    have F2:∀u:Of (Below W3.heap.size W3),u.val.cell? ⟨bs,os+N*2,none⟩=some (.int .i64 (N:Int)):=fun u=>by rw[u.is.cell (cell_lt t1)];exact t1
    have F3:∀u:Of (Below W3.heap.size W3),u.val.cell? ⟨bs,os+N*2+1,none⟩=some (.slice av9 R cv9):=fun u=>by rw[u.is.cell (cell_lt t2)];exact t2
    have F4:∀u:Of (Below W3.heap.size W3),(Instr.lookup 102 (.map (some gs)) (.int .i64 (N:Int)) false).run Tryz.prog u.val=.ok (.int .i64 cx) u.val:=fun u=>by have h:=(HCm.out.up u.is).look hNk;rw[HCx.out]at h;exact h
    have HD1:Hid (Below W3.heap.size W3 W3.drew):=drew_below W3;clear hb2 hb3 CS hcm hc2 hc3 hcx k9 x1 x2 hve hxs t1 t2;by_cases hc0:cx=0
    ·subst hc0
     have hct:=hcq.1 rfl;have HCt:=hid hct;clear hct hcq;go_wp2_with fail
     refine region_mixed (Below W3.heap.size W3) [([0,1,2,3,4,5,6,7,8,9,10,11],12)] [13] (by kernel_rfl) (by kernel_rfl) HD1.out ?_;refine mixO_cons ?_;repeat(go_big_quiet_step (fail))
     refine wpQuiet_nil ?_;intro K hK;go_wp2_with fail
     have CE:=hid (owes.same (N:Int) (N:Int) _ _ ((P.t kk).L (atK P ver kk)) R ((P.t kk).X (atK P ver kk)) (S N) W3.drew (HIx.out _ (JB.out.below.trans (HD1.out.mono JB.out.below.size))) (HIs.out _ (JB.out.below.trans (HD1.out.mono JB.out.below.size))));obtain⟨sb,hsb⟩:∃t,sameB (N:Int) (N:Int) ((P.t kk).L (atK P ver kk)) R ((P.t kk).X (atK P ver kk)) (S N)=t:=⟨_,rfl⟩;rw[hsb]at CE;have HSb:=hid hsb;unfold shareV at CE;clear hsb;refine Calls.mono CE.out ?_;rintro e U3 ⟨rfl,hb3⟩;have H3:Hid (Below W3.heap.size W3 U3):=HD1.out.trans (hb3.mono HD1.out.size);clear hb3 CE;go_wp2;refine⟨rfl,hK _ _ H3.out ?_⟩;clear hK K;cases sb with
     |false =>
      refine mixO_nil ?_;repeat(go_big_quiet_step (fail))
      refine wpQuiet_nil ?_;clear F0 F1 F2 F3 F4 hne s0 s1 p0 p1 p2;have hbad:(goodK P ver R S kk && !(repS P ver R S kk).contains (numK P ver kk))=false:=by rw[HGd.out,HNm.out,HSb.out];rfl
      obtain⟨g1,g2⟩:=rep_bad HH.out hbad;have HG1:=hid g1;have HG2:=hid g2;have JU:=hid (JB.out.up H3.out);have GU:=hid (GB.out.up H3.out);obtain⟨c0,c1⟩:=two_at JU.out.box;obtain⟨p0,p1,p2⟩:=three_at (stayB KPB.out H3.out);have CD:=hid (peDrop _ n PV b (P.th kk) (P.rm kk) _ (P.m kk) _ (P.t kk) ver U3 (HV.out.up JU.out.below) GU.out);unfold bookV peerV at CD;have hav:=HAv.out (by omega);subst hav;clear g1 g2 hbad;go_wp2_with fail
      refine Calls.mono CD.out ?_;rintro e U4 hDr;obtain⟨hb4,ar,cr,UR,rfl,hkr,_⟩:=drop_opened (HR.out.peer kk hlt).e hDr;have J4:=hid (JU.out.up hb4);have HKr:=hid hkr;obtain⟨z1,z2,z3⟩:=J4.out.row.cell kk hlt;obtain⟨ak9,ck9,hKq⟩:=J4.out.slices hlt;rw[hKq]at z3;have z1':U4.cell? ⟨g,kk*3,none⟩=some (.bool (P.th kk)):=z1;have z2':U4.cell? ⟨g,kk*3+1,none⟩=some (.int .i64 (P.rm kk)):=z2;have S1:=setCell_same z1';have S2:=setCell_same z2';have f1:=J4.out.row.free (kk*3) (by omega);have f2:=J4.out.row.free (kk*3+1) (by omega);have f3:=J4.out.row.free (kk*3+2) (by omega)
      have HYg:Hid (SfInv w (U4.setCell ⟨g,kk*3+2,none⟩ (.slice ar (butL (P.t kk) ver (P.m kk)).length cr)) ab n cb (some ⟨bl,off,none⟩) np cl g gs (fun k=>if k=kk then .slice ar (butL (P.t kk) ver (P.m kk)).length cr else KVi k) (fun k=>if k=kk then UR else UVi k) (repP P ver R S (kk+1)) (repS P ver R S (kk+1)) (kk+1)):=by
       show SfInv _ _ _ _ _ _ _ _ _ _ _ _ _ _ _;rw[HG2.out];obtain⟨h9,h8⟩:=repP_drop HG1.out;refine(J4.out.put (P':=repP P ver R S (kk+1)) hlt rfl rfl (fun k _ hkq=>h8 k hkq) ?_).more;rw[h9.1,h9.2];exact HKr.out
      clear hDr hb4 hkr hKq z1 z2 c0 c1 p0 p1 p2;go_wp2;clear z1' z2' z3 S1 S2 f1 f2 f3;go_roundw
      case rel=>exact⟨kk+1,_,_,by omega,by go_num,HYg⟩
      case measure=>simp only[intOf];omega
     |true =>
      refine mixO_nil ?_;repeat(go_big_quiet_step (fail))
      refine wpQuiet_nil ?_;clear F0 F1 F2 F3 F4 hne s0 s1 p0 p1 p2;obtain⟨g1,g2⟩:=rep_good (k:=kk) HH.out (by rw[HGd.out];exact HSb.out) (by rw[HNm.out];exact HCt.out);rw[HNm.out]at g2;have HG1:=hid g1;have HG2:=hid g2;have JU:=hid (JB.out.up H3.out);have hcu:=HCm.out.up H3.out;have lk:=hcu.look hNk;rw[HCx.out]at lk;obtain⟨D,hD,hat⟩:=hcu;have HD:=hid hD;have HAt:=hid hat;obtain⟨s0,s1⟩:=two_at (stayB K9.out H3.out);have HK:=hid (keyInt hNk);clear g1 g2 hD hat;go_wp2_with(at_mapUpdate;refine wpList_mapUpdate_own _ rfl _ _ _ 102 rfl 3 3 keyedInt Tryz.underlying102 _ gs mm _ rfl HD.out (by unfold maxLen;omega) _ _ _ rfl rfl HK.out _ [] (plainElem_int Tryz.underlying3 (by first|exact wrap64_wf _|exact WalkArith.wf_i64 (by omega))) ?_;intro w7 hown7 hgrow7;have HO7:=hid hown7;have HG7:=hid hgrow7;clear hown7 hgrow7)
      go_roundw
      case rel =>
       refine⟨kk+1,KVi,UVi,by omega,by go_num,?_⟩;show SfInv _ _ _ _ _ _ _ _ _ _ _ _ _ _ _;rw[repP_keep HG1.out,HG2.out];refine JU.out.count HG7.out (by omega) (cntM_put HD.out HAt.out HO7.out) ?_;have h9:=nums_hit (M:=kk) (N:=(N:Int)) HC2.out HC3.out;rw[HCx.out]at h9;exact h9
      case measure=>simp only[intOf];omega
    have hcb:(cx==0)=false:=by rw[beq_eq_false_iff_ne];exact hc0
    have hct:(repS P ver R S kk).contains (N:Int)=true:=by
     cases h9:(repS P ver R S kk).contains (N:Int)with
     |true=>rfl
     |false=>exact absurd (hcq.2 h9) hc0
    have HCt:=hid hct;clear hct hcq hc0;go_wp2_with fail
    refine region_mixed (Below W3.heap.size W3) [([0,1,2,3,4,5,6,7,8,9,10,11],12)] [13] (by kernel_rfl) (by kernel_rfl) HD1.out ?_;refine mixO_cons ?_;repeat(go_big_quiet_step (fail))
    refine wpQuiet_nil ?_;intro K hK;go_wp2;refine⟨rfl,hK _ _ HD1.out ?_⟩;clear hK K;have H3:=HD1;obtain⟨U3,hU3⟩:∃u,W3.drew=u:=⟨_,rfl⟩;rw[hU3]at H3 HD1 ⊢;clear hU3;refine mixO_nil ?_;repeat(go_big_quiet_step (fail))
    refine wpQuiet_nil ?_;clear F0 F1 F2 F3 F4 hne s0 s1 p0 p1 p2;have hbad:(goodK P ver R S kk && !(repS P ver R S kk).contains (numK P ver kk))=false:=by rw[HNm.out,HCt.out,Bool.not_true,Bool.and_false]
    obtain⟨g1,g2⟩:=rep_bad HH.out hbad;have HG1:=hid g1;have HG2:=hid g2;have JU:=hid (JB.out.up H3.out);have GU:=hid (GB.out.up H3.out);obtain⟨c0,c1⟩:=two_at JU.out.box;obtain⟨p0,p1,p2⟩:=three_at (stayB KPB.out H3.out);have CD:=hid (peDrop _ n PV b (P.th kk) (P.rm kk) _ (P.m kk) _ (P.t kk) ver U3 (HV.out.up JU.out.below) GU.out);unfold bookV peerV at CD;have hav:=HAv.out (by omega);subst hav;clear g1 g2 hbad;go_wp2_with fail
    refine Calls.mono CD.out ?_;rintro e U4 hDr;obtain⟨hb4,ar,cr,UR,rfl,hkr,_⟩:=drop_opened (HR.out.peer kk hlt).e hDr;have J4:=hid (JU.out.up hb4);have HKr:=hid hkr;obtain⟨z1,z2,z3⟩:=J4.out.row.cell kk hlt;obtain⟨ak9,ck9,hKq⟩:=J4.out.slices hlt;rw[hKq]at z3;have z1':U4.cell? ⟨g,kk*3,none⟩=some (.bool (P.th kk)):=z1;have z2':U4.cell? ⟨g,kk*3+1,none⟩=some (.int .i64 (P.rm kk)):=z2;have S1:=setCell_same z1';have S2:=setCell_same z2';have f1:=J4.out.row.free (kk*3) (by omega);have f2:=J4.out.row.free (kk*3+1) (by omega);have f3:=J4.out.row.free (kk*3+2) (by omega)
    have HYg:Hid (SfInv w (U4.setCell ⟨g,kk*3+2,none⟩ (.slice ar (butL (P.t kk) ver (P.m kk)).length cr)) ab n cb (some ⟨bl,off,none⟩) np cl g gs (fun k=>if k=kk then .slice ar (butL (P.t kk) ver (P.m kk)).length cr else KVi k) (fun k=>if k=kk then UR else UVi k) (repP P ver R S (kk+1)) (repS P ver R S (kk+1)) (kk+1)):=by
     show SfInv _ _ _ _ _ _ _ _ _ _ _ _ _ _ _;rw[HG2.out];obtain⟨h9,h8⟩:=repP_drop HG1.out;refine(J4.out.put (P':=repP P ver R S (kk+1)) hlt rfl rfl (fun k _ hkq=>h8 k hkq) ?_).more;rw[h9.1,h9.2];exact HKr.out
    clear hDr hb4 hkr hKq z1 z2 c0 c1 p0 p1 p2;go_wp2;clear z1' z2' z3 S1 S2 f1 f2 f3;go_roundw
    case rel=>exact⟨kk+1,_,_,by omega,by go_num,HYg⟩
    case measure=>simp only[intOf];omega
  have hke:np=kk:=by omega
  subst hke;obtain⟨T,hT⟩:∃T,repS P ver R S np=T:=⟨_,rfl⟩;rw[hT]at J;have HT:=hid hT;obtain⟨w1,hw1⟩:∃w1,w1=wr:=⟨_,rfl⟩;subst hw1;clear hT;go_wp2;go_loopw [16,75] (fun vo iv wr=>∃j:Nat,j≤mo∧iv=.int .i64 j∧Hid (OwnS w1 wr vo (lackK T j).length (fun i=>(((lackK T j).getD i 0:Nat):Int)) (fun i=>SV ((lackK T j).getD i 0)))) (fun _ iv _=>mo-(intOf iv).toNat)
  case atStart=>exact⟨0,Nat.zero_le _,rfl,OwnS.nil _ _ _⟩
  case round =>
   obtain⟨j,hj,rfl,OW⟩:=hrel;by_cases hjm:j<mo
   ·have hji:(j:Int)<(mo:Int):=by omega
    have hjk:0≤(j:Int)∧(j:Int)≤1000:=by omega
    have hbw:=J.out.below.trans (OW.out.2.mono J.out.below.size);rcases HXs.out with h9|⟨bs,os,rfl,hbs,hxs⟩;·omega
    obtain⟨x1,x2,x3⟩:=hxs j hjm;obtain⟨av9,cv9,hve,_,_⟩:=x3;rw[hve]at x2;have t1:wr.cell? ⟨bs,os+j*2,none⟩=some (.int .i64 (j:Int)):=by rw[hbw.cell hbs];exact x1
    have t2:wr.cell? ⟨bs,os+j*2+1,none⟩=some (.slice av9 R cv9):=by rw[hbw.cell hbs];exact x2
    have hb3:=below_alloc wr (.cells #[.int .i64 (j:Int),.slice av9 R cv9] 81);have k9:=heap_alloc_new wr (.cells #[.int .i64 (j:Int),.slice av9 R cv9] 81);obtain⟨W3,hW3⟩:∃u,wr.alloc (.cells #[.int .i64 (j:Int),.slice av9 R cv9] 81)=u:=⟨_,rfl⟩;rw[hW3]at hb3 k9;have O3:=hid (OW.out.up hb3);obtain⟨s0,s1⟩:=two_at k9;obtain⟨mm,c,h0,hcm,hc2,hc3⟩:=J.out.map;have lk:=(hcm.up O3.out.2).look hjk;have hcq:=hc3 (j:Int);obtain⟨cx,hcx⟩:∃cx,c (j:Int)=cx:=⟨_,rfl⟩;rw[hcx]at lk hcq;have hsc:=lackK_succ T j;have hll:=lackK_len T j;have HVe:=hid hve;have hge:w1.heap.size≤W3.heap.size:=O3.out.2.size;clear hb3 k9 hcm hc2 hc3 hcx x1 x2 hve hxs hbw;by_cases hc0:cx=0
    ·subst hc0
     rw[hcq.1 rfl,Bool.not_false,if_pos rfl]at hsc;have HSc:=hid hsc;clear hsc hcq;go_wp2_with(at_builtin;go_must(refine wpList_append_own _ rfl (.tmp 84) (.tmp 86) 103 rfl w1.heap.size 81 ii (.agg #[.int .i64 0,.slice none 0 0]) 2 32 Tryz.underlying103 hii hz0 hz1 hz2 rfl (by decide) _ _ _ rfl (World.ownsRow.alloc O3.out.1 _) ⟨_,0,none⟩ 1 1 [.int .i64 (j:Int),.slice av9 R cv9] rfl rfl (cells_pr _ _ _ _) (by intro u hu;simp at hu;rcases hu with rfl|rfl<;>rfl) (by unfold maxLen;omega) (by omega) (by simp;omega) ?_;intro v4 w4 ho4 hg4 _;have HO4:=hid ho4;have HG4:=hid hg4;clear ho4 hg4))
     go_roundw
     case rel =>
      have hl9:(lackK T (j+1)).length=(lackK T j).length+1:=by rw[HSc.out,List.length_append];rfl
      have o4:=O3.out.pushS (N':=fun i=>(((lackK T (j+1)).getD i 0:Nat):Int)) (V':=fun i=>SV ((lackK T (j+1)).getD i 0)) HO4.out HG4.out (fun i hi=>⟨by simp only[HSc.out];rw[getD_old _ _ _ hi],by simp only[HSc.out];rw[getD_old _ _ _ hi]⟩) (by simp only[HSc.out];rw[getD_new]) (by simp only[HSc.out];rw[getD_new];exact HVe.out);rw[←hl9]at o4;exact⟨j+1,by omega,by go_num,o4⟩
     case measure=>simp only[intOf];omega
    have hcb:(cx==0)=false:=by rw[beq_eq_false_iff_ne];exact hc0
    have hct:T.contains (j:Int)=true:=by
     cases h9:T.contains (j:Int)with
     |true=>rfl
     |false=>exact absurd (hcq.2 h9) hc0
    rw[hct,Bool.not_true,if_neg (by decide),List.append_nil]at hsc;have HSc:=hid hsc;clear hsc hcq hc0 hct;go_wp2;go_roundw
    case rel=>exact⟨j+1,by omega,by go_num,by rw[HSc.out];exact O3.out⟩
    case measure=>simp only[intOf];omega
   have hje:mo=j:=by omega
   subst hje;have hbw:=J.out.below.trans (OW.out.2.mono J.out.below.size);have hll:=lackK_len T mo;have hpl:=(J.out.row.sl HAv.out HCap.out (by omega) J.out.kept).up OW.out.2;have hsh:=OW.out.shl (L:=fun _=>R) (X:=fun i=>S ((lackK T mo).getD i 0)) (by omega) (fun i hi=>by
    have hlt9:=lackK_lt (getD_in (d:=0) hi);rcases HXs.out with h9|⟨bs,os,_,hbs,hxs⟩;·omega
    exact(hxs _ hlt9).2.2.up hbw)
   have HPl:=hid hpl;have HSl:=hid hsh;have HBw:=hid hbw;clear hpl hsh hbw;go_wp2;go_ret3
   rw[HT.out];exact⟨HBw.out,_,_,_,_,_,rfl,HPl.out,HSl.out⟩
end
end Go.Proofs.YtajmnlhfnhbleaaGreat
