/- Several texts of one proof, in their order. -/
import Derived.Test.YtajmnlhfnhbleaaGreatSSum20
import Derived.Test.YtajmnlhfnhbleaaGreatSSum21
namespace Go.Proofs.YtajmnlhfnhbleaaGreat
open Go.RowKit CurveMath
set_option linter.unusedVariables false
set_option maxHeartbeats 4000000
set_option maxRecDepth 10000
def SplitPostO(w:World)(nd of sz:Int)(n:Nat)(D:Nat→Int)(e:Ending)(w':World):Prop :=
 Below w.heap.size w w'∧∃(r:Value) (m:Nat) (V:Nat→Value),e=.returned (.tuple #[r,.int .i64 (splitE nd of sz n D)])∧(m:Int)=(if splitE nd of sz n D=0 then of else 0)∧ShSl w' w'.heap.size r m (fun k=>(k:Int)) V (fun _=>rowsN nd sz) (fun k i=>shv nd.toNat n D k i)∧∀i,i<m→Above w.heap.size (V i)
theorem split_errO{w w':World}{nd of sz:Int}{n:Nat}{D:Nat→Int}{c:Int}(hb:Below w.heap.size w w')(he:splitE nd of sz n D=c)(hc:c≠0):SplitPostO w nd of sz n D (.returned (.tuple #[.slice none 0 0,.int .i64 c])) w':=by
 refine⟨hb,_,0,fun _=>.bool false,by rw[he],?_,⟨none,0,rfl,⟨Nat.le_refl _,by omega⟩,Or.inl rfl⟩,fun i hi=>absurd hi (Nat.not_lt_zero _)⟩;rw[he,if_neg hc];rfl
theorem splits_anyO(nd of sz:Int)(a:Option Addr)(n cp:Nat)(D:Nat→Int)(w:World)(h:IntSl w w.heap.size (.slice a n cp) n D):
 Calls Tryz.prog 91 #[planV nd of sz,.slice a n cp] w fun e w'=>SplitPostO w nd of sz n D e w':=by
 have hbx:=below_alloc w (.cells #[.int .i64 nd,.int .i64 of,.int .i64 sz] 59)
 have HC:=hid (checkPlan_any nd of sz (w.alloc (.cells #[.int .i64 nd,.int .i64 of,.int .i64 sz] 59)))
 have HI:=hid h
 have HBx:=hid hbx
 have hbig:n*8≤140737488351232:=by obtain⟨_,_,_,⟨_,h2⟩,_⟩:=h;exact h2
 clear h hbx
 by_cases hp:planOk nd of sz=true
 ·have e:chkP nd of sz=0:=by unfold chkP;rw[if_pos hp]
  rw[e]at HC;obtain⟨hnd,hof,hsz⟩:=planOk_spec hp;have HPl:=hid hp;clear hp e;unfold planV;go_enter Tryz.func91,Tryz.ntmps91;go_wp2_with fail
  refine HC.out.mono ?_;rintro e w1 ⟨rfl,hb1⟩;have p0:w1.cell? ⟨w.heap.size,0,none⟩=some (.int .i64 nd):=by rw[hb1.cell (by simp)];exact cell_at (heap_alloc_new _ _) rfl
  have p1:w1.cell? ⟨w.heap.size,1,none⟩=some (.int .i64 of):=by rw[hb1.cell (by simp)];exact cell_at (heap_alloc_new _ _) rfl
  have p2:w1.cell? ⟨w.heap.size,2,none⟩=some (.int .i64 sz):=by rw[hb1.cell (by simp)];exact cell_at (heap_alloc_new _ _) rfl
  have HB1:=hid (HBx.out.trans (hb1.mono HBx.out.size));clear hb1;by_cases hn:(n:Int)=sz
  ·subst hn
   have hnn:1≤n∧n≤24:=by omega
   go_wp2;go_loop [23] (fun iv=>∃k:Nat,k≤n∧iv=.int .i64 k∧Hid (numsFrom D n k=numsB n D)) (fun iv=>n-(intOf iv).toNat)
   case atStart=>exact⟨0,Nat.zero_le _,rfl,numsFrom_zero D n⟩
   case round =>
    obtain⟨k,hk,rfl,HF⟩:=hrel;by_cases hlt:k<n
    ·have hki:(k:Int)<(n:Int):=by omega
     have hod:∃bo oo,a=some ⟨bo,oo,none⟩∧w1.cell? ⟨bo,oo+k,none⟩=some (.int .i64 (D k)):=by
      obtain⟨ad,cp',e,_,h2⟩:=HI.out;injection e with e4;subst e4;rcases h2 with h0|⟨bo,oo,rfl,hb,hx⟩;·omega
      exact⟨bo,oo,rfl,by rw[HB1.out.cell hb];exact hx k hlt⟩
     obtain⟨bo,oo,rfl,god⟩:=hod;cases hnm:isNum (D k)with
     |true =>
      go_wp2_with(go_at_call 126;go_must(refine(isNumber_any _ _).mono ?_;rintro e wq ⟨rfl,hwq⟩;subst wq;rw[hnm]))
      go_round
      case rel=>exact⟨k+1,by omega,by go_num,numsFrom_next HF.out hnm⟩
      case measure=>simp only[intOf];omega
     |false =>
      have hnb:=hid (numsFrom_bad hlt HF.out hnm);go_wp2_with(go_at_call 126;go_must(refine(isNumber_any _ _).mono ?_;rintro e wq ⟨rfl,hwq⟩;subst wq;rw[hnm]))
      go_ret2;refine split_errO HB1.out ?_ (by decide);unfold splitE;rw[if_pos HPl.out,if_pos rfl,hnb.out,if_neg (by decide)]
    have hke:k=n:=by omega
    subst hke;have hnb:=numsFrom_end HF.out;have hes:splitE nd of (k:Int) k D=0:=by
     unfold splitE;rw[if_pos HPl.out,if_pos rfl,if_pos hnb]
    obtain⟨_,_,hD⟩:=splitE_ok hes;obtain⟨d,rfl⟩:∃d:Nat,nd=d:=⟨nd.toNat,by omega⟩;obtain⟨m,rfl⟩:∃m:Nat,of=m:=⟨of.toNat,by omega⟩;obtain⟨R,hR⟩:∃R:Nat,rowsN (d:Int) (k:Int)=R:=⟨_,rfl⟩;have hrb:=rowsN_bd hnd hsz;rw[hR]at hrb;have hRR:1≤R∧R≤24:=by omega
    have HSo:Hid (∀w' j,Below w.heap.size w w'→j<m→Calls Tryz.prog 96 #[.agg #[.int .i64 (d:Int),.int .i64 (m:Int),.int .i64 (k:Int)],.slice a k cp,.int .i64 (j:Int)] w' fun e w''=>ShareIs w' w'' j R (fun r=>shv d k D j r) e):=fun w' j hb' hj =>
     shareOf_any d m k (k:Int) a cp D j w' HPl.out hD (by omega) (by omega) hR (HI.out.up hb')
    have HES:=hid hes;have HR:=hid hR;obtain⟨ii,hi,hz0,hz1,hz2⟩:=info_parts Tryz.infoShare;have KP:Hid (∀w',Below w1.heap.size w1 w'→w'.cell? ⟨w.heap.size,0,none⟩=some (.int .i64 (d:Int))∧w'.cell? ⟨w.heap.size,1,none⟩=some (.int .i64 (m:Int))∧w'.cell? ⟨w.heap.size,2,none⟩=some (.int .i64 (k:Int))):=fun w' hb' =>
     ⟨by rw[hb'.cell (cell_lt p0)];exact p0,by rw[hb'.cell (cell_lt p1)];exact p1,by rw[hb'.cell (cell_lt p2)];exact p2⟩
    clear hnb hes hD hR hrb HF;go_wp2;go_loopw [9,33] (fun vo iv wr=>∃(j:Nat) (V:Nat→Value),j≤m∧iv=.int .i64 j∧Hid (OwnS w1 wr vo j (fun k=>(k:Int)) V)∧Hid (∀i,i<j→IntSl wr wr.heap.size (V i) R (fun r=>shv d k D i r)∧Off vo (V i))∧Hid (∀i,i<j→Above w.heap.size (V i))) (fun _ iv _=>m-(intOf iv).toNat)
    case atStart=>exact⟨0,fun _=>.bool false,Nat.zero_le _,rfl,OwnS.nil _ _ _,fun i hi=>by omega,fun i hi=>by omega⟩
    case round =>
     obtain⟨j,V,hj,rfl,OW,IW,AW⟩:=hrel;by_cases hjm:j<m
     ·have hji:(j:Int)<(m:Int):=by omega
      obtain⟨q0,q1,q2⟩:=KP.out wr OW.out.2;have HBr:=hid (HB1.out.trans (OW.out.2.mono HB1.out.size));go_wp2_with fail
      refine Calls.mono (HSo.out wr j HBr.out hjm) ?_;rintro e w3 ⟨Vn,rfl,hvn,hb3,hab⟩;have O3:=hid (OW.out.up hb3);have I3:Hid (∀i,i<j→IntSl w3 w3.heap.size (V i) R (fun r=>shv d k D i r)):=fun i hi=>(IW.out i hi).1.up hb3;have HAb:=hid hab;have HVn:=hid hvn;obtain⟨av,cv,hve,_,_⟩:=hvn;subst hve;clear hb3 hab;unfold shareV
      go_wp2_with(at_builtin;go_must(refine wpList_append_own_at _ rfl (.tmp 36) (.tmp 41) 103 rfl w1.heap.size 81 ii (.agg #[.int .i64 0,.slice none 0 0]) 2 32 Tryz.underlying103 hi hz0 hz1 hz2 rfl (by decide) _ _ _ rfl (World.ownsRow.alloc O3.out.1 _) ⟨_,0,none⟩ 1 1 [.int .i64 (j:Int),.slice av R cv] rfl rfl (cells_two _ _ _ _) (by intro u hu;simp at hu;rcases hu with rfl|rfl<;>rfl) (by unfold maxLen;omega) (by omega) (by have:=O3.out.2.size;simp;omega) ?_;intro v1 w4 ho4 hg4 _ hat4;have HO4:=hid ho4;have HG4:=hid hg4;have HA4:=hid hat4;clear ho4 hg4 hat4))
      go_roundw
      case rel =>
       have o4:=O3.out.pushS (N':=fun k=>(k:Int)) (V':=fun i=>if i<j then V i else .slice av R cv) HO4.out HG4.out (fun i hi=>⟨rfl,by rw[if_pos hi]⟩) rfl (by rw[if_neg (Nat.lt_irrefl _)]);refine⟨j+1,_,by omega,by go_num,o4,fun i hi=>?_,fun i hi=>?_⟩
       ·by_cases hij:i<j
        ·rw[if_pos hij]
         exact off_step hRR.1 (I3.out i hij) (IW.out i hij).2 HG4.out HA4.out
        obtain rfl:i=j:=by omega
        rw[if_neg (Nat.lt_irrefl _)];exact off_step hRR.1 HVn.out (off_new OW.out HAb.out) HG4.out HA4.out
       by_cases hij:i<j
       ·rw[if_pos hij]
        exact AW.out i hij
       rw[if_neg hij];exact HAb.out.mono' HBr.out.size
      case measure=>simp only[intOf];omega
     have hje:j=m:=by omega
     subst hje;have q1:=(KP.out wr OW.out.2).2.1;go_wp2;go_ret2;refine⟨HB1.out.trans (OW.out.2.mono HB1.out.size),_,j,V,by rw[HES.out];rfl,?_,?_,AW.out⟩;·rw[HES.out,if_pos rfl]
     rw[HR.out,Int.toNat_natCast];exact OW.out.shl (by omega) (fun i hi=>(IW.out i hi).1)
  have hne:((n:Int) != sz)=true:=by simpa using hn
  have hes:splitE nd of sz n D=3:=by unfold splitE;rw[if_pos HPl.out,if_neg hn]
  have HES:=hid hes;clear hes hn;go_wp2;go_ret2;exact split_errO HB1.out HES.out (by decide)
 ·have e:chkP nd of sz=2:=by unfold chkP;rw[if_neg hp]
  rw[e]at HC;have hes:splitE nd of sz n D=2:=by unfold splitE;rw[if_neg hp]
  have HES:=hid hes;clear hes hp e;unfold planV;go_enter Tryz.func91,Tryz.ntmps91;go_wp2_with(go_at_call 124;go_must(refine HC.out.mono ?_;rintro e w1 ⟨rfl,hb1⟩;have HB1:=hid (HBx.out.trans (hb1.mono HBx.out.size));clear hb1))
  go_ret2;exact split_errO HB1.out HES.out (by decide)
theorem savedIn_anyO(I:Nat→Prop)(vb:Value)(n:Nat)(PV:Nat→Value)(b:Bk)(vl:Value)(np:Nat)(KV:Nat→Value)(UV:Nat→Nat→Value)(P:Ps)(vd:Value)(len:Nat)(D:Nat→Int)(vp:Value)(lp:Nat)(X:Nat→Int)(need of:Int)(w:World)
 (hv:VeSl w w.heap.size vb n PV b) (hl:PsSl w w.heap.size vl np KV UV P) (hd:IntSl w w.heap.size vd len D) (hp:IntSl w w.heap.size vp lp X) (hmo:∀s,s<w.heap.size→I s→MsOff s vb n PV b vl np KV UV P) (hpo:∀s,s<w.heap.size→I s→OfB s lp vp) :
 Calls Tryz.prog 52 #[meshV vb vl,vd,vp,.int .i64 need,.int .i64 of] w (MeshPostO w (saveE n b np P need of len D lp X) (n+1) (saveB n b need of len lp X) np (saveP n np P need of len D) I):=by
 have hb0:=((Below.refl w.heap.size w).alloc (Nat.le_refl _) (.cells #[vb,vl] 27)).alloc (by simp) (.cells #[.slice none 0 0,.slice none 0 0] 27)
 have k1:=heap_two_old w (.cells #[vb,vl] 27) (.cells #[.slice none 0 0,.slice none 0 0] 27)
 have k2:=heap_two_new w (.cells #[vb,vl] 27) (.cells #[.slice none 0 0,.slice none 0 0] 27)
 obtain⟨W0,hW0⟩:∃W,(w.alloc (.cells #[vb,vl] 27)).alloc (.cells #[.slice none 0 0,.slice none 0 0] 27)=W:=⟨_,rfl⟩
 rw[hW0]at hb0 k1 k2
 have HV:=hid hv
 have HMo:=hid hmo
 have HPo:=hid hpo
 have HL:=hid hl
 have HDt:=hid hd
 have HPa:=hid hp
 obtain⟨ad,cap0,rfl,⟨_,hbv⟩,_⟩:=hv
 obtain⟨al,cl,rfl,_,_⟩:=hl
 obtain⟨adt,cdt,rfl,⟨_,hbd⟩,_⟩:=hd
 obtain⟨apa,cpa,rfl,_,_⟩:=hp
 have CK:=hid (checkMesh_any _ n PV b _ np KV UV P W0 (HV.out.up hb0) (HL.out.up hb0))
 obtain⟨er,her⟩:∃c,saveE n b np P need of len D lp X=c:=⟨_,rfl⟩
 rw[her]
 unfold saveE at her
 obtain⟨c,hc⟩:∃c,peersE n b np P=c:=⟨_,rfl⟩
 rw[hc]at CK her
 have HC:=hid hc
 have HEr:=hid her
 obtain⟨m0,m1⟩:=two_at k1
 have B0:=hid hb0
 have K1:=hid k1
 have K2:=hid k2
 clear hb0 k1 k2 hc her hmo hpo
 unfold meshV at CK
 unfold meshV
 go_enter Tryz.func52,Tryz.ntmps52
 go_wp2_with fail
 refine Calls.mono CK.out ?_
 rintro e W ⟨rfl,hbW⟩
 have B1:=hid (B0.out.trans (hbW.mono B0.out.size))
 have d1:=stayB K1.out hbW
 have d2:=stayB K2.out hbW
 have D1:=hid d1
 have D2:=hid d2
 clear hbW m0 m1 CK
 by_cases h0:c=0
 ·subst h0
  have hE1:=HEr.out;rw[if_pos rfl]at hE1;have HE1:=hid hE1;have hbP:=below_alloc W (.cells #[.int .i64 need,.int .i64 of,.int .i64 (len:Int)] 59);have kp:=heap_alloc_new W (.cells #[.int .i64 need,.int .i64 of,.int .i64 (len:Int)] 59);obtain⟨W1,hW1⟩:∃W',W.alloc (.cells #[.int .i64 need,.int .i64 of,.int .i64 (len:Int)] 59)=W':=⟨_,rfl⟩;rw[hW1]at hbP kp;have B2:=hid (B1.out.trans (hbP.mono B1.out.size));have D1:=hid (stayB d1 hbP);have D2:=hid (stayB d2 hbP);have KP:=hid kp;have CSp:=hid (splits_anyO need of (len:Int) adt len cdt D W1 (HDt.out.up B2.out));unfold planV at CSp;obtain⟨p0,p1,p2⟩:=three_at kp;clear d1 d2 hE1 hbP kp;go_wp2_with fail
  refine Calls.mono CSp.out ?_;rintro e W2 ⟨hb2,vs,cnt,SV,rfl,hcnt,hsh,hsa⟩;have HSa:Hid (∀s,s<w.heap.size→I s→∀j,j<cnt→OfB s (rowsN need (len:Int)) (SV j)):=fun s hs _ j hj=>OfB.above ((hsa j hj).mono' (Nat.lt_of_lt_of_le hs B2.out.size));clear hsa;have B3:=hid (B2.out.trans (hb2.mono B2.out.size));have d1:=stayB D1.out hb2;have d2:=stayB D2.out hb2;have kp:=stayB KP.out hb2;have D1:=hid d1;have D2:=hid d2;have HSh:=hid hsh;obtain⟨ash,csh,rfl,_,_⟩:=hsh;obtain⟨c2,hc2⟩:∃c,splitE need of (len:Int) len D=c:=⟨_,rfl⟩;have hE1:=HE1.out;rw[hc2]at hE1 hcnt;rw[hc2];have HC2:=hid hc2;clear hb2 p0 p1 p2 CSp hc2;by_cases h2:c2=0
  ·subst h2
   rw[if_pos rfl]at hE1 hcnt;have HE2:=hid hE1;have HCnt:=hid hcnt;obtain⟨m0,m1⟩:=two_at d1;obtain⟨p0,p1,p2⟩:=three_at kp;have CA:=hid (adds_anyO _ n PV b _ lp X need of (len:Int) W2 (HV.out.up B3.out) (HPa.out.up B3.out));unfold bookV verV at CA;clear d1 d2 hE1 hcnt kp;go_wp2_with fail
   refine Calls.mono CA.out ?_;rintro e W3 ⟨hb3,rb,nb,rfl,hnb,hvb,hao⟩;have HAo:Hid (∀s,s<w.heap.size→OfB s nb rb):=fun s hs=>hao s (Nat.lt_of_lt_of_le hs B3.out.size);clear hao;have B4:=hid (B3.out.trans (hb3.mono B3.out.size));have d1:=stayB D1.out hb3;have d2:=stayB D2.out hb3;have HSh3:=hid (HSh.out.up hb3);have HVb:=hid hvb;obtain⟨ab,cb,rfl,_,_⟩:=hvb;obtain⟨m0,m1⟩:=two_at d1;have fm:=frozen_at (i:=0) d1;have hR:=meshR_of HC.out;have hae:addE n b (snocB n b lp X need of (len:Int))=bookE (n+1) (saveB n b need of len lp X):=by unfold addE saveB;rw[if_pos hR.book]
   rw[hae]at hnb;have HR:=hid hR;obtain⟨Y,hY⟩:∃Y,W3.setCell ⟨w.heap.size,0,none⟩ (.slice ab nb cb)=Y:=⟨_,rfl⟩;have hz:Y.heap.size=W3.heap.size:=by rw[←hY];simp[World.setCell]
   have HYw:Hid (Below w.heap.size w Y):=by show Below _ _ _;rw[←hY];exact B4.out.setCell (p:=⟨w.heap.size,0,none⟩) (Nat.le_refl _) _
   have HYb:Hid (Y.heap[w.heap.size]?=some (.cells #[.slice ab nb cb,.slice al np cl] 27 (0,0))):=by show _=_;rw[←hY];simp[World.setCell,Array.getElem?_modify,d1]
   have HYo:Hid (Y.heap[w.heap.size+1]?=some (.cells #[.slice none 0 0,.slice none 0 0] 27 (0,0))):=by show _=_;rw[←hY,Below.heap_setCell _ _ _ _ (by show w.heap.size+1≠w.heap.size;omega)];exact d2
   have HYv:Hid (VeSl Y Y.heap.size (.slice ab nb cb) nb (snocP n PV (.slice apa lp cpa)) (saveB n b need of len lp X)):=by show VeSl _ _ _ _ _ _;rw[hz,←hY];exact ve_two d1 HVb.out (by omega) _
   have HYs:Hid (ShSl Y Y.heap.size (.slice ash cnt csh) cnt (fun k=>(k:Int)) SV (fun _=>rowsN need (len:Int)) (fun k i=>shv need.toNat len D k i)):=by show ShSl _ _ _ _ _ _ _ _;rw[hz,←hY];exact sh_low HSh3.out m0 _
   obtain⟨y0,y1⟩:=two_at HYb.out;obtain⟨c3,hc3⟩:∃c,bookE (n+1) (saveB n b need of len lp X)=c:=⟨_,rfl⟩;have hE2:=HE2.out;rw[hc3]at hE2 hnb;rw[hae,hc3];have HC3:=hid hc3;clear hb3 hR hz d1 d2 p0 p1 p2 CA hae hc3;unfold bookV;by_cases h3:c3=0
   ·subst h3
    rw[if_pos rfl]at hE2 hnb;subst hnb;have HE3:=hid hE2;obtain⟨hpl,_,_⟩:=splitE_ok HC2.out;have hofp:=(planOk_spec hpl).2.1;have hndp:=(planOk_spec hpl).1;have hof:(cnt:Int)=of:=HCnt.out;have hofn:of.toNat=cnt:=by omega
    have HVy:Hid (∀s,s<Y.heap.size→(I s∧s<w.heap.size)→VeOff s (.slice ab (n+1) cb) (n+1) (snocP n PV (.slice apa lp cpa)) (saveB n b need of len lp X)):=fun s _ hI=>⟨HAo.out s hI.2,fun j hj=>by
     by_cases e:j=n
     ·subst e
      simp only[snocP,saveB,snocB,if_true];exact HPo.out s hI.2 hI.1
     simp only[snocP,saveB,snocB,if_neg e];exact(HMo.out s hI.2 hI.1).1.2 j (by omega)⟩
    have HLy:Hid (PsO Y.heap.size (fun s=>I s∧s<w.heap.size) np KV UV P):=fun s _ hI=>(HMo.out s hI.2 hI.1).2.2;have HSy:Hid (∀s,s<Y.heap.size→(I s∧s<w.heap.size)→∀j,j<cnt→OfB s (rowsN need (len:Int)) (SV j)):=fun s _ hI=>HSa.out s hI.2 hI.1;have CG:=hid (given_anyO (fun s=>I s∧s<w.heap.size) _ (n+1) _ (saveB n b need of len lp X) _ np KV UV P (n:Int) _ cnt (fun k=>(k:Int)) SV (fun _=>rowsN need (len:Int)) (fun k i=>shv need.toNat len D k i) Y HYv.out (HL.out.up HYw.out) HYs.out (HR.out.snoc HC3.out) ⟨by omega,by omega⟩ HVy.out HLy.out HSy.out (fun j hj=>by
     have e1:(saveB n b need of len lp X).nd (n:Int).toNat=need:=by simp[saveB,snocB]
     have e2:(saveB n b need of len lp X).of (n:Int).toNat=of:=by simp[saveB,snocB]
     have e3:(saveB n b need of len lp X).sz (n:Int).toNat=(len:Int):=by simp[saveB,snocB]
     rw[e1,e2,e3];exact split_right HC2.out (by omega)))
    have hsv:giveP P (n:Int) (forA P (n:Int) np cnt) (fun k=>(k:Int)) (fun _=>rowsN need (len:Int)) (fun k i=>shv need.toNat len D k i) cnt=saveP n np P need of len D:=by unfold saveP;rw[hofn]
    rw[hsv,hof,HE3.out]at CG;have HCG:=CG;unfold meshV at CG;clear hE2 hpl hofp hndp hof hofn hsv;go_wp2_with fail
    refine Calls.mono CG.out ?_;rintro e W5 hM;have HM:=hid hM;obtain⟨hb5,gb,gl,n5,np5,PV5,KV5,UV5,rfl,hn5,hnp5,hv5,hl5,_⟩:=hM;clear hn5 hnp5;obtain⟨a5,c5,rfl,_,_⟩:=hv5;obtain⟨a6,c6,rfl,_,_⟩:=hl5;unfold meshV at HM;have o5:=stayB HYo.out hb5;have HO5:=hid o5;obtain⟨r1,r2⟩:=two_at o5;have f1:=frozen_at (i:=0) o5;have f2:=frozen_at (i:=1) o5;unfold meshV;clear hb5 o5;go_wp2;refine ret2 (put2_whole HO5.out _ _) Tryz.underlying27 ?_;exact mesh_outO HYw.out HM.out (fun s hs hI=>⟨hI,hs⟩) HO5.out (by omega)
   have hcb:(c3 != 0)=true:=by simpa using h3
   rw[if_neg h3]at hE2;have H3:=hid h3;have HE3:=hid hE2;obtain⟨r1,r2⟩:=two_at HYo.out;have f1:=frozen_at (i:=0) HYo.out;have f2:=frozen_at (i:=1) HYo.out;clear h3 hE2 hnb;go_wp2;refine ret2 (put2_whole HYo.out _ _) Tryz.underlying27 ?_;rw[←HE3.out];exact mesh_noneO (put2_below HYw.out (by omega)) H3.out
  have hcb:(c2 != 0)=true:=by simpa using h2
  rw[if_neg h2]at hE1;have H2:=hid h2;have HE2:=hid hE1;obtain⟨r1,r2⟩:=two_at d2;have f1:=frozen_at (i:=0) d2;have f2:=frozen_at (i:=1) d2;clear h2 d1 d2 kp hE1 hcnt;go_wp2;refine ret2 (put2_whole D2.out _ _) Tryz.underlying27 ?_;rw[←HE2.out];exact mesh_noneO (put2_below B3.out (by omega)) H2.out
 ·have hcb:(c != 0)=true:=by simpa using h0
  have H0:=hid h0;have hE1:=HEr.out;rw[if_neg h0]at hE1;have HE1:=hid hE1;obtain⟨r1,r2⟩:=two_at d2;have f1:=frozen_at (i:=0) d2;have f2:=frozen_at (i:=1) d2;clear h0 d1 d2 hE1;go_wp2;refine ret2 (put2_whole D2.out _ _) Tryz.underlying27 ?_;rw[←HE1.out];exact mesh_noneO (put2_below B1.out (by omega)) H0.out
def PePostO(w:World)(th:Bool)(room:Int)(m0:Nat)(U0:Nat→Value)(t0:Kt)(m:Nat)(t:Kt)(e:Ending)(w':World):Prop :=
 Below w.heap.size w w'∧∃(r:Value) (UV:Nat→Value),e=.returned (peerV th room r)∧KeSl w' w'.heap.size r m UV t∧∀s,s<w.heap.size→(∀i,i<m0→OfB s (t0.L i) (U0 i))→KeOff s r m UV t
theorem rowT_off{w wr:World}{base:Nat}{v:Value}{UV:Nat→Value}{t:Kt}{ver:Int}{m:Nat}(h:wr.ownsRow base 83 3 v (butL t ver m).length (flatI UV t (butL t ver m)))(hb:w.heap.size≤base):
 ∀s,s<w.heap.size→(∀i,i<m→OfB s (t.L i) (UV i))→KeOff s v (butL t ver m).length (fun j=>UV ((butL t ver m).getD j 0)) (selT t (butL t ver m)):=fun s hs hU=>by
 refine⟨?_,fun j hj=>?_⟩
 ·rcases h.2 with⟨rfl,h0⟩|⟨g,cap,cur,rfl,hg,_⟩
  ·exact Or.inl h0
  refine Or.inr fun ad n' c e=>?_;injection e with e;injection e with e;subst e;show g≠s;omega
 ·have hm:(butL t ver m).getD j 0∈butL t ver m:=by
   rw[List.getD_eq_getElem?_getD,List.getElem?_eq_getElem hj];exact List.getElem_mem hj
  exact hU _ (butL_lt hm)
theorem without_anyO(th:Bool)(room:Int)(v:Value)(m:Nat)(UV:Nat→Value)(t:Kt)(ver:Int)(w:World)(hm:m≤1000)(h:KeSl w w.heap.size v m UV t):
 Calls Tryz.prog 58 #[peerV th room v,.int .i64 ver] w (PePostO w th room m UV t (butL t ver m).length (selT t (butL t ver m))):=by
 obtain⟨ad,cap,rfl,⟨hcap,hbig⟩,hx⟩:=h
 have hb0:=((Below.refl w.heap.size w).alloc (Nat.le_refl _) (.cells #[.bool th,.int .i64 room,.slice ad m cap] 41)).alloc (by simp) (.cells #[.bool false,.int .i64 0,.slice none 0 0] 41)
 have k1:=heap_two_old w (.cells #[.bool th,.int .i64 room,.slice ad m cap] 41) (.cells #[.bool false,.int .i64 0,.slice none 0 0] 41)
 have k2:=heap_two_new w (.cells #[.bool th,.int .i64 room,.slice ad m cap] 41) (.cells #[.bool false,.int .i64 0,.slice none 0 0] 41)
 obtain⟨W,hW⟩:∃W,(w.alloc (.cells #[.bool th,.int .i64 room,.slice ad m cap] 41)).alloc (.cells #[.bool false,.int .i64 0,.slice none 0 0] 41)=W:=⟨_,rfl⟩
 rw[hW]at hb0 k1 k2
 have B0:=hid hb0
 have K1:=hid k1
 have K2:=hid k2
 have HX:=hid hx
 obtain⟨p0,p1,p2⟩:=three_at k1
 obtain⟨ii,hii,hz0,hz1,hz2⟩:=info_parts Tryz.infoKept
 have hl1:w.heap.size+1<W.heap.size:=(Array.getElem?_eq_some_iff.1 k2).1
 have HL1:=hid hl1
 clear hb0 k1 k2 hx hl1
 unfold peerV
 go_enter Tryz.func58,Tryz.ntmps58
 go_wp2
 clear p0 p1 p2
 go_loopw [5,11] (fun vo iv wr=>∃j:Nat,j≤m∧iv=.int .i64 j∧Hid (OwnT W wr vo UV t (butL t ver j))) (fun _ iv _=>m-(intOf iv).toNat)
 case atStart=>exact⟨0,Nat.zero_le _,rfl,OwnT.nil _ _ _⟩
 case round =>
  obtain⟨k,hk,rfl,OW⟩:=hrel;by_cases hlt:k<m
  ·have hki:(k:Int)<(m:Int):=by omega
   have BR:=hid (B0.out.trans (OW.out.2.mono B0.out.size));rcases HX.out with h0|⟨bl,off,rfl,hbl,hx⟩;·omega
   obtain⟨x0,x1,x2,x3⟩:=hx k hlt;obtain⟨ap,cp,hpe,_,_⟩:=x3;have HPe:=hid hpe;rw[hpe]at x2;have g0:wr.cell? ⟨bl,off+k*3,none⟩=some (.int .i64 (t.V k)):=by rw[BR.out.cell hbl];exact x0
   have g1:wr.cell? ⟨bl,off+k*3+1,none⟩=some (.int .i64 (t.N k)):=by rw[BR.out.cell hbl];exact x1
   have g2:wr.cell? ⟨bl,off+k*3+2,none⟩=some (.slice ap (t.L k) cp):=by rw[BR.out.cell hbl];exact x2
   obtain⟨Z,hZ⟩:∃Z,wr.alloc (.cells #[.int .i64 (t.V k),.int .i64 (t.N k),.slice ap (t.L k) cp] 83)=Z:=⟨_,rfl⟩;have hbZ:Below wr.heap.size wr Z:=by rw[←hZ];exact below_alloc _ _
   have OZ:=hid (OW.out.up hbZ);obtain⟨z0,z1,z2⟩:Z.cell? ⟨wr.heap.size,0,none⟩=_∧Z.cell? ⟨wr.heap.size,1,none⟩=_∧Z.cell? ⟨wr.heap.size,2,none⟩=_:=three_at (by rw[←hZ];exact heap_alloc_new wr _);have hsc:=butL_succ t ver k;have hll:=butL_len t ver k;have hge:W.heap.size≤Z.heap.size:=OZ.out.2.size;clear x0 x1 x2 hx hpe hbZ;cases hne:(t.V k != ver)with
   |false =>
    rw[hne,if_neg (by decide),List.append_nil]at hsc;have HSc:=hid hsc;clear hsc;go_wp2;go_roundw
    case rel=>exact⟨k+1,by omega,by go_num,by rw[HSc.out];exact OZ.out⟩
    case measure=>simp only[intOf];omega
   |true =>
    rw[hne,if_pos rfl]at hsc;have HSc:=hid hsc;have HCt:=hid (cells_three Z (.int .i64 (t.V k)) (.int .i64 (t.N k)) (.slice ap (t.L k) cp) 83);clear hsc;go_wp2_with(at_builtin;go_must(refine wpList_append_own _ rfl (.tmp 19) (.tmp 21) 39 rfl W.heap.size 83 ii (.agg #[.int .i64 0,.int .i64 0,.slice none 0 0]) 3 40 Tryz.underlying39 hii hz0 hz1 hz2 rfl (by decide) _ _ _ rfl (World.ownsRow.alloc OZ.out.1 _) ⟨_,0,none⟩ 1 1 [.int .i64 (t.V k),.int .i64 (t.N k),.slice ap (t.L k) cp] rfl rfl HCt.out (by intro u hu;simp at hu;rcases hu with rfl|rfl|rfl<;>rfl) (by unfold maxLen;omega) (by omega) (by simp;omega) ?_;intro v1 w6 ho6 hg6 _;have HO6:=hid ho6;have HG6:=hid hg6;clear ho6 hg6))
    have O6:OwnT W w6 v1 UV t (butL t ver k++[k]):=by
     have hbZ2:=below_alloc Z (.cells #[.int .i64 (t.V k),.int .i64 (t.N k),.slice ap (t.L k) cp] 83);refine(OZ.out.up hbZ2).push ?_ HG6.out;rw[HPe.out];exact HO6.out
    go_roundw
    case rel=>exact⟨k+1,by omega,by go_num,by rw[HSc.out];exact O6⟩
    case measure=>simp only[intOf];omega
  have hke:m=k:=by omega
  subst hke;have kk1:wr.heap[w.heap.size]?=some (.cells #[.bool th,.int .i64 room,.slice ad m cap] 41 (0,0)):=by rw[OW.out.2.block _ (Array.getElem?_eq_some_iff.1 K1.out).1];exact K1.out
  have kk2:wr.heap[w.heap.size+1]?=some (.cells #[.bool false,.int .i64 0,.slice none 0 0] 41 (0,0)):=by rw[OW.out.2.block _ (Array.getElem?_eq_some_iff.1 K2.out).1];exact K2.out
  obtain⟨p0,p1,p2⟩:=three_at kk1;obtain⟨r0,r1,r2⟩:=three_at kk2;have f2:=frozen_at (i:=2) kk1;have q0:=frozen_at (i:=0) kk2;have q1:=frozen_at (i:=1) kk2;have q2:=frozen_at (i:=2) kk2;obtain⟨ao,co,hvo⟩:=owns_sliceV OW.out.1;subst hvo;have hll:=butL_len t ver m;go_wp2;have h1:=HL1.out;have e1:(wr.setCell ⟨w.heap.size,2,none⟩ (.slice ao (butL t ver m).length co)).heap[w.heap.size+1]?=some (.cells #[.bool false,.int .i64 0,.slice none 0 0] 41 (0,0)):=by
   rw[Below.heap_setCell _ _ _ _ (by show w.heap.size+1≠w.heap.size;omega)];exact kk2
  have hH:=put3_whole e1 (.bool th) (.int .i64 room) (.slice ao (butL t ver m).length co);have hB:Below w.heap.size w (put3 (wr.setCell ⟨w.heap.size,2,none⟩ (.slice ao (butL t ver m).length co)) (w.heap.size+1) (.bool th) (.int .i64 room) (.slice ao (butL t ver m).length co)) :=
   ((((B0.out.trans (OW.out.2.mono B0.out.size)).setCell (p:=⟨w.heap.size,2,none⟩) (Nat.le_refl _) _).setCell (p:=⟨w.heap.size+1,0,none⟩) (by show w.heap.size≤w.heap.size+1;omega) _).setCell (p:=⟨w.heap.size+1,1,none⟩) (by show w.heap.size≤w.heap.size+1;omega) _).setCell (p:=⟨w.heap.size+1,2,none⟩) (by show w.heap.size≤w.heap.size+1;omega) _
  have hne:∀g,g≤w.heap.size+1→(Value.slice ao (butL t ver m).length co).ownBlock≠some g:=fun g hg e=>by have:=(OW.out.1.lt g e).1;omega
  have hO:=owns_set_other (o:=2) (owns_set_other (o:=1) (owns_set_other (o:=0) (owns_set_other (o:=2) OW.out.1 (hne _ (Nat.le_succ _)) (.slice ao (butL t ver m).length co)) (hne _ (Nat.le_refl _)) (.bool th)) (hne _ (Nat.le_refl _)) (.int .i64 room)) (hne _ (Nat.le_refl _)) (.slice ao (butL t ver m).length co);refine bodyPost_ret (results_cell_row rfl _ _ (w.heap.size+1) 41 #[.bool th,.int .i64 room,.slice ao (butL t ver m).length co] (0,0) _ rfl hH Tryz.underlying41 rfl (by kernel_rfl)) rfl ?_;refine⟨hB,_,_,rfl,rowT_kel hO (by omega) fun i hi=>?_,rowT_off hO (by omega)⟩;rcases HX.out with h0|⟨bl,off,_,hbl,hx⟩;·have:=butL_lt hi;omega
  exact(hx i (butL_lt hi)).2.2.2.up hB
end Go.Proofs.YtajmnlhfnhbleaaGreat
