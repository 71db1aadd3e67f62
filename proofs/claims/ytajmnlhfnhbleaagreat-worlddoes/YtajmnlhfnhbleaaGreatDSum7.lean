/- Several texts of one proof, in their order. -/
import Derived.Test.YtajmnlhfnhbleaaGreatDSum6
namespace Go.Proofs.YtajmnlhfnhbleaaGreat
open Go.RowKit
set_option linter.unusedVariables false
set_option maxHeartbeats 4000000
set_option maxRecDepth 10000
theorem checkPeers_any(vb:Value)(n:Nat)(PV:Nat→Value)(b:Bk)(vl:Value)(np:Nat)(KV:Nat→Value)(UV:Nat→Nat→Value)(P:Ps)(w:World)(hv:VeSl w w.heap.size vb n PV b)(hl:PsSl w w.heap.size vl np KV UV P):
 Calls Tryz.prog 46 #[bookV vb,vl] w fun e w'=>e=.returned (.int .i64 (peersE n b np P))∧Below w.heap.size w w':=by
 have HV:=hid hv
 have HL:=hid hl
 obtain⟨ad,cap,rfl,_,_⟩:=hv
 obtain⟨al,cl,rfl,⟨hcl,hbig⟩,_⟩:=hl
 have hbx:=below_alloc w (.cells #[.slice ad n cap] 24)
 have HCk:=hid (checkBook_any _ n PV b _ (HV.out.up hbx))
 have k0:=heap_alloc_new w (.cells #[.slice ad n cap] 24)
 have c0:(w.alloc (.cells #[.slice ad n cap] 24)).cell? ⟨w.heap.size,0,none⟩=some (.slice ad n cap):=cell_at k0 rfl
 have HK0:=hid k0
 have HBx:=hid hbx
 obtain⟨ans,hans⟩:∃c,peersE n b np P=c:=⟨_,rfl⟩
 rw[hans]
 unfold peersE at hans
 obtain⟨c,hcc⟩:∃c,bookE n b=c:=⟨_,rfl⟩
 rw[hcc]at HCk hans
 have HA:=hid hans
 clear hbx hans hcc k0
 unfold bookV at HCk
 unfold bookV
 go_enter Tryz.func46,Tryz.ntmps46
 go_wp2_with fail
 refine Calls.mono HCk.out ?_
 rintro e W ⟨rfl,hbW⟩
 have HBW:=hid (HBx.out.trans (hbW.mono HBx.out.size))
 have HKW:=hid (stayB HK0.out hbW)
 clear hbW HCk c0
 by_cases hc0:c=0
 ·subst hc0
  have ha:=HA.out;rw[if_pos rfl]at ha;by_cases h8:np≤8
  ·rw[if_pos h8]at ha
   have HS0:=hid ha;clear ha HA;have h8i:¬(8:Int)<(np:Int):=by omega
   go_wp2;go_loopw [19] (fun iv wr=>∃k:Nat,k≤np∧iv=.int .i64 k∧Hid (Below W.heap.size W wr)∧Hid (scanP n b P (np-k) k=ans)) (fun iv _=>np-(intOf iv).toNat)
   case atStart=>exact⟨0,Nat.zero_le _,rfl,Below.refl _ _,HS0⟩
   case round =>
    obtain⟨k,hk,rfl,HB,HS⟩:=hrel;by_cases hlt:k<np
    ·have hki:(k:Int)<(np:Int):=by omega
     have HBr:=hid (HBW.out.trans (HB.out.mono HBW.out.size));obtain⟨bl,off,rfl,hbl,g0,g1,g2,g3⟩:=(HL.out.up HBr.out).at hlt;have G3:=hid g3;obtain⟨ak,ck,hke,_,_⟩:=g3;rw[hke]at g2 G3;have hbA:=below_alloc wr (.cells #[.bool (P.th k),.int .i64 (P.rm k),.slice ak (P.m k) ck] 41);have hstep:=HS.out;rw[show np-k=(np-(k+1))+1 by omega]at hstep;simp only[scanP]at hstep;have HCp:=hid (checkPeer_any _ n PV b (P.th k) (P.rm k) _ (P.m k) (UV k) (P.t k) _ ((HV.out.up HBr.out).up hbA) (G3.out.up hbA));have cb:wr.cell? ⟨w.heap.size,0,none⟩=some (.slice ad n cap):=cell_at (stayB HKW.out HB.out) rfl;have cb2:(wr.alloc (.cells #[.bool (P.th k),.int .i64 (P.rm k),.slice ak (P.m k) ck] 41)).cell? ⟨w.heap.size,0,none⟩=some (.slice ad n cap):=by rw[hbA.cell (cell_lt cb)];exact cb
     have HBA:=hid (HB.out.trans (hbA.mono HB.out.size));obtain⟨ep,hep⟩:∃x,peerE n b (P.rm k) (P.m k) (P.t k)=x:=⟨_,rfl⟩;rw[hep]at HCp hstep;have HSt:=hid hstep;clear hep hstep hbA hke;unfold bookV peerV at HCp;go_wp2_with fail
     refine Calls.mono HCp.out ?_;rintro e w2 ⟨rfl,hb2⟩;have HB2:=hid (HBA.out.trans (hb2.mono HBA.out.size));clear hb2 HCp cb cb2 g0 g1 g2;by_cases he:ep=0
     ·have hst:=HSt.out
      rw[if_pos he]at hst;have HNx:=hid hst;have heb:(ep != 0)=false:=by rw[bne_eq_false_iff_eq];exact he
      clear hst he;go_wp2;go_roundw
      case rel=>exact⟨k+1,by omega,by go_num,HB2,HNx⟩
      case measure=>simp only[intOf];omega
     have hst:=HSt.out;rw[if_neg he]at hst;have heb:(ep != 0)=true:=by simpa using he
     have HFn:=hid hst;clear hst he;go_wp2;go_ret;exact⟨by rw[HFn.out];rfl,HBW.out.trans (HB2.out.mono HBW.out.size)⟩
    have hke:np=k:=by omega
    subst hke;have hst:=HS.out;rw[Nat.sub_self]at hst;have HFin:Hid ((0:Int)=ans):=hst;clear hst;go_wp2;go_ret;exact⟨by rw[←HFin.out];rfl,HBW.out.trans (HB.out.mono HBW.out.size)⟩
  rw[if_neg h8]at ha;subst ha;have h8i:(8:Int)<(np:Int):=by omega
  clear HA;go_wp2;go_ret;exact⟨rfl,HBW.out⟩
 ·have hcb:(c != 0)=true:=by simpa using hc0
  have ha:=HA.out;rw[if_neg hc0]at ha;subst ha;clear hc0 HA;go_wp2;go_ret;exact⟨rfl,HBW.out⟩
theorem isl_take{w:World}{B:Nat}{a:Option Addr}{c q:Nat}{l:List Int}(h:IntSl w B (.slice a l.length c) l.length (fun j=>l.getD j 0))(hq:q≤l.length):IntSl w B (.slice a q c) (l.take q).length (fun j=>(l.take q).getD j 0):=by
 obtain⟨ad,cap,he,⟨h0,h1⟩,h2⟩:=h;injection he with e1 _ e3;subst e1 e3;have hl:(l.take q).length=q:=by rw[List.length_take];omega
 rw[hl];refine⟨a,c,rfl,⟨by omega,by omega⟩,?_⟩;by_cases hq0:q=0;·exact Or.inl hq0
 rcases h2 with h2|⟨b,off,rfl,h4,h5⟩;·omega
 refine Or.inr ⟨b,off,rfl,h4,fun j hj=>?_⟩;rw[h5 j (by omega)];congr 2;simp[List.getD_eq_getElem?_getD,hj]
theorem placesFor_any(vl:Value)(np:Nat)(KV:Nat→Value)(UV:Nat→Nat→Value)(P:Ps)(ver many:Int)(w:World)(hn:np≤8)(hr:∀k,k<np→(0≤P.rm k∧P.rm k≤20)∧(P.m k:Int)≤P.rm k)(hl:PsSl w w.heap.size vl np KV UV P):
 Calls Tryz.prog 128 #[vl,.int .i64 ver,.int .i64 many] w (LiPost w (forL P ver np many) (manyE P ver np many)):=by
 have HL:=hid hl
 have HR:=hid hr
 obtain⟨al,cl,rfl,⟨hcl,hbig⟩,_⟩:=hl
 obtain⟨ii,hii,hzz0,hzz1,hzz2⟩:=info_parts Tryz.infoInt
 obtain⟨er,her⟩:∃c,manyE P ver np many=c:=⟨_,rfl⟩
 obtain⟨lo,hlo⟩:∃c,forL P ver np many=c:=⟨_,rfl⟩
 rw[her,hlo]
 unfold forL at hlo
 rw[her]at hlo
 unfold manyE at her
 have HEr:=hid her
 have HLo:=hid hlo
 have HIn:=hid (in_any many 0 8 w)
 clear hr her hlo
 by_cases h8:0≤many∧many≤8
 ·rw[decide_eq_true h8]at HIn
  obtain⟨q,rfl⟩:∃q:Nat,many=q:=⟨many.toNat,by omega⟩;go_enter Tryz.func128,Tryz.ntmps128;go_wp2_with fail
  refine Calls.mono HIn.out ?_;rintro e w1 ⟨rfl,hw1⟩;subst w1;go_wp2;go_loopw [8,9] (fun vo lv wr=>∃(r:Nat) (D:List Int),r≤20∧lv=.int .i64 r∧Hid (OwnL w wr vo D)∧Hid (D++lefts P ver np r=orderL P ver np)∧Hid (D.length≤(20-r)*8)) (fun _ lv _=>(intOf lv).toNat)
  case atStart=>exact⟨20,[],Nat.le_refl _,rfl,OwnL.nil _,rfl,Nat.zero_le _⟩
  case round =>
   obtain⟨r,D,hr20,rfl,OW,HO,HDl⟩:=hrel;by_cases hr0:r=0
   ·subst hr0
    have hD:D=orderL P ver np:=by have h:=HO.out;simpa[lefts]using h
    have hdl:=HDl.out;have hs:=OW.out.isl (by omega);have HS:=hid hs;obtain⟨ao,co,rfl,⟨hco,_⟩,_⟩:=hs;have hE:=HEr.out;have hL:=HLo.out;rw[if_pos h8,←hD]at hE;rw[←hD]at hL;clear hD HO;by_cases hsh:D.length<q
    ·rw[if_pos (by omega)]at hE
     subst hE;rw[if_neg (by decide)]at hL;subst hL;have hsi:(D.length:Int)<(q:Int):=by omega
     go_wp2;go_ret2;exact liPost_nil OW.out.2
    rw[if_neg (by omega)]at hE;subst hE;rw[if_pos rfl,Int.toNat_natCast]at hL;have HLl:=hid hL;have hsi:¬(D.length:Int)<(q:Int):=by omega
    have hqc:(q:Int)≤(co:Int):=by omega
    clear hL;go_wp2;go_ret2;exact⟨OW.out.2,_,rfl,by rw[←HLl.out];exact isl_take HS.out (by omega)⟩
   obtain⟨r',rfl⟩:∃r',r=r'+1:=⟨r-1,by omega⟩;have hrp:(0:Int)<((r'+1:Nat):Int):=by omega
   go_wp2;obtain⟨vo,hvo⟩:∃vo,u8=vo:=⟨_,rfl⟩;subst hvo;obtain⟨w0,hw0⟩:∃w0,wr=w0:=⟨_,rfl⟩;subst hw0;go_loopw [8,21] (fun vo kv wz=>∃k:Nat,k≤np∧kv=.int .i64 k∧Hid (OwnL w wz vo (D++pickL (fitK P ver ((r'+1:Nat):Int)) k))) (fun _ kv _=>np-(intOf kv).toNat)
   case atStart=>exact⟨0,Nat.zero_le _,rfl,by show OwnL _ _ _ _;rw[show pickL (fitK P ver ((r'+1:Nat):Int)) 0=[]from rfl,List.append_nil];exact OW.out⟩
   case round =>
    obtain⟨k,hk,rfl,OZ⟩:=hrel;obtain⟨R,hR⟩:∃R:Int,((r'+1:Nat):Int)=R:=⟨_,rfl⟩;rw[hR]at OZ ⊢;have hRb:1≤R∧R≤20:=by omega
    have HRr:=hid hR;clear hR hrp;by_cases hlt:k<np
    ·have hki:(k:Int)<(np:Int):=by omega
     obtain⟨bl,off,rfl,hbl,g0,g1,g2,g3⟩:=(HL.out.up OZ.out.2).at hlt;have G3:=hid g3;obtain⟨ak,ck,hke,_,_⟩:=g3;rw[hke]at g2 G3;have hbA:=below_alloc wr (.cells #[.bool (P.th k),.int .i64 (P.rm k),.slice ak (P.m k) ck] 41);have HAt:=hid (atPeer_any (P.th k) (P.rm k) _ (P.m k) (UV k) (P.t k) ver _ (G3.out.up hbA));have hrk:=HR.out k hlt;have hsc:=pickL_succ (fitK P ver R) k;have hll:=pickL_len (fitK P ver R) k;have hdl:=HDl.out;have OA:=hid (OZ.out.up hbA);have hfit:fitK P ver R k=(P.th k&&(decide (leftK P k=R)&&noneK P ver k)):=rfl;unfold leftK noneK at hfit;obtain⟨fa,hfa⟩:∃x,fstAt (P.t k).V ver (P.m k) 0=x:=⟨_,rfl⟩;rw[hfa]at HAt hfit;obtain⟨rm,hrm⟩:∃x,P.rm k=x:=⟨_,rfl⟩;obtain⟨mk,hmk⟩:∃x,P.m k=x:=⟨_,rfl⟩;obtain⟨thk,hthk⟩:∃x,P.th k=x:=⟨_,rfl⟩;rw[hrm]at g1 HAt hrk hfit OA
     rw[hmk]at g2 HAt hrk hfit OA;rw[hthk]at g0 HAt hfit OA;clear hbA hke hfa hrm hmk hthk G3;unfold peerV at HAt;cases thk with
     |false =>
      rw[Bool.false_and]at hfit;rw[hfit,if_neg (by decide),List.append_nil]at hsc;have HSc:=hid hsc;clear hsc hfit;go_wp2;go_roundw
      case rel=>exact⟨k+1,by omega,by go_num,by rw[HSc.out];exact OA.out⟩
      case measure=>simp only[intOf];omega
     |true =>
      rw[Bool.true_and]at hfit;by_cases hle:rm-(mk:Int)=R
      ·rw[decide_eq_true hle,Bool.true_and]at hfit
       have hlb:(rm-(mk:Int)==R)=true:=by rw[beq_iff_eq];exact hle
       have HLe:=hid hle;clear hle;go_wp2_with fail
       refine Calls.mono HAt.out ?_;rintro e w2 ⟨rfl,hb2⟩;have O2:=hid (OA.out.up hb2);have hge:w.heap.size≤w2.heap.size:=O2.out.2.size;clear hb2 HAt;by_cases hfn:fa<0
       ·rw[decide_eq_true hfn]at hfit
        rw[hfit,if_pos rfl]at hsc;have HSc:=hid hsc;have hlen:(D++pickL (fitK P ver R) k).length≤200:=by rw[List.length_append];omega
        clear hsc hfit;go_wp2_with(at_builtin;go_must(refine wpList_append_own _ rfl (.tmp 44) (.tmp 46) 28 rfl w.heap.size 3 ii (.int .i64 0) 1 8 Tryz.underlying28 hii hzz0 hzz1 hzz2 rfl (by decide) _ _ _ rfl (World.ownsRow.alloc O2.out.1 _) ⟨_,0,none⟩ 1 1 [.int .i64 (k:Int)] rfl rfl (newCell _ _ _) (oneCell _) (by unfold maxLen;omega) (by omega) (by simp;omega) ?_;intro v1 w6 ho6 hg6 _;have O6:=hid (O2.out.push ho6 hg6);clear ho6 hg6))
        go_roundw
        case rel=>exact⟨k+1,by omega,by go_num,by rw[HSc.out,←List.append_assoc];exact O6.out⟩
        case measure=>simp only[intOf];omega
       rw[decide_eq_false hfn]at hfit;rw[hfit,if_neg (by decide),List.append_nil]at hsc;have HSc:=hid hsc;clear hsc hfit;go_wp2;go_roundw
       case rel=>exact⟨k+1,by omega,by go_num,by rw[HSc.out];exact O2.out⟩
       case measure=>simp only[intOf];omega
      rw[decide_eq_false hle,Bool.false_and]at hfit;have hlb:(rm-(mk:Int)==R)=false:=by rw[beq_eq_false_iff_ne];exact hle
      rw[hfit,if_neg (by decide),List.append_nil]at hsc;have HSc:=hid hsc;clear hsc hfit hle;go_wp2;go_roundw
      case rel=>exact⟨k+1,by omega,by go_num,by rw[HSc.out];exact OA.out⟩
      case measure=>simp only[intOf];omega
    have hke:np=k:=by omega
    subst hke;have hll:=pickL_len (fitK P ver R) np;have hdl:=HDl.out;have hR2:R-1=(r':Int):=by have:=HRr.out;omega
    go_wp2;go_roundw
    case rel=>exact⟨r',D++pickL (fitK P ver R) np,by omega,by have:=HRr.out;go_num,OZ,by show _=_;rw[←HO.out,List.append_assoc,←HRr.out];rfl,by show _≤_;rw[List.length_append];omega⟩
    case measure=>simp only[intOf];omega
 ·rw[decide_eq_false h8]at HIn
  have hE:=HEr.out;have hL:=HLo.out;rw[if_neg h8]at hE;subst hE;rw[if_neg (by decide)]at hL;subst hL;go_enter Tryz.func128,Tryz.ntmps128;go_wp2_with fail
  refine Calls.mono HIn.out ?_;rintro e w1 ⟨rfl,hw1⟩;subst w1;go_wp2;go_ret2;exact liPost_nil (Below.refl _ _)
theorem sameK_any(v1 v2 N1 N2:Int)(pv qv:Value)(l m:Nat)(X Y:Nat→Int)(w:World)(h1:IntSl w w.heap.size pv l X)(h2:IntSl w w.heap.size qv m Y):
 Calls Tryz.prog 89 #[keptV v1 N1 pv,keptV v2 N2 qv] w fun e w'=>e=.returned (.bool (decide (v1=v2)&&sameB N1 N2 l m X Y))∧Below w.heap.size w w':=by
 have hb:=((Below.refl w.heap.size w).alloc (Nat.le_refl _) (.cells #[.int .i64 v1,.int .i64 N1,pv] 83)).alloc (by simp) (.cells #[.int .i64 v2,.int .i64 N2,qv] 83)
 have HE:=hid (sameShare_any N1 N2 _ _ l m X Y _ (h1.up hb) (h2.up hb))
 have HB:=hid hb
 obtain⟨a1,c1,rfl,_,_⟩:=h1
 obtain⟨a2,c2,rfl,_,_⟩:=h2
 generalize sameB N1 N2 l m X Y=sb at *
 clear hb
 unfold shareV at HE
 unfold keptV
 by_cases hv:v1=v2
 ·subst hv
  rw[decide_eq_true rfl,Bool.true_and];go_enter Tryz.func89,Tryz.ntmps89;go_wp2_with fail
  refine HE.out.mono ?_;rintro e w3 ⟨rfl,hb3⟩;have HB3:=hid (HB.out.trans (hb3.mono HB.out.size));clear hb3;go_wp2;go_ret;exact⟨rfl,HB3.out⟩
 ·rw[decide_eq_false hv,Bool.false_and]
  have he:(v1==v2)=false:=by simpa using hv
  clear hv HE;go_enter Tryz.func89,Tryz.ntmps89;go_wp2;go_ret;exact⟨rfl,HB.out⟩
theorem equalFunc_kept{w:World}{v1 v2:Value}{n m:Nat}{PV QV:Nat→Value}{t u:Kt}(h1:KeSl w w.heap.size v1 n PV t)(h2:KeSl w w.heap.size v2 m QV u):
 Calls Tryz.prog 65 #[v1,v2,.func (.func 89) #[] #[]] w fun e w'=>e=.returned (.bool (keptB n m t u))∧Below w.heap.size w w':=by
 obtain⟨a1,c1,rfl,⟨hc1,hr1⟩,hx⟩:=h1
 obtain⟨a2,c2,rfl,⟨hc2,hr2⟩,hy⟩:=h2
 obtain⟨ans,hans⟩:∃ans,keptB n m t u=ans:=⟨_,rfl⟩
 rw[hans]
 unfold keptB at hans
 by_cases hnm:n=m
 ·subst hnm
  rw[decide_eq_true rfl,Bool.true_and]at hans;have HA:=hid hans;have HX:=hid hx;have HY:=hid hy;clear hx hy hans;go_enter Tryz.func65,Tryz.ntmps65;go_wp2;go_loopw [17] (fun iv wr=>∃k:Nat,k≤n∧iv=.int .i64 k∧Hid (Below w.heap.size w wr)∧Hid (restK t u (n-k) k=ans)) (fun iv _=>n-(intOf iv).toNat)
  case atStart=>exact⟨0,Nat.zero_le _,rfl,Below.refl _ _,HA⟩
  case round =>
   obtain⟨k,hk,rfl,HB,HS⟩:=hrel;by_cases hlt:k<n
   ·have hki:(k:Int)<(n:Int):=by omega
    rcases HX.out with h0|⟨b1,o1,rfl,hb1,hx⟩;·omega
    rcases HY.out with h0|⟨b2,o2,rfl,hb2,hy⟩;·omega
    have hstep:=HS.out;rw[show n-k=(n-(k+1))+1 by omega]at hstep;simp only[restK]at hstep;have HSt:=hid hstep;obtain⟨x0,x1,x2,x3⟩:=hx k hlt;obtain⟨y0,y1,y2,y3⟩:=hy k hlt;have HI1:Hid (∀w',Below w.heap.size w w'→IntSl w' w'.heap.size (PV k) (t.L k) (t.X k)):=fun w' hb=>x3.up hb;have HI2:Hid (∀w',Below w.heap.size w w'→IntSl w' w'.heap.size (QV k) (u.L k) (u.X k)):=fun w' hb=>y3.up hb;obtain⟨ap,cp,hpe,_,_⟩:=x3;obtain⟨aq,cq,hqe,_,_⟩:=y3;rw[hpe]at x2 HI1;rw[hqe]at y2 HI2;have g0:wr.cell? ⟨b1,o1+k*3,none⟩=some (.int .i64 (t.V k)):=by rw[HB.out.cell hb1];exact x0
    have g1:wr.cell? ⟨b1,o1+k*3+1,none⟩=some (.int .i64 (t.N k)):=by rw[HB.out.cell hb1];exact x1
    have g2:wr.cell? ⟨b1,o1+k*3+2,none⟩=some (.slice ap (t.L k) cp):=by rw[HB.out.cell hb1];exact x2
    have e0:wr.cell? ⟨b2,o2+k*3,none⟩=some (.int .i64 (u.V k)):=by rw[HB.out.cell hb2];exact y0
    have e1:wr.cell? ⟨b2,o2+k*3+1,none⟩=some (.int .i64 (u.N k)):=by rw[HB.out.cell hb2];exact y1
    have e2:wr.cell? ⟨b2,o2+k*3+2,none⟩=some (.slice aq (u.L k) cq):=by rw[HB.out.cell hb2];exact y2
    have l1:b1<wr.heap.size:=cell_lt g0;have l2:b2<wr.heap.size:=cell_lt e0;clear x0 x1 x2 y0 y1 y2 hpe hqe hx hy hstep;go_wp2_with fail
    have hbb:Below w.heap.size w ((wr.alloc (.cells #[.int .i64 (t.V k),.int .i64 (t.N k),.slice ap (t.L k) cp] 83)).alloc (.cells #[.int .i64 (u.V k),.int .i64 (u.N k),.slice aq (u.L k) cq] 83)) :=
     (HB.out.alloc HB.out.size _).alloc (by simp;exact Nat.le_succ_of_le HB.out.size) _
    refine Calls.mono (sameK_any _ _ _ _ _ _ _ _ _ _ _ (HI1.out _ hbb) (HI2.out _ hbb)) ?_;rintro e w2 ⟨rfl,hb3⟩;have HB3:Hid (Below w.heap.size w w2):=hbb.trans (hb3.mono hbb.size);clear hb3 hbb;have hvb:(decide (t.V k=u.V k)&&sameB (t.N k) (u.N k) (t.L k) (u.L k) (t.X k) (u.X k))=verK t u k:=rfl;rw[hvb];clear hvb;cases hs:verK t u k with
    |true =>
     have hn:=HSt.out;rw[hs,Bool.true_and]at hn;have HNx:=hid hn;clear hn;go_wp2;go_roundw
     case rel=>exact⟨k+1,by omega,by go_num,HB3,HNx⟩
     case measure=>simp only[intOf];omega
    |false =>
     have hn:=HSt.out;rw[hs,Bool.false_and]at hn;have HNx:=hid hn;clear hn;go_wp2;go_ret;exact⟨by rw[←HNx.out];rfl,HB3.out⟩
   have hke:n=k:=by omega
   subst hke;have hst:=HS.out;rw[Nat.sub_self]at hst;have HFin:Hid (true=ans):=hst;clear hst;go_wp2;go_ret;exact⟨by rw[←HFin.out];rfl,HB.out⟩
 ·rw[decide_eq_false hnm,Bool.false_and]at hans
  have HA:=hid hans;have hni:¬(n:Int)=(m:Int):=by omega
  clear hans;go_enter Tryz.func65,Tryz.ntmps65;go_wp2;go_ret;exact⟨by rw[←HA.out];rfl,Below.refl _ _⟩
theorem samePeer_any(a1 a2:Bool)(r1 r2:Int){w:World}{v1 v2:Value}{n m:Nat}{PV QV:Nat→Value}{t u:Kt}(h1:KeSl w w.heap.size v1 n PV t)(h2:KeSl w w.heap.size v2 m QV u):
 Calls Tryz.prog 50 #[peerV a1 r1 v1,peerV a2 r2 v2] w fun e w'=>e=.returned (.bool (peerB a1 a2 r1 r2 n m t u))∧Below w.heap.size w w':=by
 have hb:=((Below.refl w.heap.size w).alloc (Nat.le_refl _) (.cells #[.bool a1,.int .i64 r1,v1] 41)).alloc (by simp) (.cells #[.bool a2,.int .i64 r2,v2] 41)
 have HE:=hid (equalFunc_kept (h1.up hb) (h2.up hb))
 have HB:=hid hb
 obtain⟨ad1,c1,rfl,_,_⟩:=h1
 obtain⟨ad2,c2,rfl,_,_⟩:=h2
 unfold peerB
 generalize keptB n m t u=kb at *
 clear hb
 unfold peerV
 cases ha:(a1==a2)with
 |false =>
  rw[Bool.false_and];clear HE;go_enter Tryz.func50,Tryz.ntmps50;go_wp2;go_ret;exact⟨rfl,HB.out⟩
 |true =>
  rw[Bool.true_and];by_cases hr:r1=r2
  ·subst hr
   rw[decide_eq_true rfl,Bool.true_and];go_enter Tryz.func50,Tryz.ntmps50;go_wp2_with fail
   refine HE.out.mono ?_;rintro e w3 ⟨rfl,hb3⟩;have HB3:=hid (HB.out.trans (hb3.mono HB.out.size));clear hb3;go_wp2;go_ret;exact⟨rfl,HB3.out⟩
  rw[decide_eq_false hr,Bool.false_and];have he:(r1==r2)=false:=by simpa using hr
  clear hr HE;go_enter Tryz.func50,Tryz.ntmps50;go_wp2;go_ret;exact⟨rfl,HB.out⟩
theorem peSameK(v1 v2 N1 N2:Int)(pv qv:Value)(l m:Nat)(X Y:Nat→Int)(w:World)(h1:IntSl w w.heap.size pv l X)(h2:IntSl w w.heap.size qv m Y):
 Calls Tryz.prog 66 #[keptV v1 N1 pv,keptV v2 N2 qv] w fun e w'=>e=.returned (.bool (decide (v1=v2)&&sameB N1 N2 l m X Y))∧Below w.heap.size w w':=by
 have hb:=((Below.refl w.heap.size w).alloc (Nat.le_refl _) (.cells #[.int .i64 v1,.int .i64 N1,pv] 83)).alloc (by simp) (.cells #[.int .i64 v2,.int .i64 N2,qv] 83)
 have HE:=hid (shSame N1 N2 _ _ l m X Y _ (h1.up hb) (h2.up hb))
 have HB:=hid hb
 obtain⟨a1,c1,rfl,_,_⟩:=h1
 obtain⟨a2,c2,rfl,_,_⟩:=h2
 generalize sameB N1 N2 l m X Y=sb at *
 clear hb
 unfold shareV at HE
 unfold keptV
 by_cases hv:v1=v2
 ·subst hv
  rw[decide_eq_true rfl,Bool.true_and];go_enter Tryz.func66,Tryz.ntmps66;go_wp2_with fail
  refine HE.out.mono ?_;rintro e w3 ⟨rfl,hb3⟩;have HB3:=hid (HB.out.trans (hb3.mono HB.out.size));clear hb3;go_wp2;go_ret;exact⟨rfl,HB3.out⟩
 ·rw[decide_eq_false hv,Bool.false_and]
  have he:(v1==v2)=false:=by simpa using hv
  clear hv HE;go_enter Tryz.func66,Tryz.ntmps66;go_wp2;go_ret;exact⟨rfl,HB.out⟩
theorem peEqualFunc{w:World}{v1 v2:Value}{n m:Nat}{PV QV:Nat→Value}{t u:Kt}(h1:KeSl w w.heap.size v1 n PV t)(h2:KeSl w w.heap.size v2 m QV u):
 Calls Tryz.prog 65 #[v1,v2,.func (.func 66) #[] #[]] w fun e w'=>e=.returned (.bool (keptB n m t u))∧Below w.heap.size w w':=by
 obtain⟨a1,c1,rfl,⟨hc1,hr1⟩,hx⟩:=h1
 obtain⟨a2,c2,rfl,⟨hc2,hr2⟩,hy⟩:=h2
 obtain⟨ans,hans⟩:∃ans,keptB n m t u=ans:=⟨_,rfl⟩
 rw[hans]
 unfold keptB at hans
 by_cases hnm:n=m
 ·subst hnm
  rw[decide_eq_true rfl,Bool.true_and]at hans;have HA:=hid hans;have HX:=hid hx;have HY:=hid hy;clear hx hy hans;go_enter Tryz.func65,Tryz.ntmps65;go_wp2;go_loopw [17] (fun iv wr=>∃k:Nat,k≤n∧iv=.int .i64 k∧Hid (Below w.heap.size w wr)∧Hid (restK t u (n-k) k=ans)) (fun iv _=>n-(intOf iv).toNat)
  case atStart=>exact⟨0,Nat.zero_le _,rfl,Below.refl _ _,HA⟩
  case round =>
   obtain⟨k,hk,rfl,HB,HS⟩:=hrel;by_cases hlt:k<n
   ·have hki:(k:Int)<(n:Int):=by omega
    rcases HX.out with h0|⟨b1,o1,rfl,hb1,hx⟩;·omega
    rcases HY.out with h0|⟨b2,o2,rfl,hb2,hy⟩;·omega
    have hstep:=HS.out;rw[show n-k=(n-(k+1))+1 by omega]at hstep;simp only[restK]at hstep;have HSt:=hid hstep;obtain⟨x0,x1,x2,x3⟩:=hx k hlt;obtain⟨y0,y1,y2,y3⟩:=hy k hlt;have HI1:Hid (∀w',Below w.heap.size w w'→IntSl w' w'.heap.size (PV k) (t.L k) (t.X k)):=fun w' hb=>x3.up hb;have HI2:Hid (∀w',Below w.heap.size w w'→IntSl w' w'.heap.size (QV k) (u.L k) (u.X k)):=fun w' hb=>y3.up hb;obtain⟨ap,cp,hpe,_,_⟩:=x3;obtain⟨aq,cq,hqe,_,_⟩:=y3;rw[hpe]at x2 HI1;rw[hqe]at y2 HI2;have g0:wr.cell? ⟨b1,o1+k*3,none⟩=some (.int .i64 (t.V k)):=by rw[HB.out.cell hb1];exact x0
    have g1:wr.cell? ⟨b1,o1+k*3+1,none⟩=some (.int .i64 (t.N k)):=by rw[HB.out.cell hb1];exact x1
    have g2:wr.cell? ⟨b1,o1+k*3+2,none⟩=some (.slice ap (t.L k) cp):=by rw[HB.out.cell hb1];exact x2
    have e0:wr.cell? ⟨b2,o2+k*3,none⟩=some (.int .i64 (u.V k)):=by rw[HB.out.cell hb2];exact y0
    have e1:wr.cell? ⟨b2,o2+k*3+1,none⟩=some (.int .i64 (u.N k)):=by rw[HB.out.cell hb2];exact y1
    have e2:wr.cell? ⟨b2,o2+k*3+2,none⟩=some (.slice aq (u.L k) cq):=by rw[HB.out.cell hb2];exact y2
    have l1:b1<wr.heap.size:=cell_lt g0;have l2:b2<wr.heap.size:=cell_lt e0;clear x0 x1 x2 y0 y1 y2 hpe hqe hx hy hstep;go_wp2_with fail
    have hbb:Below w.heap.size w ((wr.alloc (.cells #[.int .i64 (t.V k),.int .i64 (t.N k),.slice ap (t.L k) cp] 83)).alloc (.cells #[.int .i64 (u.V k),.int .i64 (u.N k),.slice aq (u.L k) cq] 83)) :=
     (HB.out.alloc HB.out.size _).alloc (by simp;exact Nat.le_succ_of_le HB.out.size) _
    refine Calls.mono (peSameK _ _ _ _ _ _ _ _ _ _ _ (HI1.out _ hbb) (HI2.out _ hbb)) ?_;rintro e w2 ⟨rfl,hb3⟩;have HB3:Hid (Below w.heap.size w w2):=hbb.trans (hb3.mono hbb.size);clear hb3 hbb;have hvb:(decide (t.V k=u.V k)&&sameB (t.N k) (u.N k) (t.L k) (u.L k) (t.X k) (u.X k))=verK t u k:=rfl;rw[hvb];clear hvb;cases hs:verK t u k with
    |true =>
     have hn:=HSt.out;rw[hs,Bool.true_and]at hn;have HNx:=hid hn;clear hn;go_wp2;go_roundw
     case rel=>exact⟨k+1,by omega,by go_num,HB3,HNx⟩
     case measure=>simp only[intOf];omega
    |false =>
     have hn:=HSt.out;rw[hs,Bool.false_and]at hn;have HNx:=hid hn;clear hn;go_wp2;go_ret;exact⟨by rw[←HNx.out];rfl,HB3.out⟩
   have hke:n=k:=by omega
   subst hke;have hst:=HS.out;rw[Nat.sub_self]at hst;have HFin:Hid (true=ans):=hst;clear hst;go_wp2;go_ret;exact⟨by rw[←HFin.out];rfl,HB.out⟩
 ·rw[decide_eq_false hnm,Bool.false_and]at hans
  have HA:=hid hans;have hni:¬(n:Int)=(m:Int):=by omega
  clear hans;go_enter Tryz.func65,Tryz.ntmps65;go_wp2;go_ret;exact⟨by rw[←HA.out];rfl,Below.refl _ _⟩
theorem peSame(a1 a2:Bool)(r1 r2:Int){w:World}{v1 v2:Value}{n m:Nat}{PV QV:Nat→Value}{t u:Kt}(h1:KeSl w w.heap.size v1 n PV t)(h2:KeSl w w.heap.size v2 m QV u):
 Calls Tryz.prog 19 #[peerV a1 r1 v1,peerV a2 r2 v2] w fun e w'=>e=.returned (.bool (peerB a1 a2 r1 r2 n m t u))∧Below w.heap.size w w':=by
 have hb:=((Below.refl w.heap.size w).alloc (Nat.le_refl _) (.cells #[.bool a1,.int .i64 r1,v1] 41)).alloc (by simp) (.cells #[.bool a2,.int .i64 r2,v2] 41)
 have HE:=hid (peEqualFunc (h1.up hb) (h2.up hb))
 have HB:=hid hb
 obtain⟨ad1,c1,rfl,_,_⟩:=h1
 obtain⟨ad2,c2,rfl,_,_⟩:=h2
 unfold peerB
 generalize keptB n m t u=kb at *
 clear hb
 unfold peerV
 cases ha:(a1==a2)with
 |false =>
  rw[Bool.false_and];clear HE;go_enter Tryz.func19,Tryz.ntmps19;go_wp2;go_ret;exact⟨rfl,HB.out⟩
 |true =>
  rw[Bool.true_and];by_cases hr:r1=r2
  ·subst hr
   rw[decide_eq_true rfl,Bool.true_and];go_enter Tryz.func19,Tryz.ntmps19;go_wp2_with fail
   refine HE.out.mono ?_;rintro e w3 ⟨rfl,hb3⟩;have HB3:=hid (HB.out.trans (hb3.mono HB.out.size));clear hb3;go_wp2;go_ret;exact⟨rfl,HB3.out⟩
  rw[decide_eq_false hr,Bool.false_and];have he:(r1==r2)=false:=by simpa using hr
  clear hr HE;go_enter Tryz.func19,Tryz.ntmps19;go_wp2;go_ret;exact⟨rfl,HB.out⟩
end Go.Proofs.YtajmnlhfnhbleaaGreat
