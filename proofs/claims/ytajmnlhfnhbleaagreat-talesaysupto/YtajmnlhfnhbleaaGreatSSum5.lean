/- Several texts of one proof, in their order. -/
import Derived.Test.YtajmnlhfnhbleaaGreatSSum4
namespace Go.Proofs.YtajmnlhfnhbleaaGreat
open Go.RowKit Go.Shelf
set_option linter.unusedVariables false
set_option maxHeartbeats 4000000
set_option maxRecDepth 10000
def meshV(vb vl:Value):Value:=.agg #[vb,vl]
def prB(P Q:Ps)(k:Nat):Bool:=peerB (P.th k) (Q.th k) (P.rm k) (Q.rm k) (P.m k) (Q.m k) (P.t k) (Q.t k)
def restP(P Q:Ps):Nat→Nat→Bool
 |0,_=>true
 |f+1,k=>prB P Q k&&restP P Q f (k+1)
def peersB(n m:Nat)(P Q:Ps):Bool:=decide (n=m)&&restP P Q n 0
def isTh(P:Ps)(ver:Int)(k i:Nat):Bool:=P.th k&&decide ((P.t k).V i=ver)
def seenN(P:Ps)(l:List (Nat×Nat))(N:Int):Bool:=l.any fun x=>decide ((P.t x.1).N x.2=N)
def thStep(P:Ps)(ver:Int)(k:Nat)(l:List (Nat×Nat))(i:Nat):List (Nat×Nat):=if isTh P ver k i && !seenN P l ((P.t k).N i)then l++[(k,i)]else l
def thRow(P:Ps)(ver:Int)(k:Nat)(l:List (Nat×Nat))(f:Nat):List (Nat×Nat):=(List.range f).foldl (thStep P ver k) l
def thAll(P:Ps)(ver:Int)(f:Nat):List (Nat×Nat):=(List.range f).foldl (fun l k=>thRow P ver k l (P.m k)) []
def thereL(P:Ps)(ver:Int)(np:Nat):List (Nat×Nat):=thAll P ver np
theorem thRow_zero(P:Ps)(ver:Int)(k:Nat)(l:List (Nat×Nat)):thRow P ver k l 0=l:=rfl
theorem thRow_succ(P:Ps)(ver:Int)(k:Nat)(l:List (Nat×Nat))(f:Nat):thRow P ver k l (f+1)=thStep P ver k (thRow P ver k l f) f:=by
 unfold thRow;rw[List.range_succ,List.foldl_append];rfl
theorem thAll_zero(P:Ps)(ver:Int):thAll P ver 0=[]:=rfl
theorem thAll_succ(P:Ps)(ver:Int)(f:Nat):thAll P ver (f+1)=thRow P ver f (thAll P ver f) (P.m f):=by
 unfold thAll;rw[List.range_succ,List.foldl_append];rfl
structure ThOk(P:Ps)(ver:Int)(np:Nat)(l:List (Nat×Nat)):Prop where
 at_:∀x,x∈l→x.1<np∧x.2<P.m x.1∧P.th x.1=true∧(P.t x.1).V x.2=ver
 once:List.Pairwise (fun x y=>(P.t x.1).N x.2≠(P.t y.1).N y.2) l
theorem seenN_iff{P:Ps}{l:List (Nat×Nat)}{N:Int}:seenN P l N=true↔∃x,x∈l∧(P.t x.1).N x.2=N:=by
 unfold seenN;rw[List.any_eq_true];constructor;·rintro⟨x,h1,h2⟩;exact⟨x,h1,of_decide_eq_true h2⟩
 rintro⟨x,h1,h2⟩;exact⟨x,h1,decide_eq_true h2⟩
theorem ThOk.step{P:Ps}{ver:Int}{np k i:Nat}{l:List (Nat×Nat)}(h:ThOk P ver np l)(hk:k<np)(hi:i<P.m k):ThOk P ver np (thStep P ver k l i):=by
 unfold thStep;by_cases c:(isTh P ver k i && !seenN P l ((P.t k).N i))=true
 ·rw[if_pos c]
  rw[Bool.and_eq_true]at c;obtain⟨c1,c2⟩:=c;unfold isTh at c1;rw[Bool.and_eq_true,decide_eq_true_iff]at c1;refine⟨fun x hx=>?_,?_⟩
  ·rcases List.mem_append.1 hx with h1|h1
   ·exact h.at_ x h1
   obtain rfl:x=(k,i):=by simpa using h1
   exact⟨hk,hi,c1.1,c1.2⟩
  rw[List.pairwise_append];refine⟨h.once,List.pairwise_singleton _ _,fun x hx y hy e=>?_⟩;obtain rfl:y=(k,i):=by simpa using hy
  rw[seenN_iff.2 ⟨x,hx,e⟩]at c2;cases c2
 rw[if_neg c];exact h
theorem ThOk.row{P:Ps}{ver:Int}{np k:Nat}{l:List (Nat×Nat)}(h:ThOk P ver np l)(hk:k<np):∀f,f≤P.m k→ThOk P ver np (thRow P ver k l f):=by
 intro f;induction f with
 |zero=>intro _;exact h
 |succ f ih=>intro hf;rw[thRow_succ];exact(ih (by omega)).step hk (by omega)
theorem thAll_ok(P:Ps)(ver:Int)(np:Nat):∀f,f≤np→ThOk P ver np (thAll P ver f):=by
 intro f;induction f with
 |zero=>intro _;exact⟨fun x hx=>(by cases hx),List.Pairwise.nil⟩
 |succ f ih=>intro hf;rw[thAll_succ];exact(ih (by omega)).row (by omega) _ (Nat.le_refl _)
theorem nodup_few:∀(m:Nat) (l:List Nat),l.Nodup→(∀x,x∈l→x<m)→l.length≤m:=by
 intro m;induction m with
 |zero =>
  intro l _ h;cases l with
  |nil=>exact Nat.le_refl _
  |cons a l=>exact absurd (h a (by simp)) (Nat.not_lt_zero _)
 |succ m ih =>
  intro l hn h;have h1:=ih (l.erase m) (hn.erase m) (fun x hx=>by
   have h2:=(hn.mem_erase_iff).1 hx;have h3:=h x h2.2;have:=h2.1;omega)
  have h4:l.length≤(l.erase m).length+1:=by
   by_cases c:m∈l;·rw[List.length_erase_of_mem c];omega
   rw[List.erase_of_not_mem c];omega
  omega
theorem once_len{l:List (Nat×Nat)}{f:Nat×Nat→Int}(h:List.Pairwise (fun x y=>f x≠f y) l){m:Nat}(hb:∀x,x∈l→0≤f x∧f x<(m:Int)):l.length≤m:=by
 have h1:(l.map fun x=>(f x).toNat).Nodup:=by
  rw[List.Nodup,List.pairwise_map];refine h.imp_of_mem fun {x y} hx hy hxy e=>hxy ?_;have:=hb x hx;have:=hb y hy;omega
 have h2:=nodup_few m _ h1 (fun z hz=>by
  obtain⟨x,hx,rfl⟩:=List.mem_map.1 hz;have:=hb x hx;omega)
 simpa using h2
theorem checkPeers_any(vb:Value)(n:Nat)(PV:Nat→Value)(b:Bk)(vl:Value)(np:Nat)(KV:Nat→Value)(UV:Nat→Nat→Value)(P:Ps)(w:World)(hv:VeSl w w.heap.size vb n PV b)(hl:PsSl w w.heap.size vl np KV UV P):
 Calls Tryz.prog 46 #[bookV vb,vl] w fun e w'=>e=.returned (.int .i64 (peersE n b np P))∧Below w.heap.size w w':=by
 have HV:=hid hv
 have HL:=hid hl
 obtain⟨ad,cap,rfl,_,_⟩:=hv
 obtain⟨al,cl,rfl,⟨hcl,hbig⟩,_⟩:=hl
 have hbx:=below_alloc w (.cells #[.slice ad n cap] 24)
 have HCk:=hid (checkBook_any _ n PV b _ (HV.out.up hbx))
 have k0:=heap_alloc_new w (.cells #[.slice ad n cap] 24)
 have c0:(w.alloc (.cells #[.slice ad n cap] 24)).cell? ⟨w.heap.size,0,none⟩=some (.slice ad n cap):=cell_at k0 rfl
 have HK0:=hid k0
 have HBx:=hid hbx
 obtain⟨ans,hans⟩:∃c,peersE n b np P=c:=⟨_,rfl⟩
 rw[hans]
 unfold peersE at hans
 obtain⟨c,hcc⟩:∃c,bookE n b=c:=⟨_,rfl⟩
 rw[hcc]at HCk hans
 have HA:=hid hans
 clear hbx hans hcc k0
 unfold bookV at HCk
 unfold bookV
 go_enter Tryz.func46,Tryz.ntmps46
 go_wp2_with fail
 refine Calls.mono HCk.out ?_
 rintro e W ⟨rfl,hbW⟩
 have HBW:=hid (HBx.out.trans (hbW.mono HBx.out.size))
 have HKW:=hid (stayB HK0.out hbW)
 clear hbW HCk c0
 by_cases hc0:c=0
 ·subst hc0
  have ha:=HA.out;rw[if_pos rfl]at ha;by_cases h8:np≤8
  ·rw[if_pos h8]at ha
   have HS0:=hid ha;clear ha HA;have h8i:¬(8:Int)<(np:Int):=by omega
   go_wp2;go_loopw [19] (fun iv wr=>∃k:Nat,k≤np∧iv=.int .i64 k∧Hid (Below W.heap.size W wr)∧Hid (scanP n b P (np-k) k=ans)) (fun iv _=>np-(intOf iv).toNat)
   case atStart=>exact⟨0,Nat.zero_le _,rfl,Below.refl _ _,HS0⟩
   case round =>
    obtain⟨k,hk,rfl,HB,HS⟩:=hrel;by_cases hlt:k<np
    ·have hki:(k:Int)<(np:Int):=by omega
     have HBr:=hid (HBW.out.trans (HB.out.mono HBW.out.size));obtain⟨bl,off,rfl,hbl,g0,g1,g2,g3⟩:=(HL.out.up HBr.out).at hlt;have G3:=hid g3;obtain⟨ak,ck,hke,_,_⟩:=g3;rw[hke]at g2 G3;have hbA:=below_alloc wr (.cells #[.bool (P.th k),.int .i64 (P.rm k),.slice ak (P.m k) ck] 41);have hstep:=HS.out;rw[show np-k=(np-(k+1))+1 by omega]at hstep;simp only[scanP]at hstep;have HCp:=hid (checkPeer_any _ n PV b (P.th k) (P.rm k) _ (P.m k) (UV k) (P.t k) _ ((HV.out.up HBr.out).up hbA) (G3.out.up hbA));have cb:wr.cell? ⟨w.heap.size,0,none⟩=some (.slice ad n cap):=cell_at (stayB HKW.out HB.out) rfl;have cb2:(wr.alloc (.cells #[.bool (P.th k),.int .i64 (P.rm k),.slice ak (P.m k) ck] 41)).cell? ⟨w.heap.size,0,none⟩=some (.slice ad n cap):=by rw[hbA.cell (cell_lt cb)];exact cb
     have HBA:=hid (HB.out.trans (hbA.mono HB.out.size));obtain⟨ep,hep⟩:∃x,peerE n b (P.rm k) (P.m k) (P.t k)=x:=⟨_,rfl⟩;rw[hep]at HCp hstep;have HSt:=hid hstep;clear hep hstep hbA hke;unfold bookV peerV at HCp;go_wp2_with fail
     refine Calls.mono HCp.out ?_;rintro e w2 ⟨rfl,hb2⟩;have HB2:=hid (HBA.out.trans (hb2.mono HBA.out.size));clear hb2 HCp cb cb2 g0 g1 g2;by_cases he:ep=0
     ·have hst:=HSt.out
      rw[if_pos he]at hst;have HNx:=hid hst;have heb:(ep != 0)=false:=by rw[bne_eq_false_iff_eq];exact he
      clear hst he;go_wp2;go_roundw
      case rel=>exact⟨k+1,by omega,by go_num,HB2,HNx⟩
      case measure=>simp only[intOf];omega
     have hst:=HSt.out;rw[if_neg he]at hst;have heb:(ep != 0)=true:=by simpa using he
     have HFn:=hid hst;clear hst he;go_wp2;go_ret;exact⟨by rw[HFn.out];rfl,HBW.out.trans (HB2.out.mono HBW.out.size)⟩
    have hke:np=k:=by omega
    subst hke;have hst:=HS.out;rw[Nat.sub_self]at hst;have HFin:Hid ((0:Int)=ans):=hst;clear hst;go_wp2;go_ret;exact⟨by rw[←HFin.out];rfl,HBW.out.trans (HB.out.mono HBW.out.size)⟩
  rw[if_neg h8]at ha;subst ha;have h8i:(8:Int)<(np:Int):=by omega
  clear HA;go_wp2;go_ret;exact⟨rfl,HBW.out⟩
 ·have hcb:(c != 0)=true:=by simpa using hc0
  have ha:=HA.out;rw[if_neg hc0]at ha;subst ha;clear hc0 HA;go_wp2;go_ret;exact⟨rfl,HBW.out⟩
theorem isl_take{w:World}{B:Nat}{a:Option Addr}{c q:Nat}{l:List Int}(h:IntSl w B (.slice a l.length c) l.length (fun j=>l.getD j 0))(hq:q≤l.length):IntSl w B (.slice a q c) (l.take q).length (fun j=>(l.take q).getD j 0):=by
 obtain⟨ad,cap,he,⟨h0,h1⟩,h2⟩:=h;injection he with e1 _ e3;subst e1 e3;have hl:(l.take q).length=q:=by rw[List.length_take];omega
 rw[hl];refine⟨a,c,rfl,⟨by omega,by omega⟩,?_⟩;by_cases hq0:q=0;·exact Or.inl hq0
 rcases h2 with h2|⟨b,off,rfl,h4,h5⟩;·omega
 refine Or.inr ⟨b,off,rfl,h4,fun j hj=>?_⟩;rw[h5 j (by omega)];congr 2;simp[List.getD_eq_getElem?_getD,hj]
theorem placesFor_any(vl:Value)(np:Nat)(KV:Nat→Value)(UV:Nat→Nat→Value)(P:Ps)(ver many:Int)(w:World)(hn:np≤8)(hr:∀k,k<np→(0≤P.rm k∧P.rm k≤20)∧(P.m k:Int)≤P.rm k)(hl:PsSl w w.heap.size vl np KV UV P):
 Calls Tryz.prog 128 #[vl,.int .i64 ver,.int .i64 many] w (LiPost w (forL P ver np many) (manyE P ver np many)):=by
 have HL:=hid hl
 have HR:=hid hr
 obtain⟨al,cl,rfl,⟨hcl,hbig⟩,_⟩:=hl
 obtain⟨ii,hii,hzz0,hzz1,hzz2⟩:=info_parts Tryz.infoInt
 obtain⟨er,her⟩:∃c,manyE P ver np many=c:=⟨_,rfl⟩
 obtain⟨lo,hlo⟩:∃c,forL P ver np many=c:=⟨_,rfl⟩
 rw[her,hlo]
 unfold forL at hlo
 rw[her]at hlo
 unfold manyE at her
 have HEr:=hid her
 have HLo:=hid hlo
 have HIn:=hid (in_any many 0 8 w)
 clear hr her hlo
 by_cases h8:0≤many∧many≤8
 ·rw[decide_eq_true h8]at HIn
  obtain⟨q,rfl⟩:∃q:Nat,many=q:=⟨many.toNat,by omega⟩;go_enter Tryz.func128,Tryz.ntmps128;go_wp2_with fail
  refine Calls.mono HIn.out ?_;rintro e w1 ⟨rfl,hw1⟩;subst w1;go_wp2;go_loopw [8,9] (fun vo lv wr=>∃(r:Nat) (D:List Int),r≤20∧lv=.int .i64 r∧Hid (OwnL w wr vo D)∧Hid (D++lefts P ver np r=orderL P ver np)∧Hid (D.length≤(20-r)*8)) (fun _ lv _=>(intOf lv).toNat)
  case atStart=>exact⟨20,[],Nat.le_refl _,rfl,OwnL.nil _,rfl,Nat.zero_le _⟩
  case round =>
   obtain⟨r,D,hr20,rfl,OW,HO,HDl⟩:=hrel;by_cases hr0:r=0
   ·subst hr0
    have hD:D=orderL P ver np:=by have h:=HO.out;simpa[lefts]using h
    have hdl:=HDl.out;have hs:=OW.out.isl (by omega);have HS:=hid hs;obtain⟨ao,co,rfl,⟨hco,_⟩,_⟩:=hs;have hE:=HEr.out;have hL:=HLo.out;rw[if_pos h8,←hD]at hE;rw[←hD]at hL;clear hD HO;by_cases hsh:D.length<q
    ·rw[if_pos (by omega)]at hE
     subst hE;rw[if_neg (by decide)]at hL;subst hL;have hsi:(D.length:Int)<(q:Int):=by omega
     go_wp2;go_ret2;exact liPost_nil OW.out.2
    rw[if_neg (by omega)]at hE;subst hE;rw[if_pos rfl,Int.toNat_natCast]at hL;have HLl:=hid hL;have hsi:¬(D.length:Int)<(q:Int):=by omega
    have hqc:(q:Int)≤(co:Int):=by omega
    clear hL;go_wp2;go_ret2;exact⟨OW.out.2,_,rfl,by rw[←HLl.out];exact isl_take HS.out (by omega)⟩
   obtain⟨r',rfl⟩:∃r',r=r'+1:=⟨r-1,by omega⟩;have hrp:(0:Int)<((r'+1:Nat):Int):=by omega
   go_wp2;obtain⟨vo,hvo⟩:∃vo,u8=vo:=⟨_,rfl⟩;subst hvo;obtain⟨w0,hw0⟩:∃w0,wr=w0:=⟨_,rfl⟩;subst hw0;go_loopw [8,21] (fun vo kv wz=>∃k:Nat,k≤np∧kv=.int .i64 k∧Hid (OwnL w wz vo (D++pickL (fitK P ver ((r'+1:Nat):Int)) k))) (fun _ kv _=>np-(intOf kv).toNat)
   case atStart=>exact⟨0,Nat.zero_le _,rfl,by show OwnL _ _ _ _;rw[show pickL (fitK P ver ((r'+1:Nat):Int)) 0=[]from rfl,List.append_nil];exact OW.out⟩
   case round =>
    obtain⟨k,hk,rfl,OZ⟩:=hrel;obtain⟨R,hR⟩:∃R:Int,((r'+1:Nat):Int)=R:=⟨_,rfl⟩;rw[hR]at OZ ⊢;have hRb:1≤R∧R≤20:=by omega
    have HRr:=hid hR;clear hR hrp;by_cases hlt:k<np
    ·have hki:(k:Int)<(np:Int):=by omega
     obtain⟨bl,off,rfl,hbl,g0,g1,g2,g3⟩:=(HL.out.up OZ.out.2).at hlt;have G3:=hid g3;obtain⟨ak,ck,hke,_,_⟩:=g3;rw[hke]at g2 G3;have hbA:=below_alloc wr (.cells #[.bool (P.th k),.int .i64 (P.rm k),.slice ak (P.m k) ck] 41);have HAt:=hid (atPeer_any (P.th k) (P.rm k) _ (P.m k) (UV k) (P.t k) ver _ (G3.out.up hbA));have hrk:=HR.out k hlt;have hsc:=pickL_succ (fitK P ver R) k;have hll:=pickL_len (fitK P ver R) k;have hdl:=HDl.out;have OA:=hid (OZ.out.up hbA);have hfit:fitK P ver R k=(P.th k&&(decide (leftK P k=R)&&noneK P ver k)):=rfl;unfold leftK noneK at hfit;obtain⟨fa,hfa⟩:∃x,fstAt (P.t k).V ver (P.m k) 0=x:=⟨_,rfl⟩;rw[hfa]at HAt hfit;obtain⟨rm,hrm⟩:∃x,P.rm k=x:=⟨_,rfl⟩;obtain⟨mk,hmk⟩:∃x,P.m k=x:=⟨_,rfl⟩;obtain⟨thk,hthk⟩:∃x,P.th k=x:=⟨_,rfl⟩;rw[hrm]at g1 HAt hrk hfit OA
     rw[hmk]at g2 HAt hrk hfit OA;rw[hthk]at g0 HAt hfit OA;clear hbA hke hfa hrm hmk hthk G3;unfold peerV at HAt;cases thk with
     |false =>
      rw[Bool.false_and]at hfit;rw[hfit,if_neg (by decide),List.append_nil]at hsc;have HSc:=hid hsc;clear hsc hfit;go_wp2;go_roundw
      case rel=>exact⟨k+1,by omega,by go_num,by rw[HSc.out];exact OA.out⟩
      case measure=>simp only[intOf];omega
     |true =>
      rw[Bool.true_and]at hfit;by_cases hle:rm-(mk:Int)=R
      ·rw[decide_eq_true hle,Bool.true_and]at hfit
       have hlb:(rm-(mk:Int)==R)=true:=by rw[beq_iff_eq];exact hle
       have HLe:=hid hle;clear hle;go_wp2_with fail
       refine Calls.mono HAt.out ?_;rintro e w2 ⟨rfl,hb2⟩;have O2:=hid (OA.out.up hb2);have hge:w.heap.size≤w2.heap.size:=O2.out.2.size;clear hb2 HAt;by_cases hfn:fa<0
       ·rw[decide_eq_true hfn]at hfit
        rw[hfit,if_pos rfl]at hsc;have HSc:=hid hsc;have hlen:(D++pickL (fitK P ver R) k).length≤200:=by rw[List.length_append];omega
        clear hsc hfit;go_wp2_with(at_builtin;go_must(refine wpList_append_own _ rfl (.tmp 44) (.tmp 46) 28 rfl w.heap.size 3 ii (.int .i64 0) 1 8 Tryz.underlying28 hii hzz0 hzz1 hzz2 rfl (by decide) _ _ _ rfl (World.ownsRow.alloc O2.out.1 _) ⟨_,0,none⟩ 1 1 [.int .i64 (k:Int)] rfl rfl (newCell _ _ _) (oneCell _) (by unfold maxLen;omega) (by omega) (by simp;omega) ?_;intro v1 w6 ho6 hg6 _;have O6:=hid (O2.out.push ho6 hg6);clear ho6 hg6))
        go_roundw
        case rel=>exact⟨k+1,by omega,by go_num,by rw[HSc.out,←List.append_assoc];exact O6.out⟩
        case measure=>simp only[intOf];omega
       rw[decide_eq_false hfn]at hfit;rw[hfit,if_neg (by decide),List.append_nil]at hsc;have HSc:=hid hsc;clear hsc hfit;go_wp2;go_roundw
       case rel=>exact⟨k+1,by omega,by go_num,by rw[HSc.out];exact O2.out⟩
       case measure=>simp only[intOf];omega
      rw[decide_eq_false hle,Bool.false_and]at hfit;have hlb:(rm-(mk:Int)==R)=false:=by rw[beq_eq_false_iff_ne];exact hle
      rw[hfit,if_neg (by decide),List.append_nil]at hsc;have HSc:=hid hsc;clear hsc hfit hle;go_wp2;go_roundw
      case rel=>exact⟨k+1,by omega,by go_num,by rw[HSc.out];exact OA.out⟩
      case measure=>simp only[intOf];omega
    have hke:np=k:=by omega
    subst hke;have hll:=pickL_len (fitK P ver R) np;have hdl:=HDl.out;have hR2:R-1=(r':Int):=by have:=HRr.out;omega
    go_wp2;go_roundw
    case rel=>exact⟨r',D++pickL (fitK P ver R) np,by omega,by have:=HRr.out;go_num,OZ,by show _=_;rw[←HO.out,List.append_assoc,←HRr.out];rfl,by show _≤_;rw[List.length_append];omega⟩
    case measure=>simp only[intOf];omega
 ·rw[decide_eq_false h8]at HIn
  have hE:=HEr.out;have hL:=HLo.out;rw[if_neg h8]at hE;subst hE;rw[if_neg (by decide)]at hL;subst hL;go_enter Tryz.func128,Tryz.ntmps128;go_wp2_with fail
  refine Calls.mono HIn.out ?_;rintro e w1 ⟨rfl,hw1⟩;subst w1;go_wp2;go_ret2;exact liPost_nil (Below.refl _ _)
theorem peSameK(v1 v2 N1 N2:Int)(pv qv:Value)(l m:Nat)(X Y:Nat→Int)(w:World)(h1:IntSl w w.heap.size pv l X)(h2:IntSl w w.heap.size qv m Y):
 Calls Tryz.prog 66 #[keptV v1 N1 pv,keptV v2 N2 qv] w fun e w'=>e=.returned (.bool (decide (v1=v2)&&sameB N1 N2 l m X Y))∧Below w.heap.size w w':=by
 have hb:=((Below.refl w.heap.size w).alloc (Nat.le_refl _) (.cells #[.int .i64 v1,.int .i64 N1,pv] 83)).alloc (by simp) (.cells #[.int .i64 v2,.int .i64 N2,qv] 83)
 have HE:=hid (shSame N1 N2 _ _ l m X Y _ (h1.up hb) (h2.up hb))
 have HB:=hid hb
 obtain⟨a1,c1,rfl,_,_⟩:=h1
 obtain⟨a2,c2,rfl,_,_⟩:=h2
 generalize sameB N1 N2 l m X Y=sb at *
 clear hb
 unfold shareV at HE
 unfold keptV
 by_cases hv:v1=v2
 ·subst hv
  rw[decide_eq_true rfl,Bool.true_and];go_enter Tryz.func66,Tryz.ntmps66;go_wp2_with fail
  refine HE.out.mono ?_;rintro e w3 ⟨rfl,hb3⟩;have HB3:=hid (HB.out.trans (hb3.mono HB.out.size));clear hb3;go_wp2;go_ret;exact⟨rfl,HB3.out⟩
 ·rw[decide_eq_false hv,Bool.false_and]
  have he:(v1==v2)=false:=by simpa using hv
  clear hv HE;go_enter Tryz.func66,Tryz.ntmps66;go_wp2;go_ret;exact⟨rfl,HB.out⟩
theorem peEqualFunc{w:World}{v1 v2:Value}{n m:Nat}{PV QV:Nat→Value}{t u:Kt}(h1:KeSl w w.heap.size v1 n PV t)(h2:KeSl w w.heap.size v2 m QV u):
 Calls Tryz.prog 65 #[v1,v2,.func (.func 66) #[] #[]] w fun e w'=>e=.returned (.bool (keptB n m t u))∧Below w.heap.size w w':=by
 obtain⟨a1,c1,rfl,⟨hc1,hr1⟩,hx⟩:=h1
 obtain⟨a2,c2,rfl,⟨hc2,hr2⟩,hy⟩:=h2
 obtain⟨ans,hans⟩:∃ans,keptB n m t u=ans:=⟨_,rfl⟩
 rw[hans]
 unfold keptB at hans
 by_cases hnm:n=m
 ·subst hnm
  rw[decide_eq_true rfl,Bool.true_and]at hans;have HA:=hid hans;have HX:=hid hx;have HY:=hid hy;clear hx hy hans;go_enter Tryz.func65,Tryz.ntmps65;go_wp2;go_loopw [17] (fun iv wr=>∃k:Nat,k≤n∧iv=.int .i64 k∧Hid (Below w.heap.size w wr)∧Hid (restK t u (n-k) k=ans)) (fun iv _=>n-(intOf iv).toNat)
  case atStart=>exact⟨0,Nat.zero_le _,rfl,Below.refl _ _,HA⟩
  case round =>
   obtain⟨k,hk,rfl,HB,HS⟩:=hrel;by_cases hlt:k<n
   ·have hki:(k:Int)<(n:Int):=by omega
    rcases HX.out with h0|⟨b1,o1,rfl,hb1,hx⟩;·omega
    rcases HY.out with h0|⟨b2,o2,rfl,hb2,hy⟩;·omega
    have hstep:=HS.out;rw[show n-k=(n-(k+1))+1 by omega]at hstep;simp only[restK]at hstep;have HSt:=hid hstep;obtain⟨x0,x1,x2,x3⟩:=hx k hlt;obtain⟨y0,y1,y2,y3⟩:=hy k hlt;have HI1:Hid (∀w',Below w.heap.size w w'→IntSl w' w'.heap.size (PV k) (t.L k) (t.X k)):=fun w' hb=>x3.up hb;have HI2:Hid (∀w',Below w.heap.size w w'→IntSl w' w'.heap.size (QV k) (u.L k) (u.X k)):=fun w' hb=>y3.up hb;obtain⟨ap,cp,hpe,_,_⟩:=x3;obtain⟨aq,cq,hqe,_,_⟩:=y3;rw[hpe]at x2 HI1;rw[hqe]at y2 HI2;have g0:wr.cell? ⟨b1,o1+k*3,none⟩=some (.int .i64 (t.V k)):=by rw[HB.out.cell hb1];exact x0
    have g1:wr.cell? ⟨b1,o1+k*3+1,none⟩=some (.int .i64 (t.N k)):=by rw[HB.out.cell hb1];exact x1
    have g2:wr.cell? ⟨b1,o1+k*3+2,none⟩=some (.slice ap (t.L k) cp):=by rw[HB.out.cell hb1];exact x2
    have e0:wr.cell? ⟨b2,o2+k*3,none⟩=some (.int .i64 (u.V k)):=by rw[HB.out.cell hb2];exact y0
    have e1:wr.cell? ⟨b2,o2+k*3+1,none⟩=some (.int .i64 (u.N k)):=by rw[HB.out.cell hb2];exact y1
    have e2:wr.cell? ⟨b2,o2+k*3+2,none⟩=some (.slice aq (u.L k) cq):=by rw[HB.out.cell hb2];exact y2
    have l1:b1<wr.heap.size:=cell_lt g0;have l2:b2<wr.heap.size:=cell_lt e0;clear x0 x1 x2 y0 y1 y2 hpe hqe hx hy hstep;go_wp2_with fail
    have hbb:Below w.heap.size w ((wr.alloc (.cells #[.int .i64 (t.V k),.int .i64 (t.N k),.slice ap (t.L k) cp] 83)).alloc (.cells #[.int .i64 (u.V k),.int .i64 (u.N k),.slice aq (u.L k) cq] 83)) :=
     (HB.out.alloc HB.out.size _).alloc (by simp;exact Nat.le_succ_of_le HB.out.size) _
    refine Calls.mono (peSameK _ _ _ _ _ _ _ _ _ _ _ (HI1.out _ hbb) (HI2.out _ hbb)) ?_;rintro e w2 ⟨rfl,hb3⟩;have HB3:Hid (Below w.heap.size w w2):=hbb.trans (hb3.mono hbb.size);clear hb3 hbb;have hvb:(decide (t.V k=u.V k)&&sameB (t.N k) (u.N k) (t.L k) (u.L k) (t.X k) (u.X k))=verK t u k:=rfl;rw[hvb];clear hvb;cases hs:verK t u k with
    |true =>
     have hn:=HSt.out;rw[hs,Bool.true_and]at hn;have HNx:=hid hn;clear hn;go_wp2;go_roundw
     case rel=>exact⟨k+1,by omega,by go_num,HB3,HNx⟩
     case measure=>simp only[intOf];omega
    |false =>
     have hn:=HSt.out;rw[hs,Bool.false_and]at hn;have HNx:=hid hn;clear hn;go_wp2;go_ret;exact⟨by rw[←HNx.out];rfl,HB3.out⟩
   have hke:n=k:=by omega
   subst hke;have hst:=HS.out;rw[Nat.sub_self]at hst;have HFin:Hid (true=ans):=hst;clear hst;go_wp2;go_ret;exact⟨by rw[←HFin.out];rfl,HB.out⟩
 ·rw[decide_eq_false hnm,Bool.false_and]at hans
  have HA:=hid hans;have hni:¬(n:Int)=(m:Int):=by omega
  clear hans;go_enter Tryz.func65,Tryz.ntmps65;go_wp2;go_ret;exact⟨by rw[←HA.out];rfl,Below.refl _ _⟩
theorem peSame(a1 a2:Bool)(r1 r2:Int){w:World}{v1 v2:Value}{n m:Nat}{PV QV:Nat→Value}{t u:Kt}(h1:KeSl w w.heap.size v1 n PV t)(h2:KeSl w w.heap.size v2 m QV u):
 Calls Tryz.prog 19 #[peerV a1 r1 v1,peerV a2 r2 v2] w fun e w'=>e=.returned (.bool (peerB a1 a2 r1 r2 n m t u))∧Below w.heap.size w w':=by
 have hb:=((Below.refl w.heap.size w).alloc (Nat.le_refl _) (.cells #[.bool a1,.int .i64 r1,v1] 41)).alloc (by simp) (.cells #[.bool a2,.int .i64 r2,v2] 41)
 have HE:=hid (peEqualFunc (h1.up hb) (h2.up hb))
 have HB:=hid hb
 obtain⟨ad1,c1,rfl,_,_⟩:=h1
 obtain⟨ad2,c2,rfl,_,_⟩:=h2
 unfold peerB
 generalize keptB n m t u=kb at *
 clear hb
 unfold peerV
 cases ha:(a1==a2)with
 |false =>
  rw[Bool.false_and];clear HE;go_enter Tryz.func19,Tryz.ntmps19;go_wp2;go_ret;exact⟨rfl,HB.out⟩
 |true =>
  rw[Bool.true_and];by_cases hr:r1=r2
  ·subst hr
   rw[decide_eq_true rfl,Bool.true_and];go_enter Tryz.func19,Tryz.ntmps19;go_wp2_with fail
   refine HE.out.mono ?_;rintro e w3 ⟨rfl,hb3⟩;have HB3:=hid (HB.out.trans (hb3.mono HB.out.size));clear hb3;go_wp2;go_ret;exact⟨rfl,HB3.out⟩
  rw[decide_eq_false hr,Bool.false_and];have he:(r1==r2)=false:=by simpa using hr
  clear hr HE;go_enter Tryz.func19,Tryz.ntmps19;go_wp2;go_ret;exact⟨rfl,HB.out⟩
def encPlan(x:Int×Int×Int):List Value:=[.int .i64 x.1,.int .i64 x.2.1,.int .i64 x.2.2]
open Go.Lib in
theorem eqPlan:EqlAt Tryz.prog 59 (fun x=>.agg (encPlan x).toArray) (fun x y=>x.1==y.1&&(x.2.1==y.2.1&&x.2.2==y.2.2)):=by
 refine⟨fun x y w=>?_,GuardAt.agg _ (by kernel_rfl)⟩;have u3:=Tryz.underlying3;have a3:=Tryz.isAgg3;have z3:=Tryz.sizeOf3;have hS:Tryz.prog.underlying 59=some (.struct (Tryz.prog.fieldsOf 59)):=by kernel_rfl
 have hp:Tryz.prog.stoodInHeld 59=false:=by kernel_rfl
 simp only[encPlan];rw[run_eql_struct,show(10000:Nat)=9999+1 from rfl,run_equalIn_agg w 9999 59 _ _ hS hp];simp only[Program.fieldsOf,Tryz.underlying59];go_simp
 by_cases h1:x.fst=y.fst<;>by_cases h2:x.snd.fst=y.snd.fst<;>by_cases h3:x.snd.snd=y.snd.snd<;>simp[h1,h2,h3]
def verB(b c:Bk)(j:Nat):Bool:=eqB (b.PL j) (c.PL j) (b.PX j) (c.PX j)&&(b.nd j==c.nd j&&(b.of j==c.of j&&b.sz j==c.sz j))
def restB(b c:Bk):Nat→Nat→Bool
 |0,_=>true
 |f+1,k=>verB b c k&&restB b c f (k+1)
def bookB(n m:Nat)(b c:Bk):Bool:=decide (n=m)&&restB b c n 0
theorem bkSameV(pv qv:Value)(l m:Nat)(X Y:Nat→Int)(n1 o1 s1 n2 o2 s2:Int)(w:World)(h1:IntSl w w.heap.size pv l X)(h2:IntSl w w.heap.size qv m Y):
 Calls Tryz.prog 64 #[verV pv n1 o1 s1,verV qv n2 o2 s2] w fun e w'=>e=.returned (.bool (eqB l m X Y&&(n1==n2&&(o1==o2&&s1==s2))))∧Below w.heap.size w w':=by
 have qe:∀(w:World),(binOp .eql 59 (.agg #[.int .i64 n1,.int .i64 o1,.int .i64 s1]) (.agg #[.int .i64 n2,.int .i64 o2,.int .i64 s2])).run Tryz.prog w=.ok (.bool (n1==n2&&(o1==o2&&s1==s2))) w:=fun w=>eqPlan.1 (n1,o1,s1) (n2,o2,s2) w
 have qg:∀(op:BinOp) (a b:Operand) (w:World),(eqGuard op 59 a b (.agg #[.int .i64 n1,.int .i64 o1,.int .i64 s1]) (.agg #[.int .i64 n2,.int .i64 o2,.int .i64 s2])).run Tryz.prog w=.ok () w:=fun op a b w=>eqPlan.2 op a b (n1,o1,s1) (n2,o2,s2) w
 have hb:=((Below.refl w.heap.size w).alloc (Nat.le_refl _) (.cells #[pv,.int .i64 n1,.int .i64 o1,.int .i64 s1] 61)).alloc (by simp) (.cells #[qv,.int .i64 n2,.int .i64 o2,.int .i64 s2] 61)
 have HE:=hid (equal_isl (h1.up hb) (h2.up hb))
 have HB:=hid hb
 obtain⟨a1,c1,rfl,_,_⟩:=h1
 obtain⟨a2,c2,rfl,_,_⟩:=h2
 generalize eqB l m X Y=ev at *
 generalize (n1==n2&&(o1==o2&&s1==s2))=pe at *
 clear hb
 unfold verV
 cases pe with
 |false =>
  clear HE;go_enter Tryz.func64,Tryz.ntmps64;go_wp2;go_ret;exact⟨by rw[Bool.and_false];rfl,HB.out⟩
 |true =>
  rw[Bool.and_true];go_enter Tryz.func64,Tryz.ntmps64;go_wp2_with fail
  refine HE.out.mono ?_;rintro e w3 ⟨rfl,q,hq⟩;have HB3:Hid (Below w.heap.size w w3):=HB.out.trans (by rw[hq];exact⟨rfl,rfl,rfl,Nat.le_refl _,fun _ _=>rfl⟩);clear hq;go_wp2;go_ret;exact⟨rfl,HB3.out⟩
theorem bkEqualFunc{w:World}{v1 v2:Value}{n m:Nat}{PV QV:Nat→Value}{b c:Bk}(h1:VeSl w w.heap.size v1 n PV b)(h2:VeSl w w.heap.size v2 m QV c):
 Calls Tryz.prog 63 #[v1,v2,.func (.func 64) #[] #[]] w fun e w'=>e=.returned (.bool (bookB n m b c))∧Below w.heap.size w w':=by
 obtain⟨a1,c1,rfl,⟨hc1,hr1⟩,hx⟩:=h1
 obtain⟨a2,c2,rfl,⟨hc2,hr2⟩,hy⟩:=h2
 obtain⟨ans,hans⟩:∃ans,bookB n m b c=ans:=⟨_,rfl⟩
 rw[hans]
 unfold bookB at hans
 by_cases hnm:n=m
 ·subst hnm
  rw[decide_eq_true rfl,Bool.true_and]at hans;have HA:=hid hans;have HX:=hid hx;have HY:=hid hy;clear hx hy hans;go_enter Tryz.func63,Tryz.ntmps63;go_wp2;go_loopw [17] (fun iv wr=>∃k:Nat,k≤n∧iv=.int .i64 k∧Hid (Below w.heap.size w wr)∧Hid (restB b c (n-k) k=ans)) (fun iv _=>n-(intOf iv).toNat)
  case atStart=>exact⟨0,Nat.zero_le _,rfl,Below.refl _ _,HA⟩
  case round =>
   obtain⟨k,hk,rfl,HB,HS⟩:=hrel;by_cases hlt:k<n
   ·have hki:(k:Int)<(n:Int):=by omega
    rcases HX.out with h0|⟨b1,o1,rfl,hb1,hx⟩;·omega
    rcases HY.out with h0|⟨b2,o2,rfl,hb2,hy⟩;·omega
    have hstep:=HS.out;rw[show n-k=(n-(k+1))+1 by omega]at hstep;simp only[restB]at hstep;have HSt:=hid hstep;obtain⟨x0,x1,x2,x3,x4⟩:=hx k hlt;obtain⟨y0,y1,y2,y3,y4⟩:=hy k hlt;have HI1:Hid (∀w',Below w.heap.size w w'→IntSl w' w'.heap.size (PV k) (b.PL k) (b.PX k)):=fun w' hb=>x4.up hb;have HI2:Hid (∀w',Below w.heap.size w w'→IntSl w' w'.heap.size (QV k) (c.PL k) (c.PX k)):=fun w' hb=>y4.up hb;obtain⟨ap,cp,hpe,_,_⟩:=x4;obtain⟨aq,cq,hqe,_,_⟩:=y4;rw[hpe]at x0 HI1;rw[hqe]at y0 HI2;have g0:wr.cell? ⟨b1,o1+k*4,none⟩=some (.slice ap (b.PL k) cp):=by rw[HB.out.cell hb1];exact x0
    have g1:wr.cell? ⟨b1,o1+k*4+1,none⟩=some (.int .i64 (b.nd k)):=by rw[HB.out.cell hb1];exact x1
    have g2:wr.cell? ⟨b1,o1+k*4+2,none⟩=some (.int .i64 (b.of k)):=by rw[HB.out.cell hb1];exact x2
    have g3:wr.cell? ⟨b1,o1+k*4+3,none⟩=some (.int .i64 (b.sz k)):=by rw[HB.out.cell hb1];exact x3
    have e0:wr.cell? ⟨b2,o2+k*4,none⟩=some (.slice aq (c.PL k) cq):=by rw[HB.out.cell hb2];exact y0
    have e1:wr.cell? ⟨b2,o2+k*4+1,none⟩=some (.int .i64 (c.nd k)):=by rw[HB.out.cell hb2];exact y1
    have e2:wr.cell? ⟨b2,o2+k*4+2,none⟩=some (.int .i64 (c.of k)):=by rw[HB.out.cell hb2];exact y2
    have e3:wr.cell? ⟨b2,o2+k*4+3,none⟩=some (.int .i64 (c.sz k)):=by rw[HB.out.cell hb2];exact y3
    have l1:b1<wr.heap.size:=cell_lt g0;have l2:b2<wr.heap.size:=cell_lt e0;clear x0 x1 x2 x3 y0 y1 y2 y3 hpe hqe hx hy hstep;go_wp2_with fail
    have hbb:Below w.heap.size w ((wr.alloc (.cells #[.slice ap (b.PL k) cp,.int .i64 (b.nd k),.int .i64 (b.of k),.int .i64 (b.sz k)] 61)).alloc (.cells #[.slice aq (c.PL k) cq,.int .i64 (c.nd k),.int .i64 (c.of k),.int .i64 (c.sz k)] 61)) :=
     (HB.out.alloc HB.out.size _).alloc (by simp;exact Nat.le_succ_of_le HB.out.size) _
    refine Calls.mono (bkSameV _ _ _ _ _ _ _ _ _ _ _ _ _ (HI1.out _ hbb) (HI2.out _ hbb)) ?_;rintro e w2 ⟨rfl,hb3⟩;have HB3:Hid (Below w.heap.size w w2):=hbb.trans (hb3.mono hbb.size);clear hb3 hbb;have hvb:(eqB (b.PL k) (c.PL k) (b.PX k) (c.PX k)&&(b.nd k==c.nd k&&(b.of k==c.of k&&b.sz k==c.sz k)))=verB b c k:=rfl;rw[hvb];clear hvb;cases hs:verB b c k with
    |true =>
     have hn:=HSt.out;rw[hs,Bool.true_and]at hn;have HNx:=hid hn;clear hn;go_wp2;go_roundw
     case rel=>exact⟨k+1,by omega,by go_num,HB3,HNx⟩
     case measure=>simp only[intOf];omega
    |false =>
     have hn:=HSt.out;rw[hs,Bool.false_and]at hn;have HNx:=hid hn;clear hn;go_wp2;go_ret;exact⟨by rw[←HNx.out];rfl,HB3.out⟩
   have hke:n=k:=by omega
   subst hke;have hst:=HS.out;rw[Nat.sub_self]at hst;have HFin:Hid (true=ans):=hst;clear hst;go_wp2;go_ret;exact⟨by rw[←HFin.out];rfl,HB.out⟩
 ·rw[decide_eq_false hnm,Bool.false_and]at hans
  have HA:=hid hans;have hni:¬(n:Int)=(m:Int):=by omega
  clear hans;go_enter Tryz.func63,Tryz.ntmps63;go_wp2;go_ret;exact⟨by rw[←HA.out];rfl,Below.refl _ _⟩
theorem bkSame{w:World}{v1 v2:Value}{n m:Nat}{PV QV:Nat→Value}{b c:Bk}(h1:VeSl w w.heap.size v1 n PV b)(h2:VeSl w w.heap.size v2 m QV c):
 Calls Tryz.prog 18 #[bookV v1,bookV v2] w fun e w'=>e=.returned (.bool (bookB n m b c))∧Below w.heap.size w w':=by
 have hb:=((Below.refl w.heap.size w).alloc (Nat.le_refl _) (.cells #[v1] 24)).alloc (by simp) (.cells #[v2] 24)
 have HE:=hid (bkEqualFunc (h1.up hb) (h2.up hb))
 have HB:=hid hb
 obtain⟨a1,c1,rfl,_,_⟩:=h1
 obtain⟨a2,c2,rfl,_,_⟩:=h2
 clear hb
 unfold bookV
 go_enter Tryz.func18,Tryz.ntmps18
 go_wp2_with fail
 refine HE.out.mono ?_
 rintro e w3 ⟨rfl,hb3⟩
 have HB3:=hid (HB.out.trans (hb3.mono HB.out.size))
 clear hb3
 go_wp2
 go_ret
 exact⟨rfl,HB3.out⟩
theorem KeSl.at{w:World}{B:Nat}{a:Option Addr}{m c:Nat}{UV:Nat→Value}{t:Kt}(h:KeSl w B (.slice a m c) m UV t){i:Nat}(hi:i<m):
 ∃bl off,a=some ⟨bl,off,none⟩∧m≤c∧w.cell? ⟨bl,off+i*3,none⟩=some (.int .i64 (t.V i))∧w.cell? ⟨bl,off+i*3+1,none⟩=some (.int .i64 (t.N i))∧w.cell? ⟨bl,off+i*3+2,none⟩=some (UV i)∧IntSl w B (UV i) (t.L i) (t.X i):=by
 obtain⟨ad,cap,he,⟨h0,_⟩,h2⟩:=h
 injection he with e1 _ e3
 subst e1 e3
 rcases h2 with h2|⟨bl,off,rfl,_,h5⟩
 ·omega
 ·obtain⟨g1,g2,g3,g4⟩:=h5 i hi
  exact⟨bl,off,rfl,h0,g1,g2,g3,g4⟩
theorem two_at{w:World}{g:Nat}{T:TypeId}{u0 u1:Value}(h:w.heap[g]?=some (.cells #[u0,u1] T (0,0))):w.cell? ⟨g,0,none⟩=some u0∧w.cell? ⟨g,1,none⟩=some u1:=⟨cell_at h rfl,cell_at h rfl⟩
theorem checkMesh_any(vb:Value)(n:Nat)(PV:Nat→Value)(b:Bk)(vl:Value)(np:Nat)(KV:Nat→Value)(UV:Nat→Nat→Value)(P:Ps)(w:World)(hv:VeSl w w.heap.size vb n PV b)(hl:PsSl w w.heap.size vl np KV UV P):
 Calls Tryz.prog 13 #[meshV vb vl] w fun e w'=>e=.returned (.int .i64 (peersE n b np P))∧Below w.heap.size w w':=by
 have hb:=below_alloc w (.cells #[vb,vl] 27)
 have CK:=hid (checkPeers_any _ n PV b _ np KV UV P _ (hv.up hb) (hl.up hb))
 have HB:=hid hb
 obtain⟨ad,cap,rfl,_,_⟩:=hv
 obtain⟨al,cl,rfl,_,_⟩:=hl
 clear hb
 unfold bookV at CK
 unfold meshV
 go_enter Tryz.func13,Tryz.ntmps13
 go_wp2_with fail
 refine Calls.mono CK.out ?_
 rintro e w2 ⟨rfl,hb2⟩
 have HB2:=hid (HB.out.trans (hb2.mono HB.out.size))
 clear hb2
 go_wp2
 go_ret
 exact⟨rfl,HB2.out⟩
def verM(n:Nat)(b:Bk)(np:Nat)(P:Ps)(k:Int):Int:=if peersE n b np P=0 then(if 0≤k∧k<(n:Int)then 0 else 4)else peersE n b np P
theorem version_any(vb:Value)(n:Nat)(PV:Nat→Value)(b:Bk)(vl:Value)(np:Nat)(KV:Nat→Value)(UV:Nat→Nat→Value)(P:Ps)(k:Int)(w:World)(hv:VeSl w w.heap.size vb n PV b)(hl:PsSl w w.heap.size vl np KV UV P):
 Calls Tryz.prog 54 #[meshV vb vl,.int .i64 k] w fun e w'=>e=.returned (.int .i64 (verM n b np P k))∧Below w.heap.size w w':=by
 have hb:=below_alloc w (.cells #[vb,vl] 27)
 have CK:=hid (checkMesh_any _ n PV b _ np KV UV P _ (hv.up hb) (hl.up hb))
 have HB:=hid hb
 have HK:=hid (heap_alloc_new w (.cells #[vb,vl] 27))
 obtain⟨ad,cap,rfl,_,_⟩:=hv
 obtain⟨al,cl,rfl,_,_⟩:=hl
 obtain⟨ans,hans⟩:∃c,verM n b np P k=c:=⟨_,rfl⟩
 rw[hans]
 unfold verM at hans
 obtain⟨c,hc⟩:∃c,peersE n b np P=c:=⟨_,rfl⟩
 rw[hc]at CK hans
 have HA:=hid hans
 clear hb hc hans
 unfold meshV at CK
 unfold meshV
 go_enter Tryz.func54,Tryz.ntmps54
 go_wp2_with fail
 refine Calls.mono CK.out ?_
 rintro e w2 ⟨rfl,hb2⟩
 have HB2:=hid (HB.out.trans (hb2.mono HB.out.size))
 obtain⟨c0,c1⟩:=two_at (stayB HK.out hb2)
 clear hb2 CK
 have ha:=HA.out
 by_cases h0:c=0
 ·subst h0
  rw[if_pos rfl]at ha;by_cases h1:k<0
  ·rw[if_neg (by omega)]at ha
   subst ha;clear HA;go_wp2;go_ret;exact⟨rfl,HB2.out⟩
  by_cases h2:(n:Int)≤k
  ·rw[if_neg (by omega)]at ha
   subst ha;clear HA;go_wp2;go_ret;exact⟨rfl,HB2.out⟩
  rw[if_pos (by omega)]at ha;subst ha;clear HA;go_wp2;go_ret;exact⟨rfl,HB2.out⟩
 ·rw[if_neg h0]at ha
  subst ha;have hcb:(c != 0)=true:=by simpa using h0
  clear h0 HA;go_wp2;go_ret;exact⟨rfl,HB2.out⟩
def meshB(n n':Nat)(b b':Bk)(np np':Nat)(P P':Ps):Bool:=bookB n n' b b'&&peersB np np' P P'
def nL(P:Ps)(l:List (Nat×Nat))(j:Nat):Int:=(P.t (l.getD j (0,0)).1).N (l.getD j (0,0)).2
def vaL(UV:Nat→Nat→Value)(l:List (Nat×Nat))(j:Nat):Value:=UV (l.getD j (0,0)).1 (l.getD j (0,0)).2
def lL(P:Ps)(l:List (Nat×Nat))(j:Nat):Nat:=(P.t (l.getD j (0,0)).1).L (l.getD j (0,0)).2
def xL(P:Ps)(l:List (Nat×Nat))(j:Nat):Nat→Int:=(P.t (l.getD j (0,0)).1).X (l.getD j (0,0)).2
theorem getD_old{α:Type}(l:List α)(x d:α){j:Nat}(h:j<l.length):(l++[x]).getD j d=l.getD j d:=by
 rw[List.getD_eq_getElem?_getD,List.getD_eq_getElem?_getD,List.getElem?_append_left h]
theorem getD_new{α:Type}(l:List α)(x d:α):(l++[x]).getD l.length d=x:=by
 simp[List.getD_eq_getElem?_getD]
theorem PsSl.ints{w:World}{B:Nat}{a:Option Addr}{n c:Nat}{KV:Nat→Value}{UV:Nat→Nat→Value}{P:Ps}(h:PsSl w B (.slice a n c) n KV UV P){k i:Nat}(hk:k<n)(hi:i<P.m k):IntSl w B (UV k i) ((P.t k).L i) ((P.t k).X i):=by
 obtain⟨_,_,_,_,_,_,_,h3⟩:=h.at hk;obtain⟨ad,cap,_,_,h2⟩:=h3;rcases h2 with h2|⟨bl,off,_,_,h5⟩;·omega
 exact(h5 i hi).2.2.2
section
section
variable {n lp : Nat} {b : Bk} {X : Nat → Int} {nd of sz : Int}
end
theorem getD_mem{l:List Int}{x:Int}:hasB (fun j=>l.getD j 0) l.length x=true↔x∈l:=by
 rw[hasB_iff,List.mem_iff_getElem?];constructor
 ·rintro⟨j,hj,e⟩
  exact⟨j,by rw[←e];simp[List.getD_eq_getElem?_getD,hj]⟩
 rintro⟨j,e⟩;have hj:=(List.getElem?_eq_some_iff.1 e).1;refine⟨j,hj,?_⟩;show l.getD j 0=x;simp[List.getD_eq_getElem?_getD,e]
theorem pickL_rise(p:Nat→Bool)(j:Nat):List.Pairwise (· < ·) (pickL p j):=by
 unfold pickL;rw[List.pairwise_map];refine List.Pairwise.imp (fun h=>?_) (List.Pairwise.filter p List.pairwise_lt_range);omega
end
section
def mayK(P:Ps)(ver:Int)(k:Nat):Prop:=P.th k=true∧fstAt (P.t k).V ver (P.m k) 0<0
theorem fitK_iff(P:Ps)(ver left:Int)(k:Nat):fitK P ver left k=true↔mayK P ver k∧leftK P k=left:=by
 unfold fitK noneK mayK;rw[Bool.and_eq_true,Bool.and_eq_true,decide_eq_true_iff,decide_eq_true_iff];constructor;·rintro⟨h1,h2,h3⟩;exact⟨⟨h1,h3⟩,h2⟩
 rintro⟨⟨h1,h3⟩,h2⟩;exact⟨h1,h2,h3⟩
theorem mem_lefts{P:Ps}{ver:Int}{np r:Nat}{x:Int}:x∈lefts P ver np r↔∃k:Nat,x=k∧k<np∧mayK P ver k∧1≤leftK P k∧leftK P k≤r:=by
 induction r with
 |zero =>
  simp only[lefts,List.not_mem_nil,false_iff];rintro⟨k,_,_,_,h1,h2⟩;omega
 |succ r ih =>
  simp only[lefts,List.mem_append];rw[ih,mem_pickL];constructor
  ·rintro(⟨k,h1,h2,e⟩|⟨k,e,h1,h2,h3,h4⟩)
   ·obtain⟨g1,g2⟩:=(fitK_iff _ _ _ _).1 h2
    exact⟨k,e,h1,g1,by omega,by omega⟩
   exact⟨k,e,h1,h2,h3,by omega⟩
  rintro⟨k,e,h1,h2,h3,h4⟩;by_cases c:leftK P k=((r+1:Nat):Int);·exact Or.inl ⟨k,h1,(fitK_iff _ _ _ _).2 ⟨h2,c⟩,e⟩
  exact Or.inr ⟨k,e,h1,h2,h3,by omega⟩
def AheadK(P:Ps)(x y:Int):Prop:=x≠y∧leftK P y.toNat≤leftK P x.toNat
theorem lefts_ahead(P:Ps)(ver:Int)(np r:Nat):List.Pairwise (AheadK P) (lefts P ver np r):=by
 induction r with
 |zero=>exact List.Pairwise.nil
 |succ r ih =>
  simp only[lefts];rw[List.pairwise_append];have hl:∀x,x∈pickL (fitK P ver ((r+1:Nat):Int)) np→leftK P x.toNat=((r+1:Nat):Int):=fun x hx=>by
   obtain⟨k,_,h2,rfl⟩:=mem_pickL.1 hx;rw[Int.toNat_natCast];exact((fitK_iff _ _ _ _).1 h2).2
  refine⟨?_,ih,fun x hx y hy=>?_⟩
  ·refine(pickL_rise (fitK P ver ((r+1:Nat):Int)) np).imp_of_mem fun {x y} hx hy hxy=>?_
   exact⟨by omega,by rw[hl x hx,hl y hy];exact Int.le_refl _⟩
  have h1:=hl x hx;obtain⟨k,rfl,_,_,_,h4⟩:=mem_lefts.1 hy;have h2:leftK P (k:Int).toNat≤(r:Int):=by rw[Int.toNat_natCast];exact h4
  refine⟨fun e=>?_,by omega⟩;rw[e]at h1;omega
section
variable {P : Ps} {ver : Int} {np q : Nat}
theorem take_each{i:Nat}(hi:i<((orderL P ver np).take q).length):∃k:Nat,((orderL P ver np).take q).getD i 0=(k:Int)∧k<np∧mayK P ver k∧1≤leftK P k∧leftK P k≤20:=by
 have hm:((orderL P ver np).take q).getD i 0∈orderL P ver np:=List.mem_of_mem_take (getD_mem.1 ((hasB_iff _ _ _).2 ⟨i,hi,rfl⟩));obtain⟨k,e,h1,h2,h3,h4⟩:=mem_lefts.1 hm;exact⟨k,e,h1,h2,h3,h4⟩
theorem take_ahead{i j:Nat}(hij:i<j)(hj:j<((orderL P ver np).take q).length):AheadK P (((orderL P ver np).take q).getD i 0) (((orderL P ver np).take q).getD j 0):=by
 have hp:List.Pairwise (AheadK P) ((orderL P ver np).take q):=(lefts_ahead P ver np 20).sublist (List.take_sublist _ _);have h:=List.pairwise_iff_getElem.1 hp i j (by omega) hj hij;rw[List.getD_eq_getElem?_getD,List.getD_eq_getElem?_getD,List.getElem?_eq_getElem (by omega),List.getElem?_eq_getElem hj];exact h
end
theorem forL_len{P:Ps}{ver:Int}{np:Nat}{many:Int}(h:manyE P ver np many=0):forL P ver np many=(orderL P ver np).take many.toNat∧0≤many∧(((orderL P ver np).take many.toNat).length:Int)=many:=by
 unfold forL;rw[if_pos h];unfold manyE at h;by_cases h1:0≤many∧many≤8
 ·rw[if_pos h1]at h
  by_cases h2:((orderL P ver np).length:Int)<many;·rw[if_pos h2]at h;omega
  refine⟨rfl,h1.1,?_⟩;rw[List.length_take];omega
 rw[if_neg h1]at h;omega
end
end Go.Proofs.YtajmnlhfnhbleaaGreat
