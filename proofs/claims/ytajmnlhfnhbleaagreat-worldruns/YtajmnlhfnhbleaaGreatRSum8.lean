/- Several texts of one proof, in their order. -/
import Derived.Test.YtajmnlhfnhbleaaGreatRSum6
import Derived.Test.YtajmnlhfnhbleaaGreatRSum7
namespace Go.Proofs.YtajmnlhfnhbleaaGreat
open Go.RowKit
set_option linter.unusedVariables false
set_option maxHeartbeats 2000000
theorem two_at{w:World}{g:Nat}{T:TypeId}{u0 u1:Value}(h:w.heap[g]?=some (.cells #[u0,u1] T (0,0))):w.cell? ⟨g,0,none⟩=some u0∧w.cell? ⟨g,1,none⟩=some u1:=⟨cell_at h rfl,cell_at h rfl⟩
theorem checkMesh_any(vb:Value)(n:Nat)(PV:Nat→Value)(b:Bk)(vl:Value)(np:Nat)(KV:Nat→Value)(UV:Nat→Nat→Value)(P:Ps)(w:World)(hv:VeSl w w.heap.size vb n PV b)(hl:PsSl w w.heap.size vl np KV UV P):
 Calls Tryz.prog 13 #[meshV vb vl] w fun e w'=>e=.returned (.int .i64 (peersE n b np P))∧Below w.heap.size w w':=by
 have hb:=below_alloc w (.cells #[vb,vl] 27)
 have CK:=hid (checkPeers_any _ n PV b _ np KV UV P _ (hv.up hb) (hl.up hb))
 have HB:=hid hb
 obtain⟨ad,cap,rfl,_,_⟩:=hv
 obtain⟨al,cl,rfl,_,_⟩:=hl
 clear hb
 unfold bookV at CK
 unfold meshV
 go_enter Tryz.func13,Tryz.ntmps13
 go_wp2_with fail
 refine Calls.mono CK.out ?_
 rintro e w2 ⟨rfl,hb2⟩
 have HB2:=hid (HB.out.trans (hb2.mono HB.out.size))
 clear hb2
 go_wp2
 go_ret
 exact⟨rfl,HB2.out⟩
def verM(n:Nat)(b:Bk)(np:Nat)(P:Ps)(k:Int):Int:=if peersE n b np P=0 then(if 0≤k∧k<(n:Int)then 0 else 4)else peersE n b np P
theorem version_any(vb:Value)(n:Nat)(PV:Nat→Value)(b:Bk)(vl:Value)(np:Nat)(KV:Nat→Value)(UV:Nat→Nat→Value)(P:Ps)(k:Int)(w:World)(hv:VeSl w w.heap.size vb n PV b)(hl:PsSl w w.heap.size vl np KV UV P):
 Calls Tryz.prog 54 #[meshV vb vl,.int .i64 k] w fun e w'=>e=.returned (.int .i64 (verM n b np P k))∧Below w.heap.size w w':=by
 have hb:=below_alloc w (.cells #[vb,vl] 27)
 have CK:=hid (checkMesh_any _ n PV b _ np KV UV P _ (hv.up hb) (hl.up hb))
 have HB:=hid hb
 have HK:=hid (heap_alloc_new w (.cells #[vb,vl] 27))
 obtain⟨ad,cap,rfl,_,_⟩:=hv
 obtain⟨al,cl,rfl,_,_⟩:=hl
 obtain⟨ans,hans⟩:∃c,verM n b np P k=c:=⟨_,rfl⟩
 rw[hans]
 unfold verM at hans
 obtain⟨c,hc⟩:∃c,peersE n b np P=c:=⟨_,rfl⟩
 rw[hc]at CK hans
 have HA:=hid hans
 clear hb hc hans
 unfold meshV at CK
 unfold meshV
 go_enter Tryz.func54,Tryz.ntmps54
 go_wp2_with fail
 refine Calls.mono CK.out ?_
 rintro e w2 ⟨rfl,hb2⟩
 have HB2:=hid (HB.out.trans (hb2.mono HB.out.size))
 obtain⟨c0,c1⟩:=two_at (stayB HK.out hb2)
 clear hb2 CK
 have ha:=HA.out
 by_cases h0:c=0
 ·subst h0
  rw[if_pos rfl]at ha;by_cases h1:k<0
  ·rw[if_neg (by omega)]at ha
   subst ha;clear HA;go_wp2;go_ret;exact⟨rfl,HB2.out⟩
  by_cases h2:(n:Int)≤k
  ·rw[if_neg (by omega)]at ha
   subst ha;clear HA;go_wp2;go_ret;exact⟨rfl,HB2.out⟩
  rw[if_pos (by omega)]at ha;subst ha;clear HA;go_wp2;go_ret;exact⟨rfl,HB2.out⟩
 ·rw[if_neg h0]at ha
  subst ha;have hcb:(c != 0)=true:=by simpa using h0
  clear h0 HA;go_wp2;go_ret;exact⟨rfl,HB2.out⟩
theorem equalFunc_peer{w:World}{v1 v2:Value}{n m:Nat}{PV QV:Nat→Value}{UV WV:Nat→Nat→Value}{P Q:Ps}(h1:PsSl w w.heap.size v1 n PV UV P)(h2:PsSl w w.heap.size v2 m QV WV Q):
 Calls Tryz.prog 49 #[v1,v2,.func (.func 50) #[] #[]] w fun e w'=>e=.returned (.bool (peersB n m P Q))∧Below w.heap.size w w':=by
 obtain⟨a1,c1,rfl,⟨hc1,hr1⟩,hx⟩:=h1
 obtain⟨a2,c2,rfl,⟨hc2,hr2⟩,hy⟩:=h2
 obtain⟨ans,hans⟩:∃ans,peersB n m P Q=ans:=⟨_,rfl⟩
 rw[hans]
 unfold peersB at hans
 by_cases hnm:n=m
 ·subst hnm
  rw[decide_eq_true rfl,Bool.true_and]at hans;have HA:=hid hans;have HX:=hid hx;have HY:=hid hy;clear hx hy hans;go_enter Tryz.func49,Tryz.ntmps49;go_wp2;go_loopw [17] (fun iv wr=>∃k:Nat,k≤n∧iv=.int .i64 k∧Hid (Below w.heap.size w wr)∧Hid (restP P Q (n-k) k=ans)) (fun iv _=>n-(intOf iv).toNat)
  case atStart=>exact⟨0,Nat.zero_le _,rfl,Below.refl _ _,HA⟩
  case round =>
   obtain⟨k,hk,rfl,HB,HS⟩:=hrel;by_cases hlt:k<n
   ·have hki:(k:Int)<(n:Int):=by omega
    rcases HX.out with h0|⟨b1,o1,rfl,hb1,hx⟩;·omega
    rcases HY.out with h0|⟨b2,o2,rfl,hb2,hy⟩;·omega
    have hstep:=HS.out;rw[show n-k=(n-(k+1))+1 by omega]at hstep;simp only[restP]at hstep;have HSt:=hid hstep;obtain⟨x0,x1,x2,x3⟩:=hx k hlt;obtain⟨y0,y1,y2,y3⟩:=hy k hlt;have HI1:Hid (∀w',Below w.heap.size w w'→KeSl w' w'.heap.size (PV k) (P.m k) (UV k) (P.t k)):=fun w' hb=>x3.up hb;have HI2:Hid (∀w',Below w.heap.size w w'→KeSl w' w'.heap.size (QV k) (Q.m k) (WV k) (Q.t k)):=fun w' hb=>y3.up hb;obtain⟨ap,cp,hpe,_,_⟩:=x3;obtain⟨aq,cq,hqe,_,_⟩:=y3;rw[hpe]at x2 HI1;rw[hqe]at y2 HI2;have g0:wr.cell? ⟨b1,o1+k*3,none⟩=some (.bool (P.th k)):=by rw[HB.out.cell hb1];exact x0
    have g1:wr.cell? ⟨b1,o1+k*3+1,none⟩=some (.int .i64 (P.rm k)):=by rw[HB.out.cell hb1];exact x1
    have g2:wr.cell? ⟨b1,o1+k*3+2,none⟩=some (.slice ap (P.m k) cp):=by rw[HB.out.cell hb1];exact x2
    have e0:wr.cell? ⟨b2,o2+k*3,none⟩=some (.bool (Q.th k)):=by rw[HB.out.cell hb2];exact y0
    have e1:wr.cell? ⟨b2,o2+k*3+1,none⟩=some (.int .i64 (Q.rm k)):=by rw[HB.out.cell hb2];exact y1
    have e2:wr.cell? ⟨b2,o2+k*3+2,none⟩=some (.slice aq (Q.m k) cq):=by rw[HB.out.cell hb2];exact y2
    have l1:b1<wr.heap.size:=cell_lt g0;have l2:b2<wr.heap.size:=cell_lt e0;clear x0 x1 x2 y0 y1 y2 hpe hqe hx hy hstep;go_wp2_with fail
    have hbb:Below w.heap.size w ((wr.alloc (.cells #[.bool (P.th k),.int .i64 (P.rm k),.slice ap (P.m k) cp] 41)).alloc (.cells #[.bool (Q.th k),.int .i64 (Q.rm k),.slice aq (Q.m k) cq] 41)) :=
     (HB.out.alloc HB.out.size _).alloc (by simp;exact Nat.le_succ_of_le HB.out.size) _
    have CS:=hid (samePeer_any (P.th k) (Q.th k) (P.rm k) (Q.rm k) (HI1.out _ hbb) (HI2.out _ hbb));unfold peerV at CS;refine Calls.mono CS.out ?_;rintro e w2 ⟨rfl,hb3⟩;have HB3:Hid (Below w.heap.size w w2):=hbb.trans (hb3.mono hbb.size);clear hb3 hbb;rw[show peerB (P.th k) (Q.th k) (P.rm k) (Q.rm k) (P.m k) (Q.m k) (P.t k) (Q.t k)=prB P Q k from rfl];clear CS;cases hs:prB P Q k with
    |true =>
     have hn:=HSt.out;rw[hs,Bool.true_and]at hn;have HNx:=hid hn;clear hn;go_wp2;go_roundw
     case rel=>exact⟨k+1,by omega,by go_num,HB3,HNx⟩
     case measure=>simp only[intOf];omega
    |false =>
     have hn:=HSt.out;rw[hs,Bool.false_and]at hn;have HNx:=hid hn;clear hn;go_wp2;go_ret;exact⟨by rw[←HNx.out];rfl,HB3.out⟩
   have hke:n=k:=by omega
   subst hke;have hst:=HS.out;rw[Nat.sub_self]at hst;have HFin:Hid (true=ans):=hst;clear hst;go_wp2;go_ret;exact⟨by rw[←HFin.out];rfl,HB.out⟩
 ·rw[decide_eq_false hnm,Bool.false_and]at hans
  have HA:=hid hans;have hni:¬(n:Int)=(m:Int):=by omega
  clear hans;go_enter Tryz.func49,Tryz.ntmps49;go_wp2;go_ret;exact⟨by rw[←HA.out];rfl,Below.refl _ _⟩
def meshB(n n':Nat)(b b':Bk)(np np':Nat)(P P':Ps):Bool:=bookB n n' b b'&&peersB np np' P P'
theorem sameMesh_any{w:World}{vb vl vb' vl':Value}{n n' np np':Nat}{PV PV' KV KV':Nat→Value}{UV UV':Nat→Nat→Value}{b b':Bk}{P P':Ps}(hv:VeSl w w.heap.size vb n PV b)(hl:PsSl w w.heap.size vl np KV UV P)(hv':VeSl w w.heap.size vb' n' PV' b')(hl':PsSl w w.heap.size vl' np' KV' UV' P'):
 Calls Tryz.prog 15 #[meshV vb vl,meshV vb' vl'] w fun e w'=>e=.returned (.bool (meshB n n' b b' np np' P P'))∧Below w.heap.size w w':=by
 have hb:=((Below.refl w.heap.size w).alloc (Nat.le_refl _) (.cells #[vb,vl] 27)).alloc (by simp) (.cells #[vb',vl'] 27)
 have k1:=heap_two_old w (.cells #[vb,vl] 27) (.cells #[vb',vl'] 27)
 have k2:=heap_two_new w (.cells #[vb,vl] 27) (.cells #[vb',vl'] 27)
 obtain⟨U,hU⟩:∃u,(w.alloc (.cells #[vb,vl] 27)).alloc (.cells #[vb',vl'] 27)=u:=⟨_,rfl⟩
 rw[hU]at hb k1 k2
 have CS:=hid (sameBook_any (hv.up hb) (hv'.up hb))
 have HE:Hid (∀u,Below U.heap.size U u→Calls Tryz.prog _ #[vl,vl',.func (.func 50) #[] #[]] u fun e u'=>e=.returned (.bool (peersB np np' P P'))∧Below u.heap.size u u'):=fun u hbu=>equalFunc_peer ((hl.up hb).up hbu) ((hl'.up hb).up hbu)
 have HB:=hid hb
 have K1:=hid k1
 have K2:=hid k2
 obtain⟨c1,c2⟩:=two_at k1
 obtain⟨c3,c4⟩:=two_at k2
 obtain⟨ad,cap,rfl,_,_⟩:=hv
 obtain⟨al,cl,rfl,_,_⟩:=hl
 obtain⟨ad',cap',rfl,_,_⟩:=hv'
 obtain⟨al',cl',rfl,_,_⟩:=hl'
 clear hb k1 k2
 unfold meshB
 unfold bookV at CS
 unfold meshV
 cases hs:bookB n n' b b' with
 |false =>
  rw[hs]at CS;rw[Bool.false_and];clear hs;go_enter Tryz.func15,Tryz.ntmps15;go_wp2_with fail
  refine Calls.mono CS.out ?_;rintro e w2 ⟨rfl,hb2⟩;have HB2:=hid (HB.out.trans (hb2.mono HB.out.size));clear hb2;go_wp2;go_ret;exact⟨rfl,HB2.out⟩
 |true =>
  rw[hs]at CS;rw[Bool.true_and];clear hs;go_enter Tryz.func15,Tryz.ntmps15;go_wp2_with fail
  refine Calls.mono CS.out ?_;rintro e w2 ⟨rfl,hb2⟩;have HB2:=hid (HB.out.trans (hb2.mono HB.out.size));have HE2:=hid (HE.out w2 hb2);obtain⟨c1,c2⟩:=two_at (stayB K1.out hb2);obtain⟨c3,c4⟩:=two_at (stayB K2.out hb2);clear hb2;go_wp2_with fail
  refine Calls.mono HE2.out ?_;rintro e w3 ⟨rfl,hb3⟩;have HB3:=hid (HB2.out.trans (hb3.mono HB2.out.size));clear hb3;go_wp2;go_ret;exact⟨rfl,HB3.out⟩
def nL(P:Ps)(l:List (Nat×Nat))(j:Nat):Int:=(P.t (l.getD j (0,0)).1).N (l.getD j (0,0)).2
def vaL(UV:Nat→Nat→Value)(l:List (Nat×Nat))(j:Nat):Value:=UV (l.getD j (0,0)).1 (l.getD j (0,0)).2
def lL(P:Ps)(l:List (Nat×Nat))(j:Nat):Nat:=(P.t (l.getD j (0,0)).1).L (l.getD j (0,0)).2
def xL(P:Ps)(l:List (Nat×Nat))(j:Nat):Nat→Int:=(P.t (l.getD j (0,0)).1).X (l.getD j (0,0)).2
theorem getD_old{α:Type}(l:List α)(x d:α){j:Nat}(h:j<l.length):(l++[x]).getD j d=l.getD j d:=by
 rw[List.getD_eq_getElem?_getD,List.getD_eq_getElem?_getD,List.getElem?_append_left h]
theorem getD_new{α:Type}(l:List α)(x d:α):(l++[x]).getD l.length d=x:=by
 simp[List.getD_eq_getElem?_getD]
theorem PsSl.ints{w:World}{B:Nat}{a:Option Addr}{n c:Nat}{KV:Nat→Value}{UV:Nat→Nat→Value}{P:Ps}(h:PsSl w B (.slice a n c) n KV UV P){k i:Nat}(hk:k<n)(hi:i<P.m k):IntSl w B (UV k i) ((P.t k).L i) ((P.t k).X i):=by
 obtain⟨_,_,_,_,_,_,_,h3⟩:=h.at hk;obtain⟨ad,cap,_,_,h2⟩:=h3;rcases h2 with h2|⟨bl,off,_,_,h5⟩;·omega
 exact(h5 i hi).2.2.2
section
section
variable {n lp : Nat} {b : Bk} {X : Nat → Int} {nd of sz : Int}
end
theorem getD_mem{l:List Int}{x:Int}:hasB (fun j=>l.getD j 0) l.length x=true↔x∈l:=by
 rw[hasB_iff,List.mem_iff_getElem?];constructor
 ·rintro⟨j,hj,e⟩
  exact⟨j,by rw[←e];simp[List.getD_eq_getElem?_getD,hj]⟩
 rintro⟨j,e⟩;have hj:=(List.getElem?_eq_some_iff.1 e).1;refine⟨j,hj,?_⟩;show l.getD j 0=x;simp[List.getD_eq_getElem?_getD,e]
theorem pickL_rise(p:Nat→Bool)(j:Nat):List.Pairwise (· < ·) (pickL p j):=by
 unfold pickL;rw[List.pairwise_map];refine List.Pairwise.imp (fun h=>?_) (List.Pairwise.filter p List.pairwise_lt_range);omega
end
section
def mayK(P:Ps)(ver:Int)(k:Nat):Prop:=P.th k=true∧fstAt (P.t k).V ver (P.m k) 0<0
theorem fitK_iff(P:Ps)(ver left:Int)(k:Nat):fitK P ver left k=true↔mayK P ver k∧leftK P k=left:=by
 unfold fitK noneK mayK;rw[Bool.and_eq_true,Bool.and_eq_true,decide_eq_true_iff,decide_eq_true_iff];constructor;·rintro⟨h1,h2,h3⟩;exact⟨⟨h1,h3⟩,h2⟩
 rintro⟨⟨h1,h3⟩,h2⟩;exact⟨h1,h2,h3⟩
theorem mem_lefts{P:Ps}{ver:Int}{np r:Nat}{x:Int}:x∈lefts P ver np r↔∃k:Nat,x=k∧k<np∧mayK P ver k∧1≤leftK P k∧leftK P k≤r:=by
 induction r with
 |zero =>
  simp only[lefts,List.not_mem_nil,false_iff];rintro⟨k,_,_,_,h1,h2⟩;omega
 |succ r ih =>
  simp only[lefts,List.mem_append];rw[ih,mem_pickL];constructor
  ·rintro(⟨k,h1,h2,e⟩|⟨k,e,h1,h2,h3,h4⟩)
   ·obtain⟨g1,g2⟩:=(fitK_iff _ _ _ _).1 h2
    exact⟨k,e,h1,g1,by omega,by omega⟩
   exact⟨k,e,h1,h2,h3,by omega⟩
  rintro⟨k,e,h1,h2,h3,h4⟩;by_cases c:leftK P k=((r+1:Nat):Int);·exact Or.inl ⟨k,h1,(fitK_iff _ _ _ _).2 ⟨h2,c⟩,e⟩
  exact Or.inr ⟨k,e,h1,h2,h3,by omega⟩
def AheadK(P:Ps)(x y:Int):Prop:=x≠y∧leftK P y.toNat≤leftK P x.toNat
theorem lefts_ahead(P:Ps)(ver:Int)(np r:Nat):List.Pairwise (AheadK P) (lefts P ver np r):=by
 induction r with
 |zero=>exact List.Pairwise.nil
 |succ r ih =>
  simp only[lefts];rw[List.pairwise_append];have hl:∀x,x∈pickL (fitK P ver ((r+1:Nat):Int)) np→leftK P x.toNat=((r+1:Nat):Int):=fun x hx=>by
   obtain⟨k,_,h2,rfl⟩:=mem_pickL.1 hx;rw[Int.toNat_natCast];exact((fitK_iff _ _ _ _).1 h2).2
  refine⟨?_,ih,fun x hx y hy=>?_⟩
  ·refine(pickL_rise (fitK P ver ((r+1:Nat):Int)) np).imp_of_mem fun {x y} hx hy hxy=>?_
   exact⟨by omega,by rw[hl x hx,hl y hy];exact Int.le_refl _⟩
  have h1:=hl x hx;obtain⟨k,rfl,_,_,_,h4⟩:=mem_lefts.1 hy;have h2:leftK P (k:Int).toNat≤(r:Int):=by rw[Int.toNat_natCast];exact h4
  refine⟨fun e=>?_,by omega⟩;rw[e]at h1;omega
section
variable {P : Ps} {ver : Int} {np q : Nat}
theorem take_each{i:Nat}(hi:i<((orderL P ver np).take q).length):∃k:Nat,((orderL P ver np).take q).getD i 0=(k:Int)∧k<np∧mayK P ver k∧1≤leftK P k∧leftK P k≤20:=by
 have hm:((orderL P ver np).take q).getD i 0∈orderL P ver np:=List.mem_of_mem_take (getD_mem.1 ((hasB_iff _ _ _).2 ⟨i,hi,rfl⟩));obtain⟨k,e,h1,h2,h3,h4⟩:=mem_lefts.1 hm;exact⟨k,e,h1,h2,h3,h4⟩
theorem take_ahead{i j:Nat}(hij:i<j)(hj:j<((orderL P ver np).take q).length):AheadK P (((orderL P ver np).take q).getD i 0) (((orderL P ver np).take q).getD j 0):=by
 have hp:List.Pairwise (AheadK P) ((orderL P ver np).take q):=(lefts_ahead P ver np 20).sublist (List.take_sublist _ _);have h:=List.pairwise_iff_getElem.1 hp i j (by omega) hj hij;rw[List.getD_eq_getElem?_getD,List.getD_eq_getElem?_getD,List.getElem?_eq_getElem (by omega),List.getElem?_eq_getElem hj];exact h
end
theorem forL_len{P:Ps}{ver:Int}{np:Nat}{many:Int}(h:manyE P ver np many=0):forL P ver np many=(orderL P ver np).take many.toNat∧0≤many∧(((orderL P ver np).take many.toNat).length:Int)=many:=by
 unfold forL;rw[if_pos h];unfold manyE at h;by_cases h1:0≤many∧many≤8
 ·rw[if_pos h1]at h
  by_cases h2:((orderL P ver np).length:Int)<many;·rw[if_pos h2]at h;omega
  refine⟨rfl,h1.1,?_⟩;rw[List.length_take];omega
 rw[if_neg h1]at h;omega
end
theorem prod_bd{a b:Int}(ha:0≤a∧a≤30)(hb:0≤b∧b≤30):0≤a*b∧a*b≤900:=by
 obtain⟨a0,a1⟩:=ha;obtain⟨b0,b1⟩:=hb;refine⟨Int.mul_nonneg a0 b0,?_⟩;have h1:a*b≤30*b:=Int.mul_le_mul_of_nonneg_right a1 b0;omega
theorem times_any(a b:Int)(ha:0≤a∧a≤30)(hb:0≤b∧b≤30)(w:World):
 Calls Tryz.prog 213 #[.int .i64 a,.int .i64 b] w fun e w'=>e=.returned (.int .i64 (a*b%31))∧w'=w:=by
 have hab:=prod_bd ha hb
 go_enter Tryz.func213,Tryz.ntmps213
 go_wp2
 go_ret
 exact⟨rfl,rfl⟩
theorem both_ok(a b:Int)(ha:0≤a∧a≤30)(hb:0≤b∧b≤30)(w:World):
 Calls Tryz.prog 123 #[.int .i64 a,.int .i64 b] w fun e w'=>e=.returned (.int .i64 0)∧w'=w:=by
 go_enter Tryz.func123,Tryz.ntmps123
 go_wp2_with(go_at_call 144;go_must(refine(check_ok _ (by omega) _).mono ?_;rintro e w' ⟨rfl,rfl⟩))
 go_ret
 exact⟨rfl,rfl⟩
theorem add_ok(a b:Int)(ha:0≤a∧a≤30)(hb:0≤b∧b≤30)(w:World):
 Calls Tryz.prog 85 #[.int .i64 a,.int .i64 b] w fun e w'=>e=.returned (.tuple #[.int .i64 ((a+b)%31),.int .i64 0])∧w'=w:=by
 go_enter Tryz.func85,Tryz.ntmps85
 go_wp2_with(go_at_call 123;go_must(refine(both_ok _ _ (by omega) (by omega) _).mono ?_;rintro e w' ⟨rfl,rfl⟩))
 go_ret2
 exact⟨rfl,rfl⟩
theorem mul_ok(a b:Int)(ha:0≤a∧a≤30)(hb:0≤b∧b≤30)(w:World):
 Calls Tryz.prog 187 #[.int .i64 a,.int .i64 b] w fun e w'=>e=.returned (.tuple #[.int .i64 (a*b%31),.int .i64 0])∧w'=w:=by
 go_enter Tryz.func187,Tryz.ntmps187
 go_wp2_with(first
  |(go_at_call 123;go_must(refine(both_ok _ _ (by omega) (by omega) _).mono ?_;rintro e w' ⟨rfl,rfl⟩))
  |(go_at_call 213;go_must(refine(times_any _ _ (by omega) (by omega) _).mono ?_;rintro e w' ⟨rfl,rfl⟩)))
 go_ret2
 exact⟨rfl,rfl⟩
def pw(b:Int):Nat→Int
 |0=>1
 |k+1=>pw b k*b%31
theorem pw_bd(b:Int)(k:Nat):0≤pw b k∧pw b k≤30:=by
 cases k with
 |zero=>simp only[pw];omega
 |succ k=>simp only[pw];omega
theorem inverse_any(b:Int)(hb:0≤b∧b≤30)(w:World):
 Calls Tryz.prog 223 #[.int .i64 b] w fun e w'=>e=.returned (.int .i64 (pw b 29))∧w'=w:=by
 go_enter Tryz.func223,Tryz.ntmps223
 go_wp2
 go_loop [3,4] (fun r i=>∃k:Nat,k≤29∧r=.int .i64 (pw b k)∧i=.int .i64 k) (fun _ i=>29-(intOf i).toNat)
 case atStart=>exact⟨0,by omega,rfl,rfl⟩
 case round =>
  obtain⟨k,hk,rfl,rfl⟩:=hrel;have hp:=pw_bd b k;go_wp2_with(go_at_call 213;go_must(refine(times_any _ _ hp hb _).mono ?_;rintro e w' ⟨rfl,rfl⟩))
  ·have hlt:k<29:=by omega
   go_round
   case rel=>exact⟨k+1,by omega,rfl,by go_num⟩
   case measure=>simp only[intOf];omega
  have hge:k=29:=by omega
  subst hge;go_ret;exact⟨rfl,rfl⟩
def dv(a b:Int):Int:=a*pw b 29%31
theorem div_ok(a b:Int)(ha:0≤a∧a≤30)(hb:1≤b∧b≤30)(w:World):
 Calls Tryz.prog 214 #[.int .i64 a,.int .i64 b] w fun e w'=>e=.returned (.tuple #[.int .i64 (dv a b),.int .i64 0])∧w'=w:=by
 have hp:=pw_bd b 29
 go_enter Tryz.func214,Tryz.ntmps214
 go_wp2_with(first
  |(go_at_call 123;go_must(refine(both_ok _ _ (by omega) (by omega) _).mono ?_;rintro e w' ⟨rfl,rfl⟩))
  |(go_at_call 223;go_must(refine(inverse_any _ (by omega) _).mono ?_;rintro e w' ⟨rfl,rfl⟩))
  |(go_at_call 213;go_must(refine(times_any _ _ (by omega) hp _).mono ?_;rintro e w' ⟨rfl,rfl⟩)))
 go_ret2
 exact⟨rfl,rfl⟩
theorem inv_all:∀k:Fin 31,k.val≠0→(pw (k.val:Int) 29*(k.val:Int))%31=1:=by decide +kernel
theorem inv_mul(b:Int)(hb:1≤b∧b≤30):(pw b 29*b)%31=1:=by
 have h:=inv_all ⟨b.toNat,by omega⟩ (by show b.toNat≠0;omega);have e:((b.toNat:Nat):Int)=b:=by omega
 simp only[e]at h;exact h
theorem dv_bd(a b:Int):0≤dv a b∧dv a b≤30:=by unfold dv;omega
theorem dv_mul(a b:Int)(ha:0≤a∧a≤30)(hb:1≤b∧b≤30):dv a b*b%31=a:=by
 unfold dv;rw[Int.mul_emod,Int.emod_emod,←Int.mul_emod,Int.mul_assoc,Int.mul_emod,inv_mul b hb];omega
theorem cancel(x y d:Int)(hx:0≤x∧x≤30)(hy:0≤y∧y≤30)(hd:1≤d∧d≤30)(h:x*d%31=y*d%31):x=y:=by
 have key:∀z:Int,0≤z∧z≤30→(z*d%31)*pw d 29%31=z:=by
  intro z hz;rw[Int.mul_emod,Int.emod_emod,←Int.mul_emod,Int.mul_assoc,Int.mul_comm d,Int.mul_emod,inv_mul d hd];omega
 rw[←key x hx,←key y hy,h]
theorem quotient_any(a b:Int)(ha:0≤a∧a≤30)(hb:1≤b∧b≤30)(w:World):
 Calls Tryz.prog 162 #[.int .i64 a,.int .i64 b] w fun e w'=>e=.returned (.int .i64 (dv a b))∧w'=w:=by
 have hbd:=dv_bd a b
 have hdm:=dv_mul a b ha hb
 generalize dv a b=q at *
 go_enter Tryz.func162,Tryz.ntmps162
 go_wp2
 go_loop [6] (fun i=>∃k:Nat,(k:Int)≤q∧i=.int .i64 k) (fun i=>31-(intOf i).toNat)
 case atStart=>exact⟨0,by omega,rfl⟩
 case round =>
  obtain⟨k,hk,rfl⟩:=hrel;have hp:=prod_bd (a:=(k:Int)) (b:=b) ⟨by omega,by omega⟩ ⟨by omega,by omega⟩;by_cases he:(k:Int)=q
  ·subst he
   have hm:((k:Int)*b%31==a)=true:=by rw[hdm];simp
   clear hdm hk;go_wp2;go_ret;exact⟨rfl,rfl⟩
  have hm:((k:Int)*b%31==a)=false:=by
   simp only[beq_eq_false_iff_ne,ne_eq];intro h;exact he (cancel _ _ b ⟨by omega,by omega⟩ hbd hb (by rw[h,hdm]))
  clear hdm;go_wp2;go_round
  case rel=>exact⟨k+1,by omega,by go_num⟩
  case measure=>simp only[intOf];omega
end Go.Proofs.YtajmnlhfnhbleaaGreat
