/- Several texts of one proof, in their order. -/
import Derived.Test.YtajmnlhfnhbleaaGreatKw4
namespace Go.Proofs.YtajmnlhfnhbleaaGreat
open Go.RowKit Go.Shelf
set_option linter.unusedVariables false
set_option maxHeartbeats 2000000
theorem peSameK(v1 v2 N1 N2:Int)(pv qv:Value)(l m:Nat)(X Y:Nat→Int)(w:World)(h1:IntSl w w.heap.size pv l X)(h2:IntSl w w.heap.size qv m Y):
 Calls Tryz.prog 66 #[keptV v1 N1 pv,keptV v2 N2 qv] w fun e w'=>e=.returned (.bool (decide (v1=v2)&&sameB N1 N2 l m X Y))∧Below w.heap.size w w':=by
 have hb:=((Below.refl w.heap.size w).alloc (Nat.le_refl _) (.cells #[.int .i64 v1,.int .i64 N1,pv] 83)).alloc (by simp) (.cells #[.int .i64 v2,.int .i64 N2,qv] 83)
 have HE:=hid (shSame N1 N2 _ _ l m X Y _ (h1.up hb) (h2.up hb))
 have HB:=hid hb
 obtain⟨a1,c1,rfl,_,_⟩:=h1
 obtain⟨a2,c2,rfl,_,_⟩:=h2
 generalize sameB N1 N2 l m X Y=sb at *
 clear hb
 unfold shareV at HE
 unfold keptV
 by_cases hv:v1=v2
 ·subst hv
  rw[decide_eq_true rfl,Bool.true_and];go_enter Tryz.func66,Tryz.ntmps66;go_wp2_with fail
  refine HE.out.mono ?_;rintro e w3 ⟨rfl,hb3⟩;have HB3:=hid (HB.out.trans (hb3.mono HB.out.size));clear hb3;go_wp2;go_ret;exact⟨rfl,HB3.out⟩
 ·rw[decide_eq_false hv,Bool.false_and]
  have he:(v1==v2)=false:=by simpa using hv
  clear hv HE;go_enter Tryz.func66,Tryz.ntmps66;go_wp2;go_ret;exact⟨rfl,HB.out⟩
theorem peEqualFunc{w:World}{v1 v2:Value}{n m:Nat}{PV QV:Nat→Value}{t u:Kt}(h1:KeSl w w.heap.size v1 n PV t)(h2:KeSl w w.heap.size v2 m QV u):
 Calls Tryz.prog 65 #[v1,v2,.func (.func 66) #[] #[]] w fun e w'=>e=.returned (.bool (keptB n m t u))∧Below w.heap.size w w':=by
 obtain⟨a1,c1,rfl,⟨hc1,hr1⟩,hx⟩:=h1
 obtain⟨a2,c2,rfl,⟨hc2,hr2⟩,hy⟩:=h2
 obtain⟨ans,hans⟩:∃ans,keptB n m t u=ans:=⟨_,rfl⟩
 rw[hans]
 unfold keptB at hans
 by_cases hnm:n=m
 ·subst hnm
  rw[decide_eq_true rfl,Bool.true_and]at hans;have HA:=hid hans;have HX:=hid hx;have HY:=hid hy;clear hx hy hans;go_enter Tryz.func65,Tryz.ntmps65;go_wp2;go_loopw [17] (fun iv wr=>∃k:Nat,k≤n∧iv=.int .i64 k∧Hid (Below w.heap.size w wr)∧Hid (restK t u (n-k) k=ans)) (fun iv _=>n-(intOf iv).toNat)
  case atStart=>exact⟨0,Nat.zero_le _,rfl,Below.refl _ _,HA⟩
  case round =>
   obtain⟨k,hk,rfl,HB,HS⟩:=hrel;by_cases hlt:k<n
   ·have hki:(k:Int)<(n:Int):=by omega
    rcases HX.out with h0|⟨b1,o1,rfl,hb1,hx⟩;·omega
    rcases HY.out with h0|⟨b2,o2,rfl,hb2,hy⟩;·omega
    have hstep:=HS.out;rw[show n-k=(n-(k+1))+1 by omega]at hstep;simp only[restK]at hstep;have HSt:=hid hstep;obtain⟨x0,x1,x2,x3⟩:=hx k hlt;obtain⟨y0,y1,y2,y3⟩:=hy k hlt;have HI1:Hid (∀w',Below w.heap.size w w'→IntSl w' w'.heap.size (PV k) (t.L k) (t.X k)):=fun w' hb=>x3.up hb;have HI2:Hid (∀w',Below w.heap.size w w'→IntSl w' w'.heap.size (QV k) (u.L k) (u.X k)):=fun w' hb=>y3.up hb;obtain⟨ap,cp,hpe,_,_⟩:=x3;obtain⟨aq,cq,hqe,_,_⟩:=y3;rw[hpe]at x2 HI1;rw[hqe]at y2 HI2;have g0:wr.cell? ⟨b1,o1+k*3,none⟩=some (.int .i64 (t.V k)):=by rw[HB.out.cell hb1];exact x0
    have g1:wr.cell? ⟨b1,o1+k*3+1,none⟩=some (.int .i64 (t.N k)):=by rw[HB.out.cell hb1];exact x1
    have g2:wr.cell? ⟨b1,o1+k*3+2,none⟩=some (.slice ap (t.L k) cp):=by rw[HB.out.cell hb1];exact x2
    have e0:wr.cell? ⟨b2,o2+k*3,none⟩=some (.int .i64 (u.V k)):=by rw[HB.out.cell hb2];exact y0
    have e1:wr.cell? ⟨b2,o2+k*3+1,none⟩=some (.int .i64 (u.N k)):=by rw[HB.out.cell hb2];exact y1
    have e2:wr.cell? ⟨b2,o2+k*3+2,none⟩=some (.slice aq (u.L k) cq):=by rw[HB.out.cell hb2];exact y2
    have l1:b1<wr.heap.size:=cell_lt g0;have l2:b2<wr.heap.size:=cell_lt e0;clear x0 x1 x2 y0 y1 y2 hpe hqe hx hy hstep;go_wp2_with fail
    have hbb:Below w.heap.size w ((wr.alloc (.cells #[.int .i64 (t.V k),.int .i64 (t.N k),.slice ap (t.L k) cp] 83)).alloc (.cells #[.int .i64 (u.V k),.int .i64 (u.N k),.slice aq (u.L k) cq] 83)) :=
     (HB.out.alloc HB.out.size _).alloc (by simp;exact Nat.le_succ_of_le HB.out.size) _
    refine Calls.mono (peSameK _ _ _ _ _ _ _ _ _ _ _ (HI1.out _ hbb) (HI2.out _ hbb)) ?_;rintro e w2 ⟨rfl,hb3⟩;have HB3:Hid (Below w.heap.size w w2):=hbb.trans (hb3.mono hbb.size);clear hb3 hbb;have hvb:(decide (t.V k=u.V k)&&sameB (t.N k) (u.N k) (t.L k) (u.L k) (t.X k) (u.X k))=verK t u k:=rfl;rw[hvb];clear hvb;cases hs:verK t u k with
    |true =>
     have hn:=HSt.out;rw[hs,Bool.true_and]at hn;have HNx:=hid hn;clear hn;go_wp2;go_roundw
     case rel=>exact⟨k+1,by omega,by go_num,HB3,HNx⟩
     case measure=>simp only[intOf];omega
    |false =>
     have hn:=HSt.out;rw[hs,Bool.false_and]at hn;have HNx:=hid hn;clear hn;go_wp2;go_ret;exact⟨by rw[←HNx.out];rfl,HB3.out⟩
   have hke:n=k:=by omega
   subst hke;have hst:=HS.out;rw[Nat.sub_self]at hst;have HFin:Hid (true=ans):=hst;clear hst;go_wp2;go_ret;exact⟨by rw[←HFin.out];rfl,HB.out⟩
 ·rw[decide_eq_false hnm,Bool.false_and]at hans
  have HA:=hid hans;have hni:¬(n:Int)=(m:Int):=by omega
  clear hans;go_enter Tryz.func65,Tryz.ntmps65;go_wp2;go_ret;exact⟨by rw[←HA.out];rfl,Below.refl _ _⟩
theorem peSame(a1 a2:Bool)(r1 r2:Int){w:World}{v1 v2:Value}{n m:Nat}{PV QV:Nat→Value}{t u:Kt}(h1:KeSl w w.heap.size v1 n PV t)(h2:KeSl w w.heap.size v2 m QV u):
 Calls Tryz.prog 19 #[peerV a1 r1 v1,peerV a2 r2 v2] w fun e w'=>e=.returned (.bool (peerB a1 a2 r1 r2 n m t u))∧Below w.heap.size w w':=by
 have hb:=((Below.refl w.heap.size w).alloc (Nat.le_refl _) (.cells #[.bool a1,.int .i64 r1,v1] 41)).alloc (by simp) (.cells #[.bool a2,.int .i64 r2,v2] 41)
 have HE:=hid (peEqualFunc (h1.up hb) (h2.up hb))
 have HB:=hid hb
 obtain⟨ad1,c1,rfl,_,_⟩:=h1
 obtain⟨ad2,c2,rfl,_,_⟩:=h2
 unfold peerB
 generalize keptB n m t u=kb at *
 clear hb
 unfold peerV
 cases ha:(a1==a2)with
 |false =>
  rw[Bool.false_and];clear HE;go_enter Tryz.func19,Tryz.ntmps19;go_wp2;go_ret;exact⟨rfl,HB.out⟩
 |true =>
  rw[Bool.true_and];by_cases hr:r1=r2
  ·subst hr
   rw[decide_eq_true rfl,Bool.true_and];go_enter Tryz.func19,Tryz.ntmps19;go_wp2_with fail
   refine HE.out.mono ?_;rintro e w3 ⟨rfl,hb3⟩;have HB3:=hid (HB.out.trans (hb3.mono HB.out.size));clear hb3;go_wp2;go_ret;exact⟨rfl,HB3.out⟩
  rw[decide_eq_false hr,Bool.false_and];have he:(r1==r2)=false:=by simpa using hr
  clear hr HE;go_enter Tryz.func19,Tryz.ntmps19;go_wp2;go_ret;exact⟨rfl,HB.out⟩
def encPlan(x:Int×Int×Int):List Value:=[.int .i64 x.1,.int .i64 x.2.1,.int .i64 x.2.2]
open Go.Lib in
theorem eqPlan:EqlAt Tryz.prog 59 (fun x=>.agg (encPlan x).toArray) (fun x y=>x.1==y.1&&(x.2.1==y.2.1&&x.2.2==y.2.2)):=by
 refine⟨fun x y w=>?_,GuardAt.agg _ (by kernel_rfl)⟩;have u3:=Tryz.underlying3;have a3:=Tryz.isAgg3;have z3:=Tryz.sizeOf3;have hS:Tryz.prog.underlying 59=some (.struct (Tryz.prog.fieldsOf 59)):=by kernel_rfl
 have hp:Tryz.prog.stoodInHeld 59=false:=by kernel_rfl
 simp only[encPlan];rw[run_eql_struct,show(10000:Nat)=9999+1 from rfl,run_equalIn_agg w 9999 59 _ _ hS hp];simp only[Program.fieldsOf,Tryz.underlying59];go_simp
 by_cases h1:x.fst=y.fst<;>by_cases h2:x.snd.fst=y.snd.fst<;>by_cases h3:x.snd.snd=y.snd.snd<;>simp[h1,h2,h3]
def verB(b c:Bk)(j:Nat):Bool:=eqB (b.PL j) (c.PL j) (b.PX j) (c.PX j)&&(b.nd j==c.nd j&&(b.of j==c.of j&&b.sz j==c.sz j))
def restB(b c:Bk):Nat→Nat→Bool
 |0,_=>true
 |f+1,k=>verB b c k&&restB b c f (k+1)
def bookB(n m:Nat)(b c:Bk):Bool:=decide (n=m)&&restB b c n 0
theorem bkSameV(pv qv:Value)(l m:Nat)(X Y:Nat→Int)(n1 o1 s1 n2 o2 s2:Int)(w:World)(h1:IntSl w w.heap.size pv l X)(h2:IntSl w w.heap.size qv m Y):
 Calls Tryz.prog 64 #[verV pv n1 o1 s1,verV qv n2 o2 s2] w fun e w'=>e=.returned (.bool (eqB l m X Y&&(n1==n2&&(o1==o2&&s1==s2))))∧Below w.heap.size w w':=by
 have qe:∀(w:World),(binOp .eql 59 (.agg #[.int .i64 n1,.int .i64 o1,.int .i64 s1]) (.agg #[.int .i64 n2,.int .i64 o2,.int .i64 s2])).run Tryz.prog w=.ok (.bool (n1==n2&&(o1==o2&&s1==s2))) w:=fun w=>eqPlan.1 (n1,o1,s1) (n2,o2,s2) w
 have qg:∀(op:BinOp) (a b:Operand) (w:World),(eqGuard op 59 a b (.agg #[.int .i64 n1,.int .i64 o1,.int .i64 s1]) (.agg #[.int .i64 n2,.int .i64 o2,.int .i64 s2])).run Tryz.prog w=.ok () w:=fun op a b w=>eqPlan.2 op a b (n1,o1,s1) (n2,o2,s2) w
 have hb:=((Below.refl w.heap.size w).alloc (Nat.le_refl _) (.cells #[pv,.int .i64 n1,.int .i64 o1,.int .i64 s1] 61)).alloc (by simp) (.cells #[qv,.int .i64 n2,.int .i64 o2,.int .i64 s2] 61)
 have HE:=hid (equal_isl (h1.up hb) (h2.up hb))
 have HB:=hid hb
 obtain⟨a1,c1,rfl,_,_⟩:=h1
 obtain⟨a2,c2,rfl,_,_⟩:=h2
 generalize eqB l m X Y=ev at *
 generalize (n1==n2&&(o1==o2&&s1==s2))=pe at *
 clear hb
 unfold verV
 cases pe with
 |false =>
  clear HE;go_enter Tryz.func64,Tryz.ntmps64;go_wp2;go_ret;exact⟨by rw[Bool.and_false];rfl,HB.out⟩
 |true =>
  rw[Bool.and_true];go_enter Tryz.func64,Tryz.ntmps64;go_wp2_with fail
  refine HE.out.mono ?_;rintro e w3 ⟨rfl,q,hq⟩;have HB3:Hid (Below w.heap.size w w3):=HB.out.trans (by rw[hq];exact⟨rfl,rfl,rfl,Nat.le_refl _,fun _ _=>rfl⟩);clear hq;go_wp2;go_ret;exact⟨rfl,HB3.out⟩
theorem bkEqualFunc{w:World}{v1 v2:Value}{n m:Nat}{PV QV:Nat→Value}{b c:Bk}(h1:VeSl w w.heap.size v1 n PV b)(h2:VeSl w w.heap.size v2 m QV c):
 Calls Tryz.prog 63 #[v1,v2,.func (.func 64) #[] #[]] w fun e w'=>e=.returned (.bool (bookB n m b c))∧Below w.heap.size w w':=by
 obtain⟨a1,c1,rfl,⟨hc1,hr1⟩,hx⟩:=h1
 obtain⟨a2,c2,rfl,⟨hc2,hr2⟩,hy⟩:=h2
 obtain⟨ans,hans⟩:∃ans,bookB n m b c=ans:=⟨_,rfl⟩
 rw[hans]
 unfold bookB at hans
 by_cases hnm:n=m
 ·subst hnm
  rw[decide_eq_true rfl,Bool.true_and]at hans;have HA:=hid hans;have HX:=hid hx;have HY:=hid hy;clear hx hy hans;go_enter Tryz.func63,Tryz.ntmps63;go_wp2;go_loopw [17] (fun iv wr=>∃k:Nat,k≤n∧iv=.int .i64 k∧Hid (Below w.heap.size w wr)∧Hid (restB b c (n-k) k=ans)) (fun iv _=>n-(intOf iv).toNat)
  case atStart=>exact⟨0,Nat.zero_le _,rfl,Below.refl _ _,HA⟩
  case round =>
   obtain⟨k,hk,rfl,HB,HS⟩:=hrel;by_cases hlt:k<n
   ·have hki:(k:Int)<(n:Int):=by omega
    rcases HX.out with h0|⟨b1,o1,rfl,hb1,hx⟩;·omega
    rcases HY.out with h0|⟨b2,o2,rfl,hb2,hy⟩;·omega
    have hstep:=HS.out;rw[show n-k=(n-(k+1))+1 by omega]at hstep;simp only[restB]at hstep;have HSt:=hid hstep;obtain⟨x0,x1,x2,x3,x4⟩:=hx k hlt;obtain⟨y0,y1,y2,y3,y4⟩:=hy k hlt;have HI1:Hid (∀w',Below w.heap.size w w'→IntSl w' w'.heap.size (PV k) (b.PL k) (b.PX k)):=fun w' hb=>x4.up hb;have HI2:Hid (∀w',Below w.heap.size w w'→IntSl w' w'.heap.size (QV k) (c.PL k) (c.PX k)):=fun w' hb=>y4.up hb;obtain⟨ap,cp,hpe,_,_⟩:=x4;obtain⟨aq,cq,hqe,_,_⟩:=y4;rw[hpe]at x0 HI1;rw[hqe]at y0 HI2;have g0:wr.cell? ⟨b1,o1+k*4,none⟩=some (.slice ap (b.PL k) cp):=by rw[HB.out.cell hb1];exact x0
    have g1:wr.cell? ⟨b1,o1+k*4+1,none⟩=some (.int .i64 (b.nd k)):=by rw[HB.out.cell hb1];exact x1
    have g2:wr.cell? ⟨b1,o1+k*4+2,none⟩=some (.int .i64 (b.of k)):=by rw[HB.out.cell hb1];exact x2
    have g3:wr.cell? ⟨b1,o1+k*4+3,none⟩=some (.int .i64 (b.sz k)):=by rw[HB.out.cell hb1];exact x3
    have e0:wr.cell? ⟨b2,o2+k*4,none⟩=some (.slice aq (c.PL k) cq):=by rw[HB.out.cell hb2];exact y0
    have e1:wr.cell? ⟨b2,o2+k*4+1,none⟩=some (.int .i64 (c.nd k)):=by rw[HB.out.cell hb2];exact y1
    have e2:wr.cell? ⟨b2,o2+k*4+2,none⟩=some (.int .i64 (c.of k)):=by rw[HB.out.cell hb2];exact y2
    have e3:wr.cell? ⟨b2,o2+k*4+3,none⟩=some (.int .i64 (c.sz k)):=by rw[HB.out.cell hb2];exact y3
    have l1:b1<wr.heap.size:=cell_lt g0;have l2:b2<wr.heap.size:=cell_lt e0;clear x0 x1 x2 x3 y0 y1 y2 y3 hpe hqe hx hy hstep;go_wp2_with fail
    have hbb:Below w.heap.size w ((wr.alloc (.cells #[.slice ap (b.PL k) cp,.int .i64 (b.nd k),.int .i64 (b.of k),.int .i64 (b.sz k)] 61)).alloc (.cells #[.slice aq (c.PL k) cq,.int .i64 (c.nd k),.int .i64 (c.of k),.int .i64 (c.sz k)] 61)) :=
     (HB.out.alloc HB.out.size _).alloc (by simp;exact Nat.le_succ_of_le HB.out.size) _
    refine Calls.mono (bkSameV _ _ _ _ _ _ _ _ _ _ _ _ _ (HI1.out _ hbb) (HI2.out _ hbb)) ?_;rintro e w2 ⟨rfl,hb3⟩;have HB3:Hid (Below w.heap.size w w2):=hbb.trans (hb3.mono hbb.size);clear hb3 hbb;have hvb:(eqB (b.PL k) (c.PL k) (b.PX k) (c.PX k)&&(b.nd k==c.nd k&&(b.of k==c.of k&&b.sz k==c.sz k)))=verB b c k:=rfl;rw[hvb];clear hvb;cases hs:verB b c k with
    |true =>
     have hn:=HSt.out;rw[hs,Bool.true_and]at hn;have HNx:=hid hn;clear hn;go_wp2;go_roundw
     case rel=>exact⟨k+1,by omega,by go_num,HB3,HNx⟩
     case measure=>simp only[intOf];omega
    |false =>
     have hn:=HSt.out;rw[hs,Bool.false_and]at hn;have HNx:=hid hn;clear hn;go_wp2;go_ret;exact⟨by rw[←HNx.out];rfl,HB3.out⟩
   have hke:n=k:=by omega
   subst hke;have hst:=HS.out;rw[Nat.sub_self]at hst;have HFin:Hid (true=ans):=hst;clear hst;go_wp2;go_ret;exact⟨by rw[←HFin.out];rfl,HB.out⟩
 ·rw[decide_eq_false hnm,Bool.false_and]at hans
  have HA:=hid hans;have hni:¬(n:Int)=(m:Int):=by omega
  clear hans;go_enter Tryz.func63,Tryz.ntmps63;go_wp2;go_ret;exact⟨by rw[←HA.out];rfl,Below.refl _ _⟩
theorem bkSame{w:World}{v1 v2:Value}{n m:Nat}{PV QV:Nat→Value}{b c:Bk}(h1:VeSl w w.heap.size v1 n PV b)(h2:VeSl w w.heap.size v2 m QV c):
 Calls Tryz.prog 18 #[bookV v1,bookV v2] w fun e w'=>e=.returned (.bool (bookB n m b c))∧Below w.heap.size w w':=by
 have hb:=((Below.refl w.heap.size w).alloc (Nat.le_refl _) (.cells #[v1] 24)).alloc (by simp) (.cells #[v2] 24)
 have HE:=hid (bkEqualFunc (h1.up hb) (h2.up hb))
 have HB:=hid hb
 obtain⟨a1,c1,rfl,_,_⟩:=h1
 obtain⟨a2,c2,rfl,_,_⟩:=h2
 clear hb
 unfold bookV
 go_enter Tryz.func18,Tryz.ntmps18
 go_wp2_with fail
 refine HE.out.mono ?_
 rintro e w3 ⟨rfl,hb3⟩
 have HB3:=hid (HB.out.trans (hb3.mono HB.out.size))
 clear hb3
 go_wp2
 go_ret
 exact⟨rfl,HB3.out⟩
def PrAt(w:World)(g:Nat)(th:Bool)(room:Int)(a:Option Addr)(m c:Nat)(UV:Nat→Value)(t:Kt):Prop :=
 w.heap[g]?=some (.cells #[.bool th,.int .i64 room,.slice a m c] 41 (0,0))∧KeSl w w.heap.size (.slice a m c) m UV t
theorem PrAt.up{w w':World}{g:Nat}{th:Bool}{room:Int}{a:Option Addr}{m c:Nat}{UV:Nat→Value}{t:Kt}(h:PrAt w g th room a m c UV t)(hb:Below w.heap.size w w'):PrAt w' g th room a m c UV t:=⟨stayB h.1 hb,h.2.up hb⟩
theorem PrAt.cells{w:World}{g:Nat}{th:Bool}{room:Int}{a:Option Addr}{m c:Nat}{UV:Nat→Value}{t:Kt}(h:PrAt w g th room a m c UV t):w.cell? ⟨g,0,none⟩=some (.bool th)∧w.cell? ⟨g,1,none⟩=some (.int .i64 room)∧w.cell? ⟨g,2,none⟩=some (.slice a m c):=three_at h.1
theorem PrAt.box{w:World}{th:Bool}{room:Int}{a:Option Addr}{m c:Nat}{UV:Nat→Value}{t:Kt}(h:KeSl w w.heap.size (.slice a m c) m UV t):PrAt (w.alloc (.cells #[.bool th,.int .i64 room,.slice a m c] 41)) w.heap.size th room a m c UV t:=⟨heap_alloc_new _ _,h.up (below_alloc _ _)⟩
def BkAt(w:World)(g:Nat)(a:Option Addr)(n c:Nat)(PV:Nat→Value)(b:Bk):Prop :=
 w.heap[g]?=some (.cells #[.slice a n c] 24 (0,0))∧VeSl w w.heap.size (.slice a n c) n PV b
theorem BkAt.up{w w':World}{g:Nat}{a:Option Addr}{n c:Nat}{PV:Nat→Value}{b:Bk}(h:BkAt w g a n c PV b)(hb:Below w.heap.size w w'):BkAt w' g a n c PV b:=⟨stayB h.1 hb,h.2.up hb⟩
theorem BkAt.cell{w:World}{g:Nat}{a:Option Addr}{n c:Nat}{PV:Nat→Value}{b:Bk}(h:BkAt w g a n c PV b):w.cell? ⟨g,0,none⟩=some (.slice a n c):=cell_at h.1 rfl
def KpAt(w:World)(g:Nat)(ver N:Int)(a:Option Addr)(l c:Nat)(X:Nat→Int):Prop :=
 w.heap[g]?=some (.cells #[.int .i64 ver,.int .i64 N,.slice a l c] 83 (0,0))∧IntSl w w.heap.size (.slice a l c) l X
theorem KpAt.up{w w':World}{g:Nat}{ver N:Int}{a:Option Addr}{l c:Nat}{X:Nat→Int}(h:KpAt w g ver N a l c X)(hb:Below w.heap.size w w'):KpAt w' g ver N a l c X:=⟨stayB h.1 hb,h.2.up hb⟩
theorem KpAt.cells{w:World}{g:Nat}{ver N:Int}{a:Option Addr}{l c:Nat}{X:Nat→Int}(h:KpAt w g ver N a l c X):w.cell? ⟨g,0,none⟩=some (.int .i64 ver)∧w.cell? ⟨g,1,none⟩=some (.int .i64 N)∧w.cell? ⟨g,2,none⟩=some (.slice a l c):=three_at h.1
theorem KeSl.at{w:World}{B:Nat}{a:Option Addr}{m c:Nat}{UV:Nat→Value}{t:Kt}(h:KeSl w B (.slice a m c) m UV t){i:Nat}(hi:i<m):
 ∃bl off,a=some ⟨bl,off,none⟩∧m≤c∧w.cell? ⟨bl,off+i*3,none⟩=some (.int .i64 (t.V i))∧w.cell? ⟨bl,off+i*3+1,none⟩=some (.int .i64 (t.N i))∧w.cell? ⟨bl,off+i*3+2,none⟩=some (UV i)∧IntSl w B (UV i) (t.L i) (t.X i):=by
 obtain⟨ad,cap,he,⟨h0,_⟩,h2⟩:=h
 injection he with e1 _ e3
 subst e1 e3
 rcases h2 with h2|⟨bl,off,rfl,_,h5⟩
 ·omega
 ·obtain⟨g1,g2,g3,g4⟩:=h5 i hi
  exact⟨bl,off,rfl,h0,g1,g2,g3,g4⟩
theorem two_at{w:World}{g:Nat}{T:TypeId}{u0 u1:Value}(h:w.heap[g]?=some (.cells #[u0,u1] T (0,0))):w.cell? ⟨g,0,none⟩=some u0∧w.cell? ⟨g,1,none⟩=some u1:=⟨cell_at h rfl,cell_at h rfl⟩
def verM(n:Nat)(b:Bk)(np:Nat)(P:Ps)(k:Int):Int:=if peersE n b np P=0 then(if 0≤k∧k<(n:Int)then 0 else 4)else peersE n b np P
def meshB(n n':Nat)(b b':Bk)(np np':Nat)(P P':Ps):Bool:=bookB n n' b b'&&peersB np np' P P'
def nL(P:Ps)(l:List (Nat×Nat))(j:Nat):Int:=(P.t (l.getD j (0,0)).1).N (l.getD j (0,0)).2
def vaL(UV:Nat→Nat→Value)(l:List (Nat×Nat))(j:Nat):Value:=UV (l.getD j (0,0)).1 (l.getD j (0,0)).2
def lL(P:Ps)(l:List (Nat×Nat))(j:Nat):Nat:=(P.t (l.getD j (0,0)).1).L (l.getD j (0,0)).2
def xL(P:Ps)(l:List (Nat×Nat))(j:Nat):Nat→Int:=(P.t (l.getD j (0,0)).1).X (l.getD j (0,0)).2
theorem getD_old{α:Type}(l:List α)(x d:α){j:Nat}(h:j<l.length):(l++[x]).getD j d=l.getD j d:=by
 rw[List.getD_eq_getElem?_getD,List.getD_eq_getElem?_getD,List.getElem?_append_left h]
theorem getD_new{α:Type}(l:List α)(x d:α):(l++[x]).getD l.length d=x:=by
 simp[List.getD_eq_getElem?_getD]
theorem PsSl.ints{w:World}{B:Nat}{a:Option Addr}{n c:Nat}{KV:Nat→Value}{UV:Nat→Nat→Value}{P:Ps}(h:PsSl w B (.slice a n c) n KV UV P){k i:Nat}(hk:k<n)(hi:i<P.m k):IntSl w B (UV k i) ((P.t k).L i) ((P.t k).X i):=by
 obtain⟨_,_,_,_,_,_,_,h3⟩:=h.at hk;obtain⟨ad,cap,_,_,h2⟩:=h3;rcases h2 with h2|⟨bl,off,_,_,h5⟩;·omega
 exact(h5 i hi).2.2.2
section
section
variable {n lp : Nat} {b : Bk} {X : Nat → Int} {nd of sz : Int}
end
theorem getD_mem{l:List Int}{x:Int}:hasB (fun j=>l.getD j 0) l.length x=true↔x∈l:=by
 rw[hasB_iff,List.mem_iff_getElem?];constructor
 ·rintro⟨j,hj,e⟩
  exact⟨j,by rw[←e];simp[List.getD_eq_getElem?_getD,hj]⟩
 rintro⟨j,e⟩;have hj:=(List.getElem?_eq_some_iff.1 e).1;refine⟨j,hj,?_⟩;show l.getD j 0=x;simp[List.getD_eq_getElem?_getD,e]
theorem pickL_rise(p:Nat→Bool)(j:Nat):List.Pairwise (· < ·) (pickL p j):=by
 unfold pickL;rw[List.pairwise_map];refine List.Pairwise.imp (fun h=>?_) (List.Pairwise.filter p List.pairwise_lt_range);omega
end
section
def mayK(P:Ps)(ver:Int)(k:Nat):Prop:=P.th k=true∧fstAt (P.t k).V ver (P.m k) 0<0
theorem fitK_iff(P:Ps)(ver left:Int)(k:Nat):fitK P ver left k=true↔mayK P ver k∧leftK P k=left:=by
 unfold fitK noneK mayK;rw[Bool.and_eq_true,Bool.and_eq_true,decide_eq_true_iff,decide_eq_true_iff];constructor;·rintro⟨h1,h2,h3⟩;exact⟨⟨h1,h3⟩,h2⟩
 rintro⟨⟨h1,h3⟩,h2⟩;exact⟨h1,h2,h3⟩
theorem mem_lefts{P:Ps}{ver:Int}{np r:Nat}{x:Int}:x∈lefts P ver np r↔∃k:Nat,x=k∧k<np∧mayK P ver k∧1≤leftK P k∧leftK P k≤r:=by
 induction r with
 |zero =>
  simp only[lefts,List.not_mem_nil,false_iff];rintro⟨k,_,_,_,h1,h2⟩;omega
 |succ r ih =>
  simp only[lefts,List.mem_append];rw[ih,mem_pickL];constructor
  ·rintro(⟨k,h1,h2,e⟩|⟨k,e,h1,h2,h3,h4⟩)
   ·obtain⟨g1,g2⟩:=(fitK_iff _ _ _ _).1 h2
    exact⟨k,e,h1,g1,by omega,by omega⟩
   exact⟨k,e,h1,h2,h3,by omega⟩
  rintro⟨k,e,h1,h2,h3,h4⟩;by_cases c:leftK P k=((r+1:Nat):Int);·exact Or.inl ⟨k,h1,(fitK_iff _ _ _ _).2 ⟨h2,c⟩,e⟩
  exact Or.inr ⟨k,e,h1,h2,h3,by omega⟩
def AheadK(P:Ps)(x y:Int):Prop:=x≠y∧leftK P y.toNat≤leftK P x.toNat
theorem lefts_ahead(P:Ps)(ver:Int)(np r:Nat):List.Pairwise (AheadK P) (lefts P ver np r):=by
 induction r with
 |zero=>exact List.Pairwise.nil
 |succ r ih =>
  simp only[lefts];rw[List.pairwise_append];have hl:∀x,x∈pickL (fitK P ver ((r+1:Nat):Int)) np→leftK P x.toNat=((r+1:Nat):Int):=fun x hx=>by
   obtain⟨k,_,h2,rfl⟩:=mem_pickL.1 hx;rw[Int.toNat_natCast];exact((fitK_iff _ _ _ _).1 h2).2
  refine⟨?_,ih,fun x hx y hy=>?_⟩
  ·refine(pickL_rise (fitK P ver ((r+1:Nat):Int)) np).imp_of_mem fun {x y} hx hy hxy=>?_
   exact⟨by omega,by rw[hl x hx,hl y hy];exact Int.le_refl _⟩
  have h1:=hl x hx;obtain⟨k,rfl,_,_,_,h4⟩:=mem_lefts.1 hy;have h2:leftK P (k:Int).toNat≤(r:Int):=by rw[Int.toNat_natCast];exact h4
  refine⟨fun e=>?_,by omega⟩;rw[e]at h1;omega
section
variable {P : Ps} {ver : Int} {np q : Nat}
theorem take_each{i:Nat}(hi:i<((orderL P ver np).take q).length):∃k:Nat,((orderL P ver np).take q).getD i 0=(k:Int)∧k<np∧mayK P ver k∧1≤leftK P k∧leftK P k≤20:=by
 have hm:((orderL P ver np).take q).getD i 0∈orderL P ver np:=List.mem_of_mem_take (getD_mem.1 ((hasB_iff _ _ _).2 ⟨i,hi,rfl⟩));obtain⟨k,e,h1,h2,h3,h4⟩:=mem_lefts.1 hm;exact⟨k,e,h1,h2,h3,h4⟩
theorem take_ahead{i j:Nat}(hij:i<j)(hj:j<((orderL P ver np).take q).length):AheadK P (((orderL P ver np).take q).getD i 0) (((orderL P ver np).take q).getD j 0):=by
 have hp:List.Pairwise (AheadK P) ((orderL P ver np).take q):=(lefts_ahead P ver np 20).sublist (List.take_sublist _ _);have h:=List.pairwise_iff_getElem.1 hp i j (by omega) hj hij;rw[List.getD_eq_getElem?_getD,List.getD_eq_getElem?_getD,List.getElem?_eq_getElem (by omega),List.getElem?_eq_getElem hj];exact h
end
theorem forL_len{P:Ps}{ver:Int}{np:Nat}{many:Int}(h:manyE P ver np many=0):forL P ver np many=(orderL P ver np).take many.toNat∧0≤many∧(((orderL P ver np).take many.toNat).length:Int)=many:=by
 unfold forL;rw[if_pos h];unfold manyE at h;by_cases h1:0≤many∧many≤8
 ·rw[if_pos h1]at h
  by_cases h2:((orderL P ver np).length:Int)<many;·rw[if_pos h2]at h;omega
  refine⟨rfl,h1.1,?_⟩;rw[List.length_take];omega
 rw[if_neg h1]at h;omega
end
theorem tmod_bd(k n:Int)(hn:1≤n): -n<k.tmod n∧k.tmod n<n∧(if k.tmod n<0 then k.tmod n+n else k.tmod n)=k%n:=by
 by_cases hk:0≤k
 ·have e:k.tmod n=k%n:=Int.tmod_eq_emod_of_nonneg hk
  have h1:=Int.emod_nonneg k (show n≠0 by omega);have h2:=Int.emod_lt_of_pos k (show 0<n by omega);rw[e,if_neg (by omega)];omega
 obtain⟨m,rfl⟩:∃m:Int,k = -m:=⟨-k,by omega⟩;have e:(-m).tmod n = -(m%n):=by rw[Int.neg_tmod,Int.tmod_eq_emod_of_nonneg (by omega)]
 have h1:=Int.emod_nonneg m (show n≠0 by omega);have h2:=Int.emod_lt_of_pos m (show 0<n by omega);rw[e];refine⟨by omega,by omega,?_⟩;have e2:(-m)%n=(-(m%n))%n:=by
  have:=Int.mul_ediv_add_emod m n;have e3 : -m = -(m%n)+n*(-(m/n)):=by rw[Int.mul_neg];omega
  rw[e3,Int.add_mul_emod_self_left]
 rw[e2];by_cases h0:m%n=0;·rw[h0];simp
 rw[if_pos (by omega)];have e4:(-(m%n))%n=(-(m%n)+n)%n:=by simp
 have e5:(-(m%n)+n)%n = -(m%n)+n:=Int.emod_eq_of_lt (by omega) (by omega);rw[e4,e5]
theorem at_any(k n:Int)(hn:1≤n∧n≤100)(w:World):
 Calls Tryz.prog 20 #[.int .i64 k,.int .i64 n] w fun e w'=>e=.returned (.int .i64 (k%n))∧w'=w:=by
 obtain⟨h1,h2,h3⟩:=tmod_bd k n hn.1
 rw[←h3]
 clear h3
 by_cases h0:k.tmod n<0
 ·rw[if_pos h0]
  go_enter Tryz.func20,Tryz.ntmps20;go_wp2;go_ret;exact⟨rfl,rfl⟩
 ·rw[if_neg h0]
  go_enter Tryz.func20,Tryz.ntmps20;go_wp2;go_ret;exact⟨rfl,rfl⟩
theorem prod_bd{a b:Int}(ha:0≤a∧a≤30)(hb:0≤b∧b≤30):0≤a*b∧a*b≤900:=by
 obtain⟨a0,a1⟩:=ha;obtain⟨b0,b1⟩:=hb;refine⟨Int.mul_nonneg a0 b0,?_⟩;have h1:a*b≤30*b:=Int.mul_le_mul_of_nonneg_right a1 b0;omega
theorem times_any(a b:Int)(ha:0≤a∧a≤30)(hb:0≤b∧b≤30)(w:World):
 Calls Tryz.prog 213 #[.int .i64 a,.int .i64 b] w fun e w'=>e=.returned (.int .i64 (a*b%31))∧w'=w:=by
 have hab:=prod_bd ha hb
 go_enter Tryz.func213,Tryz.ntmps213
 go_wp2
 go_ret
 exact⟨rfl,rfl⟩
theorem both_ok(a b:Int)(ha:0≤a∧a≤30)(hb:0≤b∧b≤30)(w:World):
 Calls Tryz.prog 123 #[.int .i64 a,.int .i64 b] w fun e w'=>e=.returned (.int .i64 0)∧w'=w:=by
 go_enter Tryz.func123,Tryz.ntmps123
 go_wp2_with(go_at_call 144;go_must(refine(check_ok _ (by omega) _).mono ?_;rintro e w' ⟨rfl,rfl⟩))
 go_ret
 exact⟨rfl,rfl⟩
theorem add_ok(a b:Int)(ha:0≤a∧a≤30)(hb:0≤b∧b≤30)(w:World):
 Calls Tryz.prog 85 #[.int .i64 a,.int .i64 b] w fun e w'=>e=.returned (.tuple #[.int .i64 ((a+b)%31),.int .i64 0])∧w'=w:=by
 go_enter Tryz.func85,Tryz.ntmps85
 go_wp2_with(go_at_call 123;go_must(refine(both_ok _ _ (by omega) (by omega) _).mono ?_;rintro e w' ⟨rfl,rfl⟩))
 go_ret2
 exact⟨rfl,rfl⟩
theorem mul_ok(a b:Int)(ha:0≤a∧a≤30)(hb:0≤b∧b≤30)(w:World):
 Calls Tryz.prog 187 #[.int .i64 a,.int .i64 b] w fun e w'=>e=.returned (.tuple #[.int .i64 (a*b%31),.int .i64 0])∧w'=w:=by
 go_enter Tryz.func187,Tryz.ntmps187
 go_wp2_with(first
  |(go_at_call 123;go_must(refine(both_ok _ _ (by omega) (by omega) _).mono ?_;rintro e w' ⟨rfl,rfl⟩))
  |(go_at_call 213;go_must(refine(times_any _ _ (by omega) (by omega) _).mono ?_;rintro e w' ⟨rfl,rfl⟩)))
 go_ret2
 exact⟨rfl,rfl⟩
def pw(b:Int):Nat→Int
 |0=>1
 |k+1=>pw b k*b%31
theorem pw_bd(b:Int)(k:Nat):0≤pw b k∧pw b k≤30:=by
 cases k with
 |zero=>simp only[pw];omega
 |succ k=>simp only[pw];omega
theorem inverse_any(b:Int)(hb:0≤b∧b≤30)(w:World):
 Calls Tryz.prog 223 #[.int .i64 b] w fun e w'=>e=.returned (.int .i64 (pw b 29))∧w'=w:=by
 go_enter Tryz.func223,Tryz.ntmps223
 go_wp2
 go_loop [3,4] (fun r i=>∃k:Nat,k≤29∧r=.int .i64 (pw b k)∧i=.int .i64 k) (fun _ i=>29-(intOf i).toNat)
 case atStart=>exact⟨0,by omega,rfl,rfl⟩
 case round =>
  obtain⟨k,hk,rfl,rfl⟩:=hrel;have hp:=pw_bd b k;go_wp2_with(go_at_call 213;go_must(refine(times_any _ _ hp hb _).mono ?_;rintro e w' ⟨rfl,rfl⟩))
  ·have hlt:k<29:=by omega
   go_round
   case rel=>exact⟨k+1,by omega,rfl,by go_num⟩
   case measure=>simp only[intOf];omega
  have hge:k=29:=by omega
  subst hge;go_ret;exact⟨rfl,rfl⟩
def dv(a b:Int):Int:=a*pw b 29%31
theorem div_ok(a b:Int)(ha:0≤a∧a≤30)(hb:1≤b∧b≤30)(w:World):
 Calls Tryz.prog 214 #[.int .i64 a,.int .i64 b] w fun e w'=>e=.returned (.tuple #[.int .i64 (dv a b),.int .i64 0])∧w'=w:=by
 have hp:=pw_bd b 29
 go_enter Tryz.func214,Tryz.ntmps214
 go_wp2_with(first
  |(go_at_call 123;go_must(refine(both_ok _ _ (by omega) (by omega) _).mono ?_;rintro e w' ⟨rfl,rfl⟩))
  |(go_at_call 223;go_must(refine(inverse_any _ (by omega) _).mono ?_;rintro e w' ⟨rfl,rfl⟩))
  |(go_at_call 213;go_must(refine(times_any _ _ (by omega) hp _).mono ?_;rintro e w' ⟨rfl,rfl⟩)))
 go_ret2
 exact⟨rfl,rfl⟩
theorem inv_all:∀k:Fin 31,k.val≠0→(pw (k.val:Int) 29*(k.val:Int))%31=1:=by decide +kernel
theorem dv_bd(a b:Int):0≤dv a b∧dv a b≤30:=by unfold dv;omega
end Go.Proofs.YtajmnlhfnhbleaaGreat
