/- Several texts of one proof, in their order. -/
import Derived.Test.YtajmnlhfnhbleaaGreatDSum7
namespace Go.Proofs.YtajmnlhfnhbleaaGreat
open Go.RowKit Go.Shelf
set_option linter.unusedVariables false
set_option maxHeartbeats 2000000
def encPlan(x:Int×Int×Int):List Value:=[.int .i64 x.1,.int .i64 x.2.1,.int .i64 x.2.2]
open Go.Lib in
theorem eqPlan:EqlAt Tryz.prog 59 (fun x=>.agg (encPlan x).toArray) (fun x y=>x.1==y.1&&(x.2.1==y.2.1&&x.2.2==y.2.2)):=by
 refine⟨fun x y w=>?_,GuardAt.agg _ (by kernel_rfl)⟩;have u3:=Tryz.underlying3;have a3:=Tryz.isAgg3;have z3:=Tryz.sizeOf3;have hS:Tryz.prog.underlying 59=some (.struct (Tryz.prog.fieldsOf 59)):=by kernel_rfl
 have hp:Tryz.prog.stoodInHeld 59=false:=by kernel_rfl
 simp only[encPlan];rw[run_eql_struct,show(10000:Nat)=9999+1 from rfl,run_equalIn_agg w 9999 59 _ _ hS hp];simp only[Program.fieldsOf,Tryz.underlying59];go_simp
 by_cases h1:x.fst=y.fst<;>by_cases h2:x.snd.fst=y.snd.fst<;>by_cases h3:x.snd.snd=y.snd.snd<;>simp[h1,h2,h3]
def verB(b c:Bk)(j:Nat):Bool:=eqB (b.PL j) (c.PL j) (b.PX j) (c.PX j)&&(b.nd j==c.nd j&&(b.of j==c.of j&&b.sz j==c.sz j))
def restB(b c:Bk):Nat→Nat→Bool
 |0,_=>true
 |f+1,k=>verB b c k&&restB b c f (k+1)
def bookB(n m:Nat)(b c:Bk):Bool:=decide (n=m)&&restB b c n 0
theorem sameV_any(pv qv:Value)(l m:Nat)(X Y:Nat→Int)(n1 o1 s1 n2 o2 s2:Int)(w:World)(h1:IntSl w w.heap.size pv l X)(h2:IntSl w w.heap.size qv m Y):
 Calls Tryz.prog 88 #[verV pv n1 o1 s1,verV qv n2 o2 s2] w fun e w'=>e=.returned (.bool (eqB l m X Y&&(n1==n2&&(o1==o2&&s1==s2))))∧Below w.heap.size w w':=by
 have qe:∀(w:World),(binOp .eql 59 (.agg #[.int .i64 n1,.int .i64 o1,.int .i64 s1]) (.agg #[.int .i64 n2,.int .i64 o2,.int .i64 s2])).run Tryz.prog w=.ok (.bool (n1==n2&&(o1==o2&&s1==s2))) w:=fun w=>eqPlan.1 (n1,o1,s1) (n2,o2,s2) w
 have qg:∀(op:BinOp) (a b:Operand) (w:World),(eqGuard op 59 a b (.agg #[.int .i64 n1,.int .i64 o1,.int .i64 s1]) (.agg #[.int .i64 n2,.int .i64 o2,.int .i64 s2])).run Tryz.prog w=.ok () w:=fun op a b w=>eqPlan.2 op a b (n1,o1,s1) (n2,o2,s2) w
 have hb:=((Below.refl w.heap.size w).alloc (Nat.le_refl _) (.cells #[pv,.int .i64 n1,.int .i64 o1,.int .i64 s1] 61)).alloc (by simp) (.cells #[qv,.int .i64 n2,.int .i64 o2,.int .i64 s2] 61)
 have HE:=hid (equal_isl (h1.up hb) (h2.up hb))
 have HB:=hid hb
 obtain⟨a1,c1,rfl,_,_⟩:=h1
 obtain⟨a2,c2,rfl,_,_⟩:=h2
 generalize eqB l m X Y=ev at *
 generalize (n1==n2&&(o1==o2&&s1==s2))=pe at *
 clear hb
 unfold verV
 cases ev with
 |false =>
  go_enter Tryz.func88,Tryz.ntmps88;go_wp2_with fail
  refine HE.out.mono ?_;rintro e w3 ⟨rfl,q,hq⟩;have HB3:Hid (Below w.heap.size w w3):=HB.out.trans (by rw[hq];exact⟨rfl,rfl,rfl,Nat.le_refl _,fun _ _=>rfl⟩);clear hq;go_wp2;go_ret;exact⟨rfl,HB3.out⟩
 |true =>
  go_enter Tryz.func88,Tryz.ntmps88;go_wp2_with fail
  refine HE.out.mono ?_;rintro e w3 ⟨rfl,q,hq⟩;subst hq;go_wp2;go_ret;exact⟨rfl,HB.out.trans ⟨rfl,rfl,rfl,Nat.le_refl _,fun _ _=>rfl⟩⟩
theorem equalFunc_ver{w:World}{v1 v2:Value}{n m:Nat}{PV QV:Nat→Value}{b c:Bk}(h1:VeSl w w.heap.size v1 n PV b)(h2:VeSl w w.heap.size v2 m QV c):
 Calls Tryz.prog 63 #[v1,v2,.func (.func 88) #[] #[]] w fun e w'=>e=.returned (.bool (bookB n m b c))∧Below w.heap.size w w':=by
 obtain⟨a1,c1,rfl,⟨hc1,hr1⟩,hx⟩:=h1
 obtain⟨a2,c2,rfl,⟨hc2,hr2⟩,hy⟩:=h2
 obtain⟨ans,hans⟩:∃ans,bookB n m b c=ans:=⟨_,rfl⟩
 rw[hans]
 unfold bookB at hans
 by_cases hnm:n=m
 ·subst hnm
  rw[decide_eq_true rfl,Bool.true_and]at hans;have HA:=hid hans;have HX:=hid hx;have HY:=hid hy;clear hx hy hans;go_enter Tryz.func63,Tryz.ntmps63;go_wp2;go_loopw [17] (fun iv wr=>∃k:Nat,k≤n∧iv=.int .i64 k∧Hid (Below w.heap.size w wr)∧Hid (restB b c (n-k) k=ans)) (fun iv _=>n-(intOf iv).toNat)
  case atStart=>exact⟨0,Nat.zero_le _,rfl,Below.refl _ _,HA⟩
  case round =>
   obtain⟨k,hk,rfl,HB,HS⟩:=hrel;by_cases hlt:k<n
   ·have hki:(k:Int)<(n:Int):=by omega
    rcases HX.out with h0|⟨b1,o1,rfl,hb1,hx⟩;·omega
    rcases HY.out with h0|⟨b2,o2,rfl,hb2,hy⟩;·omega
    have hstep:=HS.out;rw[show n-k=(n-(k+1))+1 by omega]at hstep;simp only[restB]at hstep;have HSt:=hid hstep;obtain⟨x0,x1,x2,x3,x4⟩:=hx k hlt;obtain⟨y0,y1,y2,y3,y4⟩:=hy k hlt;have HI1:Hid (∀w',Below w.heap.size w w'→IntSl w' w'.heap.size (PV k) (b.PL k) (b.PX k)):=fun w' hb=>x4.up hb;have HI2:Hid (∀w',Below w.heap.size w w'→IntSl w' w'.heap.size (QV k) (c.PL k) (c.PX k)):=fun w' hb=>y4.up hb;obtain⟨ap,cp,hpe,_,_⟩:=x4;obtain⟨aq,cq,hqe,_,_⟩:=y4;rw[hpe]at x0 HI1;rw[hqe]at y0 HI2;have g0:wr.cell? ⟨b1,o1+k*4,none⟩=some (.slice ap (b.PL k) cp):=by rw[HB.out.cell hb1];exact x0
    have g1:wr.cell? ⟨b1,o1+k*4+1,none⟩=some (.int .i64 (b.nd k)):=by rw[HB.out.cell hb1];exact x1
    have g2:wr.cell? ⟨b1,o1+k*4+2,none⟩=some (.int .i64 (b.of k)):=by rw[HB.out.cell hb1];exact x2
    have g3:wr.cell? ⟨b1,o1+k*4+3,none⟩=some (.int .i64 (b.sz k)):=by rw[HB.out.cell hb1];exact x3
    have e0:wr.cell? ⟨b2,o2+k*4,none⟩=some (.slice aq (c.PL k) cq):=by rw[HB.out.cell hb2];exact y0
    have e1:wr.cell? ⟨b2,o2+k*4+1,none⟩=some (.int .i64 (c.nd k)):=by rw[HB.out.cell hb2];exact y1
    have e2:wr.cell? ⟨b2,o2+k*4+2,none⟩=some (.int .i64 (c.of k)):=by rw[HB.out.cell hb2];exact y2
    have e3:wr.cell? ⟨b2,o2+k*4+3,none⟩=some (.int .i64 (c.sz k)):=by rw[HB.out.cell hb2];exact y3
    have l1:b1<wr.heap.size:=cell_lt g0;have l2:b2<wr.heap.size:=cell_lt e0;clear x0 x1 x2 x3 y0 y1 y2 y3 hpe hqe hx hy hstep;go_wp2_with fail
    have hbb:Below w.heap.size w ((wr.alloc (.cells #[.slice ap (b.PL k) cp,.int .i64 (b.nd k),.int .i64 (b.of k),.int .i64 (b.sz k)] 61)).alloc (.cells #[.slice aq (c.PL k) cq,.int .i64 (c.nd k),.int .i64 (c.of k),.int .i64 (c.sz k)] 61)) :=
     (HB.out.alloc HB.out.size _).alloc (by simp;exact Nat.le_succ_of_le HB.out.size) _
    refine Calls.mono (sameV_any _ _ _ _ _ _ _ _ _ _ _ _ _ (HI1.out _ hbb) (HI2.out _ hbb)) ?_;rintro e w2 ⟨rfl,hb3⟩;have HB3:Hid (Below w.heap.size w w2):=hbb.trans (hb3.mono hbb.size);clear hb3 hbb;have hvb:(eqB (b.PL k) (c.PL k) (b.PX k) (c.PX k)&&(b.nd k==c.nd k&&(b.of k==c.of k&&b.sz k==c.sz k)))=verB b c k:=rfl;rw[hvb];clear hvb;cases hs:verB b c k with
    |true =>
     have hn:=HSt.out;rw[hs,Bool.true_and]at hn;have HNx:=hid hn;clear hn;go_wp2;go_roundw
     case rel=>exact⟨k+1,by omega,by go_num,HB3,HNx⟩
     case measure=>simp only[intOf];omega
    |false =>
     have hn:=HSt.out;rw[hs,Bool.false_and]at hn;have HNx:=hid hn;clear hn;go_wp2;go_ret;exact⟨by rw[←HNx.out];rfl,HB3.out⟩
   have hke:n=k:=by omega
   subst hke;have hst:=HS.out;rw[Nat.sub_self]at hst;have HFin:Hid (true=ans):=hst;clear hst;go_wp2;go_ret;exact⟨by rw[←HFin.out];rfl,HB.out⟩
 ·rw[decide_eq_false hnm,Bool.false_and]at hans
  have HA:=hid hans;have hni:¬(n:Int)=(m:Int):=by omega
  clear hans;go_enter Tryz.func63,Tryz.ntmps63;go_wp2;go_ret;exact⟨by rw[←HA.out];rfl,Below.refl _ _⟩
theorem sameBook_any{w:World}{v1 v2:Value}{n m:Nat}{PV QV:Nat→Value}{b c:Bk}(h1:VeSl w w.heap.size v1 n PV b)(h2:VeSl w w.heap.size v2 m QV c):
 Calls Tryz.prog 48 #[bookV v1,bookV v2] w fun e w'=>e=.returned (.bool (bookB n m b c))∧Below w.heap.size w w':=by
 have hb:=((Below.refl w.heap.size w).alloc (Nat.le_refl _) (.cells #[v1] 24)).alloc (by simp) (.cells #[v2] 24)
 have HE:=hid (equalFunc_ver (h1.up hb) (h2.up hb))
 have HB:=hid hb
 obtain⟨a1,c1,rfl,_,_⟩:=h1
 obtain⟨a2,c2,rfl,_,_⟩:=h2
 clear hb
 unfold bookV
 go_enter Tryz.func48,Tryz.ntmps48
 go_wp2_with fail
 refine HE.out.mono ?_
 rintro e w3 ⟨rfl,hb3⟩
 have HB3:=hid (HB.out.trans (hb3.mono HB.out.size))
 clear hb3
 go_wp2
 go_ret
 exact⟨rfl,HB3.out⟩
theorem bkSameV(pv qv:Value)(l m:Nat)(X Y:Nat→Int)(n1 o1 s1 n2 o2 s2:Int)(w:World)(h1:IntSl w w.heap.size pv l X)(h2:IntSl w w.heap.size qv m Y):
 Calls Tryz.prog 64 #[verV pv n1 o1 s1,verV qv n2 o2 s2] w fun e w'=>e=.returned (.bool (eqB l m X Y&&(n1==n2&&(o1==o2&&s1==s2))))∧Below w.heap.size w w':=by
 have qe:∀(w:World),(binOp .eql 59 (.agg #[.int .i64 n1,.int .i64 o1,.int .i64 s1]) (.agg #[.int .i64 n2,.int .i64 o2,.int .i64 s2])).run Tryz.prog w=.ok (.bool (n1==n2&&(o1==o2&&s1==s2))) w:=fun w=>eqPlan.1 (n1,o1,s1) (n2,o2,s2) w
 have qg:∀(op:BinOp) (a b:Operand) (w:World),(eqGuard op 59 a b (.agg #[.int .i64 n1,.int .i64 o1,.int .i64 s1]) (.agg #[.int .i64 n2,.int .i64 o2,.int .i64 s2])).run Tryz.prog w=.ok () w:=fun op a b w=>eqPlan.2 op a b (n1,o1,s1) (n2,o2,s2) w
 have hb:=((Below.refl w.heap.size w).alloc (Nat.le_refl _) (.cells #[pv,.int .i64 n1,.int .i64 o1,.int .i64 s1] 61)).alloc (by simp) (.cells #[qv,.int .i64 n2,.int .i64 o2,.int .i64 s2] 61)
 have HE:=hid (equal_isl (h1.up hb) (h2.up hb))
 have HB:=hid hb
 obtain⟨a1,c1,rfl,_,_⟩:=h1
 obtain⟨a2,c2,rfl,_,_⟩:=h2
 generalize eqB l m X Y=ev at *
 generalize (n1==n2&&(o1==o2&&s1==s2))=pe at *
 clear hb
 unfold verV
 cases pe with
 |false =>
  clear HE;go_enter Tryz.func64,Tryz.ntmps64;go_wp2;go_ret;exact⟨by rw[Bool.and_false];rfl,HB.out⟩
 |true =>
  rw[Bool.and_true];go_enter Tryz.func64,Tryz.ntmps64;go_wp2_with fail
  refine HE.out.mono ?_;rintro e w3 ⟨rfl,q,hq⟩;have HB3:Hid (Below w.heap.size w w3):=HB.out.trans (by rw[hq];exact⟨rfl,rfl,rfl,Nat.le_refl _,fun _ _=>rfl⟩);clear hq;go_wp2;go_ret;exact⟨rfl,HB3.out⟩
theorem bkEqualFunc{w:World}{v1 v2:Value}{n m:Nat}{PV QV:Nat→Value}{b c:Bk}(h1:VeSl w w.heap.size v1 n PV b)(h2:VeSl w w.heap.size v2 m QV c):
 Calls Tryz.prog 63 #[v1,v2,.func (.func 64) #[] #[]] w fun e w'=>e=.returned (.bool (bookB n m b c))∧Below w.heap.size w w':=by
 obtain⟨a1,c1,rfl,⟨hc1,hr1⟩,hx⟩:=h1
 obtain⟨a2,c2,rfl,⟨hc2,hr2⟩,hy⟩:=h2
 obtain⟨ans,hans⟩:∃ans,bookB n m b c=ans:=⟨_,rfl⟩
 rw[hans]
 unfold bookB at hans
 by_cases hnm:n=m
 ·subst hnm
  rw[decide_eq_true rfl,Bool.true_and]at hans;have HA:=hid hans;have HX:=hid hx;have HY:=hid hy;clear hx hy hans;go_enter Tryz.func63,Tryz.ntmps63;go_wp2;go_loopw [17] (fun iv wr=>∃k:Nat,k≤n∧iv=.int .i64 k∧Hid (Below w.heap.size w wr)∧Hid (restB b c (n-k) k=ans)) (fun iv _=>n-(intOf iv).toNat)
  case atStart=>exact⟨0,Nat.zero_le _,rfl,Below.refl _ _,HA⟩
  case round =>
   obtain⟨k,hk,rfl,HB,HS⟩:=hrel;by_cases hlt:k<n
   ·have hki:(k:Int)<(n:Int):=by omega
    rcases HX.out with h0|⟨b1,o1,rfl,hb1,hx⟩;·omega
    rcases HY.out with h0|⟨b2,o2,rfl,hb2,hy⟩;·omega
    have hstep:=HS.out;rw[show n-k=(n-(k+1))+1 by omega]at hstep;simp only[restB]at hstep;have HSt:=hid hstep;obtain⟨x0,x1,x2,x3,x4⟩:=hx k hlt;obtain⟨y0,y1,y2,y3,y4⟩:=hy k hlt;have HI1:Hid (∀w',Below w.heap.size w w'→IntSl w' w'.heap.size (PV k) (b.PL k) (b.PX k)):=fun w' hb=>x4.up hb;have HI2:Hid (∀w',Below w.heap.size w w'→IntSl w' w'.heap.size (QV k) (c.PL k) (c.PX k)):=fun w' hb=>y4.up hb;obtain⟨ap,cp,hpe,_,_⟩:=x4;obtain⟨aq,cq,hqe,_,_⟩:=y4;rw[hpe]at x0 HI1;rw[hqe]at y0 HI2;have g0:wr.cell? ⟨b1,o1+k*4,none⟩=some (.slice ap (b.PL k) cp):=by rw[HB.out.cell hb1];exact x0
    have g1:wr.cell? ⟨b1,o1+k*4+1,none⟩=some (.int .i64 (b.nd k)):=by rw[HB.out.cell hb1];exact x1
    have g2:wr.cell? ⟨b1,o1+k*4+2,none⟩=some (.int .i64 (b.of k)):=by rw[HB.out.cell hb1];exact x2
    have g3:wr.cell? ⟨b1,o1+k*4+3,none⟩=some (.int .i64 (b.sz k)):=by rw[HB.out.cell hb1];exact x3
    have e0:wr.cell? ⟨b2,o2+k*4,none⟩=some (.slice aq (c.PL k) cq):=by rw[HB.out.cell hb2];exact y0
    have e1:wr.cell? ⟨b2,o2+k*4+1,none⟩=some (.int .i64 (c.nd k)):=by rw[HB.out.cell hb2];exact y1
    have e2:wr.cell? ⟨b2,o2+k*4+2,none⟩=some (.int .i64 (c.of k)):=by rw[HB.out.cell hb2];exact y2
    have e3:wr.cell? ⟨b2,o2+k*4+3,none⟩=some (.int .i64 (c.sz k)):=by rw[HB.out.cell hb2];exact y3
    have l1:b1<wr.heap.size:=cell_lt g0;have l2:b2<wr.heap.size:=cell_lt e0;clear x0 x1 x2 x3 y0 y1 y2 y3 hpe hqe hx hy hstep;go_wp2_with fail
    have hbb:Below w.heap.size w ((wr.alloc (.cells #[.slice ap (b.PL k) cp,.int .i64 (b.nd k),.int .i64 (b.of k),.int .i64 (b.sz k)] 61)).alloc (.cells #[.slice aq (c.PL k) cq,.int .i64 (c.nd k),.int .i64 (c.of k),.int .i64 (c.sz k)] 61)) :=
     (HB.out.alloc HB.out.size _).alloc (by simp;exact Nat.le_succ_of_le HB.out.size) _
    refine Calls.mono (bkSameV _ _ _ _ _ _ _ _ _ _ _ _ _ (HI1.out _ hbb) (HI2.out _ hbb)) ?_;rintro e w2 ⟨rfl,hb3⟩;have HB3:Hid (Below w.heap.size w w2):=hbb.trans (hb3.mono hbb.size);clear hb3 hbb;have hvb:(eqB (b.PL k) (c.PL k) (b.PX k) (c.PX k)&&(b.nd k==c.nd k&&(b.of k==c.of k&&b.sz k==c.sz k)))=verB b c k:=rfl;rw[hvb];clear hvb;cases hs:verB b c k with
    |true =>
     have hn:=HSt.out;rw[hs,Bool.true_and]at hn;have HNx:=hid hn;clear hn;go_wp2;go_roundw
     case rel=>exact⟨k+1,by omega,by go_num,HB3,HNx⟩
     case measure=>simp only[intOf];omega
    |false =>
     have hn:=HSt.out;rw[hs,Bool.false_and]at hn;have HNx:=hid hn;clear hn;go_wp2;go_ret;exact⟨by rw[←HNx.out];rfl,HB3.out⟩
   have hke:n=k:=by omega
   subst hke;have hst:=HS.out;rw[Nat.sub_self]at hst;have HFin:Hid (true=ans):=hst;clear hst;go_wp2;go_ret;exact⟨by rw[←HFin.out];rfl,HB.out⟩
 ·rw[decide_eq_false hnm,Bool.false_and]at hans
  have HA:=hid hans;have hni:¬(n:Int)=(m:Int):=by omega
  clear hans;go_enter Tryz.func63,Tryz.ntmps63;go_wp2;go_ret;exact⟨by rw[←HA.out];rfl,Below.refl _ _⟩
theorem bkSame{w:World}{v1 v2:Value}{n m:Nat}{PV QV:Nat→Value}{b c:Bk}(h1:VeSl w w.heap.size v1 n PV b)(h2:VeSl w w.heap.size v2 m QV c):
 Calls Tryz.prog 18 #[bookV v1,bookV v2] w fun e w'=>e=.returned (.bool (bookB n m b c))∧Below w.heap.size w w':=by
 have hb:=((Below.refl w.heap.size w).alloc (Nat.le_refl _) (.cells #[v1] 24)).alloc (by simp) (.cells #[v2] 24)
 have HE:=hid (bkEqualFunc (h1.up hb) (h2.up hb))
 have HB:=hid hb
 obtain⟨a1,c1,rfl,_,_⟩:=h1
 obtain⟨a2,c2,rfl,_,_⟩:=h2
 clear hb
 unfold bookV
 go_enter Tryz.func18,Tryz.ntmps18
 go_wp2_with fail
 refine HE.out.mono ?_
 rintro e w3 ⟨rfl,hb3⟩
 have HB3:=hid (HB.out.trans (hb3.mono HB.out.size))
 clear hb3
 go_wp2
 go_ret
 exact⟨rfl,HB3.out⟩
theorem KeSl.at{w:World}{B:Nat}{a:Option Addr}{m c:Nat}{UV:Nat→Value}{t:Kt}(h:KeSl w B (.slice a m c) m UV t){i:Nat}(hi:i<m):
 ∃bl off,a=some ⟨bl,off,none⟩∧m≤c∧w.cell? ⟨bl,off+i*3,none⟩=some (.int .i64 (t.V i))∧w.cell? ⟨bl,off+i*3+1,none⟩=some (.int .i64 (t.N i))∧w.cell? ⟨bl,off+i*3+2,none⟩=some (UV i)∧IntSl w B (UV i) (t.L i) (t.X i):=by
 obtain⟨ad,cap,he,⟨h0,_⟩,h2⟩:=h
 injection he with e1 _ e3
 subst e1 e3
 rcases h2 with h2|⟨bl,off,rfl,_,h5⟩
 ·omega
 ·obtain⟨g1,g2,g3,g4⟩:=h5 i hi
  exact⟨bl,off,rfl,h0,g1,g2,g3,g4⟩
theorem two_at{w:World}{g:Nat}{T:TypeId}{u0 u1:Value}(h:w.heap[g]?=some (.cells #[u0,u1] T (0,0))):w.cell? ⟨g,0,none⟩=some u0∧w.cell? ⟨g,1,none⟩=some u1:=⟨cell_at h rfl,cell_at h rfl⟩
theorem checkMesh_any(vb:Value)(n:Nat)(PV:Nat→Value)(b:Bk)(vl:Value)(np:Nat)(KV:Nat→Value)(UV:Nat→Nat→Value)(P:Ps)(w:World)(hv:VeSl w w.heap.size vb n PV b)(hl:PsSl w w.heap.size vl np KV UV P):
 Calls Tryz.prog 13 #[meshV vb vl] w fun e w'=>e=.returned (.int .i64 (peersE n b np P))∧Below w.heap.size w w':=by
 have hb:=below_alloc w (.cells #[vb,vl] 27)
 have CK:=hid (checkPeers_any _ n PV b _ np KV UV P _ (hv.up hb) (hl.up hb))
 have HB:=hid hb
 obtain⟨ad,cap,rfl,_,_⟩:=hv
 obtain⟨al,cl,rfl,_,_⟩:=hl
 clear hb
 unfold bookV at CK
 unfold meshV
 go_enter Tryz.func13,Tryz.ntmps13
 go_wp2_with fail
 refine Calls.mono CK.out ?_
 rintro e w2 ⟨rfl,hb2⟩
 have HB2:=hid (HB.out.trans (hb2.mono HB.out.size))
 clear hb2
 go_wp2
 go_ret
 exact⟨rfl,HB2.out⟩
def verM(n:Nat)(b:Bk)(np:Nat)(P:Ps)(k:Int):Int:=if peersE n b np P=0 then(if 0≤k∧k<(n:Int)then 0 else 4)else peersE n b np P
theorem version_any(vb:Value)(n:Nat)(PV:Nat→Value)(b:Bk)(vl:Value)(np:Nat)(KV:Nat→Value)(UV:Nat→Nat→Value)(P:Ps)(k:Int)(w:World)(hv:VeSl w w.heap.size vb n PV b)(hl:PsSl w w.heap.size vl np KV UV P):
 Calls Tryz.prog 54 #[meshV vb vl,.int .i64 k] w fun e w'=>e=.returned (.int .i64 (verM n b np P k))∧Below w.heap.size w w':=by
 have hb:=below_alloc w (.cells #[vb,vl] 27)
 have CK:=hid (checkMesh_any _ n PV b _ np KV UV P _ (hv.up hb) (hl.up hb))
 have HB:=hid hb
 have HK:=hid (heap_alloc_new w (.cells #[vb,vl] 27))
 obtain⟨ad,cap,rfl,_,_⟩:=hv
 obtain⟨al,cl,rfl,_,_⟩:=hl
 obtain⟨ans,hans⟩:∃c,verM n b np P k=c:=⟨_,rfl⟩
 rw[hans]
 unfold verM at hans
 obtain⟨c,hc⟩:∃c,peersE n b np P=c:=⟨_,rfl⟩
 rw[hc]at CK hans
 have HA:=hid hans
 clear hb hc hans
 unfold meshV at CK
 unfold meshV
 go_enter Tryz.func54,Tryz.ntmps54
 go_wp2_with fail
 refine Calls.mono CK.out ?_
 rintro e w2 ⟨rfl,hb2⟩
 have HB2:=hid (HB.out.trans (hb2.mono HB.out.size))
 obtain⟨c0,c1⟩:=two_at (stayB HK.out hb2)
 clear hb2 CK
 have ha:=HA.out
 by_cases h0:c=0
 ·subst h0
  rw[if_pos rfl]at ha;by_cases h1:k<0
  ·rw[if_neg (by omega)]at ha
   subst ha;clear HA;go_wp2;go_ret;exact⟨rfl,HB2.out⟩
  by_cases h2:(n:Int)≤k
  ·rw[if_neg (by omega)]at ha
   subst ha;clear HA;go_wp2;go_ret;exact⟨rfl,HB2.out⟩
  rw[if_pos (by omega)]at ha;subst ha;clear HA;go_wp2;go_ret;exact⟨rfl,HB2.out⟩
 ·rw[if_neg h0]at ha
  subst ha;have hcb:(c != 0)=true:=by simpa using h0
  clear h0 HA;go_wp2;go_ret;exact⟨rfl,HB2.out⟩
theorem equalFunc_peer{w:World}{v1 v2:Value}{n m:Nat}{PV QV:Nat→Value}{UV WV:Nat→Nat→Value}{P Q:Ps}(h1:PsSl w w.heap.size v1 n PV UV P)(h2:PsSl w w.heap.size v2 m QV WV Q):
 Calls Tryz.prog 49 #[v1,v2,.func (.func 50) #[] #[]] w fun e w'=>e=.returned (.bool (peersB n m P Q))∧Below w.heap.size w w':=by
 obtain⟨a1,c1,rfl,⟨hc1,hr1⟩,hx⟩:=h1
 obtain⟨a2,c2,rfl,⟨hc2,hr2⟩,hy⟩:=h2
 obtain⟨ans,hans⟩:∃ans,peersB n m P Q=ans:=⟨_,rfl⟩
 rw[hans]
 unfold peersB at hans
 by_cases hnm:n=m
 ·subst hnm
  rw[decide_eq_true rfl,Bool.true_and]at hans;have HA:=hid hans;have HX:=hid hx;have HY:=hid hy;clear hx hy hans;go_enter Tryz.func49,Tryz.ntmps49;go_wp2;go_loopw [17] (fun iv wr=>∃k:Nat,k≤n∧iv=.int .i64 k∧Hid (Below w.heap.size w wr)∧Hid (restP P Q (n-k) k=ans)) (fun iv _=>n-(intOf iv).toNat)
  case atStart=>exact⟨0,Nat.zero_le _,rfl,Below.refl _ _,HA⟩
  case round =>
   obtain⟨k,hk,rfl,HB,HS⟩:=hrel;by_cases hlt:k<n
   ·have hki:(k:Int)<(n:Int):=by omega
    rcases HX.out with h0|⟨b1,o1,rfl,hb1,hx⟩;·omega
    rcases HY.out with h0|⟨b2,o2,rfl,hb2,hy⟩;·omega
    have hstep:=HS.out;rw[show n-k=(n-(k+1))+1 by omega]at hstep;simp only[restP]at hstep;have HSt:=hid hstep;obtain⟨x0,x1,x2,x3⟩:=hx k hlt;obtain⟨y0,y1,y2,y3⟩:=hy k hlt;have HI1:Hid (∀w',Below w.heap.size w w'→KeSl w' w'.heap.size (PV k) (P.m k) (UV k) (P.t k)):=fun w' hb=>x3.up hb;have HI2:Hid (∀w',Below w.heap.size w w'→KeSl w' w'.heap.size (QV k) (Q.m k) (WV k) (Q.t k)):=fun w' hb=>y3.up hb;obtain⟨ap,cp,hpe,_,_⟩:=x3;obtain⟨aq,cq,hqe,_,_⟩:=y3;rw[hpe]at x2 HI1;rw[hqe]at y2 HI2;have g0:wr.cell? ⟨b1,o1+k*3,none⟩=some (.bool (P.th k)):=by rw[HB.out.cell hb1];exact x0
    have g1:wr.cell? ⟨b1,o1+k*3+1,none⟩=some (.int .i64 (P.rm k)):=by rw[HB.out.cell hb1];exact x1
    have g2:wr.cell? ⟨b1,o1+k*3+2,none⟩=some (.slice ap (P.m k) cp):=by rw[HB.out.cell hb1];exact x2
    have e0:wr.cell? ⟨b2,o2+k*3,none⟩=some (.bool (Q.th k)):=by rw[HB.out.cell hb2];exact y0
    have e1:wr.cell? ⟨b2,o2+k*3+1,none⟩=some (.int .i64 (Q.rm k)):=by rw[HB.out.cell hb2];exact y1
    have e2:wr.cell? ⟨b2,o2+k*3+2,none⟩=some (.slice aq (Q.m k) cq):=by rw[HB.out.cell hb2];exact y2
    have l1:b1<wr.heap.size:=cell_lt g0;have l2:b2<wr.heap.size:=cell_lt e0;clear x0 x1 x2 y0 y1 y2 hpe hqe hx hy hstep;go_wp2_with fail
    have hbb:Below w.heap.size w ((wr.alloc (.cells #[.bool (P.th k),.int .i64 (P.rm k),.slice ap (P.m k) cp] 41)).alloc (.cells #[.bool (Q.th k),.int .i64 (Q.rm k),.slice aq (Q.m k) cq] 41)) :=
     (HB.out.alloc HB.out.size _).alloc (by simp;exact Nat.le_succ_of_le HB.out.size) _
    have CS:=hid (samePeer_any (P.th k) (Q.th k) (P.rm k) (Q.rm k) (HI1.out _ hbb) (HI2.out _ hbb));unfold peerV at CS;refine Calls.mono CS.out ?_;rintro e w2 ⟨rfl,hb3⟩;have HB3:Hid (Below w.heap.size w w2):=hbb.trans (hb3.mono hbb.size);clear hb3 hbb;rw[show peerB (P.th k) (Q.th k) (P.rm k) (Q.rm k) (P.m k) (Q.m k) (P.t k) (Q.t k)=prB P Q k from rfl];clear CS;cases hs:prB P Q k with
    |true =>
     have hn:=HSt.out;rw[hs,Bool.true_and]at hn;have HNx:=hid hn;clear hn;go_wp2;go_roundw
     case rel=>exact⟨k+1,by omega,by go_num,HB3,HNx⟩
     case measure=>simp only[intOf];omega
    |false =>
     have hn:=HSt.out;rw[hs,Bool.false_and]at hn;have HNx:=hid hn;clear hn;go_wp2;go_ret;exact⟨by rw[←HNx.out];rfl,HB3.out⟩
   have hke:n=k:=by omega
   subst hke;have hst:=HS.out;rw[Nat.sub_self]at hst;have HFin:Hid (true=ans):=hst;clear hst;go_wp2;go_ret;exact⟨by rw[←HFin.out];rfl,HB.out⟩
 ·rw[decide_eq_false hnm,Bool.false_and]at hans
  have HA:=hid hans;have hni:¬(n:Int)=(m:Int):=by omega
  clear hans;go_enter Tryz.func49,Tryz.ntmps49;go_wp2;go_ret;exact⟨by rw[←HA.out];rfl,Below.refl _ _⟩
def meshB(n n':Nat)(b b':Bk)(np np':Nat)(P P':Ps):Bool:=bookB n n' b b'&&peersB np np' P P'
theorem sameMesh_any{w:World}{vb vl vb' vl':Value}{n n' np np':Nat}{PV PV' KV KV':Nat→Value}{UV UV':Nat→Nat→Value}{b b':Bk}{P P':Ps}(hv:VeSl w w.heap.size vb n PV b)(hl:PsSl w w.heap.size vl np KV UV P)(hv':VeSl w w.heap.size vb' n' PV' b')(hl':PsSl w w.heap.size vl' np' KV' UV' P'):
 Calls Tryz.prog 15 #[meshV vb vl,meshV vb' vl'] w fun e w'=>e=.returned (.bool (meshB n n' b b' np np' P P'))∧Below w.heap.size w w':=by
 have hb:=((Below.refl w.heap.size w).alloc (Nat.le_refl _) (.cells #[vb,vl] 27)).alloc (by simp) (.cells #[vb',vl'] 27)
 have k1:=heap_two_old w (.cells #[vb,vl] 27) (.cells #[vb',vl'] 27)
 have k2:=heap_two_new w (.cells #[vb,vl] 27) (.cells #[vb',vl'] 27)
 obtain⟨U,hU⟩:∃u,(w.alloc (.cells #[vb,vl] 27)).alloc (.cells #[vb',vl'] 27)=u:=⟨_,rfl⟩
 rw[hU]at hb k1 k2
 have CS:=hid (sameBook_any (hv.up hb) (hv'.up hb))
 have HE:Hid (∀u,Below U.heap.size U u→Calls Tryz.prog _ #[vl,vl',.func (.func 50) #[] #[]] u fun e u'=>e=.returned (.bool (peersB np np' P P'))∧Below u.heap.size u u'):=fun u hbu=>equalFunc_peer ((hl.up hb).up hbu) ((hl'.up hb).up hbu)
 have HB:=hid hb
 have K1:=hid k1
 have K2:=hid k2
 obtain⟨c1,c2⟩:=two_at k1
 obtain⟨c3,c4⟩:=two_at k2
 obtain⟨ad,cap,rfl,_,_⟩:=hv
 obtain⟨al,cl,rfl,_,_⟩:=hl
 obtain⟨ad',cap',rfl,_,_⟩:=hv'
 obtain⟨al',cl',rfl,_,_⟩:=hl'
 clear hb k1 k2
 unfold meshB
 unfold bookV at CS
 unfold meshV
 cases hs:bookB n n' b b' with
 |false =>
  rw[hs]at CS;rw[Bool.false_and];clear hs;go_enter Tryz.func15,Tryz.ntmps15;go_wp2_with fail
  refine Calls.mono CS.out ?_;rintro e w2 ⟨rfl,hb2⟩;have HB2:=hid (HB.out.trans (hb2.mono HB.out.size));clear hb2;go_wp2;go_ret;exact⟨rfl,HB2.out⟩
 |true =>
  rw[hs]at CS;rw[Bool.true_and];clear hs;go_enter Tryz.func15,Tryz.ntmps15;go_wp2_with fail
  refine Calls.mono CS.out ?_;rintro e w2 ⟨rfl,hb2⟩;have HB2:=hid (HB.out.trans (hb2.mono HB.out.size));have HE2:=hid (HE.out w2 hb2);obtain⟨c1,c2⟩:=two_at (stayB K1.out hb2);obtain⟨c3,c4⟩:=two_at (stayB K2.out hb2);clear hb2;go_wp2_with fail
  refine Calls.mono HE2.out ?_;rintro e w3 ⟨rfl,hb3⟩;have HB3:=hid (HB2.out.trans (hb3.mono HB2.out.size));clear hb3;go_wp2;go_ret;exact⟨rfl,HB3.out⟩
def nL(P:Ps)(l:List (Nat×Nat))(j:Nat):Int:=(P.t (l.getD j (0,0)).1).N (l.getD j (0,0)).2
def vaL(UV:Nat→Nat→Value)(l:List (Nat×Nat))(j:Nat):Value:=UV (l.getD j (0,0)).1 (l.getD j (0,0)).2
def lL(P:Ps)(l:List (Nat×Nat))(j:Nat):Nat:=(P.t (l.getD j (0,0)).1).L (l.getD j (0,0)).2
def xL(P:Ps)(l:List (Nat×Nat))(j:Nat):Nat→Int:=(P.t (l.getD j (0,0)).1).X (l.getD j (0,0)).2
theorem getD_old{α:Type}(l:List α)(x d:α){j:Nat}(h:j<l.length):(l++[x]).getD j d=l.getD j d:=by
 rw[List.getD_eq_getElem?_getD,List.getD_eq_getElem?_getD,List.getElem?_append_left h]
theorem getD_new{α:Type}(l:List α)(x d:α):(l++[x]).getD l.length d=x:=by
 simp[List.getD_eq_getElem?_getD]
theorem PsSl.ints{w:World}{B:Nat}{a:Option Addr}{n c:Nat}{KV:Nat→Value}{UV:Nat→Nat→Value}{P:Ps}(h:PsSl w B (.slice a n c) n KV UV P){k i:Nat}(hk:k<n)(hi:i<P.m k):IntSl w B (UV k i) ((P.t k).L i) ((P.t k).X i):=by
 obtain⟨_,_,_,_,_,_,_,h3⟩:=h.at hk;obtain⟨ad,cap,_,_,h2⟩:=h3;rcases h2 with h2|⟨bl,off,_,_,h5⟩;·omega
 exact(h5 i hi).2.2.2
section
section
variable {n lp : Nat} {b : Bk} {X : Nat → Int} {nd of sz : Int}
end
theorem getD_mem{l:List Int}{x:Int}:hasB (fun j=>l.getD j 0) l.length x=true↔x∈l:=by
 rw[hasB_iff,List.mem_iff_getElem?];constructor
 ·rintro⟨j,hj,e⟩
  exact⟨j,by rw[←e];simp[List.getD_eq_getElem?_getD,hj]⟩
 rintro⟨j,e⟩;have hj:=(List.getElem?_eq_some_iff.1 e).1;refine⟨j,hj,?_⟩;show l.getD j 0=x;simp[List.getD_eq_getElem?_getD,e]
theorem pickL_rise(p:Nat→Bool)(j:Nat):List.Pairwise (· < ·) (pickL p j):=by
 unfold pickL;rw[List.pairwise_map];refine List.Pairwise.imp (fun h=>?_) (List.Pairwise.filter p List.pairwise_lt_range);omega
end
section
def mayK(P:Ps)(ver:Int)(k:Nat):Prop:=P.th k=true∧fstAt (P.t k).V ver (P.m k) 0<0
theorem fitK_iff(P:Ps)(ver left:Int)(k:Nat):fitK P ver left k=true↔mayK P ver k∧leftK P k=left:=by
 unfold fitK noneK mayK;rw[Bool.and_eq_true,Bool.and_eq_true,decide_eq_true_iff,decide_eq_true_iff];constructor;·rintro⟨h1,h2,h3⟩;exact⟨⟨h1,h3⟩,h2⟩
 rintro⟨⟨h1,h3⟩,h2⟩;exact⟨h1,h2,h3⟩
theorem mem_lefts{P:Ps}{ver:Int}{np r:Nat}{x:Int}:x∈lefts P ver np r↔∃k:Nat,x=k∧k<np∧mayK P ver k∧1≤leftK P k∧leftK P k≤r:=by
 induction r with
 |zero =>
  simp only[lefts,List.not_mem_nil,false_iff];rintro⟨k,_,_,_,h1,h2⟩;omega
 |succ r ih =>
  simp only[lefts,List.mem_append];rw[ih,mem_pickL];constructor
  ·rintro(⟨k,h1,h2,e⟩|⟨k,e,h1,h2,h3,h4⟩)
   ·obtain⟨g1,g2⟩:=(fitK_iff _ _ _ _).1 h2
    exact⟨k,e,h1,g1,by omega,by omega⟩
   exact⟨k,e,h1,h2,h3,by omega⟩
  rintro⟨k,e,h1,h2,h3,h4⟩;by_cases c:leftK P k=((r+1:Nat):Int);·exact Or.inl ⟨k,h1,(fitK_iff _ _ _ _).2 ⟨h2,c⟩,e⟩
  exact Or.inr ⟨k,e,h1,h2,h3,by omega⟩
def AheadK(P:Ps)(x y:Int):Prop:=x≠y∧leftK P y.toNat≤leftK P x.toNat
theorem lefts_ahead(P:Ps)(ver:Int)(np r:Nat):List.Pairwise (AheadK P) (lefts P ver np r):=by
 induction r with
 |zero=>exact List.Pairwise.nil
 |succ r ih =>
  simp only[lefts];rw[List.pairwise_append];have hl:∀x,x∈pickL (fitK P ver ((r+1:Nat):Int)) np→leftK P x.toNat=((r+1:Nat):Int):=fun x hx=>by
   obtain⟨k,_,h2,rfl⟩:=mem_pickL.1 hx;rw[Int.toNat_natCast];exact((fitK_iff _ _ _ _).1 h2).2
  refine⟨?_,ih,fun x hx y hy=>?_⟩
  ·refine(pickL_rise (fitK P ver ((r+1:Nat):Int)) np).imp_of_mem fun {x y} hx hy hxy=>?_
   exact⟨by omega,by rw[hl x hx,hl y hy];exact Int.le_refl _⟩
  have h1:=hl x hx;obtain⟨k,rfl,_,_,_,h4⟩:=mem_lefts.1 hy;have h2:leftK P (k:Int).toNat≤(r:Int):=by rw[Int.toNat_natCast];exact h4
  refine⟨fun e=>?_,by omega⟩;rw[e]at h1;omega
section
variable {P : Ps} {ver : Int} {np q : Nat}
theorem take_each{i:Nat}(hi:i<((orderL P ver np).take q).length):∃k:Nat,((orderL P ver np).take q).getD i 0=(k:Int)∧k<np∧mayK P ver k∧1≤leftK P k∧leftK P k≤20:=by
 have hm:((orderL P ver np).take q).getD i 0∈orderL P ver np:=List.mem_of_mem_take (getD_mem.1 ((hasB_iff _ _ _).2 ⟨i,hi,rfl⟩));obtain⟨k,e,h1,h2,h3,h4⟩:=mem_lefts.1 hm;exact⟨k,e,h1,h2,h3,h4⟩
theorem take_ahead{i j:Nat}(hij:i<j)(hj:j<((orderL P ver np).take q).length):AheadK P (((orderL P ver np).take q).getD i 0) (((orderL P ver np).take q).getD j 0):=by
 have hp:List.Pairwise (AheadK P) ((orderL P ver np).take q):=(lefts_ahead P ver np 20).sublist (List.take_sublist _ _);have h:=List.pairwise_iff_getElem.1 hp i j (by omega) hj hij;rw[List.getD_eq_getElem?_getD,List.getD_eq_getElem?_getD,List.getElem?_eq_getElem (by omega),List.getElem?_eq_getElem hj];exact h
end
theorem forL_len{P:Ps}{ver:Int}{np:Nat}{many:Int}(h:manyE P ver np many=0):forL P ver np many=(orderL P ver np).take many.toNat∧0≤many∧(((orderL P ver np).take many.toNat).length:Int)=many:=by
 unfold forL;rw[if_pos h];unfold manyE at h;by_cases h1:0≤many∧many≤8
 ·rw[if_pos h1]at h
  by_cases h2:((orderL P ver np).length:Int)<many;·rw[if_pos h2]at h;omega
  refine⟨rfl,h1.1,?_⟩;rw[List.length_take];omega
 rw[if_neg h1]at h;omega
end
end Go.Proofs.YtajmnlhfnhbleaaGreat
