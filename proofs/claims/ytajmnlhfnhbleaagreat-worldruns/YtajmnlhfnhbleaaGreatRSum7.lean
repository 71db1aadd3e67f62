/- Several texts of one proof, in their order. -/
import Derived.Test.YtajmnlhfnhbleaaGreatRSum4
namespace Go.Proofs.YtajmnlhfnhbleaaGreat
open Go.RowKit Go.Shelf
set_option linter.unusedVariables false
set_option maxHeartbeats 2000000
theorem sameK_any(v1 v2 N1 N2:Int)(pv qv:Value)(l m:Nat)(X Y:Nat→Int)(w:World)(h1:IntSl w w.heap.size pv l X)(h2:IntSl w w.heap.size qv m Y):
 Calls Tryz.prog 89 #[keptV v1 N1 pv,keptV v2 N2 qv] w fun e w'=>e=.returned (.bool (decide (v1=v2)&&sameB N1 N2 l m X Y))∧Below w.heap.size w w':=by
 have hb:=((Below.refl w.heap.size w).alloc (Nat.le_refl _) (.cells #[.int .i64 v1,.int .i64 N1,pv] 83)).alloc (by simp) (.cells #[.int .i64 v2,.int .i64 N2,qv] 83)
 have HE:=hid (sameShare_any N1 N2 _ _ l m X Y _ (h1.up hb) (h2.up hb))
 have HB:=hid hb
 obtain⟨a1,c1,rfl,_,_⟩:=h1
 obtain⟨a2,c2,rfl,_,_⟩:=h2
 generalize sameB N1 N2 l m X Y=sb at *
 clear hb
 unfold shareV at HE
 unfold keptV
 by_cases hv:v1=v2
 ·subst hv
  rw[decide_eq_true rfl,Bool.true_and];go_enter Tryz.func89,Tryz.ntmps89;go_wp2_with fail
  refine HE.out.mono ?_;rintro e w3 ⟨rfl,hb3⟩;have HB3:=hid (HB.out.trans (hb3.mono HB.out.size));clear hb3;go_wp2;go_ret;exact⟨rfl,HB3.out⟩
 ·rw[decide_eq_false hv,Bool.false_and]
  have he:(v1==v2)=false:=by simpa using hv
  clear hv HE;go_enter Tryz.func89,Tryz.ntmps89;go_wp2;go_ret;exact⟨rfl,HB.out⟩
theorem equalFunc_kept{w:World}{v1 v2:Value}{n m:Nat}{PV QV:Nat→Value}{t u:Kt}(h1:KeSl w w.heap.size v1 n PV t)(h2:KeSl w w.heap.size v2 m QV u):
 Calls Tryz.prog 65 #[v1,v2,.func (.func 89) #[] #[]] w fun e w'=>e=.returned (.bool (keptB n m t u))∧Below w.heap.size w w':=by
 obtain⟨a1,c1,rfl,⟨hc1,hr1⟩,hx⟩:=h1
 obtain⟨a2,c2,rfl,⟨hc2,hr2⟩,hy⟩:=h2
 obtain⟨ans,hans⟩:∃ans,keptB n m t u=ans:=⟨_,rfl⟩
 rw[hans]
 unfold keptB at hans
 by_cases hnm:n=m
 ·subst hnm
  rw[decide_eq_true rfl,Bool.true_and]at hans;have HA:=hid hans;have HX:=hid hx;have HY:=hid hy;clear hx hy hans;go_enter Tryz.func65,Tryz.ntmps65;go_wp2;go_loopw [17] (fun iv wr=>∃k:Nat,k≤n∧iv=.int .i64 k∧Hid (Below w.heap.size w wr)∧Hid (restK t u (n-k) k=ans)) (fun iv _=>n-(intOf iv).toNat)
  case atStart=>exact⟨0,Nat.zero_le _,rfl,Below.refl _ _,HA⟩
  case round =>
   obtain⟨k,hk,rfl,HB,HS⟩:=hrel;by_cases hlt:k<n
   ·have hki:(k:Int)<(n:Int):=by omega
    rcases HX.out with h0|⟨b1,o1,rfl,hb1,hx⟩;·omega
    rcases HY.out with h0|⟨b2,o2,rfl,hb2,hy⟩;·omega
    have hstep:=HS.out;rw[show n-k=(n-(k+1))+1 by omega]at hstep;simp only[restK]at hstep;have HSt:=hid hstep;obtain⟨x0,x1,x2,x3⟩:=hx k hlt;obtain⟨y0,y1,y2,y3⟩:=hy k hlt;have HI1:Hid (∀w',Below w.heap.size w w'→IntSl w' w'.heap.size (PV k) (t.L k) (t.X k)):=fun w' hb=>x3.up hb;have HI2:Hid (∀w',Below w.heap.size w w'→IntSl w' w'.heap.size (QV k) (u.L k) (u.X k)):=fun w' hb=>y3.up hb;obtain⟨ap,cp,hpe,_,_⟩:=x3;obtain⟨aq,cq,hqe,_,_⟩:=y3;rw[hpe]at x2 HI1;rw[hqe]at y2 HI2;have g0:wr.cell? ⟨b1,o1+k*3,none⟩=some (.int .i64 (t.V k)):=by rw[HB.out.cell hb1];exact x0
    have g1:wr.cell? ⟨b1,o1+k*3+1,none⟩=some (.int .i64 (t.N k)):=by rw[HB.out.cell hb1];exact x1
    have g2:wr.cell? ⟨b1,o1+k*3+2,none⟩=some (.slice ap (t.L k) cp):=by rw[HB.out.cell hb1];exact x2
    have e0:wr.cell? ⟨b2,o2+k*3,none⟩=some (.int .i64 (u.V k)):=by rw[HB.out.cell hb2];exact y0
    have e1:wr.cell? ⟨b2,o2+k*3+1,none⟩=some (.int .i64 (u.N k)):=by rw[HB.out.cell hb2];exact y1
    have e2:wr.cell? ⟨b2,o2+k*3+2,none⟩=some (.slice aq (u.L k) cq):=by rw[HB.out.cell hb2];exact y2
    have l1:b1<wr.heap.size:=cell_lt g0;have l2:b2<wr.heap.size:=cell_lt e0;clear x0 x1 x2 y0 y1 y2 hpe hqe hx hy hstep;go_wp2_with fail
    have hbb:Below w.heap.size w ((wr.alloc (.cells #[.int .i64 (t.V k),.int .i64 (t.N k),.slice ap (t.L k) cp] 83)).alloc (.cells #[.int .i64 (u.V k),.int .i64 (u.N k),.slice aq (u.L k) cq] 83)) :=
     (HB.out.alloc HB.out.size _).alloc (by simp;exact Nat.le_succ_of_le HB.out.size) _
    refine Calls.mono (sameK_any _ _ _ _ _ _ _ _ _ _ _ (HI1.out _ hbb) (HI2.out _ hbb)) ?_;rintro e w2 ⟨rfl,hb3⟩;have HB3:Hid (Below w.heap.size w w2):=hbb.trans (hb3.mono hbb.size);clear hb3 hbb;have hvb:(decide (t.V k=u.V k)&&sameB (t.N k) (u.N k) (t.L k) (u.L k) (t.X k) (u.X k))=verK t u k:=rfl;rw[hvb];clear hvb;cases hs:verK t u k with
    |true =>
     have hn:=HSt.out;rw[hs,Bool.true_and]at hn;have HNx:=hid hn;clear hn;go_wp2;go_roundw
     case rel=>exact⟨k+1,by omega,by go_num,HB3,HNx⟩
     case measure=>simp only[intOf];omega
    |false =>
     have hn:=HSt.out;rw[hs,Bool.false_and]at hn;have HNx:=hid hn;clear hn;go_wp2;go_ret;exact⟨by rw[←HNx.out];rfl,HB3.out⟩
   have hke:n=k:=by omega
   subst hke;have hst:=HS.out;rw[Nat.sub_self]at hst;have HFin:Hid (true=ans):=hst;clear hst;go_wp2;go_ret;exact⟨by rw[←HFin.out];rfl,HB.out⟩
 ·rw[decide_eq_false hnm,Bool.false_and]at hans
  have HA:=hid hans;have hni:¬(n:Int)=(m:Int):=by omega
  clear hans;go_enter Tryz.func65,Tryz.ntmps65;go_wp2;go_ret;exact⟨by rw[←HA.out];rfl,Below.refl _ _⟩
theorem samePeer_any(a1 a2:Bool)(r1 r2:Int){w:World}{v1 v2:Value}{n m:Nat}{PV QV:Nat→Value}{t u:Kt}(h1:KeSl w w.heap.size v1 n PV t)(h2:KeSl w w.heap.size v2 m QV u):
 Calls Tryz.prog 50 #[peerV a1 r1 v1,peerV a2 r2 v2] w fun e w'=>e=.returned (.bool (peerB a1 a2 r1 r2 n m t u))∧Below w.heap.size w w':=by
 have hb:=((Below.refl w.heap.size w).alloc (Nat.le_refl _) (.cells #[.bool a1,.int .i64 r1,v1] 41)).alloc (by simp) (.cells #[.bool a2,.int .i64 r2,v2] 41)
 have HE:=hid (equalFunc_kept (h1.up hb) (h2.up hb))
 have HB:=hid hb
 obtain⟨ad1,c1,rfl,_,_⟩:=h1
 obtain⟨ad2,c2,rfl,_,_⟩:=h2
 unfold peerB
 generalize keptB n m t u=kb at *
 clear hb
 unfold peerV
 cases ha:(a1==a2)with
 |false =>
  rw[Bool.false_and];clear HE;go_enter Tryz.func50,Tryz.ntmps50;go_wp2;go_ret;exact⟨rfl,HB.out⟩
 |true =>
  rw[Bool.true_and];by_cases hr:r1=r2
  ·subst hr
   rw[decide_eq_true rfl,Bool.true_and];go_enter Tryz.func50,Tryz.ntmps50;go_wp2_with fail
   refine HE.out.mono ?_;rintro e w3 ⟨rfl,hb3⟩;have HB3:=hid (HB.out.trans (hb3.mono HB.out.size));clear hb3;go_wp2;go_ret;exact⟨rfl,HB3.out⟩
  rw[decide_eq_false hr,Bool.false_and];have he:(r1==r2)=false:=by simpa using hr
  clear hr HE;go_enter Tryz.func50,Tryz.ntmps50;go_wp2;go_ret;exact⟨rfl,HB.out⟩
theorem peSameK(v1 v2 N1 N2:Int)(pv qv:Value)(l m:Nat)(X Y:Nat→Int)(w:World)(h1:IntSl w w.heap.size pv l X)(h2:IntSl w w.heap.size qv m Y):
 Calls Tryz.prog 66 #[keptV v1 N1 pv,keptV v2 N2 qv] w fun e w'=>e=.returned (.bool (decide (v1=v2)&&sameB N1 N2 l m X Y))∧Below w.heap.size w w':=by
 have hb:=((Below.refl w.heap.size w).alloc (Nat.le_refl _) (.cells #[.int .i64 v1,.int .i64 N1,pv] 83)).alloc (by simp) (.cells #[.int .i64 v2,.int .i64 N2,qv] 83)
 have HE:=hid (shSame N1 N2 _ _ l m X Y _ (h1.up hb) (h2.up hb))
 have HB:=hid hb
 obtain⟨a1,c1,rfl,_,_⟩:=h1
 obtain⟨a2,c2,rfl,_,_⟩:=h2
 generalize sameB N1 N2 l m X Y=sb at *
 clear hb
 unfold shareV at HE
 unfold keptV
 by_cases hv:v1=v2
 ·subst hv
  rw[decide_eq_true rfl,Bool.true_and];go_enter Tryz.func66,Tryz.ntmps66;go_wp2_with fail
  refine HE.out.mono ?_;rintro e w3 ⟨rfl,hb3⟩;have HB3:=hid (HB.out.trans (hb3.mono HB.out.size));clear hb3;go_wp2;go_ret;exact⟨rfl,HB3.out⟩
 ·rw[decide_eq_false hv,Bool.false_and]
  have he:(v1==v2)=false:=by simpa using hv
  clear hv HE;go_enter Tryz.func66,Tryz.ntmps66;go_wp2;go_ret;exact⟨rfl,HB.out⟩
theorem peEqualFunc{w:World}{v1 v2:Value}{n m:Nat}{PV QV:Nat→Value}{t u:Kt}(h1:KeSl w w.heap.size v1 n PV t)(h2:KeSl w w.heap.size v2 m QV u):
 Calls Tryz.prog 65 #[v1,v2,.func (.func 66) #[] #[]] w fun e w'=>e=.returned (.bool (keptB n m t u))∧Below w.heap.size w w':=by
 obtain⟨a1,c1,rfl,⟨hc1,hr1⟩,hx⟩:=h1
 obtain⟨a2,c2,rfl,⟨hc2,hr2⟩,hy⟩:=h2
 obtain⟨ans,hans⟩:∃ans,keptB n m t u=ans:=⟨_,rfl⟩
 rw[hans]
 unfold keptB at hans
 by_cases hnm:n=m
 ·subst hnm
  rw[decide_eq_true rfl,Bool.true_and]at hans;have HA:=hid hans;have HX:=hid hx;have HY:=hid hy;clear hx hy hans;go_enter Tryz.func65,Tryz.ntmps65;go_wp2;go_loopw [17] (fun iv wr=>∃k:Nat,k≤n∧iv=.int .i64 k∧Hid (Below w.heap.size w wr)∧Hid (restK t u (n-k) k=ans)) (fun iv _=>n-(intOf iv).toNat)
  case atStart=>exact⟨0,Nat.zero_le _,rfl,Below.refl _ _,HA⟩
  case round =>
   obtain⟨k,hk,rfl,HB,HS⟩:=hrel;by_cases hlt:k<n
   ·have hki:(k:Int)<(n:Int):=by omega
    rcases HX.out with h0|⟨b1,o1,rfl,hb1,hx⟩;·omega
    rcases HY.out with h0|⟨b2,o2,rfl,hb2,hy⟩;·omega
    have hstep:=HS.out;rw[show n-k=(n-(k+1))+1 by omega]at hstep;simp only[restK]at hstep;have HSt:=hid hstep;obtain⟨x0,x1,x2,x3⟩:=hx k hlt;obtain⟨y0,y1,y2,y3⟩:=hy k hlt;have HI1:Hid (∀w',Below w.heap.size w w'→IntSl w' w'.heap.size (PV k) (t.L k) (t.X k)):=fun w' hb=>x3.up hb;have HI2:Hid (∀w',Below w.heap.size w w'→IntSl w' w'.heap.size (QV k) (u.L k) (u.X k)):=fun w' hb=>y3.up hb;obtain⟨ap,cp,hpe,_,_⟩:=x3;obtain⟨aq,cq,hqe,_,_⟩:=y3;rw[hpe]at x2 HI1;rw[hqe]at y2 HI2;have g0:wr.cell? ⟨b1,o1+k*3,none⟩=some (.int .i64 (t.V k)):=by rw[HB.out.cell hb1];exact x0
    have g1:wr.cell? ⟨b1,o1+k*3+1,none⟩=some (.int .i64 (t.N k)):=by rw[HB.out.cell hb1];exact x1
    have g2:wr.cell? ⟨b1,o1+k*3+2,none⟩=some (.slice ap (t.L k) cp):=by rw[HB.out.cell hb1];exact x2
    have e0:wr.cell? ⟨b2,o2+k*3,none⟩=some (.int .i64 (u.V k)):=by rw[HB.out.cell hb2];exact y0
    have e1:wr.cell? ⟨b2,o2+k*3+1,none⟩=some (.int .i64 (u.N k)):=by rw[HB.out.cell hb2];exact y1
    have e2:wr.cell? ⟨b2,o2+k*3+2,none⟩=some (.slice aq (u.L k) cq):=by rw[HB.out.cell hb2];exact y2
    have l1:b1<wr.heap.size:=cell_lt g0;have l2:b2<wr.heap.size:=cell_lt e0;clear x0 x1 x2 y0 y1 y2 hpe hqe hx hy hstep;go_wp2_with fail
    have hbb:Below w.heap.size w ((wr.alloc (.cells #[.int .i64 (t.V k),.int .i64 (t.N k),.slice ap (t.L k) cp] 83)).alloc (.cells #[.int .i64 (u.V k),.int .i64 (u.N k),.slice aq (u.L k) cq] 83)) :=
     (HB.out.alloc HB.out.size _).alloc (by simp;exact Nat.le_succ_of_le HB.out.size) _
    refine Calls.mono (peSameK _ _ _ _ _ _ _ _ _ _ _ (HI1.out _ hbb) (HI2.out _ hbb)) ?_;rintro e w2 ⟨rfl,hb3⟩;have HB3:Hid (Below w.heap.size w w2):=hbb.trans (hb3.mono hbb.size);clear hb3 hbb;have hvb:(decide (t.V k=u.V k)&&sameB (t.N k) (u.N k) (t.L k) (u.L k) (t.X k) (u.X k))=verK t u k:=rfl;rw[hvb];clear hvb;cases hs:verK t u k with
    |true =>
     have hn:=HSt.out;rw[hs,Bool.true_and]at hn;have HNx:=hid hn;clear hn;go_wp2;go_roundw
     case rel=>exact⟨k+1,by omega,by go_num,HB3,HNx⟩
     case measure=>simp only[intOf];omega
    |false =>
     have hn:=HSt.out;rw[hs,Bool.false_and]at hn;have HNx:=hid hn;clear hn;go_wp2;go_ret;exact⟨by rw[←HNx.out];rfl,HB3.out⟩
   have hke:n=k:=by omega
   subst hke;have hst:=HS.out;rw[Nat.sub_self]at hst;have HFin:Hid (true=ans):=hst;clear hst;go_wp2;go_ret;exact⟨by rw[←HFin.out];rfl,HB.out⟩
 ·rw[decide_eq_false hnm,Bool.false_and]at hans
  have HA:=hid hans;have hni:¬(n:Int)=(m:Int):=by omega
  clear hans;go_enter Tryz.func65,Tryz.ntmps65;go_wp2;go_ret;exact⟨by rw[←HA.out];rfl,Below.refl _ _⟩
theorem peSame(a1 a2:Bool)(r1 r2:Int){w:World}{v1 v2:Value}{n m:Nat}{PV QV:Nat→Value}{t u:Kt}(h1:KeSl w w.heap.size v1 n PV t)(h2:KeSl w w.heap.size v2 m QV u):
 Calls Tryz.prog 19 #[peerV a1 r1 v1,peerV a2 r2 v2] w fun e w'=>e=.returned (.bool (peerB a1 a2 r1 r2 n m t u))∧Below w.heap.size w w':=by
 have hb:=((Below.refl w.heap.size w).alloc (Nat.le_refl _) (.cells #[.bool a1,.int .i64 r1,v1] 41)).alloc (by simp) (.cells #[.bool a2,.int .i64 r2,v2] 41)
 have HE:=hid (peEqualFunc (h1.up hb) (h2.up hb))
 have HB:=hid hb
 obtain⟨ad1,c1,rfl,_,_⟩:=h1
 obtain⟨ad2,c2,rfl,_,_⟩:=h2
 unfold peerB
 generalize keptB n m t u=kb at *
 clear hb
 unfold peerV
 cases ha:(a1==a2)with
 |false =>
  rw[Bool.false_and];clear HE;go_enter Tryz.func19,Tryz.ntmps19;go_wp2;go_ret;exact⟨rfl,HB.out⟩
 |true =>
  rw[Bool.true_and];by_cases hr:r1=r2
  ·subst hr
   rw[decide_eq_true rfl,Bool.true_and];go_enter Tryz.func19,Tryz.ntmps19;go_wp2_with fail
   refine HE.out.mono ?_;rintro e w3 ⟨rfl,hb3⟩;have HB3:=hid (HB.out.trans (hb3.mono HB.out.size));clear hb3;go_wp2;go_ret;exact⟨rfl,HB3.out⟩
  rw[decide_eq_false hr,Bool.false_and];have he:(r1==r2)=false:=by simpa using hr
  clear hr HE;go_enter Tryz.func19,Tryz.ntmps19;go_wp2;go_ret;exact⟨rfl,HB.out⟩
def encPlan(x:Int×Int×Int):List Value:=[.int .i64 x.1,.int .i64 x.2.1,.int .i64 x.2.2]
open Go.Lib in
theorem eqPlan:EqlAt Tryz.prog 59 (fun x=>.agg (encPlan x).toArray) (fun x y=>x.1==y.1&&(x.2.1==y.2.1&&x.2.2==y.2.2)):=by
 refine⟨fun x y w=>?_,GuardAt.agg _ (by kernel_rfl)⟩;have u3:=Tryz.underlying3;have a3:=Tryz.isAgg3;have z3:=Tryz.sizeOf3;have hS:Tryz.prog.underlying 59=some (.struct (Tryz.prog.fieldsOf 59)):=by kernel_rfl
 have hp:Tryz.prog.stoodInHeld 59=false:=by kernel_rfl
 simp only[encPlan];rw[run_eql_struct,show(10000:Nat)=9999+1 from rfl,run_equalIn_agg w 9999 59 _ _ hS hp];simp only[Program.fieldsOf,Tryz.underlying59];go_simp
 by_cases h1:x.fst=y.fst<;>by_cases h2:x.snd.fst=y.snd.fst<;>by_cases h3:x.snd.snd=y.snd.snd<;>simp[h1,h2,h3]
def verB(b c:Bk)(j:Nat):Bool:=eqB (b.PL j) (c.PL j) (b.PX j) (c.PX j)&&(b.nd j==c.nd j&&(b.of j==c.of j&&b.sz j==c.sz j))
def restB(b c:Bk):Nat→Nat→Bool
 |0,_=>true
 |f+1,k=>verB b c k&&restB b c f (k+1)
def bookB(n m:Nat)(b c:Bk):Bool:=decide (n=m)&&restB b c n 0
theorem sameV_any(pv qv:Value)(l m:Nat)(X Y:Nat→Int)(n1 o1 s1 n2 o2 s2:Int)(w:World)(h1:IntSl w w.heap.size pv l X)(h2:IntSl w w.heap.size qv m Y):
 Calls Tryz.prog 88 #[verV pv n1 o1 s1,verV qv n2 o2 s2] w fun e w'=>e=.returned (.bool (eqB l m X Y&&(n1==n2&&(o1==o2&&s1==s2))))∧Below w.heap.size w w':=by
 have qe:∀(w:World),(binOp .eql 59 (.agg #[.int .i64 n1,.int .i64 o1,.int .i64 s1]) (.agg #[.int .i64 n2,.int .i64 o2,.int .i64 s2])).run Tryz.prog w=.ok (.bool (n1==n2&&(o1==o2&&s1==s2))) w:=fun w=>eqPlan.1 (n1,o1,s1) (n2,o2,s2) w
 have qg:∀(op:BinOp) (a b:Operand) (w:World),(eqGuard op 59 a b (.agg #[.int .i64 n1,.int .i64 o1,.int .i64 s1]) (.agg #[.int .i64 n2,.int .i64 o2,.int .i64 s2])).run Tryz.prog w=.ok () w:=fun op a b w=>eqPlan.2 op a b (n1,o1,s1) (n2,o2,s2) w
 have hb:=((Below.refl w.heap.size w).alloc (Nat.le_refl _) (.cells #[pv,.int .i64 n1,.int .i64 o1,.int .i64 s1] 61)).alloc (by simp) (.cells #[qv,.int .i64 n2,.int .i64 o2,.int .i64 s2] 61)
 have HE:=hid (equal_isl (h1.up hb) (h2.up hb))
 have HB:=hid hb
 obtain⟨a1,c1,rfl,_,_⟩:=h1
 obtain⟨a2,c2,rfl,_,_⟩:=h2
 generalize eqB l m X Y=ev at *
 generalize (n1==n2&&(o1==o2&&s1==s2))=pe at *
 clear hb
 unfold verV
 cases ev with
 |false =>
  go_enter Tryz.func88,Tryz.ntmps88;go_wp2_with fail
  refine HE.out.mono ?_;rintro e w3 ⟨rfl,q,hq⟩;have HB3:Hid (Below w.heap.size w w3):=HB.out.trans (by rw[hq];exact⟨rfl,rfl,rfl,Nat.le_refl _,fun _ _=>rfl⟩);clear hq;go_wp2;go_ret;exact⟨rfl,HB3.out⟩
 |true =>
  go_enter Tryz.func88,Tryz.ntmps88;go_wp2_with fail
  refine HE.out.mono ?_;rintro e w3 ⟨rfl,q,hq⟩;subst hq;go_wp2;go_ret;exact⟨rfl,HB.out.trans ⟨rfl,rfl,rfl,Nat.le_refl _,fun _ _=>rfl⟩⟩
theorem equalFunc_ver{w:World}{v1 v2:Value}{n m:Nat}{PV QV:Nat→Value}{b c:Bk}(h1:VeSl w w.heap.size v1 n PV b)(h2:VeSl w w.heap.size v2 m QV c):
 Calls Tryz.prog 63 #[v1,v2,.func (.func 88) #[] #[]] w fun e w'=>e=.returned (.bool (bookB n m b c))∧Below w.heap.size w w':=by
 obtain⟨a1,c1,rfl,⟨hc1,hr1⟩,hx⟩:=h1
 obtain⟨a2,c2,rfl,⟨hc2,hr2⟩,hy⟩:=h2
 obtain⟨ans,hans⟩:∃ans,bookB n m b c=ans:=⟨_,rfl⟩
 rw[hans]
 unfold bookB at hans
 by_cases hnm:n=m
 ·subst hnm
  rw[decide_eq_true rfl,Bool.true_and]at hans;have HA:=hid hans;have HX:=hid hx;have HY:=hid hy;clear hx hy hans;go_enter Tryz.func63,Tryz.ntmps63;go_wp2;go_loopw [17] (fun iv wr=>∃k:Nat,k≤n∧iv=.int .i64 k∧Hid (Below w.heap.size w wr)∧Hid (restB b c (n-k) k=ans)) (fun iv _=>n-(intOf iv).toNat)
  case atStart=>exact⟨0,Nat.zero_le _,rfl,Below.refl _ _,HA⟩
  case round =>
   obtain⟨k,hk,rfl,HB,HS⟩:=hrel;by_cases hlt:k<n
   ·have hki:(k:Int)<(n:Int):=by omega
    rcases HX.out with h0|⟨b1,o1,rfl,hb1,hx⟩;·omega
    rcases HY.out with h0|⟨b2,o2,rfl,hb2,hy⟩;·omega
    have hstep:=HS.out;rw[show n-k=(n-(k+1))+1 by omega]at hstep;simp only[restB]at hstep;have HSt:=hid hstep;obtain⟨x0,x1,x2,x3,x4⟩:=hx k hlt;obtain⟨y0,y1,y2,y3,y4⟩:=hy k hlt;have HI1:Hid (∀w',Below w.heap.size w w'→IntSl w' w'.heap.size (PV k) (b.PL k) (b.PX k)):=fun w' hb=>x4.up hb;have HI2:Hid (∀w',Below w.heap.size w w'→IntSl w' w'.heap.size (QV k) (c.PL k) (c.PX k)):=fun w' hb=>y4.up hb;obtain⟨ap,cp,hpe,_,_⟩:=x4;obtain⟨aq,cq,hqe,_,_⟩:=y4;rw[hpe]at x0 HI1;rw[hqe]at y0 HI2;have g0:wr.cell? ⟨b1,o1+k*4,none⟩=some (.slice ap (b.PL k) cp):=by rw[HB.out.cell hb1];exact x0
    have g1:wr.cell? ⟨b1,o1+k*4+1,none⟩=some (.int .i64 (b.nd k)):=by rw[HB.out.cell hb1];exact x1
    have g2:wr.cell? ⟨b1,o1+k*4+2,none⟩=some (.int .i64 (b.of k)):=by rw[HB.out.cell hb1];exact x2
    have g3:wr.cell? ⟨b1,o1+k*4+3,none⟩=some (.int .i64 (b.sz k)):=by rw[HB.out.cell hb1];exact x3
    have e0:wr.cell? ⟨b2,o2+k*4,none⟩=some (.slice aq (c.PL k) cq):=by rw[HB.out.cell hb2];exact y0
    have e1:wr.cell? ⟨b2,o2+k*4+1,none⟩=some (.int .i64 (c.nd k)):=by rw[HB.out.cell hb2];exact y1
    have e2:wr.cell? ⟨b2,o2+k*4+2,none⟩=some (.int .i64 (c.of k)):=by rw[HB.out.cell hb2];exact y2
    have e3:wr.cell? ⟨b2,o2+k*4+3,none⟩=some (.int .i64 (c.sz k)):=by rw[HB.out.cell hb2];exact y3
    have l1:b1<wr.heap.size:=cell_lt g0;have l2:b2<wr.heap.size:=cell_lt e0;clear x0 x1 x2 x3 y0 y1 y2 y3 hpe hqe hx hy hstep;go_wp2_with fail
    have hbb:Below w.heap.size w ((wr.alloc (.cells #[.slice ap (b.PL k) cp,.int .i64 (b.nd k),.int .i64 (b.of k),.int .i64 (b.sz k)] 61)).alloc (.cells #[.slice aq (c.PL k) cq,.int .i64 (c.nd k),.int .i64 (c.of k),.int .i64 (c.sz k)] 61)) :=
     (HB.out.alloc HB.out.size _).alloc (by simp;exact Nat.le_succ_of_le HB.out.size) _
    refine Calls.mono (sameV_any _ _ _ _ _ _ _ _ _ _ _ _ _ (HI1.out _ hbb) (HI2.out _ hbb)) ?_;rintro e w2 ⟨rfl,hb3⟩;have HB3:Hid (Below w.heap.size w w2):=hbb.trans (hb3.mono hbb.size);clear hb3 hbb;have hvb:(eqB (b.PL k) (c.PL k) (b.PX k) (c.PX k)&&(b.nd k==c.nd k&&(b.of k==c.of k&&b.sz k==c.sz k)))=verB b c k:=rfl;rw[hvb];clear hvb;cases hs:verB b c k with
    |true =>
     have hn:=HSt.out;rw[hs,Bool.true_and]at hn;have HNx:=hid hn;clear hn;go_wp2;go_roundw
     case rel=>exact⟨k+1,by omega,by go_num,HB3,HNx⟩
     case measure=>simp only[intOf];omega
    |false =>
     have hn:=HSt.out;rw[hs,Bool.false_and]at hn;have HNx:=hid hn;clear hn;go_wp2;go_ret;exact⟨by rw[←HNx.out];rfl,HB3.out⟩
   have hke:n=k:=by omega
   subst hke;have hst:=HS.out;rw[Nat.sub_self]at hst;have HFin:Hid (true=ans):=hst;clear hst;go_wp2;go_ret;exact⟨by rw[←HFin.out];rfl,HB.out⟩
 ·rw[decide_eq_false hnm,Bool.false_and]at hans
  have HA:=hid hans;have hni:¬(n:Int)=(m:Int):=by omega
  clear hans;go_enter Tryz.func63,Tryz.ntmps63;go_wp2;go_ret;exact⟨by rw[←HA.out];rfl,Below.refl _ _⟩
theorem sameBook_any{w:World}{v1 v2:Value}{n m:Nat}{PV QV:Nat→Value}{b c:Bk}(h1:VeSl w w.heap.size v1 n PV b)(h2:VeSl w w.heap.size v2 m QV c):
 Calls Tryz.prog 48 #[bookV v1,bookV v2] w fun e w'=>e=.returned (.bool (bookB n m b c))∧Below w.heap.size w w':=by
 have hb:=((Below.refl w.heap.size w).alloc (Nat.le_refl _) (.cells #[v1] 24)).alloc (by simp) (.cells #[v2] 24)
 have HE:=hid (equalFunc_ver (h1.up hb) (h2.up hb))
 have HB:=hid hb
 obtain⟨a1,c1,rfl,_,_⟩:=h1
 obtain⟨a2,c2,rfl,_,_⟩:=h2
 clear hb
 unfold bookV
 go_enter Tryz.func48,Tryz.ntmps48
 go_wp2_with fail
 refine HE.out.mono ?_
 rintro e w3 ⟨rfl,hb3⟩
 have HB3:=hid (HB.out.trans (hb3.mono HB.out.size))
 clear hb3
 go_wp2
 go_ret
 exact⟨rfl,HB3.out⟩
theorem bkSameV(pv qv:Value)(l m:Nat)(X Y:Nat→Int)(n1 o1 s1 n2 o2 s2:Int)(w:World)(h1:IntSl w w.heap.size pv l X)(h2:IntSl w w.heap.size qv m Y):
 Calls Tryz.prog 64 #[verV pv n1 o1 s1,verV qv n2 o2 s2] w fun e w'=>e=.returned (.bool (eqB l m X Y&&(n1==n2&&(o1==o2&&s1==s2))))∧Below w.heap.size w w':=by
 have qe:∀(w:World),(binOp .eql 59 (.agg #[.int .i64 n1,.int .i64 o1,.int .i64 s1]) (.agg #[.int .i64 n2,.int .i64 o2,.int .i64 s2])).run Tryz.prog w=.ok (.bool (n1==n2&&(o1==o2&&s1==s2))) w:=fun w=>eqPlan.1 (n1,o1,s1) (n2,o2,s2) w
 have qg:∀(op:BinOp) (a b:Operand) (w:World),(eqGuard op 59 a b (.agg #[.int .i64 n1,.int .i64 o1,.int .i64 s1]) (.agg #[.int .i64 n2,.int .i64 o2,.int .i64 s2])).run Tryz.prog w=.ok () w:=fun op a b w=>eqPlan.2 op a b (n1,o1,s1) (n2,o2,s2) w
 have hb:=((Below.refl w.heap.size w).alloc (Nat.le_refl _) (.cells #[pv,.int .i64 n1,.int .i64 o1,.int .i64 s1] 61)).alloc (by simp) (.cells #[qv,.int .i64 n2,.int .i64 o2,.int .i64 s2] 61)
 have HE:=hid (equal_isl (h1.up hb) (h2.up hb))
 have HB:=hid hb
 obtain⟨a1,c1,rfl,_,_⟩:=h1
 obtain⟨a2,c2,rfl,_,_⟩:=h2
 generalize eqB l m X Y=ev at *
 generalize (n1==n2&&(o1==o2&&s1==s2))=pe at *
 clear hb
 unfold verV
 cases pe with
 |false =>
  clear HE;go_enter Tryz.func64,Tryz.ntmps64;go_wp2;go_ret;exact⟨by rw[Bool.and_false];rfl,HB.out⟩
 |true =>
  rw[Bool.and_true];go_enter Tryz.func64,Tryz.ntmps64;go_wp2_with fail
  refine HE.out.mono ?_;rintro e w3 ⟨rfl,q,hq⟩;have HB3:Hid (Below w.heap.size w w3):=HB.out.trans (by rw[hq];exact⟨rfl,rfl,rfl,Nat.le_refl _,fun _ _=>rfl⟩);clear hq;go_wp2;go_ret;exact⟨rfl,HB3.out⟩
theorem bkEqualFunc{w:World}{v1 v2:Value}{n m:Nat}{PV QV:Nat→Value}{b c:Bk}(h1:VeSl w w.heap.size v1 n PV b)(h2:VeSl w w.heap.size v2 m QV c):
 Calls Tryz.prog 63 #[v1,v2,.func (.func 64) #[] #[]] w fun e w'=>e=.returned (.bool (bookB n m b c))∧Below w.heap.size w w':=by
 obtain⟨a1,c1,rfl,⟨hc1,hr1⟩,hx⟩:=h1
 obtain⟨a2,c2,rfl,⟨hc2,hr2⟩,hy⟩:=h2
 obtain⟨ans,hans⟩:∃ans,bookB n m b c=ans:=⟨_,rfl⟩
 rw[hans]
 unfold bookB at hans
 by_cases hnm:n=m
 ·subst hnm
  rw[decide_eq_true rfl,Bool.true_and]at hans;have HA:=hid hans;have HX:=hid hx;have HY:=hid hy;clear hx hy hans;go_enter Tryz.func63,Tryz.ntmps63;go_wp2;go_loopw [17] (fun iv wr=>∃k:Nat,k≤n∧iv=.int .i64 k∧Hid (Below w.heap.size w wr)∧Hid (restB b c (n-k) k=ans)) (fun iv _=>n-(intOf iv).toNat)
  case atStart=>exact⟨0,Nat.zero_le _,rfl,Below.refl _ _,HA⟩
  case round =>
   obtain⟨k,hk,rfl,HB,HS⟩:=hrel;by_cases hlt:k<n
   ·have hki:(k:Int)<(n:Int):=by omega
    rcases HX.out with h0|⟨b1,o1,rfl,hb1,hx⟩;·omega
    rcases HY.out with h0|⟨b2,o2,rfl,hb2,hy⟩;·omega
    have hstep:=HS.out;rw[show n-k=(n-(k+1))+1 by omega]at hstep;simp only[restB]at hstep;have HSt:=hid hstep;obtain⟨x0,x1,x2,x3,x4⟩:=hx k hlt;obtain⟨y0,y1,y2,y3,y4⟩:=hy k hlt;have HI1:Hid (∀w',Below w.heap.size w w'→IntSl w' w'.heap.size (PV k) (b.PL k) (b.PX k)):=fun w' hb=>x4.up hb;have HI2:Hid (∀w',Below w.heap.size w w'→IntSl w' w'.heap.size (QV k) (c.PL k) (c.PX k)):=fun w' hb=>y4.up hb;obtain⟨ap,cp,hpe,_,_⟩:=x4;obtain⟨aq,cq,hqe,_,_⟩:=y4;rw[hpe]at x0 HI1;rw[hqe]at y0 HI2;have g0:wr.cell? ⟨b1,o1+k*4,none⟩=some (.slice ap (b.PL k) cp):=by rw[HB.out.cell hb1];exact x0
    have g1:wr.cell? ⟨b1,o1+k*4+1,none⟩=some (.int .i64 (b.nd k)):=by rw[HB.out.cell hb1];exact x1
    have g2:wr.cell? ⟨b1,o1+k*4+2,none⟩=some (.int .i64 (b.of k)):=by rw[HB.out.cell hb1];exact x2
    have g3:wr.cell? ⟨b1,o1+k*4+3,none⟩=some (.int .i64 (b.sz k)):=by rw[HB.out.cell hb1];exact x3
    have e0:wr.cell? ⟨b2,o2+k*4,none⟩=some (.slice aq (c.PL k) cq):=by rw[HB.out.cell hb2];exact y0
    have e1:wr.cell? ⟨b2,o2+k*4+1,none⟩=some (.int .i64 (c.nd k)):=by rw[HB.out.cell hb2];exact y1
    have e2:wr.cell? ⟨b2,o2+k*4+2,none⟩=some (.int .i64 (c.of k)):=by rw[HB.out.cell hb2];exact y2
    have e3:wr.cell? ⟨b2,o2+k*4+3,none⟩=some (.int .i64 (c.sz k)):=by rw[HB.out.cell hb2];exact y3
    have l1:b1<wr.heap.size:=cell_lt g0;have l2:b2<wr.heap.size:=cell_lt e0;clear x0 x1 x2 x3 y0 y1 y2 y3 hpe hqe hx hy hstep;go_wp2_with fail
    have hbb:Below w.heap.size w ((wr.alloc (.cells #[.slice ap (b.PL k) cp,.int .i64 (b.nd k),.int .i64 (b.of k),.int .i64 (b.sz k)] 61)).alloc (.cells #[.slice aq (c.PL k) cq,.int .i64 (c.nd k),.int .i64 (c.of k),.int .i64 (c.sz k)] 61)) :=
     (HB.out.alloc HB.out.size _).alloc (by simp;exact Nat.le_succ_of_le HB.out.size) _
    refine Calls.mono (bkSameV _ _ _ _ _ _ _ _ _ _ _ _ _ (HI1.out _ hbb) (HI2.out _ hbb)) ?_;rintro e w2 ⟨rfl,hb3⟩;have HB3:Hid (Below w.heap.size w w2):=hbb.trans (hb3.mono hbb.size);clear hb3 hbb;have hvb:(eqB (b.PL k) (c.PL k) (b.PX k) (c.PX k)&&(b.nd k==c.nd k&&(b.of k==c.of k&&b.sz k==c.sz k)))=verB b c k:=rfl;rw[hvb];clear hvb;cases hs:verB b c k with
    |true =>
     have hn:=HSt.out;rw[hs,Bool.true_and]at hn;have HNx:=hid hn;clear hn;go_wp2;go_roundw
     case rel=>exact⟨k+1,by omega,by go_num,HB3,HNx⟩
     case measure=>simp only[intOf];omega
    |false =>
     have hn:=HSt.out;rw[hs,Bool.false_and]at hn;have HNx:=hid hn;clear hn;go_wp2;go_ret;exact⟨by rw[←HNx.out];rfl,HB3.out⟩
   have hke:n=k:=by omega
   subst hke;have hst:=HS.out;rw[Nat.sub_self]at hst;have HFin:Hid (true=ans):=hst;clear hst;go_wp2;go_ret;exact⟨by rw[←HFin.out];rfl,HB.out⟩
 ·rw[decide_eq_false hnm,Bool.false_and]at hans
  have HA:=hid hans;have hni:¬(n:Int)=(m:Int):=by omega
  clear hans;go_enter Tryz.func63,Tryz.ntmps63;go_wp2;go_ret;exact⟨by rw[←HA.out];rfl,Below.refl _ _⟩
theorem bkSame{w:World}{v1 v2:Value}{n m:Nat}{PV QV:Nat→Value}{b c:Bk}(h1:VeSl w w.heap.size v1 n PV b)(h2:VeSl w w.heap.size v2 m QV c):
 Calls Tryz.prog 18 #[bookV v1,bookV v2] w fun e w'=>e=.returned (.bool (bookB n m b c))∧Below w.heap.size w w':=by
 have hb:=((Below.refl w.heap.size w).alloc (Nat.le_refl _) (.cells #[v1] 24)).alloc (by simp) (.cells #[v2] 24)
 have HE:=hid (bkEqualFunc (h1.up hb) (h2.up hb))
 have HB:=hid hb
 obtain⟨a1,c1,rfl,_,_⟩:=h1
 obtain⟨a2,c2,rfl,_,_⟩:=h2
 clear hb
 unfold bookV
 go_enter Tryz.func18,Tryz.ntmps18
 go_wp2_with fail
 refine HE.out.mono ?_
 rintro e w3 ⟨rfl,hb3⟩
 have HB3:=hid (HB.out.trans (hb3.mono HB.out.size))
 clear hb3
 go_wp2
 go_ret
 exact⟨rfl,HB3.out⟩
theorem KeSl.at{w:World}{B:Nat}{a:Option Addr}{m c:Nat}{UV:Nat→Value}{t:Kt}(h:KeSl w B (.slice a m c) m UV t){i:Nat}(hi:i<m):
 ∃bl off,a=some ⟨bl,off,none⟩∧m≤c∧w.cell? ⟨bl,off+i*3,none⟩=some (.int .i64 (t.V i))∧w.cell? ⟨bl,off+i*3+1,none⟩=some (.int .i64 (t.N i))∧w.cell? ⟨bl,off+i*3+2,none⟩=some (UV i)∧IntSl w B (UV i) (t.L i) (t.X i):=by
 obtain⟨ad,cap,he,⟨h0,_⟩,h2⟩:=h
 injection he with e1 _ e3
 subst e1 e3
 rcases h2 with h2|⟨bl,off,rfl,_,h5⟩
 ·omega
 ·obtain⟨g1,g2,g3,g4⟩:=h5 i hi
  exact⟨bl,off,rfl,h0,g1,g2,g3,g4⟩
end Go.Proofs.YtajmnlhfnhbleaaGreat
