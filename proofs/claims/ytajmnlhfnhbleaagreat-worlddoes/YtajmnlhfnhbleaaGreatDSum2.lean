/- Several texts of one proof, in their order. -/
import Derived.Test.YtajmnlhfnhbleaaGreatDSum1
namespace Go.Proofs.YtajmnlhfnhbleaaGreat
open Go.RowKit
set_option linter.unusedVariables false
set_option maxHeartbeats 2000000
set_option maxRecDepth 10000
def numsB(n:Nat)(X:Nat→Int):Bool:=decide (∀j,j<n→isNum (X j)=true)
def oneE(nd of sz N:Int)(L:Nat)(X:Nat→Int):Int :=
 if planOk nd of sz=true then(if 0≤N∧N<of then(if(L:Int)=rowsN nd sz then(if numsB L X=true then 0 else 2)else 3)else 4)else 2
def sameB(N1 N2:Int)(n m:Nat)(X Y:Nat→Int):Bool:=decide (N1=N2)&&eqB n m X Y
theorem rowsN_uniq{d n r:Nat}(hd:1≤d∧d≤4)(h1:n≤r*d)(h2:r*d<n+d):rowsN (d:Int) (n:Int)=r:=by
 unfold rowsN;rcases(show d=1∨d=2∨d=3∨d=4 by omega)with rfl|rfl|rfl|rfl<;>omega
theorem rowsOf_any(nd of sz:Int)(w:World):Calls Tryz.prog 131 #[planV nd of sz] w fun e w'=>e=.returned (.int .i64 (longP nd of sz))∧Below w.heap.size w w':=by
 have hbx:=below_alloc w (.cells #[.int .i64 nd,.int .i64 of,.int .i64 sz] 59);have HC:=hid (checkPlan_any nd of sz (w.alloc (.cells #[.int .i64 nd,.int .i64 of,.int .i64 sz] 59)));unfold longP;by_cases hp:planOk nd of sz=true
 ·have e:chkP nd of sz=0:=by unfold chkP;rw[if_pos hp]
  rw[if_pos hp];rw[e]at HC;obtain⟨hnd,hof,hsz⟩:=planOk_spec hp;obtain⟨d,rfl⟩:∃d:Nat,nd=d:=⟨nd.toNat,by omega⟩;obtain⟨n,rfl⟩:∃n:Nat,sz=n:=⟨sz.toNat,by omega⟩;have HBx:=hid hbx;clear hp e hbx;unfold planV;go_enter Tryz.func131,Tryz.ntmps131;go_wp2_with fail
  refine HC.out.mono ?_;rintro e w1 ⟨rfl,hb1⟩;have p0:w1.cell? ⟨w.heap.size,0,none⟩=some (.int .i64 (d:Int)):=by rw[hb1.cell (by simp)];exact cell_at (heap_alloc_new _ _) rfl
  have p2:w1.cell? ⟨w.heap.size,2,none⟩=some (.int .i64 (n:Int)):=by rw[hb1.cell (by simp)];exact cell_at (heap_alloc_new _ _) rfl
  have HB1:=hid (HBx.out.trans (hb1.mono HBx.out.size));clear hb1;go_wp2;go_loop [3,4] (fun a b=>∃r h:Nat,a=.int .i64 r∧b=.int .i64 h∧Hid (h=r*d)∧h<n+d∧r≤h) (fun _ b=>n+d-(intOf b).toNat)
  case atStart=>exact⟨0,0,rfl,rfl,by show 0=0*d;omega,by omega,by omega⟩
  case round =>
   obtain⟨r,h,rfl,rfl,HH,hlt,hrh⟩:=hrel;by_cases hgo:h<n
   ·have hgi:(h:Int)<(n:Int):=by omega
    go_wp2;go_round
    case rel=>exact⟨r+1,h+d,by go_num,by go_num,by show h+d=(r+1)*d;rw[Nat.add_mul,Nat.one_mul,HH.out],by omega,by omega⟩
    case measure=>simp only[intOf];omega
   have hgi:(n:Int)≤(h:Int):=by omega
   go_wp2;go_ret;refine⟨?_,HB1.out⟩;rw[rowsN_uniq (r:=r) (by omega) (by rw[←HH.out];omega) (by rw[←HH.out];omega)];rfl
 have e:chkP nd of sz=2:=by unfold chkP;rw[if_neg hp]
 rw[if_neg hp];rw[e]at HC;have HBx:=hid hbx;clear hp e hbx;unfold planV;go_enter Tryz.func131,Tryz.ntmps131;go_wp2_with(go_at_call 124;go_must(refine HC.out.mono ?_;rintro e w1 ⟨rfl,hb1⟩;have HB1:=hid (HBx.out.trans (hb1.mono HBx.out.size));clear hb1))
 go_ret;exact⟨rfl,HB1.out⟩
theorem sameShare_any(N1 N2:Int)(V1 V2:Value)(n m:Nat)(X Y:Nat→Int)(w:World)(h1:IntSl w w.heap.size V1 n X)(h2:IntSl w w.heap.size V2 m Y):
 Calls Tryz.prog 90 #[shareV N1 V1,shareV N2 V2] w fun e w'=>e=.returned (.bool (sameB N1 N2 n m X Y))∧Below w.heap.size w w':=by
 have hb:=((Below.refl w.heap.size w).alloc (Nat.le_refl _) (.cells #[.int .i64 N1,V1] 81)).alloc (by simp) (.cells #[.int .i64 N2,V2] 81)
 have HE:=hid (equal_isl (h1.up hb) (h2.up hb))
 have HB:=hid hb
 obtain⟨a1,c1,rfl,_,_⟩:=h1
 obtain⟨a2,c2,rfl,_,_⟩:=h2
 clear hb
 unfold shareV sameB
 by_cases hn:N1=N2
 ·subst hn
  rw[decide_eq_true rfl,Bool.true_and];go_enter Tryz.func90,Tryz.ntmps90;go_wp2_with(go_at_call 32;go_must(refine HE.out.mono ?_;rintro e w1 ⟨rfl,q,hq⟩;have HQ:=hid hq;clear hq))
  go_ret;refine⟨rfl,?_⟩;rw[HQ.out];exact HB.out.trans ⟨rfl,rfl,rfl,Nat.le_refl _,fun _ _=>rfl⟩
 ·rw[decide_eq_false hn,Bool.false_and]
  have he:(N1==N2)=false:=by simpa using hn
  clear hn;go_enter Tryz.func90,Tryz.ntmps90;go_wp2;go_ret;exact⟨rfl,HB.out⟩
def numsFrom(X:Nat→Int)(n k:Nat):Bool:=decide (∀j,j<n→k≤j→isNum (X j)=true)
theorem numsFrom_zero(X:Nat→Int)(n:Nat):numsFrom X n 0=numsB n X:=by
 unfold numsFrom numsB;rw[decide_eq_decide];exact⟨fun h j hj=>h j hj (Nat.zero_le _),fun h j hj _=>h j hj⟩
theorem numsFrom_bad{X:Nat→Int}{n k:Nat}{b:Bool}(hk:k<n)(h:numsFrom X n k=b)(hb:isNum (X k)=false):b=false:=by
 rw[←h];refine decide_eq_false fun h1=>?_;have:=h1 k hk (Nat.le_refl _);rw[hb]at this;cases this
theorem numsFrom_next{X:Nat→Int}{n k:Nat}{b:Bool}(h:numsFrom X n k=b)(hb:isNum (X k)=true):numsFrom X n (k+1)=b:=by
 rw[←h];unfold numsFrom;rw[decide_eq_decide];constructor
 ·intro h1 j hjn hj
  by_cases e:j=k;·rw[e];exact hb
  exact h1 j hjn (by omega)
 intro h1 j hjn hj;exact h1 j hjn (by omega)
theorem numsFrom_end{X:Nat→Int}{n:Nat}{b:Bool}(h:numsFrom X n n=b):b=true:=by
 rw[←h];exact decide_eq_true fun j h1 h2=>by omega
theorem checkShare_any(nd of sz N:Int)(V:Value)(L:Nat)(X:Nat→Int)(w:World)(h:IntSl w w.heap.size V L X):
 Calls Tryz.prog 125 #[planV nd of sz,shareV N V] w fun e w'=>e=.returned (.int .i64 (oneE nd of sz N L X))∧Below w.heap.size w w':=by
 obtain⟨W,hW⟩:∃W,(w.alloc (.cells #[.int .i64 nd,.int .i64 of,.int .i64 sz] 59)).alloc (.cells #[.int .i64 N,V] 81)=W:=⟨_,rfl⟩
 have hb:Below w.heap.size w W:=by rw[←hW];exact((Below.refl w.heap.size w).alloc (Nat.le_refl _) _).alloc (by simp) _
 have p0:W.cell? ⟨w.heap.size,0,none⟩=some (.int .i64 nd):=by rw[←hW];exact cell_at (heap_two_old w _ _) rfl
 have p1:W.cell? ⟨w.heap.size,1,none⟩=some (.int .i64 of):=by rw[←hW];exact cell_at (heap_two_old w _ _) rfl
 have p2:W.cell? ⟨w.heap.size,2,none⟩=some (.int .i64 sz):=by rw[←hW];exact cell_at (heap_two_old w _ _) rfl
 have s0:W.cell? ⟨w.heap.size+1,0,none⟩=some (.int .i64 N):=by rw[←hW];exact cell_at (heap_two_new w _ _) rfl
 have s1:W.cell? ⟨w.heap.size+1,1,none⟩=some V:=by rw[←hW];exact cell_at (heap_two_new w _ _) rfl
 have KP:Hid (∀w',Below W.heap.size W w'→(w'.cell? ⟨w.heap.size,0,none⟩=some (.int .i64 nd)∧w'.cell? ⟨w.heap.size,1,none⟩=some (.int .i64 of)∧w'.cell? ⟨w.heap.size,2,none⟩=some (.int .i64 sz))∧w'.cell? ⟨w.heap.size+1,0,none⟩=some (.int .i64 N)∧w'.cell? ⟨w.heap.size+1,1,none⟩=some V):=fun w' hb' =>
  ⟨⟨by rw[hb'.cell (cell_lt p0)];exact p0,by rw[hb'.cell (cell_lt p1)];exact p1,by rw[hb'.cell (cell_lt p2)];exact p2⟩,by rw[hb'.cell (cell_lt s0)];exact s0,by rw[hb'.cell (cell_lt s1)];exact s1⟩
 have HI:=hid (h.up hb)
 obtain⟨a1,c1,hv,⟨hcap,hbig⟩,_⟩:=h
 subst hv
 have HC:=hid (checkPlan_any nd of sz W)
 have HRo:=hid (rowsOf_any nd of sz)
 unfold planV shareV
 obtain⟨ans,hans⟩:∃a,oneE nd of sz N L X=a:=⟨_,rfl⟩
 rw[hans]
 unfold oneE at hans
 by_cases hp:planOk nd of sz=true
 ·have e:chkP nd of sz=0:=by unfold chkP;rw[if_pos hp]
  have e2:longP nd of sz=rowsN nd sz:=by unfold longP;rw[if_pos hp]
  rw[if_pos hp]at hans;rw[e]at HC;simp only[e2]at HRo;have hrw:=rowsN_bd (planOk_spec hp).1 (planOk_spec hp).2.2;have hRb:rowsN nd sz≤24:=hrw.2.2.2.1;generalize rowsN nd sz=R at *;have HBW:=hid hb;have HPl:=hid (planOk_spec hp);clear hp e e2 hrw hb;by_cases hN:0≤N∧N<of
  ·rw[if_pos hN]at hans
   have HA:=hid hans;clear hans;go_enter Tryz.func125,Tryz.ntmps125;go_wp2_with(go_at_call 124;go_must(refine HC.out.mono ?_;rintro e w1 ⟨rfl,hb1⟩;obtain⟨⟨p0,p1,p2⟩,s0,s1⟩:=KP.out w1 hb1;have HB1:=hid hb1;clear hb1))
   have hne:Nonempty (Of (Below W.heap.size W)):=⟨⟨W,Below.refl _ _⟩⟩;have F0:∀u:Of (Below W.heap.size W),u.val.cell? ⟨w.heap.size,0,none⟩=some (.int .i64 nd):=fun u=>(KP.out u.val u.is).1.1;have F1:∀u:Of (Below W.heap.size W),u.val.cell? ⟨w.heap.size,1,none⟩=some (.int .i64 of):=fun u=>(KP.out u.val u.is).1.2.1;have F2:∀u:Of (Below W.heap.size W),u.val.cell? ⟨w.heap.size,2,none⟩=some (.int .i64 sz):=fun u=>(KP.out u.val u.is).1.2.2;have F4:∀u:Of (Below W.heap.size W),u.val.cell? ⟨w.heap.size+1,1,none⟩=some (.slice a1 L c1):=fun u=>(KP.out u.val u.is).2.2;have HD1:Hid (Below W.heap.size W w1.drew):=HB1.out.trans ⟨rfl,rfl,rfl,Nat.le_refl _,fun _ _=>rfl⟩;refine region_mixed (Below W.heap.size W) [([0,1,2,3],4)] [5,6] (by kernel_rfl) (by kernel_rfl) HD1.out ?_;refine mixO_cons ?_;repeat(go_big_quiet_step (fail))
   refine wpQuiet_nil ?_;intro K hK;go_wp2_with fail
   refine Calls.mono (HRo.out _) ?_;rintro e w2 ⟨rfl,hb2⟩;have HB2:Hid (Below W.heap.size W w2):=HD1.out.trans (hb2.mono HD1.out.size);clear hb2;go_wp2;refine⟨rfl,hK _ _ HB2.out ?_⟩;clear hK K;refine mixO_nil ?_;by_cases hL:(L:Int)=(R:Int)
   ·have HA2:=HA.out
    rw[if_pos hL]at HA2;have HA3:=hid HA2;clear HA2;have hLb:((L:Int) != (R:Int))=false:=by simpa using hL
    have HLR:Hid (L=R):=by show L=R;omega
    clear hL;repeat(go_big_quiet_step (fail))
    refine wpQuiet_nil ?_;obtain⟨⟨p0,p1,p2⟩,s0,s1⟩:=KP.out w2 HB2.out;go_wp2;go_loop [35] (fun i=>∃k:Nat,k≤L∧i=.int .i64 k∧Hid (numsFrom X L k=numsB L X)) (fun i=>L-(intOf i).toNat)
    case atStart=>exact⟨0,Nat.zero_le _,rfl,numsFrom_zero X L⟩
    case round =>
     obtain⟨k,hk,rfl,HF⟩:=hrel;by_cases hlt:k<L
     ·have hki:(k:Int)<(L:Int):=by omega
      have hod:∃bo oo,a1=some ⟨bo,oo,none⟩∧w2.cell? ⟨bo,oo+k,none⟩=some (.int .i64 (X k)):=by
       obtain⟨ad,cp,e,_,h2⟩:=HI.out;injection e with e4;subst e4;rcases h2 with h0|⟨bo,oo,rfl,hb,hx⟩;·omega
       exact⟨bo,oo,rfl,by rw[HB2.out.cell hb];exact hx k hlt⟩
      obtain⟨bo,oo,rfl,god⟩:=hod;cases hn:isNum (X k)with
      |true =>
       go_wp2_with(go_at_call 126;go_must(refine(isNumber_any _ _).mono ?_;rintro e wq ⟨rfl,hwq⟩;subst wq;rw[hn]))
       go_round
       case rel=>exact⟨k+1,by omega,by go_num,numsFrom_next HF.out hn⟩
       case measure=>simp only[intOf];omega
      |false =>
       have hnb:=numsFrom_bad hlt HF.out hn;have hA:=HA3.out;rw[hnb,if_neg (by decide)]at hA;subst hA;clear hnb;go_wp2_with(go_at_call 126;go_must(refine(isNumber_any _ _).mono ?_;rintro e wq ⟨rfl,hwq⟩;subst wq;rw[hn]))
       go_ret;exact⟨rfl,HBW.out.trans (HB2.out.mono HBW.out.size)⟩
     have hke:k=L:=by omega
     subst hke;have hnb:=numsFrom_end HF.out;have hA:=HA3.out;rw[hnb,if_pos rfl]at hA;subst hA;clear HF hnb;go_wp2;go_ret;exact⟨rfl,HBW.out.trans (HB2.out.mono HBW.out.size)⟩
   have hA:=HA.out;rw[if_neg hL]at hA;subst hA;have hLb:((L:Int) != (R:Int))=true:=by simpa using hL
   clear hL;repeat(go_big_quiet_step (fail))
   refine wpQuiet_nil ?_;go_wp2;go_ret;exact⟨rfl,HBW.out.trans (HB2.out.mono HBW.out.size)⟩
  rw[if_neg hN]at hans;subst hans;by_cases hN0:N<0
  ·clear hN
   go_enter Tryz.func125,Tryz.ntmps125;go_wp2_with(go_at_call 124;go_must(refine HC.out.mono ?_;rintro e w1 ⟨rfl,hb1⟩;obtain⟨⟨p0,p1,p2⟩,s0,s1⟩:=KP.out w1 hb1;have HB1:=hid hb1;clear hb1))
   go_ret;exact⟨rfl,HBW.out.trans (HB1.out.mono HBW.out.size)⟩
  have hN1:of≤N:=by omega
  clear hN;go_enter Tryz.func125,Tryz.ntmps125;go_wp2_with(go_at_call 124;go_must(refine HC.out.mono ?_;rintro e w1 ⟨rfl,hb1⟩;obtain⟨⟨p0,p1,p2⟩,s0,s1⟩:=KP.out w1 hb1;have HB1:=hid hb1;clear hb1))
  go_ret;exact⟨rfl,HBW.out.trans (HB1.out.mono HBW.out.size)⟩
 ·have e:chkP nd of sz=2:=by unfold chkP;rw[if_neg hp]
  rw[if_neg hp]at hans;subst hans;rw[e]at HC;have HBW:=hid hb;clear hp e hb;go_enter Tryz.func125,Tryz.ntmps125;go_wp2_with(go_at_call 124;go_must(refine HC.out.mono ?_;rintro e w1 ⟨rfl,hb1⟩;have HB1:=hid hb1;clear hb1))
  go_ret;exact⟨rfl,HBW.out.trans (HB1.out.mono HBW.out.size)⟩
theorem shLong(nd of sz:Int)(w:World):Calls Tryz.prog 112 #[planV nd of sz] w fun e w'=>e=.returned (.int .i64 (longP nd of sz))∧Below w.heap.size w w':=by
 have hbx:=below_alloc w (.cells #[.int .i64 nd,.int .i64 of,.int .i64 sz] 59);have HC:=hid (shCheck nd of sz (w.alloc (.cells #[.int .i64 nd,.int .i64 of,.int .i64 sz] 59)));have HBx:=hid hbx;clear hbx;unfold longP;by_cases hp:planOk nd of sz=true
 ·have e:chkP nd of sz=0:=by unfold chkP;rw[if_pos hp]
  rw[if_pos hp];rw[e]at HC;obtain⟨hnd,hof,hsz⟩:=planOk_spec hp;obtain⟨r,hr⟩:∃r:Int,(sz+nd-1)/nd=r:=⟨_,rfl⟩;have hr0:0≤r∧r≤27:=by
   rw[←hr];rcases(show nd=1∨nd=2∨nd=3∨nd=4 by omega)with rfl|rfl|rfl|rfl<;>omega
  have hR:((rowsN nd sz:Nat):Int)=r:=by unfold rowsN;omega
  rw[hR];have ht:(sz+nd-1).tdiv nd=r:=by rw[Int.tdiv_eq_ediv_of_nonneg (by omega)];exact hr
  clear hp e hr hR;unfold planV;go_enter Tryz.func112,Tryz.ntmps112;go_wp2_with fail
  refine HC.out.mono ?_;rintro e w1 ⟨rfl,hb1⟩;have p0:w1.cell? ⟨w.heap.size,0,none⟩=some (.int .i64 nd):=by rw[hb1.cell (by simp)];exact cell_at (heap_alloc_new _ _) rfl
  have p2:w1.cell? ⟨w.heap.size,2,none⟩=some (.int .i64 sz):=by rw[hb1.cell (by simp)];exact cell_at (heap_alloc_new _ _) rfl
  have HB1:=hid (HBx.out.trans (hb1.mono HBx.out.size));clear hb1;go_wp2;go_ret;exact⟨rfl,HB1.out⟩
 have e:chkP nd of sz=2:=by unfold chkP;rw[if_neg hp]
 rw[if_neg hp];rw[e]at HC;clear hp e;unfold planV;go_enter Tryz.func112,Tryz.ntmps112;go_wp2_with(go_at_call 110;go_must(refine HC.out.mono ?_;rintro e w1 ⟨rfl,hb1⟩;have HB1:=hid (HBx.out.trans (hb1.mono HBx.out.size));clear hb1))
 go_ret;exact⟨rfl,HB1.out⟩
def numE(n:Nat)(X:Nat→Int)(many:Int):Int:=if(n:Int)=many then(if numsB n X=true then 0 else 2)else 3
theorem shNumbers(v:Value)(n:Nat)(X:Nat→Int)(many:Int)(w:World)(h:IntSl w w.heap.size v n X):
 Calls Tryz.prog 111 #[v,.int .i64 many] w fun e w'=>e=.returned (.int .i64 (numE n X many))∧w'=w:=by
 obtain⟨a1,c1,rfl,⟨hcap,hbig⟩,hx⟩:=h
 obtain⟨ans,hans⟩:∃a,numE n X many=a:=⟨_,rfl⟩
 rw[hans]
 unfold numE at hans
 by_cases hm:(n:Int)=many
 ·rw[if_pos hm]at hans
  subst hm;have HA:=hid hans;clear hans;go_enter Tryz.func111,Tryz.ntmps111;go_wp2;go_loop [14] (fun i=>∃k:Nat,k≤n∧i=.int .i64 k∧Hid (numsFrom X n k=numsB n X)) (fun i=>n-(intOf i).toNat)
  case atStart=>exact⟨0,Nat.zero_le _,rfl,numsFrom_zero X n⟩
  case round =>
   obtain⟨k,hk,rfl,HF⟩:=hrel;by_cases hlt:k<n
   ·have hki:(k:Int)<(n:Int):=by omega
    have hod:∃bo oo,a1=some ⟨bo,oo,none⟩∧w.cell? ⟨bo,oo+k,none⟩=some (.int .i64 (X k)):=by
     rcases hx with h0|⟨bo,oo,rfl,hb,hx⟩;·omega
     exact⟨bo,oo,rfl,hx k hlt⟩
    obtain⟨bo,oo,rfl,god⟩:=hod;by_cases hn:0≤X k∧X k≤30
    ·have hn2:isNum (X k)=true:=(isNum_iff _).2 hn
     go_wp2_with(go_at_call 144;go_must(refine(check_ok _ hn _).mono ?_;rintro e wq ⟨rfl,hwq⟩;subst wq))
     go_round
     case rel=>exact⟨k+1,by omega,by go_num,numsFrom_next HF.out hn2⟩
     case measure=>simp only[intOf];omega
    have hn2:isNum (X k)=false:=decide_eq_false hn;have hnb:=numsFrom_bad hlt HF.out hn2;have hA:=HA.out;rw[hnb,if_neg (by decide)]at hA;subst hA;clear hnb;go_wp2_with(go_at_call 144;go_must(refine(check_bad _ hn _).mono ?_;rintro e wq ⟨rfl,hwq⟩;subst wq))
    go_ret;exact⟨rfl,rfl⟩
   have hke:k=n:=by omega
   subst hke;have hnb:=numsFrom_end HF.out;have hA:=HA.out;rw[hnb,if_pos rfl]at hA;subst hA;clear HF hnb;go_wp2;go_ret;exact⟨rfl,rfl⟩
 ·rw[if_neg hm]at hans
  subst hans;have hmb:((n:Int) != many)=true:=by simpa using hm
  clear hm;go_enter Tryz.func111,Tryz.ntmps111;go_wp2;go_ret;exact⟨rfl,rfl⟩
theorem shOne(nd of sz N:Int)(V:Value)(L:Nat)(X:Nat→Int)(w:World)(h:IntSl w w.heap.size V L X):
 Calls Tryz.prog 164 #[planV nd of sz,shareV N V] w fun e w'=>e=.returned (.int .i64 (oneE nd of sz N L X))∧Below w.heap.size w w':=by
 obtain⟨W,hW⟩:∃W,(w.alloc (.cells #[.int .i64 nd,.int .i64 of,.int .i64 sz] 59)).alloc (.cells #[.int .i64 N,V] 81)=W:=⟨_,rfl⟩
 have hb:Below w.heap.size w W:=by rw[←hW];exact((Below.refl w.heap.size w).alloc (Nat.le_refl _) _).alloc (by simp) _
 have p0:W.cell? ⟨w.heap.size,0,none⟩=some (.int .i64 nd):=by rw[←hW];exact cell_at (heap_two_old w _ _) rfl
 have p1:W.cell? ⟨w.heap.size,1,none⟩=some (.int .i64 of):=by rw[←hW];exact cell_at (heap_two_old w _ _) rfl
 have p2:W.cell? ⟨w.heap.size,2,none⟩=some (.int .i64 sz):=by rw[←hW];exact cell_at (heap_two_old w _ _) rfl
 have s0:W.cell? ⟨w.heap.size+1,0,none⟩=some (.int .i64 N):=by rw[←hW];exact cell_at (heap_two_new w _ _) rfl
 have s1:W.cell? ⟨w.heap.size+1,1,none⟩=some V:=by rw[←hW];exact cell_at (heap_two_new w _ _) rfl
 have KP:Hid (∀w',Below W.heap.size W w'→(w'.cell? ⟨w.heap.size,0,none⟩=some (.int .i64 nd)∧w'.cell? ⟨w.heap.size,1,none⟩=some (.int .i64 of)∧w'.cell? ⟨w.heap.size,2,none⟩=some (.int .i64 sz))∧w'.cell? ⟨w.heap.size+1,0,none⟩=some (.int .i64 N)∧w'.cell? ⟨w.heap.size+1,1,none⟩=some V):=fun w' hb' =>
  ⟨⟨by rw[hb'.cell (cell_lt p0)];exact p0,by rw[hb'.cell (cell_lt p1)];exact p1,by rw[hb'.cell (cell_lt p2)];exact p2⟩,by rw[hb'.cell (cell_lt s0)];exact s0,by rw[hb'.cell (cell_lt s1)];exact s1⟩
 have HI:=hid (h.up hb)
 obtain⟨a1,c1,hv,⟨hcap,hbig⟩,_⟩:=h
 subst hv
 have HC:=hid (shCheck nd of sz W)
 have HRo:=hid (shLong nd of sz)
 unfold planV shareV
 obtain⟨ans,hans⟩:∃a,oneE nd of sz N L X=a:=⟨_,rfl⟩
 rw[hans]
 unfold oneE at hans
 by_cases hp:planOk nd of sz=true
 ·have e:chkP nd of sz=0:=by unfold chkP;rw[if_pos hp]
  have e2:longP nd of sz=rowsN nd sz:=by unfold longP;rw[if_pos hp]
  rw[if_pos hp]at hans;rw[e]at HC;simp only[e2]at HRo;have hrw:=rowsN_bd (planOk_spec hp).1 (planOk_spec hp).2.2;have hRb:rowsN nd sz≤24:=hrw.2.2.2.1;generalize rowsN nd sz=R at *;have HBW:=hid hb;have HPl:=hid (planOk_spec hp);clear hp e e2 hrw hb;by_cases hN:0≤N∧N<of
  ·rw[if_pos hN]at hans
   have HA:Hid (numE L X (R:Int)=ans):=hans;clear hans;go_enter Tryz.func164,Tryz.ntmps164;go_wp2_with(go_at_call 110;go_must(refine HC.out.mono ?_;rintro e w1 ⟨rfl,hb1⟩;obtain⟨⟨p0,p1,p2⟩,s0,s1⟩:=KP.out w1 hb1;have HB1:=hid hb1;clear hb1))
   have hne:Nonempty (Of (Below W.heap.size W)):=⟨⟨W,Below.refl _ _⟩⟩;have F0:∀u:Of (Below W.heap.size W),u.val.cell? ⟨w.heap.size,0,none⟩=some (.int .i64 nd):=fun u=>(KP.out u.val u.is).1.1;have F1:∀u:Of (Below W.heap.size W),u.val.cell? ⟨w.heap.size,1,none⟩=some (.int .i64 of):=fun u=>(KP.out u.val u.is).1.2.1;have F2:∀u:Of (Below W.heap.size W),u.val.cell? ⟨w.heap.size,2,none⟩=some (.int .i64 sz):=fun u=>(KP.out u.val u.is).1.2.2;have F4:∀u:Of (Below W.heap.size W),u.val.cell? ⟨w.heap.size+1,1,none⟩=some (.slice a1 L c1):=fun u=>(KP.out u.val u.is).2.2;have HD1:Hid (Below W.heap.size W w1.drew):=HB1.out.trans ⟨rfl,rfl,rfl,Nat.le_refl _,fun _ _=>rfl⟩;refine region_mixed (Below W.heap.size W) [([0,1,2],3),([],4)] [5] (by kernel_rfl) (by kernel_rfl) HD1.out ?_;refine mixO_cons ?_;repeat(go_big_quiet_step (fail))
   refine wpQuiet_nil ?_;intro K hK;go_wp2_with fail
   refine Calls.mono (HRo.out _) ?_;rintro e w2 ⟨rfl,hb2⟩;have HB2:Hid (Below W.heap.size W w2):=HD1.out.trans (hb2.mono HD1.out.size);clear hb2;go_wp2;refine⟨rfl,hK _ _ HB2.out ?_⟩;clear hK K;refine mixO_cons (lq:=[]) ?_ rfl;refine wpQuiet_nil ?_;intro K hK;have HN:=hid (shNumbers _ L X (R:Int) w2 (HI.out.up HB2.out));rw[HA.out]at HN;go_wp2_with fail
   refine Calls.mono HN.out ?_;rintro e w3 ⟨rfl,hw3⟩;subst w3;go_wp2;refine⟨rfl,hK _ _ HB2.out ?_⟩;clear hK K;refine mixO_nil ?_;repeat(go_big_quiet_step (fail))
   refine wpQuiet_nil ?_;go_wp2;go_ret;exact⟨rfl,HBW.out.trans (HB2.out.mono HBW.out.size)⟩
  rw[if_neg hN]at hans;subst hans;by_cases hN0:N<0
  ·clear hN
   go_enter Tryz.func164,Tryz.ntmps164;go_wp2_with(go_at_call 110;go_must(refine HC.out.mono ?_;rintro e w1 ⟨rfl,hb1⟩;obtain⟨⟨p0,p1,p2⟩,s0,s1⟩:=KP.out w1 hb1;have HB1:=hid hb1;clear hb1))
   go_ret;exact⟨rfl,HBW.out.trans (HB1.out.mono HBW.out.size)⟩
  have hN1:of≤N:=by omega
  clear hN;go_enter Tryz.func164,Tryz.ntmps164;go_wp2_with(go_at_call 110;go_must(refine HC.out.mono ?_;rintro e w1 ⟨rfl,hb1⟩;obtain⟨⟨p0,p1,p2⟩,s0,s1⟩:=KP.out w1 hb1;have HB1:=hid hb1;clear hb1))
  go_ret;exact⟨rfl,HBW.out.trans (HB1.out.mono HBW.out.size)⟩
 ·have e:chkP nd of sz=2:=by unfold chkP;rw[if_neg hp]
  rw[if_neg hp]at hans;subst hans;rw[e]at HC;have HBW:=hid hb;clear hp e hb;go_enter Tryz.func164,Tryz.ntmps164;go_wp2_with(go_at_call 110;go_must(refine HC.out.mono ?_;rintro e w1 ⟨rfl,hb1⟩;have HB1:=hid hb1;clear hb1))
  go_ret;exact⟨rfl,HBW.out.trans (HB1.out.mono HBW.out.size)⟩
theorem shSame(N1 N2:Int)(V1 V2:Value)(n m:Nat)(X Y:Nat→Int)(w:World)(h1:IntSl w w.heap.size V1 n X)(h2:IntSl w w.heap.size V2 m Y):
 Calls Tryz.prog 67 #[shareV N1 V1,shareV N2 V2] w fun e w'=>e=.returned (.bool (sameB N1 N2 n m X Y))∧Below w.heap.size w w':=by
 have hb:=((Below.refl w.heap.size w).alloc (Nat.le_refl _) (.cells #[.int .i64 N1,V1] 81)).alloc (by simp) (.cells #[.int .i64 N2,V2] 81)
 have HE:=hid (equal_isl (h1.up hb) (h2.up hb))
 have HB:=hid hb
 obtain⟨a1,c1,rfl,_,_⟩:=h1
 obtain⟨a2,c2,rfl,_,_⟩:=h2
 clear hb
 unfold shareV sameB
 by_cases hn:N1=N2
 ·subst hn
  rw[decide_eq_true rfl,Bool.true_and];go_enter Tryz.func67,Tryz.ntmps67;go_wp2_with(go_at_call 32;go_must(refine HE.out.mono ?_;rintro e w1 ⟨rfl,q,hq⟩;have HQ:=hid hq;clear hq))
  go_ret;refine⟨rfl,?_⟩;rw[HQ.out];exact HB.out.trans ⟨rfl,rfl,rfl,Nat.le_refl _,fun _ _=>rfl⟩
 ·rw[decide_eq_false hn,Bool.false_and]
  have he:(N1==N2)=false:=by simpa using hn
  clear hn;go_enter Tryz.func67,Tryz.ntmps67;go_wp2;go_ret;exact⟨rfl,HB.out⟩
structure Kt where
 V:Nat→Int
 N:Nat→Int
 L:Nat→Nat
 X:Nat→Nat→Int
def KeSl(w:World)(B:Nat)(v:Value)(n:Nat)(UV:Nat→Value)(t:Kt):Prop :=
 ∃(ad:Option Addr) (cap:Nat),v=.slice ad n cap∧(n≤cap∧n*40≤140737488351232)∧(n=0∨∃bl off,ad=some ⟨bl,off,none⟩∧bl<B∧∀j,j<n →
  w.cell? ⟨bl,off+j*3,none⟩=some (.int .i64 (t.V j))∧w.cell? ⟨bl,off+j*3+1,none⟩=some (.int .i64 (t.N j))∧w.cell? ⟨bl,off+j*3+2,none⟩=some (UV j)∧IntSl w B (UV j) (t.L j) (t.X j))
theorem KeSl.below{w w':World}{B:Nat}{v:Value}{n:Nat}{UV:Nat→Value}{t:Kt}(h:KeSl w B v n UV t)(hb:Below B w w'):KeSl w' B v n UV t:=by
 obtain⟨ad,cap,h1,h0,h2⟩:=h;refine⟨ad,cap,h1,h0,?_⟩;rcases h2 with h2|⟨bl,off,h3,h4,h5⟩;·exact Or.inl h2
 refine Or.inr ⟨bl,off,h3,h4,fun j hj=>?_⟩;obtain⟨g1,g2,g3,g4⟩:=h5 j hj;exact⟨by rw[hb.cell h4];exact g1,by rw[hb.cell h4];exact g2,by rw[hb.cell h4];exact g3,g4.below hb⟩
theorem KeSl.mono{w:World}{B B':Nat}{v:Value}{n:Nat}{UV:Nat→Value}{t:Kt}(h:KeSl w B v n UV t)(hb:B≤B'):KeSl w B' v n UV t:=by
 obtain⟨ad,cap,h1,h0,h2⟩:=h;refine⟨ad,cap,h1,h0,?_⟩;rcases h2 with h2|⟨bl,off,h3,h4,h5⟩;·exact Or.inl h2
 refine Or.inr ⟨bl,off,h3,by omega,fun j hj=>?_⟩;obtain⟨g1,g2,g3,g4⟩:=h5 j hj;exact⟨g1,g2,g3,g4.mono hb⟩
theorem KeSl.up{w w':World}{v:Value}{n:Nat}{UV:Nat→Value}{t:Kt}(h:KeSl w w.heap.size v n UV t)(hb:Below w.heap.size w w'):KeSl w' w'.heap.size v n UV t:=(h.below hb).mono hb.size
def keptV(ver N:Int)(uv:Value):Value:=.agg #[.int .i64 ver,.int .i64 N,uv]
def peerV(th:Bool)(room:Int)(vk:Value):Value:=.agg #[.bool th,.int .i64 room,vk]
def oneK(b:Bk)(t:Kt)(k:Nat):Int:=oneE (b.nd (t.V k).toNat) (b.of (t.V k).toNat) (b.sz (t.V k).toNat) (t.N k) (t.L k) (t.X k)
def scanK(n:Nat)(b:Bk)(t:Kt):Nat→Nat→Int→Int
 |0,_,_=>0
 |f+1,k,last=>if t.V k<0∨(n:Int)≤t.V k then 4 else if t.V k≤last then 5 else if oneK b t k=0 then scanK n b t f (k+1) (t.V k)else oneK b t k
def peerE(n:Nat)(b:Bk)(room:Int)(m:Nat)(t:Kt):Int :=
 if bookE n b=0 then(if 0≤room∧room≤20 then(if(m:Int)≤room then scanK n b t m 0 (-1)else 8)else 2)else bookE n b
def verK(t u:Kt)(j:Nat):Bool:=decide (t.V j=u.V j)&&sameB (t.N j) (u.N j) (t.L j) (u.L j) (t.X j) (u.X j)
def restK(t u:Kt):Nat→Nat→Bool
 |0,_=>true
 |f+1,k=>verK t u k&&restK t u f (k+1)
def keptB(n m:Nat)(t u:Kt):Bool:=decide (n=m)&&restK t u n 0
def peerB(a1 a2:Bool)(r1 r2:Int)(n m:Nat)(t u:Kt):Bool:=(a1==a2)&&(decide (r1=r2)&&keptB n m t u)
theorem checkBook_any(v:Value)(n:Nat)(PV:Nat→Value)(b:Bk)(w:World)(h:VeSl w w.heap.size v n PV b):
 Calls Tryz.prog 86 #[bookV v] w fun e w'=>e=.returned (.int .i64 (bookE n b))∧Below w.heap.size w w':=by
 obtain⟨ad,cap,rfl,⟨hcap,hbig⟩,hx⟩:=h
 have hbx:=below_alloc w (.cells #[.slice ad n cap] 24)
 have HBx:=hid hbx
 have HX:=hid hx
 obtain⟨ans,hans⟩:∃a,bookE n b=a:=⟨_,rfl⟩
 rw[hans]
 unfold bookE at hans
 have HCp:=hid (fun nd of sz w=>checkPlan_any nd of sz w)
 clear hbx hx
 unfold bookV
 by_cases hn:n≤12
 ·rw[if_pos hn]at hans
  have HA:=hid hans;have hni:(n:Int)≤12:=by omega
  clear hans;go_enter Tryz.func86,Tryz.ntmps86;go_wp2;go_loopw [16] (fun iv wr=>∃k:Nat,k≤n∧iv=.int .i64 k∧Hid (Below w.heap.size w wr)∧Hid (scanV b (n-k) k=ans)) (fun iv _=>n-(intOf iv).toNat)
  case atStart=>exact⟨0,Nat.zero_le _,rfl,HBx,HA⟩
  case round =>
   obtain⟨k,hk,rfl,HB,HS⟩:=hrel;by_cases hlt:k<n
   ·have hki:(k:Int)<(n:Int):=by omega
    rcases HX.out with h0|⟨bl,off,rfl,hbl,hx⟩;·omega
    obtain⟨x0,x1,x2,x3,x4⟩:=hx k hlt;have hstep:=HS.out;rw[show n-k=(n-(k+1))+1 by omega]at hstep;simp only[scanV]at hstep;obtain⟨ap,cp,hpe,hpl,hpc⟩:=x4;obtain⟨m,hm⟩:∃m,b.PL k=m:=⟨_,rfl⟩;rw[hm]at hpe hpl hpc;have g0:wr.cell? ⟨bl,off+k*4,none⟩=some (.slice ap m cp):=by rw[HB.out.cell hbl,x0,hpe]
    have g1:wr.cell? ⟨bl,off+k*4+1,none⟩=some (.int .i64 (b.nd k)):=by rw[HB.out.cell hbl];exact x1
    have g2:wr.cell? ⟨bl,off+k*4+2,none⟩=some (.int .i64 (b.of k)):=by rw[HB.out.cell hbl];exact x2
    have g3:wr.cell? ⟨bl,off+k*4+3,none⟩=some (.int .i64 (b.sz k)):=by rw[HB.out.cell hbl];exact x3
    obtain⟨nd,hnd⟩:∃nd,b.nd k=nd:=⟨_,rfl⟩;obtain⟨of,hof⟩:∃of,b.of k=of:=⟨_,rfl⟩;obtain⟨sz,hsz⟩:∃sz,b.sz k=sz:=⟨_,rfl⟩;rw[hnd]at g1;rw[hof]at g2;rw[hsz]at g3;have hbA:=below_alloc wr (.cells #[.slice ap m cp,.int .i64 nd,.int .i64 of,.int .i64 sz] 61);obtain⟨W,hW⟩:∃W,wr.alloc (.cells #[.slice ap m cp,.int .i64 nd,.int .i64 of,.int .i64 sz] 61)=W:=⟨_,rfl⟩;rw[hW]at hbA;have s0:W.cell? ⟨wr.heap.size,0,none⟩=some (.slice ap m cp):=by rw[←hW];exact cell_at (heap_alloc_new _ _) rfl
    have s1:W.cell? ⟨wr.heap.size,1,none⟩=some (.int .i64 nd):=by rw[←hW];exact cell_at (heap_alloc_new _ _) rfl
    have s2:W.cell? ⟨wr.heap.size,2,none⟩=some (.int .i64 of):=by rw[←hW];exact cell_at (heap_alloc_new _ _) rfl
    have s3:W.cell? ⟨wr.heap.size,3,none⟩=some (.int .i64 sz):=by rw[←hW];exact cell_at (heap_alloc_new _ _) rfl
    have HBW:=hid (HB.out.trans (hbA.mono HB.out.size));have HPc:=hid hpc;have HSt:=hid hstep;have HNd:=hid hnd;have HOf:=hid hof;have HSz:=hid hsz;have HM:=hid hm;clear x0 x1 x2 x3 hx hpe hbA hpc hstep hnd hof hsz hm;go_wp2;go_loopw [5,24] (fun lv iv wz=>∃(i:Nat) (last:Int),i≤m∧iv=.int .i64 i∧lv=.int .i64 last∧wz=W∧Hid (parE k (b.PX k) (m-i) i last=parE k (b.PX k) m 0 (-1))) (fun _ iv _=>m-(intOf iv).toNat)
    case atStart=>exact⟨0,-1,Nat.zero_le _,rfl,rfl,rfl,rfl⟩
    case round =>
     obtain⟨i,last,hi,rfl,rfl,hwz,HP⟩:=hrel;subst hwz;by_cases him:i<m
     ·have himi:(i:Int)<(m:Int):=by omega
      rcases HPc.out with h0|⟨bp,op,rfl,hbp,hpx⟩;·omega
      have e0:wr.cell? ⟨bp,op+i,none⟩=some (.int .i64 (b.PX k i)):=by rw[HBW.out.cell hbp];exact hpx i him
      have hp:=HP.out;rw[show m-i=(m-(i+1))+1 by omega]at hp;simp only[parE]at hp;obtain⟨x,hxx⟩:∃x,b.PX k i=x:=⟨_,rfl⟩;rw[hxx]at e0 hp;clear hpx hxx;by_cases c1:x<0∨(k:Int)≤x
      ·rw[if_pos c1]at hp
       have hst:=HSt.out;have hv:verE b k=4:=by unfold verE;rw[HM.out,←hp,if_neg (by decide)]
       rw[hv,if_neg (by decide)]at hst;have HFin:=hid hst;clear hp hst hv;by_cases c2:x<0
       ·go_wp2
        go_ret;exact⟨by rw[←HFin.out];rfl,HBW.out⟩
       have c3:(k:Int)≤x:=by omega
       go_wp2;go_ret;exact⟨by rw[←HFin.out];rfl,HBW.out⟩
      rw[if_neg c1]at hp;have c2:¬x<0:=fun h=>c1 (Or.inl h);have c3:¬(k:Int)≤x:=fun h=>c1 (Or.inr h);by_cases c4:x≤last
      ·rw[if_pos c4]at hp
       have hst:=HSt.out;have hv:verE b k=5:=by unfold verE;rw[HM.out,←hp,if_neg (by decide)]
       rw[hv,if_neg (by decide)]at hst;have HFin:=hid hst;clear hp hst hv c1;go_wp2;go_ret;exact⟨by rw[←HFin.out];rfl,HBW.out⟩
      rw[if_neg c4]at hp;have HP2:=hid hp;clear hp c1;go_wp2;go_roundw
      case rel=>exact⟨i+1,x,by omega,by go_num,rfl,trivial,HP2⟩
      case measure=>simp only[intOf];omega
     have hie:m=i:=by omega
     subst hie;have hp:=HP.out;rw[Nat.sub_self]at hp;have hp0:parE k (b.PX k) m 0 (-1)=0:=hp.symm;have hst:=HSt.out;have hv:verE b k=chkP nd of sz:=by unfold verE;rw[HM.out,hp0,if_pos rfl,HNd.out,HOf.out,HSz.out]
     rw[hv]at hst;have HCk:=hid (HCp.out nd of sz wr);obtain⟨c,hcc⟩:∃c,chkP nd of sz=c:=⟨_,rfl⟩;rw[hcc]at hst HCk;clear hp hp0 hv hcc;unfold planV at HCk;by_cases hc0:c=0
     ·subst hc0
      rw[if_pos rfl]at hst;have HNx:=hid hst;clear hst;go_wp2_with fail
      refine Calls.mono HCk.out ?_;rintro e w5 ⟨rfl,hb5⟩;have HB5:=hid (HBW.out.trans (hb5.mono HBW.out.size));clear hb5;go_wp2;go_roundw
      case rel=>exact⟨k+1,by omega,by go_num,HB5,HNx⟩
      case measure=>simp only[intOf];omega
     rw[if_neg hc0]at hst;have HFin:=hid hst;have hcb:(c != 0)=true:=by simpa using hc0
     clear hst hc0;go_wp2_with fail
     refine Calls.mono HCk.out ?_;rintro e w5 ⟨rfl,hb5⟩;have HB5:=hid (HBW.out.trans (hb5.mono HBW.out.size));clear hb5;go_wp2;go_ret;exact⟨by rw[←HFin.out];rfl,HB5.out⟩
   have hke:n=k:=by omega
   subst hke;have hst:=HS.out;rw[Nat.sub_self]at hst;have HFin:Hid ((0:Int)=ans):=hst;clear hst;go_wp2;go_ret;exact⟨by rw[←HFin.out];rfl,HB.out⟩
 ·rw[if_neg hn]at hans
  have HA:=hid hans;have hni:¬(n:Int)≤12:=by omega
  clear hans;go_enter Tryz.func86,Tryz.ntmps86;go_wp2;go_ret;exact⟨by rw[←HA.out];rfl,HBx.out⟩
end Go.Proofs.YtajmnlhfnhbleaaGreat
