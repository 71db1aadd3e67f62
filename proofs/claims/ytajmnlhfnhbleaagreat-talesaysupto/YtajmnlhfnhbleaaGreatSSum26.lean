/- Several texts of one proof, in their order. -/
import Derived.Test.YtajmnlhfnhbleaaGreatSSum24
namespace Go.Proofs.YtajmnlhfnhbleaaGreat
open Go.RowKit Go.Maps Go.Lib Go.Sort
set_option linter.unusedVariables false
set_option maxHeartbeats 2000000
theorem keyedInt:Keyed Tryz.prog 3:=int_keyed Tryz.underlying3
theorem zeroInt(w:World):(zeroValue 3).run Tryz.prog w=.ok (.int .i64 0) w:=by kernel_rfl
def CntM(w:World)(g m:Nat)(c:Int→Int):Prop:=∃D:DataW Empty,w.ownsMap Tryz.prog 3 (plainElem Tryz.prog 3) g m D∧∀x:Int,D.atKey (.int .i64 x) (.lit (.int .i64 0))=.lit (.int .i64 (c x))
theorem cntM_made(w:World):CntM (w.alloc (.map #[] 0)) w.heap.size 0 (fun _=>0):=⟨_,World.ownsMap_made _ _ _ _,fun x=>rfl⟩
theorem cnt_val{D:DataW Empty}{c:Int→Int}(h:∀x:Int,D.atKey (.int .i64 x) (.lit (.int .i64 0))=.lit (.int .i64 (c x))){x v:Int}(hat:D.atKey (.int .i64 x) (.lit (.int .i64 0))=.lit (.int .i64 v)):v=c x:=by
 rw[h x]at hat;injection hat with h1;injection h1 with _ h2;exact h2.symm
theorem cntM_put{w w':World}{g m:Nat}{c:Int→Int}{D:DataW Empty}{x v:Int}(hD:w.ownsMap Tryz.prog 3 (plainElem Tryz.prog 3) g m D)(h:∀x:Int,D.atKey (.int .i64 x) (.lit (.int .i64 0))=.lit (.int .i64 (c x)))
 (ho:w'.ownsMap Tryz.prog 3 (plainElem Tryz.prog 3) g (m+1) (D.put (.int .i64 x) (.lit (.int .i64 v)))):CntM w' g (m+1) (fun y=>if y=x then v else c y):=by
 refine⟨_,ho,fun y=>?_⟩
 by_cases e:y=x
 ·subst e
  rw[atKey_put_same hD.isMap (by simp[WideAt.IsKeyLit])];simp only[if_true]
 ·rw[atKey_put_other (fun h=>e (by injection h)),h y]
  simp only[if_neg e]
theorem CntM.kept{w w':World}{g m:Nat}{c:Int→Int}{row:Option Nat}(h:CntM w g m c)(hg:w.grownBy w' row)(hne:some g≠row):CntM w' g m c:=by
 obtain⟨D,h1,h2⟩:=h;exact⟨D,h1.kept hg hne,h2⟩
theorem CntM.up{w w':World}{g m:Nat}{c:Int→Int}(h:CntM w g m c)(hb:Below w.heap.size w w'):CntM w' g m c:=h.kept (grown_of_below hb none) (by intro e;cases e)
theorem CntM.ne{w:World}{g m:Nat}{c:Int→Int}(h:CntM w g m c){a:Addr}{u:Value}(ha:w.cell? a=some u):a.block≠g:=by
 obtain⟨D,⟨es,clock,hb,_⟩,_⟩:=h;intro e;rw[World.cell?,e,hb]at ha;simp at ha
theorem keyInt{x:Int}(h:0≤x∧x≤1000):keyOf Tryz.prog 3 (.int .i64 x)=some (.int .i64 x):=keyOf_int_mk Tryz.underlying3 (WalkArith.wf_i64 (by omega))
def Cnted(c ci:Int→Int)(X:Nat→Int)(M i:Nat):Prop:=(∀x,0≤ci x∧ci x≤(M:Int)+i)∧∀x,ci x=0↔c x=0∧∀j,j<i→X j≠x
theorem Cnted.step{c ci:Int→Int}{X:Nat→Int}{M i:Nat}(h:Cnted c ci X M i){x:Int}(hx:X i=x):Cnted c (fun y=>if y=x then ci x+1 else ci y) X M (i+1):=by
 obtain⟨h1,h2⟩:=h;have h3:=h1 x;refine⟨fun y=>?_,fun y=>?_⟩
 ·have h4:=h1 y
  by_cases e:y=x;·simp only[if_pos e];omega
  simp only[if_neg e];omega
 by_cases e:y=x
 ·simp only[if_pos e]
  constructor;·intro h;omega
  rintro⟨_,hh⟩;exact absurd (by rw[hx,e]) (hh i (by omega))
 simp only[if_neg e];rw[h2 y];constructor
 ·rintro⟨g1,g2⟩
  refine⟨g1,fun j hj=>?_⟩;by_cases ej:j=i;·subst ej;rw[hx];exact fun h=>e h.symm
  exact g2 j (by omega)
 rintro⟨g1,g2⟩;exact⟨g1,fun j hj=>g2 j (by omega)⟩
theorem peFindF(bx:Nat)(ver V N:Int)(uv:Value)(w:World)(hx:w.cell? ⟨bx,0,none⟩=some (.int .i64 ver))(hu:∃a l c,uv=.slice a l c):
 Calls Tryz.prog 75 #[keptV V N uv,.pointer (some ⟨bx,0,none⟩)] w fun e w'=>e=.returned (.bool (decide (V=ver)))∧Below w.heap.size w w':=by
 obtain⟨a,l,c,rfl⟩:=hu
 have hb:=below_alloc w (.cells #[.int .i64 V,.int .i64 N,.slice a l c] 83)
 have HB:=hid hb
 have c1:(w.alloc (.cells #[.int .i64 V,.int .i64 N,.slice a l c] 83)).cell? ⟨bx,0,none⟩=some (.int .i64 ver):=by rw[hb.cell (cell_lt hx)];exact hx
 clear hb
 have he:(V==ver)=decide (V=ver):=by by_cases h:V=ver<;>simp[h]
 unfold keptV
 go_enter Tryz.func75,Tryz.ntmps75
 go_wp2
 go_ret
 exact⟨by first|rfl|rw[←he],HB.out⟩
theorem peIndex(bx:Nat)(ver:Int)(v:Value)(m:Nat)(UV:Nat→Value)(t:Kt)(w:World)(h:KeSl w w.heap.size v m UV t)(hx:w.cell? ⟨bx,0,none⟩=some (.int .i64 ver)):
 Calls Tryz.prog 74 #[v,.func (.func 75) #[] #[.pointer (some ⟨bx,0,none⟩)]] w fun e w'=>e=.returned (.int .i64 (fstAt t.V ver m 0))∧Below w.heap.size w w':=by
 obtain⟨ad,cap,rfl,⟨hc,hr⟩,hk⟩:=h
 obtain⟨ans,hans⟩:∃a,fstAt t.V ver m 0=a:=⟨_,rfl⟩
 rw[hans]
 have HA:=hid hans
 have HX:=hid hk
 have HBx:=hid hx
 clear hans hk hx
 go_enter Tryz.func74,Tryz.ntmps74
 go_wp2
 go_loopw [8] (fun iv wr=>∃i:Nat,i≤m∧iv=.int .i64 i∧Hid (Below w.heap.size w wr)∧Hid (fstAt t.V ver (m-i) i=ans)) (fun iv _=>m-(intOf iv).toNat)
 case atStart=>exact⟨0,Nat.zero_le _,rfl,Below.refl _ _,HA⟩
 case round =>
  obtain⟨i,hi,rfl,HB,HS⟩:=hrel;by_cases hlt:i<m
  ·have hii:(i:Int)<(m:Int):=by omega
   rcases HX.out with h0|⟨b1,o1,rfl,hb1,hk⟩;·omega
   obtain⟨x0,x1,x2,x3⟩:=hk i hlt;obtain⟨au,cu,hue,_,_⟩:=x3;rw[hue]at x2;have g0:wr.cell? ⟨b1,o1+i*3,none⟩=some (.int .i64 (t.V i)):=by rw[HB.out.cell hb1];exact x0
   have g1:wr.cell? ⟨b1,o1+i*3+1,none⟩=some (.int .i64 (t.N i)):=by rw[HB.out.cell hb1];exact x1
   have g2:wr.cell? ⟨b1,o1+i*3+2,none⟩=some (.slice au (t.L i) cu):=by rw[HB.out.cell hb1];exact x2
   have hstep:=HS.out;rw[show m-i=(m-(i+1))+1 by omega]at hstep;simp only[fstAt]at hstep;obtain⟨x,hxx⟩:∃x,t.V i=x:=⟨_,rfl⟩;rw[hxx]at g0 hstep;have HC:=hid (peFindF bx ver x (t.N i) (.slice au (t.L i) cu) wr (by rw[HB.out.cell (cell_lt HBx.out)];exact HBx.out) ⟨_,_,_,rfl⟩);unfold keptV at HC;clear x0 x1 x2 hk hue hxx;by_cases hv:ver=x
   ·rw[if_pos hv]at hstep
    rw[decide_eq_true hv.symm]at HC;have HF:=hid hstep;clear hstep hv;go_wp2_with fail
    refine Calls.mono HC.out ?_;rintro e w2 ⟨rfl,hb2⟩;have HB2:=hid (HB.out.trans (hb2.mono HB.out.size));clear hb2;go_wp2;go_ret;exact⟨by rw[←HF.out];rfl,HB2.out⟩
   rw[if_neg hv]at hstep;rw[decide_eq_false (fun h=>hv h.symm)]at HC;have HF:=hid hstep;clear hstep hv;go_wp2_with fail
   refine Calls.mono HC.out ?_;rintro e w2 ⟨rfl,hb2⟩;have HB2:=hid (HB.out.trans (hb2.mono HB.out.size));clear hb2;go_wp2;go_roundw
   case rel=>exact⟨i+1,by omega,by go_num,HB2,HF⟩
   case measure=>simp only[intOf];omega
  have hie:m=i:=by omega
  subst hie;have hst:=HS.out;rw[Nat.sub_self]at hst;have HFin:Hid ((-1:Int)=ans):=hst;clear hst;go_wp2;go_ret;exact⟨by rw[←HFin.out];rfl,HB.out⟩
theorem peFind(th:Bool)(room:Int)(v:Value)(m:Nat)(UV:Nat→Value)(t:Kt)(ver:Int)(w:World)(h:KeSl w w.heap.size v m UV t):
 Calls Tryz.prog 34 #[peerV th room v,.int .i64 ver] w fun e w'=>e=.returned (.int .i64 (fstAt t.V ver m 0))∧Below w.heap.size w w':=by
 have hb:=((Below.refl w.heap.size w).alloc (Nat.le_refl _) (.cells #[.bool th,.int .i64 room,v] 41)).alloc (by simp) (.cells #[.int .i64 ver] 3)
 have k2:=heap_two_new w (.cells #[.bool th,.int .i64 room,v] 41) (.cells #[.int .i64 ver] 3)
 have HI:=hid (peIndex (w.heap.size+1) ver v m UV t _ (h.up hb) (cell_at k2 rfl))
 have HB:=hid hb
 obtain⟨ad,cap,rfl,_,_⟩:=h
 clear hb k2
 generalize fstAt t.V ver m 0=ans at *
 have hmf:∀(fn:Fn) (first cap:Array Value) (w:World),(Instr.makeFunc fn first cap).run Tryz.prog w=.ok (.func fn first cap) w:=fun _ _ _ _=>rfl
 unfold peerV
 go_enter Tryz.func34,Tryz.ntmps34
 go_wp2_with fail
 refine Calls.mono HI.out ?_
 rintro e w2 ⟨rfl,hb2⟩
 have HB2:=hid (HB.out.trans (hb2.mono HB.out.size))
 clear hb2
 go_wp2
 go_ret
 exact⟨rfl,HB2.out⟩
theorem kel_nil(w:World)(B:Nat)(UV:Nat→Value)(t:Kt):KeSl w B (.slice none 0 0) 0 UV t:=⟨none,0,rfl,⟨Nat.le_refl _,by omega⟩,Or.inl rfl⟩
def cmpZ(a c:Int):Int:=if a<c then -1 else if c<a then 1 else 0
def GrO(w u:World):Prop:=∃q os,u=grow (w.drewN q) os
theorem GrO.refl(w:World):GrO w w:=⟨0,#[],by rw[grow_empty];rfl⟩
theorem GrO.alloc{w u:World}(h:GrO w u)(o:Obj):GrO w (u.alloc o):=by
 obtain⟨q,os,rfl⟩:=h;exact⟨q,os ++ #[o],by rw[alloc_eq_grow,grow_grow]⟩
theorem GrO.drew{w u:World}(h:GrO w u):GrO w u.drew:=by
 obtain⟨q,os,rfl⟩:=h;exact⟨q+1,os,rfl⟩
theorem GrO.below{w u:World}(h:GrO w u):Below w.heap.size w u:=by
 obtain⟨q,os,rfl⟩:=h;refine⟨rfl,rfl,rfl,by simp[grow],fun k hk=>?_⟩;show(w.heap++os)[k]?=w.heap[k]?;rw[Array.getElem?_append_left hk]
theorem isNaN_int(x:Int)(w:World):Calls Tryz.prog 172 #[.int .i64 x] w fun e w'=>e=.returned (.bool false)∧w'=w:=by
 have hx:(x != x)=false:=by simp
 go_enter Tryz.func172,Tryz.ntmps172;go_wp2;go_ret;exact⟨by first|rfl|rw[hx],rfl⟩
theorem compare_int(x y:Int)(w:World):Calls Tryz.prog 153 #[.int .i64 x,.int .i64 y] w fun e w'=>e=.returned (.int .i64 (cmpZ x y))∧w'=w:=by
 unfold cmpZ;by_cases h1:x<y
 ·rw[if_pos h1]
  go_enter Tryz.func153,Tryz.ntmps153;go_wp2_with(go_at_call 172;go_must(refine(isNaN_int _ _).mono ?_;rintro e w1 ⟨rfl,hw1⟩;subst w1))
  go_ret;exact⟨rfl,rfl⟩
 rw[if_neg h1];by_cases h2:y<x
 ·rw[if_pos h2]
  go_enter Tryz.func153,Tryz.ntmps153;go_wp2_with(go_at_call 172;go_must(refine(isNaN_int _ _).mono ?_;rintro e w1 ⟨rfl,hw1⟩;subst w1))
  go_ret;exact⟨rfl,rfl⟩
 rw[if_neg h2];go_enter Tryz.func153,Tryz.ntmps153;go_wp2_with(go_at_call 172;go_must(refine(isNaN_int _ _).mono ?_;rintro e w1 ⟨rfl,hw1⟩;subst w1))
 go_ret;exact⟨rfl,rfl⟩
theorem plLeft(th:Bool)(room:Int)(a:Option Addr)(m c:Nat)(w:World)(h1:0≤room∧room≤20)(h2:(m:Int)≤room):
 Calls Tryz.prog 150 #[peerV th room (.slice a m c)] w fun e w'=>e=.returned (.int .i64 (room-m))∧w'=w.alloc (.cells #[.bool th,.int .i64 room,.slice a m c] 41):=by
 unfold peerV
 go_enter Tryz.func150,Tryz.ntmps150
 go_wp2
 go_ret
 exact⟨rfl,rfl⟩
theorem plComp(bx:Nat)(a:Option Addr)(c:Nat)(np:Nat)(KV:Nat→Value)(UV:Nat→Nat→Value)(P:Ps)(i j:Nat)(hi:i<np)(hj:j<np)(hr:∀k,k<np→(0≤P.rm k∧P.rm k≤20)∧(P.m k:Int)≤P.rm k)(w:World)
 (hl:PsSl w w.heap.size (.slice a np c) np KV UV P) (hx:w.cell? ⟨bx,0,none⟩=some (.slice a np c)) :
 Calls Tryz.prog 152 #[.int .i64 (i:Int),.int .i64 (j:Int),.pointer (some ⟨bx,0,none⟩)] w fun e w'=>e=.returned (.int .i64 (cmpZ (leftK P j) (leftK P i)))∧GrO w w':=by
 obtain⟨bl,off,rfl,hbl,g0,g1,g2,g3⟩:=hl.at hi
 obtain⟨bl',off',he,_,f0,f1,f2,f3⟩:=hl.at hj
 injection he with he
 injection he with he1 he2 _
 subst he1 he2
 obtain⟨ai,ci,hki,_,_⟩:=g3
 obtain⟨aj,cj,hkj,_,_⟩:=f3
 obtain⟨_,_,_,⟨hcl,hbig⟩,_⟩:=hl
 have hri:=hr i hi
 have hrj:=hr j hj
 rw[hki]at g2
 rw[hkj]at f2
 have hne:Nonempty (Of (GrO w)):=⟨⟨w,GrO.refl w⟩⟩
 have F0:∀u:Of (GrO w),u.val.cell? ⟨bx,0,none⟩=some (.slice (some ⟨bl,off,none⟩) np c):=fun u=>by rw[u.is.below.cell (cell_lt hx)];exact hx
 have F1:∀u:Of (GrO w),u.val.cell? ⟨bl,off+i*3,none⟩=some (.bool (P.th i)):=fun u=>by rw[u.is.below.cell hbl];exact g0
 have F2:∀u:Of (GrO w),u.val.cell? ⟨bl,off+i*3+1,none⟩=some (.int .i64 (P.rm i)):=fun u=>by rw[u.is.below.cell hbl];exact g1
 have F3:∀u:Of (GrO w),u.val.cell? ⟨bl,off+i*3+2,none⟩=some (.slice ai (P.m i) ci):=fun u=>by rw[u.is.below.cell hbl];exact g2
 have F4:∀u:Of (GrO w),u.val.cell? ⟨bl,off+j*3,none⟩=some (.bool (P.th j)):=fun u=>by rw[u.is.below.cell hbl];exact f0
 have F5:∀u:Of (GrO w),u.val.cell? ⟨bl,off+j*3+1,none⟩=some (.int .i64 (P.rm j)):=fun u=>by rw[u.is.below.cell hbl];exact f1
 have F6:∀u:Of (GrO w),u.val.cell? ⟨bl,off+j*3+2,none⟩=some (.slice aj (P.m j) cj):=fun u=>by rw[u.is.below.cell hbl];exact f2
 have hii:(i:Int)<(np:Int):=by omega
 have hjj:(j:Int)<(np:Int):=by omega
 have C1:Hid (∀u,_):=fun u=>plLeft (P.th j) (P.rm j) aj (P.m j) cj u hrj.1 hrj.2
 have C2:Hid (∀u,_):=fun u=>plLeft (P.th i) (P.rm i) ai (P.m i) ci u hri.1 hri.2
 have C3:Hid (∀u,_):=fun u=>compare_int (P.rm j-P.m j) (P.rm i-P.m i) u
 unfold peerV at C1 C2
 clear g0 g1 g2 f0 f1 f2 hki hkj hx hr
 unfold leftK
 obtain⟨ans,hans⟩:∃x,cmpZ (P.rm j-P.m j) (P.rm i-P.m i)=x:=⟨_,rfl⟩
 rw[hans]
 rw[hans]at C3
 clear hans
 go_enter Tryz.func152,Tryz.ntmps152
 go_wp2_with fail
 have HD1:Hid (GrO w w.drew):=(GrO.refl w).drew
 refine region_mixed (GrO w) [([0,1,2,3,5,6,7,8],4),([],9),([],10)] [11] (by kernel_rfl) (by kernel_rfl) HD1.out ?_
 refine mixO_cons ?_
 repeat(go_big_quiet_step (fail))
 refine wpQuiet_nil ?_
 intro K hK
 go_wp2_with fail
 refine Calls.mono (C1.out _) ?_
 rintro e w5 ⟨rfl,hw5⟩
 have H5:Hid (GrO w w5):=by show GrO w w5;rw[hw5];exact HD1.out.alloc _
 clear hw5
 go_wp2
 refine⟨rfl,hK _ _ H5.out ?_⟩
 clear hK K
 refine mixO_cons (lq:=[]) ?_ rfl
 refine wpQuiet_nil ?_
 intro K hK
 go_wp2_with fail
 refine Calls.mono (C2.out _) ?_
 rintro e w6 ⟨rfl,hw6⟩
 have H6:Hid (GrO w w6):=by show GrO w w6;rw[hw6];exact H5.out.alloc _
 clear hw6
 go_wp2
 refine⟨rfl,hK _ _ H6.out ?_⟩
 clear hK K
 refine mixO_cons (lq:=[]) ?_ rfl
 refine wpQuiet_nil ?_
 intro K hK
 go_wp2_with fail
 refine Calls.mono (C3.out _) ?_
 rintro e w7 ⟨rfl,hw7⟩
 subst w7
 go_wp2
 refine⟨rfl,hK _ _ H6.out ?_⟩
 clear hK K
 refine mixO_nil ?_
 repeat(go_big_quiet_step (fail))
 refine wpQuiet_nil ?_
 clear F0 F1 F2 F3 F4 F5 F6 hne
 go_wp2
 go_ret
 exact⟨rfl,H6.out⟩
section
section
variable {α : Type} [Inhabited α] (key : α → Nat) (lt ltX : α → α → Bool)
theorem insInner_agree(hag:∀x y,key y<key x→lt x y=ltX x y):∀(j:Nat) (d:Array α),j<d.size→(∀k,k<j→key d[k]! < key d[j]!)→insInner lt 0 j d=insInner ltX 0 j d:=by
 intro j;induction j with
 |zero=>intro d _ _;rfl
 |succ j ih =>
  intro d hj hk;have e:=hag d[j+1]! d[j]! (hk j (by omega));unfold insInner;rw[e];by_cases c:(decide (j+1>0)&&ltX d[j+1]! d[j]!)=true
  ·rw[if_pos c,if_pos c]
   refine ih _ (by rw[size_swp];omega) fun k hkj=>?_;rw[swp_right d (j+1) j (by omega),swp_other d (j+1) j k (by omega) (by omega)];exact hk k (by omega)
  rw[if_neg c,if_neg c]
theorem insInner_keeps(c i:Nat):∀(j:Nat) (d:Array α),j≤i→i<d.size→(∀k,k≤i→key d[k]! ≤ c) →
 (insInner ltX 0 j d).size=d.size∧(∀k,k≤i→key (insInner ltX 0 j d)[k]! ≤ c)∧∀m,i<m→(insInner ltX 0 j d)[m]! = d[m]! := by
 intro j
 induction j with
 |zero=>intro d _ _ h;exact⟨rfl,h,fun _ _=>rfl⟩
 |succ j ih =>
  intro d hj hi h;unfold insInner;by_cases c1:(decide (j+1>0)&&ltX d[j+1]! d[j]!)=true
  ·rw[if_pos c1]
   have h2:∀k,k≤i→key (swp d (j+1) j)[k]! ≤ c:=fun k hk=>by
    by_cases e1:k=j+1;·subst e1;rw[swp_left d (j+1) j (by omega) (by omega)];exact h j (by omega)
    by_cases e2:k=j;·subst e2;rw[swp_right d (k+1) k (by omega)];exact h (k+1) (by omega)
    rw[swp_other d (j+1) j k e1 e2];exact h k hk
   obtain⟨g1,g2,g3⟩:=ih (swp d (j+1) j) (by omega) (by rw[size_swp];exact hi) h2;refine⟨by rw[g1,size_swp],g2,fun m hm=>?_⟩;rw[g3 m hm,swp_other d (j+1) j m (by omega) (by omega)]
  rw[if_neg c1];exact⟨rfl,h,fun _ _=>rfl⟩
theorem insOuter_go'(a b i:Nat)(d:Array α)(h:i<b):insOuter lt a b i d=insOuter lt a b (i+1) (insInner lt a i d):=by rw[insOuter,if_pos h]
theorem insOuter_stop'(a b i:Nat)(d:Array α)(h:¬i<b):insOuter lt a b i d=d:=by rw[insOuter,if_neg h]
theorem insOuter_agree(hag:∀x y,key y<key x→lt x y=ltX x y)(d0:Array α)(hr:∀i j,i<j→j<d0.size→key d0[i]! < key d0[j]!):
 ∀(f i:Nat) (d:Array α),d0.size-i≤f→1≤i→d.size=d0.size→(∀k,k<i→i<d0.size→key d[k]! < key d0[i]!)→(∀m,i≤m→d[m]! = d0[m]!)→insOuter lt 0 d0.size i d=insOuter ltX 0 d0.size i d:=by
 intro f
 induction f with
 |zero =>
  intro i d hf h1 hs hk hm;rw[insOuter_stop' lt _ _ _ _ (by omega),insOuter_stop' ltX _ _ _ _ (by omega)]
 |succ f ih =>
  intro i d hf h1 hs hk hm;by_cases hi:i<d0.size
  ·rw[insOuter_go' lt _ _ _ _ hi,insOuter_go' ltX _ _ _ _ hi]
   have hki:∀k,k<i→key d[k]! < key d[i]! := fun k h=>by rw[hm i (Nat.le_refl _)];exact hk k h hi
   rw[insInner_agree key lt ltX hag i d (by omega) hki];have hc:∀k,k≤i→key d[k]! ≤ key d0[i]! := fun k h=>by
    by_cases e:k=i;·subst e;rw[hm k (Nat.le_refl _)];exact Nat.le_refl _
    exact Nat.le_of_lt (hk k (by omega) hi)
   obtain⟨g1,g2,g3⟩:=insInner_keeps key ltX (key d0[i]!) i i d (Nat.le_refl _) (by omega) hc;refine ih (i+1) _ (by omega) (by omega) (by rw[g1,hs]) (fun k h h2=>?_) (fun m h=>?_)
   ·have:=g2 k (by omega)
    have:=hr i (i+1) (by omega) h2;omega
   rw[g3 m (by omega),hm m (by omega)]
  rw[insOuter_stop' lt _ _ _ _ hi,insOuter_stop' ltX _ _ _ _ hi]
theorem insertionSort_stable(hag:∀x y,key y<key x→lt x y=ltX x y)(hS:SWO ltX)(d:Array α)(hr:∀i j,i<j→j<d.size→key d[i]! < key d[j]!):
 PermIn 0 d.size d (insertionSort lt d 0 d.size)∧SortedIn ltX 0 d.size (insertionSort lt d 0 d.size):=by
 have e:insertionSort lt d 0 d.size=insertionSort ltX d 0 d.size:=by
  unfold insertionSort;refine insOuter_agree key lt ltX hag d hr d.size 1 d (by omega) (Nat.le_refl _) rfl (fun k hk h=>hr k 1 (by omega) h) (fun _ _=>rfl)
 rw[e]
 exact insertionSort_holds hS d 0 d.size (Nat.zero_le _) (Nat.le_refl _)
end
end
end Go.Proofs.YtajmnlhfnhbleaaGreat
namespace Go.Proofs
open Go.Shelf
set_option linter.unusedVariables false
def Tryz.insInts_ren:Go.Shelf.Ren:=⟨fun|20=>190|n=>n,fun|24=>3|22=>28|3=>3|25=>43|4=>4|0=>0|n=>n,fun|n=>n⟩
theorem Tryz.insInts:Go.Proofs.SlLaysF.n20 Tryz.prog Tryz.insInts_ren:={
 mixed:=by kernel_rfl
 f20:=⟨Tryz.f190.name,by decide,Tryz.func190.trans (congrArg some (by kernel_rfl))⟩
 t0:=Tryz.underlying0
 a0:=Tryz.isAgg0
 z0:=Tryz.sizeOf0
 v0:=Tryz.zeroValue0
 t3:=Tryz.underlying3
 a3:=Tryz.isAgg3
 z3:=Tryz.sizeOf3
 v3:=Tryz.zeroValue3
 t4:=Tryz.underlying4
 a4:=Tryz.isAgg4
 z4:=Tryz.sizeOf4
 v4:=Tryz.zeroValue4
 t22:=Tryz.underlying28
 a22:=Tryz.isAgg28
 z22:=Tryz.sizeOf28
 v22:=Tryz.zeroValue28
 a24:=Tryz.isAgg3
 z24:=Tryz.sizeOf3
 t25:=Tryz.underlying43
 a25:=Tryz.isAgg43
 z25:=Tryz.sizeOf43
 v25:=Tryz.zeroValue43 }
end Go.Proofs
namespace Go.Proofs.YtajmnlhfnhbleaaGreat
open Go.RowKit Go.Shelf Go.Lib Go.Sort
set_option linter.unusedVariables false
set_option maxHeartbeats 4000000
def canK(P:Ps)(ver:Int)(k:Nat):Bool:=P.th k&&(decide (0<leftK P k)&&noneK P ver k)
theorem canK_iff(P:Ps)(ver:Int)(k:Nat):canK P ver k=true↔mayK P ver k∧0<leftK P k:=by
 unfold canK noneK mayK;rw[Bool.and_eq_true,Bool.and_eq_true,decide_eq_true_iff,decide_eq_true_iff];constructor;·rintro⟨h1,h2,h3⟩;exact⟨⟨h1,h3⟩,h2⟩
 rintro⟨⟨h1,h3⟩,h2⟩;exact⟨h1,h2,h3⟩
def LexK(P:Ps)(x y:Int):Prop:=leftK P y.toNat<leftK P x.toNat∨(leftK P y.toNat=leftK P x.toNat∧x<y)
theorem lefts_lex(P:Ps)(ver:Int)(np r:Nat):List.Pairwise (LexK P) (lefts P ver np r):=by
 induction r with
 |zero=>exact List.Pairwise.nil
 |succ r ih =>
  simp only[lefts];rw[List.pairwise_append];have hl:∀x,x∈pickL (fitK P ver ((r+1:Nat):Int)) np→leftK P x.toNat=((r+1:Nat):Int):=fun x hx=>by
   obtain⟨k,_,h2,rfl⟩:=mem_pickL.1 hx;rw[Int.toNat_natCast];exact((fitK_iff _ _ _ _).1 h2).2
  refine⟨?_,ih,fun x hx y hy=>?_⟩
  ·refine(pickL_rise (fitK P ver ((r+1:Nat):Int)) np).imp_of_mem fun {x y} hx hy hxy=>?_
   exact Or.inr ⟨by rw[hl x hx,hl y hy],hxy⟩
  have h1:=hl x hx;obtain⟨k,rfl,_,_,_,h4⟩:=mem_lefts.1 hy;have h2:leftK P (k:Int).toNat≤(r:Int):=by rw[Int.toNat_natCast];exact h4
  exact Or.inl (by omega)
def canF(P:Ps)(ver:Int)(np:Nat):List (Fin np):=(List.finRange np).filter fun x=>canK P ver x.val
theorem canF_pick(P:Ps)(ver:Int)(np:Nat):(canF P ver np).map (fun x=>(x.val:Int))=pickL (canK P ver) np:=by
 unfold canF pickL;rw[show List.range np=(List.finRange np).map Fin.val from(List.ext_getElem (by simp) (by simp)),List.filter_map,List.map_map];rfl
theorem canF_rise(P:Ps)(ver:Int)(np:Nat):(canF P ver np).Pairwise (fun x y=>x.val<y.val):=by
 have h:=pickL_rise (canK P ver) np;rw[←canF_pick,List.pairwise_map]at h;exact h.imp fun {a b} h=>by omega
def cfK(P:Ps){np:Nat}(x y:Fin np):Int:=cmpZ (leftK P y.val) (leftK P x.val)
theorem ltOf_cfK(P:Ps){np:Nat}(x y:Fin np):ltOf (cfK P) x y=decide (leftK P y.val<leftK P x.val):=by
 unfold ltOf cfK cmpZ;by_cases h:leftK P y.val<leftK P x.val;·rw[if_pos h];simp[h]
 rw[if_neg h];by_cases h2:leftK P x.val<leftK P y.val;·rw[if_pos h2];simp[h]
 rw[if_neg h2];simp[h]
def ltX(P:Ps){np:Nat}(x y:Fin np):Bool:=decide (leftK P y.val<leftK P x.val∨(leftK P y.val=leftK P x.val∧x.val<y.val))
theorem ltX_swo(P:Ps){np:Nat}:SWO (ltX P (np:=np)):=by
 refine⟨fun x=>?_,fun x y z h1 h2=>?_,fun x y z h1 h2=>?_⟩;·unfold ltX;simp
 ·unfold ltX at *;simp at *;omega
 unfold ltX at *;simp at *;omega
theorem sorted_order(P:Ps)(ver:Int)(np:Nat)[Inhabited (Fin np)](hr:∀k,k<np→leftK P k≤20)(r:Array (Fin np))(he:r=insertionSort (ltOf (cfK P)) (canF P ver np).toArray 0 (canF P ver np).toArray.size):
 r.size=(canF P ver np).length∧r.toList.map (fun x=>(x.val:Int))=orderL P ver np:=by
 have hst:=insertionSort_stable (α:=Fin np) (fun x=>x.val) (ltOf (cfK P)) (ltX P) (fun x y h=>by
  rw[ltOf_cfK];unfold ltX;by_cases c:leftK P y.val<leftK P x.val;·simp[c]
  ·have:¬(leftK P y.val<leftK P x.val∨(leftK P y.val=leftK P x.val∧x.val<y.val)):=by omega
   rw[decide_eq_false c,decide_eq_false this]) (ltX_swo P) (canF P ver np).toArray (fun i j hij hj=>by
  have hj':j<(canF P ver np).length:=by simpa using hj
  have h:=List.pairwise_iff_getElem.1 (canF_rise P ver np) i j (by omega) hj' hij;rw[getElem!_pos _ i (by simp;omega),getElem!_pos _ j hj];simpa using h)
 rw[←he]at hst
 obtain⟨hp,hs⟩:=hst
 have hsz:r.size=(canF P ver np).length:=by rw[hp.1];simp
 refine⟨hsz,?_⟩
 have hperm:r.toList.Perm (canF P ver np):=by
  have h3:=hp.2.2;rw[Array.extract_eq_self_of_le (by rw[hsz];simp),Array.extract_eq_self_of_le (Nat.le_refl _)]at h3;exact h3
 have hnd:(canF P ver np).Nodup:=(canF_rise P ver np).imp fun {a b} h e=>by rw[e]at h;omega
 have hpw:(r.toList.map (fun x=>(x.val:Int))).Pairwise (LexK P):=by
  rw[List.pairwise_map,List.pairwise_iff_getElem];intro i j hi hj hij;have hi':i<r.size:=by simpa using hi
  have hj':j<r.size:=by simpa using hj
  have h4:=hs i j (Nat.zero_le _) hij (by rw[←hp.1];exact hj');rw[getElem!_pos r j hj',getElem!_pos r i hi']at h4;have h5:=of_decide_eq_false h4;have hne:r[i].val≠r[j].val:=fun e=>by
   have h6:r.toList.Nodup:=hperm.nodup_iff.2 hnd;have:=(List.getElem_inj (h₀:=hi) (h₁:=hj) h6).1 (by simpa using Fin.ext e);omega
  simp only[Array.getElem_toList];unfold LexK;rw[Int.toNat_natCast,Int.toNat_natCast];omega
 have hpp:(r.toList.map (fun x=>(x.val:Int))).Perm (orderL P ver np):=by
  refine(hperm.map _).trans ?_;rw[canF_pick];have n1:(pickL (canK P ver) np).Nodup:=(pickL_rise (canK P ver) np).imp fun {a b} h=>by omega
  have n2:(orderL P ver np).Nodup:=(lefts_ahead P ver np 20).imp fun {a b} h=>h.1;refine(List.perm_ext_iff_of_nodup n1 n2).2 fun x=>?_;unfold orderL;rw[mem_pickL,mem_lefts];constructor
  ·rintro⟨k,h1,h2,rfl⟩
   obtain⟨h3,h4⟩:=(canK_iff _ _ _).1 h2;exact⟨k,rfl,h1,h3,by omega,hr k h1⟩
  rintro⟨k,rfl,h1,h2,h3,_⟩;exact⟨k,h1,(canK_iff _ _ _).2 ⟨h2,by omega⟩,rfl⟩
 refine hpp.eq_of_pairwise (le:=LexK P) (fun a b _ _ h1 h2=>?_) hpw (lefts_lex P ver np 20)
 unfold LexK at h1 h2
 omega
theorem insNone(ad:Option Addr)(cap:Nat)(fv:Value)(w:World)(hf:∃f a b,fv=.func f a b):Calls Tryz.prog 190 #[.slice ad 0 cap,.int .i64 0,.int .i64 0,fv] w fun e w'=>e=.returned (.tuple #[])∧w'=w:=by
 obtain⟨f,a,b,rfl⟩:=hf;go_enter Tryz.func190,Tryz.ntmps190;go_wp2;refine wp_loop_rounds 1 ?_;rw[rounds_succ];go_wp2;go_end0
 exact⟨rfl,rfl⟩
theorem sortW_below{α:Type}[Inhabited α](enc:α→Value){w0 wr:World}{g m:Nat}{dk:Array α}{os:Array Obj}(hb:RowKit.Below w0.heap.size w0 wr)(hg:w0.heap.size≤g):RowKit.Below w0.heap.size w0 (sortWorld enc wr g 0 m dk os):=by
 have hsz:(sortWorld enc wr g 0 m dk os).heap.size=wr.heap.size+os.size:=by simp[sortWorld,putRow,mapBlock,Sort.ahead,grow]
 refine hb.trans ⟨rfl,rfl,rfl,by omega,fun k hk=>?_⟩;have hl:=hb.size;unfold sortWorld;rw[heap_grow_old _ _ (by simp[putRow,mapBlock,Sort.ahead];omega)];have:g≠k:=by omega
 simp[putRow,mapBlock,Sort.ahead,Array.getElem?_modify,this]
theorem plStable(bx:Nat)(a:Option Addr)(c:Nat)(np:Nat)(KV:Nat→Value)(UV:Nat→Nat→Value)(P:Ps)(ver:Int)(hn:np≤8)(hr:∀k,k<np→(0≤P.rm k∧P.rm k≤20)∧(P.m k:Int)≤P.rm k)(w0 wr:World)(vo:Value)
 (hl:PsSl w0 w0.heap.size (.slice a np c) np KV UV P) (hx:w0.cell? ⟨bx,0,none⟩=some (.slice a np c)) (ho:OwnL w0 wr vo (pickL (canK P ver) np)) :
 Calls Tryz.prog 190 #[vo,.int .i64 0,.int .i64 ((pickL (canK P ver) np).length:Int),.func (.func 152) #[] #[.pointer (some ⟨bx,0,none⟩)]] wr fun e w'=>e=.returned (.tuple #[]) ∧
  RowKit.Below w0.heap.size w0 w'∧IntSl w' w'.heap.size vo (orderL P ver np).length (fun j=>(orderL P ver np).getD j 0)∧(orderL P ver np).length=(pickL (canK P ver) np).length:=by
 have hleft:∀k,k<np→leftK P k≤20:=fun k hk=>by unfold leftK;have:=hr k hk;omega
 by_cases h0:np=0
 ·subst h0
  have hs:=ho.isl (by rw[show pickL (canK P ver) 0=[]from rfl];simp);obtain⟨ad,cap,rfl,_,_⟩:=hs;have e0:orderL P ver 0=[]:=by
   rw[List.eq_nil_iff_forall_not_mem];intro x hx;obtain⟨k,_,h,_⟩:=mem_lefts.1 hx;omega
  rw[e0];refine(insNone ad cap _ wr ⟨_,_,_,rfl⟩).mono ?_;rintro e w' ⟨he,rfl⟩;exact⟨he,ho.2,⟨ad,cap,rfl,⟨Nat.zero_le _,by decide⟩,Or.inl rfl⟩,rfl⟩
 haveI:Inhabited (Fin np):=⟨⟨0,by omega⟩⟩
 obtain⟨hos,hord⟩:=sorted_order P ver np hleft _ rfl
 generalize hR:insertionSort (ltOf (cfK P)) (canF P ver np).toArray 0 (canF P ver np).toArray.size=R at hos hord
 have hcl:(canF P ver np).length=(pickL (canK P ver) np).length:=by rw[←canF_pick,List.length_map]
 have hol:(orderL P ver np).length=(pickL (canK P ver) np).length:=by rw[←hord,List.length_map,Array.length_toList,hos,hcl]
 have hple:=pickL_len (canK P ver) np
 obtain⟨hlen,hrow⟩:=ho.1
 rcases hrow with⟨rfl,hnil⟩|⟨g,cap,cur,rfl,hg,hblk,hnc,hcm,hcs,htk⟩
 ·have e0:orderL P ver np=[]:=List.length_eq_zero_iff.1 (by omega)
  rw[hnil,e0];refine(insNone none 0 _ wr ⟨_,_,_,rfl⟩).mono ?_;rintro e w' ⟨he,rfl⟩;exact⟨he,ho.2,⟨none,0,rfl,⟨Nat.zero_le _,by decide⟩,Or.inl rfl⟩,rfl⟩
 ·have hsz:(canF P ver np).toArray.size=(pickL (canK P ver) np).length:=by rw[←hcl];simp
  have hH:Holds (fun x:Fin np=>Value.int .i64 (x.val:Int)) wr g 0 (canF P ver np).toArray:=fun j hj=>by
   have hj':j<(canF P ver np).length:=by simpa using hj
   refine⟨?_,frozen_at hblk⟩;rw[Nat.zero_add,getElem!_pos _ j hj];rw[cell_of_row wr g j cur 3 (0,0) hblk];have h1:(cur.toList.take ((pickL (canK P ver) np).length*1))[j]?=some (Value.int .i64 (((canF P ver np).toArray[j]).val:Int)):=by
    rw[htk,←canF_pick];simp[hj']
   rw[List.getElem?_take]at h1;split at h1;·simpa using h1
   cases h1
  have hlt:g<wr.heap.size:=(Array.getElem?_eq_some_iff.1 hblk).1;have R1:Row1 (fun x:Fin np=>Value.int .i64 (x.val:Int)) wr g 0 (canF P ver np).toArray:=⟨fun _=>rfl,hH,hlt⟩;have hcmp:CmpLays1 Tryz.prog 152 #[.pointer (some ⟨bx,0,none⟩)] (fun x:Fin np=>Value.int .i64 (x.val:Int)) (cfK P) g 0 (canF P ver np).toArray.size wr:=fun m os dk hs x y=>by
   have hb:=sortW_below (fun x:Fin np=>Value.int .i64 (x.val:Int)) (m:=m) (dk:=dk) (os:=os) ho.2 hg;refine(plComp bx a c np KV UV P x.val y.val x.isLt y.isLt hr _ (hl.up hb) (by rw[hb.cell (cell_lt hx)];exact hx)).mono ?_;rintro e w' ⟨he,hw⟩;exact⟨he,hw⟩
  have hcon:=Any.insertionSortCmpFunc_s Tryz.insInts (fun x:Fin np=>Value.int .i64 (x.val:Int)) (cfK P) 152 #[.pointer (some ⟨bx,0,none⟩)] g 0 cap 0 (canF P ver np).toArray.size (canF P ver np).toArray (canF P ver np).toArray wr wr (enters_of Tryz.func152 (by kernel_rfl) rfl) hcmp R1 rfl (SW.start hH) (Nat.zero_le _) (Nat.le_refl _) (by omega);rw[hR,hsz]at hcon;refine hcon.mono ?_;rintro e w' ⟨he,hS⟩;obtain⟨m,os,hw⟩:=hS;have hRs:R.size=(canF P ver np).toArray.size:=by rw[hos];simp
  have hHR:Holds (fun x:Fin np=>Value.int .i64 (x.val:Int)) w' g 0 R:=SW.holds ⟨m,os,hw⟩ hlt hH hRs;refine⟨he,by rw[hw];exact sortW_below _ ho.2 hg,?_,hol⟩;rw[←hol]at hnc;rw[←hol];have hgw:g<w'.heap.size:=by rw[hw];simp[sortWorld,putRow,mapBlock,Sort.ahead,grow];omega
  refine⟨some ⟨g,0,none⟩,cap,rfl,⟨hnc,by omega⟩,Or.inr ⟨g,0,rfl,hgw,fun j hj=>?_⟩⟩;have hjR:j<R.size:=by rw[hos,hcl];omega
  rw[(hHR j hjR).1,getElem!_pos R j hjR,←hord];simp[List.getD_eq_getElem?_getD,hjR]
def stepK(n:Nat)(b:Bk)(t:Kt)(k:Nat):Int :=
 if t.V k<0∨(n:Int)≤t.V k then 4 else if 0<k∧t.V k≤t.V (k-1)then 5 else oneK b t k
theorem scanK_step{n:Nat}{b:Bk}{t:Kt}{f k:Nat}{last:Int}(hl:last=if k=0 then -1 else t.V (k-1)):
 scanK n b t (f+1) k last=if stepK n b t k=0 then scanK n b t f (k+1) (t.V k)else stepK n b t k:=by
 by_cases c1:t.V k<0∨(n:Int)≤t.V k
 ·have h1:stepK n b t k=4:=by unfold stepK;rw[if_pos c1]
  rw[h1,if_neg (by decide)];simp only[scanK];rw[if_pos c1]
 ·by_cases c2:t.V k≤last
  ·have c3:0<k∧t.V k≤t.V (k-1):=by
    by_cases h0:k=0;·rw[if_pos h0]at hl;omega
    ·rw[if_neg h0]at hl;exact⟨by omega,by omega⟩
   have h1:stepK n b t k=5:=by unfold stepK;rw[if_neg c1,if_pos c3]
   rw[h1,if_neg (by decide)];simp only[scanK];rw[if_neg c1,if_pos c2]
  have c3:¬(0<k∧t.V k≤t.V (k-1)):=by
   rintro⟨h0,h1⟩;rw[if_neg (by omega)]at hl;omega
  have h1:stepK n b t k=oneK b t k:=by unfold stepK;rw[if_neg c1,if_neg c3]
  rw[h1];simp only[scanK];rw[if_neg c1,if_neg c2]
theorem peOne(vb:Value)(n:Nat)(PV:Nat→Value)(b:Bk)(vk:Value)(m:Nat)(UV:Nat→Value)(t:Kt)(k:Nat)(hlt:k<m)(w:World)(hv:VeSl w w.heap.size vb n PV b)(hk:KeSl w w.heap.size vk m UV t):
 Calls Tryz.prog 136 #[bookV vb,vk,.int .i64 (k:Int)] w fun e w'=>e=.returned (.int .i64 (stepK n b t k))∧Below w.heap.size w w':=by
 obtain⟨ad,cap,rfl,⟨hc,hr⟩,hX⟩:=hv
 obtain⟨ak,capk,rfl,⟨hck,hrk⟩,hXk⟩:=hk
 rcases hXk with h0|⟨bl,off,rfl,hbl,hxk⟩
 ·omega
 obtain⟨x0,x1,x2,x3⟩:=hxk k hlt
 have zq0:∀k',k=k'+1→w.cell? ⟨bl,off+k'*3,none⟩=some (.int .i64 (t.V k')):=fun k' e=>(hxk k' (by omega)).1
 obtain⟨ans,hans⟩:∃a,stepK n b t k=a:=⟨_,rfl⟩
 rw[hans]
 unfold stepK at hans
 have hki:(k:Int)<(m:Int):=by omega
 have hbW:=below_alloc w (.cells #[.slice ad n cap] 24)
 have kb:=heap_alloc_new w (.cells #[.slice ad n cap] 24)
 obtain⟨W,hW⟩:∃W,w.alloc (.cells #[.slice ad n cap] 24)=W:=⟨_,rfl⟩
 rw[hW]at hbW kb
 have HIs:Hid (∀u,Below w.heap.size w u→IntSl u u.heap.size (UV k) (t.L k) (t.X k)):=fun u hb=>x3.up hb
 obtain⟨ap,cp,hpe,_,_⟩:=x3
 rw[hpe]at x2 HIs
 have g0:W.cell? ⟨bl,off+k*3,none⟩=some (.int .i64 (t.V k)):=by rw[hbW.cell hbl];exact x0
 have g1:W.cell? ⟨bl,off+k*3+1,none⟩=some (.int .i64 (t.N k)):=by rw[hbW.cell hbl];exact x1
 have g2:W.cell? ⟨bl,off+k*3+2,none⟩=some (.slice ap (t.L k) cp):=by rw[hbW.cell hbl];exact x2
 obtain⟨Z,hZ⟩:∃Z,W.alloc (.cells #[.int .i64 (t.V k),.int .i64 (t.N k),.slice ap (t.L k) cp] 83)=Z:=⟨_,rfl⟩
 have hbZ:Below W.heap.size W Z:=by rw[←hZ];exact below_alloc _ _
 have BZ:=hid (hbW.trans (hbZ.mono hbW.size))
 obtain⟨z0,z1,z2⟩:Z.cell? ⟨W.heap.size,0,none⟩=_∧Z.cell? ⟨W.heap.size,1,none⟩=_∧Z.cell? ⟨W.heap.size,2,none⟩=_:=three_at (by rw[←hZ];exact heap_alloc_new W _)
 have zb:Z.cell? ⟨w.heap.size,0,none⟩=some (.slice ad n cap):=by rw[hbZ.cell (Array.getElem?_eq_some_iff.1 kb).1];exact cell_at kb rfl
 have zq:∀k',k=k'+1→Z.cell? ⟨bl,off+k'*3,none⟩=some (.int .i64 (t.V k')):=fun k' e=>by rw[BZ.out.cell hbl];exact zq0 k' e
 have HBk:=hid hbl
 obtain⟨x,hxx⟩:∃x,t.V k=x:=⟨_,rfl⟩
 rw[hxx]at g0 z0 hans hZ
 have HX:=hid hX
 have HOk:Hid (oneK b t k=oneE (b.nd x.toNat) (b.of x.toNat) (b.sz x.toNat) (t.N k) (t.L k) (t.X k)):=by show _=_;unfold oneK;rw[hxx]
 have HXx:=hid hxx
 clear x0 x1 x2 hxk hpe hbZ hxx hX kb hbW zq0 hbl
 unfold bookV
 by_cases c1:x<0∨(n:Int)≤x
 ·rw[if_pos c1]at hans
  have HFin:=hid hans;clear hans zq;by_cases c2:x<0
  ·go_enter Tryz.func136,Tryz.ntmps136
   go_wp2;go_ret;exact⟨by rw[←HFin.out];rfl,BZ.out⟩
  have c3:(n:Int)≤x:=by omega
  go_enter Tryz.func136,Tryz.ntmps136;go_wp2;go_ret;exact⟨by rw[←HFin.out];rfl,BZ.out⟩
 ·rw[if_neg c1]at hans
  have c2:¬x<0:=fun h=>c1 (Or.inl h);have c3:¬(n:Int)≤x:=fun h=>c1 (Or.inr h);clear c1;by_cases c4:0<k∧x≤t.V (k-1)
  ·rw[if_pos c4]at hans
   have HFin:=hid hans;obtain⟨k',rfl⟩:∃k',k=k'+1:=⟨k-1,by omega⟩;have c5:=c4.2;rw[Nat.add_sub_cancel]at c5;have zr:=zq k' rfl;obtain⟨last,hlast⟩:∃l,t.V k'=l:=⟨_,rfl⟩;rw[hlast]at zr c5;have hkp:(0:Int)<((k'+1:Nat):Int):=by omega
   have hk1:((k'+1:Nat):Int)-1=(k':Int):=by omega
   have hk2:(k':Int)<(m:Int):=by omega
   clear hans zq c4 hlast;go_enter Tryz.func136,Tryz.ntmps136;go_wp2_with fail
   go_quiet (fail);go_wp2;go_ret;exact⟨by rw[←HFin.out];rfl,BZ.out.trans ((drewK_below Z _).mono BZ.out.size)⟩
  rw[if_neg c4,HOk.out]at hans;obtain⟨y,rfl⟩:∃y:Nat,x=y:=⟨x.toNat,by omega⟩;rw[Int.toNat_natCast]at hans;have hyn:y<n:=by omega
  have hyi:(y:Int)<(n:Int):=by omega
  rcases HX.out with h0|⟨bv,ov,rfl,hbv,hxv⟩;·omega
  obtain⟨_,v1,v2,v3,_⟩:=hxv y hyn;have q1:Z.cell? ⟨bv,ov+y*4+1,none⟩=some (.int .i64 (b.nd y)):=by rw[BZ.out.cell hbv];exact v1
  have q2:Z.cell? ⟨bv,ov+y*4+2,none⟩=some (.int .i64 (b.of y)):=by rw[BZ.out.cell hbv];exact v2
  have q3:Z.cell? ⟨bv,ov+y*4+3,none⟩=some (.int .i64 (b.sz y)):=by rw[BZ.out.cell hbv];exact v3
  have hne:Nonempty (Of (Below Z.heap.size Z)):=⟨⟨Z,Below.refl _ _⟩⟩;have F0:∀u:Of (Below Z.heap.size Z),u.val.cell? ⟨W.heap.size,0,none⟩=some (.int .i64 (y:Int)):=fun u=>by rw[u.is.cell (cell_lt z0)];exact z0
  have F1:∀u:Of (Below Z.heap.size Z),u.val.cell? ⟨W.heap.size,1,none⟩=some (.int .i64 (t.N k)):=fun u=>by rw[u.is.cell (cell_lt z1)];exact z1
  have F2:∀u:Of (Below Z.heap.size Z),u.val.cell? ⟨W.heap.size,2,none⟩=some (.slice ap (t.L k) cp):=fun u=>by rw[u.is.cell (cell_lt z2)];exact z2
  have F3:∀u:Of (Below Z.heap.size Z),u.val.cell? ⟨w.heap.size,0,none⟩=some (.slice (some ⟨bv,ov,none⟩) n cap):=fun u=>by rw[u.is.cell (cell_lt zb)];exact zb
  have F4:∀u:Of (Below Z.heap.size Z),u.val.cell? ⟨bv,ov+y*4+1,none⟩=some (.int .i64 (b.nd y)):=fun u=>by rw[u.is.cell (cell_lt q1)];exact q1
  have F5:∀u:Of (Below Z.heap.size Z),u.val.cell? ⟨bv,ov+y*4+2,none⟩=some (.int .i64 (b.of y)):=fun u=>by rw[u.is.cell (cell_lt q2)];exact q2
  have F6:∀u:Of (Below Z.heap.size Z),u.val.cell? ⟨bv,ov+y*4+3,none⟩=some (.int .i64 (b.sz y)):=fun u=>by rw[u.is.cell (cell_lt q3)];exact q3
  have CS:Hid (∀u,Below Z.heap.size Z u→Calls Tryz.prog 164 #[planV (b.nd y) (b.of y) (b.sz y),shareV (t.N k) (.slice ap (t.L k) cp)] u fun e u'=>e=.returned (.int .i64 (oneE (b.nd y) (b.of y) (b.sz y) (t.N k) (t.L k) (t.X k)))∧Below u.heap.size u u'):=fun u hbu=>shOne (b.nd y) (b.of y) (b.sz y) (t.N k) _ (t.L k) (t.X k) u (HIs.out _ (BZ.out.trans (hbu.mono BZ.out.size)));rw[hans]at CS;unfold planV shareV at CS;clear hxv hans v1 v2 v3 q1 q2 q3;by_cases hk0:k=0
  ·subst hk0
   have hkz:¬(0:Int)<((0:Nat):Int):=by omega
   simp only[Nat.zero_mul,Nat.add_zero]at g0 g1 g2;clear zq c4;go_enter Tryz.func136,Tryz.ntmps136;go_wp2_with fail
   go_quiet (fail);go_wp2_with fail
   have HD1:Hid (Below Z.heap.size Z (Z.drewN nq).drew):=⟨rfl,rfl,rfl,Nat.le_refl _,fun _ _=>rfl⟩;refine region_mixed (Below Z.heap.size Z) [([0,1,2,3,4,5,6,7,8],9)] [10] (by kernel_rfl) (by kernel_rfl) HD1.out ?_;refine mixO_cons ?_;repeat(go_big_quiet_step (fail))
   refine wpQuiet_nil ?_;intro K hK;go_wp2_with fail
   refine Calls.mono (CS.out _ HD1.out) ?_;rintro e w5 ⟨rfl,hb5⟩;have H5:Hid (Below Z.heap.size Z w5):=HD1.out.trans (hb5.mono HD1.out.size);clear hb5;go_wp2;refine⟨rfl,hK _ _ H5.out ?_⟩;clear hK K;refine mixO_nil ?_;repeat(go_big_quiet_step (fail))
   refine wpQuiet_nil ?_;have B5:=hid (BZ.out.trans (H5.out.mono BZ.out.size));clear F0 F1 F2 F3 F4 F5 F6 hne;go_wp2;go_ret;exact⟨rfl,B5.out⟩
  obtain⟨k',rfl⟩:∃k',k=k'+1:=⟨k-1,by omega⟩;have c5:¬(y:Int)≤t.V k':=fun h=>c4 ⟨by omega,by rw[Nat.add_sub_cancel];exact h⟩;have zr:=zq k' rfl;obtain⟨last,hlast⟩:∃l,t.V k'=l:=⟨_,rfl⟩;rw[hlast]at zr c5;have hkp:(0:Int)<((k'+1:Nat):Int):=by omega
  have hk1:((k'+1:Nat):Int)-1=(k':Int):=by omega
  have hk2:(k':Int)<(m:Int):=by omega
  clear zq c4 hlast hk0;go_enter Tryz.func136,Tryz.ntmps136;go_wp2_with fail
  go_quiet (fail);go_wp2_with fail
  have HD1:Hid (Below Z.heap.size Z (Z.drewN nq).drew):=⟨rfl,rfl,rfl,Nat.le_refl _,fun _ _=>rfl⟩;refine region_mixed (Below Z.heap.size Z) [([0,1,2,3,4,5,6,7,8],9)] [10] (by kernel_rfl) (by kernel_rfl) HD1.out ?_;refine mixO_cons ?_;repeat(go_big_quiet_step (fail))
  refine wpQuiet_nil ?_;intro K hK;go_wp2_with fail
  refine Calls.mono (CS.out _ HD1.out) ?_;rintro e w5 ⟨rfl,hb5⟩;have H5:Hid (Below Z.heap.size Z w5):=HD1.out.trans (hb5.mono HD1.out.size);clear hb5;go_wp2;refine⟨rfl,hK _ _ H5.out ?_⟩;clear hK K;refine mixO_nil ?_;repeat(go_big_quiet_step (fail))
  refine wpQuiet_nil ?_;have B5:=hid (BZ.out.trans (H5.out.mono BZ.out.size));clear F0 F1 F2 F3 F4 F5 F6 hne;go_wp2;go_ret;exact⟨rfl,B5.out⟩
theorem peChecked(vb:Value)(n:Nat)(PV:Nat→Value)(b:Bk)(th:Bool)(room:Int)(vk:Value)(m:Nat)(UV:Nat→Value)(t:Kt)(w:World)(hv:VeSl w w.heap.size vb n PV b)(hk:KeSl w w.heap.size vk m UV t):
 Calls Tryz.prog 101 #[bookV vb,peerV th room vk] w fun e w'=>e=.returned (.int .i64 (peerE n b room m t))∧Below w.heap.size w w':=by
 have HV:=hid hv
 have HK:=hid hk
 obtain⟨ad,cap,rfl,_,_⟩:=hv
 obtain⟨ak,capk,rfl,⟨hck,hrk⟩,_⟩:=hk
 have hb0:=((Below.refl w.heap.size w).alloc (Nat.le_refl _) (.cells #[.slice ad n cap] 24)).alloc (by simp) (.cells #[.bool th,.int .i64 room,.slice ak m capk] 41)
 have k1:=heap_two_old w (.cells #[.slice ad n cap] 24) (.cells #[.bool th,.int .i64 room,.slice ak m capk] 41)
 have k2:=heap_two_new w (.cells #[.slice ad n cap] 24) (.cells #[.bool th,.int .i64 room,.slice ak m capk] 41)
 obtain⟨W0,hW0⟩:∃W,(w.alloc (.cells #[.slice ad n cap] 24)).alloc (.cells #[.bool th,.int .i64 room,.slice ak m capk] 41)=W:=⟨_,rfl⟩
 rw[hW0]at hb0 k1 k2
 obtain⟨ans,hans⟩:∃a,peerE n b room m t=a:=⟨_,rfl⟩
 rw[hans]
 unfold peerE at hans
 have CK:=hid (bkCheck _ n PV b W0 (HV.out.up hb0))
 obtain⟨c,hcc⟩:∃c,bookE n b=c:=⟨_,rfl⟩
 rw[hcc]at hans CK
 have HA:=hid hans
 have B0:=hid hb0
 have K1:=hid k1
 have K2:=hid k2
 have c1:W0.cell? ⟨w.heap.size,0,none⟩=some (.slice ad n cap):=cell_at k1 rfl
 clear hb0 k1 k2 hans hcc
 unfold bookV at CK
 unfold bookV peerV
 go_enter Tryz.func101,Tryz.ntmps101
 go_wp2_with fail
 refine Calls.mono CK.out ?_
 rintro e W ⟨rfl,hbW⟩
 have B1:=hid (B0.out.trans (hbW.mono B0.out.size))
 have k1:W.heap[w.heap.size]?=some (.cells #[.slice ad n cap] 24 (0,0)):=by rw[hbW.block _ (Array.getElem?_eq_some_iff.1 K1.out).1];exact K1.out
 have k2:W.heap[w.heap.size+1]?=some (.cells #[.bool th,.int .i64 room,.slice ak m capk] 41 (0,0)):=by rw[hbW.block _ (Array.getElem?_eq_some_iff.1 K2.out).1];exact K2.out
 have KW1:=hid k1
 have KW2:=hid k2
 obtain⟨p0,p1,p2⟩:=three_at k2
 clear hbW B0 K1 K2 k1 k2 c1 CK
 by_cases hc0:c=0
 ·subst hc0
  have hA:=HA.out;rw[if_pos rfl]at hA;by_cases hr:0≤room∧room≤20
  ·rw[if_pos hr]at hA
   have hr1:¬room<0:=by omega
   have hr2:¬(20:Int)<room:=by omega
   by_cases hm:(m:Int)≤room
   ·rw[if_pos hm]at hA
    have HA2:=hid hA;clear hA;have hmr:¬room<(m:Int):=by omega
    go_wp2;clear p0 p1 p2;go_loopw [30] (fun iv wr=>∃(k:Nat) (last:Int),k≤m∧iv=.int .i64 k∧Hid (last=if k=0 then -1 else t.V (k-1))∧Hid (Below W.heap.size W wr)∧Hid (scanK n b t (m-k) k last=ans)) (fun iv _=>m-(intOf iv).toNat)
    case atStart=>exact⟨0,-1,Nat.zero_le _,rfl,rfl,Below.refl _ _,HA2⟩
    case round =>
     obtain⟨k,last,hk,rfl,HLast,HB,HS⟩:=hrel;by_cases hlt:k<m
     ·have hki:(k:Int)<(m:Int):=by omega
      have hstep:=HS.out;rw[show m-k=(m-(k+1))+1 by omega,scanK_step HLast.out]at hstep;have BR:=hid (B1.out.trans (HB.out.mono B1.out.size));have g0:wr.cell? ⟨w.heap.size,0,none⟩=some (.slice ad n cap):=by rw[HB.out.cell (Array.getElem?_eq_some_iff.1 KW1.out).1];exact cell_at KW1.out rfl
      have g1:wr.cell? ⟨w.heap.size+1,2,none⟩=some (.slice ak m capk):=by rw[HB.out.cell (Array.getElem?_eq_some_iff.1 KW2.out).1];exact(three_at KW2.out).2.2
      have CO:=hid (peOne _ n PV b _ m UV t k hlt wr (HV.out.up BR.out) (HK.out.up BR.out));unfold bookV at CO;obtain⟨er,her⟩:∃er,stepK n b t k=er:=⟨_,rfl⟩;rw[her]at CO hstep;have HSt:=hid hstep;clear her hstep;go_wp2_with fail
      refine Calls.mono CO.out ?_;rintro e w5 ⟨rfl,hb5⟩;have B5:=hid (HB.out.trans (hb5.mono HB.out.size));clear hb5 g0 g1;by_cases he0:er=0
      ·subst he0
       have hs:=HSt.out;rw[if_pos rfl]at hs;have HNx:=hid hs;clear hs;go_wp2;go_roundw
       case rel=>exact⟨k+1,t.V k,by omega,by go_num,(by rw[if_neg (by omega),Nat.add_sub_cancel]:t.V k=if k+1=0 then -1 else t.V (k+1-1)),B5,HNx⟩
       case measure=>simp only[intOf];omega
      have hs:=HSt.out;rw[if_neg he0]at hs;have heb:(er != 0)=true:=by simpa using he0
      have HFin:=hid hs;clear hs he0;go_wp2;go_ret;exact⟨by rw[←HFin.out];rfl,B1.out.trans (B5.out.mono B1.out.size)⟩
     have hke:m=k:=by omega
     subst hke;have hst:=HS.out;rw[Nat.sub_self]at hst;have HFin:Hid ((0:Int)=ans):=hst;clear hst;go_wp2;go_ret;exact⟨by rw[←HFin.out];rfl,B1.out.trans (HB.out.mono B1.out.size)⟩
   rw[if_neg hm]at hA;have HFin:=hid hA;have hmr:room<(m:Int):=by omega
   clear hA hm;go_wp2;go_ret;exact⟨by rw[←HFin.out];rfl,B1.out⟩
  rw[if_neg hr]at hA;have HFin:=hid hA;clear hA;by_cases hr1:room<0
  ·clear hr
   go_wp2;go_ret;exact⟨by rw[←HFin.out];rfl,B1.out⟩
  have hr2:(20:Int)<room:=by omega
  clear hr;go_wp2;go_ret;exact⟨by rw[←HFin.out];rfl,B1.out⟩
 ·have hA:=HA.out
  rw[if_neg hc0]at hA;have hcb:(c != 0)=true:=by simpa using hc0
  have HFin:=hid hA;clear hA hc0;go_wp2;go_ret;exact⟨by rw[←HFin.out];rfl,B1.out⟩
end Go.Proofs.YtajmnlhfnhbleaaGreat
