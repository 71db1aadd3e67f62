/- Several texts of one proof, in their order. -/
import Derived.Test.YtajmnlhfnhbleaaGreatKw10
namespace Go.Proofs.YtajmnlhfnhbleaaGreat
open Go.RowKit CurveMath Go.Maps Go.Lib Go.Sort
set_option linter.unusedVariables false
set_option maxHeartbeats 2000000
theorem flatS_eqv{n:Nat}{N N':Nat→Int}{V V':Nat→Value}(h:∀j,j<n→N j=N' j∧V j=V' j):flatS n N V=flatS n N' V':=by
 unfold flatS;refine List.map_congr_left fun i hi=>?_;have hi2:=List.mem_range.1 hi;obtain⟨h1,h2⟩:=h (i/2) (by omega);unfold cellS;rw[h1,h2]
theorem flatS_snoc(P:Ps)(UV:Nat→Nat→Value)(l:List (Nat×Nat))(k i:Nat):flatS (l++[(k,i)]).length (nL P (l++[(k,i)])) (vaL UV (l++[(k,i)]))=flatS l.length (nL P l) (vaL UV l)++[.int .i64 ((P.t k).N i),UV k i]:=by
 rw[List.length_append,show[(k,i)].length=1 from rfl,flatS_succ];have e1:nL P (l++[(k,i)]) l.length=(P.t k).N i:=by unfold nL;rw[getD_new]
 have e2:vaL UV (l++[(k,i)]) l.length=UV k i:=by unfold vaL;rw[getD_new]
 rw[e1,e2];congr 1;exact flatS_eqv fun j hj=>by unfold nL vaL;rw[getD_old _ _ _ hj];exact⟨rfl,rfl⟩
theorem seenN_snoc(P:Ps)(l:List (Nat×Nat))(k i:Nat)(N:Int):seenN P (l++[(k,i)]) N=(seenN P l N||decide ((P.t k).N i=N)):=by
 unfold seenN;rw[List.any_append];simp
theorem cells_pr(w:World)(N:Int)(v:Value)(T:TypeId):∀j u,([.int .i64 N,v]:List Value)[j]?=some u→(w.alloc (.cells #[.int .i64 N,v] T)).cell? (Addr.add ⟨w.heap.size,0,none⟩ j)=some u:=by
 intro j u hj;rw[Addr.add_lit];match j,hj with
 |0,hj=>simp at hj;subst hj;exact cell_at (heap_alloc_new _ _) rfl
 |1,hj=>simp at hj;subst hj;exact cell_at (heap_alloc_new _ _) rfl
theorem rest_err{w w':World}{n:Nat}{b:Bk}{np:Nat}{P:Ps}{k c:Int}(hb:Below w.heap.size w w')(hc:verM n b np P k=c)(h0:c≠0):RestPost w n b np P k (.returned (.tuple #[.slice none 0 0,.slice none 0 0,.int .i64 c])) w':=by
 have h1:rsE n b np P k=c:=by unfold rsE;rw[hc,if_neg h0]
 have h2:rsB n b np P k=[]:=by unfold rsB;rw[hc,if_neg h0]
 refine⟨hb,.slice none 0 0,.slice none 0 0,0,by rw[h1],by rw[h1,if_neg h0];rfl,⟨none,0,rfl,⟨Nat.le_refl _,by omega⟩,Or.inl rfl⟩,?_⟩;rw[h2];exact⟨none,0,rfl,⟨Nat.le_refl _,by simp⟩,Or.inl rfl⟩
theorem rest_of{w w1 w':World}{n:Nat}{b:Bk}{np:Nat}{P:Ps}{k:Int}{e:Ending}(hb:Below w.heap.size w w1)(hv:verM n b np P k=0)(h:MostPost w1 (b.nd k.toNat) (b.of k.toNat) (b.sz k.toNat) (thereL P k np).length (nT P (thereL P k np)) (lT P (thereL P k np)) (xT P (thereL P k np)) e w'):RestPost w n b np P k e w':=by
 obtain⟨h1,r,bb,m,h2,h3,h4,h5⟩:=h;refine⟨hb.trans (h1.mono hb.size),r,bb,m,?_,?_,h4,?_⟩;·unfold rsE;rw[if_pos hv];exact h2
 ·unfold rsE;rw[if_pos hv];exact h3
 unfold rsB;rw[if_pos hv];exact h5
theorem seen_hit{P:Ps}{l l':List (Nat×Nat)}{c:Int→Int}{M k i:Nat}{N:Int}(h:∀x,0≤c x∧c x≤(M:Int))(hc:∀x,c x=0↔seenN P l x=false)(hN:(P.t k).N i=N)(hl:l'=if(!seenN P l N)=true then l++[(k,i)]else l):
 (∀x,0≤(if x=N then c N+1 else c x)∧(if x=N then c N+1 else c x)≤((M+1:Nat):Int))∧∀x,(if x=N then c N+1 else c x)=0↔seenN P l' x=false:=by
 have hcN:=h N
 refine⟨fun x=>?_,fun x=>?_⟩
 ·have:=h x
  by_cases e:x=N;·rw[if_pos e];omega
  rw[if_neg e];omega
 ·by_cases e:x=N
  ·subst e
   rw[if_pos rfl];constructor;·intro h9;omega
   intro h9;exfalso;rw[hl]at h9;cases hs:seenN P l x with
   |true=>rw[hs,Bool.not_true,if_neg (by decide),hs]at h9;cases h9
   |false=>rw[hs,Bool.not_false,if_pos rfl,seenN_snoc,hN,decide_eq_true rfl,Bool.or_true]at h9;cases h9
  rw[if_neg e,hc x,hl];cases hs:seenN P l N with
  |true=>rw[Bool.not_true,if_neg (by decide)]
  |false=>rw[Bool.not_false,if_pos rfl,seenN_snoc,hN,decide_eq_false (fun h=>e h.symm),Bool.or_false]
theorem nums_hit{T:List Int}{c:Int→Int}{M:Nat}{N:Int}(h:∀x,0≤c x∧c x≤(M:Int))(hc:∀x,c x=0↔T.contains x=false):
 (∀x,0≤(if x=N then c N+1 else c x)∧(if x=N then c N+1 else c x)≤((M+1:Nat):Int))∧∀x,(if x=N then c N+1 else c x)=0↔(T++[N]).contains x=false:=by
 have hcN:=h N
 refine⟨fun x=>?_,fun x=>?_⟩
 ·have:=h x
  by_cases e:x=N;·rw[if_pos e];omega
  rw[if_neg e];omega
 ·by_cases e:x=N
  ·subst e
   rw[if_pos rfl];constructor;·intro h9;omega
   intro h9;simp at h9
  rw[if_neg e,hc x];simp[e]
theorem thAll_has{n:Nat}{b:Bk}{np:Nat}{P:Ps}(h:MeshR n b np P)(ver:Int){k:Nat}(hk:k<np):thAll P ver (k+1)=if(hasK P ver k && !seenN P (thAll P ver k) (numK P ver k))=true then thAll P ver k++[(k,atK P ver k)]else thAll P ver k:=by
 rw[thAll_succ];exact thRow_has (fun i j hij hj=>(h.peer k hk).rise i j hij hj) _
theorem thAll_len{n:Nat}{b:Bk}{np:Nat}{P:Ps}(h:MeshR n b np P)(ver:Int):∀k,k≤np→(thAll P ver k).length≤k:=by
 intro k;induction k with
 |zero=>intro _;exact Nat.le_refl _
 |succ k ih =>
  intro hk;have:=ih (by omega);rw[thAll_has h ver (by omega)];split;·rw[List.length_append];simp;omega
  omega
theorem split_ok{d m s:Nat}{D:Nat→Int}(hp:planOk (d:Int) (m:Int) (s:Int)=true)(hD:∀j,0≤D j∧D j≤30):splitE (d:Int) (m:Int) (s:Int) s D=0:=by
 unfold splitE;rw[if_pos hp,if_pos rfl,if_pos];unfold numsB;refine decide_eq_true fun j _=>?_;have:=hD j;unfold isNum;simp;omega
theorem keyedInt:Keyed Tryz.prog 3:=int_keyed Tryz.underlying3
theorem zeroInt(w:World):(zeroValue 3).run Tryz.prog w=.ok (.int .i64 0) w:=by kernel_rfl
def CntM(w:World)(g m:Nat)(c:Int→Int):Prop:=∃D:DataW Empty,w.ownsMap Tryz.prog 3 (plainElem Tryz.prog 3) g m D∧∀x:Int,D.atKey (.int .i64 x) (.lit (.int .i64 0))=.lit (.int .i64 (c x))
theorem cntM_made(w:World):CntM (w.alloc (.map #[] 0)) w.heap.size 0 (fun _=>0):=⟨_,World.ownsMap_made _ _ _ _,fun x=>rfl⟩
theorem cnt_val{D:DataW Empty}{c:Int→Int}(h:∀x:Int,D.atKey (.int .i64 x) (.lit (.int .i64 0))=.lit (.int .i64 (c x))){x v:Int}(hat:D.atKey (.int .i64 x) (.lit (.int .i64 0))=.lit (.int .i64 v)):v=c x:=by
 rw[h x]at hat;injection hat with h1;injection h1 with _ h2;exact h2.symm
theorem cntM_put{w w':World}{g m:Nat}{c:Int→Int}{D:DataW Empty}{x v:Int}(hD:w.ownsMap Tryz.prog 3 (plainElem Tryz.prog 3) g m D)(h:∀x:Int,D.atKey (.int .i64 x) (.lit (.int .i64 0))=.lit (.int .i64 (c x)))
 (ho:w'.ownsMap Tryz.prog 3 (plainElem Tryz.prog 3) g (m+1) (D.put (.int .i64 x) (.lit (.int .i64 v)))):CntM w' g (m+1) (fun y=>if y=x then v else c y):=by
 refine⟨_,ho,fun y=>?_⟩
 by_cases e:y=x
 ·subst e
  rw[atKey_put_same hD.isMap (by simp[WideAt.IsKeyLit])];simp only[if_true]
 ·rw[atKey_put_other (fun h=>e (by injection h)),h y]
  simp only[if_neg e]
theorem CntM.kept{w w':World}{g m:Nat}{c:Int→Int}{row:Option Nat}(h:CntM w g m c)(hg:w.grownBy w' row)(hne:some g≠row):CntM w' g m c:=by
 obtain⟨D,h1,h2⟩:=h;exact⟨D,h1.kept hg hne,h2⟩
theorem CntM.up{w w':World}{g m:Nat}{c:Int→Int}(h:CntM w g m c)(hb:Below w.heap.size w w'):CntM w' g m c:=h.kept (grown_of_below hb none) (by intro e;cases e)
theorem CntM.lt{w:World}{g m:Nat}{c:Int→Int}(h:CntM w g m c):g<w.heap.size:=by
 obtain⟨D,h1,_⟩:=h;exact h1.lt
theorem CntM.ne{w:World}{g m:Nat}{c:Int→Int}(h:CntM w g m c){a:Addr}{u:Value}(ha:w.cell? a=some u):a.block≠g:=by
 obtain⟨D,⟨es,clock,hb,_⟩,_⟩:=h;intro e;rw[World.cell?,e,hb]at ha;simp at ha
theorem keyInt{x:Int}(h:0≤x∧x≤1000):keyOf Tryz.prog 3 (.int .i64 x)=some (.int .i64 x):=keyOf_int_mk Tryz.underlying3 (WalkArith.wf_i64 (by omega))
def Cnted(c ci:Int→Int)(X:Nat→Int)(M i:Nat):Prop:=(∀x,0≤ci x∧ci x≤(M:Int)+i)∧∀x,ci x=0↔c x=0∧∀j,j<i→X j≠x
theorem Cnted.step{c ci:Int→Int}{X:Nat→Int}{M i:Nat}(h:Cnted c ci X M i){x:Int}(hx:X i=x):Cnted c (fun y=>if y=x then ci x+1 else ci y) X M (i+1):=by
 obtain⟨h1,h2⟩:=h;have h3:=h1 x;refine⟨fun y=>?_,fun y=>?_⟩
 ·have h4:=h1 y
  by_cases e:y=x;·simp only[if_pos e];omega
  simp only[if_neg e];omega
 by_cases e:y=x
 ·simp only[if_pos e]
  constructor;·intro h;omega
  rintro⟨_,hh⟩;exact absurd (by rw[hx,e]) (hh i (by omega))
 simp only[if_neg e];rw[h2 y];constructor
 ·rintro⟨g1,g2⟩
  refine⟨g1,fun j hj=>?_⟩;by_cases ej:j=i;·subst ej;rw[hx];exact fun h=>e h.symm
  exact g2 j (by omega)
 rintro⟨g1,g2⟩;exact⟨g1,fun j hj=>g2 j (by omega)⟩
theorem peFindF(bx:Nat)(ver V N:Int)(uv:Value)(w:World)(hx:w.cell? ⟨bx,0,none⟩=some (.int .i64 ver))(hu:∃a l c,uv=.slice a l c):
 Calls Tryz.prog 75 #[keptV V N uv,.pointer (some ⟨bx,0,none⟩)] w fun e w'=>e=.returned (.bool (decide (V=ver)))∧Below w.heap.size w w':=by
 obtain⟨a,l,c,rfl⟩:=hu
 have hb:=below_alloc w (.cells #[.int .i64 V,.int .i64 N,.slice a l c] 83)
 have HB:=hid hb
 have c1:(w.alloc (.cells #[.int .i64 V,.int .i64 N,.slice a l c] 83)).cell? ⟨bx,0,none⟩=some (.int .i64 ver):=by rw[hb.cell (cell_lt hx)];exact hx
 clear hb
 have he:(V==ver)=decide (V=ver):=by by_cases h:V=ver<;>simp[h]
 unfold keptV
 go_enter Tryz.func75,Tryz.ntmps75
 go_wp2
 go_ret
 exact⟨by first|rfl|rw[←he],HB.out⟩
theorem peIndex(bx:Nat)(ver:Int)(v:Value)(m:Nat)(UV:Nat→Value)(t:Kt)(w:World)(h:KeSl w w.heap.size v m UV t)(hx:w.cell? ⟨bx,0,none⟩=some (.int .i64 ver)):
 Calls Tryz.prog 74 #[v,.func (.func 75) #[] #[.pointer (some ⟨bx,0,none⟩)]] w fun e w'=>e=.returned (.int .i64 (fstAt t.V ver m 0))∧Below w.heap.size w w':=by
 obtain⟨ad,cap,rfl,⟨hc,hr⟩,hk⟩:=h
 obtain⟨ans,hans⟩:∃a,fstAt t.V ver m 0=a:=⟨_,rfl⟩
 rw[hans]
 have HA:=hid hans
 have HX:=hid hk
 have HBx:=hid hx
 clear hans hk hx
 go_enter Tryz.func74,Tryz.ntmps74
 go_wp2
 go_loopw [8] (fun iv wr=>∃i:Nat,i≤m∧iv=.int .i64 i∧Hid (Below w.heap.size w wr)∧Hid (fstAt t.V ver (m-i) i=ans)) (fun iv _=>m-(intOf iv).toNat)
 case atStart=>exact⟨0,Nat.zero_le _,rfl,Below.refl _ _,HA⟩
 case round =>
  obtain⟨i,hi,rfl,HB,HS⟩:=hrel;by_cases hlt:i<m
  ·have hii:(i:Int)<(m:Int):=by omega
   rcases HX.out with h0|⟨b1,o1,rfl,hb1,hk⟩;·omega
   obtain⟨x0,x1,x2,x3⟩:=hk i hlt;obtain⟨au,cu,hue,_,_⟩:=x3;rw[hue]at x2;have g0:wr.cell? ⟨b1,o1+i*3,none⟩=some (.int .i64 (t.V i)):=by rw[HB.out.cell hb1];exact x0
   have g1:wr.cell? ⟨b1,o1+i*3+1,none⟩=some (.int .i64 (t.N i)):=by rw[HB.out.cell hb1];exact x1
   have g2:wr.cell? ⟨b1,o1+i*3+2,none⟩=some (.slice au (t.L i) cu):=by rw[HB.out.cell hb1];exact x2
   have hstep:=HS.out;rw[show m-i=(m-(i+1))+1 by omega]at hstep;simp only[fstAt]at hstep;obtain⟨x,hxx⟩:∃x,t.V i=x:=⟨_,rfl⟩;rw[hxx]at g0 hstep;have HC:=hid (peFindF bx ver x (t.N i) (.slice au (t.L i) cu) wr (by rw[HB.out.cell (cell_lt HBx.out)];exact HBx.out) ⟨_,_,_,rfl⟩);unfold keptV at HC;clear x0 x1 x2 hk hue hxx;by_cases hv:ver=x
   ·rw[if_pos hv]at hstep
    rw[decide_eq_true hv.symm]at HC;have HF:=hid hstep;clear hstep hv;go_wp2_with fail
    refine Calls.mono HC.out ?_;rintro e w2 ⟨rfl,hb2⟩;have HB2:=hid (HB.out.trans (hb2.mono HB.out.size));clear hb2;go_wp2;go_ret;exact⟨by rw[←HF.out];rfl,HB2.out⟩
   rw[if_neg hv]at hstep;rw[decide_eq_false (fun h=>hv h.symm)]at HC;have HF:=hid hstep;clear hstep hv;go_wp2_with fail
   refine Calls.mono HC.out ?_;rintro e w2 ⟨rfl,hb2⟩;have HB2:=hid (HB.out.trans (hb2.mono HB.out.size));clear hb2;go_wp2;go_roundw
   case rel=>exact⟨i+1,by omega,by go_num,HB2,HF⟩
   case measure=>simp only[intOf];omega
  have hie:m=i:=by omega
  subst hie;have hst:=HS.out;rw[Nat.sub_self]at hst;have HFin:Hid ((-1:Int)=ans):=hst;clear hst;go_wp2;go_ret;exact⟨by rw[←HFin.out];rfl,HB.out⟩
theorem peFind(th:Bool)(room:Int)(v:Value)(m:Nat)(UV:Nat→Value)(t:Kt)(ver:Int)(w:World)(h:KeSl w w.heap.size v m UV t):
 Calls Tryz.prog 34 #[peerV th room v,.int .i64 ver] w fun e w'=>e=.returned (.int .i64 (fstAt t.V ver m 0))∧Below w.heap.size w w':=by
 have hb:=((Below.refl w.heap.size w).alloc (Nat.le_refl _) (.cells #[.bool th,.int .i64 room,v] 41)).alloc (by simp) (.cells #[.int .i64 ver] 3)
 have k2:=heap_two_new w (.cells #[.bool th,.int .i64 room,v] 41) (.cells #[.int .i64 ver] 3)
 have HI:=hid (peIndex (w.heap.size+1) ver v m UV t _ (h.up hb) (cell_at k2 rfl))
 have HB:=hid hb
 obtain⟨ad,cap,rfl,_,_⟩:=h
 clear hb k2
 generalize fstAt t.V ver m 0=ans at *
 have hmf:∀(fn:Fn) (first cap:Array Value) (w:World),(Instr.makeFunc fn first cap).run Tryz.prog w=.ok (.func fn first cap) w:=fun _ _ _ _=>rfl
 unfold peerV
 go_enter Tryz.func34,Tryz.ntmps34
 go_wp2_with fail
 refine Calls.mono HI.out ?_
 rintro e w2 ⟨rfl,hb2⟩
 have HB2:=hid (HB.out.trans (hb2.mono HB.out.size))
 clear hb2
 go_wp2
 go_ret
 exact⟨rfl,HB2.out⟩
theorem kel_nil(w:World)(B:Nat)(UV:Nat→Value)(t:Kt):KeSl w B (.slice none 0 0) 0 UV t:=⟨none,0,rfl,⟨Nat.le_refl _,by omega⟩,Or.inl rfl⟩
def cmpZ(a c:Int):Int:=if a<c then -1 else if c<a then 1 else 0
def GrO(w u:World):Prop:=∃q os,u=grow (w.drewN q) os
theorem GrO.refl(w:World):GrO w w:=⟨0,#[],by rw[grow_empty];rfl⟩
theorem GrO.alloc{w u:World}(h:GrO w u)(o:Obj):GrO w (u.alloc o):=by
 obtain⟨q,os,rfl⟩:=h;exact⟨q,os ++ #[o],by rw[alloc_eq_grow,grow_grow]⟩
theorem GrO.drew{w u:World}(h:GrO w u):GrO w u.drew:=by
 obtain⟨q,os,rfl⟩:=h;exact⟨q+1,os,rfl⟩
theorem GrO.below{w u:World}(h:GrO w u):Below w.heap.size w u:=by
 obtain⟨q,os,rfl⟩:=h;refine⟨rfl,rfl,rfl,by simp[grow],fun k hk=>?_⟩;show(w.heap++os)[k]?=w.heap[k]?;rw[Array.getElem?_append_left hk]
theorem isNaN_int(x:Int)(w:World):Calls Tryz.prog 172 #[.int .i64 x] w fun e w'=>e=.returned (.bool false)∧w'=w:=by
 have hx:(x != x)=false:=by simp
 go_enter Tryz.func172,Tryz.ntmps172;go_wp2;go_ret;exact⟨by first|rfl|rw[hx],rfl⟩
theorem compare_int(x y:Int)(w:World):Calls Tryz.prog 153 #[.int .i64 x,.int .i64 y] w fun e w'=>e=.returned (.int .i64 (cmpZ x y))∧w'=w:=by
 unfold cmpZ;by_cases h1:x<y
 ·rw[if_pos h1]
  go_enter Tryz.func153,Tryz.ntmps153;go_wp2_with(go_at_call 172;go_must(refine(isNaN_int _ _).mono ?_;rintro e w1 ⟨rfl,hw1⟩;subst w1))
  go_ret;exact⟨rfl,rfl⟩
 rw[if_neg h1];by_cases h2:y<x
 ·rw[if_pos h2]
  go_enter Tryz.func153,Tryz.ntmps153;go_wp2_with(go_at_call 172;go_must(refine(isNaN_int _ _).mono ?_;rintro e w1 ⟨rfl,hw1⟩;subst w1))
  go_ret;exact⟨rfl,rfl⟩
 rw[if_neg h2];go_enter Tryz.func153,Tryz.ntmps153;go_wp2_with(go_at_call 172;go_must(refine(isNaN_int _ _).mono ?_;rintro e w1 ⟨rfl,hw1⟩;subst w1))
 go_ret;exact⟨rfl,rfl⟩
theorem plLeft(th:Bool)(room:Int)(a:Option Addr)(m c:Nat)(w:World)(h1:0≤room∧room≤20)(h2:(m:Int)≤room):
 Calls Tryz.prog 150 #[peerV th room (.slice a m c)] w fun e w'=>e=.returned (.int .i64 (room-m))∧w'=w.alloc (.cells #[.bool th,.int .i64 room,.slice a m c] 41):=by
 unfold peerV
 go_enter Tryz.func150,Tryz.ntmps150
 go_wp2
 go_ret
 exact⟨rfl,rfl⟩
theorem plComp(bx:Nat)(a:Option Addr)(c:Nat)(np:Nat)(KV:Nat→Value)(UV:Nat→Nat→Value)(P:Ps)(i j:Nat)(hi:i<np)(hj:j<np)(hr:∀k,k<np→(0≤P.rm k∧P.rm k≤20)∧(P.m k:Int)≤P.rm k)(w:World)
 (hl:PsSl w w.heap.size (.slice a np c) np KV UV P) (hx:w.cell? ⟨bx,0,none⟩=some (.slice a np c)) :
 Calls Tryz.prog 152 #[.int .i64 (i:Int),.int .i64 (j:Int),.pointer (some ⟨bx,0,none⟩)] w fun e w'=>e=.returned (.int .i64 (cmpZ (leftK P j) (leftK P i)))∧GrO w w':=by
 obtain⟨bl,off,rfl,hbl,g0,g1,g2,g3⟩:=hl.at hi
 obtain⟨bl',off',he,_,f0,f1,f2,f3⟩:=hl.at hj
 injection he with he
 injection he with he1 he2 _
 subst he1 he2
 obtain⟨ai,ci,hki,_,_⟩:=g3
 obtain⟨aj,cj,hkj,_,_⟩:=f3
 obtain⟨_,_,_,⟨hcl,hbig⟩,_⟩:=hl
 have hri:=hr i hi
 have hrj:=hr j hj
 rw[hki]at g2
 rw[hkj]at f2
 have hne:Nonempty (Of (GrO w)):=⟨⟨w,GrO.refl w⟩⟩
 have F0:∀u:Of (GrO w),u.val.cell? ⟨bx,0,none⟩=some (.slice (some ⟨bl,off,none⟩) np c):=fun u=>by rw[u.is.below.cell (cell_lt hx)];exact hx
 have F1:∀u:Of (GrO w),u.val.cell? ⟨bl,off+i*3,none⟩=some (.bool (P.th i)):=fun u=>by rw[u.is.below.cell hbl];exact g0
 have F2:∀u:Of (GrO w),u.val.cell? ⟨bl,off+i*3+1,none⟩=some (.int .i64 (P.rm i)):=fun u=>by rw[u.is.below.cell hbl];exact g1
 have F3:∀u:Of (GrO w),u.val.cell? ⟨bl,off+i*3+2,none⟩=some (.slice ai (P.m i) ci):=fun u=>by rw[u.is.below.cell hbl];exact g2
 have F4:∀u:Of (GrO w),u.val.cell? ⟨bl,off+j*3,none⟩=some (.bool (P.th j)):=fun u=>by rw[u.is.below.cell hbl];exact f0
 have F5:∀u:Of (GrO w),u.val.cell? ⟨bl,off+j*3+1,none⟩=some (.int .i64 (P.rm j)):=fun u=>by rw[u.is.below.cell hbl];exact f1
 have F6:∀u:Of (GrO w),u.val.cell? ⟨bl,off+j*3+2,none⟩=some (.slice aj (P.m j) cj):=fun u=>by rw[u.is.below.cell hbl];exact f2
 have hii:(i:Int)<(np:Int):=by omega
 have hjj:(j:Int)<(np:Int):=by omega
 have C1:Hid (∀u,_):=fun u=>plLeft (P.th j) (P.rm j) aj (P.m j) cj u hrj.1 hrj.2
 have C2:Hid (∀u,_):=fun u=>plLeft (P.th i) (P.rm i) ai (P.m i) ci u hri.1 hri.2
 have C3:Hid (∀u,_):=fun u=>compare_int (P.rm j-P.m j) (P.rm i-P.m i) u
 unfold peerV at C1 C2
 clear g0 g1 g2 f0 f1 f2 hki hkj hx hr
 unfold leftK
 obtain⟨ans,hans⟩:∃x,cmpZ (P.rm j-P.m j) (P.rm i-P.m i)=x:=⟨_,rfl⟩
 rw[hans]
 rw[hans]at C3
 clear hans
 go_enter Tryz.func152,Tryz.ntmps152
 go_wp2_with fail
 have HD1:Hid (GrO w w.drew):=(GrO.refl w).drew
 refine region_mixed (GrO w) [([0,1,2,3,5,6,7,8],4),([],9),([],10)] [11] (by kernel_rfl) (by kernel_rfl) HD1.out ?_
 refine mixO_cons ?_
 repeat(go_big_quiet_step (fail))
 refine wpQuiet_nil ?_
 intro K hK
 go_wp2_with fail
 refine Calls.mono (C1.out _) ?_
 rintro e w5 ⟨rfl,hw5⟩
 have H5:Hid (GrO w w5):=by show GrO w w5;rw[hw5];exact HD1.out.alloc _
 clear hw5
 go_wp2
 refine⟨rfl,hK _ _ H5.out ?_⟩
 clear hK K
 refine mixO_cons (lq:=[]) ?_ rfl
 refine wpQuiet_nil ?_
 intro K hK
 go_wp2_with fail
 refine Calls.mono (C2.out _) ?_
 rintro e w6 ⟨rfl,hw6⟩
 have H6:Hid (GrO w w6):=by show GrO w w6;rw[hw6];exact H5.out.alloc _
 clear hw6
 go_wp2
 refine⟨rfl,hK _ _ H6.out ?_⟩
 clear hK K
 refine mixO_cons (lq:=[]) ?_ rfl
 refine wpQuiet_nil ?_
 intro K hK
 go_wp2_with fail
 refine Calls.mono (C3.out _) ?_
 rintro e w7 ⟨rfl,hw7⟩
 subst w7
 go_wp2
 refine⟨rfl,hK _ _ H6.out ?_⟩
 clear hK K
 refine mixO_nil ?_
 repeat(go_big_quiet_step (fail))
 refine wpQuiet_nil ?_
 clear F0 F1 F2 F3 F4 F5 F6 hne
 go_wp2
 go_ret
 exact⟨rfl,H6.out⟩
section
section
variable {α : Type} [Inhabited α] (key : α → Nat) (lt ltX : α → α → Bool)
theorem insInner_agree(hag:∀x y,key y<key x→lt x y=ltX x y):∀(j:Nat) (d:Array α),j<d.size→(∀k,k<j→key d[k]! < key d[j]!)→insInner lt 0 j d=insInner ltX 0 j d:=by
 intro j;induction j with
 |zero=>intro d _ _;rfl
 |succ j ih =>
  intro d hj hk;have e:=hag d[j+1]! d[j]! (hk j (by omega));unfold insInner;rw[e];by_cases c:(decide (j+1>0)&&ltX d[j+1]! d[j]!)=true
  ·rw[if_pos c,if_pos c]
   refine ih _ (by rw[size_swp];omega) fun k hkj=>?_;rw[swp_right d (j+1) j (by omega),swp_other d (j+1) j k (by omega) (by omega)];exact hk k (by omega)
  rw[if_neg c,if_neg c]
theorem insInner_keeps(c i:Nat):∀(j:Nat) (d:Array α),j≤i→i<d.size→(∀k,k≤i→key d[k]! ≤ c) →
 (insInner ltX 0 j d).size=d.size∧(∀k,k≤i→key (insInner ltX 0 j d)[k]! ≤ c)∧∀m,i<m→(insInner ltX 0 j d)[m]! = d[m]! := by
 intro j
 induction j with
 |zero=>intro d _ _ h;exact⟨rfl,h,fun _ _=>rfl⟩
 |succ j ih =>
  intro d hj hi h;unfold insInner;by_cases c1:(decide (j+1>0)&&ltX d[j+1]! d[j]!)=true
  ·rw[if_pos c1]
   have h2:∀k,k≤i→key (swp d (j+1) j)[k]! ≤ c:=fun k hk=>by
    by_cases e1:k=j+1;·subst e1;rw[swp_left d (j+1) j (by omega) (by omega)];exact h j (by omega)
    by_cases e2:k=j;·subst e2;rw[swp_right d (k+1) k (by omega)];exact h (k+1) (by omega)
    rw[swp_other d (j+1) j k e1 e2];exact h k hk
   obtain⟨g1,g2,g3⟩:=ih (swp d (j+1) j) (by omega) (by rw[size_swp];exact hi) h2;refine⟨by rw[g1,size_swp],g2,fun m hm=>?_⟩;rw[g3 m hm,swp_other d (j+1) j m (by omega) (by omega)]
  rw[if_neg c1];exact⟨rfl,h,fun _ _=>rfl⟩
theorem insOuter_go'(a b i:Nat)(d:Array α)(h:i<b):insOuter lt a b i d=insOuter lt a b (i+1) (insInner lt a i d):=by rw[insOuter,if_pos h]
theorem insOuter_stop'(a b i:Nat)(d:Array α)(h:¬i<b):insOuter lt a b i d=d:=by rw[insOuter,if_neg h]
theorem insOuter_agree(hag:∀x y,key y<key x→lt x y=ltX x y)(d0:Array α)(hr:∀i j,i<j→j<d0.size→key d0[i]! < key d0[j]!):
 ∀(f i:Nat) (d:Array α),d0.size-i≤f→1≤i→d.size=d0.size→(∀k,k<i→i<d0.size→key d[k]! < key d0[i]!)→(∀m,i≤m→d[m]! = d0[m]!)→insOuter lt 0 d0.size i d=insOuter ltX 0 d0.size i d:=by
 intro f
 induction f with
 |zero =>
  intro i d hf h1 hs hk hm;rw[insOuter_stop' lt _ _ _ _ (by omega),insOuter_stop' ltX _ _ _ _ (by omega)]
 |succ f ih =>
  intro i d hf h1 hs hk hm;by_cases hi:i<d0.size
  ·rw[insOuter_go' lt _ _ _ _ hi,insOuter_go' ltX _ _ _ _ hi]
   have hki:∀k,k<i→key d[k]! < key d[i]! := fun k h=>by rw[hm i (Nat.le_refl _)];exact hk k h hi
   rw[insInner_agree key lt ltX hag i d (by omega) hki];have hc:∀k,k≤i→key d[k]! ≤ key d0[i]! := fun k h=>by
    by_cases e:k=i;·subst e;rw[hm k (Nat.le_refl _)];exact Nat.le_refl _
    exact Nat.le_of_lt (hk k (by omega) hi)
   obtain⟨g1,g2,g3⟩:=insInner_keeps key ltX (key d0[i]!) i i d (Nat.le_refl _) (by omega) hc;refine ih (i+1) _ (by omega) (by omega) (by rw[g1,hs]) (fun k h h2=>?_) (fun m h=>?_)
   ·have:=g2 k (by omega)
    have:=hr i (i+1) (by omega) h2;omega
   rw[g3 m (by omega),hm m (by omega)]
  rw[insOuter_stop' lt _ _ _ _ hi,insOuter_stop' ltX _ _ _ _ hi]
theorem insertionSort_stable(hag:∀x y,key y<key x→lt x y=ltX x y)(hS:SWO ltX)(d:Array α)(hr:∀i j,i<j→j<d.size→key d[i]! < key d[j]!):
 PermIn 0 d.size d (insertionSort lt d 0 d.size)∧SortedIn ltX 0 d.size (insertionSort lt d 0 d.size):=by
 have e:insertionSort lt d 0 d.size=insertionSort ltX d 0 d.size:=by
  unfold insertionSort;refine insOuter_agree key lt ltX hag d hr d.size 1 d (by omega) (Nat.le_refl _) rfl (fun k hk h=>hr k 1 (by omega) h) (fun _ _=>rfl)
 rw[e]
 exact insertionSort_holds hS d 0 d.size (Nat.zero_le _) (Nat.le_refl _)
end
end
end Go.Proofs.YtajmnlhfnhbleaaGreat
namespace Go.Proofs
open Go.Shelf
set_option linter.unusedVariables false
def Tryz.insInts_ren:Go.Shelf.Ren:=⟨fun|20=>190|n=>n,fun|24=>3|22=>28|3=>3|25=>43|4=>4|0=>0|n=>n,fun|n=>n⟩
theorem Tryz.insInts:Go.Proofs.SlLaysF.n20 Tryz.prog Tryz.insInts_ren:={
 mixed:=by kernel_rfl
 f20:=⟨Tryz.f190.name,by decide,Tryz.func190.trans (congrArg some (by kernel_rfl))⟩
 t0:=Tryz.underlying0
 a0:=Tryz.isAgg0
 z0:=Tryz.sizeOf0
 v0:=Tryz.zeroValue0
 t3:=Tryz.underlying3
 a3:=Tryz.isAgg3
 z3:=Tryz.sizeOf3
 v3:=Tryz.zeroValue3
 t4:=Tryz.underlying4
 a4:=Tryz.isAgg4
 z4:=Tryz.sizeOf4
 v4:=Tryz.zeroValue4
 t22:=Tryz.underlying28
 a22:=Tryz.isAgg28
 z22:=Tryz.sizeOf28
 v22:=Tryz.zeroValue28
 a24:=Tryz.isAgg3
 z24:=Tryz.sizeOf3
 t25:=Tryz.underlying43
 a25:=Tryz.isAgg43
 z25:=Tryz.sizeOf43
 v25:=Tryz.zeroValue43 }
end Go.Proofs
