/- Several texts of one proof, in their order. -/
import Derived.Test.YtajmnlhfnhbleaaGreatKw11
namespace Go.Proofs.YtajmnlhfnhbleaaGreat
open Go.RowKit CurveMath
set_option linter.unusedVariables false
structure Hp where
 kd:Int
 N:Int
 M:Int
 len:Nat
 D:Nat→Int
 lp:Nat
 X:Nat→Int
 need:Int
 of:Int
structure Ms where
 n:Nat
 b:Bk
 np:Nat
 P:Ps
def msE(m:Ms):Int:=peersE m.n m.b m.np m.P
def forgP(P:Ps)(ver:Int):Ps:=⟨P.th,P.rm,fun k=>if P.th k=true then(butL (P.t k) ver (P.m k)).length else P.m k,fun k=>if P.th k=true then selT (P.t k) (butL (P.t k) ver (P.m k))else P.t k⟩
def forgE(n:Nat)(b:Bk)(np:Nat)(P:Ps)(v:Int):Int:=if verM n b np P v=0 then(if v∈headsL b n n then 0 else 6)else verM n b np P v
def putT(P:Ps)(k m:Nat)(t:Kt):Ps:=⟨P.th,P.rm,fun j=>if j=k then m else P.m j,fun j=>if j=k then t else P.t j⟩
def putB(P:Ps)(k:Nat)(v:Bool):Ps:=⟨fun j=>if j=k then v else P.th j,P.rm,P.m,P.t⟩
def lonE(m:Ms)(x:Hp):Int :=
 if x.N<0∨(m.np:Int)≤x.N then 4 else
 if x.kd=2 then(if m.P.th x.N.toNat=true then 0 else 6)else
 if x.kd=3 then(if m.P.th x.N.toNat=true then 6 else 0)else
 if x.kd=4 then 0 else(if x.M<0∨((m.P.m x.N.toNat:Nat):Int)≤x.M then 4 else 0)
def lonP(m:Ms)(x:Hp):Ps :=
 if x.kd=2 then putB m.P x.N.toNat false else
 if x.kd=3 then putB m.P x.N.toNat true else
 if x.kd=4 then putT m.P x.N.toNat 0 (m.P.t x.N.toNat)else putT m.P x.N.toNat (m.P.m x.N.toNat) (benT (m.P.t x.N.toNat) x.M.toNat 1)
def happE(m:Ms)(x:Hp):Int :=
 if x.kd=1 then saveE m.n m.b m.np m.P x.need x.of x.len x.D x.lp x.X else
 if x.kd=6 then mendE m.n m.b m.np m.P x.N else
 if x.kd=7 then forgE m.n m.b m.np m.P x.N else
 if 2≤x.kd∧x.kd≤5 then lonE m x else 3
def happM(m:Ms)(x:Hp):Ms :=
 if x.kd=1 then⟨m.n+1,saveB m.n m.b x.need x.of x.len x.lp x.X,m.np,saveP m.n m.np m.P x.need x.of x.len x.D⟩else
 if x.kd=6 then⟨m.n,m.b,m.np,mendP m.b m.np m.P x.N⟩else
 if x.kd=7 then⟨m.n,m.b,m.np,forgP m.P x.N⟩else⟨m.n,m.b,m.np,lonP m x⟩
def doE(m:Ms)(x:Hp):Int:=if msE m=0 then happE m x else msE m
def stepM(m:Ms)(x:Hp):Ms:=if happE m x=0 then happM m x else m
def runM(m:Ms)(l:List Hp):Ms:=l.foldl stepM m
def runS:Ms→List Hp→List Int
 |_,[]=>[]
 |m,x::l=>happE m x::runS (stepM m x) l
def runE(m:Ms)(len:Nat):Int:=if msE m=0 then(if len≤100 then 0 else 1)else msE m
theorem runM_parts(m:Ms)(l k:List Hp):runM m (l++k)=runM (runM m l) k:=List.foldl_append
theorem runS_parts(l:List Hp):∀(m:Ms) (k:List Hp),runS m (l++k)=runS m l++runS (runM m l) k:=by
 induction l with
 |nil=>intro m k;rfl
 |cons x l ih=>intro m k;simp only[List.cons_append,runS,ih];rfl
theorem runS_len(l:List Hp):∀m:Ms,(runS m l).length=l.length:=by
 induction l with
 |nil=>intro m;rfl
 |cons x l ih=>intro m;simp only[runS,List.length_cons,ih]
theorem ms_right{m:Ms}(h:msE m=0):MeshR m.n m.b m.np m.P:=meshR_of h
theorem MeshR.forg{n:Nat}{b:Bk}{np:Nat}{P:Ps}(h:MeshR n b np P)(v:Int):MeshR n b np (forgP P v):=by
 refine⟨h.book,h.few,fun k hk=>?_⟩;simp only[forgP];by_cases c:P.th k=true;·rw[if_pos c,if_pos c];exact(h.peer k hk).but v
 rw[if_neg c,if_neg c];exact h.peer k hk
theorem MeshR.putB{n:Nat}{b:Bk}{np:Nat}{P:Ps}(h:MeshR n b np P)(k:Nat)(v:Bool):MeshR n b np (putB P k v):=⟨h.book,h.few,h.peer⟩
theorem MeshR.putT{n:Nat}{b:Bk}{np:Nat}{P:Ps}(h:MeshR n b np P){k m:Nat}{t:Kt}(hp:PeerR n b (P.rm k) m t):MeshR n b np (putT P k m t):=by
 refine⟨h.book,h.few,fun j hj=>?_⟩;by_cases e:j=k
 ·subst e
  simp only[Go.Proofs.YtajmnlhfnhbleaaGreat.putT,if_true];exact hp
 simp only[Go.Proofs.YtajmnlhfnhbleaaGreat.putT,if_neg e];exact h.peer j hj
theorem PeerR.none{n:Nat}{b:Bk}{room:Int}{m:Nat}{t:Kt}(h:PeerR n b room m t):PeerR n b room 0 t :=
 ⟨h.book,h.room_,by have:=h.room_;omega,fun j hj=>absurd hj (Nat.not_lt_zero _),fun i j _ hj=>absurd hj (Nat.not_lt_zero _)⟩
theorem ben_X(t:Kt)(i:Nat)(c:Int)(j r:Nat):(benT t i c).X j r=if j=i∧r=0 then(t.X i 0+c)%31 else t.X j r:=by
 simp only[benT];by_cases h:j=i
 ·subst h
  rw[if_pos rfl];by_cases hr:r=0;·rw[if_pos hr,if_pos ⟨rfl,hr⟩]
  rw[if_neg hr,if_neg (fun q=>hr q.2)]
 rw[if_neg h,if_neg (fun q=>h q.1)]
theorem PeerR.ben{n:Nat}{b:Bk}{room:Int}{m:Nat}{t:Kt}(h:PeerR n b room m t)(i:Nat)(c:Int):PeerR n b room m (benT t i c):=by
 refine⟨h.book,h.room_,h.few,fun j hj=>?_,h.rise⟩;obtain⟨h1,h2⟩:=h.right j hj;refine⟨h1,?_⟩;unfold oneK at h2 ⊢;obtain⟨g1,g2,g3,g4⟩:=oneE_ok h2;refine oneE_mk g1 g2 g3 fun r hr=>?_;have h5:=of_decide_eq_true g4 r hr;unfold isNum at h5;rw[decide_eq_true_iff]at h5;rw[ben_X];by_cases hc:j=i∧r=0;·rw[if_pos hc];omega
 rw[if_neg hc];exact h5
theorem lon_ok{m:Ms}{x:Hp}(h:lonE m x=0):0≤x.N∧x.N.toNat<m.np∧(x.kd=2→m.P.th x.N.toNat=true)∧(x.kd=3→m.P.th x.N.toNat=false)∧(x.kd≠2→x.kd≠3→x.kd≠4→0≤x.M∧x.M.toNat<m.P.m x.N.toNat):=by
 unfold lonE at h;by_cases h1:x.N<0∨(m.np:Int)≤x.N;·rw[if_pos h1]at h;omega
 rw[if_neg h1]at h;refine⟨by omega,by omega,fun e=>?_,fun e=>?_,fun e2 e3 e4=>?_⟩
 ·rw[if_pos e]at h
  by_cases c:m.P.th x.N.toNat=true;·exact c
  rw[if_neg c]at h;omega
 ·rw[if_neg (by omega),if_pos e]at h
  by_cases c:m.P.th x.N.toNat=true;·rw[if_pos c]at h;omega
  simpa using c
 rw[if_neg e2,if_neg e3,if_neg e4]at h;by_cases c:x.M<0∨((m.P.m x.N.toNat:Nat):Int)≤x.M;·rw[if_pos c]at h;omega
 omega
theorem MeshR.lon{m:Ms}(h:MeshR m.n m.b m.np m.P){x:Hp}(hx:lonE m x=0):MeshR m.n m.b m.np (lonP m x):=by
 obtain⟨_,h1,_⟩:=lon_ok hx;unfold lonP;by_cases c2:x.kd=2;·rw[if_pos c2];exact h.putB _ _
 rw[if_neg c2];by_cases c3:x.kd=3;·rw[if_pos c3];exact h.putB _ _
 rw[if_neg c3];by_cases c4:x.kd=4;·rw[if_pos c4];exact h.putT (h.peer _ h1).none
 rw[if_neg c4];exact h.putT ((h.peer _ h1).ben _ _)
theorem happ_right{m:Ms}{x:Hp}(hm:msE m=0)(h:happE m x=0):msE (happM m x)=0:=by
 unfold happE at h;unfold happM;have hR:=ms_right hm;by_cases c1:x.kd=1;·rw[if_pos c1]at h ⊢;exact(saveE_ok h).right.e
 rw[if_neg c1]at h ⊢;by_cases c6:x.kd=6;·rw[if_pos c6]at h ⊢;exact(mend_ok h).2.right.e
 rw[if_neg c6]at h ⊢;by_cases c7:x.kd=7;·rw[if_pos c7]at h ⊢;exact(hR.forg _).e
 rw[if_neg c7]at h ⊢;by_cases c:2≤x.kd∧x.kd≤5;·rw[if_pos c]at h;exact(hR.lon h).e
 rw[if_neg c]at h;omega
theorem step_right{m:Ms}{x:Hp}(hm:msE m=0):msE (stepM m x)=0:=by
 unfold stepM;by_cases c:happE m x=0;·rw[if_pos c];exact happ_right hm c
 rw[if_neg c];exact hm
theorem run_right(l:List Hp):∀ {m:Ms},msE m=0→msE (runM m l)=0:=by
 induction l with
 |nil=>intro m h;exact h
 |cons x l ih=>intro m h;exact ih (step_right h)
theorem happ_np(m:Ms)(x:Hp):(happM m x).np=m.np:=by
 unfold happM;by_cases c1:x.kd=1;·rw[if_pos c1]
 rw[if_neg c1];by_cases c6:x.kd=6;·rw[if_pos c6]
 rw[if_neg c6];by_cases c7:x.kd=7;·rw[if_pos c7]
 rw[if_neg c7]
theorem happ_n(m:Ms)(x:Hp):(happM m x).n=if x.kd=1 then m.n+1 else m.n:=by
 unfold happM;by_cases c1:x.kd=1;·rw[if_pos c1,if_pos c1]
 rw[if_neg c1,if_neg c1];by_cases c6:x.kd=6;·rw[if_pos c6]
 rw[if_neg c6];by_cases c7:x.kd=7;·rw[if_pos c7]
 rw[if_neg c7]
theorem bookB_of{n:Nat}{b c:Bk}(h:∀k,k<n→b.PL k=c.PL k∧b.PX k=c.PX k∧b.nd k=c.nd k∧b.of k=c.of k∧b.sz k=c.sz k):bookB n n b c=true:=by
 have h2:∀f k,k+f≤n→restB b c f k=true:=by
  intro f;induction f with
  |zero=>intro k _;rfl
  |succ f ih =>
   intro k hk;obtain⟨h1,h2,h3,h4,h5⟩:=h k (by omega);simp only[restB,ih (k+1) (by omega),Bool.and_true];unfold verB eqB;simp[h1,h2,h3,h4,h5]
 unfold bookB;rw[h2 n 0 (by omega)];simp
theorem happ_book(m:Ms)(x:Hp):bookB m.n m.n (happM m x).b m.b=true:=by
 refine bookB_of fun k hk=>?_;unfold happM;by_cases c1:x.kd=1
 ·rw[if_pos c1]
  have hne:k≠m.n:=by omega
  simp only[saveB,snocB,if_neg hne];exact⟨trivial,trivial,trivial,trivial,trivial⟩
 rw[if_neg c1];by_cases c6:x.kd=6;·rw[if_pos c6];exact⟨rfl,rfl,rfl,rfl,rfl⟩
 rw[if_neg c6];by_cases c7:x.kd=7;·rw[if_pos c7];exact⟨rfl,rfl,rfl,rfl,rfl⟩
 rw[if_neg c7];exact⟨rfl,rfl,rfl,rfl,rfl⟩
theorem happ_peer{m:Ms}{x:Hp}(hm:msE m=0)(h:happE m x=0){k:Nat}(hk:k<m.np)(hc:((2≤x.kd∧x.kd≤5)∧(k:Int)≠x.N)∨(¬(2≤x.kd∧x.kd≤5)∧m.P.th k=false)):
 (happM m x).P.th k=m.P.th k∧(happM m x).P.rm k=m.P.rm k∧(happM m x).P.m k=m.P.m k∧(happM m x).P.t k=m.P.t k:=by
 unfold happE at h
 unfold happM
 by_cases c1:x.kd=1
 ·rw[if_pos c1]at h ⊢
  rcases hc with⟨⟨g,_⟩,_⟩|⟨_,ht⟩;·omega
  have hs:=saveE_ok h;have hg:¬0≤gvn m.n m.np m.P x.of k:=fun hg=>by
   have:=((save_has hs hk).2 hg).2;rw[ht]at this;cases this
  have hg':¬0≤fstAt (forA m.P (m.n:Int) m.np x.of.toNat) (k:Int) x.of.toNat 0:=hg;refine⟨rfl,rfl,save_not hg,?_⟩;simp only[saveP,giveP];rw[if_neg hg']
 ·rw[if_neg c1]at h ⊢
  by_cases c6:x.kd=6
  ·rw[if_pos c6]at h ⊢
   rcases hc with⟨⟨_,g⟩,_⟩|⟨_,ht⟩;·omega
   obtain⟨e1,e2⟩:=(mend_ok h).2.away hk ht;exact⟨rfl,rfl,e1,e2⟩
  rw[if_neg c6]at h ⊢;by_cases c7:x.kd=7
  ·rw[if_pos c7]at h ⊢
   rcases hc with⟨⟨_,g⟩,_⟩|⟨_,ht⟩;·omega
   have hf:¬m.P.th k=true:=by rw[ht];decide
   simp only[forgP];rw[if_neg hf,if_neg hf];exact⟨trivial,trivial,rfl,rfl⟩
  rw[if_neg c7]at h ⊢;by_cases c:2≤x.kd∧x.kd≤5
  ·rw[if_pos c]at h
   rcases hc with⟨_,hne⟩|⟨hn,_⟩
   ·obtain⟨h0,_⟩:=lon_ok h
    have e:k≠x.N.toNat:=by omega
    unfold lonP;by_cases c2:x.kd=2;·rw[if_pos c2];simp[putB,e]
    rw[if_neg c2];by_cases c3:x.kd=3;·rw[if_pos c3];simp[putB,e]
    rw[if_neg c3];by_cases c4:x.kd=4;·rw[if_pos c4];simp[putT,e]
    rw[if_neg c4];simp[putT,e]
   exact absurd c hn
  rw[if_neg c]at h;omega
theorem restP_not{P Q:Ps}:∀f k j,k≤j→j<k+f→prB P Q j=false→restP P Q f k=false:=by
 intro f;induction f with
 |zero=>intro k j h1 h2;omega
 |succ f ih =>
  intro k j h1 h2 h;simp only[restP];by_cases e:j=k;·subst e;rw[h,Bool.false_and]
  rw[ih (k+1) j (by omega) (by omega) h,Bool.and_false]
theorem restK_not{t u:Kt}:∀f k j,k≤j→j<k+f→verK t u j=false→restK t u f k=false:=by
 intro f;induction f with
 |zero=>intro k j h1 h2;omega
 |succ f ih =>
  intro k j h1 h2 h;simp only[restK];by_cases e:j=k;·subst e;rw[h,Bool.false_and]
  rw[ih (k+1) j (by omega) (by omega) h,Bool.and_false]
theorem peersB_not{np:Nat}{P Q:Ps}{j:Nat}(hj:j<np)(h:prB P Q j=false):peersB np np P Q=false:=by
 unfold peersB;rw[restP_not np 0 j (Nat.zero_le _) (by omega) h,Bool.and_false]
theorem peersB_of{np:Nat}{P Q:Ps}(h:∀k,k<np→prB P Q k=true):peersB np np P Q=true:=by
 have h2:∀f k,k+f≤np→restP P Q f k=true:=by
  intro f;induction f with
  |zero=>intro k _;rfl
  |succ f ih=>intro k hk;simp only[restP];rw[h k (by omega),ih (k+1) (by omega)];rfl
 unfold peersB;rw[h2 np 0 (by omega)];simp
theorem meshB_not{n np:Nat}{b c:Bk}{P Q:Ps}{j:Nat}(hj:j<np)(h:prB P Q j=false):meshB n n b c np np P Q=false:=by
 unfold meshB;rw[peersB_not hj h,Bool.and_false]
theorem meshB_of{n np:Nat}{b:Bk}{P Q:Ps}(h:∀k,k<np→prB P Q k=true):meshB n n b b np np P Q=true:=by
 unfold meshB;rw[peersB_of h,bookB_of fun k _=>⟨rfl,rfl,rfl,rfl,rfl⟩];rfl
theorem th_not{P Q:Ps}{k:Nat}(h:P.th k≠Q.th k):prB P Q k=false:=by
 unfold prB peerB;have:(P.th k==Q.th k)=false:=by simpa using h
 rw[this,Bool.false_and]
theorem turn_back(P:Ps)(k:Nat)(v:Bool)(h:P.th k=v):putB (putB P k (!v)) k v=P:=by
 unfold putB;have e:(fun j=>if j=k then v else if j=k then !v else P.th j)=P.th:=by
  funext j;by_cases c:j=k;·subst c;rw[if_pos rfl,h]
  rw[if_neg c,if_neg c]
 simp only[e]
def benN(P:Ps)(k i j:Nat):Ps:=putT P k (P.m k) (benT (P.t k) i (j:Int))
theorem benN_m(P:Ps)(k i j:Nat):(benN P k i j).m=P.m:=by
 unfold benN putT;funext q;by_cases c:q=k;·subst c;simp
 simp[c]
theorem benN_at(P:Ps)(k i j:Nat):(benN P k i j).t k=benT (P.t k) i (j:Int):=by
 unfold benN putT;simp
theorem benN_other(P:Ps)(k i j:Nat){q:Nat}(h:q≠k):(benN P k i j).t q=P.t q:=by
 unfold benN putT;simp[h]
theorem benN_succ(P:Ps)(k i j:Nat):putT (benN P k i j) k ((benN P k i j).m k) (benT ((benN P k i j).t k) i 1)=benN P k i (j+1):=by
 rw[benN_at,benN_m];have e:benT (benT (P.t k) i (j:Int)) i 1=benT (P.t k) i ((j+1:Nat):Int):=by
  unfold benT;congr 1;funext q;by_cases c:q=i
  ·subst c
   simp only[if_true];funext r;by_cases hr:r=0
   ·rw[if_pos hr,if_pos hr]
    omega
   rw[if_neg hr,if_neg hr,if_neg hr]
  simp only[if_neg c]
 rw[e];unfold benN putT;simp only;congr 1
 ·funext q
  by_cases c:q=k<;>simp[c]
 funext q;by_cases c:q=k<;>simp[c]
theorem benN_ne{P:Ps}{k i j:Nat}(hi:i<P.m k)(hL:1≤(P.t k).L i):prB (benN P k i j) (benN P k i (j+1)) k=false:=by
 unfold prB peerB keptB;rw[benN_m,benN_m,benN_at,benN_at];have hv:verK (benT (P.t k) i (j:Int)) (benT (P.t k) i ((j+1:Nat):Int)) i=false:=by
  unfold verK sameB eqB;rw[Bool.and_eq_false_iff];right;rw[Bool.and_eq_false_iff];right;rw[decide_eq_false_iff_not];rintro⟨_,h2⟩;have h3:=h2 0 hL;rw[ben_X,ben_X,if_pos ⟨rfl,rfl⟩,if_pos ⟨rfl,rfl⟩]at h3;omega
 rw[restK_not (P.m k) 0 i (Nat.zero_le _) (by omega) hv];simp
theorem benN_back{P:Ps}{k i q:Nat}(hX:0≤(P.t k).X i 0∧(P.t k).X i 0≤30):prB (benN P k i 31) P q=true:=by
 have et:(benN P k i 31).t q=P.t q:=by
  by_cases c:q=k
  ·subst c
   rw[benN_at];unfold benT;have:(fun j=>if j=i then fun r=>if r=0 then((P.t q).X j 0+((31:Nat):Int))%31 else(P.t q).X j r else(P.t q).X j)=(P.t q).X:=by
    funext j;by_cases cj:j=i
    ·subst cj
     rw[if_pos rfl];funext r;by_cases cr:r=0;·subst cr;rw[if_pos rfl];omega
     rw[if_neg cr]
    rw[if_neg cj]
   rw[this]
  exact benN_other P k i 31 c
 unfold prB;rw[et,benN_m];exact peerB_of rfl fun j _=>⟨rfl,rfl,rfl,rfl⟩
def dnX:Nat→Int:=fun i=>[(2:Int),2,2].getD i 0
def dnM:Ms:=⟨0,noB,3,freshP dnX⟩
def dn0:Nat→Int:=fun _=>0
def dnA:Nat→Int:=fun i=>[(1:Int),2].getD i 0
def dnB:Nat→Int:=fun i=>[(3:Int)].getD i 0
def dnC:Nat→Int:=fun i=>[(0:Int)].getD i 0
def dnL:List Hp:=[⟨1,0,0,2,dnA,0,dn0,1,2⟩,⟨2,0,0,0,dn0,0,dn0,0,0⟩,⟨2,0,0,0,dn0,0,dn0,0,0⟩,⟨6,0,0,0,dn0,0,dn0,0,0⟩,⟨3,0,0,0,dn0,0,dn0,0,0⟩,⟨5,2,0,0,dn0,0,dn0,0,0⟩,
 ⟨1,0,0,1,dnB,1,dnC,1,1⟩,⟨7,0,0,0,dn0,0,dn0,0,0⟩,⟨7,1,0,0,dn0,0,dn0,0,0⟩,⟨4,1,0,0,dn0,0,dn0,0,0⟩]
theorem dn_new:newE 3 dnX=0:=by decide +kernel
theorem dn_run:runE dnM 10=0:=by decide +kernel
theorem dn_said:runS dnM dnL=[0,0,6,0,0,0,0,6,0,0]:=by decide +kernel
theorem dn_end:(runM dnM dnL).n=2∧(runM dnM dnL).np=3∧(runM dnM dnL).P.m 1=0∧(runM dnM dnL).P.m 0=1∧1≤(runM dnM dnL).P.m 2∧1≤((runM dnM dnL).P.t 2).L 0∧((runM dnM dnL).P.t 2).X 0 0=2:=by decide +kernel
def NewV(B:Nat)(w:World)(v:Value):Prop:=∀ad n c,v=.slice (some ad) n c→B≤ad.block∧ad.block<w.heap.size∧∀i,w.frozen? ⟨ad.block,i,none⟩=false
theorem NewV.none(B:Nat)(w:World)(n c:Nat):NewV B w (.slice .none n c):=fun ad n' c' e=>by cases e
theorem NewV.up{B:Nat}{w w':World}{v:Value}(h:NewV B w v)(hb:Below w.heap.size w w'):NewV B w' v:=fun ad n c e=>by
 obtain⟨h1,h2,h3⟩:=h ad n c e;exact⟨h1,Nat.lt_of_lt_of_le h2 hb.size,fun i=>by rw[←h3 i];exact World.frozen?_of_block (hb.block _ h2)⟩
theorem NewV.mono{B B':Nat}{w:World}{v:Value}(h:NewV B w v)(hb:B'≤B):NewV B' w v:=fun ad n c e=>⟨Nat.le_trans hb (h ad n c e).1,(h ad n c e).2⟩
theorem frozen_setN{w:World}{a b:Addr}{u:Value}:(w.setCell a u).frozen? b=w.frozen? b:=by
 unfold World.frozen? World.setCell;simp only[Array.getElem?_modify];by_cases h:a.block=b.block
 ·rw[if_pos h]
  cases hb:w.heap[b.block]? with
  |none=>rfl
  |some x=>cases x<;>rfl
 rw[if_neg h]
theorem NewV.set{B:Nat}{w:World}{v:Value}(h:NewV B w v)(a:Addr)(u:Value):NewV B (w.setCell a u) v:=fun ad n c e=>by
 obtain⟨h1,h2,h3⟩:=h ad n c e;exact⟨h1,by simpa[World.setCell]using h2,fun i=>by rw[frozen_setN];exact h3 i⟩
theorem NewV.above{B:Nat}{w:World}{v:Value}(h:NewV B w v):Above B v:=fun ad n c e=>(h ad n c e).1
theorem NewV.grown{B:Nat}{w w':World}{v:Value}{row:Option Nat}(h:NewV B w v)(hg:w.grownBy w' row)(hne:∀ad n c,v=.slice (some ad) n c→some ad.block≠row):NewV B w' v:=fun ad n c e=>by
 obtain⟨h1,h2,h3⟩:=h ad n c e;exact⟨h1,Nat.lt_of_lt_of_le h2 hg.size,fun i=>by rw[←h3 i];exact World.frozen?_of_block (hg.block _ h2 (hne ad n c e))⟩
theorem newV_block{B:Nat}{w:World}{g n c:Nat}{cs:Array Value}{T:TypeId}(h:w.heap[g]?=some (.cells cs T (0,0)))(hB:B≤g):NewV B w (.slice (some ⟨g,0,.none⟩) n c):=fun ad n' c' e=>by
 injection e with e1;injection e1 with e1;subst e1;exact⟨hB,(Array.getElem?_eq_some_iff.1 h).1,fun i=>frozen_at h⟩
theorem owns_new{w:World}{base:Nat}{e:TypeId}{size:Nat}{v:Value}{n:Nat}{xs:List Value}(h:w.ownsRow base e size v n xs):NewV base w v:=by
 rcases h.2 with⟨rfl,_⟩|⟨g,cap,cur,rfl,hg,hh,_⟩;·exact NewV.none base w _ _
 exact newV_block hh hg
section
def OfB(s m:Nat)(v:Value):Prop:=m=0∨∀ad n c,v=.slice (some ad) n c→ad.block≠s
theorem OfB.above{s m:Nat}{v:Value}(h:Above (s+1) v):OfB s m v:=Or.inr fun ad n c e h9=>by
 have:=h ad n c e;omega
theorem OfB.zero{s:Nat}{v:Value}:OfB s 0 v:=Or.inl rfl
theorem offB_isl{w:World}{B s m:Nat}{v:Value}{X:Nat→Int}(h:IntSl w B v m X)(hs:B≤s):OfB s m v:=by
 obtain⟨ad,cap,rfl,_,h2⟩:=h;rcases h2 with h2|⟨b,off,rfl,h4,_⟩;·exact Or.inl h2
 refine Or.inr fun a n c e=>?_;injection e with e1;injection e1 with e1;subst e1;show b≠s;omega
theorem cell_off{w:World}{s o b o':Nat}{u:Value}(h:b≠s):(w.setCell ⟨s,o,none⟩ u).cell? ⟨b,o',none⟩=w.cell? ⟨b,o',none⟩ :=
 World.cell?_setCell_other _ _ _ _ (by intro e;injection e with e1;exact h e1.symm)
section
variable {w w' : World} {B s o : Nat} {v : Value} {u : Value}
theorem IntSl.off{m:Nat}{X:Nat→Int}(h:IntSl w B v m X)(hs:OfB s m v)(u:Value):IntSl (w.setCell ⟨s,o,none⟩ u) B v m X:=by
 obtain⟨ad,cap,rfl,h0,h2⟩:=h;refine⟨ad,cap,rfl,h0,?_⟩;rcases h2 with h2|⟨b,off,rfl,h4,h5⟩;·exact Or.inl h2
 rcases hs with h9|h9;·exact Or.inl h9
 exact Or.inr ⟨b,off,rfl,h4,fun j hj=>by rw[cell_off (show b≠s from h9 _ _ _ rfl)];exact h5 j hj⟩
def VeOff(s:Nat)(vb:Value)(n:Nat)(PV:Nat→Value)(b:Bk):Prop:=OfB s n vb∧∀j,j<n→OfB s (b.PL j) (PV j)
def KeOff(s:Nat)(vk:Value)(m:Nat)(UV:Nat→Value)(t:Kt):Prop:=OfB s m vk∧∀i,i<m→OfB s (t.L i) (UV i)
def PsOff(s:Nat)(vl:Value)(np:Nat)(KV:Nat→Value)(UV:Nat→Nat→Value)(P:Ps):Prop:=OfB s np vl∧∀k,k<np→KeOff s (KV k) (P.m k) (UV k) (P.t k)
theorem VeSl.off{n:Nat}{PV:Nat→Value}{b:Bk}(h:VeSl w B v n PV b)(hs:VeOff s v n PV b)(u:Value):VeSl (w.setCell ⟨s,o,none⟩ u) B v n PV b:=by
 obtain⟨ad,cap,rfl,h0,h2⟩:=h;refine⟨ad,cap,rfl,h0,?_⟩;rcases h2 with h2|⟨bl,off,rfl,h4,h5⟩;·exact Or.inl h2
 rcases hs.1 with h9|h9;·exact Or.inl h9
 have hb:bl≠s:=h9 _ _ _ rfl;refine Or.inr ⟨bl,off,rfl,h4,fun j hj=>?_⟩;obtain⟨x0,x1,x2,x3,x4⟩:=h5 j hj;exact⟨by rw[cell_off hb];exact x0,by rw[cell_off hb];exact x1,by rw[cell_off hb];exact x2,by rw[cell_off hb];exact x3,x4.off (hs.2 j hj) u⟩
theorem KeSl.off{m:Nat}{UV:Nat→Value}{t:Kt}(h:KeSl w B v m UV t)(hs:KeOff s v m UV t)(u:Value):KeSl (w.setCell ⟨s,o,none⟩ u) B v m UV t:=by
 obtain⟨ad,cap,rfl,h0,h2⟩:=h;refine⟨ad,cap,rfl,h0,?_⟩;rcases h2 with h2|⟨bl,off,rfl,h4,h5⟩;·exact Or.inl h2
 rcases hs.1 with h9|h9;·exact Or.inl h9
 have hb:bl≠s:=h9 _ _ _ rfl;refine Or.inr ⟨bl,off,rfl,h4,fun j hj=>?_⟩;obtain⟨x0,x1,x2,x4⟩:=h5 j hj;exact⟨by rw[cell_off hb];exact x0,by rw[cell_off hb];exact x1,by rw[cell_off hb];exact x2,x4.off (hs.2 j hj) u⟩
theorem PsSl.off{np:Nat}{KV:Nat→Value}{UV:Nat→Nat→Value}{P:Ps}(h:PsSl w B v np KV UV P)(hs:PsOff s v np KV UV P)(u:Value):PsSl (w.setCell ⟨s,o,none⟩ u) B v np KV UV P:=by
 obtain⟨ad,cap,rfl,h0,h2⟩:=h;refine⟨ad,cap,rfl,h0,?_⟩;rcases h2 with h2|⟨bl,off,rfl,h4,h5⟩;·exact Or.inl h2
 rcases hs.1 with h9|h9;·exact Or.inl h9
 have hb:bl≠s:=h9 _ _ _ rfl;refine Or.inr ⟨bl,off,rfl,h4,fun j hj=>?_⟩;obtain⟨x0,x1,x2,x4⟩:=h5 j hj;exact⟨by rw[cell_off hb];exact x0,by rw[cell_off hb];exact x1,by rw[cell_off hb];exact x2,x4.off (hs.2 j hj) u⟩
theorem veOff_of{n:Nat}{PV:Nat→Value}{b:Bk}(h:VeSl w B v n PV b)(hs:B≤s):VeOff s v n PV b:=by
 obtain⟨ad,cap,rfl,_,h2⟩:=h;rcases h2 with rfl|⟨bl,off,rfl,h4,h5⟩;·exact⟨Or.inl rfl,fun j hj=>absurd hj (Nat.not_lt_zero _)⟩
 refine⟨Or.inr fun a n' c e=>?_,fun j hj=>offB_isl (h5 j hj).2.2.2.2 hs⟩;injection e with e1;injection e1 with e1;subst e1;show bl≠s;omega
theorem keOff_of{m:Nat}{UV:Nat→Value}{t:Kt}(h:KeSl w B v m UV t)(hs:B≤s):KeOff s v m UV t:=by
 obtain⟨ad,cap,rfl,_,h2⟩:=h;rcases h2 with rfl|⟨bl,off,rfl,h4,h5⟩;·exact⟨Or.inl rfl,fun j hj=>absurd hj (Nat.not_lt_zero _)⟩
 refine⟨Or.inr fun a n' c e=>?_,fun j hj=>offB_isl (h5 j hj).2.2.2 hs⟩;injection e with e1;injection e1 with e1;subst e1;show bl≠s;omega
theorem psOff_of{np:Nat}{KV:Nat→Value}{UV:Nat→Nat→Value}{P:Ps}(h:PsSl w B v np KV UV P)(hs:B≤s):PsOff s v np KV UV P:=by
 obtain⟨ad,cap,rfl,_,h2⟩:=h;rcases h2 with rfl|⟨bl,off,rfl,h4,h5⟩;·exact⟨Or.inl rfl,fun j hj=>absurd hj (Nat.not_lt_zero _)⟩
 refine⟨Or.inr fun a n' c e=>?_,fun j hj=>keOff_of (h5 j hj).2.2.2 hs⟩;injection e with e1;injection e1 with e1;subst e1;show bl≠s;omega
end
end
section
def NewP(B:Nat)(w:World)(vl:Value)(np:Nat)(KV:Nat→Value)(UV:Nat→Nat→Value)(P:Ps):Prop:=NewV B w vl∧∀k,k<np→NewV B w (KV k)∧∀i,i<P.m k→(P.t k).L i=0∨NewV B w (UV k i)
def MeshPostN(w:World)(er:Int)(n:Nat)(b:Bk)(np:Nat)(P:Ps)(e:Ending)(w':World):Prop :=
 Below w.heap.size w w'∧∃(vb vl:Value) (n' np':Nat) (PV KV:Nat→Value) (UV:Nat→Nat→Value),e=.returned (.tuple #[meshV vb vl,.int .i64 er])∧n'=(if er=0 then n else 0)∧np'=(if er=0 then np else 0) ∧
  VeSl w' w'.heap.size vb n' PV b∧PsSl w' w'.heap.size vl np' KV UV P∧NewP w.heap.size w' vl np' KV UV P∧∀s,s<w.heap.size→VeOff s vb n' PV b
theorem MeshPostN.old{w:World}{er:Int}{n:Nat}{b:Bk}{np:Nat}{P:Ps}{e:Ending}{w':World}(h:MeshPostN w er n b np P e w'):MeshPost w er n b np P e w':=by
 obtain⟨h1,vb,vl,n',np',PV,KV,UV,h2,h3,h4,h5,h6,_⟩:=h;exact⟨h1,vb,vl,n',np',PV,KV,UV,h2,h3,h4,h5,h6⟩
theorem NewP.off{B s:Nat}{w:World}{vl:Value}{np:Nat}{KV:Nat→Value}{UV:Nat→Nat→Value}{P:Ps}(h:NewP B w vl np KV UV P)(hs:s<B):PsOff s vl np KV UV P :=
 ⟨OfB.above (h.1.above.mono' hs),fun k hk=>⟨OfB.above ((h.2 k hk).1.above.mono' hs),fun i hi=>by
  rcases(h.2 k hk).2 i hi with h0|h0;·exact Or.inl h0
  exact OfB.above (h0.above.mono' hs)⟩⟩
structure MeshCore:Prop where
 check:∀(vb:Value) (n:Nat) (PV:Nat→Value) (b:Bk) (vl:Value) (np:Nat) (KV:Nat→Value) (UV:Nat→Nat→Value) (P:Ps) (w:World),VeSl w w.heap.size vb n PV b→PsSl w w.heap.size vl np KV UV P →
  Calls Tryz.prog 17 #[meshV vb vl] w fun e w'=>e=.returned (.int .i64 (peersE n b np P))∧Below w.heap.size w w'
 new:∀(vr:Value) (len:Nat) (X:Nat→Int) (w:World),IntSl w w.heap.size vr len X→len≤1048576 →
  Calls Tryz.prog 36 #[vr] w (MeshPostN w (newE len X) 0 noB len (freshP X))
 restore:∀(vb:Value) (n:Nat) (PV:Nat→Value) (b:Bk) (vl:Value) (np:Nat) (KV:Nat→Value) (UV:Nat→Nat→Value) (P:Ps) (k:Int) (w:World),VeSl w w.heap.size vb n PV b→PsSl w w.heap.size vl np KV UV P →
  Calls Tryz.prog 33 #[meshV vb vl,.int .i64 k] w (RestPost w n b np P k)
 save:∀(vb:Value) (n:Nat) (PV:Nat→Value) (b:Bk) (vl:Value) (np:Nat) (KV:Nat→Value) (UV:Nat→Nat→Value) (P:Ps) (vd:Value) (len:Nat) (D:Nat→Int) (vp:Value) (lp:Nat) (X:Nat→Int) (need of:Int) (w:World),
  VeSl w w.heap.size vb n PV b→PsSl w w.heap.size vl np KV UV P→IntSl w w.heap.size vd len D→IntSl w w.heap.size vp lp X →
  Calls Tryz.prog 37 #[meshV vb vl,vd,vp,.int .i64 need,.int .i64 of] w (MeshPostN w (saveE n b np P need of len D lp X) (n+1) (saveB n b need of len lp X) np (saveP n np P need of len D))
 repair:∀(vb:Value) (n:Nat) (PV:Nat→Value) (b:Bk) (vl:Value) (np:Nat) (KV:Nat→Value) (UV:Nat→Nat→Value) (P:Ps) (k:Int) (w:World),VeSl w w.heap.size vb n PV b→PsSl w w.heap.size vl np KV UV P →
  Calls Tryz.prog 38 #[meshV vb vl,.int .i64 k] w (MeshPostN w (mendE n b np P k) n b np (mendP b np P k))
structure MeshOwes:Prop extends MeshCore where
 same:∀(w:World) (vb vl vb' vl':Value) (n n' np np':Nat) (PV PV' KV KV':Nat→Value) (UV UV':Nat→Nat→Value) (b b':Bk) (P P':Ps),VeSl w w.heap.size vb n PV b→PsSl w w.heap.size vl np KV UV P→VeSl w w.heap.size vb' n' PV' b'→PsSl w w.heap.size vl' np' KV' UV' P' →
  Calls Tryz.prog 21 #[meshV vb vl,meshV vb' vl'] w fun e w'=>e=.returned (.bool (meshB n n' b b' np np' P P'))∧Below w.heap.size w w'
def MsAt(w:World)(g:Nat)(ab:Option Addr)(n cb:Nat)(PV:Nat→Value)(b:Bk)(al:Option Addr)(np cl:Nat)(KV:Nat→Value)(UV:Nat→Nat→Value)(P:Ps):Prop :=
 w.heap[g]?=some (.cells #[.slice ab n cb,.slice al np cl] 27 (0,0))∧VeSl w w.heap.size (.slice ab n cb) n PV b∧PsSl w w.heap.size (.slice al np cl) np KV UV P
section
variable {w w' : World} {g : Nat} {ab : Option Addr} {n cb : Nat} {PV : Nat → Value} {b : Bk} {al : Option Addr} {np cl : Nat} {KV : Nat → Value} {UV : Nat → Nat → Value} {P : Ps}
theorem MsAt.up(h:MsAt w g ab n cb PV b al np cl KV UV P)(hb:Below w.heap.size w w'):MsAt w' g ab n cb PV b al np cl KV UV P:=⟨stayB h.1 hb,h.2.1.up hb,h.2.2.up hb⟩
theorem MsAt.cells(h:MsAt w g ab n cb PV b al np cl KV UV P):w.cell? ⟨g,0,none⟩=some (.slice ab n cb)∧w.cell? ⟨g,1,none⟩=some (.slice al np cl):=two_at h.1
theorem MsAt.box(hv:VeSl w w.heap.size (.slice ab n cb) n PV b)(hl:PsSl w w.heap.size (.slice al np cl) np KV UV P):MsAt (w.alloc (.cells #[.slice ab n cb,.slice al np cl] 27)) w.heap.size ab n cb PV b al np cl KV UV P :=
 ⟨heap_alloc_new _ _,hv.up (below_alloc _ _),hl.up (below_alloc _ _)⟩
end
theorem mesh_open{w:World}{er:Int}{n:Nat}{b:Bk}{np:Nat}{P:Ps}{e:Ending}{w':World}(h:MeshPost w er n b np P e w'):
 Below w.heap.size w w'∧∃(ab:Option Addr) (n' cb:Nat) (PV:Nat→Value) (al:Option Addr) (np' cl:Nat) (KV:Nat→Value) (UV:Nat→Nat→Value),e=.returned (.tuple #[.agg #[.slice ab n' cb,.slice al np' cl],.int .i64 er]) ∧
  n'=(if er=0 then n else 0)∧np'=(if er=0 then np else 0)∧VeSl w' w'.heap.size (.slice ab n' cb) n' PV b∧PsSl w' w'.heap.size (.slice al np' cl) np' KV UV P:=by
 obtain⟨h1,vb,vl,n',np',PV,KV,UV,rfl,h3,h4,h5,h6⟩:=h
 have h5':=h5
 have h6':=h6
 obtain⟨ab,cb,rfl,_,_⟩:=h5'
 obtain⟨al,cl,rfl,_,_⟩:=h6'
 exact⟨h1,ab,n',cb,PV,al,np',cl,KV,UV,rfl,h3,h4,h5,h6⟩
theorem restP_refl(P:Ps):∀f k,restP P P f k=true:=by
 intro f;induction f with
 |zero=>intro k;rfl
 |succ f ih =>
  intro k;simp only[restP];rw[ih,Bool.and_true];unfold prB;exact peerB_refl _ _ _ _
end
end Go.Proofs.YtajmnlhfnhbleaaGreat
