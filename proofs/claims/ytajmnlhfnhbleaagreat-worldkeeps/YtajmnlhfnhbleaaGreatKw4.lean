/- Several texts of one proof, in their order. -/
import Derived.Test.YtajmnlhfnhbleaaGreatKw3
namespace Go.Proofs.YtajmnlhfnhbleaaGreat
open Go.RowKit
set_option linter.unusedVariables false
def snocT(m:Nat)(t:Kt)(ver N:Int)(L:Nat)(X:Nat→Int):Kt:=⟨fun j=>if j=m then ver else t.V j,fun j=>if j=m then N else t.N j,fun j=>if j=m then L else t.L j,fun j=>if j=m then X else t.X j⟩
def InOrder(t:Kt)(K:Nat)(l:List Nat):Prop:=l.Perm (List.range K)∧l.Pairwise fun a c=>t.V a<t.V c
theorem inOrder_uniq{t:Kt}{K:Nat}{l l':List Nat}(h:InOrder t K l)(h':InOrder t K l'):l=l':=by
 refine List.Perm.eq_of_pairwise (le:=fun a c=>t.V a<t.V c) (fun a c _ _ h1 h2=>?_) h.2 h'.2 (h.1.trans h'.1.symm);omega
def KeepsTo(n:Nat)(b:Bk)(th:Bool)(room:Int)(m:Nat)(t:Kt)(ver N:Int)(L:Nat)(X:Nat→Int)(er:Int)(th':Bool)(room':Int)(m':Nat)(t':Kt):Prop :=
 (peerE n b room m t≠0∧er=peerE n b room m t∧th'=false∧room'=0∧m'=0) ∨
 (peerE n b room m t=0∧room≤(m:Int)∧er=8∧th'=false∧room'=0∧m'=0) ∨
 (peerE n b room m t=0∧(m:Int)<room∧0≤fstAt t.V ver m 0∧er=5∧th'=false∧room'=0∧m'=0) ∨
 (peerE n b room m t=0∧(m:Int)<room∧fstAt t.V ver m 0<0∧∃l,InOrder (snocT m t ver N L X) (m+1) l∧er=peerE n b room (m+1) (selT (snocT m t ver N L X) l) ∧
  ((er=0∧th'=th∧room'=room∧m'=m+1∧t'=selT (snocT m t ver N L X) l)∨(er≠0∧th'=false∧room'=0∧m'=0)))
def KeepPost(w:World)(n:Nat)(b:Bk)(th:Bool)(room:Int)(m:Nat)(t:Kt)(ver N:Int)(L:Nat)(X:Nat→Int)(e:Ending)(w':World):Prop :=
 Below w.heap.size w w'∧∃(er:Int) (th':Bool) (room':Int) (r:Value) (m':Nat) (UV':Nat→Value) (t':Kt),e=.returned (.tuple #[peerV th' room' r,.int .i64 er])∧KeSl w' w'.heap.size r m' UV' t'∧KeepsTo n b th room m t ver N L X er th' room' m' t'
theorem fstAt_none{X:Nat→Int}{v:Int}{m:Nat}(h:fstAt X v m 0<0):∀j,j<m→X j≠v:=fun j hj e=>by
 have:=(fstAt_neg X v m 0).2 ⟨j,Nat.zero_le _,by omega,e⟩;omega
theorem scanK_rise{n:Nat}{b:Bk}{t:Kt}:∀f k last,scanK n b t f k last=0→(∀j,k≤j→j<k+f→last<t.V j)∧∀j,k≤j→j+1<k+f→t.V j<t.V (j+1):=by
 intro f;induction f with
 |zero=>intro k last _;exact⟨fun j h1 h2=>by omega,fun j h1 h2=>by omega⟩
 |succ f ih =>
  intro k last h;simp only[scanK]at h;by_cases c1:t.V k<0∨(n:Int)≤t.V k;·rw[if_pos c1]at h;omega
  rw[if_neg c1]at h;by_cases c2:t.V k≤last;·rw[if_pos c2]at h;omega
  rw[if_neg c2]at h;by_cases c3:oneK b t k=0
  ·rw[if_pos c3]at h
   obtain⟨h1,h2⟩:=ih (k+1) (t.V k) h;refine⟨fun j g1 g2=>?_,fun j g1 g2=>?_⟩
   ·by_cases e:j=k
    ·subst e;omega
    have:=h1 j (by omega) (by omega);omega
   by_cases e:j=k;·subst e;exact h1 (j+1) (by omega) (by omega)
   exact h2 j (by omega) (by omega)
  rw[if_neg c3]at h;exact absurd h c3
theorem rise_far{X:Nat→Int}{m:Nat}(h:∀j,j+1<m→X j<X (j+1)):∀i j,i<j→j<m→X i<X j:=by
 intro i j;induction j with
 |zero=>intro h1;omega
 |succ j ih =>
  intro h1 h2;by_cases e:i=j;·subst e;exact h i h2
  have h3:=ih (by omega) (by omega);have h4:=h j h2;omega
theorem peerE_ok{n:Nat}{b:Bk}{room:Int}{m:Nat}{t:Kt}(h:peerE n b room m t=0):bookE n b=0∧(0≤room∧room≤20)∧(m:Int)≤room∧scanK n b t m 0 (-1)=0:=by
 unfold peerE at h;by_cases h1:bookE n b=0
 ·rw[if_pos h1]at h
  by_cases h2:0≤room∧room≤20
  ·rw[if_pos h2]at h
   by_cases h3:(m:Int)≤room;·rw[if_pos h3]at h;exact⟨h1,h2,h3,h⟩
   rw[if_neg h3]at h;omega
  rw[if_neg h2]at h;omega
 rw[if_neg h1]at h;exact absurd h h1
def agL(p:Nat→Bool)(m:Nat):List Nat:=(List.range m).filter p
theorem agL_succ(p:Nat→Bool)(m:Nat):agL p (m+1)=agL p m++(if p m=true then[m]else[]):=by
 unfold agL;rw[List.range_succ,List.filter_append];cases h:p m<;>simp[h]
theorem agL_len(p:Nat→Bool)(m:Nat):(agL p m).length≤m:=by
 unfold agL;refine Nat.le_trans (List.length_filter_le _ _) ?_;simp
theorem agL_lt{p:Nat→Bool}{m i:Nat}(h:i∈agL p m):i<m:=by
 unfold agL at h;exact List.mem_range.1 (List.mem_filter.1 h).1
theorem agL_notin(p:Nat→Bool)(m:Nat):m∉agL p m:=fun h=>by have:=agL_lt h;omega
def ahB(t:Kt)(ver:Int)(j:Nat):Bool:=decide (t.V j<ver)
def bhB(t:Kt)(ver:Int)(j:Nat):Bool:=decide (ver<t.V j)
theorem put_order{t:Kt}{m:Nat}{ver N:Int}{L:Nat}{X:Nat→Int}(hr:∀i j,i<j→j<m→t.V i<t.V j)(hn:∀j,j<m→t.V j≠ver):
 InOrder (snocT m t ver N L X) (m+1) ((agL (ahB t ver) m++[m])++agL (bhB t ver) m):=by
 have hsub:∀p:Nat→Bool,(agL p m).Pairwise (fun a c=>(snocT m t ver N L X).V a<(snocT m t ver N L X).V c):=fun p=>by
  have h1:(agL p m).Pairwise (fun a c:Nat=>a<c):=List.Pairwise.filter p List.pairwise_lt_range;refine h1.imp_of_mem ?_;intro a c ha hc hac;have la:=agL_lt ha;have lc:=agL_lt hc;have e1:(snocT m t ver N L X).V a=t.V a:=by simp only[snocT];rw[if_neg (by omega)]
  have e2:(snocT m t ver N L X).V c=t.V c:=by simp only[snocT];rw[if_neg (by omega)]
  rw[e1,e2];exact hr a c hac lc
 have hv:∀i,i<m→(snocT m t ver N L X).V i=t.V i:=fun i hi=>by simp only[snocT];rw[if_neg (by omega)]
 have hm:(snocT m t ver N L X).V m=ver:=by simp only[snocT];rw[if_pos trivial]
 refine⟨?_,?_⟩
 ·have e:agL (bhB t ver) m=agL (fun j => !(ahB t ver j)) m:=by
   unfold agL;refine List.filter_congr ?_;intro j hj;have hj:=List.mem_range.1 hj;have:=hn j hj;unfold ahB bhB;by_cases h1:t.V j<ver
   ·have h2:¬ver<t.V j:=by omega
    simp[h1,h2]
   ·have h2:ver<t.V j:=by omega
    simp[h1,h2]
  rw[e,List.range_succ];have hp:(agL (ahB t ver) m++agL (fun j => !(ahB t ver j)) m).Perm (List.range m):=List.filter_append_perm _ _;have h3:((agL (ahB t ver) m++[m])++agL (fun j => !(ahB t ver j)) m).Perm ((agL (ahB t ver) m++agL (fun j => !(ahB t ver j)) m)++[m]):=by
   rw[List.append_assoc,List.append_assoc];exact List.Perm.append_left _ List.perm_append_comm
  exact h3.trans (hp.append_right _)
 ·rw[List.pairwise_append,List.pairwise_append]
  refine⟨⟨hsub _,by simp,?_⟩,hsub _,?_⟩
  ·intro a ha c hc
   have hc:c=m:=by simpa using hc
   subst hc;rw[hv a (agL_lt ha),hm];have:=(List.mem_filter.1 ha).2;exact of_decide_eq_true this
  intro a ha c hc;rw[hv c (agL_lt hc)];have hc2:ver<t.V c:=of_decide_eq_true (List.mem_filter.1 hc).2;rcases List.mem_append.1 ha with ha|ha
  ·rw[hv a (agL_lt ha)]
   have:t.V a<ver:=of_decide_eq_true (List.mem_filter.1 ha).2;omega
  have ha:a=m:=by simpa using ha
  subst ha;rw[hm];exact hc2
inductive Rea (b:Bk):Nat→Nat→Prop where
 |refl (k:Nat):Rea b k k
 |step {k i old:Nat} (hi:i<b.PL k) (h:Rea b (b.PX k i).toNat old):Rea b k old
theorem Rea.trans{b:Bk}{k m o:Nat}(h:Rea b k m)(h2:Rea b m o):Rea b k o:=by
 induction h with
 |refl=>exact h2
 |step hi _ ih=>exact Rea.step hi (ih h2)
theorem Rea.snoc{b:Bk}{k y i:Nat}(h:Rea b k y)(hi:i<b.PL y):Rea b k (b.PX y i).toNat:=h.trans (Rea.step hi (Rea.refl _))
theorem Rea.last{b:Bk}{k o:Nat}(h:Rea b k o):o=k∨∃y i,Rea b k y∧i<b.PL y∧(b.PX y i).toNat=o:=by
 induction h with
 |refl=>exact Or.inl rfl
 |@step k i old hi h ih =>
  right;rcases ih with e|⟨y,j,h1,h2,h3⟩;·exact⟨k,i,Rea.refl _,hi,e.symm⟩
  exact⟨y,j,Rea.step hi h1,h2,h3⟩
theorem Rea.le{n:Nat}{b:Bk}(hE:Elder n b){k o:Nat}(h:Rea b k o)(hk:k<n):o≤k:=by
 induction h with
 |refl=>exact Nat.le_refl _
 |step hi _ ih =>
  obtain⟨e1,e2⟩:=hE _ hk _ hi;have:=ih (by omega);omega
theorem anyPar_iff(b:Bk)(n k:Nat):anyB (parB b k) n 0=true↔∃j,j<n∧∃i,i<b.PL j∧b.PX j i=(k:Int):=by
 rw[anyB_iff];constructor
 ·rintro⟨j,_,h2,h3⟩
  obtain⟨i,hi,e⟩:=(hasB_iff _ _ _).1 h3;exact⟨j,by omega,i,hi,e⟩
 rintro⟨j,hj,i,hi,e⟩;exact⟨j,Nat.zero_le _,by omega,(hasB_iff _ _ _).2 ⟨i,hi,e⟩⟩
def pickL(p:Nat→Bool)(j:Nat):List Int:=((List.range j).filter p).map fun(x:Nat)=>(x:Int)
theorem pickL_succ(p:Nat→Bool)(j:Nat):pickL p (j+1)=pickL p j++(if p j=true then[(j:Int)]else[]):=by
 unfold pickL;rw[List.range_succ,List.filter_append,List.map_append];cases h:p j<;>simp[h]
theorem pickL_len(p:Nat→Bool)(j:Nat):(pickL p j).length≤j:=by
 unfold pickL;rw[List.length_map];refine Nat.le_trans (List.length_filter_le _ _) ?_;simp
theorem pickL_congr{p q:Nat→Bool}{j:Nat}(h:∀x,x<j→p x=q x):pickL p j=pickL q j:=by
 unfold pickL;rw[List.filter_congr (fun x hx=>h x (List.mem_range.1 hx))]
theorem mem_pickL{p:Nat→Bool}{j:Nat}{x:Int}:x∈pickL p j↔∃k:Nat,k<j∧p k=true∧x=k:=by
 unfold pickL;simp only[List.mem_map,List.mem_filter,List.mem_range];constructor;·rintro⟨k,⟨h1,h2⟩,rfl⟩;exact⟨k,h1,h2,rfl⟩
 rintro⟨k,h1,h2,rfl⟩;exact⟨k,⟨h1,h2⟩,rfl⟩
theorem behL_pick(b:Bk)(f k j:Nat):behL b f k j=pickL (fun old=>frm b f k old) j:=rfl
theorem headsL_pick(b:Bk)(n j:Nat):headsL b n j=pickL (fun k => !anyB (parB b k) n 0) j:=rfl
theorem Right.few{n:Nat}{b:Bk}(h:Right n b){k:Nat}(hk:k<n):b.PL k≤k:=by
 have key:∀i,i<b.PL k→(i:Int)≤b.PX k i:=by
  intro i;induction i with
  |zero=>intro hi;have:=(h.elder k hk 0 hi).1;omega
  |succ i ih =>
   intro hi;have h1:=ih (by omega);have h2:=h.rise k hk i hi;omega
 rcases Nat.lt_or_ge k (b.PL k)with h1|h1
 ·have h2:=key k h1
  have h3:=(h.elder k hk k h1).2;omega
 exact h1
def HInvP(b:Bk)(k:Nat)(c:Int→Int):Prop:=(∀x,0≤c x∧c x≤((k*12:Nat):Int))∧∀x,c x=0↔∀j,j<k→∀i,i<b.PL j→b.PX j i≠x
theorem heads_of{b:Bk}{n:Nat}{c:Int→Int}(h:HInvP b n c):pickL (fun k=>decide (c (k:Int)=0)) n=headsL b n n:=by
 rw[headsL_pick];refine pickL_congr fun x hx=>?_;have h1:=h.2 (x:Int);have h2:=anyPar_iff b n x;cases ha:anyB (parB b x) n 0 with
 |true =>
  obtain⟨j,hj,i,hi,e⟩:=h2.1 ha;exact decide_eq_false fun h0=>h1.1 h0 j hj i hi e
 |false =>
  refine decide_eq_true (h1.2 fun j hj i hi e=>?_);rw[h2.2 ⟨j,hj,i,hi,e⟩]at ha;cases ha
section
structure Ps where
 th:Nat→Bool
 rm:Nat→Int
 m:Nat→Nat
 t:Nat→Kt
def PsSl(w:World)(B:Nat)(v:Value)(n:Nat)(KV:Nat→Value)(UV:Nat→Nat→Value)(P:Ps):Prop :=
 ∃(ad:Option Addr) (cap:Nat),v=.slice ad n cap∧(n≤cap∧n*40≤140737488351232)∧(n=0∨∃bl off,ad=some ⟨bl,off,none⟩∧bl<B∧∀j,j<n →
  w.cell? ⟨bl,off+j*3,none⟩=some (.bool (P.th j))∧w.cell? ⟨bl,off+j*3+1,none⟩=some (.int .i64 (P.rm j))∧w.cell? ⟨bl,off+j*3+2,none⟩=some (KV j)∧KeSl w B (KV j) (P.m j) (UV j) (P.t j))
section
variable {w w' : World} {B B' : Nat} {v : Value} {n : Nat} {KV : Nat → Value} {UV : Nat → Nat → Value} {P : Ps}
theorem PsSl.below(h:PsSl w B v n KV UV P)(hb:Below B w w'):PsSl w' B v n KV UV P:=by
 obtain⟨ad,cap,h1,h0,h2⟩:=h;refine⟨ad,cap,h1,h0,?_⟩;rcases h2 with h2|⟨bl,off,h3,h4,h5⟩;·exact Or.inl h2
 refine Or.inr ⟨bl,off,h3,h4,fun j hj=>?_⟩;obtain⟨g1,g2,g3,g4⟩:=h5 j hj;exact⟨by rw[hb.cell h4];exact g1,by rw[hb.cell h4];exact g2,by rw[hb.cell h4];exact g3,g4.below hb⟩
theorem PsSl.mono(h:PsSl w B v n KV UV P)(hb:B≤B'):PsSl w B' v n KV UV P:=by
 obtain⟨ad,cap,h1,h0,h2⟩:=h;refine⟨ad,cap,h1,h0,?_⟩;rcases h2 with h2|⟨bl,off,h3,h4,h5⟩;·exact Or.inl h2
 refine Or.inr ⟨bl,off,h3,by omega,fun j hj=>?_⟩;obtain⟨g1,g2,g3,g4⟩:=h5 j hj;exact⟨g1,g2,g3,g4.mono hb⟩
theorem PsSl.up(h:PsSl w w.heap.size v n KV UV P)(hb:Below w.heap.size w w'):PsSl w' w'.heap.size v n KV UV P:=(h.below hb).mono hb.size
theorem PsSl.at{a:Option Addr}{c:Nat}(h:PsSl w B (.slice a n c) n KV UV P){i:Nat}(hi:i<n):
 ∃bl off,a=some ⟨bl,off,none⟩∧bl<B∧w.cell? ⟨bl,off+i*3,none⟩=some (.bool (P.th i))∧w.cell? ⟨bl,off+i*3+1,none⟩=some (.int .i64 (P.rm i))∧w.cell? ⟨bl,off+i*3+2,none⟩=some (KV i)∧KeSl w B (KV i) (P.m i) (UV i) (P.t i):=by
 obtain⟨ad,cap,he,_,h2⟩:=h
 injection he with e1 _ e3
 subst e1 e3
 rcases h2 with h2|⟨bl,off,rfl,h4,h5⟩
 ·omega
 ·obtain⟨g1,g2,g3,g4⟩:=h5 i hi
  exact⟨bl,off,rfl,h4,g1,g2,g3,g4⟩
end
def scanP(n:Nat)(b:Bk)(P:Ps):Nat→Nat→Int
 |0,_=>0
 |f+1,k=>if peerE n b (P.rm k) (P.m k) (P.t k)=0 then scanP n b P f (k+1)else peerE n b (P.rm k) (P.m k) (P.t k)
def peersE(n:Nat)(b:Bk)(np:Nat)(P:Ps):Int:=if bookE n b=0 then(if np≤8 then scanP n b P np 0 else 1)else bookE n b
def leftK(P:Ps)(k:Nat):Int:=P.rm k-(P.m k:Int)
def noneK(P:Ps)(ver:Int)(k:Nat):Bool:=decide (fstAt (P.t k).V ver (P.m k) 0<0)
def fitK(P:Ps)(ver left:Int)(k:Nat):Bool:=P.th k&&(decide (leftK P k=left)&&noneK P ver k)
def lefts(P:Ps)(ver:Int)(np:Nat):Nat→List Int
 |0=>[]
 |r+1=>pickL (fitK P ver ((r+1:Nat):Int)) np++lefts P ver np r
def orderL(P:Ps)(ver:Int)(np:Nat):List Int:=lefts P ver np 20
def manyE(P:Ps)(ver:Int)(np:Nat)(many:Int):Int:=if 0≤many∧many≤8 then(if((orderL P ver np).length:Int)<many then 7 else 0)else 2
def forL(P:Ps)(ver:Int)(np:Nat)(many:Int):List Int:=if manyE P ver np many=0 then(orderL P ver np).take many.toNat else[]
def forE(n:Nat)(b:Bk)(P:Ps)(ver:Int)(np:Nat)(many:Int):Int:=if peersE n b np P=0 then manyE P ver np many else peersE n b np P
theorem scanP_ok{n:Nat}{b:Bk}{P:Ps}:∀f k,scanP n b P f k=0→∀j,k≤j→j<k+f→peerE n b (P.rm j) (P.m j) (P.t j)=0:=by
 intro f;induction f with
 |zero=>intro k _ j h1 h2;omega
 |succ f ih =>
  intro k h j h1 h2;simp only[scanP]at h;by_cases c:peerE n b (P.rm k) (P.m k) (P.t k)=0
  ·rw[if_pos c]at h
   by_cases e:j=k;·subst e;exact c
   exact ih (k+1) h j (by omega) (by omega)
  rw[if_neg c]at h;exact absurd h c
structure RightP(n:Nat)(b:Bk)(np:Nat)(P:Ps):Prop where
 book:bookE n b=0
 le:np≤8
 each:∀k,k<np→peerE n b (P.rm k) (P.m k) (P.t k)=0
theorem rightP_of{n:Nat}{b:Bk}{np:Nat}{P:Ps}(h:peersE n b np P=0):RightP n b np P:=by
 unfold peersE at h;by_cases h1:bookE n b=0
 ·rw[if_pos h1]at h
  by_cases h2:np≤8
  ·rw[if_pos h2]at h
   exact⟨h1,h2,fun k hk=>scanP_ok np 0 h k (Nat.zero_le _) (by omega)⟩
  rw[if_neg h2]at h;omega
 rw[if_neg h1]at h;exact absurd h h1
theorem peerE_room{n:Nat}{b:Bk}{room:Int}{m:Nat}{t:Kt}(h:peerE n b room m t=0):(0≤room∧room≤20)∧(m:Int)≤room:=by
 unfold peerE at h;by_cases h1:bookE n b=0
 ·rw[if_pos h1]at h
  by_cases h2:0≤room∧room≤20
  ·rw[if_pos h2]at h
   by_cases h3:(m:Int)≤room;·exact⟨h2,h3⟩
   rw[if_neg h3]at h;omega
  rw[if_neg h2]at h;omega
 rw[if_neg h1]at h;exact absurd h h1
theorem RightP.room{n:Nat}{b:Bk}{np:Nat}{P:Ps}(h:RightP n b np P){k:Nat}(hk:k<np):(0≤P.rm k∧P.rm k≤20)∧(P.m k:Int)≤P.rm k:=peerE_room (h.each k hk)
end
section
def rightK(n:Nat)(b:Bk)(t:Kt)(j:Nat):Prop:=(0≤t.V j∧t.V j<(n:Int))∧oneK b t j=0
theorem scanK_zero{n:Nat}{b:Bk}{t:Kt}:∀f k last,(∀j,k≤j→j<k+f→rightK n b t j)→(∀j,k≤j→j+1<k+f→t.V j<t.V (j+1))→(0<f→last<t.V k)→scanK n b t f k last=0:=by
 intro f;induction f with
 |zero=>intro k last _ _ _;rfl
 |succ f ih =>
  intro k last h1 h2 h3;obtain⟨⟨a1,a2⟩,a3⟩:=h1 k (Nat.le_refl _) (by omega);simp only[scanK];rw[if_neg (by omega),if_neg (by have:=h3 (by omega);omega),if_pos a3];refine ih (k+1) (t.V k) (fun j g1 g2=>h1 j (by omega) (by omega)) (fun j g1 g2=>h2 j (by omega) (by omega)) (fun hf=>h2 k (Nat.le_refl _) (by omega))
theorem scanK_right{n:Nat}{b:Bk}{t:Kt}:∀f k last,scanK n b t f k last=0→∀j,k≤j→j<k+f→rightK n b t j:=by
 intro f;induction f with
 |zero=>intro k last _ j h1 h2;omega
 |succ f ih =>
  intro k last h j h1 h2;simp only[scanK]at h;by_cases c1:t.V k<0∨(n:Int)≤t.V k;·rw[if_pos c1]at h;omega
  rw[if_neg c1]at h;by_cases c2:t.V k≤last;·rw[if_pos c2]at h;omega
  rw[if_neg c2]at h;by_cases c3:oneK b t k=0
  ·rw[if_pos c3]at h
   by_cases e:j=k;·subst e;exact⟨⟨by omega,by omega⟩,c3⟩
   exact ih (k+1) (t.V k) h j (by omega) (by omega)
  rw[if_neg c3]at h;exact absurd h c3
structure PeerR(n:Nat)(b:Bk)(room:Int)(m:Nat)(t:Kt):Prop where
 book:bookE n b=0
 room_:0≤room∧room≤20
 few:(m:Int)≤room
 right:∀j,j<m→rightK n b t j
 rise:∀i j,i<j→j<m→t.V i<t.V j
theorem peerR_of{n:Nat}{b:Bk}{room:Int}{m:Nat}{t:Kt}(h:peerE n b room m t=0):PeerR n b room m t:=by
 obtain⟨h1,h2,h3,h4⟩:=peerE_ok h;exact⟨h1,h2,h3,fun j hj=>scanK_right m 0 (-1) h4 j (Nat.zero_le _) (by omega),rise_far fun j hj=>(scanK_rise m 0 (-1) h4).2 j (Nat.zero_le _) (by omega)⟩
theorem PeerR.e{n:Nat}{b:Bk}{room:Int}{m:Nat}{t:Kt}(h:PeerR n b room m t):peerE n b room m t=0:=by
 unfold peerE;rw[if_pos h.book,if_pos h.room_,if_pos h.few];exact scanK_zero m 0 (-1) (fun j _ hj=>h.right j (by omega)) (fun j _ hj=>h.rise j (j+1) (by omega) (by omega)) (fun hm=>by have:=(h.right 0 hm).1;omega)
def keepL(t:Kt)(ver:Int)(m:Nat):List Nat:=(agL (ahB t ver) m++[m])++agL (bhB t ver) m
def keepT(t:Kt)(m:Nat)(ver N:Int)(L:Nat)(X:Nat→Int):Kt:=selT (snocT m t ver N L X) (keepL t ver m)
theorem getD_in{α:Type}{l:List α}{j:Nat}{d:α}(h:j<l.length):l.getD j d∈l:=by
 rw[List.getD_eq_getElem?_getD,List.getElem?_eq_getElem h];exact List.getElem_mem h
theorem pairwise_getD{α:Type}{R:α→α→Prop}{l:List α}{d:α}(h:l.Pairwise R){i j:Nat}(hij:i<j)(hj:j<l.length):R (l.getD i d) (l.getD j d):=by
 rw[List.getD_eq_getElem?_getD,List.getD_eq_getElem?_getD,List.getElem?_eq_getElem (by omega),List.getElem?_eq_getElem hj];exact List.pairwise_iff_getElem.1 h i j (by omega) hj hij
section
variable {n : Nat} {b : Bk} {room : Int} {m : Nat} {t : Kt} {ver N : Int} {L : Nat} {X : Nat → Int}
theorem keepL_order(h:PeerR n b room m t)(hf:fstAt t.V ver m 0<0):InOrder (snocT m t ver N L X) (m+1) (keepL t ver m):=put_order h.rise (fstAt_none hf)
theorem keepL_len(h:PeerR n b room m t)(hf:fstAt t.V ver m 0<0):(keepL t ver m).length=m+1:=by
 rw[(keepL_order (N:=0) (L:=0) (X:=fun _=>0) h hf).1.length_eq];simp
theorem keepT_right(h:PeerR n b room m t)(hm:(m:Int)<room)(hf:fstAt t.V ver m 0<0)(hv:0≤ver∧ver<(n:Int))(hs:oneE (b.nd ver.toNat) (b.of ver.toNat) (b.sz ver.toNat) N L X=0):PeerR n b room (m+1) (keepT t m ver N L X):=by
 have ho:=keepL_order (N:=N) (L:=L) (X:=X) h hf;have hl:=keepL_len h hf;refine⟨h.book,h.room_,by omega,fun j hj=>?_,fun i j hij hj=>pairwise_getD ho.2 hij (by omega)⟩;have hq:(keepL t ver m).getD j 0<m+1:=List.mem_range.1 (ho.1.mem_iff.1 (getD_in (by omega)));obtain⟨q,hqe⟩:∃q,(keepL t ver m).getD j 0=q:=⟨_,rfl⟩;rw[hqe]at hq;have e1:(keepT t m ver N L X).V j=(snocT m t ver N L X).V q:=by simp only[keepT,selT];rw[hqe]
 have e2:oneK b (keepT t m ver N L X) j=oneK b (snocT m t ver N L X) q:=by unfold oneK;simp only[keepT,selT];rw[hqe]
 unfold rightK;rw[e1,e2];by_cases e:q=m
 ·subst e
  have e3:(snocT q t ver N L X).V q=ver:=by simp[snocT]
  have e4:oneK b (snocT q t ver N L X) q=oneE (b.nd ver.toNat) (b.of ver.toNat) (b.sz ver.toNat) N L X:=by unfold oneK;simp[snocT]
  rw[e3,e4];exact⟨hv,hs⟩
 have e3:(snocT m t ver N L X).V q=t.V q:=by simp[snocT,e]
 have e4:oneK b (snocT m t ver N L X) q=oneK b t q:=by unfold oneK;simp[snocT,e]
 rw[e3,e4];exact h.right q (by omega)
theorem keepsTo_ok{th:Bool}{er:Int}{th':Bool}{room':Int}{m':Nat}{t':Kt}(hk:KeepsTo n b th room m t ver N L X er th' room' m' t')(h:PeerR n b room m t)(hm:(m:Int)<room)(hf:fstAt t.V ver m 0<0)(hv:0≤ver∧ver<(n:Int))(hs:oneE (b.nd ver.toNat) (b.of ver.toNat) (b.sz ver.toNat) N L X=0):
 er=0∧th'=th∧room'=room∧m'=m+1∧t'=keepT t m ver N L X:=by
 unfold KeepsTo at hk
 rcases hk with⟨a0,_⟩|⟨_,a1,_⟩|⟨_,_,a2,_⟩|⟨a0,a1,a2,l,a3,a4,a5⟩
 ·exact absurd h.e a0
 ·omega
 ·omega
 ·have hl:=inOrder_uniq a3 (keepL_order h hf)
  subst hl;have he:er=0:=by rw[a4];exact(keepT_right h hm hf hv hs).e
  rcases a5 with⟨_,d1,d2,d3,d4⟩|⟨d0,_⟩;·exact⟨he,d1,d2,d3,d4⟩
  exact absurd he d0
end
theorem PeerR.snoc{n:Nat}{b:Bk}{room:Int}{m:Nat}{t:Kt}{lp:Nat}{X:Nat→Int}{nd of sz:Int}(h:PeerR n b room m t)(hb:bookE (n+1) (snocB n b lp X nd of sz)=0):PeerR (n+1) (snocB n b lp X nd of sz) room m t:=by
 refine⟨hb,h.room_,h.few,fun j hj=>?_,h.rise⟩;obtain⟨h1,h2⟩:=h.right j hj;refine⟨⟨h1.1,by omega⟩,?_⟩;have hne:(t.V j).toNat≠n:=by omega
 unfold oneK at h2 ⊢;simp only[snocB,if_neg hne];exact h2
theorem fstAt_succ(X:Nat→Int)(v:Int):∀m k,fstAt X v (m+1) k=if 0≤fstAt X v m k then fstAt X v m k else if X (k+m)=v then((k+m:Nat):Int)else -1:=by
 intro m;induction m with
 |zero =>
  intro k;have e0:fstAt X v 0 k = -1:=rfl;have e1:fstAt X v (0+1) k=if v=X k then(k:Int)else -1:=rfl
  rw[e0,e1,if_neg (by decide:¬(0:Int) ≤ -1),Nat.add_zero];by_cases h:v=X k;·rw[if_pos h,if_pos h.symm]
  rw[if_neg h,if_neg (fun e=>h e.symm)]
 |succ m ih =>
  intro k;have e:=ih (k+1);rw[show fstAt X v (m+1+1) k=if v=X k then(k:Int)else fstAt X v (m+1) (k+1)from rfl,show fstAt X v (m+1) k=if v=X k then(k:Int)else fstAt X v m (k+1)from rfl];by_cases h:v=X k;·rw[if_pos h,if_pos h,if_pos (by omega)]
  rw[if_neg h,if_neg h,e,show k+1+m=k+(m+1) by omega]
def giveP(P:Ps)(ver:Int)(A:Nat→Int)(SN:Nat→Int)(SL:Nat→Nat)(SX:Nat→Nat→Int)(i:Nat):Ps :=
 ⟨P.th,P.rm,fun k=>if 0≤fstAt A (k:Int) i 0 then P.m k+1 else P.m k,
  fun k=>if 0≤fstAt A (k:Int) i 0 then keepT (P.t k) (P.m k) ver (SN (fstAt A (k:Int) i 0).toNat) (SL (fstAt A (k:Int) i 0).toNat) (SX (fstAt A (k:Int) i 0).toNat)else P.t k⟩
theorem giveP_zero(P:Ps)(ver:Int)(A:Nat→Int)(SN:Nat→Int)(SL:Nat→Nat)(SX:Nat→Nat→Int):giveP P ver A SN SL SX 0=P:=by
 unfold giveP;simp only[fstAt];simp
section
variable {P : Ps} {ver : Int} {A : Nat → Int} {SN : Nat → Int} {SL : Nat → Nat} {SX : Nat → Nat → Int} {i q : Nat}
theorem giveP_old{i k:Nat}(h:∀j,j<i→A j≠(k:Int)):(giveP P ver A SN SL SX i).m k=P.m k∧(giveP P ver A SN SL SX i).t k=P.t k:=by
 have h1:¬0≤fstAt A (k:Int) i 0:=fun h2=>by
  obtain⟨j,_,hj,e⟩:=(fstAt_neg A (k:Int) i 0).1 h2;exact h j (by omega) e
 simp only[giveP];rw[if_neg h1,if_neg h1];exact⟨rfl,rfl⟩
theorem giveP_succ{k:Nat}(hd:∀j,j<i→A j≠A i):(giveP P ver A SN SL SX (i+1)).m k=(if A i=(k:Int)then P.m k+1 else(giveP P ver A SN SL SX i).m k) ∧
 (giveP P ver A SN SL SX (i+1)).t k=(if A i=(k:Int)then keepT (P.t k) (P.m k) ver (SN i) (SL i) (SX i)else(giveP P ver A SN SL SX i).t k):=by
 have e:=fstAt_succ A (k:Int) i 0
 rw[Nat.zero_add]at e
 by_cases h:A i=(k:Int)
 ·have h1:¬0≤fstAt A (k:Int) i 0:=fun h2=>by
   obtain⟨j,_,hj,e⟩:=(fstAt_neg A (k:Int) i 0).1 h2;exact hd j (by omega) (by rw[e,h])
  rw[if_neg h1,if_pos h]at e;simp only[giveP];rw[e];refine⟨?_,?_⟩;·rw[if_pos (by omega),if_pos h]
  rw[if_pos (by omega),if_pos h,Int.toNat_natCast]
 ·by_cases h1:0≤fstAt A (k:Int) i 0
  ·rw[if_pos h1]at e
   simp only[giveP];rw[e,if_neg h,if_neg h];exact⟨rfl,rfl⟩
  rw[if_neg h1,if_neg h]at e;simp only[giveP];rw[e];refine⟨?_,?_⟩;·rw[if_neg (by decide),if_neg h,if_neg h1]
  rw[if_neg (by decide),if_neg h,if_neg h1]
end
end
def meshV(vb vl:Value):Value:=.agg #[vb,vl]
def prB(P Q:Ps)(k:Nat):Bool:=peerB (P.th k) (Q.th k) (P.rm k) (Q.rm k) (P.m k) (Q.m k) (P.t k) (Q.t k)
def restP(P Q:Ps):Nat→Nat→Bool
 |0,_=>true
 |f+1,k=>prB P Q k&&restP P Q f (k+1)
def peersB(n m:Nat)(P Q:Ps):Bool:=decide (n=m)&&restP P Q n 0
def isTh(P:Ps)(ver:Int)(k i:Nat):Bool:=P.th k&&decide ((P.t k).V i=ver)
def seenN(P:Ps)(l:List (Nat×Nat))(N:Int):Bool:=l.any fun x=>decide ((P.t x.1).N x.2=N)
def thStep(P:Ps)(ver:Int)(k:Nat)(l:List (Nat×Nat))(i:Nat):List (Nat×Nat):=if isTh P ver k i && !seenN P l ((P.t k).N i)then l++[(k,i)]else l
def thRow(P:Ps)(ver:Int)(k:Nat)(l:List (Nat×Nat))(f:Nat):List (Nat×Nat):=(List.range f).foldl (thStep P ver k) l
def thAll(P:Ps)(ver:Int)(f:Nat):List (Nat×Nat):=(List.range f).foldl (fun l k=>thRow P ver k l (P.m k)) []
def thereL(P:Ps)(ver:Int)(np:Nat):List (Nat×Nat):=thAll P ver np
theorem thRow_zero(P:Ps)(ver:Int)(k:Nat)(l:List (Nat×Nat)):thRow P ver k l 0=l:=rfl
theorem thRow_succ(P:Ps)(ver:Int)(k:Nat)(l:List (Nat×Nat))(f:Nat):thRow P ver k l (f+1)=thStep P ver k (thRow P ver k l f) f:=by
 unfold thRow;rw[List.range_succ,List.foldl_append];rfl
theorem thAll_zero(P:Ps)(ver:Int):thAll P ver 0=[]:=rfl
theorem thAll_succ(P:Ps)(ver:Int)(f:Nat):thAll P ver (f+1)=thRow P ver f (thAll P ver f) (P.m f):=by
 unfold thAll;rw[List.range_succ,List.foldl_append];rfl
structure ThOk(P:Ps)(ver:Int)(np:Nat)(l:List (Nat×Nat)):Prop where
 at_:∀x,x∈l→x.1<np∧x.2<P.m x.1∧P.th x.1=true∧(P.t x.1).V x.2=ver
 once:List.Pairwise (fun x y=>(P.t x.1).N x.2≠(P.t y.1).N y.2) l
theorem seenN_iff{P:Ps}{l:List (Nat×Nat)}{N:Int}:seenN P l N=true↔∃x,x∈l∧(P.t x.1).N x.2=N:=by
 unfold seenN;rw[List.any_eq_true];constructor;·rintro⟨x,h1,h2⟩;exact⟨x,h1,of_decide_eq_true h2⟩
 rintro⟨x,h1,h2⟩;exact⟨x,h1,decide_eq_true h2⟩
theorem ThOk.step{P:Ps}{ver:Int}{np k i:Nat}{l:List (Nat×Nat)}(h:ThOk P ver np l)(hk:k<np)(hi:i<P.m k):ThOk P ver np (thStep P ver k l i):=by
 unfold thStep;by_cases c:(isTh P ver k i && !seenN P l ((P.t k).N i))=true
 ·rw[if_pos c]
  rw[Bool.and_eq_true]at c;obtain⟨c1,c2⟩:=c;unfold isTh at c1;rw[Bool.and_eq_true,decide_eq_true_iff]at c1;refine⟨fun x hx=>?_,?_⟩
  ·rcases List.mem_append.1 hx with h1|h1
   ·exact h.at_ x h1
   obtain rfl:x=(k,i):=by simpa using h1
   exact⟨hk,hi,c1.1,c1.2⟩
  rw[List.pairwise_append];refine⟨h.once,List.pairwise_singleton _ _,fun x hx y hy e=>?_⟩;obtain rfl:y=(k,i):=by simpa using hy
  rw[seenN_iff.2 ⟨x,hx,e⟩]at c2;cases c2
 rw[if_neg c];exact h
theorem ThOk.row{P:Ps}{ver:Int}{np k:Nat}{l:List (Nat×Nat)}(h:ThOk P ver np l)(hk:k<np):∀f,f≤P.m k→ThOk P ver np (thRow P ver k l f):=by
 intro f;induction f with
 |zero=>intro _;exact h
 |succ f ih=>intro hf;rw[thRow_succ];exact(ih (by omega)).step hk (by omega)
theorem thAll_ok(P:Ps)(ver:Int)(np:Nat):∀f,f≤np→ThOk P ver np (thAll P ver f):=by
 intro f;induction f with
 |zero=>intro _;exact⟨fun x hx=>(by cases hx),List.Pairwise.nil⟩
 |succ f ih=>intro hf;rw[thAll_succ];exact(ih (by omega)).row (by omega) _ (Nat.le_refl _)
theorem nodup_few:∀(m:Nat) (l:List Nat),l.Nodup→(∀x,x∈l→x<m)→l.length≤m:=by
 intro m;induction m with
 |zero =>
  intro l _ h;cases l with
  |nil=>exact Nat.le_refl _
  |cons a l=>exact absurd (h a (by simp)) (Nat.not_lt_zero _)
 |succ m ih =>
  intro l hn h;have h1:=ih (l.erase m) (hn.erase m) (fun x hx=>by
   have h2:=(hn.mem_erase_iff).1 hx;have h3:=h x h2.2;have:=h2.1;omega)
  have h4:l.length≤(l.erase m).length+1:=by
   by_cases c:m∈l;·rw[List.length_erase_of_mem c];omega
   rw[List.erase_of_not_mem c];omega
  omega
theorem once_len{l:List (Nat×Nat)}{f:Nat×Nat→Int}(h:List.Pairwise (fun x y=>f x≠f y) l){m:Nat}(hb:∀x,x∈l→0≤f x∧f x<(m:Int)):l.length≤m:=by
 have h1:(l.map fun x=>(f x).toNat).Nodup:=by
  rw[List.Nodup,List.pairwise_map];refine h.imp_of_mem fun {x y} hx hy hxy e=>hxy ?_;have:=hb x hx;have:=hb y hy;omega
 have h2:=nodup_few m _ h1 (fun z hz=>by
  obtain⟨x,hx,rfl⟩:=List.mem_map.1 hz;have:=hb x hx;omega)
 simpa using h2
theorem isl_take{w:World}{B:Nat}{a:Option Addr}{c q:Nat}{l:List Int}(h:IntSl w B (.slice a l.length c) l.length (fun j=>l.getD j 0))(hq:q≤l.length):IntSl w B (.slice a q c) (l.take q).length (fun j=>(l.take q).getD j 0):=by
 obtain⟨ad,cap,he,⟨h0,h1⟩,h2⟩:=h;injection he with e1 _ e3;subst e1 e3;have hl:(l.take q).length=q:=by rw[List.length_take];omega
 rw[hl];refine⟨a,c,rfl,⟨by omega,by omega⟩,?_⟩;by_cases hq0:q=0;·exact Or.inl hq0
 rcases h2 with h2|⟨b,off,rfl,h4,h5⟩;·omega
 refine Or.inr ⟨b,off,rfl,h4,fun j hj=>?_⟩;rw[h5 j (by omega)];congr 2;simp[List.getD_eq_getElem?_getD,hj]
end Go.Proofs.YtajmnlhfnhbleaaGreat
