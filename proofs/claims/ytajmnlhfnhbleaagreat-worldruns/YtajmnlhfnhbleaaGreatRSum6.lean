/- Several texts of one proof, in their order. -/
import Derived.Test.YtajmnlhfnhbleaaGreatRSum5
namespace Go.Proofs.YtajmnlhfnhbleaaGreat
open Go.RowKit
set_option linter.unusedVariables false
set_option maxHeartbeats 4000000
set_option maxRecDepth 10000
section
structure Ps where
 th:Nat→Bool
 rm:Nat→Int
 m:Nat→Nat
 t:Nat→Kt
def PsSl(w:World)(B:Nat)(v:Value)(n:Nat)(KV:Nat→Value)(UV:Nat→Nat→Value)(P:Ps):Prop :=
 ∃(ad:Option Addr) (cap:Nat),v=.slice ad n cap∧(n≤cap∧n*40≤140737488351232)∧(n=0∨∃bl off,ad=some ⟨bl,off,none⟩∧bl<B∧∀j,j<n →
  w.cell? ⟨bl,off+j*3,none⟩=some (.bool (P.th j))∧w.cell? ⟨bl,off+j*3+1,none⟩=some (.int .i64 (P.rm j))∧w.cell? ⟨bl,off+j*3+2,none⟩=some (KV j)∧KeSl w B (KV j) (P.m j) (UV j) (P.t j))
section
variable {w w' : World} {B B' : Nat} {v : Value} {n : Nat} {KV : Nat → Value} {UV : Nat → Nat → Value} {P : Ps}
theorem PsSl.below(h:PsSl w B v n KV UV P)(hb:Below B w w'):PsSl w' B v n KV UV P:=by
 obtain⟨ad,cap,h1,h0,h2⟩:=h;refine⟨ad,cap,h1,h0,?_⟩;rcases h2 with h2|⟨bl,off,h3,h4,h5⟩;·exact Or.inl h2
 refine Or.inr ⟨bl,off,h3,h4,fun j hj=>?_⟩;obtain⟨g1,g2,g3,g4⟩:=h5 j hj;exact⟨by rw[hb.cell h4];exact g1,by rw[hb.cell h4];exact g2,by rw[hb.cell h4];exact g3,g4.below hb⟩
theorem PsSl.mono(h:PsSl w B v n KV UV P)(hb:B≤B'):PsSl w B' v n KV UV P:=by
 obtain⟨ad,cap,h1,h0,h2⟩:=h;refine⟨ad,cap,h1,h0,?_⟩;rcases h2 with h2|⟨bl,off,h3,h4,h5⟩;·exact Or.inl h2
 refine Or.inr ⟨bl,off,h3,by omega,fun j hj=>?_⟩;obtain⟨g1,g2,g3,g4⟩:=h5 j hj;exact⟨g1,g2,g3,g4.mono hb⟩
theorem PsSl.up(h:PsSl w w.heap.size v n KV UV P)(hb:Below w.heap.size w w'):PsSl w' w'.heap.size v n KV UV P:=(h.below hb).mono hb.size
theorem PsSl.at{a:Option Addr}{c:Nat}(h:PsSl w B (.slice a n c) n KV UV P){i:Nat}(hi:i<n):
 ∃bl off,a=some ⟨bl,off,none⟩∧bl<B∧w.cell? ⟨bl,off+i*3,none⟩=some (.bool (P.th i))∧w.cell? ⟨bl,off+i*3+1,none⟩=some (.int .i64 (P.rm i))∧w.cell? ⟨bl,off+i*3+2,none⟩=some (KV i)∧KeSl w B (KV i) (P.m i) (UV i) (P.t i):=by
 obtain⟨ad,cap,he,_,h2⟩:=h
 injection he with e1 _ e3
 subst e1 e3
 rcases h2 with h2|⟨bl,off,rfl,h4,h5⟩
 ·omega
 ·obtain⟨g1,g2,g3,g4⟩:=h5 i hi
  exact⟨bl,off,rfl,h4,g1,g2,g3,g4⟩
end
def scanP(n:Nat)(b:Bk)(P:Ps):Nat→Nat→Int
 |0,_=>0
 |f+1,k=>if peerE n b (P.rm k) (P.m k) (P.t k)=0 then scanP n b P f (k+1)else peerE n b (P.rm k) (P.m k) (P.t k)
def peersE(n:Nat)(b:Bk)(np:Nat)(P:Ps):Int:=if bookE n b=0 then(if np≤8 then scanP n b P np 0 else 1)else bookE n b
def leftK(P:Ps)(k:Nat):Int:=P.rm k-(P.m k:Int)
def noneK(P:Ps)(ver:Int)(k:Nat):Bool:=decide (fstAt (P.t k).V ver (P.m k) 0<0)
def fitK(P:Ps)(ver left:Int)(k:Nat):Bool:=P.th k&&(decide (leftK P k=left)&&noneK P ver k)
def lefts(P:Ps)(ver:Int)(np:Nat):Nat→List Int
 |0=>[]
 |r+1=>pickL (fitK P ver ((r+1:Nat):Int)) np++lefts P ver np r
def orderL(P:Ps)(ver:Int)(np:Nat):List Int:=lefts P ver np 20
def manyE(P:Ps)(ver:Int)(np:Nat)(many:Int):Int:=if 0≤many∧many≤8 then(if((orderL P ver np).length:Int)<many then 7 else 0)else 2
def forL(P:Ps)(ver:Int)(np:Nat)(many:Int):List Int:=if manyE P ver np many=0 then(orderL P ver np).take many.toNat else[]
def forE(n:Nat)(b:Bk)(P:Ps)(ver:Int)(np:Nat)(many:Int):Int:=if peersE n b np P=0 then manyE P ver np many else peersE n b np P
theorem scanP_ok{n:Nat}{b:Bk}{P:Ps}:∀f k,scanP n b P f k=0→∀j,k≤j→j<k+f→peerE n b (P.rm j) (P.m j) (P.t j)=0:=by
 intro f;induction f with
 |zero=>intro k _ j h1 h2;omega
 |succ f ih =>
  intro k h j h1 h2;simp only[scanP]at h;by_cases c:peerE n b (P.rm k) (P.m k) (P.t k)=0
  ·rw[if_pos c]at h
   by_cases e:j=k;·subst e;exact c
   exact ih (k+1) h j (by omega) (by omega)
  rw[if_neg c]at h;exact absurd h c
structure RightP(n:Nat)(b:Bk)(np:Nat)(P:Ps):Prop where
 book:bookE n b=0
 le:np≤8
 each:∀k,k<np→peerE n b (P.rm k) (P.m k) (P.t k)=0
theorem rightP_of{n:Nat}{b:Bk}{np:Nat}{P:Ps}(h:peersE n b np P=0):RightP n b np P:=by
 unfold peersE at h;by_cases h1:bookE n b=0
 ·rw[if_pos h1]at h
  by_cases h2:np≤8
  ·rw[if_pos h2]at h
   exact⟨h1,h2,fun k hk=>scanP_ok np 0 h k (Nat.zero_le _) (by omega)⟩
  rw[if_neg h2]at h;omega
 rw[if_neg h1]at h;exact absurd h h1
theorem peerE_room{n:Nat}{b:Bk}{room:Int}{m:Nat}{t:Kt}(h:peerE n b room m t=0):(0≤room∧room≤20)∧(m:Int)≤room:=by
 unfold peerE at h;by_cases h1:bookE n b=0
 ·rw[if_pos h1]at h
  by_cases h2:0≤room∧room≤20
  ·rw[if_pos h2]at h
   by_cases h3:(m:Int)≤room;·exact⟨h2,h3⟩
   rw[if_neg h3]at h;omega
  rw[if_neg h2]at h;omega
 rw[if_neg h1]at h;exact absurd h h1
theorem RightP.room{n:Nat}{b:Bk}{np:Nat}{P:Ps}(h:RightP n b np P){k:Nat}(hk:k<np):(0≤P.rm k∧P.rm k≤20)∧(P.m k:Int)≤P.rm k:=peerE_room (h.each k hk)
end
section
def rightK(n:Nat)(b:Bk)(t:Kt)(j:Nat):Prop:=(0≤t.V j∧t.V j<(n:Int))∧oneK b t j=0
theorem scanK_zero{n:Nat}{b:Bk}{t:Kt}:∀f k last,(∀j,k≤j→j<k+f→rightK n b t j)→(∀j,k≤j→j+1<k+f→t.V j<t.V (j+1))→(0<f→last<t.V k)→scanK n b t f k last=0:=by
 intro f;induction f with
 |zero=>intro k last _ _ _;rfl
 |succ f ih =>
  intro k last h1 h2 h3;obtain⟨⟨a1,a2⟩,a3⟩:=h1 k (Nat.le_refl _) (by omega);simp only[scanK];rw[if_neg (by omega),if_neg (by have:=h3 (by omega);omega),if_pos a3];refine ih (k+1) (t.V k) (fun j g1 g2=>h1 j (by omega) (by omega)) (fun j g1 g2=>h2 j (by omega) (by omega)) (fun hf=>h2 k (Nat.le_refl _) (by omega))
theorem scanK_right{n:Nat}{b:Bk}{t:Kt}:∀f k last,scanK n b t f k last=0→∀j,k≤j→j<k+f→rightK n b t j:=by
 intro f;induction f with
 |zero=>intro k last _ j h1 h2;omega
 |succ f ih =>
  intro k last h j h1 h2;simp only[scanK]at h;by_cases c1:t.V k<0∨(n:Int)≤t.V k;·rw[if_pos c1]at h;omega
  rw[if_neg c1]at h;by_cases c2:t.V k≤last;·rw[if_pos c2]at h;omega
  rw[if_neg c2]at h;by_cases c3:oneK b t k=0
  ·rw[if_pos c3]at h
   by_cases e:j=k;·subst e;exact⟨⟨by omega,by omega⟩,c3⟩
   exact ih (k+1) (t.V k) h j (by omega) (by omega)
  rw[if_neg c3]at h;exact absurd h c3
structure PeerR(n:Nat)(b:Bk)(room:Int)(m:Nat)(t:Kt):Prop where
 book:bookE n b=0
 room_:0≤room∧room≤20
 few:(m:Int)≤room
 right:∀j,j<m→rightK n b t j
 rise:∀i j,i<j→j<m→t.V i<t.V j
theorem peerR_of{n:Nat}{b:Bk}{room:Int}{m:Nat}{t:Kt}(h:peerE n b room m t=0):PeerR n b room m t:=by
 obtain⟨h1,h2,h3,h4⟩:=peerE_ok h;exact⟨h1,h2,h3,fun j hj=>scanK_right m 0 (-1) h4 j (Nat.zero_le _) (by omega),rise_far fun j hj=>(scanK_rise m 0 (-1) h4).2 j (Nat.zero_le _) (by omega)⟩
theorem PeerR.e{n:Nat}{b:Bk}{room:Int}{m:Nat}{t:Kt}(h:PeerR n b room m t):peerE n b room m t=0:=by
 unfold peerE;rw[if_pos h.book,if_pos h.room_,if_pos h.few];exact scanK_zero m 0 (-1) (fun j _ hj=>h.right j (by omega)) (fun j _ hj=>h.rise j (j+1) (by omega) (by omega)) (fun hm=>by have:=(h.right 0 hm).1;omega)
def keepL(t:Kt)(ver:Int)(m:Nat):List Nat:=(agL (ahB t ver) m++[m])++agL (bhB t ver) m
def keepT(t:Kt)(m:Nat)(ver N:Int)(L:Nat)(X:Nat→Int):Kt:=selT (snocT m t ver N L X) (keepL t ver m)
theorem getD_in{α:Type}{l:List α}{j:Nat}{d:α}(h:j<l.length):l.getD j d∈l:=by
 rw[List.getD_eq_getElem?_getD,List.getElem?_eq_getElem h];exact List.getElem_mem h
theorem pairwise_getD{α:Type}{R:α→α→Prop}{l:List α}{d:α}(h:l.Pairwise R){i j:Nat}(hij:i<j)(hj:j<l.length):R (l.getD i d) (l.getD j d):=by
 rw[List.getD_eq_getElem?_getD,List.getD_eq_getElem?_getD,List.getElem?_eq_getElem (by omega),List.getElem?_eq_getElem hj];exact List.pairwise_iff_getElem.1 h i j (by omega) hj hij
section
variable {n : Nat} {b : Bk} {room : Int} {m : Nat} {t : Kt} {ver N : Int} {L : Nat} {X : Nat → Int}
theorem keepL_order(h:PeerR n b room m t)(hf:fstAt t.V ver m 0<0):InOrder (snocT m t ver N L X) (m+1) (keepL t ver m):=put_order h.rise (fstAt_none hf)
theorem keepL_len(h:PeerR n b room m t)(hf:fstAt t.V ver m 0<0):(keepL t ver m).length=m+1:=by
 rw[(keepL_order (N:=0) (L:=0) (X:=fun _=>0) h hf).1.length_eq];simp
theorem keepT_right(h:PeerR n b room m t)(hm:(m:Int)<room)(hf:fstAt t.V ver m 0<0)(hv:0≤ver∧ver<(n:Int))(hs:oneE (b.nd ver.toNat) (b.of ver.toNat) (b.sz ver.toNat) N L X=0):PeerR n b room (m+1) (keepT t m ver N L X):=by
 have ho:=keepL_order (N:=N) (L:=L) (X:=X) h hf;have hl:=keepL_len h hf;refine⟨h.book,h.room_,by omega,fun j hj=>?_,fun i j hij hj=>pairwise_getD ho.2 hij (by omega)⟩;have hq:(keepL t ver m).getD j 0<m+1:=List.mem_range.1 (ho.1.mem_iff.1 (getD_in (by omega)));obtain⟨q,hqe⟩:∃q,(keepL t ver m).getD j 0=q:=⟨_,rfl⟩;rw[hqe]at hq;have e1:(keepT t m ver N L X).V j=(snocT m t ver N L X).V q:=by simp only[keepT,selT];rw[hqe]
 have e2:oneK b (keepT t m ver N L X) j=oneK b (snocT m t ver N L X) q:=by unfold oneK;simp only[keepT,selT];rw[hqe]
 unfold rightK;rw[e1,e2];by_cases e:q=m
 ·subst e
  have e3:(snocT q t ver N L X).V q=ver:=by simp[snocT]
  have e4:oneK b (snocT q t ver N L X) q=oneE (b.nd ver.toNat) (b.of ver.toNat) (b.sz ver.toNat) N L X:=by unfold oneK;simp[snocT]
  rw[e3,e4];exact⟨hv,hs⟩
 have e3:(snocT m t ver N L X).V q=t.V q:=by simp[snocT,e]
 have e4:oneK b (snocT m t ver N L X) q=oneK b t q:=by unfold oneK;simp[snocT,e]
 rw[e3,e4];exact h.right q (by omega)
theorem keepsTo_ok{th:Bool}{er:Int}{th':Bool}{room':Int}{m':Nat}{t':Kt}(hk:KeepsTo n b th room m t ver N L X er th' room' m' t')(h:PeerR n b room m t)(hm:(m:Int)<room)(hf:fstAt t.V ver m 0<0)(hv:0≤ver∧ver<(n:Int))(hs:oneE (b.nd ver.toNat) (b.of ver.toNat) (b.sz ver.toNat) N L X=0):
 er=0∧th'=th∧room'=room∧m'=m+1∧t'=keepT t m ver N L X:=by
 unfold KeepsTo at hk
 rcases hk with⟨a0,_⟩|⟨_,a1,_⟩|⟨_,_,a2,_⟩|⟨a0,a1,a2,l,a3,a4,a5⟩
 ·exact absurd h.e a0
 ·omega
 ·omega
 ·have hl:=inOrder_uniq a3 (keepL_order h hf)
  subst hl;have he:er=0:=by rw[a4];exact(keepT_right h hm hf hv hs).e
  rcases a5 with⟨_,d1,d2,d3,d4⟩|⟨d0,_⟩;·exact⟨he,d1,d2,d3,d4⟩
  exact absurd he d0
end
theorem PeerR.snoc{n:Nat}{b:Bk}{room:Int}{m:Nat}{t:Kt}{lp:Nat}{X:Nat→Int}{nd of sz:Int}(h:PeerR n b room m t)(hb:bookE (n+1) (snocB n b lp X nd of sz)=0):PeerR (n+1) (snocB n b lp X nd of sz) room m t:=by
 refine⟨hb,h.room_,h.few,fun j hj=>?_,h.rise⟩;obtain⟨h1,h2⟩:=h.right j hj;refine⟨⟨h1.1,by omega⟩,?_⟩;have hne:(t.V j).toNat≠n:=by omega
 unfold oneK at h2 ⊢;simp only[snocB,if_neg hne];exact h2
theorem fstAt_succ(X:Nat→Int)(v:Int):∀m k,fstAt X v (m+1) k=if 0≤fstAt X v m k then fstAt X v m k else if X (k+m)=v then((k+m:Nat):Int)else -1:=by
 intro m;induction m with
 |zero =>
  intro k;have e0:fstAt X v 0 k = -1:=rfl;have e1:fstAt X v (0+1) k=if v=X k then(k:Int)else -1:=rfl
  rw[e0,e1,if_neg (by decide:¬(0:Int) ≤ -1),Nat.add_zero];by_cases h:v=X k;·rw[if_pos h,if_pos h.symm]
  rw[if_neg h,if_neg (fun e=>h e.symm)]
 |succ m ih =>
  intro k;have e:=ih (k+1);rw[show fstAt X v (m+1+1) k=if v=X k then(k:Int)else fstAt X v (m+1) (k+1)from rfl,show fstAt X v (m+1) k=if v=X k then(k:Int)else fstAt X v m (k+1)from rfl];by_cases h:v=X k;·rw[if_pos h,if_pos h,if_pos (by omega)]
  rw[if_neg h,if_neg h,e,show k+1+m=k+(m+1) by omega]
def giveP(P:Ps)(ver:Int)(A:Nat→Int)(SN:Nat→Int)(SL:Nat→Nat)(SX:Nat→Nat→Int)(i:Nat):Ps :=
 ⟨P.th,P.rm,fun k=>if 0≤fstAt A (k:Int) i 0 then P.m k+1 else P.m k,
  fun k=>if 0≤fstAt A (k:Int) i 0 then keepT (P.t k) (P.m k) ver (SN (fstAt A (k:Int) i 0).toNat) (SL (fstAt A (k:Int) i 0).toNat) (SX (fstAt A (k:Int) i 0).toNat)else P.t k⟩
theorem giveP_zero(P:Ps)(ver:Int)(A:Nat→Int)(SN:Nat→Int)(SL:Nat→Nat)(SX:Nat→Nat→Int):giveP P ver A SN SL SX 0=P:=by
 unfold giveP;simp only[fstAt];simp
section
variable {P : Ps} {ver : Int} {A : Nat → Int} {SN : Nat → Int} {SL : Nat → Nat} {SX : Nat → Nat → Int} {i q : Nat}
theorem giveP_old{i k:Nat}(h:∀j,j<i→A j≠(k:Int)):(giveP P ver A SN SL SX i).m k=P.m k∧(giveP P ver A SN SL SX i).t k=P.t k:=by
 have h1:¬0≤fstAt A (k:Int) i 0:=fun h2=>by
  obtain⟨j,_,hj,e⟩:=(fstAt_neg A (k:Int) i 0).1 h2;exact h j (by omega) e
 simp only[giveP];rw[if_neg h1,if_neg h1];exact⟨rfl,rfl⟩
theorem giveP_succ{k:Nat}(hd:∀j,j<i→A j≠A i):(giveP P ver A SN SL SX (i+1)).m k=(if A i=(k:Int)then P.m k+1 else(giveP P ver A SN SL SX i).m k) ∧
 (giveP P ver A SN SL SX (i+1)).t k=(if A i=(k:Int)then keepT (P.t k) (P.m k) ver (SN i) (SL i) (SX i)else(giveP P ver A SN SL SX i).t k):=by
 have e:=fstAt_succ A (k:Int) i 0
 rw[Nat.zero_add]at e
 by_cases h:A i=(k:Int)
 ·have h1:¬0≤fstAt A (k:Int) i 0:=fun h2=>by
   obtain⟨j,_,hj,e⟩:=(fstAt_neg A (k:Int) i 0).1 h2;exact hd j (by omega) (by rw[e,h])
  rw[if_neg h1,if_pos h]at e;simp only[giveP];rw[e];refine⟨?_,?_⟩;·rw[if_pos (by omega),if_pos h]
  rw[if_pos (by omega),if_pos h,Int.toNat_natCast]
 ·by_cases h1:0≤fstAt A (k:Int) i 0
  ·rw[if_pos h1]at e
   simp only[giveP];rw[e,if_neg h,if_neg h];exact⟨rfl,rfl⟩
  rw[if_neg h1,if_neg h]at e;simp only[giveP];rw[e];refine⟨?_,?_⟩;·rw[if_neg (by decide),if_neg h,if_neg h1]
  rw[if_neg (by decide),if_neg h,if_neg h1]
end
end
def meshV(vb vl:Value):Value:=.agg #[vb,vl]
def prB(P Q:Ps)(k:Nat):Bool:=peerB (P.th k) (Q.th k) (P.rm k) (Q.rm k) (P.m k) (Q.m k) (P.t k) (Q.t k)
def restP(P Q:Ps):Nat→Nat→Bool
 |0,_=>true
 |f+1,k=>prB P Q k&&restP P Q f (k+1)
def peersB(n m:Nat)(P Q:Ps):Bool:=decide (n=m)&&restP P Q n 0
def isTh(P:Ps)(ver:Int)(k i:Nat):Bool:=P.th k&&decide ((P.t k).V i=ver)
def seenN(P:Ps)(l:List (Nat×Nat))(N:Int):Bool:=l.any fun x=>decide ((P.t x.1).N x.2=N)
def thStep(P:Ps)(ver:Int)(k:Nat)(l:List (Nat×Nat))(i:Nat):List (Nat×Nat):=if isTh P ver k i && !seenN P l ((P.t k).N i)then l++[(k,i)]else l
def thRow(P:Ps)(ver:Int)(k:Nat)(l:List (Nat×Nat))(f:Nat):List (Nat×Nat):=(List.range f).foldl (thStep P ver k) l
def thAll(P:Ps)(ver:Int)(f:Nat):List (Nat×Nat):=(List.range f).foldl (fun l k=>thRow P ver k l (P.m k)) []
def thereL(P:Ps)(ver:Int)(np:Nat):List (Nat×Nat):=thAll P ver np
theorem thRow_zero(P:Ps)(ver:Int)(k:Nat)(l:List (Nat×Nat)):thRow P ver k l 0=l:=rfl
theorem thRow_succ(P:Ps)(ver:Int)(k:Nat)(l:List (Nat×Nat))(f:Nat):thRow P ver k l (f+1)=thStep P ver k (thRow P ver k l f) f:=by
 unfold thRow;rw[List.range_succ,List.foldl_append];rfl
theorem thAll_zero(P:Ps)(ver:Int):thAll P ver 0=[]:=rfl
theorem thAll_succ(P:Ps)(ver:Int)(f:Nat):thAll P ver (f+1)=thRow P ver f (thAll P ver f) (P.m f):=by
 unfold thAll;rw[List.range_succ,List.foldl_append];rfl
structure ThOk(P:Ps)(ver:Int)(np:Nat)(l:List (Nat×Nat)):Prop where
 at_:∀x,x∈l→x.1<np∧x.2<P.m x.1∧P.th x.1=true∧(P.t x.1).V x.2=ver
 once:List.Pairwise (fun x y=>(P.t x.1).N x.2≠(P.t y.1).N y.2) l
theorem seenN_iff{P:Ps}{l:List (Nat×Nat)}{N:Int}:seenN P l N=true↔∃x,x∈l∧(P.t x.1).N x.2=N:=by
 unfold seenN;rw[List.any_eq_true];constructor;·rintro⟨x,h1,h2⟩;exact⟨x,h1,of_decide_eq_true h2⟩
 rintro⟨x,h1,h2⟩;exact⟨x,h1,decide_eq_true h2⟩
theorem ThOk.step{P:Ps}{ver:Int}{np k i:Nat}{l:List (Nat×Nat)}(h:ThOk P ver np l)(hk:k<np)(hi:i<P.m k):ThOk P ver np (thStep P ver k l i):=by
 unfold thStep;by_cases c:(isTh P ver k i && !seenN P l ((P.t k).N i))=true
 ·rw[if_pos c]
  rw[Bool.and_eq_true]at c;obtain⟨c1,c2⟩:=c;unfold isTh at c1;rw[Bool.and_eq_true,decide_eq_true_iff]at c1;refine⟨fun x hx=>?_,?_⟩
  ·rcases List.mem_append.1 hx with h1|h1
   ·exact h.at_ x h1
   obtain rfl:x=(k,i):=by simpa using h1
   exact⟨hk,hi,c1.1,c1.2⟩
  rw[List.pairwise_append];refine⟨h.once,List.pairwise_singleton _ _,fun x hx y hy e=>?_⟩;obtain rfl:y=(k,i):=by simpa using hy
  rw[seenN_iff.2 ⟨x,hx,e⟩]at c2;cases c2
 rw[if_neg c];exact h
theorem ThOk.row{P:Ps}{ver:Int}{np k:Nat}{l:List (Nat×Nat)}(h:ThOk P ver np l)(hk:k<np):∀f,f≤P.m k→ThOk P ver np (thRow P ver k l f):=by
 intro f;induction f with
 |zero=>intro _;exact h
 |succ f ih=>intro hf;rw[thRow_succ];exact(ih (by omega)).step hk (by omega)
theorem thAll_ok(P:Ps)(ver:Int)(np:Nat):∀f,f≤np→ThOk P ver np (thAll P ver f):=by
 intro f;induction f with
 |zero=>intro _;exact⟨fun x hx=>(by cases hx),List.Pairwise.nil⟩
 |succ f ih=>intro hf;rw[thAll_succ];exact(ih (by omega)).row (by omega) _ (Nat.le_refl _)
theorem nodup_few:∀(m:Nat) (l:List Nat),l.Nodup→(∀x,x∈l→x<m)→l.length≤m:=by
 intro m;induction m with
 |zero =>
  intro l _ h;cases l with
  |nil=>exact Nat.le_refl _
  |cons a l=>exact absurd (h a (by simp)) (Nat.not_lt_zero _)
 |succ m ih =>
  intro l hn h;have h1:=ih (l.erase m) (hn.erase m) (fun x hx=>by
   have h2:=(hn.mem_erase_iff).1 hx;have h3:=h x h2.2;have:=h2.1;omega)
  have h4:l.length≤(l.erase m).length+1:=by
   by_cases c:m∈l;·rw[List.length_erase_of_mem c];omega
   rw[List.erase_of_not_mem c];omega
  omega
theorem once_len{l:List (Nat×Nat)}{f:Nat×Nat→Int}(h:List.Pairwise (fun x y=>f x≠f y) l){m:Nat}(hb:∀x,x∈l→0≤f x∧f x<(m:Int)):l.length≤m:=by
 have h1:(l.map fun x=>(f x).toNat).Nodup:=by
  rw[List.Nodup,List.pairwise_map];refine h.imp_of_mem fun {x y} hx hy hxy e=>hxy ?_;have:=hb x hx;have:=hb y hy;omega
 have h2:=nodup_few m _ h1 (fun z hz=>by
  obtain⟨x,hx,rfl⟩:=List.mem_map.1 hz;have:=hb x hx;omega)
 simpa using h2
theorem checkPeers_any(vb:Value)(n:Nat)(PV:Nat→Value)(b:Bk)(vl:Value)(np:Nat)(KV:Nat→Value)(UV:Nat→Nat→Value)(P:Ps)(w:World)(hv:VeSl w w.heap.size vb n PV b)(hl:PsSl w w.heap.size vl np KV UV P):
 Calls Tryz.prog 46 #[bookV vb,vl] w fun e w'=>e=.returned (.int .i64 (peersE n b np P))∧Below w.heap.size w w':=by
 have HV:=hid hv
 have HL:=hid hl
 obtain⟨ad,cap,rfl,_,_⟩:=hv
 obtain⟨al,cl,rfl,⟨hcl,hbig⟩,_⟩:=hl
 have hbx:=below_alloc w (.cells #[.slice ad n cap] 24)
 have HCk:=hid (checkBook_any _ n PV b _ (HV.out.up hbx))
 have k0:=heap_alloc_new w (.cells #[.slice ad n cap] 24)
 have c0:(w.alloc (.cells #[.slice ad n cap] 24)).cell? ⟨w.heap.size,0,none⟩=some (.slice ad n cap):=cell_at k0 rfl
 have HK0:=hid k0
 have HBx:=hid hbx
 obtain⟨ans,hans⟩:∃c,peersE n b np P=c:=⟨_,rfl⟩
 rw[hans]
 unfold peersE at hans
 obtain⟨c,hcc⟩:∃c,bookE n b=c:=⟨_,rfl⟩
 rw[hcc]at HCk hans
 have HA:=hid hans
 clear hbx hans hcc k0
 unfold bookV at HCk
 unfold bookV
 go_enter Tryz.func46,Tryz.ntmps46
 go_wp2_with fail
 refine Calls.mono HCk.out ?_
 rintro e W ⟨rfl,hbW⟩
 have HBW:=hid (HBx.out.trans (hbW.mono HBx.out.size))
 have HKW:=hid (stayB HK0.out hbW)
 clear hbW HCk c0
 by_cases hc0:c=0
 ·subst hc0
  have ha:=HA.out;rw[if_pos rfl]at ha;by_cases h8:np≤8
  ·rw[if_pos h8]at ha
   have HS0:=hid ha;clear ha HA;have h8i:¬(8:Int)<(np:Int):=by omega
   go_wp2;go_loopw [19] (fun iv wr=>∃k:Nat,k≤np∧iv=.int .i64 k∧Hid (Below W.heap.size W wr)∧Hid (scanP n b P (np-k) k=ans)) (fun iv _=>np-(intOf iv).toNat)
   case atStart=>exact⟨0,Nat.zero_le _,rfl,Below.refl _ _,HS0⟩
   case round =>
    obtain⟨k,hk,rfl,HB,HS⟩:=hrel;by_cases hlt:k<np
    ·have hki:(k:Int)<(np:Int):=by omega
     have HBr:=hid (HBW.out.trans (HB.out.mono HBW.out.size));obtain⟨bl,off,rfl,hbl,g0,g1,g2,g3⟩:=(HL.out.up HBr.out).at hlt;have G3:=hid g3;obtain⟨ak,ck,hke,_,_⟩:=g3;rw[hke]at g2 G3;have hbA:=below_alloc wr (.cells #[.bool (P.th k),.int .i64 (P.rm k),.slice ak (P.m k) ck] 41);have hstep:=HS.out;rw[show np-k=(np-(k+1))+1 by omega]at hstep;simp only[scanP]at hstep;have HCp:=hid (checkPeer_any _ n PV b (P.th k) (P.rm k) _ (P.m k) (UV k) (P.t k) _ ((HV.out.up HBr.out).up hbA) (G3.out.up hbA));have cb:wr.cell? ⟨w.heap.size,0,none⟩=some (.slice ad n cap):=cell_at (stayB HKW.out HB.out) rfl;have cb2:(wr.alloc (.cells #[.bool (P.th k),.int .i64 (P.rm k),.slice ak (P.m k) ck] 41)).cell? ⟨w.heap.size,0,none⟩=some (.slice ad n cap):=by rw[hbA.cell (cell_lt cb)];exact cb
     have HBA:=hid (HB.out.trans (hbA.mono HB.out.size));obtain⟨ep,hep⟩:∃x,peerE n b (P.rm k) (P.m k) (P.t k)=x:=⟨_,rfl⟩;rw[hep]at HCp hstep;have HSt:=hid hstep;clear hep hstep hbA hke;unfold bookV peerV at HCp;go_wp2_with fail
     refine Calls.mono HCp.out ?_;rintro e w2 ⟨rfl,hb2⟩;have HB2:=hid (HBA.out.trans (hb2.mono HBA.out.size));clear hb2 HCp cb cb2 g0 g1 g2;by_cases he:ep=0
     ·have hst:=HSt.out
      rw[if_pos he]at hst;have HNx:=hid hst;have heb:(ep != 0)=false:=by rw[bne_eq_false_iff_eq];exact he
      clear hst he;go_wp2;go_roundw
      case rel=>exact⟨k+1,by omega,by go_num,HB2,HNx⟩
      case measure=>simp only[intOf];omega
     have hst:=HSt.out;rw[if_neg he]at hst;have heb:(ep != 0)=true:=by simpa using he
     have HFn:=hid hst;clear hst he;go_wp2;go_ret;exact⟨by rw[HFn.out];rfl,HBW.out.trans (HB2.out.mono HBW.out.size)⟩
    have hke:np=k:=by omega
    subst hke;have hst:=HS.out;rw[Nat.sub_self]at hst;have HFin:Hid ((0:Int)=ans):=hst;clear hst;go_wp2;go_ret;exact⟨by rw[←HFin.out];rfl,HBW.out.trans (HB.out.mono HBW.out.size)⟩
  rw[if_neg h8]at ha;subst ha;have h8i:(8:Int)<(np:Int):=by omega
  clear HA;go_wp2;go_ret;exact⟨rfl,HBW.out⟩
 ·have hcb:(c != 0)=true:=by simpa using hc0
  have ha:=HA.out;rw[if_neg hc0]at ha;subst ha;clear hc0 HA;go_wp2;go_ret;exact⟨rfl,HBW.out⟩
theorem isl_take{w:World}{B:Nat}{a:Option Addr}{c q:Nat}{l:List Int}(h:IntSl w B (.slice a l.length c) l.length (fun j=>l.getD j 0))(hq:q≤l.length):IntSl w B (.slice a q c) (l.take q).length (fun j=>(l.take q).getD j 0):=by
 obtain⟨ad,cap,he,⟨h0,h1⟩,h2⟩:=h;injection he with e1 _ e3;subst e1 e3;have hl:(l.take q).length=q:=by rw[List.length_take];omega
 rw[hl];refine⟨a,c,rfl,⟨by omega,by omega⟩,?_⟩;by_cases hq0:q=0;·exact Or.inl hq0
 rcases h2 with h2|⟨b,off,rfl,h4,h5⟩;·omega
 refine Or.inr ⟨b,off,rfl,h4,fun j hj=>?_⟩;rw[h5 j (by omega)];congr 2;simp[List.getD_eq_getElem?_getD,hj]
theorem placesFor_any(vl:Value)(np:Nat)(KV:Nat→Value)(UV:Nat→Nat→Value)(P:Ps)(ver many:Int)(w:World)(hn:np≤8)(hr:∀k,k<np→(0≤P.rm k∧P.rm k≤20)∧(P.m k:Int)≤P.rm k)(hl:PsSl w w.heap.size vl np KV UV P):
 Calls Tryz.prog 128 #[vl,.int .i64 ver,.int .i64 many] w (LiPost w (forL P ver np many) (manyE P ver np many)):=by
 have HL:=hid hl
 have HR:=hid hr
 obtain⟨al,cl,rfl,⟨hcl,hbig⟩,_⟩:=hl
 obtain⟨ii,hii,hzz0,hzz1,hzz2⟩:=info_parts Tryz.infoInt
 obtain⟨er,her⟩:∃c,manyE P ver np many=c:=⟨_,rfl⟩
 obtain⟨lo,hlo⟩:∃c,forL P ver np many=c:=⟨_,rfl⟩
 rw[her,hlo]
 unfold forL at hlo
 rw[her]at hlo
 unfold manyE at her
 have HEr:=hid her
 have HLo:=hid hlo
 have HIn:=hid (in_any many 0 8 w)
 clear hr her hlo
 by_cases h8:0≤many∧many≤8
 ·rw[decide_eq_true h8]at HIn
  obtain⟨q,rfl⟩:∃q:Nat,many=q:=⟨many.toNat,by omega⟩;go_enter Tryz.func128,Tryz.ntmps128;go_wp2_with fail
  refine Calls.mono HIn.out ?_;rintro e w1 ⟨rfl,hw1⟩;subst w1;go_wp2;go_loopw [8,9] (fun vo lv wr=>∃(r:Nat) (D:List Int),r≤20∧lv=.int .i64 r∧Hid (OwnL w wr vo D)∧Hid (D++lefts P ver np r=orderL P ver np)∧Hid (D.length≤(20-r)*8)) (fun _ lv _=>(intOf lv).toNat)
  case atStart=>exact⟨20,[],Nat.le_refl _,rfl,OwnL.nil _,rfl,Nat.zero_le _⟩
  case round =>
   obtain⟨r,D,hr20,rfl,OW,HO,HDl⟩:=hrel;by_cases hr0:r=0
   ·subst hr0
    have hD:D=orderL P ver np:=by have h:=HO.out;simpa[lefts]using h
    have hdl:=HDl.out;have hs:=OW.out.isl (by omega);have HS:=hid hs;obtain⟨ao,co,rfl,⟨hco,_⟩,_⟩:=hs;have hE:=HEr.out;have hL:=HLo.out;rw[if_pos h8,←hD]at hE;rw[←hD]at hL;clear hD HO;by_cases hsh:D.length<q
    ·rw[if_pos (by omega)]at hE
     subst hE;rw[if_neg (by decide)]at hL;subst hL;have hsi:(D.length:Int)<(q:Int):=by omega
     go_wp2;go_ret2;exact liPost_nil OW.out.2
    rw[if_neg (by omega)]at hE;subst hE;rw[if_pos rfl,Int.toNat_natCast]at hL;have HLl:=hid hL;have hsi:¬(D.length:Int)<(q:Int):=by omega
    have hqc:(q:Int)≤(co:Int):=by omega
    clear hL;go_wp2;go_ret2;exact⟨OW.out.2,_,rfl,by rw[←HLl.out];exact isl_take HS.out (by omega)⟩
   obtain⟨r',rfl⟩:∃r',r=r'+1:=⟨r-1,by omega⟩;have hrp:(0:Int)<((r'+1:Nat):Int):=by omega
   go_wp2;obtain⟨vo,hvo⟩:∃vo,u8=vo:=⟨_,rfl⟩;subst hvo;obtain⟨w0,hw0⟩:∃w0,wr=w0:=⟨_,rfl⟩;subst hw0;go_loopw [8,21] (fun vo kv wz=>∃k:Nat,k≤np∧kv=.int .i64 k∧Hid (OwnL w wz vo (D++pickL (fitK P ver ((r'+1:Nat):Int)) k))) (fun _ kv _=>np-(intOf kv).toNat)
   case atStart=>exact⟨0,Nat.zero_le _,rfl,by show OwnL _ _ _ _;rw[show pickL (fitK P ver ((r'+1:Nat):Int)) 0=[]from rfl,List.append_nil];exact OW.out⟩
   case round =>
    obtain⟨k,hk,rfl,OZ⟩:=hrel;obtain⟨R,hR⟩:∃R:Int,((r'+1:Nat):Int)=R:=⟨_,rfl⟩;rw[hR]at OZ ⊢;have hRb:1≤R∧R≤20:=by omega
    have HRr:=hid hR;clear hR hrp;by_cases hlt:k<np
    ·have hki:(k:Int)<(np:Int):=by omega
     obtain⟨bl,off,rfl,hbl,g0,g1,g2,g3⟩:=(HL.out.up OZ.out.2).at hlt;have G3:=hid g3;obtain⟨ak,ck,hke,_,_⟩:=g3;rw[hke]at g2 G3;have hbA:=below_alloc wr (.cells #[.bool (P.th k),.int .i64 (P.rm k),.slice ak (P.m k) ck] 41);have HAt:=hid (atPeer_any (P.th k) (P.rm k) _ (P.m k) (UV k) (P.t k) ver _ (G3.out.up hbA));have hrk:=HR.out k hlt;have hsc:=pickL_succ (fitK P ver R) k;have hll:=pickL_len (fitK P ver R) k;have hdl:=HDl.out;have OA:=hid (OZ.out.up hbA);have hfit:fitK P ver R k=(P.th k&&(decide (leftK P k=R)&&noneK P ver k)):=rfl;unfold leftK noneK at hfit;obtain⟨fa,hfa⟩:∃x,fstAt (P.t k).V ver (P.m k) 0=x:=⟨_,rfl⟩;rw[hfa]at HAt hfit;obtain⟨rm,hrm⟩:∃x,P.rm k=x:=⟨_,rfl⟩;obtain⟨mk,hmk⟩:∃x,P.m k=x:=⟨_,rfl⟩;obtain⟨thk,hthk⟩:∃x,P.th k=x:=⟨_,rfl⟩;rw[hrm]at g1 HAt hrk hfit OA
     rw[hmk]at g2 HAt hrk hfit OA;rw[hthk]at g0 HAt hfit OA;clear hbA hke hfa hrm hmk hthk G3;unfold peerV at HAt;cases thk with
     |false =>
      rw[Bool.false_and]at hfit;rw[hfit,if_neg (by decide),List.append_nil]at hsc;have HSc:=hid hsc;clear hsc hfit;go_wp2;go_roundw
      case rel=>exact⟨k+1,by omega,by go_num,by rw[HSc.out];exact OA.out⟩
      case measure=>simp only[intOf];omega
     |true =>
      rw[Bool.true_and]at hfit;by_cases hle:rm-(mk:Int)=R
      ·rw[decide_eq_true hle,Bool.true_and]at hfit
       have hlb:(rm-(mk:Int)==R)=true:=by rw[beq_iff_eq];exact hle
       have HLe:=hid hle;clear hle;go_wp2_with fail
       refine Calls.mono HAt.out ?_;rintro e w2 ⟨rfl,hb2⟩;have O2:=hid (OA.out.up hb2);have hge:w.heap.size≤w2.heap.size:=O2.out.2.size;clear hb2 HAt;by_cases hfn:fa<0
       ·rw[decide_eq_true hfn]at hfit
        rw[hfit,if_pos rfl]at hsc;have HSc:=hid hsc;have hlen:(D++pickL (fitK P ver R) k).length≤200:=by rw[List.length_append];omega
        clear hsc hfit;go_wp2_with(at_builtin;go_must(refine wpList_append_own _ rfl (.tmp 44) (.tmp 46) 28 rfl w.heap.size 3 ii (.int .i64 0) 1 8 Tryz.underlying28 hii hzz0 hzz1 hzz2 rfl (by decide) _ _ _ rfl (World.ownsRow.alloc O2.out.1 _) ⟨_,0,none⟩ 1 1 [.int .i64 (k:Int)] rfl rfl (newCell _ _ _) (oneCell _) (by unfold maxLen;omega) (by omega) (by simp;omega) ?_;intro v1 w6 ho6 hg6 _;have O6:=hid (O2.out.push ho6 hg6);clear ho6 hg6))
        go_roundw
        case rel=>exact⟨k+1,by omega,by go_num,by rw[HSc.out,←List.append_assoc];exact O6.out⟩
        case measure=>simp only[intOf];omega
       rw[decide_eq_false hfn]at hfit;rw[hfit,if_neg (by decide),List.append_nil]at hsc;have HSc:=hid hsc;clear hsc hfit;go_wp2;go_roundw
       case rel=>exact⟨k+1,by omega,by go_num,by rw[HSc.out];exact O2.out⟩
       case measure=>simp only[intOf];omega
      rw[decide_eq_false hle,Bool.false_and]at hfit;have hlb:(rm-(mk:Int)==R)=false:=by rw[beq_eq_false_iff_ne];exact hle
      rw[hfit,if_neg (by decide),List.append_nil]at hsc;have HSc:=hid hsc;clear hsc hfit hle;go_wp2;go_roundw
      case rel=>exact⟨k+1,by omega,by go_num,by rw[HSc.out];exact OA.out⟩
      case measure=>simp only[intOf];omega
    have hke:np=k:=by omega
    subst hke;have hll:=pickL_len (fitK P ver R) np;have hdl:=HDl.out;have hR2:R-1=(r':Int):=by have:=HRr.out;omega
    go_wp2;go_roundw
    case rel=>exact⟨r',D++pickL (fitK P ver R) np,by omega,by have:=HRr.out;go_num,OZ,by show _=_;rw[←HO.out,List.append_assoc,←HRr.out];rfl,by show _≤_;rw[List.length_append];omega⟩
    case measure=>simp only[intOf];omega
 ·rw[decide_eq_false h8]at HIn
  have hE:=HEr.out;have hL:=HLo.out;rw[if_neg h8]at hE;subst hE;rw[if_neg (by decide)]at hL;subst hL;go_enter Tryz.func128,Tryz.ntmps128;go_wp2_with fail
  refine Calls.mono HIn.out ?_;rintro e w1 ⟨rfl,hw1⟩;subst w1;go_wp2;go_ret2;exact liPost_nil (Below.refl _ _)
end Go.Proofs.YtajmnlhfnhbleaaGreat
