/- Several texts of one proof, in their order. -/
import Derived.Test.YtajmnlhfnhbleaaGreatKw10
namespace Go.Proofs.YtajmnlhfnhbleaaGreat
open Go.RowKit CurveMath
set_option linter.unusedVariables false
section
theorem keepL_top{t:Kt}{ver:Int}{m:Nat}(h:∀j,j<m→t.V j<ver):keepL t ver m=List.range (m+1):=by
 have h1:agL (ahB t ver) m=List.range m:=by
  unfold agL;rw[List.filter_eq_self];intro j hj;exact decide_eq_true (h j (List.mem_range.1 hj))
 have h2:agL (bhB t ver) m=[]:=by
  unfold agL;rw[List.filter_eq_nil_iff];intro j hj;have:=h j (List.mem_range.1 hj);unfold bhB;simp;omega
 unfold keepL;rw[h1,h2,List.append_nil,List.range_succ]
theorem keepT_top{t:Kt}{ver N:Int}{m L:Nat}{X:Nat→Int}(h:∀j,j<m→t.V j<ver):∀j,j<m+1→(keepT t m ver N L X).V j=(snocT m t ver N L X).V j∧(keepT t m ver N L X).N j=(snocT m t ver N L X).N j∧(keepT t m ver N L X).L j=(snocT m t ver N L X).L j∧(keepT t m ver N L X).X j=(snocT m t ver N L X).X j:=by
 intro j hj;have e:(List.range (m+1)).getD j 0=j:=by simp[List.getD_eq_getElem?_getD,hj]
 simp only[keepT,selT,keepL_top h,e];exact⟨trivial,trivial,trivial,trivial⟩
theorem snocT_same{t:Kt}{m:Nat}{ver N:Int}{L:Nat}{X:Nat→Int}{i:Nat}(h:i<m):(snocT m t ver N L X).V i=t.V i∧(snocT m t ver N L X).N i=t.N i∧(snocT m t ver N L X).L i=t.L i∧(snocT m t ver N L X).X i=t.X i:=by
 have hne:i≠m:=by omega
 simp[snocT,hne]
section
variable {n : Nat} {b : Bk} {np : Nat} {P : Ps} {need of : Int} {len : Nat} {D : Nat → Int} {lp : Nat} {X : Nat → Int}
structure SaveOk(n:Nat)(b:Bk)(np:Nat)(P:Ps)(need of:Int)(len:Nat)(D:Nat→Int)(lp:Nat)(X:Nat→Int):Prop where
 mesh:MeshR n b np P
 split:splitE need of (len:Int) len D=0
 book:bookE (n+1) (saveB n b need of len lp X)=0
 many:manyE P (n:Int) np (of.toNat:Int)=0
 of_:(of.toNat:Int)=of
theorem saveE_ok(h:saveE n b np P need of len D lp X=0):SaveOk n b np P need of len D lp X:=by
 unfold saveE at h;by_cases h1:peersE n b np P=0
 ·rw[if_pos h1]at h
  by_cases h2:splitE need of (len:Int) len D=0
  ·rw[if_pos h2]at h
   by_cases h3:bookE (n+1) (saveB n b need of len lp X)=0
   ·rw[if_pos h3]at h
    have hp:=(planOk_spec (splitE_ok h2).1);have ho:(of.toNat:Int)=of:=by omega
    exact⟨meshR_of h1,h2,h3,by rw[ho];exact h,ho⟩
   rw[if_neg h3]at h;exact absurd h h3
  rw[if_neg h2]at h;exact absurd h h2
 rw[if_neg h1]at h;exact absurd h h1
theorem SaveOk.right(h:SaveOk n b np P need of len D lp X):MeshR (n+1) (saveB n b need of len lp X) np (saveP n np P need of len D):=by
 refine⟨h.book,h.mesh.few,fun k hk=>?_⟩;have hp:PeerR (n+1) (saveB n b need of len lp X) (P.rm k) (P.m k) (P.t k):=(h.mesh.peer k hk).snoc h.book;simp only[saveP,giveP];by_cases c:0≤fstAt (forA P (n:Int) np of.toNat) (k:Int) of.toNat 0
 ·rw[if_pos c,if_pos c]
  obtain⟨j,_,hj,e⟩:=(fstAt_neg _ _ _ 0).1 c;obtain⟨q,hq1,hq2,hmay,hleft⟩:=forA_at h.many (i:=j) (by omega);have hqk:q=k:=by rw[hq1]at e;omega
  subst hqk;unfold leftK at hleft;obtain⟨i,hi1,_,hi2,_⟩:=(show ∃i:Nat,fstAt (forA P (n:Int) np of.toNat) (q:Int) of.toNat 0=(i:Int)∧0≤i∧i<of.toNat∧True from⟨(fstAt (forA P (n:Int) np of.toNat) (q:Int) of.toNat 0).toNat,by omega,Nat.zero_le _,by
   have hb:∀(m k:Nat),fstAt (forA P (n:Int) np of.toNat) (q:Int) m k<((k+m:Nat):Int):=by
    intro m;induction m with
    |zero=>intro k;simp only[fstAt];omega
    |succ m ih =>
     intro k;simp only[fstAt];by_cases c2:(q:Int)=forA P (n:Int) np of.toNat k;·rw[if_pos c2];omega
     rw[if_neg c2];have:=ih (k+1);omega
   have:=hb of.toNat 0;omega,trivial⟩)
  have e1:(saveB n b need of len lp X).nd (n:Int).toNat=need:=by simp[saveB,snocB]
  have e2:(saveB n b need of len lp X).of (n:Int).toNat=of:=by simp[saveB,snocB]
  have e3:(saveB n b need of len lp X).sz (n:Int).toNat=(len:Int):=by simp[saveB,snocB]
  refine keepT_right hp (by omega) hmay.2 ⟨by omega,by omega⟩ ?_;rw[e1,e2,e3,hi1,Int.toNat_natCast];exact split_right h.split (by rw[←h.of_];omega)
 rw[if_neg c,if_neg c];exact hp
end
structure AlikeV(np:Nat)(P P':Ps)(ver:Int):Prop where
 th:∀k,k<np→P'.th k=P.th k
 at_:∀k,k<np→∀i,i<P.m k→(P'.t k).V i=(P.t k).V i∧(P'.t k).N i=(P.t k).N i∧(P'.t k).L i=(P.t k).L i∧(P'.t k).X i=(P.t k).X i
 more:∀k,k<np→P'.m k=P.m k∨(P'.m k=P.m k+1∧(P'.t k).V (P.m k)≠ver)
section
variable {np : Nat} {P P' : Ps} {ver : Int}
theorem any_eq{α:Type}{l:List α}{p q:α→Bool}(h:∀x,x∈l→p x=q x):l.any p=l.any q:=by
 induction l with
 |nil=>rfl
 |cons a l ih=>rw[List.any_cons,List.any_cons,h a (by simp),ih fun x hx=>h x (by simp[hx])]
theorem AlikeV.seen(h:AlikeV np P P' ver){l:List (Nat×Nat)}(hl:ThOk P ver np l)(N:Int):seenN P' l N=seenN P l N:=by
 unfold seenN;refine any_eq fun x hx=>?_;obtain⟨h1,h2,_⟩:=hl.at_ x hx;rw[(h.at_ x.1 h1 x.2 h2).2.1]
theorem AlikeV.step(h:AlikeV np P P' ver){l:List (Nat×Nat)}(hl:ThOk P ver np l){k i:Nat}(hk:k<np)(hi:i<P.m k):thStep P' ver k l i=thStep P ver k l i:=by
 obtain⟨h1,h2,_⟩:=h.at_ k hk i hi;unfold thStep isTh;rw[h.th k hk,h1,h2,h.seen hl]
theorem AlikeV.row(h:AlikeV np P P' ver){l:List (Nat×Nat)}(hl:ThOk P ver np l){k:Nat}(hk:k<np):∀f,f≤P.m k→thRow P' ver k l f=thRow P ver k l f:=by
 intro f;induction f with
 |zero=>intro _;rfl
 |succ f ih =>
  intro hf;rw[thRow_succ,thRow_succ,ih (by omega)];exact h.step (hl.row hk f (by omega)) hk (by omega)
theorem AlikeV.rows(h:AlikeV np P P' ver){l:List (Nat×Nat)}(hl:ThOk P ver np l){k:Nat}(hk:k<np):thRow P' ver k l (P'.m k)=thRow P ver k l (P.m k):=by
 rcases h.more k hk with e|⟨e,hne⟩;·rw[e];exact h.row hl hk _ (Nat.le_refl _)
 rw[e,thRow_succ,h.row hl hk _ (Nat.le_refl _)];unfold thStep isTh;rw[decide_eq_false hne,Bool.and_false,Bool.false_and,if_neg (by decide)]
theorem AlikeV.all(h:AlikeV np P P' ver):∀f,f≤np→thAll P' ver f=thAll P ver f:=by
 intro f;induction f with
 |zero=>intro _;rfl
 |succ f ih =>
  intro hf;rw[thAll_succ,thAll_succ,ih (by omega)];exact h.rows (thAll_ok P ver np f (by omega)) (by omega)
theorem AlikeV.there(h:AlikeV np P P' ver):thereL P' ver np=thereL P ver np:=h.all np (Nat.le_refl _)
theorem AlikeV.shares(h:AlikeV np P P' ver):nT P' (thereL P ver np)=nT P (thereL P ver np)∧lT P' (thereL P ver np)=lT P (thereL P ver np)∧xT P' (thereL P ver np)=xT P (thereL P ver np):=by
 have key:∀j,j<(thereL P ver np).length→((thereL P ver np).getD j (0,0)).1<np∧((thereL P ver np).getD j (0,0)).2<P.m ((thereL P ver np).getD j (0,0)).1:=fun j hj=>by
  obtain⟨h1,h2,_⟩:=(thAll_ok P ver np np (Nat.le_refl _)).at_ _ (getD_in hj);exact⟨h1,h2⟩
 refine⟨?_,?_,?_⟩<;>funext j
 ·unfold nT nL
  by_cases c:j<(thereL P ver np).length;·rw[if_pos c,if_pos c,(h.at_ _ (key j c).1 _ (key j c).2).2.1]
  rw[if_neg c,if_neg c]
 ·unfold lT lL
  by_cases c:j<(thereL P ver np).length;·rw[if_pos c,if_pos c,(h.at_ _ (key j c).1 _ (key j c).2).2.2.1]
  rw[if_neg c,if_neg c]
 unfold xT xL;by_cases c:j<(thereL P ver np).length;·rw[if_pos c,if_pos c,(h.at_ _ (key j c).1 _ (key j c).2).2.2.2]
 rw[if_neg c,if_neg c]
end
theorem SaveOk.elder{n:Nat}{b:Bk}{np:Nat}{P:Ps}{need of:Int}{len:Nat}{D:Nat→Int}{lp:Nat}{X:Nat→Int}(h:SaveOk n b np P need of len D lp X){old:Int}(ho:0≤old∧old<(n:Int)):
 rsE (n+1) (saveB n b need of len lp X) np (saveP n np P need of len D) old=rsE n b np P old∧rsD (saveB n b need of len lp X) np (saveP n np P need of len D) old=rsD b np P old∧rsB (n+1) (saveB n b need of len lp X) np (saveP n np P need of len D) old=rsB n b np P old:=by
 have hlt:∀k,k<np→∀j,j<P.m k→(P.t k).V j<(n:Int):=fun k hk j hj=>((h.mesh.peer k hk).right j hj).1.2
 have ha:AlikeV np P (saveP n np P need of len D) old:=by
  refine⟨fun k _=>rfl,fun k hk i hi=>?_,fun k hk=>?_⟩
  ·simp only[saveP,giveP]
   by_cases c:0≤fstAt (forA P (n:Int) np of.toNat) (k:Int) of.toNat 0
   ·rw[if_pos c]
    obtain⟨e1,e2,e3,e4⟩:=keepT_top (N:=(((fstAt (forA P (n:Int) np of.toNat) (k:Int) of.toNat 0).toNat:Nat):Int)) (L:=rowsN need (len:Int)) (X:=fun r=>shv need.toNat len D (fstAt (forA P (n:Int) np of.toNat) (k:Int) of.toNat 0).toNat r) (hlt k hk) i (by omega);obtain⟨g1,g2,g3,g4⟩:=snocT_same (t:=P.t k) (m:=P.m k) (ver:=(n:Int)) (N:=(((fstAt (forA P (n:Int) np of.toNat) (k:Int) of.toNat 0).toNat:Nat):Int)) (L:=rowsN need (len:Int)) (X:=fun r=>shv need.toNat len D (fstAt (forA P (n:Int) np of.toNat) (k:Int) of.toNat 0).toNat r) hi;exact⟨e1.trans g1,e2.trans g2,e3.trans g3,e4.trans g4⟩
   rw[if_neg c];exact⟨rfl,rfl,rfl,rfl⟩
  simp only[saveP,giveP];by_cases c:0≤fstAt (forA P (n:Int) np of.toNat) (k:Int) of.toNat 0
  ·rw[if_pos c,if_pos c]
   refine Or.inr ⟨rfl,?_⟩;have e1:=(keepT_top (N:=(((fstAt (forA P (n:Int) np of.toNat) (k:Int) of.toNat 0).toNat:Nat):Int)) (L:=rowsN need (len:Int)) (X:=fun r=>shv need.toNat len D (fstAt (forA P (n:Int) np of.toNat) (k:Int) of.toNat 0).toNat r) (hlt k hk) (P.m k) (by omega)).1;rw[e1];simp[snocT];omega
  rw[if_neg c];exact Or.inl rfl
 have hb:∀q:Nat,q≠n→(saveB n b need of len lp X).nd q=b.nd q∧(saveB n b need of len lp X).of q=b.of q∧(saveB n b need of len lp X).sz q=b.sz q:=fun q hq=>by simp[saveB,snocB,hq]
 obtain⟨b1,b2,b3⟩:=hb old.toNat (by omega)
 obtain⟨s1,s2,s3⟩:=ha.shares
 have hv:verM (n+1) (saveB n b need of len lp X) np (saveP n np P need of len D) old=0:=by unfold verM;rw[if_pos h.right.e,if_pos ⟨ho.1,by omega⟩]
 have hv':verM n b np P old=0:=by unfold verM;rw[if_pos h.mesh.e,if_pos ho]
 refine⟨?_,?_,?_⟩
 ·unfold rsE;rw[hv,hv',ha.there,b1,b2,b3,s1,s2,s3]
 ·unfold rsD;rw[ha.there,b1,b3,s1,s3]
 ·unfold rsB;rw[hv,hv',ha.there,b1,b2,b3,s1,s2,s3]
end
section
def goP(P:Ps)(t:Nat→Bool):Ps:=⟨t,P.rm,P.m,P.t⟩
section
variable {n : Nat} {b : Bk} {np : Nat} {P : Ps} {need of : Int} {len : Nat} {D : Nat → Int} {lp : Nat} {X : Nat → Int} {t : Nat → Bool}
def gvn(n np:Nat)(P:Ps)(of:Int)(k:Nat):Int:=fstAt (forA P (n:Int) np of.toNat) (k:Int) of.toNat 0
theorem gvn_at{k:Nat}(h:0≤gvn n np P of k):∃i:Nat,gvn n np P of k=(i:Int)∧i<of.toNat∧forA P (n:Int) np of.toNat i=(k:Int):=by
 obtain⟨i,h1,_,h2,h3⟩:=fstAt_place _ _ _ _ h;exact⟨i,h1,by omega,h3⟩
theorem gvn_inj{k k':Nat}(h:0≤gvn n np P of k)(e:gvn n np P of k=gvn n np P of k'):k=k':=by
 obtain⟨i,h1,_,h3⟩:=gvn_at h;obtain⟨i',g1,_,g3⟩:=gvn_at (k:=k') (by rw[←e];exact h);have:i=i':=by omega
 subst this;rw[h3]at g3;omega
def hereB(n np:Nat)(P:Ps)(of:Int)(t:Nat→Bool)(k:Nat):Bool:=t k&&decide (0≤gvn n np P of k)
def hereL(n np:Nat)(P:Ps)(of:Int)(t:Nat→Bool)(f:Nat):List (Nat×Nat):=((List.range f).filter (hereB n np P of t)).map fun k=>(k,P.m k)
theorem hereL_succ(f:Nat):hereL n np P of t (f+1)=hereL n np P of t f++(if hereB n np P of t f=true then[(f,P.m f)]else[]):=by
 unfold hereL;rw[List.range_succ,List.filter_append,List.map_append,List.filter_cons,List.filter_nil];by_cases c:hereB n np P of t f=true;·rw[if_pos c,if_pos c];rfl
 rw[if_neg c,if_neg c];rfl
theorem mem_hereL{f:Nat}{x:Nat×Nat}:x∈hereL n np P of t f↔∃k,k<f∧hereB n np P of t k=true∧x=(k,P.m k):=by
 unfold hereL;rw[List.mem_map];constructor
 ·rintro⟨k,hk,rfl⟩
  rw[List.mem_filter,List.mem_range]at hk;exact⟨k,hk.1,hk.2,rfl⟩
 rintro⟨k,h1,h2,rfl⟩;exact⟨k,List.mem_filter.2 ⟨List.mem_range.2 h1,h2⟩,rfl⟩
theorem save_old(h:SaveOk n b np P need of len D lp X){k i:Nat}(hk:k<np)(hi:i<P.m k):((saveP n np P need of len D).t k).V i=(P.t k).V i:=by
 have hlt:∀j,j<P.m k→(P.t k).V j<(n:Int):=fun j hj=>((h.mesh.peer k hk).right j hj).1.2;simp only[saveP,giveP];by_cases c:0≤fstAt (forA P (n:Int) np of.toNat) (k:Int) of.toNat 0;·rw[if_pos c,(keepT_top hlt i (by omega)).1,(snocT_same hi).1]
 rw[if_neg c]
theorem save_new(h:SaveOk n b np P need of len D lp X){k:Nat}(hk:k<np)(c:0≤gvn n np P of k):(saveP n np P need of len D).m k=P.m k+1∧((saveP n np P need of len D).t k).V (P.m k)=(n:Int)∧((saveP n np P need of len D).t k).N (P.m k)=gvn n np P of k ∧
 ((saveP n np P need of len D).t k).L (P.m k)=rowsN need (len:Int)∧((saveP n np P need of len D).t k).X (P.m k)=fun r=>shv need.toNat len D (gvn n np P of k).toNat r:=by
 have hlt:∀j,j<P.m k→(P.t k).V j<(n:Int):=fun j hj=>((h.mesh.peer k hk).right j hj).1.2
 have c':0≤fstAt (forA P (n:Int) np of.toNat) (k:Int) of.toNat 0:=c
 obtain⟨i,hi,_,_⟩:=gvn_at c
 have hi':fstAt (forA P (n:Int) np of.toNat) (k:Int) of.toNat 0=(i:Int):=hi
 simp only[saveP,giveP]
 rw[if_pos c',if_pos c',hi,hi',Int.toNat_natCast]
 obtain⟨e1,e2,e3,e4⟩:=keepT_top (N:=(i:Int)) (L:=rowsN need (len:Int)) (X:=fun r=>shv need.toNat len D i r) hlt (P.m k) (by omega)
 refine⟨rfl,e1.trans ?_,e2.trans ?_,e3.trans ?_,e4.trans ?_⟩<;>simp[snocT]
theorem save_not{k:Nat}(c:¬0≤gvn n np P of k):(saveP n np P need of len D).m k=P.m k:=by
 have c':¬0≤fstAt (forA P (n:Int) np of.toNat) (k:Int) of.toNat 0:=c;simp only[saveP,giveP];rw[if_neg c']
theorem rowE_none(h:SaveOk n b np P need of len D lp X){k:Nat}(hk:k<np)(l:List (Nat×Nat)):∀f,f≤P.m k→thRow (goP (saveP n np P need of len D) t) (n:Int) k l f=l:=by
 intro f;induction f with
 |zero=>intro _;rfl
 |succ f ih =>
  intro hf;rw[thRow_succ,ih (by omega)];have hv:((goP (saveP n np P need of len D) t).t k).V f=(P.t k).V f:=save_old h hk (by omega);have hlt:=((h.mesh.peer k hk).right f (by omega)).1.2;unfold thStep isTh;rw[hv,decide_eq_false (by omega),Bool.and_false,Bool.false_and,if_neg (by decide)]
theorem there_new(h:SaveOk n b np P need of len D lp X):∀f,f≤np→thAll (goP (saveP n np P need of len D) t) (n:Int) f=hereL n np P of t f:=by
 intro f;induction f with
 |zero=>intro _;rfl
 |succ f ih =>
  intro hf;rw[thAll_succ,ih (by omega),hereL_succ];have hfn:f<np:=by omega
  by_cases c:0≤gvn n np P of f
  ·obtain⟨e1,e2,e3,_⟩:=save_new h hfn c
   have em:(goP (saveP n np P need of len D) t).m f=P.m f+1:=e1;rw[em,thRow_succ,rowE_none h hfn _ _ (Nat.le_refl _)];have ev:((goP (saveP n np P need of len D) t).t f).V (P.m f)=(n:Int):=e2;have en:((goP (saveP n np P need of len D) t).t f).N (P.m f)=gvn n np P of f:=e3;have hs:seenN (goP (saveP n np P need of len D) t) (hereL n np P of t f) (gvn n np P of f)=false:=by
    rw[Bool.eq_false_iff];intro hb;obtain⟨x,hx,e⟩:=seenN_iff.1 hb;obtain⟨k,hk,hh,rfl⟩:=mem_hereL.1 hx;unfold hereB at hh;rw[Bool.and_eq_true,decide_eq_true_iff]at hh;have e9:((goP (saveP n np P need of len D) t).t k).N (P.m k)=gvn n np P of k:=(save_new h (by omega) hh.2).2.2.1;have:=gvn_inj hh.2 (e9.symm.trans e);omega
   unfold thStep isTh hereB;rw[ev,en,hs,decide_eq_true rfl,decide_eq_true c,Bool.and_true,Bool.not_false,Bool.and_true];have et:(goP (saveP n np P need of len D) t).th f=t f:=rfl;rw[et,Bool.and_true];by_cases ct:t f=true;·rw[if_pos ct,if_pos ct]
   rw[if_neg ct,if_neg ct,List.append_nil]
  have em:(goP (saveP n np P need of len D) t).m f=P.m f:=save_not (need:=need) (len:=len) (D:=D) c;rw[em,rowE_none h hfn _ _ (Nat.le_refl _)];unfold hereB;rw[decide_eq_false c,Bool.and_false,if_neg (by decide),List.append_nil]
theorem here_at(h:SaveOk n b np P need of len D lp X){j:Nat}(hj:j<(hereL n np P of t np).length):∃(k i:Nat),(hereL n np P of t np).getD j (0,0)=(k,P.m k)∧k<np∧gvn n np P of k=(i:Int)∧i<of.toNat:=by
 obtain⟨k,h1,h2,h3⟩:=mem_hereL.1 (getD_in (d:=(0,0)) hj);unfold hereB at h2;rw[Bool.and_eq_true,decide_eq_true_iff]at h2;obtain⟨i,g1,g2,_⟩:=gvn_at h2.2;exact⟨k,i,h3,h1,g1,g2⟩
theorem SaveOk.shares(h:SaveOk n b np P need of len D lp X):RightS need.toNat of.toNat len (rowsN need (len:Int)) (hereL n np P of t np).length (fun j=>(nT (goP (saveP n np P need of len D) t) (hereL n np P of t np) j).toNat) D
 (nT (goP (saveP n np P need of len D) t) (hereL n np P of t np)) (lT (goP (saveP n np P need of len D) t) (hereL n np P of t np)) (xT (goP (saveP n np P need of len D) t) (hereL n np P of t np)):=by
 obtain⟨hpl,_,hD⟩:=splitE_ok h.split
 obtain⟨b1,b2,b3⟩:=planOk_spec hpl
 have e1:(need.toNat:Int)=need:=by omega
 have hone:List.Pairwise (fun x y=>((goP (saveP n np P need of len D) t).t x.1).N x.2≠((goP (saveP n np P need of len D) t).t y.1).N y.2) (hereL n np P of t np):=by
  rw[←there_new h np (Nat.le_refl _)];exact(thAll_ok _ (n:Int) np np (Nat.le_refl _)).once
 have key:∀j,j<(hereL n np P of t np).length→∃k i:Nat,nT (goP (saveP n np P need of len D) t) (hereL n np P of t np) j=(i:Int)∧i<of.toNat∧lT (goP (saveP n np P need of len D) t) (hereL n np P of t np) j=rowsN need (len:Int)∧xT (goP (saveP n np P need of len D) t) (hereL n np P of t np) j=fun r=>shv need.toNat len D i r:=fun j hj=>by
  obtain⟨k,i,g1,g2,g3,g4⟩:=here_at h hj;obtain⟨_,_,s3,s4,s5⟩:=save_new h g2 (by rw[g3];omega);obtain⟨t1,t2,t3⟩:=tT_eq (goP (saveP n np P need of len D) t) (hereL n np P of t np) hj;refine⟨k,i,?_,g4,?_,?_⟩;·rw[←t1];unfold nL;rw[g1];exact s3.trans g3
  ·rw[←t2];unfold lL;rw[g1];exact s4
  rw[←t3];unfold xL;rw[g1];exact s5.trans (by rw[g3,Int.toNat_natCast])
 refine⟨by rw[e1,h.of_];exact hpl,by rw[e1],hD,?_,fun j=>?_,fun j hj=>?_,fun i j hi hj e=>?_,fun j hj=>?_,fun j hj r hr=>?_⟩
 ·refine once_len hone fun x hx=>?_
  obtain⟨k,g1,g2,rfl⟩:=mem_hereL.1 hx;unfold hereB at g2;rw[Bool.and_eq_true,decide_eq_true_iff]at g2;obtain⟨i,q1,q2,_⟩:=gvn_at g2.2;have e9:((goP (saveP n np P need of len D) t).t k).N (P.m k)=gvn n np P of k:=(save_new h g1 g2.2).2.2.1;show 0≤((goP (saveP n np P need of len D) t).t k).N (P.m k)∧((goP (saveP n np P need of len D) t).t k).N (P.m k)<_;rw[e9,q1];omega
 ·by_cases c:j<(hereL n np P of t np).length
  ·obtain⟨k,i,g1,_⟩:=key j c
   simp only[g1];rfl
  simp only[nT];rw[if_neg c];rfl
 ·obtain⟨k,i,g1,g2,_⟩:=key j hj
  simp only[g1,Int.toNat_natCast];exact g2
 ·obtain⟨k1,i1,g1,_⟩:=key i hi
  obtain⟨k2,i2,q1,_⟩:=key j hj;simp only[g1,q1,Int.toNat_natCast]at e;have en:nL (goP (saveP n np P need of len D) t) (hereL n np P of t np) i=nL (goP (saveP n np P need of len D) t) (hereL n np P of t np) j:=by
   rw[(tT_eq _ _ hi).1,(tT_eq _ _ hj).1,g1,q1,e]
  rcases Nat.lt_trichotomy i j with hl|hl|hl;·exact absurd en (pairwise_getD hone hl hj)
  ·exact hl
  exact absurd en.symm (pairwise_getD hone hl hi)
 ·obtain⟨_,_,_,_,g3,_⟩:=key j hj
  exact g3
 ·obtain⟨k,i,g1,_,_,g4⟩:=key j hj
  simp only[g1,Int.toNat_natCast];rw[g4]
end
end
section
def benT(t:Kt)(i:Nat)(c:Int):Kt:=⟨t.V,t.N,t.L,fun j=>if j=i then fun r=>if r=0 then(t.X j 0+c)%31 else t.X j r else t.X j⟩
def bentP(P:Ps)(ver:Int)(W:List Nat)(c:Int):Ps:=⟨P.th,P.rm,P.m,fun k=>if k∈W then benT (P.t k) (atK P ver k) c else P.t k⟩
section
variable {P : Ps} {ver : Int} {W : List Nat} {c : Int}
end
section
variable {n : Nat} {b : Bk} {np : Nat} {P : Ps} {need of : Int} {len : Nat} {D : Nat → Int} {lp : Nat} {X : Nat → Int} {W : List Nat} {c : Int}
theorem save_has(h:SaveOk n b np P need of len D lp X){k:Nat}(hk:k<np):hasK (saveP n np P need of len D) (n:Int) k=decide (0≤gvn n np P of k)∧(0≤gvn n np P of k→atK (saveP n np P need of len D) (n:Int) k=P.m k∧P.th k=true):=by
 by_cases c:0≤gvn n np P of k
 ·obtain⟨e1,e2,_⟩:=save_new h hk c
  have hf:fstAt ((saveP n np P need of len D).t k).V (n:Int) ((saveP n np P need of len D).m k) 0=((P.m k:Nat):Int):=by
   rw[e1];have e:=fstAt_succ ((saveP n np P need of len D).t k).V (n:Int) (P.m k) 0;have hno:¬0≤fstAt ((saveP n np P need of len D).t k).V (n:Int) (P.m k) 0:=fun hh=>by
    obtain⟨i,_,hi,e⟩:=(fstAt_neg _ _ _ 0).1 hh;rw[save_old h hk (by omega)]at e;have:=((h.mesh.peer k hk).right i (by omega)).1.2;omega
   rw[Nat.zero_add,if_neg hno,if_pos e2]at e;exact e
  have hth:P.th k=true:=by
   obtain⟨i,_,hi,e⟩:=gvn_at c;obtain⟨q,h1,h2,h3,_⟩:=forA_at h.many hi;have:q=k:=by omega
   subst this;exact h3.1
  refine⟨?_,fun _=>⟨by unfold atK;rw[hf,Int.toNat_natCast],hth⟩⟩;unfold hasK;rw[hf,decide_eq_true c,decide_eq_true (by omega),Bool.and_true];exact hth
 refine⟨?_,fun h=>absurd h c⟩;have hno:¬0≤fstAt ((saveP n np P need of len D).t k).V (n:Int) ((saveP n np P need of len D).m k) 0:=fun hh=>by
  rw[save_not (need:=need) (len:=len) (D:=D) c]at hh;obtain⟨i,_,hi,e⟩:=(fstAt_neg _ _ _ 0).1 hh;rw[save_old h hk (by omega)]at e;have:=((h.mesh.peer k hk).right i (by omega)).1.2;omega
 unfold hasK;rw[decide_eq_false hno,decide_eq_false c,Bool.and_false]
theorem SaveOk.all_given(h:SaveOk n b np P need of len D lp X){q:Nat}(hq:q<of.toNat):∃k,k<np∧gvn n np P of k=(q:Int):=by
 obtain⟨k,h1,h2,h3,_⟩:=forA_at h.many hq;have h0:0≤gvn n np P of k:=(fstAt_neg _ _ _ 0).2 ⟨q,Nat.zero_le _,by omega,h1⟩;refine⟨k,h2,?_⟩;obtain⟨i,g1,g2,g3⟩:=gvn_at h0;have:i=q:=by
  rcases Nat.lt_trichotomy i q with hl|hl|hl;·exact absurd (g3.trans h1.symm) (forA_ne h.many hl hq)
  ·exact hl
  exact absurd (h1.trans g3.symm) (forA_ne h.many hl g2)
 rw[g1,this]
theorem SaveOk.count(h:SaveOk n b np P need of len D lp X):(hereL n np P of P.th np).length=of.toNat:=by
 have h1:=(h.shares (t:=P.th)).le;have h2:=cover_len of.toNat ((hereL n np P of P.th np).map fun x=>gvn n np P of x.1) (fun q hq=>by
  obtain⟨k,g1,g2⟩:=h.all_given hq;refine List.mem_map.2 ⟨(k,P.m k),mem_hereL.2 ⟨k,g1,?_,rfl⟩,g2⟩;unfold hereB;rw[decide_eq_true (by omega),Bool.and_true];exact((save_has h g1).2 (by omega)).2)
 rw[List.length_map]at h2;omega
end
end
end Go.Proofs.YtajmnlhfnhbleaaGreat
