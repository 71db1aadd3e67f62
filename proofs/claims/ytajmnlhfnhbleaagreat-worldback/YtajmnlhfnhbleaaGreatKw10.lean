/- Several texts of one proof, in their order. -/
import Derived.Test.YtajmnlhfnhbleaaGreatKw9
namespace Go.Proofs.YtajmnlhfnhbleaaGreat
open Go.RowKit CurveMath
set_option linter.unusedVariables false
section
def AlK(t:Kt)(m:Nat)(u:Kt)(m':Nat):Prop:=m=m'∧∀j,j<m→t.V j=u.V j∧t.N j=u.N j∧t.L j=u.L j∧t.X j=u.X j
theorem AlK.refl(t:Kt)(m:Nat):AlK t m t m:=⟨rfl,fun _ _=>⟨rfl,rfl,rfl,rfl⟩⟩
theorem AlK.symm{t u:Kt}{m m':Nat}(h:AlK t m u m'):AlK u m' t m:=by
 obtain⟨rfl,h2⟩:=h;exact⟨rfl,fun j hj=>by obtain⟨a,c,d,e⟩:=h2 j hj;exact⟨a.symm,c.symm,d.symm,e.symm⟩⟩
theorem AlK.trans{t u v:Kt}{m m' m'':Nat}(h:AlK t m u m')(g:AlK u m' v m''):AlK t m v m'':=by
 obtain⟨rfl,h2⟩:=h;obtain⟨rfl,g2⟩:=g;exact⟨rfl,fun j hj=>by obtain⟨a,c,d,e⟩:=h2 j hj;obtain⟨a',c',d',e'⟩:=g2 j hj;exact⟨a.trans a',c.trans c',d.trans d',e.trans e'⟩⟩
theorem AlK.same{t u:Kt}{m m':Nat}(h:AlK t m u m')(th:Bool)(room:Int):peerB th th room room m m' t u=true:=peerB_of h.1 h.2
theorem AlK.none{t:Kt}{ver:Int}{m:Nat}(hn:∀j,j<m→t.V j≠ver):AlK (selT t (butL t ver m)) (butL t ver m).length t m:=by
 rw[butL_none hn];refine⟨by simp,fun j hj=>?_⟩;have:(List.range m).getD j 0=j:=by simp at hj;simp[List.getD_eq_getElem?_getD,hj]
 simp only[selT,this,and_self]
theorem but_gone{t:Kt}{ver:Int}{m j:Nat}(hj:j<(butL t ver m).length):(selT t (butL t ver m)).V j≠ver:=by
 have h:=getN_mem hj;have h2:(butL t ver m).getD j 0∈(List.range m).filter fun j=>t.V j != ver:=h;have h3:=(List.mem_filter.1 h2).2;simpa[selT]using h3
theorem AlK.back{t:Kt}{ver N:Int}{L m:Nat}{X:Nat→Int}{l:List Nat}(hl:InOrder (snocT m t ver N L X) (m+1) l)(hr:∀i j,i<j→j<m→t.V i<t.V j)(hn:∀j,j<m→t.V j≠ver):
 AlK (selT (selT (snocT m t ver N L X) l) (butL (selT (snocT m t ver N L X) l) ver (m+1))) (butL (selT (snocT m t ver N L X) l) ver (m+1)).length t m:=by
 have hb:=but_back hl hr hn
 have hlen:(butL (selT (snocT m t ver N L X) l) ver (m+1)).length=m:=by have:=congrArg List.length hb;simpa using this
 refine⟨hlen,fun j hj=>?_⟩
 have hg:l.getD ((butL (selT (snocT m t ver N L X) l) ver (m+1)).getD j 0) 0=j:=by
  have h1:=congrArg (fun q:List Nat=>q[j]?) hb;simp only[List.getElem?_map,List.getElem?_range (show j<m by omega)]at h1;rw[List.getElem?_eq_getElem hj]at h1;simp only[Option.map_some,Option.some.injEq]at h1;rw[show(butL (selT (snocT m t ver N L X) l) ver (m+1)).getD j 0=(butL (selT (snocT m t ver N L X) l) ver (m+1))[j] by rw[List.getD_eq_getElem?_getD,List.getElem?_eq_getElem hj];rfl];exact h1
 simp only[selT]
 simp only[selT]at hg
 rw[hg]
 simp only[snocT,if_neg (show j≠m by omega),and_self]
theorem cover_len:∀(m:Nat) (l:List Int),(∀q,q<m→(q:Int)∈l)→m≤l.length:=by
 intro m;induction m with
 |zero=>intro l _;omega
 |succ m ih =>
  intro l h;have h1:=ih (l.erase (m:Int)) (fun q hq=>(List.mem_erase_of_ne (by omega)).2 (h q (by omega)));have h2:=h m (by omega);rw[List.length_erase_of_mem h2]at h1;have:0<l.length:=List.length_pos_of_mem h2;omega
section
variable {P : Ps} {ver : Int} {k : Nat}
theorem thRow_upto(hr:∀i j,i<j→j<P.m k→(P.t k).V i<(P.t k).V j)(l:List (Nat×Nat)):∀f,f≤P.m k→thRow P ver k l f=if(P.th k&&decide (0≤fstAt (P.t k).V ver f 0) && !seenN P l ((P.t k).N (fstAt (P.t k).V ver f 0).toNat))=true then l++[(k,(fstAt (P.t k).V ver f 0).toNat)]else l:=by
 intro f;induction f with
 |zero=>intro _;simp[thRow_zero,fstAt]
 |succ f ih =>
  intro hf;have e:=fstAt_succ (P.t k).V ver f 0;rw[Nat.zero_add]at e;rw[thRow_succ,ih (by omega)];by_cases c:0≤fstAt (P.t k).V ver f 0
  ·obtain⟨i,h1,_,h2,h3⟩:=fstAt_place _ _ _ _ c
   have hne:(P.t k).V f≠ver:=by have:=hr i f (by omega) (by omega);omega
   rw[if_pos c]at e;rw[e];unfold thStep isTh;rw[decide_eq_false hne,Bool.and_false,Bool.false_and,if_neg (by decide)]
  rw[if_neg c]at e;rw[decide_eq_false c,Bool.and_false,Bool.false_and,if_neg (by decide),e];unfold thStep isTh;by_cases c2:(P.t k).V f=ver;·rw[if_pos c2,decide_eq_true c2,decide_eq_true (by omega:(0:Int)≤(f:Int)),Int.toNat_natCast]
  rw[if_neg c2,decide_eq_false c2,decide_eq_false (by omega),Bool.and_false];simp
theorem thRow_has(hr:∀i j,i<j→j<P.m k→(P.t k).V i<(P.t k).V j)(l:List (Nat×Nat)):thRow P ver k l (P.m k)=if(hasK P ver k && !seenN P l (numK P ver k))=true then l++[(k,atK P ver k)]else l:=thRow_upto hr l _ (Nat.le_refl _)
theorem hasK_at(h:hasK P ver k=true):P.th k=true∧atK P ver k<P.m k∧(P.t k).V (atK P ver k)=ver:=by
 unfold hasK at h;rw[Bool.and_eq_true,decide_eq_true_iff]at h;obtain⟨i,h1,_,h2,h3⟩:=fstAt_place _ _ _ _ h.2;have e:atK P ver k=i:=by unfold atK;rw[h1,Int.toNat_natCast]
 rw[e];exact⟨h.1,by omega,h3⟩
end
def hereH(P:Ps)(ver:Int)(f:Nat):List (Nat×Nat):=((List.range f).filter (hasK P ver)).map fun k=>(k,atK P ver k)
theorem hereH_succ(P:Ps)(ver:Int)(f:Nat):hereH P ver (f+1)=hereH P ver f++(if hasK P ver f=true then[(f,atK P ver f)]else[]):=by
 unfold hereH;rw[List.range_succ,List.filter_append,List.map_append,List.filter_cons,List.filter_nil];by_cases c:hasK P ver f=true;·rw[if_pos c,if_pos c];rfl
 rw[if_neg c,if_neg c];rfl
theorem mem_hereH{P:Ps}{ver:Int}{f:Nat}{x:Nat×Nat}:x∈hereH P ver f↔∃k,k<f∧hasK P ver k=true∧x=(k,atK P ver k):=by
 unfold hereH;rw[List.mem_map];constructor
 ·rintro⟨k,hk,rfl⟩
  rw[List.mem_filter,List.mem_range]at hk;exact⟨k,hk.1,hk.2,rfl⟩
 rintro⟨k,h1,h2,rfl⟩;exact⟨k,List.mem_filter.2 ⟨List.mem_range.2 h1,h2⟩,rfl⟩
theorem thAll_here{P:Ps}{ver:Int}{np:Nat}(hr:∀k,k<np→∀i j,i<j→j<P.m k→(P.t k).V i<(P.t k).V j)(hi:∀i j,i<j→j<np→hasK P ver i=true→hasK P ver j=true→numK P ver i≠numK P ver j):∀f,f≤np→thAll P ver f=hereH P ver f:=by
 intro f;induction f with
 |zero=>intro _;rfl
 |succ f ih =>
  intro hf;rw[thAll_succ,ih (by omega),thRow_has (hr f (by omega)),hereH_succ];by_cases c:hasK P ver f=true
  ·have hs:seenN P (hereH P ver f) (numK P ver f)=false:=by
    rw[Bool.eq_false_iff];intro hb;obtain⟨x,hx,e⟩:=seenN_iff.1 hb;obtain⟨k,hk,hh,rfl⟩:=mem_hereH.1 hx;exact hi k f hk (by omega) hh c e
   rw[c,hs,if_pos (by rfl),if_pos rfl]
  rw[if_neg c,Bool.not_eq_true]at *;rw[c,Bool.false_and,if_neg (by decide),List.append_nil]
section
variable {P : Ps} {ver : Int} {R : Nat} {S : Nat → Nat → Int}
def stayK(P:Ps)(ver:Int)(R:Nat)(S:Nat→Nat→Int)(k:Nat):Bool:=hasK P ver k&&(goodK P ver R S k && !(repS P ver R S k).contains (numK P ver k))
theorem repS_succ(k:Nat):repS P ver R S (k+1)=if stayK P ver R S k=true then repS P ver R S k++[numK P ver k]else repS P ver R S k:=rfl
theorem mem_repS{f:Nat}{x:Int}:x∈repS P ver R S f↔∃k,k<f∧stayK P ver R S k=true∧numK P ver k=x:=by
 induction f with
 |zero=>simp[repS]
 |succ f ih =>
  rw[repS_succ];by_cases c:stayK P ver R S f=true
  ·rw[if_pos c,List.mem_append,ih,List.mem_singleton]
   constructor
   ·rintro(⟨k,h1,h2,h3⟩|rfl)
    ·exact⟨k,by omega,h2,h3⟩
    exact⟨f,by omega,c,rfl⟩
   rintro⟨k,h1,h2,h3⟩;by_cases e:k=f;·subst e;exact Or.inr h3.symm
   exact Or.inl ⟨k,by omega,h2,h3⟩
  rw[if_neg c,ih];constructor;·rintro⟨k,h1,h2,h3⟩;exact⟨k,by omega,h2,h3⟩
  rintro⟨k,h1,h2,h3⟩;by_cases e:k=f;·subst e;exact absurd h2 c
  exact⟨k,by omega,h2,h3⟩
theorem stay_parts{k:Nat}(h:stayK P ver R S k=true):hasK P ver k=true∧goodK P ver R S k=true∧numK P ver k∉repS P ver R S k∧dropK P ver R S k=false:=by
 unfold stayK at h;have h':=h;rw[Bool.and_eq_true,Bool.and_eq_true]at h;obtain⟨h1,h2,h3⟩:=h;refine⟨h1,h2,fun hm=>?_,?_⟩;·rw[List.contains_iff_mem.2 hm]at h3;cases h3
 unfold dropK;rw[h1,h2,h3];rfl
theorem stay_not{k:Nat}(h:stayK P ver R S k=false)(hh:hasK P ver k=true):dropK P ver R S k=true:=by
 unfold stayK at h;unfold dropK;rw[hh,Bool.true_and]at h;rw[hh,h];rfl
theorem stay_ne{i j:Nat}(hij:i<j)(hi:stayK P ver R S i=true)(hj:stayK P ver R S j=true):numK P ver i≠numK P ver j:=fun e =>
 (stay_parts hj).2.2.1 (mem_repS.2 ⟨i,hij,hi,e⟩)
theorem mem_lackL{np of q:Nat}:q∈lackL P ver R S np of↔q<of∧(q:Int)∉repS P ver R S np:=by
 unfold lackL;rw[List.mem_filter,List.mem_range];refine and_congr Iff.rfl ?_;rw[Bool.not_eq_true'];constructor;·intro h hm;rw[List.contains_iff_mem.2 hm]at h;cases h
 intro h;rw[Bool.eq_false_iff];intro hc;exact h (List.contains_iff_mem.1 hc)
theorem lackL_ne{np of i j:Nat}(hij:i<j)(hj:j<(lackL P ver R S np of).length):(lackL P ver R S np of).getD i 0≠(lackL P ver R S np of).getD j 0:=by
 have hp:(lackL P ver R S np of).Pairwise (fun a c:Nat=>a<c):=List.Pairwise.filter _ List.pairwise_lt_range;have:=pairwise_getD (d:=0) hp hij hj;omega
theorem rep_of{np k:Nat}(hk:k<np):(repP P ver R S np).m k=(if dropK P ver R S k=true then(butL (P.t k) ver (P.m k)).length else P.m k)∧(repP P ver R S np).t k=(if dropK P ver R S k=true then selT (P.t k) (butL (P.t k) ver (P.m k))else P.t k):=by
 simp only[repP];rw[decide_eq_true hk,Bool.true_and];exact⟨rfl,rfl⟩
end
section
variable {P : Ps} {ver : Int} {R : Nat} {S : Nat → Nat → Int} {np of : Nat}
def gotK(P:Ps)(ver:Int)(R:Nat)(S:Nat→Nat→Int)(np of k:Nat):Int:=fstAt (forA (repP P ver R S np) ver np (lackL P ver R S np of).length) (k:Int) (lackL P ver R S np of).length 0
def gotN(P:Ps)(ver:Int)(R:Nat)(S:Nat→Nat→Int)(np of k:Nat):Nat:=(lackL P ver R S np of).getD (gotK P ver R S np of k).toNat 0
theorem got_at(hm:fillE P ver R S np of=0){k:Nat}(h:0≤gotK P ver R S np of k):
 ∃j:Nat,gotK P ver R S np of k=(j:Int)∧j<(lackL P ver R S np of).length∧forA (repP P ver R S np) ver np (lackL P ver R S np of).length j=(k:Int)∧mayK (repP P ver R S np) ver k∧1≤leftK (repP P ver R S np) k:=by
 obtain⟨j,h1,_,h2,h3⟩:=fstAt_place _ _ _ _ h
 obtain⟨q,g1,g2,g3,g4⟩:=forA_at (P:=repP P ver R S np) (ver:=ver) (np:=np) hm (i:=j) (by omega)
 have e:q=k:=by rw[g1]at h3;omega
 subst e
 exact⟨j,h1,by omega,h3,g3,g4⟩
theorem got_inj(hm:fillE P ver R S np of=0){i k:Nat}(hi:0≤gotK P ver R S np of i)(hk:0≤gotK P ver R S np of k)(e:gotN P ver R S np of i=gotN P ver R S np of k):i=k:=by
 obtain⟨a,h1,h2,h3,_⟩:=got_at hm hi;obtain⟨c,g1,g2,g3,_⟩:=got_at hm hk;unfold gotN at e;rw[h1,g1,Int.toNat_natCast,Int.toNat_natCast]at e;have:a=c:=by
  rcases Nat.lt_trichotomy a c with hl|hl|hl;·exact absurd e (lackL_ne hl g2)
  ·exact hl
  exact absurd e.symm (lackL_ne hl h2)
 subst this;rw[h3]at g3;omega
theorem got_lack(hm:fillE P ver R S np of=0){k:Nat}(h:0≤gotK P ver R S np of k):gotN P ver R S np of k<of∧((gotN P ver R S np of k:Nat):Int)∉repS P ver R S np:=by
 obtain⟨j,h1,h2,_⟩:=got_at hm h;have hq:gotN P ver R S np of k∈lackL P ver R S np of:=by
  unfold gotN;rw[h1,Int.toNat_natCast];exact getD_in h2
 exact mem_lackL.1 hq
theorem got_each(hm:fillE P ver R S np of=0){q:Nat}(hq:q∈lackL P ver R S np of):∃k,k<np∧0≤gotK P ver R S np of k∧gotN P ver R S np of k=q:=by
 obtain⟨j,hj,e⟩:=List.getElem_of_mem hq;obtain⟨k,g1,g2,_⟩:=forA_at (P:=repP P ver R S np) (ver:=ver) (np:=np) hm (i:=j) hj;have h0:0≤gotK P ver R S np of k:=(fstAt_neg _ _ _ 0).2 ⟨j,Nat.zero_le _,by omega,g1⟩;refine⟨k,g2,h0,?_⟩;obtain⟨i,h1,h2,h3,_⟩:=got_at hm h0;have hij:i=j:=by
  rcases Nat.lt_trichotomy i j with hl|hl|hl;·exact absurd (h3.trans g1.symm) (forA_ne hm hl hj)
  ·exact hl
  exact absurd (g1.trans h3.symm) (forA_ne hm hl h2)
 subst hij;unfold gotN;rw[h1,Int.toNat_natCast,List.getD_eq_getElem?_getD,List.getElem?_eq_getElem hj];exact e
theorem fill_old{k:Nat}(h:¬0≤gotK P ver R S np of k):(fillP P ver R S np of).m k=(repP P ver R S np).m k∧(fillP P ver R S np of).t k=(repP P ver R S np).t k:=by
 have h':¬0≤fstAt (forA (repP P ver R S np) ver np (lackL P ver R S np of).length) (k:Int) (lackL P ver R S np of).length 0:=h;simp only[fillP,giveP];rw[if_neg h',if_neg h'];exact⟨rfl,rfl⟩
theorem fill_new{k:Nat}(h:0≤gotK P ver R S np of k):(fillP P ver R S np of).m k=(repP P ver R S np).m k+1∧(fillP P ver R S np of).t k=keepT ((repP P ver R S np).t k) ((repP P ver R S np).m k) ver ((gotN P ver R S np of k:Nat):Int) R (fun r=>S (gotN P ver R S np of k) r):=by
 have h':0≤fstAt (forA (repP P ver R S np) ver np (lackL P ver R S np of).length) (k:Int) (lackL P ver R S np of).length 0:=h;simp only[fillP,giveP];rw[if_pos h',if_pos h'];exact⟨rfl,rfl⟩
theorem fill_th:(fillP P ver R S np of).th=P.th:=rfl
theorem fill_rm:(fillP P ver R S np of).rm=P.rm:=rfl
end
section
variable {n : Nat} {b : Bk} {np : Nat} {P : Ps} {ver : Int} {R : Nat} {S : Nat → Nat → Int} {of : Nat}
structure FillOk(n:Nat)(b:Bk)(np:Nat)(P:Ps)(ver:Int)(R:Nat)(S:Nat→Nat→Int)(of:Nat):Prop where
 mesh:MeshR n b np P
 ver_:0≤ver∧ver<(n:Int)
 many:fillE P ver R S np of=0
 one:∀q,q<of→oneE (b.nd ver.toNat) (b.of ver.toNat) (b.sz ver.toNat) (q:Int) R (S q)=0
 of_:b.of ver.toNat=(of:Int)
theorem FillOk.rep(h:FillOk n b np P ver R S of):MeshR n b np (repP P ver R S np):=h.mesh.rep ver R S np
theorem FillOk.order(h:FillOk n b np P ver R S of){k:Nat}(hk:k<np)(hg:0≤gotK P ver R S np of k)(N:Int)(L:Nat)(X:Nat→Int):
 InOrder (snocT ((repP P ver R S np).m k) ((repP P ver R S np).t k) ver N L X) ((repP P ver R S np).m k+1) (keepL ((repP P ver R S np).t k) ver ((repP P ver R S np).m k))∧(∀j,j<(repP P ver R S np).m k→((repP P ver R S np).t k).V j≠ver):=by
 obtain⟨_,_,_,_,h4,_⟩:=got_at h.many hg
 exact⟨keepL_order (h.rep.peer k hk) h4.2,fstAt_none h4.2⟩
theorem FillOk.right(h:FillOk n b np P ver R S of):MeshR n b np (fillP P ver R S np of):=by
 refine⟨h.mesh.book,h.mesh.few,fun k hk=>?_⟩;have hp:=h.rep.peer k hk;by_cases c:0≤gotK P ver R S np of k
 ·obtain⟨e1,e2⟩:=fill_new c
  obtain⟨_,_,_,_,h4,h5⟩:=got_at h.many c;unfold leftK at h5;rw[e1,e2];show PeerR n b ((repP P ver R S np).rm k) _ _;refine keepT_right hp (by omega) h4.2 h.ver_ ?_;exact h.one _ (got_lack h.many c).1
 obtain⟨e1,e2⟩:=fill_old c;rw[e1,e2];exact hp
theorem FillOk.new_at(h:FillOk n b np P ver R S of){k:Nat}(hk:k<np)(hg:0≤gotK P ver R S np of k):hasK (fillP P ver R S np of) ver k=true∧numK (fillP P ver R S np of) ver k=((gotN P ver R S np of k:Nat):Int) ∧
 ((fillP P ver R S np of).t k).L (atK (fillP P ver R S np of) ver k)=R∧((fillP P ver R S np of).t k).X (atK (fillP P ver R S np of) ver k)=S (gotN P ver R S np of k):=by
 obtain⟨e1,e2⟩:=fill_new hg
 obtain⟨_,_,_,_,h4,_⟩:=got_at h.many hg
 obtain⟨ho,hn⟩:=h.order hk hg ((gotN P ver R S np of k:Nat):Int) R (fun r=>S (gotN P ver R S np of k) r)
 obtain⟨i,f1,f2,f3,f4,f5⟩:=found_alike ho hn
 have ea:atK (fillP P ver R S np of) ver k=i:=by
  unfold atK;rw[e1,e2];unfold keepT;rw[f1,Int.toNat_natCast]
 refine⟨?_,?_,?_,?_⟩
 ·unfold hasK
  rw[e1,e2];unfold keepT;rw[f1,fill_th,decide_eq_true (by omega),Bool.and_true];exact h4.1
 ·unfold numK
  rw[ea,e2];exact f3
 ·rw[ea,e2];exact f4
 ·rw[ea,e2];exact f5
theorem FillOk.stay_old(h:FillOk n b np P ver R S of){k:Nat}(hk:k<np)(hs:stayK P ver R S k=true):¬0≤gotK P ver R S np of k:=fun hg=>by
 obtain⟨_,_,_,_,h4,_⟩:=got_at h.many hg;obtain⟨s1,_,_,s4⟩:=stay_parts hs;obtain⟨r1,r2⟩:=rep_of (P:=P) (ver:=ver) (R:=R) (S:=S) hk;rw[if_neg (by rw[s4];decide)]at r1 r2;have:=h4.2;rw[r1,r2]at this;unfold hasK at s1;rw[Bool.and_eq_true,decide_eq_true_iff]at s1;omega
theorem FillOk.stay_at(h:FillOk n b np P ver R S of){k:Nat}(hk:k<np)(hs:stayK P ver R S k=true):(fillP P ver R S np of).m k=P.m k∧(fillP P ver R S np of).t k=P.t k∧hasK (fillP P ver R S np of) ver k=true∧numK (fillP P ver R S np of) ver k=numK P ver k∧atK (fillP P ver R S np of) ver k=atK P ver k:=by
 obtain⟨e1,e2⟩:=fill_old (h.stay_old hk hs);obtain⟨s1,_,_,s4⟩:=stay_parts hs;obtain⟨r1,r2⟩:=rep_of (P:=P) (ver:=ver) (R:=R) (S:=S) hk;rw[if_neg (by rw[s4];decide)]at r1 r2;rw[r1]at e1;rw[r2]at e2;have ea:atK (fillP P ver R S np of) ver k=atK P ver k:=by unfold atK;rw[e1,e2]
 refine⟨e1,e2,?_,?_,ea⟩
 ·unfold hasK at s1 ⊢
  rw[e1,e2,fill_th];exact s1
 unfold numK;rw[ea,e2]
theorem FillOk.has(h:FillOk n b np P ver R S of){k:Nat}(hk:k<np)(hh:hasK (fillP P ver R S np of) ver k=true):0≤gotK P ver R S np of k∨stayK P ver R S k=true:=by
 by_cases c:0≤gotK P ver R S np of k;·exact Or.inl c
 refine Or.inr ?_;obtain⟨e1,e2⟩:=fill_old c;obtain⟨r1,r2⟩:=rep_of (P:=P) (ver:=ver) (R:=R) (S:=S) hk;rw[r1]at e1;rw[r2]at e2;cases hs:stayK P ver R S k with
 |true=>rfl
 |false =>
  exfalso;obtain⟨q1,q2,q3⟩:=hasK_at hh;by_cases d:dropK P ver R S k=true
  ·rw[if_pos d]at e1 e2
   rw[e1]at q2;rw[e2]at q3;exact but_gone q2 q3
  rw[if_neg d]at e1 e2;have:hasK P ver k=true:=by
   unfold hasK at hh ⊢;rw[e1,e2,fill_th]at hh;exact hh
  exact d (stay_not hs this)
theorem FillOk.once(h:FillOk n b np P ver R S of){i j:Nat}(hij:i<j)(hj:j<np)(hi:hasK (fillP P ver R S np of) ver i=true)(hj':hasK (fillP P ver R S np of) ver j=true):numK (fillP P ver R S np of) ver i≠numK (fillP P ver R S np of) ver j:=by
 have hin:i<np:=by omega
 intro e;rcases h.has hin hi with c|c
 ·have e1:=(h.new_at hin c).2.1
  rcases h.has hj hj' with d|d
  ·have e2:=(h.new_at hj d).2.1
   have:=got_inj h.many c d (by rw[e1,e2]at e;omega);omega
  have e2:=(h.stay_at hj d).2.2.2.1;refine(got_lack h.many c).2 ?_;rw[←e1,e,e2];exact mem_repS.2 ⟨j,hj,d,rfl⟩
 have e1:=(h.stay_at hin c).2.2.2.1;rcases h.has hj hj' with d|d
 ·have e2:=(h.new_at hj d).2.1
  refine(got_lack h.many d).2 ?_;rw[←e2,←e,e1];exact mem_repS.2 ⟨i,hin,c,rfl⟩
 have e2:=(h.stay_at hj d).2.2.2.1;exact stay_ne hij c d (by rw[←e1,←e2];exact e)
theorem FillOk.cover(h:FillOk n b np P ver R S of){q:Nat}(hq:q<of):∃k,k<np∧hasK (fillP P ver R S np of) ver k=true∧numK (fillP P ver R S np of) ver k=(q:Int):=by
 by_cases c:(q:Int)∈repS P ver R S np
 ·obtain⟨k,h1,h2,h3⟩:=mem_repS.1 c
  obtain⟨_,_,g1,g2,_⟩:=h.stay_at h1 h2;exact⟨k,h1,g1,g2.trans h3⟩
 obtain⟨k,h1,h2,h3⟩:=got_each h.many (mem_lackL.2 ⟨hq,c⟩);obtain⟨g1,g2,_⟩:=h.new_at h1 h2;exact⟨k,h1,g1,by rw[g2,h3]⟩
theorem FillOk.good(h:FillOk n b np P ver R S of){k:Nat}(hk:k<np)(hh:hasK (fillP P ver R S np of) ver k=true):∃q:Nat,q<of∧numK (fillP P ver R S np of) ver k=(q:Int)∧((fillP P ver R S np of).t k).L (atK (fillP P ver R S np of) ver k)=R∧∀r,r<R→((fillP P ver R S np of).t k).X (atK (fillP P ver R S np of) ver k) r=S q r:=by
 obtain⟨_,q2,q3⟩:=hasK_at hh;obtain⟨h1,h2⟩:=(h.right.peer k hk).right _ q2;have ho:=(oneE_ok h2).2.1;rw[q3,h.of_]at ho;have hn:numK (fillP P ver R S np of) ver k=((fillP P ver R S np of).t k).N (atK (fillP P ver R S np of) ver k):=rfl;refine⟨(numK (fillP P ver R S np of) ver k).toNat,by omega,by omega,?_⟩;rcases h.has hk hh with c|c
 ·obtain⟨_,e1,e2,e3⟩:=h.new_at hk c
  refine⟨e2,fun r _=>?_⟩;rw[e3,e1,Int.toNat_natCast]
 obtain⟨_,e2,_,e4,e5⟩:=h.stay_at hk c;obtain⟨_,s2,_⟩:=stay_parts c;unfold goodK sameB eqB at s2;rw[decide_eq_true rfl,Bool.true_and,decide_eq_true_iff]at s2;rw[e4,e5,e2];refine⟨s2.1,fun r hr=>s2.2 r (by rw[s2.1];exact hr)⟩
theorem FillOk.goodK(h:FillOk n b np P ver R S of){k:Nat}(hk:k<np)(hh:hasK (fillP P ver R S np of) ver k=true):goodK (fillP P ver R S np of) ver R S k=true:=by
 obtain⟨q,h1,h2,h3,h4⟩:=h.good hk hh;unfold Go.Proofs.YtajmnlhfnhbleaaGreat.goodK sameB eqB;rw[decide_eq_true rfl,Bool.true_and,decide_eq_true_iff];exact⟨h3,fun r hr=>by rw[h4 r (by rw[←h3];exact hr),h2,Int.toNat_natCast]⟩
theorem FillOk.stays(h:FillOk n b np P ver R S of){k:Nat}(hk:k<np)(hh:hasK (fillP P ver R S np of) ver k=true):stayK (fillP P ver R S np of) ver R S k=true:=by
 unfold stayK;rw[hh,h.goodK hk hh];rw[Bool.true_and,Bool.true_and,Bool.not_eq_true',Bool.eq_false_iff];intro hc;obtain⟨i,h1,h2,h3⟩:=mem_repS.1 (List.contains_iff_mem.1 hc);exact h.once h1 hk (stay_parts h2).1 hh h3
theorem FillOk.rep2(h:FillOk n b np P ver R S of):repP (fillP P ver R S np of) ver R S np=fillP P ver R S np of:=by
 have e:∀k,(decide (k<np)&&dropK (fillP P ver R S np of) ver R S k)=false:=fun k=>by
  by_cases c:k<np
  ·rw[decide_eq_true c,Bool.true_and]
   by_cases hh:hasK (fillP P ver R S np of) ver k=true;·exact(stay_parts (h.stays c hh)).2.2.2
   unfold dropK;rw[Bool.not_eq_true]at hh;rw[hh,Bool.false_and]
  rw[decide_eq_false c,Bool.false_and]
 show Ps.mk _ _ _ _=_;simp only[e];simp
theorem FillOk.lack2(h:FillOk n b np P ver R S of):lackL (fillP P ver R S np of) ver R S np of=[]:=by
 rw[List.eq_nil_iff_forall_not_mem];intro q hq;obtain⟨h1,h2⟩:=mem_lackL.1 hq;obtain⟨k,g1,g2,g3⟩:=h.cover h1;exact h2 (mem_repS.2 ⟨k,g1,h.stays g1 g2,g3⟩)
theorem FillOk.again(h:FillOk n b np P ver R S of):fillE (fillP P ver R S np of) ver R S np of=0∧fillP (fillP P ver R S np of) ver R S np of=fillP P ver R S np of:=by
 constructor
 ·unfold fillE
  rw[h.rep2,h.lack2];unfold manyE;rw[if_pos (by decide),if_neg (by simp)]
 have e:∀Q:Ps,repP Q ver R S np=Q→lackL Q ver R S np of=[]→fillP Q ver R S np of=Q:=fun Q e1 e2=>by
  unfold fillP;rw[e1,e2];exact giveP_zero _ _ _ _ _ _
 exact e _ h.rep2 h.lack2
theorem FillOk.there(h:FillOk n b np P ver R S of):thereL (fillP P ver R S np of) ver np=hereH (fillP P ver R S np of) ver np :=
 thAll_here (fun k hk=>(h.right.peer k hk).rise) (fun i j hij hj=>h.once hij hj) np (Nat.le_refl _)
theorem FillOk.count(h:FillOk n b np P ver R S of):(hereH (fillP P ver R S np of) ver np).length=of:=by
 have h1:(hereH (fillP P ver R S np of) ver np).length≤of:=by
  refine once_len (f:=fun x=>((fillP P ver R S np of).t x.1).N x.2) ?_ fun x hx=>?_
  ·rw[←h.there]
   exact(thAll_ok _ ver np np (Nat.le_refl _)).once
  obtain⟨k,g1,g2,rfl⟩:=mem_hereH.1 hx;obtain⟨q,q1,q2,_⟩:=h.good g1 g2;have:((fillP P ver R S np of).t k).N (atK (fillP P ver R S np of) ver k)=(q:Int):=q2;show 0≤((fillP P ver R S np of).t k).N (atK (fillP P ver R S np of) ver k)∧((fillP P ver R S np of).t k).N (atK (fillP P ver R S np of) ver k)<_;omega
 have h2:=cover_len of ((hereH (fillP P ver R S np of) ver np).map fun x=>((fillP P ver R S np of).t x.1).N x.2) (fun q hq=>by
  obtain⟨k,g1,g2,g3⟩:=h.cover hq;exact List.mem_map.2 ⟨(k,atK (fillP P ver R S np of) ver k),mem_hereH.2 ⟨k,g1,g2,rfl⟩,g3⟩)
 rw[List.length_map]at h2;omega
theorem FillOk.away(h:FillOk n b np P ver R S of){k:Nat}(hk:k<np)(ht:P.th k=false):(fillP P ver R S np of).m k=P.m k∧(fillP P ver R S np of).t k=P.t k:=by
 have hg:¬0≤gotK P ver R S np of k:=fun hg=>by
  obtain⟨_,_,_,_,h4,_⟩:=got_at h.many hg;have h5:P.th k=true:=h4.1;rw[ht]at h5;cases h5
 obtain⟨e1,e2⟩:=fill_old hg;obtain⟨r1,r2⟩:=rep_of (P:=P) (ver:=ver) (R:=R) (S:=S) hk;have d:dropK P ver R S k=false:=by unfold dropK hasK;rw[ht];rfl
 rw[if_neg (by rw[d];decide)]at r1 r2;exact⟨e1.trans r1,e2.trans r2⟩
end
section
variable {n : Nat} {b : Bk} {np : Nat} {P : Ps} {k : Int}
theorem mend_ok(h:mendE n b np P k=0):rsE n b np P k=0∧FillOk n b np P k (rowsN (b.nd k.toNat) (b.sz k.toNat)) (rsS b np P k) (b.of k.toNat).toNat:=by
 unfold mendE at h;by_cases h1:rsE n b np P k=0
 ·rw[if_pos h1]at h
  obtain⟨hv,d,m,s,e1,e2,e3,hp⟩:=rsE_ok h1;obtain⟨hm,hk⟩:=verM_ok hv;refine⟨h1,hm,hk,h,fun q hq=>?_,by omega⟩;have hl:=(planOk_spec hp);rw[e2]at hq;rw[e1,e2,e3];refine oneE_mk hp ⟨by omega,by omega⟩ (by rfl) fun j _=>?_;unfold rsS;exact shv_num _ _ _ _ _
 rw[if_neg h1]at h;exact absurd h h1
end
end
end Go.Proofs.YtajmnlhfnhbleaaGreat
