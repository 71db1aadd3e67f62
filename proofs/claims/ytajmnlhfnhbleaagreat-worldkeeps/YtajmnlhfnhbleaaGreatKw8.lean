/- Several texts of one proof, in their order. -/
import Derived.Test.YtajmnlhfnhbleaaGreatKw7
namespace Go.Proofs.YtajmnlhfnhbleaaGreat
open Go.RowKit CurveMath
set_option linter.unusedVariables false
section
theorem crv_alike{n n' m:Nat}{X Y A B:Nat→Int}(h:Good n n' X Y)(hg:Good m m A B)(hm:n≤m)(hAB:∀j,j<m→B j=crv n X Y (A j))(t:Int):crv m A B t=crv n X Y t:=by
 refine crv_uniq hg (fun u=>newt (fun i=>toF (X i)) (fun i=>dd (fun i=>toF (X i)) (fun i=>toF (Y i)) i i) n u) ((newt_deg _ _ n h.injF).mono hm) ?_ t _ (crv_num n X Y t) (toF_crv n X Y t);intro j hj;rw[hAB j hj,toF_crv];rfl
theorem scanS_mk{nd of sz:Int}{N:Nat→Int}{L:Nat→Nat}{X:Nat→Nat→Int}(m:Nat):∀k,(∀j,k≤j→j<k+m→oneE nd of sz (N j) (L j) (X j)=0∧hasB N j (N j)=false)→scanS nd of sz N L X m k=0:=by
 induction m with
 |zero=>intro k _;rfl
 |succ m ih =>
  intro k h;obtain⟨h1,h2⟩:=h k (by omega) (by omega);simp only[scanS];rw[if_pos h1,if_neg (by rw[h2];decide)];exact ih (k+1) (fun j a b=>h j (by omega) (by omega))
theorem oneE_mk{nd of sz N:Int}{L:Nat}{X:Nat→Int}(hp:planOk nd of sz=true)(hN:0≤N∧N<of)(hL:(L:Int)=rowsN nd sz)(hX:∀j,j<L→0≤X j∧X j≤30):oneE nd of sz N L X=0:=by
 unfold oneE;have h4:numsB L X=true:=decide_eq_true fun j hj=>(isNum_iff _).2 (hX j hj);rw[if_pos hp,if_pos hN,if_pos hL,if_pos h4]
section
variable {d m n c : Nat} {D : Nat → Int} {O : Nat → Nat}
end
end
section
def JoinPost(w:World)(nd of sz:Int)(n:Nat)(N:Nat→Int)(L:Nat→Nat)(X:Nat→Nat→Int)(e:Ending)(w':World):Prop :=
 Below w.heap.size w w'∧∃(r:Value) (m:Nat),e=.returned (.tuple #[r,.int .i64 (joinE nd of sz n N L X)])∧(m:Int)=(if joinE nd of sz n N L X=0 then sz else 0)∧IntSl w' w'.heap.size r m (joinD nd.toNat N X)
theorem join_err{w w':World}{nd of sz:Int}{n:Nat}{N:Nat→Int}{L:Nat→Nat}{X:Nat→Nat→Int}{c:Int}(hb:Below w.heap.size w w')(he:joinE nd of sz n N L X=c)(hc:c≠0):JoinPost w nd of sz n N L X (.returned (.tuple #[.slice none 0 0,.int .i64 c])) w':=by
 refine⟨hb,_,0,by rw[he],?_,none,0,rfl,⟨Nat.le_refl _,by omega⟩,Or.inl rfl⟩;rw[he,if_neg hc];rfl
theorem joinE_checks{nd of sz:Int}{n:Nat}{N:Nat→Int}{L:Nat→Nat}{X:Nat→Nat→Int}:joinE nd of sz n N L X=if checksE nd of sz n N L X=0 then(if tornB nd.toNat sz.toNat (rowsN nd sz) n N X=true then 9 else 0)else checksE nd of sz n N L X:=by
 unfold joinE checksE;by_cases h1:planOk nd of sz=true
 ·rw[if_pos h1,if_pos h1]
  by_cases h2:n≤8
  ·rw[if_pos h2,if_pos h2]
   by_cases h3:scanS nd of sz N L X n 0=0
   ·rw[if_pos h3,if_pos h3]
    by_cases h4:nd≤(n:Int);·rw[if_pos h4,if_pos h4,if_pos rfl]
    rw[if_neg h4,if_neg h4,if_neg (by decide)]
   rw[if_neg h3,if_neg h3,if_neg h3]
  rw[if_neg h2,if_neg h2,if_neg (by decide)]
 rw[if_neg h1,if_neg h1,if_neg (by decide)]
theorem scanS_all{nd of sz:Int}{N:Nat→Int}{L:Nat→Nat}{X:Nat→Nat→Int}(m:Nat):∀k,scanS nd of sz N L X m k=0→∀j,k≤j→j<k+m→oneE nd of sz (N j) (L j) (X j)=0∧hasB N j (N j)=false:=by
 induction m with
 |zero=>intro k _ j h1 h2;omega
 |succ m ih =>
  intro k h j h1 h2;simp only[scanS]at h;by_cases hb:oneE nd of sz (N k) (L k) (X k)=0
  ·rw[if_pos hb]at h
   by_cases hd:hasB N k (N k)=true;·rw[if_pos hd]at h;omega
   rw[if_neg hd]at h;by_cases hjk:j=k;·subst hjk;exact⟨hb,by simpa using hd⟩
   exact ih (k+1) h j (by omega) (by omega)
  rw[if_neg hb]at h;exact absurd h hb
structure Shares(d m s R n:Nat)(N:Nat→Int)(L:Nat→Nat)(X:Nat→Nat→Int):Prop where
 plan:planOk (d:Int) (m:Int) (s:Int)=true
 rows:rowsN (d:Int) (s:Int)=R
 le:d≤n∧n≤8
 who:∀j,j<n→0≤N j∧N j<(m:Int)
 len:∀j,j<n→L j=R
 num:∀j,j<n→∀r,r<R→0≤X j r∧X j r≤30
 inj:∀i j,i<n→j<n→N i=N j→i=j
theorem checks_ok{nd of sz:Int}{n:Nat}{N:Nat→Int}{L:Nat→Nat}{X:Nat→Nat→Int}(h:checksE nd of sz n N L X=0):∃d m s R:Nat,nd=d∧of=m∧sz=s∧Shares d m s R n N L X:=by
 unfold checksE at h;by_cases h1:planOk nd of sz=true
 ·rw[if_pos h1]at h
  by_cases h2:n≤8
  ·rw[if_pos h2]at h
   by_cases h3:scanS nd of sz N L X n 0=0
   ·rw[if_pos h3]at h
    by_cases h4:nd≤(n:Int)
    ·obtain⟨a1,a2,a3⟩:=planOk_spec h1
     have hall:=scanS_all n 0 h3;obtain⟨d,rfl⟩:∃d:Nat,nd=d:=⟨nd.toNat,by omega⟩;obtain⟨m,rfl⟩:∃m:Nat,of=m:=⟨of.toNat,by omega⟩;obtain⟨s,rfl⟩:∃s:Nat,sz=s:=⟨sz.toNat,by omega⟩;have key:∀i j,i<j→j<n→N i≠N j:=fun i j hij hj e=>by
      have h5:=(hall j (by omega) (by omega)).2;have h6:hasB N j (N j)=true:=(hasB_iff N j (N j)).2 ⟨i,hij,e⟩;rw[h6]at h5;cases h5
     refine⟨d,m,s,rowsN (d:Int) (s:Int),rfl,rfl,rfl,h1,rfl,⟨by omega,h2⟩,fun j hj=>(oneE_who (hall j (by omega) (by omega)).1).2.1,fun j hj=>?_,fun j hj r hr=>?_,fun i j hi hj e=>?_⟩;·have:=(oneE_who (hall j (by omega) (by omega)).1).2.2.1;omega
     ·have h5:=oneE_who (hall j (by omega) (by omega)).1
      exact h5.2.2.2 r (by have:=h5.2.2.1;omega)
     rcases Nat.lt_trichotomy i j with hlt|heq|hgt;·exact absurd e (key i j hlt hj)
     ·exact heq
     exact absurd e.symm (key j i hgt hi)
    rw[if_neg h4]at h;omega
   rw[if_neg h3]at h;exact absurd h h3
  rw[if_neg h2]at h;omega
 rw[if_neg h1]at h;omega
section
variable {d m s R n : Nat} {N : Nat → Int} {L : Nat → Nat} {X : Nat → Nat → Int}
theorem Shares.good(h:Shares d m s R n N L X)(r:Nat)(hr:r<R):Good d d N (fun j=>X j r):=by
 obtain⟨h1,h2,h3⟩:=planOk_spec h.plan;have hle:=h.le;exact⟨rfl,⟨by omega,by omega⟩,fun j hj=>by have:=h.who j (by omega);omega,fun j hj=>h.num j (by omega) r hr,fun i j hi hj=>h.inj i j (by omega) (by omega)⟩
theorem Shares.again(h:Shares d m s R n N L X)(hm:madeB d s R N X=true)(ν r:Nat)(hr:r<R):shv d s (joinD d N X) ν r=crv d N (fun i=>X i r) (ν:Int):=by
 obtain⟨h1,h2,h3⟩:=planOk_spec h.plan;have hm:=of_decide_eq_true hm;unfold shv;have hrow:∀t,t<d→padD s (joinD d N X) (r*d+t)=crv d N (fun i=>X i r) (t:Int):=fun t ht=>by
  rw[←joinD_row ht];have hlt:r*d+t<R*d:=by
   have:(r+1)*d≤R*d:=Nat.mul_le_mul_right d hr;rw[Nat.add_mul,Nat.one_mul]at this;omega
  unfold padD;by_cases hs:r*d+t<s;·rw[if_pos hs]
  rw[if_neg hs];rcases hm _ hlt with h5|h5;·exact absurd h5 hs
  exact h5.symm
 have hgr:Good d d (fun i=>(i:Int)) (fun t=>padD s (joinD d N X) (r*d+t)):=good_row ⟨by omega,by omega⟩ (fun j _=>by unfold joinD;exact crv_num _ _ _ _) r;exact crv_alike (h.good r hr) hgr (Nat.le_refl _) hrow (ν:Int)
theorem Shares.same(h:Shares d m s R n N L X)(hm:madeB d s R N X=true)(j ν:Nat)(hj:j<n)(hν:N j=(ν:Int)):sameB (N j) (ν:Int) (L j) R (X j) (fun r=>shv d s (joinD d N X) ν r)=decide (∀r,r<R→crv d N (fun i=>X i r) (N j)=X j r):=by
 unfold sameB eqB;rw[decide_eq_true hν,Bool.true_and,decide_eq_decide,h.len j hj];constructor
 ·intro h5 r hr
  have h6:X j r=shv d s (joinD d N X) ν r:=h5.2 r hr;rw[h.again hm ν r hr,←hν]at h6;exact h6.symm
 intro h5;refine⟨rfl,fun r hr=>?_⟩;show X j r=shv d s (joinD d N X) ν r;rw[h.again hm ν r hr,←hν];exact(h5 r hr).symm
end
theorem torn_iff{d s R n:Nat}{N:Nat→Int}{X:Nat→Nat→Int}(hm:madeB d s R N X=true)(hall:∀j,j<n→decide (∀r,r<R→crv d N (fun i=>X i r) (N j)=X j r)=true):tornB d s R n N X=false:=by
 unfold tornB;have e1:decide (∀r,r<R→∀j,j<n→crv d N (fun i=>X i r) (N j)=X j r)=true:=decide_eq_true fun r hr j hj=>of_decide_eq_true (hall j hj) r hr;have e2:decide (∀i,i<R*d→i<s∨joinD d N X i=0)=true:=hm;rw[e1,e2];rfl
theorem torn_made{d s R n:Nat}{N:Nat→Int}{X:Nat→Nat→Int}(h:madeB d s R N X=false):tornB d s R n N X=true:=by
 unfold tornB;rw[Bool.not_eq_true'];exact Bool.and_eq_false_iff.2 (Or.inr h)
end
section
def comb:Nat→List Nat→List (List Nat)
 |0,_=>[[]]
 |_+1,[]=>[]
 |k+1,a::l=>(comb k l).map (a :: ·)++comb (k+1) l
def tak{α:Type}(f:Nat→α)(c:List Nat)(j:Nat):α:=f (c.getD j 0)
def Rise(n:Nat)(c:List Nat):Prop:=c.Pairwise (· < ·)∧∀x∈c,x<n
section
variable (d s R n : Nat) (N : Nat → Int) (X : Nat → Nat → Int)
def mkB(c:List Nat):Bool:=madeB d s R (tak N c) (tak X c)
def conD(c:List Nat):Nat→Int:=joinD d (tak N c) (tak X c)
def alB(D:Nat→Int)(j:Nat):Bool:=decide (∀r,r<R→X j r=shv d s D (N j).toNat r)
def badL(D:Nat→Int):List Int:=((List.range n).filter fun j => !alB d s R N X D j).map N
def stepV(st:Option (List Nat))(c:List Nat):Option (List Nat) :=
 if mkB d s R N X c=true then
  (match st with
   |none=>some c
   |some b=>if(badL d s R n N X (conD d N X c)).length<(badL d s R n N X (conD d N X b)).length then some c else some b)
 else st
def electV:Option (List Nat):=(comb d (List.range n)).foldl (stepV d s R n N X) none
end
def srt(l:List Int):List Int:=l.mergeSort fun x y=>decide (x≤y)
def mostC(nd sz:Int)(n:Nat)(N:Nat→Int)(X:Nat→Nat→Int):Option (List Nat):=electV nd.toNat sz.toNat (rowsN nd sz) n N X
def mostE(nd of sz:Int)(n:Nat)(N:Nat→Int)(L:Nat→Nat)(X:Nat→Nat→Int):Int :=
 if checksE nd of sz n N L X=0 then(if(mostC nd sz n N X).isSome=true then 0 else 9)else checksE nd of sz n N L X
def mostD(nd sz:Int)(n:Nat)(N:Nat→Int)(X:Nat→Nat→Int):Nat→Int:=conD nd.toNat N X ((mostC nd sz n N X).getD [])
def mostB(nd of sz:Int)(n:Nat)(N:Nat→Int)(L:Nat→Nat)(X:Nat→Nat→Int):List Int :=
 if mostE nd of sz n N L X=0 then srt (badL nd.toNat sz.toNat (rowsN nd sz) n N X (mostD nd sz n N X))else[]
def MostPost(w:World)(nd of sz:Int)(n:Nat)(N:Nat→Int)(L:Nat→Nat)(X:Nat→Nat→Int)(e:Ending)(w':World):Prop :=
 Below w.heap.size w w'∧∃(r b:Value) (m:Nat),e=.returned (.tuple #[r,b,.int .i64 (mostE nd of sz n N L X)])∧(m:Int)=(if mostE nd of sz n N L X=0 then sz else 0) ∧
  IntSl w' w'.heap.size r m (mostD nd sz n N X)∧IntSl w' w'.heap.size b (mostB nd of sz n N L X).length (fun j=>(mostB nd of sz n N L X).getD j 0)
theorem most_err{w w':World}{nd of sz:Int}{n:Nat}{N:Nat→Int}{L:Nat→Nat}{X:Nat→Nat→Int}{c:Int}(hb:Below w.heap.size w w')(he:mostE nd of sz n N L X=c)(hc:c≠0)(a:Option Addr)(cp:Nat):MostPost w nd of sz n N L X (.returned (.tuple #[.slice a 0 cp,.slice none 0 0,.int .i64 c])) w':=by
 have hB:mostB nd of sz n N L X=[]:=by unfold mostB;rw[he,if_neg hc]
 refine⟨hb,_,_,0,by rw[he],?_,⟨a,cp,rfl,⟨Nat.zero_le _,by omega⟩,Or.inl rfl⟩,⟨none,0,?_,?_,?_⟩⟩;·rw[he,if_neg hc];rfl
 ·rw[hB];rfl
 ·rw[hB];exact⟨Nat.le_refl _,by decide⟩
 rw[hB];exact Or.inl rfl
section
variable {d m s R n : Nat} {N : Nat → Int} {L : Nat → Nat} {X : Nat → Nat → Int}
theorem getD_memV{c:List Nat}{j:Nat}(hj:j<c.length):c.getD j 0∈c:=by
 rw[List.getD_eq_getElem?_getD,List.getElem?_eq_getElem hj];exact List.getElem_mem hj
theorem Rise.lt{c:List Nat}(h:Rise n c){j:Nat}(hj:j<c.length):c.getD j 0<n:=h.2 _ (getD_memV hj)
theorem Rise.up{c:List Nat}(h:Rise n c){i j:Nat}(hij:i<j)(hj:j<c.length):c.getD i 0<c.getD j 0:=by
 rw[List.getD_eq_getElem?_getD,List.getD_eq_getElem?_getD,List.getElem?_eq_getElem hj,List.getElem?_eq_getElem (Nat.lt_trans hij hj)];exact List.pairwise_iff_getElem.1 h.1 i j (Nat.lt_trans hij hj) hj hij
theorem Rise.inj{c:List Nat}(h:Rise n c){i j:Nat}(hi:i<c.length)(hj:j<c.length)(e:c.getD i 0=c.getD j 0):i=j:=by
 rcases Nat.lt_trichotomy i j with h1|h1|h1;·have:=h.up h1 hj;omega
 ·exact h1
 have:=h.up h1 hi;omega
theorem Shares.takI(h:Shares d m s R n N L X){c:List Nat}{k:Nat}(hk:d≤k)(hk8:k≤8)(hlt:∀j,j<k→c.getD j 0<n)(hin:∀i j,i<k→j<k→c.getD i 0=c.getD j 0→i=j):Shares d m s R k (tak N c) (tak L c) (tak X c) :=
 ⟨h.plan,h.rows,⟨hk,hk8⟩,fun j hj=>h.who _ (hlt j hj),fun j hj=>h.len _ (hlt j hj),fun j hj=>h.num _ (hlt j hj),
  fun i j hi hj e=>hin i j hi hj (h.inj _ _ (hlt i hi) (hlt j hj) e)⟩
theorem Shares.take(h:Shares d m s R n N L X){c:List Nat}(hc:Rise n c)(hl:c.length=d):Shares d m s R d (tak N c) (tak L c) (tak X c) :=
 h.takI (Nat.le_refl _) (by have:=h.le;omega) (fun j hj=>hc.lt (by omega)) (fun i j hi hj=>hc.inj (by omega) (by omega))
theorem Shares.checks(h:Shares d m s R n N L X):checksE (d:Int) (m:Int) (s:Int) n N L X=0:=by
 have hle:=h.le;unfold checksE;rw[if_pos h.plan,if_pos (by omega),if_pos,if_pos (by omega)];refine scanS_mk n 0 fun j _ hj=>⟨oneE_mk h.plan (h.who j (by omega)) (by rw[h.len j (by omega),h.rows]) (fun i hi=>h.num j (by omega) i (by rw[h.len j (by omega)]at hi;exact hi)),?_⟩;by_cases hb:hasB N j (N j)=true
 ·obtain⟨i,hi,e⟩:=(hasB_iff _ j _).1 hb
  have:=h.inj i j (by omega) (by omega) e;omega
 simpa using hb
theorem Shares.joinE(h:Shares d m s R d N L X):joinE (d:Int) (m:Int) (s:Int) d N L X=if madeB d s R N X=true then 0 else 9:=by
 rw[joinE_checks,if_pos h.checks,Int.toNat_natCast,Int.toNat_natCast,h.rows];cases hm:madeB d s R N X with
 |true=>rw[torn_iff hm fun j hj=>decide_eq_true fun r hr=>crv_own (h.good r hr) j hj];rfl
 |false=>rw[torn_made hm];rfl
theorem sameB_al(h:Shares d m s R n N L X)(D:Nat→Int)(j ν:Nat)(hj:j<n)(hν:N j=(ν:Int)):sameB (N j) (ν:Int) (L j) R (X j) (fun r=>shv d s D ν r)=alB d s R N X D j:=by
 unfold sameB eqB alB;rw[decide_eq_true hν,Bool.true_and,decide_eq_decide,h.len j hj,hν,Int.toNat_natCast];exact⟨fun h=>h.2,fun h=>⟨rfl,h⟩⟩
theorem crv_congr{k:Nat}{A A' B B':Nat→Int}{t:Int}(hA:∀j,j<k→0≤A j∧A j≤30)(g:Good k k A B)(h1:∀j,j<k→A' j=A j)(h2:∀j,j<k→B' j=B j):crv k A' B' t=crv k A B t:=by
 have g':Good k k A' B':=⟨rfl,g.len,fun j hj=>by rw[h1 j hj];exact g.3 j hj,fun j hj=>by rw[h2 j hj];exact g.4 j hj,fun i j hi hj e=>g.5 i j hi hj (by rw[←h1 i hi,←h1 j hj];exact e)⟩;exact crv_alike g g' (Nat.le_refl _) (fun j hj=>by rw[h1 j hj,h2 j hj,crv_own g j hj]) t
end
theorem Shares.joinD_congr{d m s R n n':Nat}{N N':Nat→Int}{L L':Nat→Nat}{X X':Nat→Nat→Int}(h:Shares d m s R n N L X)(h1:∀j,j<d→N' j=N j)(h2:∀j,j<d→X' j=X j)(i:Nat)(hi:i<R*d):joinD d N' X' i=joinD d N X i:=by
 unfold joinD;have hd:0<d:=Nat.pos_of_ne_zero fun e=>by subst e;omega
 have hr:i/d<R:=(Nat.div_lt_iff_lt_mul hd).2 hi;exact crv_congr (h.good _ hr).3 (h.good _ hr) h1 (fun j hj=>by rw[h2 j hj])
theorem comb_range(k:Nat):∀i m,k≤m→∃t,comb k (List.range' i m)=List.range' i k::t:=by
 induction k with
 |zero=>intro i m _;exact⟨[],by simp[comb]⟩
 |succ k ih =>
  intro i m hm;obtain⟨m',rfl⟩:∃m',m=m'+1:=⟨m-1,by omega⟩;obtain⟨t,ht⟩:=ih (i+1) m' (by omega);refine⟨t.map (i :: ·)++comb (k+1) (List.range' (i+1) m'),?_⟩;rw[List.range'_succ,comb,ht,List.map_cons,List.cons_append,List.range'_succ]
theorem getD_range'(i k j:Nat)(hj:j<k):(List.range' i k).getD j 0=i+j:=by
 rw[List.getD_eq_getElem?_getD,List.getElem?_range' hj];simp
theorem fold_stay{d s R n:Nat}{N:Nat→Int}{X:Nat→Nat→Int}{c:List Nat}(h:badL d s R n N X (conD d N X c)=[])(l:List (List Nat)):l.foldl (stepV d s R n N X) (some c)=some c:=by
 induction l with
 |nil=>rfl
 |cons a l ih =>
  rw[List.foldl_cons];have e:stepV d s R n N X (some c) a=some c:=by
   unfold stepV;by_cases hm:mkB d s R N X a=true
   ·rw[if_pos hm]
    simp only[h,List.length_nil,Nat.not_lt_zero,if_false]
   rw[if_neg hm]
  rw[e];exact ih
section
variable {d m s R n : Nat} {N : Nat → Int} {L : Nat → Nat} {X : Nat → Nat → Int}
theorem tak_first(f:Nat→Nat→Int)(j:Nat)(hj:j<d):tak f (List.range' 0 d) j=f j:=by
 unfold tak;rw[getD_range' 0 d j hj,Nat.zero_add]
theorem takN_first(j:Nat)(hj:j<d):tak N (List.range' 0 d) j=N j:=by
 unfold tak;rw[getD_range' 0 d j hj,Nat.zero_add]
theorem conD_first(h:Shares d m s R n N L X)(i:Nat)(hi:i<R*d):conD d N X (List.range' 0 d) i=joinD d N X i :=
 h.joinD_congr (n':=n) (L':=L) (fun j hj=>takN_first j hj) (fun j hj=>tak_first X j hj) i hi
theorem size_le(h:Shares d m s R n N L X):s≤R*d:=by
 obtain⟨a1,a2,a3⟩:=planOk_spec h.plan;have hr:=h.rows;unfold rowsN at hr;have h1:(s:Int)≤((s:Int)+d-1)/d*d:=by
  have e:=Int.emod_add_mul_ediv ((s:Int)+d-1) d;have e2:=Int.emod_lt_of_pos ((s:Int)+d-1) (by omega:(0:Int)<d);rw[Int.mul_comm]at e;omega
 have h2:((R:Nat):Int)=((s:Int)+d-1)/d:=by
  have h3:(0:Int)≤((s:Int)+d-1)/d:=Int.ediv_nonneg (by omega) (by omega);omega
 rw[←h2]at h1;exact_mod_cast h1
theorem shv_congr{D D':Nat→Int}{ν r:Nat}(hs:∀i,i<s→D' i=D i):shv d s D' ν r=shv d s D ν r:=by
 unfold shv;have e:padD s D'=padD s D:=by
  funext j;unfold padD;by_cases h:j<s;·rw[if_pos h,if_pos h,hs j h]
  rw[if_neg h,if_neg h]
 rw[e]
theorem alB_congr{D D':Nat→Int}(hs:∀i,i<s→D' i=D i)(j:Nat):alB d s R N X D' j=alB d s R N X D j:=by
 unfold alB;rw[decide_eq_decide];exact⟨fun h r hr=>by rw[h r hr,shv_congr hs],fun h r hr=>by rw[h r hr,shv_congr hs]⟩
theorem badL_congr{D D':Nat→Int}(hs:∀i,i<s→D' i=D i):badL d s R n N X D'=badL d s R n N X D:=by
 unfold badL;have e:(fun j => !alB d s R N X D' j)=fun j => !alB d s R N X D j:=by funext j;rw[alB_congr hs]
 rw[e]
theorem badL_nil{D:Nat→Int}:badL d s R n N X D=[]↔∀j,j<n→alB d s R N X D j=true:=by
 unfold badL;rw[List.map_eq_nil_iff,List.filter_eq_nil_iff];constructor
 ·intro h j hj
  have:=h j (List.mem_range.2 hj);simpa using this
 intro h j hj;rw[h j (List.mem_range.1 hj)];decide
theorem elect_join(h:Shares d m s R n N L X)(hj:joinE (d:Int) (m:Int) (s:Int) n N L X=0):electV d s R n N X=some (List.range' 0 d)∧badL d s R n N X (conD d N X (List.range' 0 d))=[]:=by
 have hle:=h.le;have hsz:=size_le h;rw[joinE_checks,if_pos h.checks,Int.toNat_natCast,Int.toNat_natCast,h.rows]at hj;have ht:tornB d s R n N X=false:=by
  cases ht:tornB d s R n N X with
  |true=>rw[ht]at hj;simp at hj
  |false=>rfl
 unfold tornB at ht;rw[Bool.not_eq_false',Bool.and_eq_true]at ht;have hm:madeB d s R N X=true:=ht.2;have hall:=of_decide_eq_true ht.1;have hmk:mkB d s R N X (List.range' 0 d)=true:=decide_eq_true fun i hi=>by
  rcases of_decide_eq_true hm i hi with h1|h1;·exact Or.inl h1
  exact Or.inr (by rw[←h1];exact conD_first h i hi)
 have hb:badL d s R n N X (conD d N X (List.range' 0 d))=[]:=by
  rw[badL_congr (D:=joinD d N X) (fun i hi=>conD_first h i (by omega))];refine badL_nil.2 fun j hj=>decide_eq_true fun r hr=>?_;have hw:=h.who j hj;rw[h.again hm (N j).toNat r hr,show(((N j).toNat:Nat):Int)=N j by omega];exact(hall r hr j hj).symm
 refine⟨?_,hb⟩;obtain⟨t,ht⟩:=comb_range d 0 n hle.1;unfold electV;rw[List.range_eq_range',ht,List.foldl_cons];have e:stepV d s R n N X none (List.range' 0 d)=some (List.range' 0 d):=by
  unfold stepV;rw[if_pos hmk]
 rw[e];exact fold_stay hb t
end
theorem most_join{nd of sz:Int}{n:Nat}{N:Nat→Int}{L:Nat→Nat}{X:Nat→Nat→Int}(h:joinE nd of sz n N L X≠9):mostE nd of sz n N L X=joinE nd of sz n N L X∧mostB nd of sz n N L X=[]∧(joinE nd of sz n N L X=0→∀i,i<sz.toNat→mostD nd sz n N X i=joinD nd.toNat N X i):=by
 by_cases hc:checksE nd of sz n N L X=0
 ·obtain⟨d,m,s,R,rfl,rfl,rfl,hS⟩:=checks_ok hc
  have hj:joinE (d:Int) (m:Int) (s:Int) n N L X=0:=by
   rw[joinE_checks,if_pos hc]at h ⊢;by_cases ht:tornB (d:Int).toNat (s:Int).toNat (rowsN (d:Int) (s:Int)) n N X=true;·rw[if_pos ht]at h;exact absurd rfl h
   rw[if_neg ht]
  obtain⟨h1,h2⟩:=elect_join hS hj;have hC:mostC (d:Int) (s:Int) n N X=some (List.range' 0 d):=by unfold mostC;rw[Int.toNat_natCast,Int.toNat_natCast,hS.rows];exact h1
  have hE:mostE (d:Int) (m:Int) (s:Int) n N L X=0:=by unfold mostE;rw[if_pos hc,hC];rfl
  have hD:mostD (d:Int) (s:Int) n N X=conD d N X (List.range' 0 d):=by unfold mostD;rw[hC,Int.toNat_natCast];rfl
  refine⟨by rw[hE,hj],?_,fun _ i hi=>?_⟩
  ·unfold mostB
   rw[if_pos hE,hD,Int.toNat_natCast,Int.toNat_natCast,hS.rows,h2];simp[srt]
  rw[hD,Int.toNat_natCast];have:=size_le hS;exact conD_first hS i (by rw[Int.toNat_natCast]at hi;omega)
 have hE:mostE nd of sz n N L X=checksE nd of sz n N L X:=by unfold mostE;rw[if_neg hc]
 have hj:joinE nd of sz n N L X=checksE nd of sz n N L X:=by rw[joinE_checks,if_neg hc]
 refine⟨by rw[hE,hj],?_,fun h0=>absurd (hj.symm.trans h0) hc⟩;unfold mostB;rw[hE,if_neg hc]
theorem srt_len(l:List Int):(srt l).length=l.length:=List.length_mergeSort l
end
section
def nT(P:Ps)(l:List (Nat×Nat))(j:Nat):Int:=if j<l.length then nL P l j else 0
def lT(P:Ps)(l:List (Nat×Nat))(j:Nat):Nat:=if j<l.length then lL P l j else 0
def xT(P:Ps)(l:List (Nat×Nat))(j:Nat):Nat→Int:=if j<l.length then xL P l j else fun _=>0
theorem ShSl.agree{w:World}{B:Nat}{v:Value}{n:Nat}{N N':Nat→Int}{V:Nat→Value}{L L':Nat→Nat}{X X':Nat→Nat→Int}(h:ShSl w B v n N V L X)(e:∀j,j<n→N j=N' j∧L j=L' j∧X j=X' j):ShSl w B v n N' V L' X':=by
 obtain⟨ad,cap,rfl,h0,h2⟩:=h;refine⟨ad,cap,rfl,h0,?_⟩;rcases h2 with h2|⟨b,off,rfl,h4,h5⟩;·exact Or.inl h2
 refine Or.inr ⟨b,off,rfl,h4,fun j hj=>?_⟩;obtain⟨e1,e2,e3⟩:=e j hj;rw[←e1,←e2,←e3];exact h5 j hj
theorem tT_eq(P:Ps)(l:List (Nat×Nat)){j:Nat}(h:j<l.length):nL P l j=nT P l j∧lL P l j=lT P l j∧xL P l j=xT P l j:=by
 unfold nT lT xT;rw[if_pos h,if_pos h,if_pos h];exact⟨rfl,rfl,rfl⟩
section
variable (n : Nat) (b : Bk) (np : Nat) (P : Ps) (k : Int)
def rsE:Int:=if verM n b np P k=0 then mostE (b.nd k.toNat) (b.of k.toNat) (b.sz k.toNat) (thereL P k np).length (nT P (thereL P k np)) (lT P (thereL P k np)) (xT P (thereL P k np))else verM n b np P k
def rsD:Nat→Int:=mostD (b.nd k.toNat) (b.sz k.toNat) (thereL P k np).length (nT P (thereL P k np)) (xT P (thereL P k np))
def rsB:List Int:=if verM n b np P k=0 then mostB (b.nd k.toNat) (b.of k.toNat) (b.sz k.toNat) (thereL P k np).length (nT P (thereL P k np)) (lT P (thereL P k np)) (xT P (thereL P k np))else[]
end
def RestPost(w:World)(n:Nat)(b:Bk)(np:Nat)(P:Ps)(k:Int)(e:Ending)(w':World):Prop :=
 Below w.heap.size w w'∧∃(r bb:Value) (m:Nat),e=.returned (.tuple #[r,bb,.int .i64 (rsE n b np P k)])∧(m:Int)=(if rsE n b np P k=0 then b.sz k.toNat else 0) ∧
  IntSl w' w'.heap.size r m (rsD b np P k)∧IntSl w' w'.heap.size bb (rsB n b np P k).length (fun j=>(rsB n b np P k).getD j 0)
def MeshPost(w:World)(er:Int)(n:Nat)(b:Bk)(np:Nat)(P:Ps)(e:Ending)(w':World):Prop :=
 Below w.heap.size w w'∧∃(vb vl:Value) (n' np':Nat) (PV KV:Nat→Value) (UV:Nat→Nat→Value),e=.returned (.tuple #[meshV vb vl,.int .i64 er])∧n'=(if er=0 then n else 0)∧np'=(if er=0 then np else 0) ∧
  VeSl w' w'.heap.size vb n' PV b∧PsSl w' w'.heap.size vl np' KV UV P
structure MeshR(n:Nat)(b:Bk)(np:Nat)(P:Ps):Prop where
 book:bookE n b=0
 few:np≤8
 peer:∀k,k<np→PeerR n b (P.rm k) (P.m k) (P.t k)
theorem scanP_zero{n:Nat}{b:Bk}{P:Ps}:∀f k,(∀j,k≤j→j<k+f→peerE n b (P.rm j) (P.m j) (P.t j)=0)→scanP n b P f k=0:=by
 intro f;induction f with
 |zero=>intro k _;rfl
 |succ f ih =>
  intro k h;simp only[scanP];rw[if_pos (h k (Nat.le_refl _) (by omega))];exact ih (k+1) fun j h1 h2=>h j (by omega) (by omega)
theorem meshR_of{n:Nat}{b:Bk}{np:Nat}{P:Ps}(h:peersE n b np P=0):MeshR n b np P :=
 ⟨(rightP_of h).book,(rightP_of h).le,fun k hk=>peerR_of ((rightP_of h).each k hk)⟩
theorem MeshR.e{n:Nat}{b:Bk}{np:Nat}{P:Ps}(h:MeshR n b np P):peersE n b np P=0:=by
 unfold peersE;rw[if_pos h.book,if_pos h.few];exact scanP_zero np 0 fun j _ hj=>(h.peer j (by omega)).e
def forA(P:Ps)(ver:Int)(np:Nat)(many:Nat)(j:Nat):Int:=(forL P ver np (many:Int)).getD j 0
theorem forA_at{P:Ps}{ver:Int}{np many:Nat}(h:manyE P ver np (many:Int)=0){i:Nat}(hi:i<many):∃q:Nat,forA P ver np many i=(q:Int)∧q<np∧mayK P ver q∧1≤leftK P q:=by
 obtain⟨e,_,hl⟩:=forL_len h;rw[Int.toNat_natCast]at e hl;obtain⟨q,h1,h2,h3,h4,_⟩:=take_each (P:=P) (ver:=ver) (np:=np) (q:=many) (i:=i) (by omega);exact⟨q,by unfold forA;rw[e];exact h1,h2,h3,h4⟩
theorem forA_ne{P:Ps}{ver:Int}{np many:Nat}(h:manyE P ver np (many:Int)=0){i j:Nat}(hij:j<i)(hi:i<many):forA P ver np many j≠forA P ver np many i:=by
 obtain⟨e,_,hl⟩:=forL_len h;rw[Int.toNat_natCast]at e hl;unfold forA;rw[e];exact(take_ahead (P:=P) (ver:=ver) (np:=np) (q:=many) hij (by omega)).1
section
variable (n : Nat) (b : Bk) (np : Nat) (P : Ps) (need of : Int) (len : Nat) (D : Nat → Int) (lp : Nat) (X : Nat → Int)
def saveB:Bk:=snocB n b lp X need of (len:Int)
def saveE:Int :=
 if peersE n b np P=0 then(if splitE need of (len:Int) len D=0 then(if bookE (n+1) (saveB n b need of len lp X)=0 then manyE P (n:Int) np of else bookE (n+1) (saveB n b need of len lp X))else splitE need of (len:Int) len D)else peersE n b np P
def saveP:Ps:=giveP P (n:Int) (forA P (n:Int) np of.toNat) (fun k=>(k:Int)) (fun _=>rowsN need (len:Int)) (fun k r=>shv need.toNat len D k r) of.toNat
end
section
variable (P : Ps) (ver : Int) (R : Nat) (S : Nat → Nat → Int)
def hasK(k:Nat):Bool:=P.th k&&decide (0≤fstAt (P.t k).V ver (P.m k) 0)
def atK(k:Nat):Nat:=(fstAt (P.t k).V ver (P.m k) 0).toNat
def numK(k:Nat):Int:=(P.t k).N (atK P ver k)
def goodK(k:Nat):Bool:=sameB (numK P ver k) (numK P ver k) ((P.t k).L (atK P ver k)) R ((P.t k).X (atK P ver k)) (S (numK P ver k).toNat)
def repS:Nat→List Int
 |0=>[]
 |k+1=>if(hasK P ver k&&(goodK P ver R S k && !(repS k).contains (numK P ver k)))=true then repS k++[numK P ver k]else repS k
def dropK(k:Nat):Bool:=hasK P ver k && !(goodK P ver R S k && !(repS P ver R S k).contains (numK P ver k))
def repP(f:Nat):Ps :=
 ⟨P.th,P.rm,fun k=>if(decide (k<f)&&dropK P ver R S k)=true then(butL (P.t k) ver (P.m k)).length else P.m k,
  fun k=>if(decide (k<f)&&dropK P ver R S k)=true then selT (P.t k) (butL (P.t k) ver (P.m k))else P.t k⟩
def lackL(np of:Nat):List Nat:=(List.range of).filter fun q => !(repS P ver R S np).contains (q:Int)
def fillP(np of:Nat):Ps :=
 giveP (repP P ver R S np) ver (forA (repP P ver R S np) ver np (lackL P ver R S np of).length) (fun j=>(((lackL P ver R S np of).getD j 0:Nat):Int)) (fun _=>R) (fun j r=>S ((lackL P ver R S np of).getD j 0) r) (lackL P ver R S np of).length
def fillE(np of:Nat):Int:=manyE (repP P ver R S np) ver np ((lackL P ver R S np of).length:Int)
end
section
variable (n : Nat) (b : Bk) (np : Nat) (P : Ps) (k : Int)
def rsS(q r:Nat):Int:=shv (b.nd k.toNat).toNat (b.sz k.toNat).toNat (rsD b np P k) q r
def mendE:Int:=if rsE n b np P k=0 then fillE P k (rowsN (b.nd k.toNat) (b.sz k.toNat)) (rsS b np P k) np (b.of k.toNat).toNat else rsE n b np P k
def mendP:Ps:=fillP P k (rowsN (b.nd k.toNat) (b.sz k.toNat)) (rsS b np P k) np (b.of k.toNat).toNat
end
def freshP(X:Nat→Int):Ps:=⟨fun _=>true,X,fun _=>0,fun _=>⟨fun _=>0,fun _=>0,fun _=>0,fun _ _=>0⟩⟩
theorem repP_zero(P:Ps)(ver:Int)(R:Nat)(S:Nat→Nat→Int):repP P ver R S 0=P:=by
 unfold repP;simp
end
end Go.Proofs.YtajmnlhfnhbleaaGreat
