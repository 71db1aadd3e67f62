/- Several texts of one proof, in their order. -/
import Derived.Test.YtajmnlhfnhbleaaGreatDSum9
import Derived.Deep.CutRange
namespace Go.Proofs.YtajmnlhfnhbleaaGreat
open Go.RowKit CurveMath
set_option linter.unusedVariables false
def atE(nx ny:Nat)(X Y:Nat→Int)(t:Int):Int:=if chk nx ny X Y=0 then(if isNum t=true then 0 else 2)else chk nx ny X Y
def atV(nx ny:Nat)(X Y:Nat→Int)(t:Int):Int:=if atE nx ny X Y t=0 then crv nx X Y t else 0
def CheckSpec:Prop:=∀(v1 v2:Value) (n1 n2:Nat) (X Y:Nat→Int) (w:World),IntSl w w.heap.size v1 n1 X→IntSl w w.heap.size v2 n2 Y →
 Calls Tryz.prog 167 #[v1,v2] w fun e w'=>e=.returned (.int .i64 (chk n1 n2 X Y))∧Below w.heap.size w w'
def AtSpec:Prop:=∀(v1 v2:Value) (n1 n2:Nat) (X Y:Nat→Int) (t:Int) (w:World),IntSl w w.heap.size v1 n1 X→IntSl w w.heap.size v2 n2 Y →
 Calls Tryz.prog 146 #[v1,v2,.int .i64 t] w fun e w'=>e=.returned (.tuple #[.int .i64 (atV n1 n2 X Y t),.int .i64 (atE n1 n2 X Y t)])∧Below w.heap.size w w'
theorem scan_ok(X Y:Nat→Int)(m:Nat):∀k,scan X Y m k=0→∀j,k≤j→j<k+m→(isNum (X j)=true∧isNum (Y j)=true∧hasB X j (X j)=false):=by
 induction m with
 |zero=>intro k _ j h1 h2;omega
 |succ m ih =>
  intro k h j h1 h2;simp only[scan]at h;by_cases hb:(isNum (X k)&&isNum (Y k))=false;·rw[if_pos hb]at h;omega
  rw[if_neg hb]at h;by_cases hd:hasB X k (X k)=true;·rw[if_pos hd]at h;omega
  rw[if_neg hd]at h;by_cases hjk:j=k
  ·subst hjk
   have hb':(isNum (X j)&&isNum (Y j))=true:=by simpa using hb
   rw[Bool.and_eq_true]at hb';exact⟨hb'.1,hb'.2,by simpa using hd⟩
  exact ih (k+1) h j (by omega) (by omega)
theorem scan_mk(X Y:Nat→Int)(m:Nat):∀k,(∀j,k≤j→j<k+m→(isNum (X j)=true∧isNum (Y j)=true∧hasB X j (X j)=false))→scan X Y m k=0:=by
 induction m with
 |zero=>intro k _;rfl
 |succ m ih =>
  intro k h;obtain⟨h1,h2,h3⟩:=h k (by omega) (by omega);simp only[scan];rw[if_neg (by rw[h1,h2];simp),if_neg (by rw[h3];simp)];exact ih (k+1) (fun j hj1 hj2=>h j (by omega) (by omega))
structure Good(n m:Nat)(X Y:Nat→Int):Prop where
 same:n=m
 len:1≤n∧n≤8
 xs:∀j,j<n→0≤X j∧X j≤30
 ys:∀j,j<n→0≤Y j∧Y j≤30
 inj:∀i j,i<n→j<n→X i=X j→i=j
theorem chk_ok{n m:Nat}{X Y:Nat→Int}(h:chk n m X Y=0):Good n m X Y:=by
 unfold chk at h;by_cases h1:n=m
 ·rw[if_neg (by omega)]at h
  by_cases h2:1≤n∧n≤8
  ·rw[if_pos h2]at h
   have h3:=scan_ok X Y n 0 h;have key:∀i j,i<j→j<n→X i≠X j:=fun i j hij hj e=>by
    have h4:=(h3 j (by omega) (by omega)).2.2;have h5:hasB X j (X j)=true:=(hasB_iff X j (X j)).2 ⟨i,hij,e⟩;rw[h5]at h4;cases h4
   refine⟨h1,h2,fun j hj=>(isNum_iff _).1 (h3 j (by omega) (by omega)).1,fun j hj=>(isNum_iff _).1 (h3 j (by omega) (by omega)).2.1,fun i j hi hj e=>?_⟩;rcases Nat.lt_trichotomy i j with hlt|heq|hgt;·exact absurd e (key i j hlt hj)
   ·exact heq
   exact absurd e.symm (key j i hgt hi)
  rw[if_neg h2]at h;omega
 rw[if_pos h1]at h;omega
theorem chk_mk{n m:Nat}{X Y:Nat→Int}(h:Good n m X Y):chk n m X Y=0:=by
 unfold chk;rw[if_neg (by have:=h.same;omega),if_pos h.len];refine scan_mk X Y n 0 fun j _ hj=>⟨(isNum_iff _).2 (h.xs j (by omega)),(isNum_iff _).2 (h.ys j (by omega)),?_⟩;by_cases hb:hasB X j (X j)=true
 ·obtain⟨i,hi,e⟩:=(hasB_iff X j (X j)).1 hb
  have:=h.inj i j (by omega) (by omega) e;omega
 simpa using hb
theorem Good.injF{n m:Nat}{X Y:Nat→Int}(h:Good n m X Y):Inj n (fun i=>toF (X i)):=fun i j hi hj e=>h.inj i j hi hj (toF_num (h.xs i hi) (h.xs j hj) e)
theorem atE_ok{n m:Nat}{X Y:Nat→Int}{t:Int}(h:chk n m X Y=0)(ht:isNum t=true):atE n m X Y t=0∧atV n m X Y t=crv n X Y t:=by
 have e:atE n m X Y t=0:=by unfold atE;rw[if_pos h,if_pos ht]
 exact⟨e,by unfold atV;rw[if_pos e]⟩
theorem valueAt_good(v1 v2:Value)(n:Nat)(X Y:Nat→Int)(t:Int)(w:World)(h1:IntSl w w.heap.size v1 n X)(h2:IntSl w w.heap.size v2 n Y)(hg:Good n n X Y)(ht:0≤t∧t≤30):
 Calls Tryz.prog 132 #[v1,v2,.int .i64 t] w fun e w'=>e=.returned (.int .i64 (crv n X Y t))∧Below w.heap.size w w':=by
 obtain⟨a1,c1,rfl,⟨hc1,hr1⟩,hx⟩:=h1
 obtain⟨a2,c2,rfl,⟨hc2,hr2⟩,hy⟩:=h2
 have hl:=hg.len
 rcases hx with h0|⟨b1,o1,rfl,hb1,hx⟩
 ·omega
 rcases hy with h0|⟨b2,o2,rfl,_,hy⟩
 ·omega
 exact valueAt_any b1 o1 c1 b2 o2 c2 n X Y t w hg.len hg.xs hg.ys ht hg.inj hb1 hx hy
theorem crvF_uniq{n m:Nat}{X Y:Nat→Int}(h:Good n m X Y)(f:F→F)(hf:Deg n f)(hp:∀j,j<n→f (toF (X j))=toF (Y j))(t:Int):crvF n X Y t=f (toF t):=by
 unfold crvF;exact Deg.uniq (newt_deg _ _ n h.injF) hf h.injF (fun i hi=>by rw[newt_at _ _ n h.injF i hi];exact(hp i hi).symm) (toF t)
theorem crv_uniq{n m:Nat}{X Y:Nat→Int}(h:Good n m X Y)(f:F→F)(hf:Deg n f)(hp:∀j,j<n→f (toF (X j))=toF (Y j))(t v:Int)(hv:0≤v∧v≤30)(e:toF v=f (toF t)):crv n X Y t=v :=
 (crv_of n X Y t v hv (by rw[crvF_uniq h f hf hp t];exact e)).symm
theorem at_up(hA:AtSpec){w0:World}{v1 v2:Value}{n1 n2:Nat}{X Y:Nat→Int}(h1:IntSl w0 w0.heap.size v1 n1 X)(h2:IntSl w0 w0.heap.size v2 n2 Y)(hg:chk n1 n2 X Y=0)(t:Int)(ht:0≤t∧t≤30)(w':World)(hb:Below w0.heap.size w0 w'):
 Calls Tryz.prog 146 #[v1,v2,.int .i64 t] w' fun e w''=>e=.returned (.tuple #[.int .i64 (crv n1 X Y t),.int .i64 0])∧Below w0.heap.size w0 w'':=by
 obtain⟨e1,e2⟩:=atE_ok (t:=t) hg ((isNum_iff t).2 ht)
 have h:=hA _ _ n1 n2 X Y t w' (h1.up hb) (h2.up hb)
 rw[e1,e2]at h
 exact h.mono fun e w'' ⟨he,hb2⟩=>⟨he,hb.trans (hb2.mono hb.size)⟩
theorem clone_isl{w:World}{v:Value}{n:Nat}{X:Nat→Int}(h:IntSl w w.heap.size v n X)(hn:1≤n):
 Calls Tryz.prog 61 #[v] w fun e w'=>∃g cap,e=.returned (.slice (some ⟨g,0,none⟩) n cap)∧n≤cap∧Row w w' g n X:=by
 obtain⟨ad,cap,rfl,⟨hc,hr⟩,hx⟩:=h
 rcases hx with h0|⟨b,off,rfl,_,hx⟩
 ·omega
 ·exact clone_any b off n cap X hn hr w hx
def ShSl(w:World)(B:Nat)(v:Value)(n:Nat)(N:Nat→Int)(V:Nat→Value)(L:Nat→Nat)(X:Nat→Nat→Int):Prop :=
 ∃(ad:Option Addr) (cap:Nat),v=.slice ad n cap∧(n≤cap∧n*32≤140737488351232)∧(n=0∨∃b off,ad=some ⟨b,off,none⟩∧b<B∧∀j,j<n →
  w.cell? ⟨b,off+j*2,none⟩=some (.int .i64 (N j))∧w.cell? ⟨b,off+j*2+1,none⟩=some (V j)∧IntSl w B (V j) (L j) (X j))
theorem ShSl.below{w w':World}{B:Nat}{v:Value}{n:Nat}{N:Nat→Int}{V:Nat→Value}{L:Nat→Nat}{X:Nat→Nat→Int}(h:ShSl w B v n N V L X)(hb:Below B w w'):ShSl w' B v n N V L X:=by
 obtain⟨ad,cap,h1,h0,h2⟩:=h;refine⟨ad,cap,h1,h0,?_⟩;rcases h2 with h2|⟨b,off,h3,h4,h5⟩;·exact Or.inl h2
 refine Or.inr ⟨b,off,h3,h4,fun j hj=>?_⟩;obtain⟨g1,g2,g3⟩:=h5 j hj;exact⟨by rw[hb.cell h4];exact g1,by rw[hb.cell h4];exact g2,g3.below hb⟩
theorem ShSl.mono{w:World}{B B':Nat}{v:Value}{n:Nat}{N:Nat→Int}{V:Nat→Value}{L:Nat→Nat}{X:Nat→Nat→Int}(h:ShSl w B v n N V L X)(hb:B≤B'):ShSl w B' v n N V L X:=by
 obtain⟨ad,cap,h1,h0,h2⟩:=h;refine⟨ad,cap,h1,h0,?_⟩;rcases h2 with h2|⟨b,off,h3,h4,h5⟩;·exact Or.inl h2
 exact Or.inr ⟨b,off,h3,by omega,fun j hj=>⟨(h5 j hj).1,(h5 j hj).2.1,(h5 j hj).2.2.mono hb⟩⟩
theorem ShSl.up{w w':World}{v:Value}{n:Nat}{N:Nat→Int}{V:Nat→Value}{L:Nat→Nat}{X:Nat→Nat→Int}(h:ShSl w w.heap.size v n N V L X)(hb:Below w.heap.size w w'):ShSl w' w'.heap.size v n N V L X :=
 (h.below hb).mono hb.size
def cellS(N:Nat→Int)(V:Nat→Value)(i:Nat):Value:=if i%2=0 then .int .i64 (N (i/2))else V (i/2)
def flatS(n:Nat)(N:Nat→Int)(V:Nat→Value):List Value:=(List.range (n*2)).map (cellS N V)
theorem flatS_len(n:Nat)(N:Nat→Int)(V:Nat→Value):(flatS n N V).length=n*2:=by simp[flatS]
theorem flatS_get(n:Nat)(N:Nat→Int)(V:Nat→Value)(i:Nat):(flatS n N V)[i]?=if i<n*2 then some (cellS N V i)else none:=by
 unfold flatS;by_cases h:i<n*2;·simp[h]
 simp[h]
theorem flatS_succ(n:Nat)(N:Nat→Int)(V:Nat→Value):flatS (n+1) N V=flatS n N V++[.int .i64 (N n),V n]:=by
 apply List.ext_getElem?;intro i;rw[List.getElem?_append,flatS_len,flatS_get,flatS_get];by_cases h1:i<n*2;·rw[if_pos (by omega),if_pos h1,if_pos h1]
 rw[if_neg h1];by_cases h2:i=n*2
 ·subst h2
  rw[if_pos (by omega),Nat.sub_self];unfold cellS;rw[if_pos (by omega),show n*2/2=n by omega];rfl
 by_cases h3:i=n*2+1
 ·subst h3
  rw[if_pos (by omega),show n*2+1-n*2=1 by omega];unfold cellS;rw[if_neg (by omega),show(n*2+1)/2=n by omega];rfl
 rw[if_neg (by omega)];rw[List.getElem?_eq_none (by simp;omega)]
theorem flatS_one{n:Nat}{N:Nat→Int}{V:Nat→Value}(hV:∀j,j<n→(V j).oneCell'=true):∀u∈flatS n N V,u.oneCell'=true:=by
 intro u hu;obtain⟨i,hi,rfl⟩:=List.mem_map.1 hu;have hi':=List.mem_range.1 hi;unfold cellS;split;·rfl
 exact hV _ (by omega)
def OwnS(w0 wr:World)(v:Value)(n:Nat)(N:Nat→Int)(V:Nat→Value):Prop:=wr.ownsRow w0.heap.size 81 2 v n (flatS n N V)∧Below w0.heap.size w0 wr
theorem OwnS.nil(w:World)(N:Nat→Int)(V:Nat→Value):OwnS w w (.slice none 0 0) 0 N V:=⟨World.ownsRow_nil _ _ _ _,Below.refl _ _⟩
theorem OwnS.at{w0 wr:World}{v:Value}{n:Nat}{N:Nat→Int}{V:Nat→Value}(h:OwnS w0 wr v n N V)(hn:1≤n):∃g cap cur,v=.slice (some ⟨g,0,none⟩) n cap∧w0.heap.size≤g∧wr.heap[g]?=some (.cells cur 81 (0,0))∧n≤cap∧cap≤maxLen∧cur.size=cap*2 ∧
 ∀j,j<n→wr.cell? ⟨g,j*2,none⟩=some (.int .i64 (N j))∧wr.cell? ⟨g,j*2+1,none⟩=some (V j):=by
 obtain⟨⟨hl,h2⟩,hb⟩:=h
 rcases h2 with⟨_,h0⟩|⟨g,cap,cur,hv,hg,hh,hc1,hc2,hsz,hcur⟩
 ·omega
 ·refine⟨g,cap,cur,hv,hg,hh,hc1,hc2,hsz,fun j hj=>?_⟩
  have key:∀i,i<n*2→wr.cell? ⟨g,i,none⟩=some (cellS N V i):=fun i hi=>by
   have h3:=flatS_get n N V i;rw[if_pos hi,←hcur,List.getElem?_take,if_pos hi]at h3;exact cell_at hh (by simpa using h3)
  refine⟨?_,?_⟩
  ·rw[key (j*2) (by omega)]
   unfold cellS;rw[if_pos (by omega),show j*2/2=j by omega]
  rw[key (j*2+1) (by omega)];unfold cellS;rw[if_neg (by omega),show(j*2+1)/2=j by omega]
theorem OwnS.shl{w0 wr:World}{v:Value}{n:Nat}{N:Nat→Int}{V:Nat→Value}{L:Nat→Nat}{X:Nat→Nat→Int}(h:OwnS w0 wr v n N V)(hr:n*32≤140737488351232)(hi:∀j,j<n→IntSl wr wr.heap.size (V j) (L j) (X j)):ShSl wr wr.heap.size v n N V L X:=by
 by_cases h0:n=0
 ·subst h0
  rcases h.1.2 with⟨rfl,_⟩|⟨g,cap,cur,rfl,_,_,hc,_⟩;·exact⟨none,0,rfl,⟨Nat.le_refl _,by omega⟩,Or.inl rfl⟩
  exact⟨_,cap,rfl,⟨hc,by omega⟩,Or.inl rfl⟩
 obtain⟨g,cap,cur,rfl,hg,hh,hc,_,_,hcell⟩:=h.at (by omega);refine⟨_,cap,rfl,⟨hc,hr⟩,Or.inr ⟨g,0,rfl,cell_lt (hcell 0 (by omega)).1,fun j hj=>?_⟩⟩;obtain⟨c1,c2⟩:=hcell j hj;rw[Nat.zero_add];exact⟨c1,c2,hi j hj⟩
theorem Tryz.infoShare:(Tryz.prog.info? 81).map (fun i=>(i.zero,i.size,i.bytes))=some (some (.agg #[.int .i64 0,.slice none 0 0]),2,32):=by kernel_rfl
theorem slice_one{w:World}{B:Nat}{v:Value}{n:Nat}{X:Nat→Int}(h:IntSl w B v n X):v.oneCell'=true:=by
 obtain⟨ad,cap,rfl,_⟩:=h;rfl
def padD(n:Nat)(D:Nat→Int)(j:Nat):Int:=if j<n then D j else 0
def shv(nd:Nat)(n:Nat)(D:Nat→Int)(k r:Nat):Int:=crv nd (fun i=>(i:Int)) (fun i=>padD n D (r*nd+i)) k
def splitE(nd of sz:Int)(n:Nat)(D:Nat→Int):Int :=
 if planOk nd of sz=true then(if(n:Int)=sz then(if numsB n D=true then 0 else 2)else 3)else 2
def scanS(nd of sz:Int)(N:Nat→Int)(L:Nat→Nat)(X:Nat→Nat→Int):Nat→Nat→Int
 |0,_=>0
 |m+1,k=>if oneE nd of sz (N k) (L k) (X k)=0 then(if hasB N k (N k)=true then 5 else scanS nd of sz N L X m (k+1))else oneE nd of sz (N k) (L k) (X k)
def joinD(nd:Nat)(N:Nat→Int)(X:Nat→Nat→Int)(i:Nat):Int:=crv nd N (fun j=>X j (i/nd)) ((i%nd:Nat):Int)
def tornB(nd sz:Nat)(rows n:Nat)(N:Nat→Int)(X:Nat→Nat→Int):Bool :=
 !(decide (∀r,r<rows→∀j,j<n→crv nd N (fun i=>X i r) (N j)=X j r)&&decide (∀i,i<rows*nd→i<sz∨joinD nd N X i=0))
def joinE(nd of sz:Int)(n:Nat)(N:Nat→Int)(L:Nat→Nat)(X:Nat→Nat→Int):Int :=
 if planOk nd of sz=true then
  (if n≤8 then
   (if scanS nd of sz N L X n 0=0 then
    (if nd≤(n:Int)then(if tornB nd.toNat sz.toNat (rowsN nd sz) n N X=true then 9 else 0)else 7)
   else scanS nd of sz N L X n 0)
  else 1)
 else 2
structure Owes:Prop where
 check:∀(nd of sz:Int) (w:World),Calls Tryz.prog 110 #[planV nd of sz] w fun e w'=>e=.returned (.int .i64 (chkP nd of sz))∧Below w.heap.size w w'
 long:∀(nd of sz:Int) (w:World),Calls Tryz.prog 112 #[planV nd of sz] w fun e w'=>e=.returned (.int .i64 (longP nd of sz))∧Below w.heap.size w w'
 one:∀(nd of sz N:Int) (V:Value) (L:Nat) (X:Nat→Int) (w:World),IntSl w w.heap.size V L X →
  Calls Tryz.prog 164 #[planV nd of sz,shareV N V] w fun e w'=>e=.returned (.int .i64 (oneE nd of sz N L X))∧Below w.heap.size w w'
 same:∀(N1 N2:Int) (V1 V2:Value) (n m:Nat) (X Y:Nat→Int) (w:World),IntSl w w.heap.size V1 n X→IntSl w w.heap.size V2 m Y →
  Calls Tryz.prog 67 #[shareV N1 V1,shareV N2 V2] w fun e w'=>e=.returned (.bool (sameB N1 N2 n m X Y))∧Below w.heap.size w w'
 split:∀(nd of sz:Int) (v:Value) (n:Nat) (D:Nat→Int) (w:World),IntSl w w.heap.size v n D →
  Calls Tryz.prog 79 #[planV nd of sz,v] w fun e w'=>Below w.heap.size w w'∧∃(r:Value) (m:Nat) (V:Nat→Value),e=.returned (.tuple #[r,.int .i64 (splitE nd of sz n D)]) ∧
   (m:Int)=(if splitE nd of sz n D=0 then of else 0)∧ShSl w' w'.heap.size r m (fun k=>(k:Int)) V (fun _=>rowsN nd sz) (fun k i=>shv nd.toNat n D k i) ∧
   Above w.heap.size r∧∀k,k<m→Above w.heap.size (V k)
 join:∀(nd of sz:Int) (v:Value) (n:Nat) (N:Nat→Int) (V:Nat→Value) (L:Nat→Nat) (X:Nat→Nat→Int) (w:World),ShSl w w.heap.size v n N V L X →
  Calls Tryz.prog 104 #[planV nd of sz,v] w fun e w'=>Below w.heap.size w w'∧∃(r:Value) (m:Nat),e=.returned (.tuple #[r,.int .i64 (joinE nd of sz n N L X)]) ∧
   (m:Int)=(if joinE nd of sz n N L X=0 then sz else 0)∧IntSl w' w'.heap.size r m (joinD nd.toNat N X)
theorem ShSl.take{w:World}{B:Nat}{a:Option Addr}{cap n m:Nat}{N:Nat→Int}{V:Nat→Value}{L:Nat→Nat}{X:Nat→Nat→Int}(h:ShSl w B (.slice a n cap) n N V L X)(hm:m≤n):ShSl w B (.slice a m cap) m N V L X:=by
 obtain⟨ad,cp,e,h0,hh⟩:=h;injection e with e1 _ e3;subst e1 e3;refine⟨a,cap,rfl,⟨by omega,by omega⟩,?_⟩;rcases hh with hh|⟨b,off,rfl,h4,h5⟩;·exact Or.inl (by omega)
 exact Or.inr ⟨b,off,rfl,h4,fun j hj=>h5 j (by omega)⟩
theorem splitE_ok{nd of sz:Int}{n:Nat}{D:Nat→Int}(h:splitE nd of sz n D=0):planOk nd of sz=true∧(n:Int)=sz∧∀j,j<n→0≤D j∧D j≤30:=by
 unfold splitE at h;by_cases h1:planOk nd of sz=true
 ·rw[if_pos h1]at h
  by_cases h2:(n:Int)=sz
  ·rw[if_pos h2]at h
   by_cases h3:numsB n D=true
   ·refine⟨h1,h2,fun j hj=>?_⟩
    exact(isNum_iff _).1 ((of_decide_eq_true h3) j hj)
   rw[if_neg h3]at h;omega
  rw[if_neg h2]at h;omega
 rw[if_neg h1]at h;omega
theorem crv_own{n m:Nat}{X Y:Nat→Int}(h:Good n m X Y)(j:Nat)(hj:j<n):crv n X Y (X j)=Y j:=by
 have hm:=h.same;refine(crv_of n X Y (X j) (Y j) (h.ys j hj) ?_).symm;unfold crvF;exact(newt_at (fun i=>toF (X i)) (fun i=>toF (Y i)) n h.injF j hj).symm
theorem padD_num{n:Nat}{D:Nat→Int}(hD:∀j,j<n→0≤D j∧D j≤30)(j:Nat):0≤padD n D j∧padD n D j≤30:=by
 unfold padD;split;·rename_i h;exact hD j h
 omega
theorem good_row{d n:Nat}{D:Nat→Int}(hd:1≤d∧d≤8)(hD:∀j,j<n→0≤D j∧D j≤30)(r:Nat):Good d d (fun i=>(i:Int)) (fun i=>padD n D (r*d+i)) :=
 ⟨rfl,hd,fun j hj=>by omega,fun j hj=>padD_num hD _,fun i j _ _ e=>by have e2:(i:Int)=(j:Int):=e;omega⟩
theorem shv_num(d n:Nat)(D:Nat→Int)(k r:Nat):0≤shv d n D k r∧shv d n D k r≤30:=crv_num _ _ _ _
theorem cloneS{w:World}{v:Value}{n:Nat}{N:Nat→Int}{V:Nat→Value}{L:Nat→Nat}{X:Nat→Nat→Int}(h:ShSl w w.heap.size v n N V L X)(hn:1≤n∧n≤1000):
 Calls Tryz.prog 142 #[v] w fun e w'=>∃v',e=.returned v'∧OwnS w w' v' n N V:=by
 obtain⟨ad,cap,rfl,⟨hc,hr⟩,hx⟩:=h
 rcases hx with h0|⟨b,off,rfl,hb,hx⟩
 ·omega
 have hnews:∀j u,(flatS n N V)[j]?=some u→w.cell? ⟨b,off+j,none⟩=some u:=by
  intro j u hu;rw[flatS_get]at hu;by_cases h:j<n*2
  ·rw[if_pos h]at hu
   injection hu with hu;rw[←hu];obtain⟨c1,c2,_⟩:=hx (j/2) (by omega);unfold cellS;by_cases h2:j%2=0
   ·rw[if_pos h2,←c1]
    rw[show off+j/2*2=off+j by omega]
   rw[if_neg h2,←c2];rw[show off+j/2*2+1=off+j by omega]
  rw[if_neg h]at hu;cases hu
 have h1:∀u∈flatS n N V,u.oneCell'=true:=flatS_one fun j hj=>slice_one (hx j hj).2.2
 have HNw:=hid hnews
 have H1:=hid h1
 clear hx hnews h1
 have q25:∀(w:World) (a:Option Addr) (n c:Nat),(binOp .eql 103 (.slice a n c) (.slice none 0 0)).run Tryz.prog w=.ok (.bool a.isNone) w:=fun w a n c=>Lib.run_eql_slice_nil w _ _ a n c 0 0 Tryz.underlying103
 obtain⟨ii,hi,hz0,hz1,hz2⟩:=info_parts Tryz.infoShare
 go_enter Tryz.func142,Tryz.ntmps142
 go_wp2_with(at_builtin;go_must(refine wpList_append_own _ rfl _ _ 103 rfl w.heap.size 81 ii (.agg #[.int .i64 0,.slice none 0 0]) 2 32 Tryz.underlying103 hi hz0 hz1 hz2 rfl (by decide) _ _ _ rfl (World.ownsRow_made w #[] 0 (Nat.le_refl _) (Nat.zero_le _) (by simp)) ⟨b,off,none⟩ n cap (flatS n N V) rfl (flatS_len _ _ _) (fun j u hu=>by rw[Addr.add_lit];exact Lib.cell?_alloc_some _ (HNw.out j u hu)) H1.out (by unfold maxLen;omega) (by omega) (by simp) ?_;intro v1 w2 ho hg _;have HO:=hid ho;have HG:=hid hg;clear ho hg))
 go_ret
 refine⟨_,rfl,?_,?_⟩
 ·have h:=HO.out
  rw[Nat.zero_add,List.nil_append]at h;exact h
 ·exact((Below.refl _ _).alloc (Nat.le_refl _) _).grown HG.out (by simp) (fun k hk=>by cases hk;exact Nat.le_refl _)
theorem grownBy_set{w w':World}{g off:Nat}{u:Value}(h:w.grownBy w' (some g)):w.grownBy (w'.setCell ⟨g,off,none⟩ u) (some g):=by
 refine⟨h.os,h.tape,h.output,by simpa[World.setCell]using h.size,fun i hi hne=>?_⟩;rw[←h.block i hi hne];have hg:g≠i:=fun e=>hne (by rw[e]);simp[World.setCell,Array.getElem?_modify,hg]
theorem owns_room{w:World}{base g n cap:Nat}{e:TypeId}{ys:List Value}(h:w.ownsRow base e 2 (.slice (some ⟨g,0,none⟩) n cap) n ys)(i:Nat)(hi:i<cap*2):(∃u,w.cell? ⟨g,i,none⟩=some u)∧w.frozen? ⟨g,i,none⟩=false:=by
 obtain⟨hl,h2⟩:=h;rcases h2 with⟨h0,_⟩|⟨g',cap',cur,hv,hg,hh,hc1,hc2,hsz,hcur⟩;·cases h0
 injection hv with e1 _ e3;injection e1 with e1;injection e1 with e1;subst e1 e3;exact⟨⟨_,cell_at hh (Array.getElem?_eq_getElem (by omega))⟩,frozen_at hh⟩
end Go.Proofs.YtajmnlhfnhbleaaGreat
