/- Several texts of one proof, in their order. -/
import Derived.Test.YtajmnlhfnhbleaaGreatKw6
import Derived.Deep.CutRange
namespace Go.Proofs.YtajmnlhfnhbleaaGreat
open Go.RowKit CurveMath
set_option linter.unusedVariables false
def padD(n:Nat)(D:Nat→Int)(j:Nat):Int:=if j<n then D j else 0
def shv(nd:Nat)(n:Nat)(D:Nat→Int)(k r:Nat):Int:=crv nd (fun i=>(i:Int)) (fun i=>padD n D (r*nd+i)) k
def splitE(nd of sz:Int)(n:Nat)(D:Nat→Int):Int :=
 if planOk nd of sz=true then(if(n:Int)=sz then(if numsB n D=true then 0 else 2)else 3)else 2
def scanS(nd of sz:Int)(N:Nat→Int)(L:Nat→Nat)(X:Nat→Nat→Int):Nat→Nat→Int
 |0,_=>0
 |m+1,k=>if oneE nd of sz (N k) (L k) (X k)=0 then(if hasB N k (N k)=true then 5 else scanS nd of sz N L X m (k+1))else oneE nd of sz (N k) (L k) (X k)
def joinD(nd:Nat)(N:Nat→Int)(X:Nat→Nat→Int)(i:Nat):Int:=crv nd N (fun j=>X j (i/nd)) ((i%nd:Nat):Int)
def tornB(nd sz:Nat)(rows n:Nat)(N:Nat→Int)(X:Nat→Nat→Int):Bool :=
 !(decide (∀r,r<rows→∀j,j<n→crv nd N (fun i=>X i r) (N j)=X j r)&&decide (∀i,i<rows*nd→i<sz∨joinD nd N X i=0))
def joinE(nd of sz:Int)(n:Nat)(N:Nat→Int)(L:Nat→Nat)(X:Nat→Nat→Int):Int :=
 if planOk nd of sz=true then
  (if n≤8 then
   (if scanS nd of sz N L X n 0=0 then
    (if nd≤(n:Int)then(if tornB nd.toNat sz.toNat (rowsN nd sz) n N X=true then 9 else 0)else 7)
   else scanS nd of sz N L X n 0)
  else 1)
 else 2
structure Owes:Prop where
 check:∀(nd of sz:Int) (w:World),Calls Tryz.prog 110 #[planV nd of sz] w fun e w'=>e=.returned (.int .i64 (chkP nd of sz))∧Below w.heap.size w w'
 long:∀(nd of sz:Int) (w:World),Calls Tryz.prog 112 #[planV nd of sz] w fun e w'=>e=.returned (.int .i64 (longP nd of sz))∧Below w.heap.size w w'
 one:∀(nd of sz N:Int) (V:Value) (L:Nat) (X:Nat→Int) (w:World),IntSl w w.heap.size V L X →
  Calls Tryz.prog 164 #[planV nd of sz,shareV N V] w fun e w'=>e=.returned (.int .i64 (oneE nd of sz N L X))∧Below w.heap.size w w'
 same:∀(N1 N2:Int) (V1 V2:Value) (n m:Nat) (X Y:Nat→Int) (w:World),IntSl w w.heap.size V1 n X→IntSl w w.heap.size V2 m Y →
  Calls Tryz.prog 67 #[shareV N1 V1,shareV N2 V2] w fun e w'=>e=.returned (.bool (sameB N1 N2 n m X Y))∧Below w.heap.size w w'
 split:∀(nd of sz:Int) (v:Value) (n:Nat) (D:Nat→Int) (w:World),IntSl w w.heap.size v n D →
  Calls Tryz.prog 79 #[planV nd of sz,v] w fun e w'=>Below w.heap.size w w'∧∃(r:Value) (m:Nat) (V:Nat→Value),e=.returned (.tuple #[r,.int .i64 (splitE nd of sz n D)]) ∧
   (m:Int)=(if splitE nd of sz n D=0 then of else 0)∧ShSl w' w'.heap.size r m (fun k=>(k:Int)) V (fun _=>rowsN nd sz) (fun k i=>shv nd.toNat n D k i) ∧
   Above w.heap.size r∧∀k,k<m→Above w.heap.size (V k)
 join:∀(nd of sz:Int) (v:Value) (n:Nat) (N:Nat→Int) (V:Nat→Value) (L:Nat→Nat) (X:Nat→Nat→Int) (w:World),ShSl w w.heap.size v n N V L X →
  Calls Tryz.prog 104 #[planV nd of sz,v] w fun e w'=>Below w.heap.size w w'∧∃(r:Value) (m:Nat),e=.returned (.tuple #[r,.int .i64 (joinE nd of sz n N L X)]) ∧
   (m:Int)=(if joinE nd of sz n N L X=0 then sz else 0)∧IntSl w' w'.heap.size r m (joinD nd.toNat N X)
theorem ShSl.set{w:World}{B bs:Nat}{v:Value}{n:Nat}{N:Nat→Int}{V:Nat→Value}{L:Nat→Nat}{X:Nat→Nat→Int}(h:ShSl w B v n N V L X)(ha:Above (bs+1) v)(hV:∀k,k<n→Above (bs+1) (V k))(o:Nat)(u:Value):ShSl (w.setCell ⟨bs,o,none⟩ u) B v n N V L X:=by
 obtain⟨ad,cap,rfl,h0,h2⟩:=h;refine⟨ad,cap,rfl,h0,?_⟩;rcases h2 with h2|⟨b,off,rfl,h4,h5⟩;·exact Or.inl h2
 have hb:bs+1≤b:=ha _ _ _ rfl;refine Or.inr ⟨b,off,rfl,h4,fun j hj=>?_⟩;obtain⟨g1,g2,g3⟩:=h5 j hj;exact⟨by rw[World.cell?_setCell_other _ _ _ _ (by intro e;injection e with e1;omega)];exact g1,by rw[World.cell?_setCell_other _ _ _ _ (by intro e;injection e with e1;omega)];exact g2,g3.set (hV j hj) o u⟩
theorem ShSl.congr{w:World}{B:Nat}{v:Value}{n:Nat}{N N':Nat→Int}{V:Nat→Value}{L L':Nat→Nat}{X X':Nat→Nat→Int}(h:ShSl w B v n N V L X)(h1:∀j,j<n→N j=N' j)(h2:∀j,j<n→L j=L' j)(h3:∀j,j<n→∀i,i<L j→X j i=X' j i):ShSl w B v n N' V L' X':=by
 obtain⟨ad,cap,rfl,h0,hh⟩:=h;refine⟨ad,cap,rfl,h0,?_⟩;rcases hh with hh|⟨b,off,rfl,h4,h5⟩;·exact Or.inl hh
 refine Or.inr ⟨b,off,rfl,h4,fun j hj=>?_⟩;obtain⟨g1,g2,g3⟩:=h5 j hj;refine⟨by rw[g1,h1 j hj],g2,?_⟩;rw[←h2 j hj];exact g3.congr (h3 j hj)
theorem ShSl.take{w:World}{B:Nat}{a:Option Addr}{cap n m:Nat}{N:Nat→Int}{V:Nat→Value}{L:Nat→Nat}{X:Nat→Nat→Int}(h:ShSl w B (.slice a n cap) n N V L X)(hm:m≤n):ShSl w B (.slice a m cap) m N V L X:=by
 obtain⟨ad,cp,e,h0,hh⟩:=h;injection e with e1 _ e3;subst e1 e3;refine⟨a,cap,rfl,⟨by omega,by omega⟩,?_⟩;rcases hh with hh|⟨b,off,rfl,h4,h5⟩;·exact Or.inl (by omega)
 exact Or.inr ⟨b,off,rfl,h4,fun j hj=>h5 j (by omega)⟩
theorem splitE_ok{nd of sz:Int}{n:Nat}{D:Nat→Int}(h:splitE nd of sz n D=0):planOk nd of sz=true∧(n:Int)=sz∧∀j,j<n→0≤D j∧D j≤30:=by
 unfold splitE at h;by_cases h1:planOk nd of sz=true
 ·rw[if_pos h1]at h
  by_cases h2:(n:Int)=sz
  ·rw[if_pos h2]at h
   by_cases h3:numsB n D=true
   ·refine⟨h1,h2,fun j hj=>?_⟩
    exact(isNum_iff _).1 ((of_decide_eq_true h3) j hj)
   rw[if_neg h3]at h;omega
  rw[if_neg h2]at h;omega
 rw[if_neg h1]at h;omega
theorem crv_own{n m:Nat}{X Y:Nat→Int}(h:Good n m X Y)(j:Nat)(hj:j<n):crv n X Y (X j)=Y j:=by
 have hm:=h.same;refine(crv_of n X Y (X j) (Y j) (h.ys j hj) ?_).symm;unfold crvF;exact(newt_at (fun i=>toF (X i)) (fun i=>toF (Y i)) n h.injF j hj).symm
theorem padD_num{n:Nat}{D:Nat→Int}(hD:∀j,j<n→0≤D j∧D j≤30)(j:Nat):0≤padD n D j∧padD n D j≤30:=by
 unfold padD;split;·rename_i h;exact hD j h
 omega
theorem good_row{d n:Nat}{D:Nat→Int}(hd:1≤d∧d≤8)(hD:∀j,j<n→0≤D j∧D j≤30)(r:Nat):Good d d (fun i=>(i:Int)) (fun i=>padD n D (r*d+i)) :=
 ⟨rfl,hd,fun j hj=>by omega,fun j hj=>padD_num hD _,fun i j _ _ e=>by have e2:(i:Int)=(j:Int):=e;omega⟩
theorem shv_num(d n:Nat)(D:Nat→Int)(k r:Nat):0≤shv d n D k r∧shv d n D k r≤30:=crv_num _ _ _ _
theorem cloneS{w:World}{v:Value}{n:Nat}{N:Nat→Int}{V:Nat→Value}{L:Nat→Nat}{X:Nat→Nat→Int}(h:ShSl w w.heap.size v n N V L X)(hn:1≤n∧n≤1000):
 Calls Tryz.prog 142 #[v] w fun e w'=>∃v',e=.returned v'∧OwnS w w' v' n N V:=by
 obtain⟨ad,cap,rfl,⟨hc,hr⟩,hx⟩:=h
 rcases hx with h0|⟨b,off,rfl,hb,hx⟩
 ·omega
 have hnews:∀j u,(flatS n N V)[j]?=some u→w.cell? ⟨b,off+j,none⟩=some u:=by
  intro j u hu;rw[flatS_get]at hu;by_cases h:j<n*2
  ·rw[if_pos h]at hu
   injection hu with hu;rw[←hu];obtain⟨c1,c2,_⟩:=hx (j/2) (by omega);unfold cellS;by_cases h2:j%2=0
   ·rw[if_pos h2,←c1]
    rw[show off+j/2*2=off+j by omega]
   rw[if_neg h2,←c2];rw[show off+j/2*2+1=off+j by omega]
  rw[if_neg h]at hu;cases hu
 have h1:∀u∈flatS n N V,u.oneCell'=true:=flatS_one fun j hj=>slice_one (hx j hj).2.2
 have HNw:=hid hnews
 have H1:=hid h1
 clear hx hnews h1
 have q25:∀(w:World) (a:Option Addr) (n c:Nat),(binOp .eql 103 (.slice a n c) (.slice none 0 0)).run Tryz.prog w=.ok (.bool a.isNone) w:=fun w a n c=>Lib.run_eql_slice_nil w _ _ a n c 0 0 Tryz.underlying103
 obtain⟨ii,hi,hz0,hz1,hz2⟩:=info_parts Tryz.infoShare
 go_enter Tryz.func142,Tryz.ntmps142
 go_wp2_with(at_builtin;go_must(refine wpList_append_own _ rfl _ _ 103 rfl w.heap.size 81 ii (.agg #[.int .i64 0,.slice none 0 0]) 2 32 Tryz.underlying103 hi hz0 hz1 hz2 rfl (by decide) _ _ _ rfl (World.ownsRow_made w #[] 0 (Nat.le_refl _) (Nat.zero_le _) (by simp)) ⟨b,off,none⟩ n cap (flatS n N V) rfl (flatS_len _ _ _) (fun j u hu=>by rw[Addr.add_lit];exact Lib.cell?_alloc_some _ (HNw.out j u hu)) H1.out (by unfold maxLen;omega) (by omega) (by simp) ?_;intro v1 w2 ho hg _;have HO:=hid ho;have HG:=hid hg;clear ho hg))
 go_ret
 refine⟨_,rfl,?_,?_⟩
 ·have h:=HO.out
  rw[Nat.zero_add,List.nil_append]at h;exact h
 ·exact((Below.refl _ _).alloc (Nat.le_refl _) _).grown HG.out (by simp) (fun k hk=>by cases hk;exact Nat.le_refl _)
theorem grownBy_set{w w':World}{g off:Nat}{u:Value}(h:w.grownBy w' (some g)):w.grownBy (w'.setCell ⟨g,off,none⟩ u) (some g):=by
 refine⟨h.os,h.tape,h.output,by simpa[World.setCell]using h.size,fun i hi hne=>?_⟩;rw[←h.block i hi hne];have hg:g≠i:=fun e=>hne (by rw[e]);simp[World.setCell,Array.getElem?_modify,hg]
theorem owns_room{w:World}{base g n cap:Nat}{e:TypeId}{ys:List Value}(h:w.ownsRow base e 2 (.slice (some ⟨g,0,none⟩) n cap) n ys)(i:Nat)(hi:i<cap*2):(∃u,w.cell? ⟨g,i,none⟩=some u)∧w.frozen? ⟨g,i,none⟩=false:=by
 obtain⟨hl,h2⟩:=h;rcases h2 with⟨h0,_⟩|⟨g',cap',cur,hv,hg,hh,hc1,hc2,hsz,hcur⟩;·cases h0
 injection hv with e1 _ e3;injection e1 with e1;injection e1 with e1;subst e1 e3;exact⟨⟨_,cell_at hh (Array.getElem?_eq_getElem (by omega))⟩,frozen_at hh⟩
theorem OwnI.pushA{w0 wr w1:World}{v v':Value}{k:Nat}{C:Nat→Int}{x:Int}(h:OwnI w0 wr v k C)(o:Obj)
 (ho:w1.ownsRow w0.heap.size 3 1 v' (k+1) (((List.range k).map fun j=>Value.int .i64 (C j))++[.int .i64 x])) (hg:(wr.alloc o).grownBy w1 v.ownBlock) (hx:C k=x):OwnI w0 w1 v' (k+1) C :=
 h.push o 0 ho hg hx
structure SoInv(w wr:World)(k d:Nat)(vs:Value)(r:Nat)(C:Nat→Int):Prop where
 below:Below w.heap.size w wr
 size:w.heap.size+3≤wr.heap.size
 p0:wr.cell? ⟨w.heap.size,0,none⟩=some (.int .i64 (d:Int))
 q:wr.heap[w.heap.size+1]?=some (.cells #[.int .i64 0,.slice none 0 0] 81)
 s0:wr.cell? ⟨w.heap.size+1+1,0,none⟩=some (.int .i64 (k:Int))
 s1:wr.cell? ⟨w.heap.size+1+1,1,none⟩=some vs
 g1:wr.frozen? ⟨w.heap.size+1+1,1,none⟩=false
 own:wr.ownsRow (w.heap.size+3) 3 1 vs r ((List.range r).map fun j=>Value.int .i64 (C j))
theorem SoInv.up{w wr w':World}{k d r:Nat}{vs:Value}{C:Nat→Int}(h:SoInv w wr k d vs r C)(hb:Below wr.heap.size wr w'):SoInv w w' k d vs r C :=
 ⟨h.below.trans (hb.mono h.below.size),Nat.le_trans h.size hb.size,by rw[hb.cell (cell_lt h.p0)];exact h.p0,by rw[hb.block _ (by have:=h.size;omega)];exact h.q,by rw[hb.cell (cell_lt h.s0)];exact h.s0,by rw[hb.cell (cell_lt h.s1)];exact h.s1,by rw[hb.frozen (cell_lt h.s1)];exact h.g1,owns_below h.own hb⟩
theorem SoInv.push{w wr w1:World}{k d r:Nat}{vs vs':Value}{C:Nat→Int}{x:Int}{o:Obj}(h:SoInv w wr k d vs r C)
 (ho:w1.ownsRow (w.heap.size+3) 3 1 vs' (r+1) (((List.range r).map fun j=>Value.int .i64 (C j))++[.int .i64 x])) (hg:(wr.alloc o).grownBy w1 vs.ownBlock) (hx:C r=x) :
 SoInv w (w1.setCell ⟨w.heap.size+1+1,1,none⟩ vs') k d vs' (r+1) C∧w1.cell? ⟨w.heap.size+1+1,1,none⟩=some vs∧w1.frozen? ⟨w.heap.size+1+1,1,none⟩=false∧w1.cell? ⟨w.heap.size,0,none⟩=some (.int .i64 (d:Int)):=by
 have h2:=h.up (below_alloc wr o)
 have hlo:∀g,vs.ownBlock=some g→w.heap.size+3≤g:=fun g hgg=>(h.own.lt g hgg).1
 have hne:∀b,b<w.heap.size+3→some b≠vs.ownBlock:=fun b hb e=>by have:=hlo b e.symm;omega
 have hs2:=h2.size
 have hcell:∀(a:Addr) (v:Value),a.block<w.heap.size+3→(wr.alloc o).cell? a=some v→w1.cell? a=some v:=fun a v ha hv=>hg.cell hv (hne _ ha)
 have hfro:∀(a:Addr),a.block<w.heap.size+3→(wr.alloc o).frozen? a=false→w1.frozen? a=false:=fun a ha hv=>by
  rw[World.frozen?_of_block (hg.block a.block (by omega) (hne _ ha))];exact hv
 have hb1:Below w.heap.size w w1:=h2.below.grown hg h2.below.size (fun g hgg=>by have:=hlo g hgg;omega)
 have c1:=hcell _ _ (by show w.heap.size+1+1<_;omega) h2.s1
 have hso:∀(a:Addr) (v:Value),a≠⟨w.heap.size+1+1,1,none⟩→w1.cell? a=some v→(w1.setCell ⟨w.heap.size+1+1,1,none⟩ vs').cell? a=some v:=fun a v ha hv=>by
  rw[World.cell?_setCell_other _ _ _ _ (fun e=>ha e.symm)];exact hv
 refine⟨⟨hb1.setCell (p:=⟨w.heap.size+1+1,1,none⟩) (by show w.heap.size≤w.heap.size+1+1;omega) _,?_,?_,?_,?_,?_,?_,?_⟩,c1,hfro _ (by show w.heap.size+1+1<_;omega) h2.g1,hcell _ _ (by show w.heap.size<_;omega) h2.p0⟩
 ·have:=hg.size
  simp only[World.setCell,Array.size_modify];omega
 ·exact hso _ _ (by intro e;injection e with e1;omega) (hcell _ _ (by show w.heap.size<_;omega) h2.p0)
 ·have h3:=hg.block (w.heap.size+1) (by omega) (hne _ (by omega))
  rw[h2.q]at h3;simp[World.setCell,Array.getElem?_modify,h3]
 ·exact hso _ _ (by intro e;injection e with e1 e2;omega) (hcell _ _ (by show w.heap.size+1+1<_;omega) h2.s0)
 ·exact World.cell?_setCell_same _ _ _ c1
 ·rw[World.frozen?_setCell];exact hfro _ (by show w.heap.size+1+1<_;omega) h2.g1
 ·have e:((List.range (r+1)).map fun j=>Value.int .i64 (C j))=((List.range r).map fun j=>Value.int .i64 (C j))++[.int .i64 x]:=by
   rw[List.range_succ,List.map_append];simp only[List.map_cons,List.map_nil,hx]
  rw[e];have hkeep:w1.grownBy (w1.setCell ⟨w.heap.size+1+1,1,none⟩ vs') (some (w.heap.size+1+1)):=grownBy_set ⟨rfl,rfl,rfl,Nat.le_refl _,fun _ _ _=>rfl⟩;cases hv:vs'.ownBlock with
  |none=>exact ho.kept hkeep (Or.inl hv)
  |some g=>exact ho.kept hkeep (Or.inr (by rw[hv];intro e;injection e with e;have:=(ho.lt g hv).1;omega))
structure OwnB(B:Nat)(wr:World)(v:Value)(n:Nat)(C:Nat→Int):Prop where
 own:wr.ownsRow B 3 1 v n ((List.range n).map fun j=>Value.int .i64 (C j))
theorem OwnB.isl{B:Nat}{wr:World}{v:Value}{n:Nat}{C:Nat→Int}(h:OwnB B wr v n C)(hn:1≤n)(hr:n*8≤140737488351232):IntSl wr wr.heap.size v n C:=by
 obtain⟨hl,h2⟩:=h.own;rcases h2 with⟨_,h0⟩|⟨g,cap,cur,rfl,hg,hh,hc1,hc2,hsz,hcur⟩;·omega
 refine⟨_,cap,rfl,⟨hc1,hr⟩,Or.inr ⟨g,0,rfl,?_,fun j hj=>?_⟩⟩
 ·rcases Nat.lt_or_ge g wr.heap.size with h1|h1
  ·exact h1
  rw[Array.getElem?_eq_none h1]at hh;cases hh
 rw[Nat.zero_add];have h3:((List.range n).map fun j=>Value.int .i64 (C j))[j]?=some (.int .i64 (C j)):=by simp[hj]
 rw[←hcur,List.getElem?_take,if_pos (by omega)]at h3;exact cell_at hh (by simpa using h3)
structure Pick(n c:Nat)(O Lf:Nat→Nat):Prop where
 le:c≤n
 o:∀j,j<c→O j<n
 l:∀j,j<n-c→Lf j<n
 oinj:∀i j,i<c→j<c→O i=O j→i=j
 linj:∀i j,i<n-c→j<n-c→Lf i=Lf j→i=j
 apart:∀i j,i<c→j<n-c→O i≠Lf j
theorem Pick.start(n:Nat)(O:Nat→Nat):Pick n 0 O id :=
 ⟨Nat.zero_le _,fun j hj=>by omega,fun j hj=>by simpa using hj,fun i j hi=>by omega,fun i j _ _ e=>e,fun i j hi=>by omega⟩
theorem Pick.next{n c k:Nat}{O Lf:Nat→Nat}(h:Pick n c O Lf)(hk:k<n-c):Pick n (c+1) (fun j=>if j<c then O j else Lf k) (without k Lf):=by
 have hw:∀j,j<n-(c+1)→∃i,i<n-c∧i≠k∧without k Lf j=Lf i∧(i=if j<k then j else j+1):=fun j hj=>by
  unfold without;by_cases h1:j<k;·exact⟨j,by omega,by omega,by rw[if_pos h1],by rw[if_pos h1]⟩
  exact⟨j+1,by omega,by omega,by rw[if_neg h1],by rw[if_neg h1]⟩
 refine⟨by omega,fun j hj=>?_,fun j hj=>?_,fun i j hi hj e=>?_,fun i j hi hj e=>?_,fun i j hi hj e=>?_⟩
 ·show(if j<c then O j else Lf k)<n
  split;·exact h.o j (by assumption)
  exact h.l k hk
 ·obtain⟨i,hi,_,e,_⟩:=hw j hj
  rw[e];exact h.l i hi
 ·have e':(if i<c then O i else Lf k)=(if j<c then O j else Lf k):=e
  by_cases h1:i<c
  ·by_cases h2:j<c
   ·rw[if_pos h1,if_pos h2]at e'
    exact h.oinj i j h1 h2 e'
   rw[if_pos h1,if_neg h2]at e';exact absurd e' (h.apart i k h1 hk)
  by_cases h2:j<c
  ·rw[if_neg h1,if_pos h2]at e'
   exact absurd e'.symm (h.apart j k h2 hk)
  omega
 ·obtain⟨i',hi',_,ei,di⟩:=hw i hi
  obtain⟨j',hj',_,ej,dj⟩:=hw j hj;rw[ei,ej]at e;have:=h.linj i' j' hi' hj' e;split at di<;>split at dj<;>omega
 obtain⟨j',hj',hne,ej,_⟩:=hw j hj;have e':(if i<c then O i else Lf k)=without k Lf j:=e;rw[ej]at e';by_cases h1:i<c
 ·rw[if_pos h1]at e'
  exact h.apart i j' h1 hj' e'
 rw[if_neg h1]at e';exact hne (h.linj k j' hk hj' e').symm
theorem flatS_congr{n:Nat}{N N':Nat→Int}{V V':Nat→Value}(h:∀j,j<n→N j=N' j∧V j=V' j):flatS n N V=flatS n N' V':=by
 apply List.ext_getElem?;intro i;rw[flatS_get,flatS_get];by_cases hi:i<n*2
 ·rw[if_pos hi,if_pos hi]
  unfold cellS;obtain⟨h1,h2⟩:=h (i/2) (by omega);rw[h1,h2]
 rw[if_neg hi,if_neg hi]
structure Picks(w0 wr:World)(vl vo:Value)(n c:Nat)(N:Nat→Int)(V:Nat→Value)(O Lf:Nat→Nat):Prop where
 l:OwnS w0 wr vl (n-c) (fun j=>N (Lf j)) (fun j=>V (Lf j))
 o:OwnS w0 wr vo c (fun j=>N (O j)) (fun j=>V (O j))
 ne:vl.ownBlock≠none∧vl.ownBlock≠vo.ownBlock
 pick:Pick n c O Lf
theorem Picks.next{w0 wr w2 w3:World}{gl cap:Nat}{vo vo':Value}{n c k:Nat}{N:Nat→Int}{V:Nat→Value}{O Lf:Nat→Nat}{ob:Obj}(h:Picks w0 wr (.slice (some ⟨gl,0,none⟩) (n-c) cap) vo n c N V O Lf)(hk:k<n-c)
 (ho:w2.ownsRow w0.heap.size 81 2 vo' (c+1) (flatS c (fun j=>N (O j)) (fun j=>V (O j))++[.int .i64 (N (Lf k)),V (Lf k)])) (hg:(wr.alloc ob).grownBy w2 vo.ownBlock)
 (hat:vo'.ownBlock=vo.ownBlock∨vo'.ownBlock=some (wr.alloc ob).heap.size)
 (hd:w3.ownsRow w0.heap.size 81 2 (.slice (some ⟨gl,0,none⟩) (n-c-1) cap) (n-c-1) (flatS (n-c-1) (without k fun j=>N (Lf j)) (without k fun j=>V (Lf j)))) (hg3:w2.grownBy w3 (some gl)) :
 Picks w0 w3 (.slice (some ⟨gl,0,none⟩) (n-c-1) cap) vo' n (c+1) N V (fun j=>if j<c then O j else Lf k) (without k Lf):=by
 have hle:=h.pick.le
 have hbA:Below w0.heap.size w0 (wr.alloc ob):=h.o.2.alloc h.o.2.size ob
 have hlo:∀g,vo.ownBlock=some g→w0.heap.size≤g:=fun g hgg=>(h.o.1.lt g hgg).1
 have hb2:Below w0.heap.size w0 w2:=hbA.grown hg hbA.size hlo
 have hgl:=h.l.1.lt gl rfl
 have hb3:Below w0.heap.size w0 w3:=hb2.grown hg3 hb2.size (fun g hgg=>by injection hgg with e;rw[←e];exact hgl.1)
 have hne:vo'.ownBlock≠some gl:=by
  rcases hat with e|e;·rw[e];exact fun e2=>h.ne.2 e2.symm
  rw[e];intro e2;injection e2 with e2;simp at e2;omega
 refine⟨⟨?_,hb3⟩,⟨?_,hb3⟩,⟨by simp[Value.ownBlock],fun e=>hne e.symm⟩,h.pick.next hk⟩
 ·have e1:n-(c+1)=n-c-1:=by omega
  rw[e1];have e2:flatS (n-c-1) (fun j=>N (without k Lf j)) (fun j=>V (without k Lf j))=flatS (n-c-1) (without k fun j=>N (Lf j)) (without k fun j=>V (Lf j)):=flatS_congr fun j hj=>by
   unfold without;split<;>exact⟨rfl,rfl⟩
  rw[e2];exact hd
 ·rw[flatS_succ]
  have e1:flatS c (fun j=>N (if j<c then O j else Lf k)) (fun j=>V (if j<c then O j else Lf k))=flatS c (fun j=>N (O j)) (fun j=>V (O j)):=flatS_congr fun j hj=>by rw[if_pos hj];exact⟨rfl,rfl⟩
  rw[e1,if_neg (Nat.lt_irrefl c)];exact ho.kept hg3 (Or.inr hne)
theorem OwnS.shape{w0 wr:World}{v:Value}{n:Nat}{N:Nat→Int}{V:Nat→Value}(h:OwnS w0 wr v n N V):∃ad cap,v=.slice ad n cap:=by
 obtain⟨_,h2⟩:=h.1;rcases h2 with⟨h1,h0⟩|⟨g,cap,cur,h1,_⟩;·exact⟨none,0,by rw[h0];exact h1⟩
 exact⟨_,_,h1⟩
theorem cells_two(w:World)(N:Int)(v:Value)(T:TypeId):∀j u,([.int .i64 N,v]:List Value)[j]?=some u→(w.alloc (.cells #[.int .i64 N,v] T)).cell? (Addr.add ⟨w.heap.size,0,none⟩ j)=some u:=by
 intro j u hj;rw[Addr.add_lit];match j,hj with
 |0,hj=>simp at hj;subst hj;exact cell_at (heap_alloc_new _ _) rfl
 |1,hj=>simp at hj;subst hj;exact cell_at (heap_alloc_new _ _) rfl
theorem OwnS.pushS{w0 wr w1:World}{v v':Value}{k:Nat}{N N':Nat→Int}{V V':Nat→Value}{x:Int}{u:Value}{o:Obj}(h:OwnS w0 wr v k N V)
 (ho:w1.ownsRow w0.heap.size 81 2 v' (k+1) (flatS k N V++[.int .i64 x,u])) (hg:(wr.alloc o).grownBy w1 v.ownBlock) (hN:∀j,j<k→N' j=N j∧V' j=V j) (hx:N' k=x) (hu:V' k=u):OwnS w0 w1 v' (k+1) N' V':=by
 refine⟨?_,?_⟩
 ·rw[flatS_succ,hx,hu,flatS_congr (N':=N) (V':=V) hN]
  exact ho
 ·have hbA:Below w0.heap.size w0 (wr.alloc o):=h.2.alloc h.2.size o
  exact hbA.grown hg hbA.size (fun g hgg=>(h.1.lt g hgg).1)
theorem OwnS.up{w0 wr w':World}{v:Value}{k:Nat}{N:Nat→Int}{V:Nat→Value}(h:OwnS w0 wr v k N V)(hb:Below wr.heap.size wr w'):OwnS w0 w' v k N V :=
 ⟨owns_below h.1 hb,h.2.trans (hb.mono h.2.size)⟩
def Off(vo v:Value):Prop:=∀ad n c,v=.slice (some ad) n c→some ad.block≠vo.ownBlock
theorem IntSl.grown{w w':World}{vo v:Value}{n:Nat}{X:Nat→Int}(h:IntSl w w.heap.size v n X)(hg:w.grownBy w' vo.ownBlock)(ho:Off vo v):IntSl w' w'.heap.size v n X:=by
 obtain⟨ad,cap,rfl,h0,h2⟩:=h;refine⟨ad,cap,rfl,h0,?_⟩;rcases h2 with h2|⟨b,off,rfl,h4,h5⟩;·exact Or.inl h2
 exact Or.inr ⟨b,off,rfl,Nat.lt_of_lt_of_le h4 hg.size,fun j hj=>hg.cell (h5 j hj) (ho ⟨b,off,none⟩ _ _ rfl)⟩
theorem IntSl.lt{w:World}{ad:Addr}{c n:Nat}{X:Nat→Int}(h:IntSl w w.heap.size (.slice (some ad) n c) n X)(hn:1≤n):ad.block<w.heap.size:=by
 obtain⟨ad',cap,e,h0,h2⟩:=h;injection e with e1;rcases h2 with h2|⟨b,off,e2,h4,h5⟩;·omega
 rw[←e1]at e2;injection e2 with e2;rw[e2];exact h4
theorem off_step{w3 w4:World}{vo v1 v:Value}{R:Nat}{X:Nat→Int}{o:Obj}(hR:1≤R)(hv:IntSl w3 w3.heap.size v R X)(hoff:Off vo v)(hg:(w3.alloc o).grownBy w4 vo.ownBlock)(hat:v1.ownBlock=vo.ownBlock∨v1.ownBlock=some (w3.alloc o).heap.size):IntSl w4 w4.heap.size v R X∧Off v1 v:=by
 refine⟨(hv.alloc o).grown hg hoff,fun ad n' c' e'=>?_⟩;rcases hat with e|e;·rw[e];exact hoff ad n' c' e'
 rw[e];obtain⟨ad2,cap,e2,h0,h2⟩:=hv;rw[e']at e2;injection e2 with e3;rcases h2 with h2|⟨b,off,e4,h4,h5⟩;·omega
 rw[←e3]at e4;injection e4 with e4;rw[e4];intro e5;injection e5 with e5;simp at e5;omega
section
section
variable {nd of sz : Int} {N : Nat → Int} {L : Nat → Nat} {X : Nat → Nat → Int} {n k : Nat} {e : Int}
theorem scanS_bad(hk:k<n)(h:scanS nd of sz N L X (n-k) k=e)(hb:oneE nd of sz (N k) (L k) (X k)≠0):e=oneE nd of sz (N k) (L k) (X k):=by
 rw[show n-k=(n-k-1)+1 by omega]at h;simp only[scanS]at h;rw[if_neg hb]at h;exact h.symm
theorem scanS_dup(hk:k<n)(h:scanS nd of sz N L X (n-k) k=e)(hb:oneE nd of sz (N k) (L k) (X k)=0)(hd:hasB N k (N k)=true):e=5:=by
 rw[show n-k=(n-k-1)+1 by omega]at h;simp only[scanS]at h;rw[if_pos hb,if_pos hd]at h;exact h.symm
theorem scanS_next(hk:k<n)(h:scanS nd of sz N L X (n-k) k=e)(hb:oneE nd of sz (N k) (L k) (X k)=0)(hd:hasB N k (N k)=false):scanS nd of sz N L X (n-(k+1)) (k+1)=e:=by
 rw[show n-k=(n-(k+1))+1 by omega]at h;simp only[scanS]at h;rw[if_pos hb,if_neg (by rw[hd];decide)]at h;exact h
theorem oneE_who(h:oneE nd of sz (N k) (L k) (X k)=0):planOk nd of sz=true∧(0≤N k∧N k<of)∧(L k:Int)=rowsN nd sz∧∀j,j<L k→0≤X k j∧X k j≤30:=by
 unfold oneE at h;by_cases h1:planOk nd of sz=true
 ·rw[if_pos h1]at h
  by_cases h2:0≤N k∧N k<of
  ·rw[if_pos h2]at h
   by_cases h3:(L k:Int)=rowsN nd sz
   ·rw[if_pos h3]at h
    by_cases h4:numsB (L k) (X k)=true;·exact⟨h1,h2,h3,fun j hj=>(isNum_iff _).1 ((of_decide_eq_true h4) j hj)⟩
    rw[if_neg h4]at h;omega
   rw[if_neg h3]at h;omega
  rw[if_neg h2]at h;omega
 rw[if_neg h1]at h;omega
end
def checksE(nd of sz:Int)(n:Nat)(N:Nat→Int)(L:Nat→Nat)(X:Nat→Nat→Int):Int :=
 if planOk nd of sz=true then(if n≤8 then(if scanS nd of sz N L X n 0=0 then(if nd≤(n:Int)then 0 else 7)else scanS nd of sz N L X n 0)else 1)else 2
theorem hasB_next(X:Nat→Int)(k:Nat)(v:Int):hasB X (k+1) v=(if X k=v then true else hasB X k v):=by
 by_cases h:X k=v
 ·rw[if_pos h,hasB_iff]
  exact⟨k,by omega,h⟩
 rw[if_neg h];rw[Bool.eq_iff_iff,hasB_iff,hasB_iff];constructor
 ·rintro⟨j,hj,e⟩
  by_cases hjk:j=k;·subst hjk;exact absurd e h
  exact⟨j,by omega,e⟩
 rintro⟨j,hj,e⟩;exact⟨j,by omega,e⟩
structure SeenInv(w wr:World)(A:Nat)(nd of sz:Int)(N:Nat→Int)(j:Nat):Prop where
 below:Below w.heap.size w wr
 ge:w.heap.size<A
 p0:wr.cell? ⟨w.heap.size,0,none⟩=some (.int .i64 nd)
 p1:wr.cell? ⟨w.heap.size,1,none⟩=some (.int .i64 of)
 p2:wr.cell? ⟨w.heap.size,2,none⟩=some (.int .i64 sz)
 s:∀i,i<8→wr.cell? ⟨A,i,none⟩=some (.bool (hasB N j (i:Int)))
 f:∀i,i<8→wr.frozen? ⟨A,i,none⟩=false
theorem SeenInv.up{w wr w':World}{A:Nat}{nd of sz:Int}{N:Nat→Int}{j:Nat}(h:SeenInv w wr A nd of sz N j)(hb:Below wr.heap.size wr w'):SeenInv w w' A nd of sz N j :=
 ⟨h.below.trans (hb.mono h.below.size),h.ge,by rw[hb.cell (cell_lt h.p0)];exact h.p0,by rw[hb.cell (cell_lt h.p1)];exact h.p1,by rw[hb.cell (cell_lt h.p2)];exact h.p2,
  fun i hi=>by rw[hb.cell (cell_lt (h.s i hi))];exact h.s i hi,fun i hi=>by rw[hb.frozen (cell_lt (h.s i hi))];exact h.f i hi⟩
theorem SeenInv.next{w wr:World}{A:Nat}{nd of sz:Int}{N:Nat→Int}{j ν:Nat}(h:SeenInv w wr A nd of sz N j)(hν:ν<8)(e:N j=(ν:Int)):SeenInv w (wr.setCell ⟨A,ν,none⟩ (.bool true)) A nd of sz N (j+1):=by
 have hge:=h.ge;have ho:∀(o:Nat) (v:Value),wr.cell? ⟨w.heap.size,o,none⟩=some v→(wr.setCell ⟨A,ν,none⟩ (.bool true)).cell? ⟨w.heap.size,o,none⟩=some v:=fun o v hv=>by
  rw[World.cell?_setCell_other _ _ _ _ (by intro e;injection e with e1;omega)];exact hv
 refine⟨h.below.setCell (p:=⟨A,ν,none⟩) (by show w.heap.size≤A;omega) _,h.ge,ho _ _ h.p0,ho _ _ h.p1,ho _ _ h.p2,fun i hi=>?_,fun i hi=>by rw[World.frozen?_setCell];exact h.f i hi⟩;rw[hasB_next,e];by_cases hie:i=ν
 ·subst hie
  rw[if_pos rfl];exact World.cell?_setCell_same _ _ _ (h.s i hi)
 rw[if_neg (by omega),World.cell?_setCell_other _ _ _ _ (by intro e;injection e with _ e2;omega)];exact h.s i hi
end
def madeB(d s R:Nat)(N:Nat→Int)(X:Nat→Nat→Int):Bool:=decide (∀i,i<R*d→i<s∨joinD d N X i=0)
theorem OwnI.slice{w0 wr:World}{v:Value}{n:Nat}{C:Nat→Int}(h:OwnI w0 wr v n C):∃ad cap,v=.slice ad n cap:=h.shape
theorem joinD_row{d r t:Nat}{N:Nat→Int}{X:Nat→Nat→Int}(ht:t<d):joinD d N X (r*d+t)=crv d N (fun j=>X j r) (t:Int):=by
 unfold joinD;have e1:(r*d+t)/d=r:=by rw[Nat.mul_comm,Nat.mul_add_div (by omega),Nat.div_eq_of_lt ht,Nat.add_zero]
 have e2:(r*d+t)%d=t:=by rw[Nat.mul_comm,Nat.mul_add_mod,Nat.mod_eq_of_lt ht]
 rw[e1,e2]
structure Beside(w2 wz:World)(vd vy:Value)(n k:Nat)(C Y:Nat→Int):Prop where
 d:OwnI w2 wz vd n C
 y:IntSl wz wz.heap.size vy k Y
 off:Off vd vy
theorem Beside.start{w2 wr wz:World}{vd vy:Value}{n k:Nat}{C Y:Nat→Int}(hd:OwnI w2 wr vd n C)(hy:OwnI wr wz vy k Y)(hk:1≤k)(hk8:k≤100):Beside w2 wz vd vy n k C Y:=by
 refine⟨hd.below hy.2,hy.isl hk (by omega),fun ad n' c' e e2=>?_⟩;have h1:=(hd.1.lt ad.block e2.symm).2;have h2:=(hy.1.lt ad.block (by rw[e];rfl)).1;omega
theorem Beside.next{w2 wz w6:World}{vd vd' vy:Value}{n k:Nat}{C Y:Nat→Int}{x:Int}{o:Obj}(h:Beside w2 wz vd vy n k C Y)(hk:1≤k)
 (ho:w6.ownsRow w2.heap.size 3 1 vd' (n+1) (((List.range n).map fun j=>Value.int .i64 (C j))++[.int .i64 x])) (hg:(wz.alloc o).grownBy w6 vd.ownBlock) (hat:vd'.ownBlock=vd.ownBlock∨vd'.ownBlock=some (wz.alloc o).heap.size) (hx:C n=x) :
 Beside w2 w6 vd' vy (n+1) k C Y:=by
 obtain⟨h1,h2⟩:=off_step hk h.y h.off hg hat
 exact⟨h.d.pushA o ho hg hx,h1,h2⟩
theorem Beside.up{w2 wz w6:World}{vd vy:Value}{n k:Nat}{C Y:Nat→Int}(h:Beside w2 wz vd vy n k C Y)(hb:Below wz.heap.size wz w6):Beside w2 w6 vd vy n k C Y:=⟨h.d.below hb,h.y.up hb,h.off⟩
end Go.Proofs.YtajmnlhfnhbleaaGreat
