/- Several texts of one proof, in their order. -/
import Derived.Test.YtajmnlhfnhbleaaGreatSSum6
import Derived.Deep.CutRange
namespace Go.Proofs.YtajmnlhfnhbleaaGreat
open Go.RowKit CurveMath
set_option linter.unusedVariables false
set_option maxHeartbeats 4000000
set_option maxRecDepth 10000
def padD(n:Nat)(D:Nat→Int)(j:Nat):Int:=if j<n then D j else 0
def shv(nd:Nat)(n:Nat)(D:Nat→Int)(k r:Nat):Int:=crv nd (fun i=>(i:Int)) (fun i=>padD n D (r*nd+i)) k
def splitE(nd of sz:Int)(n:Nat)(D:Nat→Int):Int :=
 if planOk nd of sz=true then(if(n:Int)=sz then(if numsB n D=true then 0 else 2)else 3)else 2
def scanS(nd of sz:Int)(N:Nat→Int)(L:Nat→Nat)(X:Nat→Nat→Int):Nat→Nat→Int
 |0,_=>0
 |m+1,k=>if oneE nd of sz (N k) (L k) (X k)=0 then(if hasB N k (N k)=true then 5 else scanS nd of sz N L X m (k+1))else oneE nd of sz (N k) (L k) (X k)
def joinD(nd:Nat)(N:Nat→Int)(X:Nat→Nat→Int)(i:Nat):Int:=crv nd N (fun j=>X j (i/nd)) ((i%nd:Nat):Int)
def tornB(nd sz:Nat)(rows n:Nat)(N:Nat→Int)(X:Nat→Nat→Int):Bool :=
 !(decide (∀r,r<rows→∀j,j<n→crv nd N (fun i=>X i r) (N j)=X j r)&&decide (∀i,i<rows*nd→i<sz∨joinD nd N X i=0))
def joinE(nd of sz:Int)(n:Nat)(N:Nat→Int)(L:Nat→Nat)(X:Nat→Nat→Int):Int :=
 if planOk nd of sz=true then
  (if n≤8 then
   (if scanS nd of sz N L X n 0=0 then
    (if nd≤(n:Int)then(if tornB nd.toNat sz.toNat (rowsN nd sz) n N X=true then 9 else 0)else 7)
   else scanS nd of sz N L X n 0)
  else 1)
 else 2
structure Owes:Prop where
 check:∀(nd of sz:Int) (w:World),Calls Tryz.prog 110 #[planV nd of sz] w fun e w'=>e=.returned (.int .i64 (chkP nd of sz))∧Below w.heap.size w w'
 long:∀(nd of sz:Int) (w:World),Calls Tryz.prog 112 #[planV nd of sz] w fun e w'=>e=.returned (.int .i64 (longP nd of sz))∧Below w.heap.size w w'
 one:∀(nd of sz N:Int) (V:Value) (L:Nat) (X:Nat→Int) (w:World),IntSl w w.heap.size V L X →
  Calls Tryz.prog 164 #[planV nd of sz,shareV N V] w fun e w'=>e=.returned (.int .i64 (oneE nd of sz N L X))∧Below w.heap.size w w'
 same:∀(N1 N2:Int) (V1 V2:Value) (n m:Nat) (X Y:Nat→Int) (w:World),IntSl w w.heap.size V1 n X→IntSl w w.heap.size V2 m Y →
  Calls Tryz.prog 67 #[shareV N1 V1,shareV N2 V2] w fun e w'=>e=.returned (.bool (sameB N1 N2 n m X Y))∧Below w.heap.size w w'
 split:∀(nd of sz:Int) (v:Value) (n:Nat) (D:Nat→Int) (w:World),IntSl w w.heap.size v n D →
  Calls Tryz.prog 79 #[planV nd of sz,v] w fun e w'=>Below w.heap.size w w'∧∃(r:Value) (m:Nat) (V:Nat→Value),e=.returned (.tuple #[r,.int .i64 (splitE nd of sz n D)]) ∧
   (m:Int)=(if splitE nd of sz n D=0 then of else 0)∧ShSl w' w'.heap.size r m (fun k=>(k:Int)) V (fun _=>rowsN nd sz) (fun k i=>shv nd.toNat n D k i) ∧
   Above w.heap.size r∧∀k,k<m→Above w.heap.size (V k)
 join:∀(nd of sz:Int) (v:Value) (n:Nat) (N:Nat→Int) (V:Nat→Value) (L:Nat→Nat) (X:Nat→Nat→Int) (w:World),ShSl w w.heap.size v n N V L X →
  Calls Tryz.prog 104 #[planV nd of sz,v] w fun e w'=>Below w.heap.size w w'∧∃(r:Value) (m:Nat),e=.returned (.tuple #[r,.int .i64 (joinE nd of sz n N L X)]) ∧
   (m:Int)=(if joinE nd of sz n N L X=0 then sz else 0)∧IntSl w' w'.heap.size r m (joinD nd.toNat N X)
theorem ShSl.take{w:World}{B:Nat}{a:Option Addr}{cap n m:Nat}{N:Nat→Int}{V:Nat→Value}{L:Nat→Nat}{X:Nat→Nat→Int}(h:ShSl w B (.slice a n cap) n N V L X)(hm:m≤n):ShSl w B (.slice a m cap) m N V L X:=by
 obtain⟨ad,cp,e,h0,hh⟩:=h;injection e with e1 _ e3;subst e1 e3;refine⟨a,cap,rfl,⟨by omega,by omega⟩,?_⟩;rcases hh with hh|⟨b,off,rfl,h4,h5⟩;·exact Or.inl (by omega)
 exact Or.inr ⟨b,off,rfl,h4,fun j hj=>h5 j (by omega)⟩
theorem splitE_ok{nd of sz:Int}{n:Nat}{D:Nat→Int}(h:splitE nd of sz n D=0):planOk nd of sz=true∧(n:Int)=sz∧∀j,j<n→0≤D j∧D j≤30:=by
 unfold splitE at h;by_cases h1:planOk nd of sz=true
 ·rw[if_pos h1]at h
  by_cases h2:(n:Int)=sz
  ·rw[if_pos h2]at h
   by_cases h3:numsB n D=true
   ·refine⟨h1,h2,fun j hj=>?_⟩
    exact(isNum_iff _).1 ((of_decide_eq_true h3) j hj)
   rw[if_neg h3]at h;omega
  rw[if_neg h2]at h;omega
 rw[if_neg h1]at h;omega
theorem crv_own{n m:Nat}{X Y:Nat→Int}(h:Good n m X Y)(j:Nat)(hj:j<n):crv n X Y (X j)=Y j:=by
 have hm:=h.same;refine(crv_of n X Y (X j) (Y j) (h.ys j hj) ?_).symm;unfold crvF;exact(newt_at (fun i=>toF (X i)) (fun i=>toF (Y i)) n h.injF j hj).symm
theorem padD_num{n:Nat}{D:Nat→Int}(hD:∀j,j<n→0≤D j∧D j≤30)(j:Nat):0≤padD n D j∧padD n D j≤30:=by
 unfold padD;split;·rename_i h;exact hD j h
 omega
theorem good_row{d n:Nat}{D:Nat→Int}(hd:1≤d∧d≤8)(hD:∀j,j<n→0≤D j∧D j≤30)(r:Nat):Good d d (fun i=>(i:Int)) (fun i=>padD n D (r*d+i)) :=
 ⟨rfl,hd,fun j hj=>by omega,fun j hj=>padD_num hD _,fun i j _ _ e=>by have e2:(i:Int)=(j:Int):=e;omega⟩
theorem shv_num(d n:Nat)(D:Nat→Int)(k r:Nat):0≤shv d n D k r∧shv d n D k r≤30:=crv_num _ _ _ _
theorem cloneS{w:World}{v:Value}{n:Nat}{N:Nat→Int}{V:Nat→Value}{L:Nat→Nat}{X:Nat→Nat→Int}(h:ShSl w w.heap.size v n N V L X)(hn:1≤n∧n≤1000):
 Calls Tryz.prog 142 #[v] w fun e w'=>∃v',e=.returned v'∧OwnS w w' v' n N V:=by
 obtain⟨ad,cap,rfl,⟨hc,hr⟩,hx⟩:=h
 rcases hx with h0|⟨b,off,rfl,hb,hx⟩
 ·omega
 have hnews:∀j u,(flatS n N V)[j]?=some u→w.cell? ⟨b,off+j,none⟩=some u:=by
  intro j u hu;rw[flatS_get]at hu;by_cases h:j<n*2
  ·rw[if_pos h]at hu
   injection hu with hu;rw[←hu];obtain⟨c1,c2,_⟩:=hx (j/2) (by omega);unfold cellS;by_cases h2:j%2=0
   ·rw[if_pos h2,←c1]
    rw[show off+j/2*2=off+j by omega]
   rw[if_neg h2,←c2];rw[show off+j/2*2+1=off+j by omega]
  rw[if_neg h]at hu;cases hu
 have h1:∀u∈flatS n N V,u.oneCell'=true:=flatS_one fun j hj=>slice_one (hx j hj).2.2
 have HNw:=hid hnews
 have H1:=hid h1
 clear hx hnews h1
 have q25:∀(w:World) (a:Option Addr) (n c:Nat),(binOp .eql 103 (.slice a n c) (.slice none 0 0)).run Tryz.prog w=.ok (.bool a.isNone) w:=fun w a n c=>Lib.run_eql_slice_nil w _ _ a n c 0 0 Tryz.underlying103
 obtain⟨ii,hi,hz0,hz1,hz2⟩:=info_parts Tryz.infoShare
 go_enter Tryz.func142,Tryz.ntmps142
 go_wp2_with(at_builtin;go_must(refine wpList_append_own _ rfl _ _ 103 rfl w.heap.size 81 ii (.agg #[.int .i64 0,.slice none 0 0]) 2 32 Tryz.underlying103 hi hz0 hz1 hz2 rfl (by decide) _ _ _ rfl (World.ownsRow_made w #[] 0 (Nat.le_refl _) (Nat.zero_le _) (by simp)) ⟨b,off,none⟩ n cap (flatS n N V) rfl (flatS_len _ _ _) (fun j u hu=>by rw[Addr.add_lit];exact Lib.cell?_alloc_some _ (HNw.out j u hu)) H1.out (by unfold maxLen;omega) (by omega) (by simp) ?_;intro v1 w2 ho hg _;have HO:=hid ho;have HG:=hid hg;clear ho hg))
 go_ret
 refine⟨_,rfl,?_,?_⟩
 ·have h:=HO.out
  rw[Nat.zero_add,List.nil_append]at h;exact h
 ·exact((Below.refl _ _).alloc (Nat.le_refl _) _).grown HG.out (by simp) (fun k hk=>by cases hk;exact Nat.le_refl _)
theorem grownBy_set{w w':World}{g off:Nat}{u:Value}(h:w.grownBy w' (some g)):w.grownBy (w'.setCell ⟨g,off,none⟩ u) (some g):=by
 refine⟨h.os,h.tape,h.output,by simpa[World.setCell]using h.size,fun i hi hne=>?_⟩;rw[←h.block i hi hne];have hg:g≠i:=fun e=>hne (by rw[e]);simp[World.setCell,Array.getElem?_modify,hg]
theorem owns_room{w:World}{base g n cap:Nat}{e:TypeId}{ys:List Value}(h:w.ownsRow base e 2 (.slice (some ⟨g,0,none⟩) n cap) n ys)(i:Nat)(hi:i<cap*2):(∃u,w.cell? ⟨g,i,none⟩=some u)∧w.frozen? ⟨g,i,none⟩=false:=by
 obtain⟨hl,h2⟩:=h;rcases h2 with⟨h0,_⟩|⟨g',cap',cur,hv,hg,hh,hc1,hc2,hsz,hcur⟩;·cases h0
 injection hv with e1 _ e3;injection e1 with e1;injection e1 with e1;subst e1 e3;exact⟨⟨_,cell_at hh (Array.getElem?_eq_getElem (by omega))⟩,frozen_at hh⟩
theorem OwnI.pushA{w0 wr w1:World}{v v':Value}{k:Nat}{C:Nat→Int}{x:Int}(h:OwnI w0 wr v k C)(o:Obj)
 (ho:w1.ownsRow w0.heap.size 3 1 v' (k+1) (((List.range k).map fun j=>Value.int .i64 (C j))++[.int .i64 x])) (hg:(wr.alloc o).grownBy w1 v.ownBlock) (hx:C k=x):OwnI w0 w1 v' (k+1) C :=
 h.push o 0 ho hg hx
theorem places_any(d:Nat)(hd:d≤100)(w:World):
 Calls Tryz.prog 133 #[.int .i64 (d:Int)] w fun e w'=>∃v,e=.returned v∧OwnI w w' v d (fun j=>(j:Int)):=by
 obtain⟨ii,hi,hzz0,hzz1,hzz2⟩:=info_parts Tryz.infoInt
 go_enter Tryz.func133,Tryz.ntmps133
 go_wp2
 go_loopw [3,6] (fun v i wr=>∃k:Nat,k≤d∧i=.int .i64 k∧Hid (OwnI w wr v k (fun j=>(j:Int)))) (fun _ i _=>d-(intOf i).toNat)
 case atStart=>exact⟨0,Nat.zero_le _,rfl,OwnI.nil _ _⟩
 case round =>
  obtain⟨k,hk,rfl,OW⟩:=hrel;by_cases hlt:k<d
  ·have hi2:(k:Int)<(d:Int):=by omega
   go_wp2_with(at_builtin;go_must(refine wpList_append_own _ rfl (.tmp 9) (.tmp 11) 28 rfl w.heap.size 3 ii (.int .i64 0) 1 8 Tryz.underlying28 hi hzz0 hzz1 hzz2 rfl (by decide) _ _ _ rfl (OW.out.owns _ 0) ⟨_,0,none⟩ 1 1 [.int .i64 (k:Int)] rfl rfl (newCell _ _ _) (oneCell _) (by unfold maxLen;omega) (by omega) (by have:=OW.out.2.size;simp;omega) ?_;intro v1 w6 ho6 hg6 _;have O6:=hid (OW.out.pushA _ ho6 hg6 rfl);clear ho6 hg6))
   go_roundw
   case rel=>exact⟨k+1,by omega,by go_num,O6⟩
   case measure=>simp only[intOf];omega
  have he:k=d:=by omega
  subst he;go_wp2;go_ret;exact⟨_,rfl,OW.out⟩
structure SoInv(w wr:World)(k d:Nat)(vs:Value)(r:Nat)(C:Nat→Int):Prop where
 below:Below w.heap.size w wr
 size:w.heap.size+3≤wr.heap.size
 p0:wr.cell? ⟨w.heap.size,0,none⟩=some (.int .i64 (d:Int))
 q:wr.heap[w.heap.size+1]?=some (.cells #[.int .i64 0,.slice none 0 0] 81)
 s0:wr.cell? ⟨w.heap.size+1+1,0,none⟩=some (.int .i64 (k:Int))
 s1:wr.cell? ⟨w.heap.size+1+1,1,none⟩=some vs
 g1:wr.frozen? ⟨w.heap.size+1+1,1,none⟩=false
 own:wr.ownsRow (w.heap.size+3) 3 1 vs r ((List.range r).map fun j=>Value.int .i64 (C j))
theorem SoInv.up{w wr w':World}{k d r:Nat}{vs:Value}{C:Nat→Int}(h:SoInv w wr k d vs r C)(hb:Below wr.heap.size wr w'):SoInv w w' k d vs r C :=
 ⟨h.below.trans (hb.mono h.below.size),Nat.le_trans h.size hb.size,by rw[hb.cell (cell_lt h.p0)];exact h.p0,by rw[hb.block _ (by have:=h.size;omega)];exact h.q,by rw[hb.cell (cell_lt h.s0)];exact h.s0,by rw[hb.cell (cell_lt h.s1)];exact h.s1,by rw[hb.frozen (cell_lt h.s1)];exact h.g1,owns_below h.own hb⟩
theorem owns_shape{w:World}{base:Nat}{e:TypeId}{sz n:Nat}{v:Value}{xs:List Value}(h:w.ownsRow base e sz v n xs):∃ad cap,v=.slice ad n cap:=by
 obtain⟨_,h2⟩:=h;rcases h2 with⟨h1,h0⟩|⟨g,cap,cur,h1,_⟩;·exact⟨none,0,by rw[h0];exact h1⟩
 exact⟨_,_,h1⟩
theorem SoInv.push{w wr w1:World}{k d r:Nat}{vs vs':Value}{C:Nat→Int}{x:Int}{o:Obj}(h:SoInv w wr k d vs r C)
 (ho:w1.ownsRow (w.heap.size+3) 3 1 vs' (r+1) (((List.range r).map fun j=>Value.int .i64 (C j))++[.int .i64 x])) (hg:(wr.alloc o).grownBy w1 vs.ownBlock) (hx:C r=x) :
 SoInv w (w1.setCell ⟨w.heap.size+1+1,1,none⟩ vs') k d vs' (r+1) C∧w1.cell? ⟨w.heap.size+1+1,1,none⟩=some vs∧w1.frozen? ⟨w.heap.size+1+1,1,none⟩=false∧w1.cell? ⟨w.heap.size,0,none⟩=some (.int .i64 (d:Int)):=by
 have h2:=h.up (below_alloc wr o)
 have hlo:∀g,vs.ownBlock=some g→w.heap.size+3≤g:=fun g hgg=>(h.own.lt g hgg).1
 have hne:∀b,b<w.heap.size+3→some b≠vs.ownBlock:=fun b hb e=>by have:=hlo b e.symm;omega
 have hs2:=h2.size
 have hcell:∀(a:Addr) (v:Value),a.block<w.heap.size+3→(wr.alloc o).cell? a=some v→w1.cell? a=some v:=fun a v ha hv=>hg.cell hv (hne _ ha)
 have hfro:∀(a:Addr),a.block<w.heap.size+3→(wr.alloc o).frozen? a=false→w1.frozen? a=false:=fun a ha hv=>by
  rw[World.frozen?_of_block (hg.block a.block (by omega) (hne _ ha))];exact hv
 have hb1:Below w.heap.size w w1:=h2.below.grown hg h2.below.size (fun g hgg=>by have:=hlo g hgg;omega)
 have c1:=hcell _ _ (by show w.heap.size+1+1<_;omega) h2.s1
 have hso:∀(a:Addr) (v:Value),a≠⟨w.heap.size+1+1,1,none⟩→w1.cell? a=some v→(w1.setCell ⟨w.heap.size+1+1,1,none⟩ vs').cell? a=some v:=fun a v ha hv=>by
  rw[World.cell?_setCell_other _ _ _ _ (fun e=>ha e.symm)];exact hv
 refine⟨⟨hb1.setCell (p:=⟨w.heap.size+1+1,1,none⟩) (by show w.heap.size≤w.heap.size+1+1;omega) _,?_,?_,?_,?_,?_,?_,?_⟩,c1,hfro _ (by show w.heap.size+1+1<_;omega) h2.g1,hcell _ _ (by show w.heap.size<_;omega) h2.p0⟩
 ·have:=hg.size
  simp only[World.setCell,Array.size_modify];omega
 ·exact hso _ _ (by intro e;injection e with e1;omega) (hcell _ _ (by show w.heap.size<_;omega) h2.p0)
 ·have h3:=hg.block (w.heap.size+1) (by omega) (hne _ (by omega))
  rw[h2.q]at h3;simp[World.setCell,Array.getElem?_modify,h3]
 ·exact hso _ _ (by intro e;injection e with e1 e2;omega) (hcell _ _ (by show w.heap.size+1+1<_;omega) h2.s0)
 ·exact World.cell?_setCell_same _ _ _ c1
 ·rw[World.frozen?_setCell];exact hfro _ (by show w.heap.size+1+1<_;omega) h2.g1
 ·have e:((List.range (r+1)).map fun j=>Value.int .i64 (C j))=((List.range r).map fun j=>Value.int .i64 (C j))++[.int .i64 x]:=by
   rw[List.range_succ,List.map_append];simp only[List.map_cons,List.map_nil,hx]
  rw[e];have hkeep:w1.grownBy (w1.setCell ⟨w.heap.size+1+1,1,none⟩ vs') (some (w.heap.size+1+1)):=grownBy_set ⟨rfl,rfl,rfl,Nat.le_refl _,fun _ _ _=>rfl⟩;cases hv:vs'.ownBlock with
  |none=>exact ho.kept hkeep (Or.inl hv)
  |some g=>exact ho.kept hkeep (Or.inr (by rw[hv];intro e;injection e with e;have:=(ho.lt g hv).1;omega))
structure OwnB(B:Nat)(wr:World)(v:Value)(n:Nat)(C:Nat→Int):Prop where
 own:wr.ownsRow B 3 1 v n ((List.range n).map fun j=>Value.int .i64 (C j))
theorem OwnB.isl{B:Nat}{wr:World}{v:Value}{n:Nat}{C:Nat→Int}(h:OwnB B wr v n C)(hn:1≤n)(hr:n*8≤140737488351232):IntSl wr wr.heap.size v n C:=by
 obtain⟨hl,h2⟩:=h.own;rcases h2 with⟨_,h0⟩|⟨g,cap,cur,rfl,hg,hh,hc1,hc2,hsz,hcur⟩;·omega
 refine⟨_,cap,rfl,⟨hc1,hr⟩,Or.inr ⟨g,0,rfl,?_,fun j hj=>?_⟩⟩
 ·rcases Nat.lt_or_ge g wr.heap.size with h1|h1
  ·exact h1
  rw[Array.getElem?_eq_none h1]at hh;cases hh
 rw[Nat.zero_add];have h3:((List.range n).map fun j=>Value.int .i64 (C j))[j]?=some (.int .i64 (C j)):=by simp[hj]
 rw[←hcur,List.getElem?_take,if_pos (by omega)]at h3;exact cell_at hh (by simpa using h3)
def ShareIs(w w':World)(k:Int)(R:Nat)(X:Nat→Int)(e:Ending):Prop:=∃V,e=.returned (shareV k V)∧IntSl w' w'.heap.size V R X∧Below w.heap.size w w'∧Above w.heap.size V
theorem shareOf_any(d m n:Nat)(sz:Int)(a:Option Addr)(cp:Nat)(D:Nat→Int)(k:Nat)(w:World)(hp:planOk (d:Int) (m:Int) sz=true)(hD:∀j,j<n→0≤D j∧D j≤30)(hn:n≤100)(hk:k≤30){R:Nat}(hR:rowsN (d:Int) sz=R)(h:IntSl w w.heap.size (.slice a n cp) n D):
 Calls Tryz.prog 96 #[planV (d:Int) (m:Int) sz,.slice a n cp,.int .i64 (k:Int)] w fun e w'=>ShareIs w w' k R (fun r=>shv d n D k r) e:=by
 obtain⟨hnd,hof,hsz⟩:=planOk_spec hp
 have hrb:=rowsN_bd hnd hsz
 rw[hR]at hrb
 have hRo:=fun w=>rowsOf_any (d:Int) (m:Int) sz w
 have e2:longP (d:Int) (m:Int) sz=(R:Int):=by unfold longP;rw[if_pos hp,hR]
 rw[e2]at hRo
 have HRo:=hid hRo
 have hdd:1≤d∧d≤4:=by omega
 have hRR:1≤R∧R≤24:=by omega
 have HI:=hid h
 have HD:=hid hD
 obtain⟨ii,hi,hzz0,hzz1,hzz2⟩:=info_parts Tryz.infoInt
 clear hRo e2 hrb hnd hof hsz hp hR h hD
 unfold planV
 go_enter Tryz.func96,Tryz.ntmps96
 go_wp2_with fail
 have J0:SoInv w (((w.alloc (.cells #[.int .i64 (d:Int),.int .i64 (m:Int),.int .i64 sz] 59)).alloc (.cells #[.int .i64 0,.slice none 0 0] 81)).alloc (.cells #[.int .i64 (k:Int),.slice none 0 0] 81)) k d (.slice none 0 0) 0 (fun r=>shv d n D k r):=by
  have hP:=(below_alloc (w.alloc (.cells #[.int .i64 (d:Int),.int .i64 (m:Int),.int .i64 sz] 59)) (.cells #[.int .i64 0,.slice none 0 0] 81));have hQ:=(below_alloc ((w.alloc (.cells #[.int .i64 (d:Int),.int .i64 (m:Int),.int .i64 sz] 59)).alloc (.cells #[.int .i64 0,.slice none 0 0] 81)) (.cells #[.int .i64 (k:Int),.slice none 0 0] 81));have z1:(w.alloc (.cells #[.int .i64 (d:Int),.int .i64 (m:Int),.int .i64 sz] 59)).heap.size=w.heap.size+1:=by simp
  have z2:((w.alloc (.cells #[.int .i64 (d:Int),.int .i64 (m:Int),.int .i64 sz] 59)).alloc (.cells #[.int .i64 0,.slice none 0 0] 81)).heap.size=w.heap.size+1+1:=by simp
  have hh1:=heap_alloc_new w (.cells #[.int .i64 (d:Int),.int .i64 (m:Int),.int .i64 sz] 59);have hh2:=heap_alloc_new (w.alloc (.cells #[.int .i64 (d:Int),.int .i64 (m:Int),.int .i64 sz] 59)) (.cells #[.int .i64 0,.slice none 0 0] 81);have hh3:=heap_alloc_new ((w.alloc (.cells #[.int .i64 (d:Int),.int .i64 (m:Int),.int .i64 sz] 59)).alloc (.cells #[.int .i64 0,.slice none 0 0] 81)) (.cells #[.int .i64 (k:Int),.slice none 0 0] 81);rw[z1]at hh2;rw[z2]at hh3;have l1:=cell_at (i:=0) hh1 rfl;have b1:=cell_lt l1;have b3:=Nat.lt_of_lt_of_le b1 hP.size;refine⟨?_,by simp,?_,?_,cell_at hh3 rfl,cell_at hh3 rfl,frozen_at hh3,World.ownsRow_nil _ _ _ _⟩;·exact(((Below.refl w.heap.size w).alloc (Nat.le_refl _) _).alloc (by simp) _).alloc (by simp;omega) _
  ·rw[hQ.cell b3,hP.cell b1];exact l1
  rw[hQ.block _ (by simp)];exact hh2
 refine Calls.mono (HRo.out _) ?_
 rintro e w1 ⟨rfl,hb1⟩
 have J1:=hid (J0.up hb1)
 clear J0 hb1
 go_wp2
 go_loopw [16] (fun iv wr=>∃(r:Nat) (vs:Value),r≤R∧iv=.int .i64 r∧Hid (SoInv w wr k d vs r (fun r=>shv d n D k r))) (fun iv _=>R-(intOf iv).toNat)
 case atStart=>exact⟨0,_,Nat.zero_le _,rfl,J1⟩
 case round =>
  obtain⟨r,vs,hr,rfl,J⟩:=hrel;obtain⟨ar,cr,hvs⟩:=owns_shape J.out.own;subst hvs;by_cases hlt:r<R
  ·have hri:(r:Int)<(R:Int):=by omega
   have p0:=J.out.p0;go_wp2_with(at_make;refine wpList_make_full _ rfl (.tmp 20) (.tmp 20) 28 rfl _ 3 ii (.int .i64 0) 1 Tryz.underlying28 hi hzz0 hzz1 _ _ _ _ d rfl rfl rfl rfl (by rw[hzz2];omega) (by unfold maxLen;omega) (Nat.le_refl _) ?_;intro w2 ho2 hg2;have R2:=hid (row_made ho2 hg2);clear ho2 hg2)
   have hrd:0≤(r:Int)*(d:Int)∧(r:Int)*(d:Int)≤100:=⟨Int.mul_nonneg (by omega) (by omega),by
    have h1:(r:Int)*(d:Int)≤(r:Int)*4:=Int.mul_le_mul_of_nonneg_left (by omega) (by omega);omega⟩
   go_loopw [24] (fun iv wq=>∃i:Nat,i≤d∧iv=.int .i64 i∧Hid (Row wr wq wr.heap.size d (fun j=>if j<i then padD n D (r*d+j)else 0))) (fun iv _=>d-(intOf iv).toNat)
   case atStart=>exact⟨0,Nat.zero_le _,rfl,R2.out.congr fun j hj=>by rw[if_neg (by omega)]⟩
   case round =>
    obtain⟨i,hid',rfl,RW⟩:=hrel;have JW:=hid (J.out.up RW.out.below);by_cases hil:i<d
    ·have hii:(i:Int)<(d:Int):=by omega
     have c0:=RW.out.cell i hil;have c1:=RW.out.free i hil;have p0:=JW.out.p0;by_cases hin:r*d+i<n
     ·have hin2:(r:Int)*(d:Int)+(i:Int)<(n:Int):=by
       have h1:((r*d+i:Nat):Int)=(r:Int)*(d:Int)+(i:Int):=by simp
       omega
      have hod:∃bo oo,a=some ⟨bo,oo,none⟩∧wr.cell? ⟨bo,oo+(r*d+i),none⟩=some (.int .i64 (D (r*d+i))):=by
       obtain⟨ad,cp',e,_,h2⟩:=HI.out;injection e with e4;subst e4;rcases h2 with h0|⟨bo,oo,rfl,hb,hx⟩;·omega
       exact⟨bo,oo,rfl,by rw[JW.out.below.cell hb];exact hx _ hin⟩
      obtain⟨bo,oo,rfl,god⟩:=hod;go_wp2;go_roundw
      case rel =>
       refine⟨i+1,by omega,by go_num,(RW.out.set i hil (D (r*d+i))).congr fun j hj=>?_⟩;by_cases e:j=i
       ·subst e
        rw[if_pos rfl,if_pos (by omega)];unfold padD;rw[if_pos hin]
       rw[if_neg e];by_cases e2:j<i;·rw[if_pos e2,if_pos (by omega)]
       rw[if_neg e2,if_neg (by omega)]
      case measure=>simp only[intOf];omega
     have hin2:(n:Int)≤(r:Int)*(d:Int)+(i:Int):=by
      have h1:((r*d+i:Nat):Int)=(r:Int)*(d:Int)+(i:Int):=by simp
      omega
     go_wp2;go_roundw
     case rel =>
      refine⟨i+1,by omega,by go_num,RW.out.congr fun j hj=>?_⟩;by_cases e:j=i
      ·subst e
       rw[if_neg (Nat.lt_irrefl _),if_pos (by omega)];unfold padD;rw[if_neg hin]
      by_cases e2:j<i;·rw[if_pos e2,if_pos (by omega)]
      rw[if_neg e2,if_neg (by omega)]
     case measure=>simp only[intOf];omega
    have hie:i=d:=by omega
    subst hie;have RW2:=hid (RW.out.congr (D:=fun j=>padD n D (r*i+j)) fun j hj=>by rw[if_pos hj]);have hy:=hid (RW2.out.isl (Nat.le_refl _) (by omega));clear RW2;have hne:Nonempty (Of (fun w':World=>w'.cell? ⟨w.heap.size+1+1,1,none⟩=some (.slice ar r cr)∧w'.cell? ⟨w.heap.size,0,none⟩=some (.int .i64 (i:Int)))):=⟨⟨wr,JW.out.s1,JW.out.p0⟩⟩;have F0:∀u:Of (fun w':World=>w'.cell? ⟨w.heap.size+1+1,1,none⟩=some (.slice ar r cr)∧w'.cell? ⟨w.heap.size,0,none⟩=some (.int .i64 (i:Int))),u.val.cell? ⟨w.heap.size+1+1,1,none⟩=some (.slice ar r cr):=fun u=>u.is.1;have F1:∀u:Of (fun w':World=>w'.cell? ⟨w.heap.size+1+1,1,none⟩=some (.slice ar r cr)∧w'.cell? ⟨w.heap.size,0,none⟩=some (.int .i64 (i:Int))),u.val.cell? ⟨w.heap.size,0,none⟩=some (.int .i64 (i:Int)):=fun u=>u.is.2;go_wp2_with fail
    refine region_mixed_last (fun w':World=>w'.cell? ⟨w.heap.size+1+1,1,none⟩=some (.slice ar r cr)∧w'.cell? ⟨w.heap.size,0,none⟩=some (.int .i64 (i:Int))) [([0,1,2,3,5,6],4),([],7),([],8),([],9)] [10] 11 (by kernel_rfl) (by kernel_rfl) ⟨JW.out.s1,JW.out.p0⟩ ?_;refine mixO_cons ?_;repeat(go_big_quiet_step (fail))
    refine wpQuiet_nil ?_;intro K hK;go_wp2_with fail
    refine Calls.mono (places_any i (by omega) _) ?_;rintro e w5 ⟨vp,rfl,hvp⟩;have hb5:Below wr.heap.size wr w5:=Below.trans (⟨rfl,rfl,rfl,Nat.le_refl _,fun _ _=>rfl⟩:Below wr.heap.size wr wr.drew) hvp.2;have J5:=hid (JW.out.up hb5);have HY5:=hid (hy.out.up hb5);have HVp:=hid (hvp.isl hdd.1 (by omega));clear hvp hb5;go_wp2;refine⟨rfl,hK _ _ ⟨J5.out.s1,J5.out.p0⟩ ?_⟩;clear hK K;refine mixO_cons (lq:=[]) ?_ rfl;refine wpQuiet_nil ?_;intro K hK;go_wp2_with fail
    refine Calls.mono (valueAt_good vp _ i (fun j=>(j:Int)) (fun j=>padD n D (r*i+j)) (k:Int) w5 HVp.out HY5.out (good_row ⟨hdd.1,by omega⟩ HD.out r) ⟨by omega,by omega⟩) ?_;rintro e w6 ⟨rfl,hb6⟩;have J6:=hid (J5.out.up hb6);clear hb6;have hsv:crv i (fun j=>(j:Int)) (fun j=>padD n D (r*i+j)) (k:Int)=shv i n D k r:=rfl;rw[hsv];obtain⟨x,hx⟩:∃x,shv i n D k r=x:=⟨_,rfl⟩;rw[hx];have HX:=hid hx;clear hsv hx;go_wp2;refine⟨rfl,hK _ _ ⟨J6.out.s1,J6.out.p0⟩ ?_⟩;clear hK K;refine mixO_cons (lq:=[]) ?_ rfl;refine wpQuiet_nil ?_;intro K hK;go_wp2_with fail
    have J7:=J6.out.up (below_alloc w6 (.cells #[.int .i64 x] 3));refine⟨rfl,hK _ _ ⟨J7.s1,J7.p0⟩ ?_⟩;clear hK K J7;refine mixO_cons (lq:=[]) ?_ rfl;refine wpQuiet_nil ?_;intro K hK;go_wp2_with(at_builtin;go_must(refine wpList_append_own _ rfl (.tmp 46) (.tmp 53) 28 rfl (w.heap.size+3) 3 ii (.int .i64 0) 1 8 Tryz.underlying28 hi hzz0 hzz1 hzz2 rfl (by decide) _ _ _ rfl (World.ownsRow.alloc J6.out.own _) ⟨_,0,none⟩ 1 1 [.int .i64 x] rfl rfl (newCell _ _ _) (oneCell _) (by unfold maxLen;omega) (by omega) (by have:=J6.out.size;simp;omega) ?_;intro v1 w7 ho7 hg7 _))
    obtain⟨J8,s8,g8,p8⟩:=J6.out.push (C:=fun r=>shv i n D k r) ho7 hg7 HX.out;obtain⟨ad8,cp8,hv8⟩:=owns_shape ho7;subst hv8;refine⟨rfl,hK _ _ ⟨s8,p8⟩ ?_⟩;have J9:=hid J8;clear hK K J8 ho7 hg7;refine mixO_last ?_;repeat(go_big_quiet_step (fail))
    refine wpQuiet_nil ?_;go_wp2;go_roundw
    case rel=>exact⟨r+1,_,by omega,by go_num,J9⟩
    case measure=>simp only[intOf];omega
  have he:r=R:=by omega
  subst he;have q0:=cell_at (i:=0) J.out.q rfl;have q1:=cell_at (i:=1) J.out.q rfl;have f0:=frozen_at (i:=0) J.out.q;have f1:=frozen_at (i:=1) J.out.q;have s0:=J.out.s0;have s1:=J.out.s1;go_wp2;have hkeep:wr.grownBy ((wr.setCell ⟨w.heap.size+1,0,none⟩ (.int .i64 (k:Int))).setCell ⟨w.heap.size+1,1,none⟩ (.slice ar r cr)) (some (w.heap.size+1)):=grownBy_set (grownBy_set ⟨rfl,rfl,rfl,Nat.le_refl _,fun _ _ _=>rfl⟩);have hown:=J.out.own.kept hkeep (by
   cases hv:(Value.slice ar r cr).ownBlock with
   |none=>exact Or.inl rfl
   |some g=>exact Or.inr (by intro e;injection e with e;have:=(J.out.own.lt g hv).1;omega))
  have hheap:((wr.setCell ⟨w.heap.size+1,0,none⟩ (.int .i64 (k:Int))).setCell ⟨w.heap.size+1,1,none⟩ (.slice ar r cr)).heap[w.heap.size+1]?=some (.cells #[.int .i64 (k:Int),.slice ar r cr] 81):=by
   simp[World.setCell,Array.getElem?_modify,J.out.q]
  have hbl:Below w.heap.size w ((wr.setCell ⟨w.heap.size+1,0,none⟩ (.int .i64 (k:Int))).setCell ⟨w.heap.size+1,1,none⟩ (.slice ar r cr)) :=
   Below.setCell (Below.setCell J.out.below (by show w.heap.size≤w.heap.size+1;omega) _) (by show w.heap.size≤w.heap.size+1;omega) _
  refine bodyPost_ret (results_cell_row rfl _ _ (w.heap.size+1) 81 #[.int .i64 (k:Int),.slice ar r cr] (0,0) _ rfl hheap Tryz.underlying81 rfl (by kernel_rfl)) rfl ?_;refine⟨_,rfl,?_,hbl,fun ad n' c' e'=>?_⟩;rotate_left
  ·injection e' with e1
   have h9:=(J.out.own.lt ad.block (by rw[e1];rfl)).1;omega
  exact(⟨hown⟩:OwnB (w.heap.size+3) _ _ _ _).isl hRR.1 (by omega)
theorem flatS_congr{n:Nat}{N N':Nat→Int}{V V':Nat→Value}(h:∀j,j<n→N j=N' j∧V j=V' j):flatS n N V=flatS n N' V':=by
 apply List.ext_getElem?;intro i;rw[flatS_get,flatS_get];by_cases hi:i<n*2
 ·rw[if_pos hi,if_pos hi]
  unfold cellS;obtain⟨h1,h2⟩:=h (i/2) (by omega);rw[h1,h2]
 rw[if_neg hi,if_neg hi]
theorem OwnS.shape{w0 wr:World}{v:Value}{n:Nat}{N:Nat→Int}{V:Nat→Value}(h:OwnS w0 wr v n N V):∃ad cap,v=.slice ad n cap:=by
 obtain⟨_,h2⟩:=h.1;rcases h2 with⟨h1,h0⟩|⟨g,cap,cur,h1,_⟩;·exact⟨none,0,by rw[h0];exact h1⟩
 exact⟨_,_,h1⟩
theorem cells_two(w:World)(N:Int)(v:Value)(T:TypeId):∀j u,([.int .i64 N,v]:List Value)[j]?=some u→(w.alloc (.cells #[.int .i64 N,v] T)).cell? (Addr.add ⟨w.heap.size,0,none⟩ j)=some u:=by
 intro j u hj;rw[Addr.add_lit];match j,hj with
 |0,hj=>simp at hj;subst hj;exact cell_at (heap_alloc_new _ _) rfl
 |1,hj=>simp at hj;subst hj;exact cell_at (heap_alloc_new _ _) rfl
theorem OwnS.pushS{w0 wr w1:World}{v v':Value}{k:Nat}{N N':Nat→Int}{V V':Nat→Value}{x:Int}{u:Value}{o:Obj}(h:OwnS w0 wr v k N V)
 (ho:w1.ownsRow w0.heap.size 81 2 v' (k+1) (flatS k N V++[.int .i64 x,u])) (hg:(wr.alloc o).grownBy w1 v.ownBlock) (hN:∀j,j<k→N' j=N j∧V' j=V j) (hx:N' k=x) (hu:V' k=u):OwnS w0 w1 v' (k+1) N' V':=by
 refine⟨?_,?_⟩
 ·rw[flatS_succ,hx,hu,flatS_congr (N':=N) (V':=V) hN]
  exact ho
 ·have hbA:Below w0.heap.size w0 (wr.alloc o):=h.2.alloc h.2.size o
  exact hbA.grown hg hbA.size (fun g hgg=>(h.1.lt g hgg).1)
theorem OwnS.up{w0 wr w':World}{v:Value}{k:Nat}{N:Nat→Int}{V:Nat→Value}(h:OwnS w0 wr v k N V)(hb:Below wr.heap.size wr w'):OwnS w0 w' v k N V :=
 ⟨owns_below h.1 hb,h.2.trans (hb.mono h.2.size)⟩
def Off(vo v:Value):Prop:=∀ad n c,v=.slice (some ad) n c→some ad.block≠vo.ownBlock
theorem IntSl.grown{w w':World}{vo v:Value}{n:Nat}{X:Nat→Int}(h:IntSl w w.heap.size v n X)(hg:w.grownBy w' vo.ownBlock)(ho:Off vo v):IntSl w' w'.heap.size v n X:=by
 obtain⟨ad,cap,rfl,h0,h2⟩:=h;refine⟨ad,cap,rfl,h0,?_⟩;rcases h2 with h2|⟨b,off,rfl,h4,h5⟩;·exact Or.inl h2
 exact Or.inr ⟨b,off,rfl,Nat.lt_of_lt_of_le h4 hg.size,fun j hj=>hg.cell (h5 j hj) (ho ⟨b,off,none⟩ _ _ rfl)⟩
theorem off_step{w3 w4:World}{vo v1 v:Value}{R:Nat}{X:Nat→Int}{o:Obj}(hR:1≤R)(hv:IntSl w3 w3.heap.size v R X)(hoff:Off vo v)(hg:(w3.alloc o).grownBy w4 vo.ownBlock)(hat:v1.ownBlock=vo.ownBlock∨v1.ownBlock=some (w3.alloc o).heap.size):IntSl w4 w4.heap.size v R X∧Off v1 v:=by
 refine⟨(hv.alloc o).grown hg hoff,fun ad n' c' e'=>?_⟩;rcases hat with e|e;·rw[e];exact hoff ad n' c' e'
 rw[e];obtain⟨ad2,cap,e2,h0,h2⟩:=hv;rw[e']at e2;injection e2 with e3;rcases h2 with h2|⟨b,off,e4,h4,h5⟩;·omega
 rw[←e3]at e4;injection e4 with e4;rw[e4];intro e5;injection e5 with e5;simp at e5;omega
theorem off_new{w0 wr:World}{vo v:Value}{k:Nat}{N:Nat→Int}{V:Nat→Value}(h:OwnS w0 wr vo k N V)(ha:Above wr.heap.size v):Off vo v:=fun ad n c e e2=>by
 have h1:=ha ad n c e;have h2:=(h.1.lt ad.block e2.symm).2;omega
section
section
variable {nd of sz : Int} {N : Nat → Int} {L : Nat → Nat} {X : Nat → Nat → Int} {n k : Nat} {e : Int}
theorem scanS_bad(hk:k<n)(h:scanS nd of sz N L X (n-k) k=e)(hb:oneE nd of sz (N k) (L k) (X k)≠0):e=oneE nd of sz (N k) (L k) (X k):=by
 rw[show n-k=(n-k-1)+1 by omega]at h;simp only[scanS]at h;rw[if_neg hb]at h;exact h.symm
theorem scanS_dup(hk:k<n)(h:scanS nd of sz N L X (n-k) k=e)(hb:oneE nd of sz (N k) (L k) (X k)=0)(hd:hasB N k (N k)=true):e=5:=by
 rw[show n-k=(n-k-1)+1 by omega]at h;simp only[scanS]at h;rw[if_pos hb,if_pos hd]at h;exact h.symm
theorem scanS_next(hk:k<n)(h:scanS nd of sz N L X (n-k) k=e)(hb:oneE nd of sz (N k) (L k) (X k)=0)(hd:hasB N k (N k)=false):scanS nd of sz N L X (n-(k+1)) (k+1)=e:=by
 rw[show n-k=(n-(k+1))+1 by omega]at h;simp only[scanS]at h;rw[if_pos hb,if_neg (by rw[hd];decide)]at h;exact h
theorem oneE_who(h:oneE nd of sz (N k) (L k) (X k)=0):planOk nd of sz=true∧(0≤N k∧N k<of)∧(L k:Int)=rowsN nd sz∧∀j,j<L k→0≤X k j∧X k j≤30:=by
 unfold oneE at h;by_cases h1:planOk nd of sz=true
 ·rw[if_pos h1]at h
  by_cases h2:0≤N k∧N k<of
  ·rw[if_pos h2]at h
   by_cases h3:(L k:Int)=rowsN nd sz
   ·rw[if_pos h3]at h
    by_cases h4:numsB (L k) (X k)=true;·exact⟨h1,h2,h3,fun j hj=>(isNum_iff _).1 ((of_decide_eq_true h4) j hj)⟩
    rw[if_neg h4]at h;omega
   rw[if_neg h3]at h;omega
  rw[if_neg h2]at h;omega
 rw[if_neg h1]at h;omega
end
def checksE(nd of sz:Int)(n:Nat)(N:Nat→Int)(L:Nat→Nat)(X:Nat→Nat→Int):Int :=
 if planOk nd of sz=true then(if n≤8 then(if scanS nd of sz N L X n 0=0 then(if nd≤(n:Int)then 0 else 7)else scanS nd of sz N L X n 0)else 1)else 2
theorem hasB_next(X:Nat→Int)(k:Nat)(v:Int):hasB X (k+1) v=(if X k=v then true else hasB X k v):=by
 by_cases h:X k=v
 ·rw[if_pos h,hasB_iff]
  exact⟨k,by omega,h⟩
 rw[if_neg h];rw[Bool.eq_iff_iff,hasB_iff,hasB_iff];constructor
 ·rintro⟨j,hj,e⟩
  by_cases hjk:j=k;·subst hjk;exact absurd e h
  exact⟨j,by omega,e⟩
 rintro⟨j,hj,e⟩;exact⟨j,by omega,e⟩
structure SeenInv(w wr:World)(A:Nat)(nd of sz:Int)(N:Nat→Int)(j:Nat):Prop where
 below:Below w.heap.size w wr
 ge:w.heap.size<A
 p0:wr.cell? ⟨w.heap.size,0,none⟩=some (.int .i64 nd)
 p1:wr.cell? ⟨w.heap.size,1,none⟩=some (.int .i64 of)
 p2:wr.cell? ⟨w.heap.size,2,none⟩=some (.int .i64 sz)
 s:∀i,i<8→wr.cell? ⟨A,i,none⟩=some (.bool (hasB N j (i:Int)))
 f:∀i,i<8→wr.frozen? ⟨A,i,none⟩=false
theorem SeenInv.up{w wr w':World}{A:Nat}{nd of sz:Int}{N:Nat→Int}{j:Nat}(h:SeenInv w wr A nd of sz N j)(hb:Below wr.heap.size wr w'):SeenInv w w' A nd of sz N j :=
 ⟨h.below.trans (hb.mono h.below.size),h.ge,by rw[hb.cell (cell_lt h.p0)];exact h.p0,by rw[hb.cell (cell_lt h.p1)];exact h.p1,by rw[hb.cell (cell_lt h.p2)];exact h.p2,
  fun i hi=>by rw[hb.cell (cell_lt (h.s i hi))];exact h.s i hi,fun i hi=>by rw[hb.frozen (cell_lt (h.s i hi))];exact h.f i hi⟩
theorem SeenInv.next{w wr:World}{A:Nat}{nd of sz:Int}{N:Nat→Int}{j ν:Nat}(h:SeenInv w wr A nd of sz N j)(hν:ν<8)(e:N j=(ν:Int)):SeenInv w (wr.setCell ⟨A,ν,none⟩ (.bool true)) A nd of sz N (j+1):=by
 have hge:=h.ge;have ho:∀(o:Nat) (v:Value),wr.cell? ⟨w.heap.size,o,none⟩=some v→(wr.setCell ⟨A,ν,none⟩ (.bool true)).cell? ⟨w.heap.size,o,none⟩=some v:=fun o v hv=>by
  rw[World.cell?_setCell_other _ _ _ _ (by intro e;injection e with e1;omega)];exact hv
 refine⟨h.below.setCell (p:=⟨A,ν,none⟩) (by show w.heap.size≤A;omega) _,h.ge,ho _ _ h.p0,ho _ _ h.p1,ho _ _ h.p2,fun i hi=>?_,fun i hi=>by rw[World.frozen?_setCell];exact h.f i hi⟩;rw[hasB_next,e];by_cases hie:i=ν
 ·subst hie
  rw[if_pos rfl];exact World.cell?_setCell_same _ _ _ (h.s i hi)
 rw[if_neg (by omega),World.cell?_setCell_other _ _ _ _ (by intro e;injection e with _ e2;omega)];exact h.s i hi
theorem checkShares_any(nd of sz:Int)(v:Value)(n:Nat)(N:Nat→Int)(V:Nat→Value)(L:Nat→Nat)(X:Nat→Nat→Int)(w:World)(h:ShSl w w.heap.size v n N V L X):
 Calls Tryz.prog 158 #[planV nd of sz,v] w fun e w'=>e=.returned (.int .i64 (checksE nd of sz n N L X))∧Below w.heap.size w w':=by
 have hbx:=below_alloc w (.cells #[.int .i64 nd,.int .i64 of,.int .i64 sz] 59)
 have HC:=hid (checkPlan_any nd of sz (w.alloc (.cells #[.int .i64 nd,.int .i64 of,.int .i64 sz] 59)))
 have HS:=hid h
 have HBx:=hid hbx
 obtain⟨ad,cap,rfl,⟨hcap,hbig⟩,hx⟩:=h
 obtain⟨ans,hans⟩:∃a,checksE nd of sz n N L X=a:=⟨_,rfl⟩
 rw[hans]
 unfold checksE at hans
 clear hbx
 by_cases hp:planOk nd of sz=true
 ·have e:chkP nd of sz=0:=by unfold chkP;rw[if_pos hp]
  rw[e]at HC;rw[if_pos hp]at hans;obtain⟨hnd,hof,hsz⟩:=planOk_spec hp;clear hp e;unfold planV;go_enter Tryz.func158,Tryz.ntmps158;go_wp2_with fail
  refine HC.out.mono ?_;rintro e w1 ⟨rfl,hb1⟩;have p0:w1.cell? ⟨w.heap.size,0,none⟩=some (.int .i64 nd):=by rw[hb1.cell (by simp)];exact cell_at (heap_alloc_new _ _) rfl
  have p1:w1.cell? ⟨w.heap.size,1,none⟩=some (.int .i64 of):=by rw[hb1.cell (by simp)];exact cell_at (heap_alloc_new _ _) rfl
  have p2:w1.cell? ⟨w.heap.size,2,none⟩=some (.int .i64 sz):=by rw[hb1.cell (by simp)];exact cell_at (heap_alloc_new _ _) rfl
  have HB1:=hid (HBx.out.trans (hb1.mono HBx.out.size));have hwl:w.heap.size<w1.heap.size:=cell_lt p0;clear hb1;by_cases hn8:n≤8
  ·rw[if_pos hn8]at hans
   have hn9:((n:Int)≤8):=by omega
   have HA:=hid hans;clear hans;have J0:Hid (SeenInv w (w1.alloc (.cells #[.bool false,.bool false,.bool false,.bool false,.bool false,.bool false,.bool false,.bool false] 126)) w1.heap.size nd of sz N 0):=by
    have hb:=below_alloc w1 (.cells #[.bool false,.bool false,.bool false,.bool false,.bool false,.bool false,.bool false,.bool false] 126);have hh:=heap_alloc_new w1 (.cells #[.bool false,.bool false,.bool false,.bool false,.bool false,.bool false,.bool false,.bool false] 126);refine⟨HB1.out.trans (hb.mono HB1.out.size),hwl,by rw[hb.cell (cell_lt p0)];exact p0,by rw[hb.cell (cell_lt p1)];exact p1,by rw[hb.cell (cell_lt p2)];exact p2,fun i hi=>?_,fun i hi=>frozen_at hh⟩;have e:hasB N 0 (i:Int)=false:=rfl;rw[e];rcases(show i=0∨i=1∨i=2∨i=3∨i=4∨i=5∨i=6∨i=7 by omega)with rfl|rfl|rfl|rfl|rfl|rfl|rfl|rfl<;>exact cell_at hh rfl
   clear p0 p1 p2;go_wp2;go_loopw [20] (fun iv wr=>∃j:Nat,j≤n∧iv=.int .i64 j∧Hid (SeenInv w wr w1.heap.size nd of sz N j)∧Hid (scanS nd of sz N L X (n-j) j=scanS nd of sz N L X n 0)) (fun iv _=>n-(intOf iv).toNat)
   case atStart=>exact⟨0,Nat.zero_le _,rfl,J0,rfl⟩
   case round =>
    obtain⟨j,hj,rfl,J,SC⟩:=hrel;by_cases hlt:j<n
    ·have hji:(j:Int)<(n:Int):=by omega
     have hx5:∃b off,ad=some ⟨b,off,none⟩∧b<w.heap.size∧(w.cell? ⟨b,off+j*2,none⟩=some (.int .i64 (N j))∧w.cell? ⟨b,off+j*2+1,none⟩=some (V j)∧IntSl w w.heap.size (V j) (L j) (X j)):=by
      rcases hx with h0|⟨b,off,rfl,hb,h5⟩;·omega
      exact⟨b,off,rfl,hb,h5 j hlt⟩
     obtain⟨b,off,rfl,hb,x1,x2,x3⟩:=hx5;have HI3:Hid (∀w',Below w.heap.size w w'→IntSl w' w'.heap.size (V j) (L j) (X j)):=fun w' hb'=>x3.up hb';obtain⟨av,cv,hve,_,_⟩:=x3;rw[hve]at HI3;have g1:wr.cell? ⟨b,off+j*2,none⟩=some (.int .i64 (N j)):=by rw[J.out.below.cell hb];exact x1
     have g2:wr.cell? ⟨b,off+j*2+1,none⟩=some (.slice av (L j) cv):=by rw[J.out.below.cell hb,x2,hve]
     have q0:=J.out.p0;have q1:=J.out.p1;have q2:=J.out.p2;have lp:w.heap.size<wr.heap.size:=cell_lt q0;obtain⟨W,hW⟩:∃W,wr.alloc (.cells #[.int .i64 (N j),.slice av (L j) cv] 81)=W:=⟨_,rfl⟩;have JA:=J.out.up (below_alloc wr (.cells #[.int .i64 (N j),.slice av (L j) cv] 81));have bx:W.cell? ⟨wr.heap.size,0,none⟩=some (.int .i64 (N j)):=by rw[←hW];exact cell_at (heap_alloc_new _ _) rfl
     have by':W.cell? ⟨wr.heap.size,1,none⟩=some (.slice av (L j) cv):=by rw[←hW];exact cell_at (heap_alloc_new _ _) rfl
     rw[hW]at JA;have q0':=JA.p0;have q1':=JA.p1;have q2':=JA.p2;have HOn:=hid (checkShare_any nd of sz (N j) _ (L j) (X j) W (HI3.out W JA.below));have HJA:=hid JA;clear x1 x2 hve JA;obtain⟨c,hc⟩:∃c,oneE nd of sz (N j) (L j) (X j)=c:=⟨_,rfl⟩;rw[hc]at HOn;have HCc:=hid hc;clear hc;by_cases hc0:c=0
     ·subst hc0
      obtain⟨_,hwho,_,_⟩:=oneE_who HCc.out;obtain⟨ν,hν⟩:∃ν:Nat,N j=ν:=⟨(N j).toNat,by omega⟩;have hν8:ν<8:=by omega
      have hνi:(ν:Int)<8:=by omega
      have HN:=hid hν;clear hν hwho;go_wp2_with fail
      refine Calls.mono HOn.out ?_;rintro e w2 ⟨rfl,hb2⟩;have J2:=hid (HJA.out.up hb2);have bx2:w2.cell? ⟨wr.heap.size,0,none⟩=some (.int .i64 (ν:Int)):=by rw[hb2.cell (cell_lt bx),←HN.out];exact bx
      have sc:=J2.out.s ν hν8;have sf:=J2.out.f ν hν8;clear hb2;cases hd:hasB N j (ν:Int)with
      |true =>
       rw[hd]at sc;have h5:=scanS_dup hlt SC.out HCc.out (by rw[HN.out];exact hd);have hA:=HA.out;rw[h5,if_neg (by decide)]at hA;subst hA;clear h5;go_wp2;go_ret;exact⟨rfl,J2.out.below⟩
      |false =>
       rw[hd]at sc;go_wp2;go_roundw
       case rel=>exact⟨j+1,by omega,by go_num,J2.out.next hν8 HN.out,scanS_next hlt SC.out HCc.out (by rw[HN.out];exact hd)⟩
       case measure=>simp only[intOf];omega
     have hcb:(c != 0)=true:=by simpa using hc0
     have h5:=scanS_bad hlt SC.out (by rw[HCc.out];exact hc0);rw[HCc.out]at h5;have hA:=HA.out;rw[h5,if_neg hc0]at hA;subst hA;clear h5 hc0;go_wp2_with fail
     refine Calls.mono HOn.out ?_;rintro e w2 ⟨rfl,hb2⟩;have J2:=hid (HJA.out.up hb2);clear hb2;go_wp2;go_ret;exact⟨rfl,J2.out.below⟩
    have hje:j=n:=by omega
    subst hje;have h5:=SC.out;rw[Nat.sub_self]at h5;have h6:scanS nd of sz N L X j 0=0:=h5.symm;have hA:=HA.out;rw[if_pos h6]at hA;have q0:=J.out.p0;clear h5 h6;by_cases hle:nd≤(j:Int)
    ·rw[if_pos hle]at hA
     subst hA;go_wp2;go_ret;exact⟨rfl,J.out.below⟩
    rw[if_neg hle]at hA;subst hA;have hle2:(j:Int)<nd:=by omega
    clear hle;go_wp2;go_ret;exact⟨rfl,J.out.below⟩
  rw[if_neg hn8]at hans;subst hans;have hn9:(8:Int)<(n:Int):=by omega
  go_wp2;go_ret;exact⟨rfl,HB1.out⟩
 ·have e:chkP nd of sz=2:=by unfold chkP;rw[if_neg hp]
  rw[e]at HC;rw[if_neg hp]at hans;subst hans;clear hp e;unfold planV;go_enter Tryz.func158,Tryz.ntmps158;go_wp2_with(go_at_call 124;go_must(refine HC.out.mono ?_;rintro e w1 ⟨rfl,hb1⟩;have HB1:=hid (HBx.out.trans (hb1.mono HBx.out.size));clear hb1))
  go_ret;exact⟨rfl,HB1.out⟩
end
end Go.Proofs.YtajmnlhfnhbleaaGreat
