/- Several texts of one proof, in their order. -/
import Derived.Test.YtajmnlhfnhbleaaGreatKw14
namespace Go.Proofs.YtajmnlhfnhbleaaGreat
open Go.RowKit CurveMath
set_option linter.unusedVariables false
set_option maxHeartbeats 8000000
set_option maxRecDepth 10000
theorem isl_three{w:World}{g:Nat}{T:TypeId}(h:w.heap[g]?=some (.cells #[.int .i64 2,.int .i64 2,.int .i64 2] T (0,0))):IntSl w w.heap.size (.slice (some ⟨g,0,none⟩) 3 3) 3 dnX :=
 ⟨_,_,rfl,⟨Nat.le_refl _,by omega⟩,Or.inr ⟨g,0,rfl,(Array.getElem?_eq_some_iff.1 h).1,fun j hj=>by
  match j,hj with
  |0,_=>exact cell_at h rfl
  |1,_=>exact cell_at h rfl
  |2,_=>exact cell_at h rfl⟩⟩
def put7(w:World)(g:Nat)(u0 u1 u2 u3 u4 u5 u6:Value):World:=((((((w.setCell ⟨g,0,none⟩ u0).setCell ⟨g,1,none⟩ u1).setCell ⟨g,2,none⟩ u2).setCell ⟨g,3,none⟩ u3).setCell ⟨g,4,none⟩ u4).setCell ⟨g,5,none⟩ u5).setCell ⟨g,6,none⟩ u6
theorem put7_whole{w:World}{g:Nat}{T:TypeId}{v0 v1 v2 v3 v4 v5 v6:Value}(h:w.heap[g]?=some (.cells #[v0,v1,v2,v3,v4,v5,v6] T (0,0)))(u0 u1 u2 u3 u4 u5 u6:Value):(put7 w g u0 u1 u2 u3 u4 u5 u6).heap[g]?=some (.cells #[u0,u1,u2,u3,u4,u5,u6] T (0,0)):=by
 simp[put7,World.setCell,Array.getElem?_modify,h]
theorem put7_below{B:Nat}{w w5:World}{g:Nat}{u0 u1 u2 u3 u4 u5 u6:Value}(hb:Below B w w5)(hg:B≤g):Below B w (put7 w5 g u0 u1 u2 u3 u4 u5 u6) :=
 ((((((hb.setCell (p:=⟨g,0,none⟩) hg _).setCell (p:=⟨g,1,none⟩) hg _).setCell (p:=⟨g,2,none⟩) hg _).setCell (p:=⟨g,3,none⟩) hg _).setCell (p:=⟨g,4,none⟩) hg _).setCell (p:=⟨g,5,none⟩) hg _).setCell (p:=⟨g,6,none⟩) hg _
theorem doneOf(kd n:Int)(w:World):Calls Tryz.prog 47 #[.int .i64 kd,.int .i64 n] w fun e w'=>e=.returned (.agg #[.int .i64 kd,.int .i64 n,.int .i64 0,.slice none 0 0,.slice none 0 0,.int .i64 0,.int .i64 0])∧Below w.heap.size w w':=by
 have hb:=below_alloc w (.cells #[.int .i64 0,.int .i64 0,.int .i64 0,.slice none 0 0,.slice none 0 0,.int .i64 0,.int .i64 0] 30);have k0:=heap_alloc_new w (.cells #[.int .i64 0,.int .i64 0,.int .i64 0,.slice none 0 0,.slice none 0 0,.int .i64 0,.int .i64 0] 30);obtain⟨U,hU⟩:∃u,w.alloc (.cells #[.int .i64 0,.int .i64 0,.int .i64 0,.slice none 0 0,.slice none 0 0,.int .i64 0,.int .i64 0] 30)=u:=⟨_,rfl⟩;rw[hU]at hb k0;have HB:=hid hb;have K0:=hid k0;have f0:=frozen_at (i:=0) k0;have f1:=frozen_at (i:=1) k0;have f2:=frozen_at (i:=2) k0;have f3:=frozen_at (i:=3) k0;have f4:=frozen_at (i:=4) k0;have f5:=frozen_at (i:=5) k0;have f6:=frozen_at (i:=6) k0;have c0:U.cell? ⟨w.heap.size,0,none⟩=some (.int .i64 0):=cell_at k0 rfl;have c1:U.cell? ⟨w.heap.size,1,none⟩=some (.int .i64 0):=cell_at k0 rfl
 have c2:U.cell? ⟨w.heap.size,2,none⟩=some (.int .i64 0):=cell_at k0 rfl;have c3:U.cell? ⟨w.heap.size,3,none⟩=some (.slice none 0 0):=cell_at k0 rfl;have c4:U.cell? ⟨w.heap.size,4,none⟩=some (.slice none 0 0):=cell_at k0 rfl;have c5:U.cell? ⟨w.heap.size,5,none⟩=some (.int .i64 0):=cell_at k0 rfl;have c6:U.cell? ⟨w.heap.size,6,none⟩=some (.int .i64 0):=cell_at k0 rfl;clear hb k0;go_enter Tryz.func47,Tryz.ntmps47;go_wp2;have hH:=put7_whole K0.out (.int .i64 kd) (.int .i64 n) (.int .i64 0) (.slice none 0 0) (.slice none 0 0) (.int .i64 0) (.int .i64 0);refine bodyPost_ret (results_cell_row rfl _ _ w.heap.size 30 #[.int .i64 kd,.int .i64 n,.int .i64 0,.slice none 0 0,.slice none 0 0,.int .i64 0,.int .i64 0] (0,0) _ rfl hH Tryz.underlying30 rfl (by kernel_rfl)) rfl ?_;exact⟨rfl,put7_below HB.out (Nat.le_refl _)⟩
def dnCells(g1 g2 g3:Nat):Array Value:=#[.int .i64 1,.int .i64 0,.int .i64 0,.slice (some ⟨g1,0,none⟩) 2 2,.slice none 0 0,.int .i64 1,.int .i64 2,.int .i64 2,.int .i64 0,.int .i64 0,.slice none 0 0,.slice none 0 0,.int .i64 0,.int .i64 0,.int .i64 2,.int .i64 0,.int .i64 0,.slice none 0 0,.slice none 0 0,.int .i64 0,.int .i64 0,.int .i64 6,.int .i64 0,.int .i64 0,.slice none 0 0,.slice none 0 0,.int .i64 0,.int .i64 0,.int .i64 3,.int .i64 0,.int .i64 0,.slice none 0 0,.slice none 0 0,.int .i64 0,.int .i64 0,.int .i64 5,.int .i64 2,.int .i64 0,.slice none 0 0,.slice none 0 0,.int .i64 0,.int .i64 0,.int .i64 1,.int .i64 0,.int .i64 0,.slice (some ⟨g2,0,none⟩) 1 1,.slice (some ⟨g3,0,none⟩) 1 1,.int .i64 1,.int .i64 1,.int .i64 7,.int .i64 0,.int .i64 0,.slice none 0 0,.slice none 0 0,.int .i64 0,.int .i64 0,.int .i64 7,.int .i64 1,.int .i64 0,.slice none 0 0,.slice none 0 0,.int .i64 0,.int .i64 0,.int .i64 4,.int .i64 1,.int .i64 0,.slice none 0 0,.slice none 0 0,.int .i64 0,.int .i64 0]
def VD(M:Value)(k:Nat)(v:Value)(w:World):Prop:=match k with
 |0=>v=M
 |1=>∃g,v=.slice (some ⟨g,0,none⟩) 2 2∧w.heap[g]?=some (.cells #[.int .i64 1,.int .i64 2] 3 (0,0))
 |2=>∃g,v=.agg #[.int .i64 1,.int .i64 0,.int .i64 0,.slice (some ⟨g,0,none⟩) 2 2,.slice none 0 0,.int .i64 1,.int .i64 2]∧w.heap[g]?=some (.cells #[.int .i64 1,.int .i64 2] 3 (0,0))
 |3=>v=.func (.func 47) #[] #[]
 |4=>v=.agg #[.int .i64 2,.int .i64 0,.int .i64 0,.slice none 0 0,.slice none 0 0,.int .i64 0,.int .i64 0]
 |5=>v=.func (.func 47) #[] #[]
 |6=>v=.agg #[.int .i64 2,.int .i64 0,.int .i64 0,.slice none 0 0,.slice none 0 0,.int .i64 0,.int .i64 0]
 |7=>v=.func (.func 47) #[] #[]
 |8=>v=.agg #[.int .i64 6,.int .i64 0,.int .i64 0,.slice none 0 0,.slice none 0 0,.int .i64 0,.int .i64 0]
 |9=>v=.func (.func 47) #[] #[]
 |10=>v=.agg #[.int .i64 3,.int .i64 0,.int .i64 0,.slice none 0 0,.slice none 0 0,.int .i64 0,.int .i64 0]
 |11=>v=.func (.func 47) #[] #[]
 |12=>v=.agg #[.int .i64 5,.int .i64 2,.int .i64 0,.slice none 0 0,.slice none 0 0,.int .i64 0,.int .i64 0]
 |13=>∃g,v=.slice (some ⟨g,0,none⟩) 1 1∧w.heap[g]?=some (.cells #[.int .i64 3] 3 (0,0))
 |14=>∃g,v=.slice (some ⟨g,0,none⟩) 1 1∧w.heap[g]?=some (.cells #[.int .i64 0] 3 (0,0))
 |15=>∃g g2,v=.agg #[.int .i64 1,.int .i64 0,.int .i64 0,.slice (some ⟨g,0,none⟩) 1 1,.slice (some ⟨g2,0,none⟩) 1 1,.int .i64 1,.int .i64 1]∧w.heap[g]?=some (.cells #[.int .i64 3] 3 (0,0))∧w.heap[g2]?=some (.cells #[.int .i64 0] 3 (0,0))
 |16=>v=.func (.func 47) #[] #[]
 |17=>v=.agg #[.int .i64 7,.int .i64 0,.int .i64 0,.slice none 0 0,.slice none 0 0,.int .i64 0,.int .i64 0]
 |18=>v=.func (.func 47) #[] #[]
 |19=>v=.agg #[.int .i64 7,.int .i64 1,.int .i64 0,.slice none 0 0,.slice none 0 0,.int .i64 0,.int .i64 0]
 |20=>v=.func (.func 47) #[] #[]
 |21=>v=.agg #[.int .i64 4,.int .i64 1,.int .i64 0,.slice none 0 0,.slice none 0 0,.int .i64 0,.int .i64 0]
 |22=>∃g g1 g2 g3,v=.slice (some ⟨g,0,none⟩) 10 10∧w.heap[g]?=some (.cells (dnCells g1 g2 g3) 30 (0,0))∧w.heap[g1]?=some (.cells #[.int .i64 1,.int .i64 2] 3 (0,0))∧w.heap[g2]?=some (.cells #[.int .i64 3] 3 (0,0))∧w.heap[g3]?=some (.cells #[.int .i64 0] 3 (0,0))
 |_=>False
theorem VD.up{M:Value}{k:Nat}{v:Value}{w w':World}(hk:k<23)(h:VD M k v w)(hb:Below w.heap.size w w'):VD M k v w':=by
 have hc:k=0∨k=1∨k=2∨k=3∨k=4∨k=5∨k=6∨k=7∨k=8∨k=9∨k=10∨k=11∨k=12∨k=13∨k=14∨k=15∨k=16∨k=17∨k=18∨k=19∨k=20∨k=21∨k=22:=by omega
 rcases hc with rfl|rfl|rfl|rfl|rfl|rfl|rfl|rfl|rfl|rfl|rfl|rfl|rfl|rfl|rfl|rfl|rfl|rfl|rfl|rfl|rfl|rfl|rfl;·exact h
 ·obtain⟨g,h1,h2⟩:=h
  exact⟨g,h1,stayB h2 hb⟩
 ·obtain⟨g,h1,h2⟩:=h
  exact⟨g,h1,stayB h2 hb⟩
 ·exact h
 ·exact h
 ·exact h
 ·exact h
 ·exact h
 ·exact h
 ·exact h
 ·exact h
 ·exact h
 ·exact h
 ·obtain⟨g,h1,h2⟩:=h
  exact⟨g,h1,stayB h2 hb⟩
 ·obtain⟨g,h1,h2⟩:=h
  exact⟨g,h1,stayB h2 hb⟩
 ·obtain⟨g,g2,h1,h2,h3⟩:=h
  exact⟨g,g2,h1,stayB h2 hb,stayB h3 hb⟩
 ·exact h
 ·exact h
 ·exact h
 ·exact h
 ·exact h
 ·exact h
 obtain⟨g,g1,g2,g3,h1,h2,h3,h4,h5⟩:=h;exact⟨g,g1,g2,g3,h1,stayB h2 hb,stayB h3 hb,stayB h4 hb,stayB h5 hb⟩
def dnAct(gm g7:Nat)(M:Value)(X:Nat→Value):Act:={ tmps:=#[.bool false,.pointer (some ⟨gm,0,none⟩),.int .i64 0,.func (.func 47) #[] #[],undef,undef,.tuple #[M,.int .i64 0],.slice (some ⟨g7,0,none⟩) 3 3,.tuple #[M,.int .i64 0],M,.int .i64 0,undef,X 0,X 1,X 2,X 3,X 4,X 5,X 6,X 7,X 8,X 9,X 10,X 11,X 12,X 13,X 14,X 15,X 16,X 17,X 18,X 19,X 20,X 21,X 22,undef,undef,undef,undef,undef,undef,undef,undef,undef,undef,undef,undef,undef,undef,undef,undef,undef,undef,undef,undef,undef,undef,undef,undef,undef,undef,undef,undef,undef,undef,undef,undef,undef,undef,undef,undef,undef,undef,undef,undef,undef,undef,undef,undef,undef,undef,undef,undef,undef,undef,undef,undef,undef,undef],defers:=[] }
def dnI(W2:World)(gm g7:Nat)(M:Value)(s:Nat→Bool)(a:Act)(w:World):Prop:=∃X:Nat→Value,a=dnAct gm g7 M X∧Below W2.heap.size W2 w∧∀k,k<23→s k=true→VD M k (X k) w
theorem dnI_step{W2 w w':World}{gm g7:Nat}{M v:Value}{s:Nat→Bool}{X:Nat→Value}{i:Nat}{a:Act}(hb:Below W2.heap.size W2 w)(hV:∀k,k<23→s k=true→VD M k (X k) w)(hb':Below w.heap.size w w')(hv:VD M i v w')(ha:a=dnAct gm g7 M fun j=>if j=i then v else X j):
 dnI W2 gm g7 M (fun k=>if k=i then true else s k) a w' :=
 ⟨_,ha,hb.trans (hb'.mono hb.size),fun k hk hs=>by
  by_cases e:k=i
  ·subst e
   simp only[if_true];exact hv
  simp only[if_neg e]at hs;simp only[if_neg e];exact(hV k hk hs).up hk hb'⟩
def dnH:Nat→Hp:=fun j=>dnL.getD j ⟨0,0,0,0,dn0,0,dn0,0,0⟩
def dnDV(g1 g2:Nat):Nat→Value:=fun j=>if j=0 then .slice (some ⟨g1,0,none⟩) 2 2 else if j=6 then .slice (some ⟨g2,0,none⟩) 1 1 else .slice none 0 0
def dnQV(g3:Nat):Nat→Value:=fun j=>if j=6 then .slice (some ⟨g3,0,none⟩) 1 1 else .slice none 0 0
theorem dn_list:hapL dnH 10=dnL:=rfl
theorem isl_put2D{w:World}{g:Nat}{T:TypeId}{v:Value}{m:Nat}{X:Nat→Int}{a0 a1:Option Addr}{n0 c0 n1 c1:Nat}(hg:w.heap[g]?=some (.cells #[.slice a0 n0 c0,.slice a1 n1 c1] T (0,0)))(h:IntSl w w.heap.size v m X)(u0 u1:Value):IntSl (put2 w g u0 u1) (put2 w g u0 u1).heap.size v m X:=by
 rw[put2_size];unfold put2;obtain⟨q0,q1⟩:=two_at hg;exact isl_slice (isl_slice h q0 u0) (by rw[cell_set_lit (Or.inr (by omega))];exact q1) u1
theorem isl_ten{w:World}{g:Nat}{T:TypeId}(h:w.heap[g]?=some (.cells #[.int .i64 0,.int .i64 0,.int .i64 6,.int .i64 0,.int .i64 0,.int .i64 0,.int .i64 0,.int .i64 6,.int .i64 0,.int .i64 0] T (0,0))):IntSl w w.heap.size (.slice (some ⟨g,0,none⟩) 10 10) 10 (fun j=>([0,0,6,0,0,0,0,6,0,0]:List Int).getD j 0) :=
 ⟨_,_,rfl,⟨Nat.le_refl _,by omega⟩,Or.inr ⟨g,0,rfl,(Array.getElem?_eq_some_iff.1 h).1,fun j hj=>by
  match j,hj with
  |0,_=>exact cell_at h rfl
  |1,_=>exact cell_at h rfl
  |2,_=>exact cell_at h rfl
  |3,_=>exact cell_at h rfl
  |4,_=>exact cell_at h rfl
  |5,_=>exact cell_at h rfl
  |6,_=>exact cell_at h rfl
  |7,_=>exact cell_at h rfl
  |8,_=>exact cell_at h rfl
  |9,_=>exact cell_at h rfl⟩⟩
theorem isl_zero(w:World)(X:Nat→Int):IntSl w w.heap.size (.slice none 0 0) 0 X:=⟨none,0,rfl,⟨Nat.le_refl _,by omega⟩,Or.inl rfl⟩
theorem isl_row1{w:World}{g:Nat}{x:Int}{T:TypeId}{X:Nat→Int}(h:w.heap[g]?=some (.cells #[.int .i64 x] T (0,0)))(e:X 0=x):IntSl w w.heap.size (.slice (some ⟨g,0,none⟩) 1 1) 1 X :=
 ⟨_,_,rfl,⟨Nat.le_refl _,by omega⟩,Or.inr ⟨g,0,rfl,(Array.getElem?_eq_some_iff.1 h).1,fun j hj=>by
  match j,hj with
  |0,_=>rw[e];exact cell_at h rfl⟩⟩
theorem isl_row2{w:World}{g:Nat}{x y:Int}{T:TypeId}{X:Nat→Int}(h:w.heap[g]?=some (.cells #[.int .i64 x,.int .i64 y] T (0,0)))(e:X 0=x)(e2:X 1=y):IntSl w w.heap.size (.slice (some ⟨g,0,none⟩) 2 2) 2 X :=
 ⟨_,_,rfl,⟨Nat.le_refl _,by omega⟩,Or.inr ⟨g,0,rfl,(Array.getElem?_eq_some_iff.1 h).1,fun j hj=>by
  match j,hj with
  |0,_=>rw[e];exact cell_at h rfl
  |1,_=>rw[e2];exact cell_at h rfl⟩⟩
theorem dn_slice{w:World}{g g1 g2 g3:Nat}(hg:w.heap[g]?=some (.cells (dnCells g1 g2 g3) 30 (0,0)))(h1:w.heap[g1]?=some (.cells #[.int .i64 1,.int .i64 2] 3 (0,0)))(h2:w.heap[g2]?=some (.cells #[.int .i64 3] 3 (0,0)))(h3:w.heap[g3]?=some (.cells #[.int .i64 0] 3 (0,0))):
 HpSl w w.heap.size (.slice (some ⟨g,0,none⟩) 10 10) 10 (dnDV g1 g2) (dnQV g3) dnH :=
 ⟨_,_,rfl,⟨Nat.le_refl _,by omega⟩,Or.inr ⟨g,0,rfl,(Array.getElem?_eq_some_iff.1 hg).1,fun j hj=>by
  match j,hj with
  |0,_=>exact⟨⟨cell_at hg rfl,cell_at hg rfl,cell_at hg rfl,cell_at hg rfl,cell_at hg rfl,cell_at hg rfl,cell_at hg rfl⟩,isl_row2 h1 rfl rfl,isl_zero w _⟩
  |1,_=>exact⟨⟨cell_at hg rfl,cell_at hg rfl,cell_at hg rfl,cell_at hg rfl,cell_at hg rfl,cell_at hg rfl,cell_at hg rfl⟩,isl_zero w _,isl_zero w _⟩
  |2,_=>exact⟨⟨cell_at hg rfl,cell_at hg rfl,cell_at hg rfl,cell_at hg rfl,cell_at hg rfl,cell_at hg rfl,cell_at hg rfl⟩,isl_zero w _,isl_zero w _⟩
  |3,_=>exact⟨⟨cell_at hg rfl,cell_at hg rfl,cell_at hg rfl,cell_at hg rfl,cell_at hg rfl,cell_at hg rfl,cell_at hg rfl⟩,isl_zero w _,isl_zero w _⟩
  |4,_=>exact⟨⟨cell_at hg rfl,cell_at hg rfl,cell_at hg rfl,cell_at hg rfl,cell_at hg rfl,cell_at hg rfl,cell_at hg rfl⟩,isl_zero w _,isl_zero w _⟩
  |5,_=>exact⟨⟨cell_at hg rfl,cell_at hg rfl,cell_at hg rfl,cell_at hg rfl,cell_at hg rfl,cell_at hg rfl,cell_at hg rfl⟩,isl_zero w _,isl_zero w _⟩
  |6,_=>exact⟨⟨cell_at hg rfl,cell_at hg rfl,cell_at hg rfl,cell_at hg rfl,cell_at hg rfl,cell_at hg rfl,cell_at hg rfl⟩,isl_row1 h2 rfl,isl_row1 h3 rfl⟩
  |7,_=>exact⟨⟨cell_at hg rfl,cell_at hg rfl,cell_at hg rfl,cell_at hg rfl,cell_at hg rfl,cell_at hg rfl,cell_at hg rfl⟩,isl_zero w _,isl_zero w _⟩
  |8,_=>exact⟨⟨cell_at hg rfl,cell_at hg rfl,cell_at hg rfl,cell_at hg rfl,cell_at hg rfl,cell_at hg rfl,cell_at hg rfl⟩,isl_zero w _,isl_zero w _⟩
  |9,_=>exact⟨⟨cell_at hg rfl,cell_at hg rfl,cell_at hg rfl,cell_at hg rfl,cell_at hg rfl,cell_at hg rfl,cell_at hg rfl⟩,isl_zero w _,isl_zero w _⟩⟩⟩
theorem done_any(hO:MeshCore)(hW:WorldOwes)(w:World):Calls Tryz.prog 14 #[] w fun e w'=>e=.returned (.bool true)∧Below w.heap.size w w':=by
 have HO:=hid hO;have HWo:=hid hW;clear hO hW;have hbA:=below_alloc w (.cells #[.int .i64 2,.int .i64 2,.int .i64 2] 3);have kA:=heap_alloc_new w (.cells #[.int .i64 2,.int .i64 2,.int .i64 2] 3);obtain⟨U,hU⟩:∃u,w.alloc (.cells #[.int .i64 2,.int .i64 2,.int .i64 2] 3)=u:=⟨_,rfl⟩;rw[hU]at hbA kA;have CN:=hid (HO.out.new _ 3 dnX U (isl_three kA) (by omega));rw[dn_new]at CN;have B0:=hid hbA;clear hbA kA;go_enter Tryz.func14,Tryz.ntmps14;go_wp2_with fail
 refine Calls.mono CN.out ?_;rintro e W1 hM;obtain⟨hb1,ab,n1,cb,PV,al,np1,cl,KV,UV,rfl,hn1,hp1,hv1,hl1⟩:=mesh_open hM.old;rw[if_pos rfl]at hn1 hp1;subst hn1;obtain rfl:np1=3:=hp1;have hb2:=below_alloc W1 (.cells #[.slice ab 0 cb,.slice al 3 cl] 27);have hx:=MsAt.box hv1 hl1;obtain⟨W2,hW2⟩:∃u,World.alloc W1 (.cells #[.slice ab 0 cb,.slice al 3 cl] 27)=u:=⟨_,rfl⟩;rw[hW2]at hb2 hx;obtain⟨gm,hgm⟩:∃g,W1.heap.size=g:=⟨_,rfl⟩;rw[hgm]at hx;have A2:=hid hx;have hgw:w.heap.size≤W1.heap.size:=Nat.le_trans B0.out.size hb1.size;have B2:=hid (B0.out.trans ((hb1.trans (hb2.mono hb1.size)).mono B0.out.size));clear hM hb1 hb2 hx hv1 hl1 CN hU;go_wp2_with fail
 refine region_inv 23 8 (fun _=>True) (dnI W2 gm w.heap.size (.agg #[.slice ab 0 cb,.slice al 3 cl])) (by kernel_rfl) rfl (by kernel_rfl) ⟨fun _=>undef,rfl,drew_below W2,fun k _ h=>by cases h⟩ ?_ ?_
 ·intro i hi s a u hI hs hd
  obtain⟨X,rfl,hb,hV⟩:=hI;have hc:i=0∨i=1∨i=2∨i=3∨i=4∨i=5∨i=6∨i=7∨i=8∨i=9∨i=10∨i=11∨i=12∨i=13∨i=14∨i=15∨i=16∨i=17∨i=18∨i=19∨i=20∨i=21∨i=22:=by omega
  rcases hc with rfl|rfl|rfl|rfl|rfl|rfl|rfl|rfl|rfl|rfl|rfl|rfl|rfl|rfl|rfl|rfl|rfl|rfl|rfl|rfl|rfl|rfl|rfl
  ·refine⟨_,rfl,fun K hK=>?_⟩
   unfold dnAct;obtain⟨c0,c1⟩:=two_at (stayB A2.out.1 hb);go_wp2;refine⟨rfl,hK _ _ trivial (dnI_step hb hV (Below.refl _ _) (v:=.agg #[.slice ab 0 cb,.slice al 3 cl]) rfl ?_)⟩;simp[dnAct]
  ·refine⟨_,rfl,fun K hK=>?_⟩
   unfold dnAct;go_wp2;refine⟨rfl,hK _ _ trivial (dnI_step hb hV (below_alloc _ (.cells #[.int .i64 1,.int .i64 2] 3)) (v:=.slice (some ⟨u.heap.size,0,none⟩) 2 2) ⟨u.heap.size,rfl,heap_alloc_new _ _⟩ ?_)⟩;simp[dnAct]
  ·refine⟨_,rfl,fun K hK=>?_⟩
   obtain⟨g1,e1,hg1⟩:=hV 1 (by omega) (hd 1 (of_decide_eq_true (by kernel_rfl)));unfold dnAct;go_wp2;refine⟨rfl,hK _ _ trivial (dnI_step hb hV (Below.refl _ _) (v:=.agg #[.int .i64 1,.int .i64 0,.int .i64 0,.slice (some ⟨g1,0,none⟩) 2 2,.slice none 0 0,.int .i64 1,.int .i64 2]) ⟨g1,rfl,hg1⟩ ?_)⟩;simp[dnAct,e1]
  ·refine⟨_,rfl,fun K hK=>?_⟩
   unfold dnAct;go_wp2;refine⟨rfl,hK _ _ trivial (dnI_step hb hV (Below.refl _ _) (v:=.func (.func 47) #[] #[]) rfl ?_)⟩;simp[dnAct]
  ·refine⟨_,rfl,fun K hK=>?_⟩
   have e3:X 3=_:=hV 3 (by omega) (hd 3 (of_decide_eq_true (by kernel_rfl)));unfold dnAct;go_wp2_with fail
   refine Calls.mono (doneOf 2 0 u) ?_;rintro e u2 ⟨rfl,hb2⟩;go_wp2;refine⟨rfl,hK _ _ trivial (dnI_step hb hV hb2 (v:=.agg #[.int .i64 2,.int .i64 0,.int .i64 0,.slice none 0 0,.slice none 0 0,.int .i64 0,.int .i64 0]) rfl ?_)⟩;simp[dnAct,e3]
  ·refine⟨_,rfl,fun K hK=>?_⟩
   unfold dnAct;go_wp2;refine⟨rfl,hK _ _ trivial (dnI_step hb hV (Below.refl _ _) (v:=.func (.func 47) #[] #[]) rfl ?_)⟩;simp[dnAct]
  ·refine⟨_,rfl,fun K hK=>?_⟩
   have e5:X 5=_:=hV 5 (by omega) (hd 5 (of_decide_eq_true (by kernel_rfl)));unfold dnAct;go_wp2_with fail
   refine Calls.mono (doneOf 2 0 u) ?_;rintro e u2 ⟨rfl,hb2⟩;go_wp2;refine⟨rfl,hK _ _ trivial (dnI_step hb hV hb2 (v:=.agg #[.int .i64 2,.int .i64 0,.int .i64 0,.slice none 0 0,.slice none 0 0,.int .i64 0,.int .i64 0]) rfl ?_)⟩;simp[dnAct,e5]
  ·refine⟨_,rfl,fun K hK=>?_⟩
   unfold dnAct;go_wp2;refine⟨rfl,hK _ _ trivial (dnI_step hb hV (Below.refl _ _) (v:=.func (.func 47) #[] #[]) rfl ?_)⟩;simp[dnAct]
  ·refine⟨_,rfl,fun K hK=>?_⟩
   have e7:X 7=_:=hV 7 (by omega) (hd 7 (of_decide_eq_true (by kernel_rfl)));unfold dnAct;go_wp2_with fail
   refine Calls.mono (doneOf 6 0 u) ?_;rintro e u2 ⟨rfl,hb2⟩;go_wp2;refine⟨rfl,hK _ _ trivial (dnI_step hb hV hb2 (v:=.agg #[.int .i64 6,.int .i64 0,.int .i64 0,.slice none 0 0,.slice none 0 0,.int .i64 0,.int .i64 0]) rfl ?_)⟩;simp[dnAct,e7]
  ·refine⟨_,rfl,fun K hK=>?_⟩
   unfold dnAct;go_wp2;refine⟨rfl,hK _ _ trivial (dnI_step hb hV (Below.refl _ _) (v:=.func (.func 47) #[] #[]) rfl ?_)⟩;simp[dnAct]
  ·refine⟨_,rfl,fun K hK=>?_⟩
   have e9:X 9=_:=hV 9 (by omega) (hd 9 (of_decide_eq_true (by kernel_rfl)));unfold dnAct;go_wp2_with fail
   refine Calls.mono (doneOf 3 0 u) ?_;rintro e u2 ⟨rfl,hb2⟩;go_wp2;refine⟨rfl,hK _ _ trivial (dnI_step hb hV hb2 (v:=.agg #[.int .i64 3,.int .i64 0,.int .i64 0,.slice none 0 0,.slice none 0 0,.int .i64 0,.int .i64 0]) rfl ?_)⟩;simp[dnAct,e9]
  ·refine⟨_,rfl,fun K hK=>?_⟩
   unfold dnAct;go_wp2;refine⟨rfl,hK _ _ trivial (dnI_step hb hV (Below.refl _ _) (v:=.func (.func 47) #[] #[]) rfl ?_)⟩;simp[dnAct]
  ·refine⟨_,rfl,fun K hK=>?_⟩
   have e11:X 11=_:=hV 11 (by omega) (hd 11 (of_decide_eq_true (by kernel_rfl)));unfold dnAct;go_wp2_with fail
   refine Calls.mono (doneOf 5 2 u) ?_;rintro e u2 ⟨rfl,hb2⟩;go_wp2;refine⟨rfl,hK _ _ trivial (dnI_step hb hV hb2 (v:=.agg #[.int .i64 5,.int .i64 2,.int .i64 0,.slice none 0 0,.slice none 0 0,.int .i64 0,.int .i64 0]) rfl ?_)⟩;simp[dnAct,e11]
  ·refine⟨_,rfl,fun K hK=>?_⟩
   unfold dnAct;go_wp2;refine⟨rfl,hK _ _ trivial (dnI_step hb hV (below_alloc _ (.cells #[.int .i64 3] 3)) (v:=.slice (some ⟨u.heap.size,0,none⟩) 1 1) ⟨u.heap.size,rfl,heap_alloc_new _ _⟩ ?_)⟩;simp[dnAct]
  ·refine⟨_,rfl,fun K hK=>?_⟩
   unfold dnAct;go_wp2;refine⟨rfl,hK _ _ trivial (dnI_step hb hV (below_alloc _ (.cells #[.int .i64 0] 3)) (v:=.slice (some ⟨u.heap.size,0,none⟩) 1 1) ⟨u.heap.size,rfl,heap_alloc_new _ _⟩ ?_)⟩;simp[dnAct]
  ·refine⟨_,rfl,fun K hK=>?_⟩
   obtain⟨g2,e13,hg2⟩:=hV 13 (by omega) (hd 13 (of_decide_eq_true (by kernel_rfl)));obtain⟨g3,e14,hg3⟩:=hV 14 (by omega) (hd 14 (of_decide_eq_true (by kernel_rfl)));unfold dnAct;go_wp2;refine⟨rfl,hK _ _ trivial (dnI_step hb hV (Below.refl _ _) (v:=.agg #[.int .i64 1,.int .i64 0,.int .i64 0,.slice (some ⟨g2,0,none⟩) 1 1,.slice (some ⟨g3,0,none⟩) 1 1,.int .i64 1,.int .i64 1]) ⟨g2,g3,rfl,hg2,hg3⟩ ?_)⟩;simp[dnAct,e13,e14]
  ·refine⟨_,rfl,fun K hK=>?_⟩
   unfold dnAct;go_wp2;refine⟨rfl,hK _ _ trivial (dnI_step hb hV (Below.refl _ _) (v:=.func (.func 47) #[] #[]) rfl ?_)⟩;simp[dnAct]
  ·refine⟨_,rfl,fun K hK=>?_⟩
   have e16:X 16=_:=hV 16 (by omega) (hd 16 (of_decide_eq_true (by kernel_rfl)));unfold dnAct;go_wp2_with fail
   refine Calls.mono (doneOf 7 0 u) ?_;rintro e u2 ⟨rfl,hb2⟩;go_wp2;refine⟨rfl,hK _ _ trivial (dnI_step hb hV hb2 (v:=.agg #[.int .i64 7,.int .i64 0,.int .i64 0,.slice none 0 0,.slice none 0 0,.int .i64 0,.int .i64 0]) rfl ?_)⟩;simp[dnAct,e16]
  ·refine⟨_,rfl,fun K hK=>?_⟩
   unfold dnAct;go_wp2;refine⟨rfl,hK _ _ trivial (dnI_step hb hV (Below.refl _ _) (v:=.func (.func 47) #[] #[]) rfl ?_)⟩;simp[dnAct]
  ·refine⟨_,rfl,fun K hK=>?_⟩
   have e18:X 18=_:=hV 18 (by omega) (hd 18 (of_decide_eq_true (by kernel_rfl)));unfold dnAct;go_wp2_with fail
   refine Calls.mono (doneOf 7 1 u) ?_;rintro e u2 ⟨rfl,hb2⟩;go_wp2;refine⟨rfl,hK _ _ trivial (dnI_step hb hV hb2 (v:=.agg #[.int .i64 7,.int .i64 1,.int .i64 0,.slice none 0 0,.slice none 0 0,.int .i64 0,.int .i64 0]) rfl ?_)⟩;simp[dnAct,e18]
  ·refine⟨_,rfl,fun K hK=>?_⟩
   unfold dnAct;go_wp2;refine⟨rfl,hK _ _ trivial (dnI_step hb hV (Below.refl _ _) (v:=.func (.func 47) #[] #[]) rfl ?_)⟩;simp[dnAct]
  ·refine⟨_,rfl,fun K hK=>?_⟩
   have e20:X 20=_:=hV 20 (by omega) (hd 20 (of_decide_eq_true (by kernel_rfl)));unfold dnAct;go_wp2_with fail
   refine Calls.mono (doneOf 4 1 u) ?_;rintro e u2 ⟨rfl,hb2⟩;go_wp2;refine⟨rfl,hK _ _ trivial (dnI_step hb hV hb2 (v:=.agg #[.int .i64 4,.int .i64 1,.int .i64 0,.slice none 0 0,.slice none 0 0,.int .i64 0,.int .i64 0]) rfl ?_)⟩;simp[dnAct,e20]
  refine⟨_,rfl,fun K hK=>?_⟩;obtain⟨g1,e2,hg1⟩:=hV 2 (by omega) (hd 2 (of_decide_eq_true (by kernel_rfl)));have e4:X 4=_:=hV 4 (by omega) (hd 4 (of_decide_eq_true (by kernel_rfl)));have e6:X 6=_:=hV 6 (by omega) (hd 6 (of_decide_eq_true (by kernel_rfl)));have e8:X 8=_:=hV 8 (by omega) (hd 8 (of_decide_eq_true (by kernel_rfl)));have e10:X 10=_:=hV 10 (by omega) (hd 10 (of_decide_eq_true (by kernel_rfl)));have e12:X 12=_:=hV 12 (by omega) (hd 12 (of_decide_eq_true (by kernel_rfl)));obtain⟨g2,g3,e15,hg2,hg3⟩:=hV 15 (by omega) (hd 15 (of_decide_eq_true (by kernel_rfl)));have e17:X 17=_:=hV 17 (by omega) (hd 17 (of_decide_eq_true (by kernel_rfl)));have e19:X 19=_:=hV 19 (by omega) (hd 19 (of_decide_eq_true (by kernel_rfl)));have e21:X 21=_:=hV 21 (by omega) (hd 21 (of_decide_eq_true (by kernel_rfl)));unfold dnAct;go_wp2
  refine⟨rfl,hK _ _ trivial (dnI_step hb hV (below_alloc _ (.cells (dnCells g1 g2 g3) 30)) (v:=.slice (some ⟨u.heap.size,0,none⟩) 10 10) ⟨u.heap.size,g1,g2,g3,rfl,heap_alloc_new _ _,stayB hg1 (below_alloc _ _),stayB hg2 (below_alloc _ _),stayB hg3 (below_alloc _ _)⟩ ?_)⟩;simp[dnAct,e2,e4,e6,e8,e10,e12,e15,e17,e19,e21]
 intro s a u hI hs;obtain⟨X,rfl,hb,hV⟩:=hI;have e0:X 0=_:=hV 0 (by omega) (hs 0 (by omega));obtain⟨g,g1,g2,g3,e22,hg,hg1,hg2,hg3⟩:=hV 22 (by omega) (hs 22 (by omega));have CR:=hid (HWo.out.run _ 0 PV noB _ 3 KV UV (freshP dnX) (.slice (some ⟨g,0,none⟩) 10 10) 10 (dnDV g1 g2) (dnQV g3) dnH u (A2.out.2.1.up hb) (A2.out.2.2.up hb) (dn_slice hg hg1 hg2 hg3));rw[dn_list,show(⟨0,noB,3,freshP dnX⟩:Ms)=dnM from rfl,dn_run,dn_said]at CR;unfold meshV at CR;have HB:=hid hb;have M2:=hid (stayB A2.out.1 hb);refine anyM_pick [23] (by kernel_rfl) (by decide) ?_;intro i hi;obtain rfl:i=23:=by simpa using hi
 refine⟨_,rfl,fun K hK=>?_⟩;clear hV hs hi hb hg hg1 hg2 hg3;unfold dnAct;go_wp2_with fail
 refine Calls.mono CR.out ?_;rintro e u2 ⟨hb2,vb,vl,vo,n',np',k',PV2,KV2,UV2,rfl,hn2,hp2,hk2,hv2,hl2,ho2⟩;rw[if_pos rfl]at hn2 hp2 hk2;obtain⟨q1,q2,q3,q4,q5,q6,q7⟩:=dn_end;rw[q1]at hn2;rw[q2]at hp2;subst hn2 hp2;have hk2':k'=10:=hk2;subst hk2';have HV2:=hid hv2;have HL2:=hid hl2;have HO2:=hid ho2;obtain⟨ab2,cb2,rfl,z1,z2⟩:=hv2;clear z1 z2;obtain⟨al2,cl2,rfl,z1,z2⟩:=hl2;clear z1 z2;obtain⟨ao2,co2,rfl,z1,z2⟩:=ho2;clear z1 z2 CR e22;have M3:=hid (stayB M2.out hb2);have HB3:=hid (HB.out.trans (hb2.mono HB.out.size));clear hb2;unfold meshV;go_wp2;refine⟨rfl,hK _ _ trivial ?_⟩;clear hK K;have hne:Nonempty (Of (fun _:World=>True)):=⟨⟨u2,trivial⟩⟩;refine anyM_reads [24,25,26,27] trivial ?_;repeat(go_big_quiet_step (fail))
 refine wpQuiet_nil ?_;refine anyM_pick [28] (by kernel_rfl) (by decide) ?_;intro i hi;obtain rfl:i=28:=by simpa using hi
 refine⟨_,rfl,fun K hK=>?_⟩;obtain⟨m0,m1⟩:=two_at M3.out;have f0:=frozen_at (i:=0) M3.out;have f1:=frozen_at (i:=1) M3.out;go_wp2;refine⟨rfl,hK _ _ trivial ?_⟩;clear hK K;refine anyM_reads [29,30] trivial ?_;repeat(go_big_quiet_step (fail))
 refine wpQuiet_nil ?_;refine anyM_end (by kernel_rfl) ?_;have hY:=put2_whole M3.out (.slice ab2 2 cb2) (.slice al2 3 cl2);have hVY:=ve_put2 (a2:=ab2) (n2:=2) (c2:=cb2) M3.out HV2.out (.slice al2 3 cl2);have hLY:=ps_put2 M3.out HL2.out (.slice ab2 2 cb2) (.slice al2 3 cl2);have hgmW:w.heap.size≤gm:=by rw[←hgm];exact hgw
 have hBY:Below w.heap.size w (put2 u2 gm (.slice ab2 2 cb2) (.slice al2 3 cl2)):=put2_below (B2.out.trans (HB3.out.mono B2.out.size)) hgmW;have hOY:IntSl (put2 u2 gm (.slice ab2 2 cb2) (.slice al2 3 cl2)) (put2 u2 gm (.slice ab2 2 cb2) (.slice al2 3 cl2)).heap.size (.slice ao2 10 co2) 10 (fun j=>([0,0,6,0,0,0,0,6,0,0]:List Int).getD j 0):=by
  have h9:=isl_put2D M3.out HO2.out (.slice ab2 2 cb2) (.slice al2 3 cl2);exact h9
 obtain⟨Y,hYe⟩:∃Y,put2 u2 gm (.slice ab2 2 cb2) (.slice al2 3 cl2)=Y:=⟨_,rfl⟩;have hYw:(u2.setCell ⟨gm,0,none⟩ (.slice ab2 2 cb2)).setCell ⟨gm,1,none⟩ (.slice al2 3 cl2)=Y:=hYe;rw[hYe]at hY hVY hLY hBY hOY;have hbE:=below_alloc Y (.cells #[.int .i64 0,.int .i64 0,.int .i64 6,.int .i64 0,.int .i64 0,.int .i64 0,.int .i64 0,.int .i64 6,.int .i64 0,.int .i64 0] 31);have kE:=heap_alloc_new Y (.cells #[.int .i64 0,.int .i64 0,.int .i64 6,.int .i64 0,.int .i64 0,.int .i64 0,.int .i64 0,.int .i64 6,.int .i64 0,.int .i64 0] 31);obtain⟨YE,hYE⟩:∃y,Y.alloc (.cells #[.int .i64 0,.int .i64 0,.int .i64 6,.int .i64 0,.int .i64 0,.int .i64 0,.int .i64 0,.int .i64 6,.int .i64 0,.int .i64 0] 31)=y:=⟨_,rfl⟩;rw[hYE]at hbE kE;have E:=hid (equal_errs (hOY.up hbE) (isl_ten kE))
 have hE9:∀F:Nat→Int,eqB 10 10 F F=true:=fun F=>decide_eq_true ⟨rfl,fun _ _=>rfl⟩;rw[hE9]at E;clear hE9;have HY:=hid (stayB hY hbE);have HLY:=hid (hLY.up hbE);have HBY:=hid (hBY.trans (hbE.mono hBY.size));have HQ:=hid (⟨q3,q4,q5,q6,q7⟩:_∧_∧_∧_∧_);clear hY hVY hLY hBY hOY hbE kE q1 q2 q3 q4 q5 q6 q7 m0 m1 f0 f1 hne hYe;rw[hYw];clear hYw;go_wp2_with fail
 refine Calls.mono E.out ?_;rintro e Y2 ⟨rfl,hb9⟩;obtain⟨q3,q4,q5,q6,q7⟩:=HQ.out;have HL9:=HLY.out.up hb9;obtain⟨d0,d1⟩:=two_at (stayB HY.out hb9);have HB9:=hid (HBY.out.trans (hb9.mono HBY.out.size));obtain⟨bl,off,rfl,hbl,_,_,p02,k0⟩:=HL9.at (i:=0) (by omega);obtain⟨bl1,off1,e1,_,_,_,p12,k1⟩:=HL9.at (i:=1) (by omega);obtain⟨bl2,off2,e2,_,_,_,p22,k2⟩:=HL9.at (i:=2) (by omega);injection e1 with e1;injection e1 with e11 e12;subst e11 e12;injection e2 with e2;injection e2 with e21 e22;subst e21 e22;obtain⟨a0,c0,hk0,_,_⟩:=k0;obtain⟨a1,c1,hk1,_,_⟩:=k1;obtain⟨a2,c2,hk2,_,hr2⟩:=k2;rw[hk0,q4]at p02;rw[hk1,q3]at p12;rw[hk2]at p22;rcases hr2 with h9|⟨bk,ok,rfl,hbk,hr2⟩;·omega
 obtain⟨_,_,x2,x3⟩:=hr2 0 (by omega);obtain⟨au,cu,hue,_,hu⟩:=x3;rw[hue]at x2;rcases hu with h9|⟨bu,ou,rfl,hbu,hu⟩;·omega
 have x9:=hu 0 (by omega);rw[q7,Nat.add_zero]at x9;obtain⟨m2,hm2⟩:∃m,(runM dnM dnL).P.m 2=m:=⟨_,rfl⟩;obtain⟨l2,hl2e⟩:∃l,((runM dnM dnL).P.t 2).L 0=l:=⟨_,rfl⟩;rw[hm2]at p22 q5;rw[hl2e]at x2 q6;have hm2i:(0:Int)<(m2:Int):=by omega
 have hl2i:(0:Int)<(l2:Int):=by omega
 clear hb9 HL9 hk0 hk1 hk2 hr2 hue hu hm2 hl2e E;go_wp2;go_ret;exact⟨rfl,HB9.out⟩
end Go.Proofs.YtajmnlhfnhbleaaGreat
