/- Several texts of one proof, in their order. -/
import Derived.Test.YtajmnlhfnhbleaaGreatDSum10
namespace Go.Proofs.YtajmnlhfnhbleaaGreat
open Go.RowKit CurveMath
set_option linter.unusedVariables false
set_option maxHeartbeats 4000000
set_option maxRecDepth 10000
theorem OwnI.pushA{w0 wr w1:World}{v v':Value}{k:Nat}{C:Nat→Int}{x:Int}(h:OwnI w0 wr v k C)(o:Obj)
 (ho:w1.ownsRow w0.heap.size 3 1 v' (k+1) (((List.range k).map fun j=>Value.int .i64 (C j))++[.int .i64 x])) (hg:(wr.alloc o).grownBy w1 v.ownBlock) (hx:C k=x):OwnI w0 w1 v' (k+1) C :=
 h.push o 0 ho hg hx
theorem places_any(d:Nat)(hd:d≤100)(w:World):
 Calls Tryz.prog 133 #[.int .i64 (d:Int)] w fun e w'=>∃v,e=.returned v∧OwnI w w' v d (fun j=>(j:Int)):=by
 obtain⟨ii,hi,hzz0,hzz1,hzz2⟩:=info_parts Tryz.infoInt
 go_enter Tryz.func133,Tryz.ntmps133
 go_wp2
 go_loopw [3,6] (fun v i wr=>∃k:Nat,k≤d∧i=.int .i64 k∧Hid (OwnI w wr v k (fun j=>(j:Int)))) (fun _ i _=>d-(intOf i).toNat)
 case atStart=>exact⟨0,Nat.zero_le _,rfl,OwnI.nil _ _⟩
 case round =>
  obtain⟨k,hk,rfl,OW⟩:=hrel;by_cases hlt:k<d
  ·have hi2:(k:Int)<(d:Int):=by omega
   go_wp2_with(at_builtin;go_must(refine wpList_append_own _ rfl (.tmp 9) (.tmp 11) 28 rfl w.heap.size 3 ii (.int .i64 0) 1 8 Tryz.underlying28 hi hzz0 hzz1 hzz2 rfl (by decide) _ _ _ rfl (OW.out.owns _ 0) ⟨_,0,none⟩ 1 1 [.int .i64 (k:Int)] rfl rfl (newCell _ _ _) (oneCell _) (by unfold maxLen;omega) (by omega) (by have:=OW.out.2.size;simp;omega) ?_;intro v1 w6 ho6 hg6 _;have O6:=hid (OW.out.pushA _ ho6 hg6 rfl);clear ho6 hg6))
   go_roundw
   case rel=>exact⟨k+1,by omega,by go_num,O6⟩
   case measure=>simp only[intOf];omega
  have he:k=d:=by omega
  subst he;go_wp2;go_ret;exact⟨_,rfl,OW.out⟩
structure SoInv(w wr:World)(k d:Nat)(vs:Value)(r:Nat)(C:Nat→Int):Prop where
 below:Below w.heap.size w wr
 size:w.heap.size+3≤wr.heap.size
 p0:wr.cell? ⟨w.heap.size,0,none⟩=some (.int .i64 (d:Int))
 q:wr.heap[w.heap.size+1]?=some (.cells #[.int .i64 0,.slice none 0 0] 81)
 s0:wr.cell? ⟨w.heap.size+1+1,0,none⟩=some (.int .i64 (k:Int))
 s1:wr.cell? ⟨w.heap.size+1+1,1,none⟩=some vs
 g1:wr.frozen? ⟨w.heap.size+1+1,1,none⟩=false
 own:wr.ownsRow (w.heap.size+3) 3 1 vs r ((List.range r).map fun j=>Value.int .i64 (C j))
theorem SoInv.up{w wr w':World}{k d r:Nat}{vs:Value}{C:Nat→Int}(h:SoInv w wr k d vs r C)(hb:Below wr.heap.size wr w'):SoInv w w' k d vs r C :=
 ⟨h.below.trans (hb.mono h.below.size),Nat.le_trans h.size hb.size,by rw[hb.cell (cell_lt h.p0)];exact h.p0,by rw[hb.block _ (by have:=h.size;omega)];exact h.q,by rw[hb.cell (cell_lt h.s0)];exact h.s0,by rw[hb.cell (cell_lt h.s1)];exact h.s1,by rw[hb.frozen (cell_lt h.s1)];exact h.g1,owns_below h.own hb⟩
theorem owns_shape{w:World}{base:Nat}{e:TypeId}{sz n:Nat}{v:Value}{xs:List Value}(h:w.ownsRow base e sz v n xs):∃ad cap,v=.slice ad n cap:=by
 obtain⟨_,h2⟩:=h;rcases h2 with⟨h1,h0⟩|⟨g,cap,cur,h1,_⟩;·exact⟨none,0,by rw[h0];exact h1⟩
 exact⟨_,_,h1⟩
theorem SoInv.push{w wr w1:World}{k d r:Nat}{vs vs':Value}{C:Nat→Int}{x:Int}{o:Obj}(h:SoInv w wr k d vs r C)
 (ho:w1.ownsRow (w.heap.size+3) 3 1 vs' (r+1) (((List.range r).map fun j=>Value.int .i64 (C j))++[.int .i64 x])) (hg:(wr.alloc o).grownBy w1 vs.ownBlock) (hx:C r=x) :
 SoInv w (w1.setCell ⟨w.heap.size+1+1,1,none⟩ vs') k d vs' (r+1) C∧w1.cell? ⟨w.heap.size+1+1,1,none⟩=some vs∧w1.frozen? ⟨w.heap.size+1+1,1,none⟩=false∧w1.cell? ⟨w.heap.size,0,none⟩=some (.int .i64 (d:Int)):=by
 have h2:=h.up (below_alloc wr o)
 have hlo:∀g,vs.ownBlock=some g→w.heap.size+3≤g:=fun g hgg=>(h.own.lt g hgg).1
 have hne:∀b,b<w.heap.size+3→some b≠vs.ownBlock:=fun b hb e=>by have:=hlo b e.symm;omega
 have hs2:=h2.size
 have hcell:∀(a:Addr) (v:Value),a.block<w.heap.size+3→(wr.alloc o).cell? a=some v→w1.cell? a=some v:=fun a v ha hv=>hg.cell hv (hne _ ha)
 have hfro:∀(a:Addr),a.block<w.heap.size+3→(wr.alloc o).frozen? a=false→w1.frozen? a=false:=fun a ha hv=>by
  rw[World.frozen?_of_block (hg.block a.block (by omega) (hne _ ha))];exact hv
 have hb1:Below w.heap.size w w1:=h2.below.grown hg h2.below.size (fun g hgg=>by have:=hlo g hgg;omega)
 have c1:=hcell _ _ (by show w.heap.size+1+1<_;omega) h2.s1
 have hso:∀(a:Addr) (v:Value),a≠⟨w.heap.size+1+1,1,none⟩→w1.cell? a=some v→(w1.setCell ⟨w.heap.size+1+1,1,none⟩ vs').cell? a=some v:=fun a v ha hv=>by
  rw[World.cell?_setCell_other _ _ _ _ (fun e=>ha e.symm)];exact hv
 refine⟨⟨hb1.setCell (p:=⟨w.heap.size+1+1,1,none⟩) (by show w.heap.size≤w.heap.size+1+1;omega) _,?_,?_,?_,?_,?_,?_,?_⟩,c1,hfro _ (by show w.heap.size+1+1<_;omega) h2.g1,hcell _ _ (by show w.heap.size<_;omega) h2.p0⟩
 ·have:=hg.size
  simp only[World.setCell,Array.size_modify];omega
 ·exact hso _ _ (by intro e;injection e with e1;omega) (hcell _ _ (by show w.heap.size<_;omega) h2.p0)
 ·have h3:=hg.block (w.heap.size+1) (by omega) (hne _ (by omega))
  rw[h2.q]at h3;simp[World.setCell,Array.getElem?_modify,h3]
 ·exact hso _ _ (by intro e;injection e with e1 e2;omega) (hcell _ _ (by show w.heap.size+1+1<_;omega) h2.s0)
 ·exact World.cell?_setCell_same _ _ _ c1
 ·rw[World.frozen?_setCell];exact hfro _ (by show w.heap.size+1+1<_;omega) h2.g1
 ·have e:((List.range (r+1)).map fun j=>Value.int .i64 (C j))=((List.range r).map fun j=>Value.int .i64 (C j))++[.int .i64 x]:=by
   rw[List.range_succ,List.map_append];simp only[List.map_cons,List.map_nil,hx]
  rw[e];have hkeep:w1.grownBy (w1.setCell ⟨w.heap.size+1+1,1,none⟩ vs') (some (w.heap.size+1+1)):=grownBy_set ⟨rfl,rfl,rfl,Nat.le_refl _,fun _ _ _=>rfl⟩;cases hv:vs'.ownBlock with
  |none=>exact ho.kept hkeep (Or.inl hv)
  |some g=>exact ho.kept hkeep (Or.inr (by rw[hv];intro e;injection e with e;have:=(ho.lt g hv).1;omega))
structure OwnB(B:Nat)(wr:World)(v:Value)(n:Nat)(C:Nat→Int):Prop where
 own:wr.ownsRow B 3 1 v n ((List.range n).map fun j=>Value.int .i64 (C j))
theorem OwnB.isl{B:Nat}{wr:World}{v:Value}{n:Nat}{C:Nat→Int}(h:OwnB B wr v n C)(hn:1≤n)(hr:n*8≤140737488351232):IntSl wr wr.heap.size v n C:=by
 obtain⟨hl,h2⟩:=h.own;rcases h2 with⟨_,h0⟩|⟨g,cap,cur,rfl,hg,hh,hc1,hc2,hsz,hcur⟩;·omega
 refine⟨_,cap,rfl,⟨hc1,hr⟩,Or.inr ⟨g,0,rfl,?_,fun j hj=>?_⟩⟩
 ·rcases Nat.lt_or_ge g wr.heap.size with h1|h1
  ·exact h1
  rw[Array.getElem?_eq_none h1]at hh;cases hh
 rw[Nat.zero_add];have h3:((List.range n).map fun j=>Value.int .i64 (C j))[j]?=some (.int .i64 (C j)):=by simp[hj]
 rw[←hcur,List.getElem?_take,if_pos (by omega)]at h3;exact cell_at hh (by simpa using h3)
def ShareIs(w w':World)(k:Int)(R:Nat)(X:Nat→Int)(e:Ending):Prop:=∃V,e=.returned (shareV k V)∧IntSl w' w'.heap.size V R X∧Below w.heap.size w w'∧Above w.heap.size V
theorem shareOf_any(d m n:Nat)(sz:Int)(a:Option Addr)(cp:Nat)(D:Nat→Int)(k:Nat)(w:World)(hp:planOk (d:Int) (m:Int) sz=true)(hD:∀j,j<n→0≤D j∧D j≤30)(hn:n≤100)(hk:k≤30){R:Nat}(hR:rowsN (d:Int) sz=R)(h:IntSl w w.heap.size (.slice a n cp) n D):
 Calls Tryz.prog 96 #[planV (d:Int) (m:Int) sz,.slice a n cp,.int .i64 (k:Int)] w fun e w'=>ShareIs w w' k R (fun r=>shv d n D k r) e:=by
 obtain⟨hnd,hof,hsz⟩:=planOk_spec hp
 have hrb:=rowsN_bd hnd hsz
 rw[hR]at hrb
 have hRo:=fun w=>rowsOf_any (d:Int) (m:Int) sz w
 have e2:longP (d:Int) (m:Int) sz=(R:Int):=by unfold longP;rw[if_pos hp,hR]
 rw[e2]at hRo
 have HRo:=hid hRo
 have hdd:1≤d∧d≤4:=by omega
 have hRR:1≤R∧R≤24:=by omega
 have HI:=hid h
 have HD:=hid hD
 obtain⟨ii,hi,hzz0,hzz1,hzz2⟩:=info_parts Tryz.infoInt
 clear hRo e2 hrb hnd hof hsz hp hR h hD
 unfold planV
 go_enter Tryz.func96,Tryz.ntmps96
 go_wp2_with fail
 have J0:SoInv w (((w.alloc (.cells #[.int .i64 (d:Int),.int .i64 (m:Int),.int .i64 sz] 59)).alloc (.cells #[.int .i64 0,.slice none 0 0] 81)).alloc (.cells #[.int .i64 (k:Int),.slice none 0 0] 81)) k d (.slice none 0 0) 0 (fun r=>shv d n D k r):=by
  have hP:=(below_alloc (w.alloc (.cells #[.int .i64 (d:Int),.int .i64 (m:Int),.int .i64 sz] 59)) (.cells #[.int .i64 0,.slice none 0 0] 81));have hQ:=(below_alloc ((w.alloc (.cells #[.int .i64 (d:Int),.int .i64 (m:Int),.int .i64 sz] 59)).alloc (.cells #[.int .i64 0,.slice none 0 0] 81)) (.cells #[.int .i64 (k:Int),.slice none 0 0] 81));have z1:(w.alloc (.cells #[.int .i64 (d:Int),.int .i64 (m:Int),.int .i64 sz] 59)).heap.size=w.heap.size+1:=by simp
  have z2:((w.alloc (.cells #[.int .i64 (d:Int),.int .i64 (m:Int),.int .i64 sz] 59)).alloc (.cells #[.int .i64 0,.slice none 0 0] 81)).heap.size=w.heap.size+1+1:=by simp
  have hh1:=heap_alloc_new w (.cells #[.int .i64 (d:Int),.int .i64 (m:Int),.int .i64 sz] 59);have hh2:=heap_alloc_new (w.alloc (.cells #[.int .i64 (d:Int),.int .i64 (m:Int),.int .i64 sz] 59)) (.cells #[.int .i64 0,.slice none 0 0] 81);have hh3:=heap_alloc_new ((w.alloc (.cells #[.int .i64 (d:Int),.int .i64 (m:Int),.int .i64 sz] 59)).alloc (.cells #[.int .i64 0,.slice none 0 0] 81)) (.cells #[.int .i64 (k:Int),.slice none 0 0] 81);rw[z1]at hh2;rw[z2]at hh3;have l1:=cell_at (i:=0) hh1 rfl;have b1:=cell_lt l1;have b3:=Nat.lt_of_lt_of_le b1 hP.size;refine⟨?_,by simp,?_,?_,cell_at hh3 rfl,cell_at hh3 rfl,frozen_at hh3,World.ownsRow_nil _ _ _ _⟩;·exact(((Below.refl w.heap.size w).alloc (Nat.le_refl _) _).alloc (by simp) _).alloc (by simp;omega) _
  ·rw[hQ.cell b3,hP.cell b1];exact l1
  rw[hQ.block _ (by simp)];exact hh2
 refine Calls.mono (HRo.out _) ?_
 rintro e w1 ⟨rfl,hb1⟩
 have J1:=hid (J0.up hb1)
 clear J0 hb1
 go_wp2
 go_loopw [16] (fun iv wr=>∃(r:Nat) (vs:Value),r≤R∧iv=.int .i64 r∧Hid (SoInv w wr k d vs r (fun r=>shv d n D k r))) (fun iv _=>R-(intOf iv).toNat)
 case atStart=>exact⟨0,_,Nat.zero_le _,rfl,J1⟩
 case round =>
  obtain⟨r,vs,hr,rfl,J⟩:=hrel;obtain⟨ar,cr,hvs⟩:=owns_shape J.out.own;subst hvs;by_cases hlt:r<R
  ·have hri:(r:Int)<(R:Int):=by omega
   have p0:=J.out.p0;go_wp2_with(at_make;refine wpList_make_full _ rfl (.tmp 20) (.tmp 20) 28 rfl _ 3 ii (.int .i64 0) 1 Tryz.underlying28 hi hzz0 hzz1 _ _ _ _ d rfl rfl rfl rfl (by rw[hzz2];omega) (by unfold maxLen;omega) (Nat.le_refl _) ?_;intro w2 ho2 hg2;have R2:=hid (row_made ho2 hg2);clear ho2 hg2)
   have hrd:0≤(r:Int)*(d:Int)∧(r:Int)*(d:Int)≤100:=⟨Int.mul_nonneg (by omega) (by omega),by
    have h1:(r:Int)*(d:Int)≤(r:Int)*4:=Int.mul_le_mul_of_nonneg_left (by omega) (by omega);omega⟩
   go_loopw [24] (fun iv wq=>∃i:Nat,i≤d∧iv=.int .i64 i∧Hid (Row wr wq wr.heap.size d (fun j=>if j<i then padD n D (r*d+j)else 0))) (fun iv _=>d-(intOf iv).toNat)
   case atStart=>exact⟨0,Nat.zero_le _,rfl,R2.out.congr fun j hj=>by rw[if_neg (by omega)]⟩
   case round =>
    obtain⟨i,hid',rfl,RW⟩:=hrel;have JW:=hid (J.out.up RW.out.below);by_cases hil:i<d
    ·have hii:(i:Int)<(d:Int):=by omega
     have c0:=RW.out.cell i hil;have c1:=RW.out.free i hil;have p0:=JW.out.p0;by_cases hin:r*d+i<n
     ·have hin2:(r:Int)*(d:Int)+(i:Int)<(n:Int):=by
       have h1:((r*d+i:Nat):Int)=(r:Int)*(d:Int)+(i:Int):=by simp
       omega
      have hod:∃bo oo,a=some ⟨bo,oo,none⟩∧wr.cell? ⟨bo,oo+(r*d+i),none⟩=some (.int .i64 (D (r*d+i))):=by
       obtain⟨ad,cp',e,_,h2⟩:=HI.out;injection e with e4;subst e4;rcases h2 with h0|⟨bo,oo,rfl,hb,hx⟩;·omega
       exact⟨bo,oo,rfl,by rw[JW.out.below.cell hb];exact hx _ hin⟩
      obtain⟨bo,oo,rfl,god⟩:=hod;go_wp2;go_roundw
      case rel =>
       refine⟨i+1,by omega,by go_num,(RW.out.set i hil (D (r*d+i))).congr fun j hj=>?_⟩;by_cases e:j=i
       ·subst e
        rw[if_pos rfl,if_pos (by omega)];unfold padD;rw[if_pos hin]
       rw[if_neg e];by_cases e2:j<i;·rw[if_pos e2,if_pos (by omega)]
       rw[if_neg e2,if_neg (by omega)]
      case measure=>simp only[intOf];omega
     have hin2:(n:Int)≤(r:Int)*(d:Int)+(i:Int):=by
      have h1:((r*d+i:Nat):Int)=(r:Int)*(d:Int)+(i:Int):=by simp
      omega
     go_wp2;go_roundw
     case rel =>
      refine⟨i+1,by omega,by go_num,RW.out.congr fun j hj=>?_⟩;by_cases e:j=i
      ·subst e
       rw[if_neg (Nat.lt_irrefl _),if_pos (by omega)];unfold padD;rw[if_neg hin]
      by_cases e2:j<i;·rw[if_pos e2,if_pos (by omega)]
      rw[if_neg e2,if_neg (by omega)]
     case measure=>simp only[intOf];omega
    have hie:i=d:=by omega
    subst hie;have RW2:=hid (RW.out.congr (D:=fun j=>padD n D (r*i+j)) fun j hj=>by rw[if_pos hj]);have hy:=hid (RW2.out.isl (Nat.le_refl _) (by omega));clear RW2;have hne:Nonempty (Of (fun w':World=>w'.cell? ⟨w.heap.size+1+1,1,none⟩=some (.slice ar r cr)∧w'.cell? ⟨w.heap.size,0,none⟩=some (.int .i64 (i:Int)))):=⟨⟨wr,JW.out.s1,JW.out.p0⟩⟩;have F0:∀u:Of (fun w':World=>w'.cell? ⟨w.heap.size+1+1,1,none⟩=some (.slice ar r cr)∧w'.cell? ⟨w.heap.size,0,none⟩=some (.int .i64 (i:Int))),u.val.cell? ⟨w.heap.size+1+1,1,none⟩=some (.slice ar r cr):=fun u=>u.is.1;have F1:∀u:Of (fun w':World=>w'.cell? ⟨w.heap.size+1+1,1,none⟩=some (.slice ar r cr)∧w'.cell? ⟨w.heap.size,0,none⟩=some (.int .i64 (i:Int))),u.val.cell? ⟨w.heap.size,0,none⟩=some (.int .i64 (i:Int)):=fun u=>u.is.2;go_wp2_with fail
    refine region_mixed_last (fun w':World=>w'.cell? ⟨w.heap.size+1+1,1,none⟩=some (.slice ar r cr)∧w'.cell? ⟨w.heap.size,0,none⟩=some (.int .i64 (i:Int))) [([0,1,2,3,5,6],4),([],7),([],8),([],9)] [10] 11 (by kernel_rfl) (by kernel_rfl) ⟨JW.out.s1,JW.out.p0⟩ ?_;refine mixO_cons ?_;repeat(go_big_quiet_step (fail))
    refine wpQuiet_nil ?_;intro K hK;go_wp2_with fail
    refine Calls.mono (places_any i (by omega) _) ?_;rintro e w5 ⟨vp,rfl,hvp⟩;have hb5:Below wr.heap.size wr w5:=Below.trans (⟨rfl,rfl,rfl,Nat.le_refl _,fun _ _=>rfl⟩:Below wr.heap.size wr wr.drew) hvp.2;have J5:=hid (JW.out.up hb5);have HY5:=hid (hy.out.up hb5);have HVp:=hid (hvp.isl hdd.1 (by omega));clear hvp hb5;go_wp2;refine⟨rfl,hK _ _ ⟨J5.out.s1,J5.out.p0⟩ ?_⟩;clear hK K;refine mixO_cons (lq:=[]) ?_ rfl;refine wpQuiet_nil ?_;intro K hK;go_wp2_with fail
    refine Calls.mono (valueAt_good vp _ i (fun j=>(j:Int)) (fun j=>padD n D (r*i+j)) (k:Int) w5 HVp.out HY5.out (good_row ⟨hdd.1,by omega⟩ HD.out r) ⟨by omega,by omega⟩) ?_;rintro e w6 ⟨rfl,hb6⟩;have J6:=hid (J5.out.up hb6);clear hb6;have hsv:crv i (fun j=>(j:Int)) (fun j=>padD n D (r*i+j)) (k:Int)=shv i n D k r:=rfl;rw[hsv];obtain⟨x,hx⟩:∃x,shv i n D k r=x:=⟨_,rfl⟩;rw[hx];have HX:=hid hx;clear hsv hx;go_wp2;refine⟨rfl,hK _ _ ⟨J6.out.s1,J6.out.p0⟩ ?_⟩;clear hK K;refine mixO_cons (lq:=[]) ?_ rfl;refine wpQuiet_nil ?_;intro K hK;go_wp2_with fail
    have J7:=J6.out.up (below_alloc w6 (.cells #[.int .i64 x] 3));refine⟨rfl,hK _ _ ⟨J7.s1,J7.p0⟩ ?_⟩;clear hK K J7;refine mixO_cons (lq:=[]) ?_ rfl;refine wpQuiet_nil ?_;intro K hK;go_wp2_with(at_builtin;go_must(refine wpList_append_own _ rfl (.tmp 46) (.tmp 53) 28 rfl (w.heap.size+3) 3 ii (.int .i64 0) 1 8 Tryz.underlying28 hi hzz0 hzz1 hzz2 rfl (by decide) _ _ _ rfl (World.ownsRow.alloc J6.out.own _) ⟨_,0,none⟩ 1 1 [.int .i64 x] rfl rfl (newCell _ _ _) (oneCell _) (by unfold maxLen;omega) (by omega) (by have:=J6.out.size;simp;omega) ?_;intro v1 w7 ho7 hg7 _))
    obtain⟨J8,s8,g8,p8⟩:=J6.out.push (C:=fun r=>shv i n D k r) ho7 hg7 HX.out;obtain⟨ad8,cp8,hv8⟩:=owns_shape ho7;subst hv8;refine⟨rfl,hK _ _ ⟨s8,p8⟩ ?_⟩;have J9:=hid J8;clear hK K J8 ho7 hg7;refine mixO_last ?_;repeat(go_big_quiet_step (fail))
    refine wpQuiet_nil ?_;go_wp2;go_roundw
    case rel=>exact⟨r+1,_,by omega,by go_num,J9⟩
    case measure=>simp only[intOf];omega
  have he:r=R:=by omega
  subst he;have q0:=cell_at (i:=0) J.out.q rfl;have q1:=cell_at (i:=1) J.out.q rfl;have f0:=frozen_at (i:=0) J.out.q;have f1:=frozen_at (i:=1) J.out.q;have s0:=J.out.s0;have s1:=J.out.s1;go_wp2;have hkeep:wr.grownBy ((wr.setCell ⟨w.heap.size+1,0,none⟩ (.int .i64 (k:Int))).setCell ⟨w.heap.size+1,1,none⟩ (.slice ar r cr)) (some (w.heap.size+1)):=grownBy_set (grownBy_set ⟨rfl,rfl,rfl,Nat.le_refl _,fun _ _ _=>rfl⟩);have hown:=J.out.own.kept hkeep (by
   cases hv:(Value.slice ar r cr).ownBlock with
   |none=>exact Or.inl rfl
   |some g=>exact Or.inr (by intro e;injection e with e;have:=(J.out.own.lt g hv).1;omega))
  have hheap:((wr.setCell ⟨w.heap.size+1,0,none⟩ (.int .i64 (k:Int))).setCell ⟨w.heap.size+1,1,none⟩ (.slice ar r cr)).heap[w.heap.size+1]?=some (.cells #[.int .i64 (k:Int),.slice ar r cr] 81):=by
   simp[World.setCell,Array.getElem?_modify,J.out.q]
  have hbl:Below w.heap.size w ((wr.setCell ⟨w.heap.size+1,0,none⟩ (.int .i64 (k:Int))).setCell ⟨w.heap.size+1,1,none⟩ (.slice ar r cr)) :=
   Below.setCell (Below.setCell J.out.below (by show w.heap.size≤w.heap.size+1;omega) _) (by show w.heap.size≤w.heap.size+1;omega) _
  refine bodyPost_ret (results_cell_row rfl _ _ (w.heap.size+1) 81 #[.int .i64 (k:Int),.slice ar r cr] (0,0) _ rfl hheap Tryz.underlying81 rfl (by kernel_rfl)) rfl ?_;refine⟨_,rfl,?_,hbl,fun ad n' c' e'=>?_⟩;rotate_left
  ·injection e' with e1
   have h9:=(J.out.own.lt ad.block (by rw[e1];rfl)).1;omega
  exact(⟨hown⟩:OwnB (w.heap.size+3) _ _ _ _).isl hRR.1 (by omega)
theorem flatS_congr{n:Nat}{N N':Nat→Int}{V V':Nat→Value}(h:∀j,j<n→N j=N' j∧V j=V' j):flatS n N V=flatS n N' V':=by
 apply List.ext_getElem?;intro i;rw[flatS_get,flatS_get];by_cases hi:i<n*2
 ·rw[if_pos hi,if_pos hi]
  unfold cellS;obtain⟨h1,h2⟩:=h (i/2) (by omega);rw[h1,h2]
 rw[if_neg hi,if_neg hi]
theorem OwnS.shape{w0 wr:World}{v:Value}{n:Nat}{N:Nat→Int}{V:Nat→Value}(h:OwnS w0 wr v n N V):∃ad cap,v=.slice ad n cap:=by
 obtain⟨_,h2⟩:=h.1;rcases h2 with⟨h1,h0⟩|⟨g,cap,cur,h1,_⟩;·exact⟨none,0,by rw[h0];exact h1⟩
 exact⟨_,_,h1⟩
theorem cells_two(w:World)(N:Int)(v:Value)(T:TypeId):∀j u,([.int .i64 N,v]:List Value)[j]?=some u→(w.alloc (.cells #[.int .i64 N,v] T)).cell? (Addr.add ⟨w.heap.size,0,none⟩ j)=some u:=by
 intro j u hj;rw[Addr.add_lit];match j,hj with
 |0,hj=>simp at hj;subst hj;exact cell_at (heap_alloc_new _ _) rfl
 |1,hj=>simp at hj;subst hj;exact cell_at (heap_alloc_new _ _) rfl
theorem OwnS.pushS{w0 wr w1:World}{v v':Value}{k:Nat}{N N':Nat→Int}{V V':Nat→Value}{x:Int}{u:Value}{o:Obj}(h:OwnS w0 wr v k N V)
 (ho:w1.ownsRow w0.heap.size 81 2 v' (k+1) (flatS k N V++[.int .i64 x,u])) (hg:(wr.alloc o).grownBy w1 v.ownBlock) (hN:∀j,j<k→N' j=N j∧V' j=V j) (hx:N' k=x) (hu:V' k=u):OwnS w0 w1 v' (k+1) N' V':=by
 refine⟨?_,?_⟩
 ·rw[flatS_succ,hx,hu,flatS_congr (N':=N) (V':=V) hN]
  exact ho
 ·have hbA:Below w0.heap.size w0 (wr.alloc o):=h.2.alloc h.2.size o
  exact hbA.grown hg hbA.size (fun g hgg=>(h.1.lt g hgg).1)
theorem OwnS.up{w0 wr w':World}{v:Value}{k:Nat}{N:Nat→Int}{V:Nat→Value}(h:OwnS w0 wr v k N V)(hb:Below wr.heap.size wr w'):OwnS w0 w' v k N V :=
 ⟨owns_below h.1 hb,h.2.trans (hb.mono h.2.size)⟩
def Off(vo v:Value):Prop:=∀ad n c,v=.slice (some ad) n c→some ad.block≠vo.ownBlock
theorem IntSl.grown{w w':World}{vo v:Value}{n:Nat}{X:Nat→Int}(h:IntSl w w.heap.size v n X)(hg:w.grownBy w' vo.ownBlock)(ho:Off vo v):IntSl w' w'.heap.size v n X:=by
 obtain⟨ad,cap,rfl,h0,h2⟩:=h;refine⟨ad,cap,rfl,h0,?_⟩;rcases h2 with h2|⟨b,off,rfl,h4,h5⟩;·exact Or.inl h2
 exact Or.inr ⟨b,off,rfl,Nat.lt_of_lt_of_le h4 hg.size,fun j hj=>hg.cell (h5 j hj) (ho ⟨b,off,none⟩ _ _ rfl)⟩
theorem off_step{w3 w4:World}{vo v1 v:Value}{R:Nat}{X:Nat→Int}{o:Obj}(hR:1≤R)(hv:IntSl w3 w3.heap.size v R X)(hoff:Off vo v)(hg:(w3.alloc o).grownBy w4 vo.ownBlock)(hat:v1.ownBlock=vo.ownBlock∨v1.ownBlock=some (w3.alloc o).heap.size):IntSl w4 w4.heap.size v R X∧Off v1 v:=by
 refine⟨(hv.alloc o).grown hg hoff,fun ad n' c' e'=>?_⟩;rcases hat with e|e;·rw[e];exact hoff ad n' c' e'
 rw[e];obtain⟨ad2,cap,e2,h0,h2⟩:=hv;rw[e']at e2;injection e2 with e3;rcases h2 with h2|⟨b,off,e4,h4,h5⟩;·omega
 rw[←e3]at e4;injection e4 with e4;rw[e4];intro e5;injection e5 with e5;simp at e5;omega
theorem off_new{w0 wr:World}{vo v:Value}{k:Nat}{N:Nat→Int}{V:Nat→Value}(h:OwnS w0 wr vo k N V)(ha:Above wr.heap.size v):Off vo v:=fun ad n c e e2=>by
 have h1:=ha ad n c e;have h2:=(h.1.lt ad.block e2.symm).2;omega
def SplitPost(w:World)(nd of sz:Int)(n:Nat)(D:Nat→Int)(e:Ending)(w':World):Prop :=
 Below w.heap.size w w'∧∃(r:Value) (m:Nat) (V:Nat→Value),e=.returned (.tuple #[r,.int .i64 (splitE nd of sz n D)])∧(m:Int)=(if splitE nd of sz n D=0 then of else 0)∧ShSl w' w'.heap.size r m (fun k=>(k:Int)) V (fun _=>rowsN nd sz) (fun k i=>shv nd.toNat n D k i)
theorem split_err{w w':World}{nd of sz:Int}{n:Nat}{D:Nat→Int}{c:Int}(hb:Below w.heap.size w w')(he:splitE nd of sz n D=c)(hc:c≠0):SplitPost w nd of sz n D (.returned (.tuple #[.slice none 0 0,.int .i64 c])) w':=by
 refine⟨hb,_,0,fun _=>.bool false,by rw[he],?_,none,0,rfl,⟨Nat.le_refl _,by omega⟩,Or.inl rfl⟩;rw[he,if_neg hc];rfl
theorem splits_any(nd of sz:Int)(a:Option Addr)(n cp:Nat)(D:Nat→Int)(w:World)(h:IntSl w w.heap.size (.slice a n cp) n D):
 Calls Tryz.prog 91 #[planV nd of sz,.slice a n cp] w fun e w'=>SplitPost w nd of sz n D e w':=by
 have hbx:=below_alloc w (.cells #[.int .i64 nd,.int .i64 of,.int .i64 sz] 59)
 have HC:=hid (checkPlan_any nd of sz (w.alloc (.cells #[.int .i64 nd,.int .i64 of,.int .i64 sz] 59)))
 have HI:=hid h
 have HBx:=hid hbx
 have hbig:n*8≤140737488351232:=by obtain⟨_,_,_,⟨_,h2⟩,_⟩:=h;exact h2
 clear h hbx
 by_cases hp:planOk nd of sz=true
 ·have e:chkP nd of sz=0:=by unfold chkP;rw[if_pos hp]
  rw[e]at HC;obtain⟨hnd,hof,hsz⟩:=planOk_spec hp;have HPl:=hid hp;clear hp e;unfold planV;go_enter Tryz.func91,Tryz.ntmps91;go_wp2_with fail
  refine HC.out.mono ?_;rintro e w1 ⟨rfl,hb1⟩;have p0:w1.cell? ⟨w.heap.size,0,none⟩=some (.int .i64 nd):=by rw[hb1.cell (by simp)];exact cell_at (heap_alloc_new _ _) rfl
  have p1:w1.cell? ⟨w.heap.size,1,none⟩=some (.int .i64 of):=by rw[hb1.cell (by simp)];exact cell_at (heap_alloc_new _ _) rfl
  have p2:w1.cell? ⟨w.heap.size,2,none⟩=some (.int .i64 sz):=by rw[hb1.cell (by simp)];exact cell_at (heap_alloc_new _ _) rfl
  have HB1:=hid (HBx.out.trans (hb1.mono HBx.out.size));clear hb1;by_cases hn:(n:Int)=sz
  ·subst hn
   have hnn:1≤n∧n≤24:=by omega
   go_wp2;go_loop [23] (fun iv=>∃k:Nat,k≤n∧iv=.int .i64 k∧Hid (numsFrom D n k=numsB n D)) (fun iv=>n-(intOf iv).toNat)
   case atStart=>exact⟨0,Nat.zero_le _,rfl,numsFrom_zero D n⟩
   case round =>
    obtain⟨k,hk,rfl,HF⟩:=hrel;by_cases hlt:k<n
    ·have hki:(k:Int)<(n:Int):=by omega
     have hod:∃bo oo,a=some ⟨bo,oo,none⟩∧w1.cell? ⟨bo,oo+k,none⟩=some (.int .i64 (D k)):=by
      obtain⟨ad,cp',e,_,h2⟩:=HI.out;injection e with e4;subst e4;rcases h2 with h0|⟨bo,oo,rfl,hb,hx⟩;·omega
      exact⟨bo,oo,rfl,by rw[HB1.out.cell hb];exact hx k hlt⟩
     obtain⟨bo,oo,rfl,god⟩:=hod;cases hnm:isNum (D k)with
     |true =>
      go_wp2_with(go_at_call 126;go_must(refine(isNumber_any _ _).mono ?_;rintro e wq ⟨rfl,hwq⟩;subst wq;rw[hnm]))
      go_round
      case rel=>exact⟨k+1,by omega,by go_num,numsFrom_next HF.out hnm⟩
      case measure=>simp only[intOf];omega
     |false =>
      have hnb:=hid (numsFrom_bad hlt HF.out hnm);go_wp2_with(go_at_call 126;go_must(refine(isNumber_any _ _).mono ?_;rintro e wq ⟨rfl,hwq⟩;subst wq;rw[hnm]))
      go_ret2;refine split_err HB1.out ?_ (by decide);unfold splitE;rw[if_pos HPl.out,if_pos rfl,hnb.out,if_neg (by decide)]
    have hke:k=n:=by omega
    subst hke;have hnb:=numsFrom_end HF.out;have hes:splitE nd of (k:Int) k D=0:=by
     unfold splitE;rw[if_pos HPl.out,if_pos rfl,if_pos hnb]
    obtain⟨_,_,hD⟩:=splitE_ok hes;obtain⟨d,rfl⟩:∃d:Nat,nd=d:=⟨nd.toNat,by omega⟩;obtain⟨m,rfl⟩:∃m:Nat,of=m:=⟨of.toNat,by omega⟩;obtain⟨R,hR⟩:∃R:Nat,rowsN (d:Int) (k:Int)=R:=⟨_,rfl⟩;have hrb:=rowsN_bd hnd hsz;rw[hR]at hrb;have hRR:1≤R∧R≤24:=by omega
    have HSo:Hid (∀w' j,Below w.heap.size w w'→j<m→Calls Tryz.prog 96 #[.agg #[.int .i64 (d:Int),.int .i64 (m:Int),.int .i64 (k:Int)],.slice a k cp,.int .i64 (j:Int)] w' fun e w''=>ShareIs w' w'' j R (fun r=>shv d k D j r) e):=fun w' j hb' hj =>
     shareOf_any d m k (k:Int) a cp D j w' HPl.out hD (by omega) (by omega) hR (HI.out.up hb')
    have HES:=hid hes;have HR:=hid hR;obtain⟨ii,hi,hz0,hz1,hz2⟩:=info_parts Tryz.infoShare;have KP:Hid (∀w',Below w1.heap.size w1 w'→w'.cell? ⟨w.heap.size,0,none⟩=some (.int .i64 (d:Int))∧w'.cell? ⟨w.heap.size,1,none⟩=some (.int .i64 (m:Int))∧w'.cell? ⟨w.heap.size,2,none⟩=some (.int .i64 (k:Int))):=fun w' hb' =>
     ⟨by rw[hb'.cell (cell_lt p0)];exact p0,by rw[hb'.cell (cell_lt p1)];exact p1,by rw[hb'.cell (cell_lt p2)];exact p2⟩
    clear hnb hes hD hR hrb HF;go_wp2;go_loopw [9,33] (fun vo iv wr=>∃(j:Nat) (V:Nat→Value),j≤m∧iv=.int .i64 j∧Hid (OwnS w1 wr vo j (fun k=>(k:Int)) V)∧Hid (∀i,i<j→IntSl wr wr.heap.size (V i) R (fun r=>shv d k D i r)∧Off vo (V i))) (fun _ iv _=>m-(intOf iv).toNat)
    case atStart=>exact⟨0,fun _=>.bool false,Nat.zero_le _,rfl,OwnS.nil _ _ _,fun i hi=>by omega⟩
    case round =>
     obtain⟨j,V,hj,rfl,OW,IW⟩:=hrel;by_cases hjm:j<m
     ·have hji:(j:Int)<(m:Int):=by omega
      obtain⟨q0,q1,q2⟩:=KP.out wr OW.out.2;have HBr:=hid (HB1.out.trans (OW.out.2.mono HB1.out.size));go_wp2_with fail
      refine Calls.mono (HSo.out wr j HBr.out hjm) ?_;rintro e w3 ⟨Vn,rfl,hvn,hb3,hab⟩;have O3:=hid (OW.out.up hb3);have I3:Hid (∀i,i<j→IntSl w3 w3.heap.size (V i) R (fun r=>shv d k D i r)):=fun i hi=>(IW.out i hi).1.up hb3;have HAb:=hid hab;have HVn:=hid hvn;obtain⟨av,cv,hve,_,_⟩:=hvn;subst hve;clear hb3 hab;unfold shareV
      go_wp2_with(at_builtin;go_must(refine wpList_append_own_at _ rfl (.tmp 36) (.tmp 41) 103 rfl w1.heap.size 81 ii (.agg #[.int .i64 0,.slice none 0 0]) 2 32 Tryz.underlying103 hi hz0 hz1 hz2 rfl (by decide) _ _ _ rfl (World.ownsRow.alloc O3.out.1 _) ⟨_,0,none⟩ 1 1 [.int .i64 (j:Int),.slice av R cv] rfl rfl (cells_two _ _ _ _) (by intro u hu;simp at hu;rcases hu with rfl|rfl<;>rfl) (by unfold maxLen;omega) (by omega) (by have:=O3.out.2.size;simp;omega) ?_;intro v1 w4 ho4 hg4 _ hat4;have HO4:=hid ho4;have HG4:=hid hg4;have HA4:=hid hat4;clear ho4 hg4 hat4))
      go_roundw
      case rel =>
       have o4:=O3.out.pushS (N':=fun k=>(k:Int)) (V':=fun i=>if i<j then V i else .slice av R cv) HO4.out HG4.out (fun i hi=>⟨rfl,by rw[if_pos hi]⟩) rfl (by rw[if_neg (Nat.lt_irrefl _)]);refine⟨j+1,_,by omega,by go_num,o4,fun i hi=>?_⟩;by_cases hij:i<j
       ·rw[if_pos hij]
        exact off_step hRR.1 (I3.out i hij) (IW.out i hij).2 HG4.out HA4.out
       obtain rfl:i=j:=by omega
       rw[if_neg (Nat.lt_irrefl _)];exact off_step hRR.1 HVn.out (off_new OW.out HAb.out) HG4.out HA4.out
      case measure=>simp only[intOf];omega
     have hje:j=m:=by omega
     subst hje;have q1:=(KP.out wr OW.out.2).2.1;go_wp2;go_ret2;refine⟨HB1.out.trans (OW.out.2.mono HB1.out.size),_,j,V,by rw[HES.out];rfl,?_,?_⟩;·rw[HES.out,if_pos rfl]
     rw[HR.out,Int.toNat_natCast];exact OW.out.shl (by omega) (fun i hi=>(IW.out i hi).1)
  have hne:((n:Int) != sz)=true:=by simpa using hn
  have hes:splitE nd of sz n D=3:=by unfold splitE;rw[if_pos HPl.out,if_neg hn]
  have HES:=hid hes;clear hes hn;go_wp2;go_ret2;exact split_err HB1.out HES.out (by decide)
 ·have e:chkP nd of sz=2:=by unfold chkP;rw[if_neg hp]
  rw[e]at HC;have hes:splitE nd of sz n D=2:=by unfold splitE;rw[if_neg hp]
  have HES:=hid hes;clear hes hp e;unfold planV;go_enter Tryz.func91,Tryz.ntmps91;go_wp2_with(go_at_call 124;go_must(refine HC.out.mono ?_;rintro e w1 ⟨rfl,hb1⟩;have HB1:=hid (HBx.out.trans (hb1.mono HBx.out.size));clear hb1))
  go_ret2;exact split_err HB1.out HES.out (by decide)
end Go.Proofs.YtajmnlhfnhbleaaGreat
