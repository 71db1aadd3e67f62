/- Several texts of one proof, in their order. -/
import Derived.Test.YtajmnlhfnhbleaaGreatKw27
namespace Go.Proofs.YtajmnlhfnhbleaaGreat
open Go.RowKit CurveMath
set_option linter.unusedVariables false
theorem shUpTo(d:Nat)(hd:d≤100)(w:World):
 Calls Tryz.prog 114 #[.int .i64 (d:Int)] w fun e w'=>∃v,e=.returned v∧OwnI w w' v d (fun j=>(j:Int)):=by
 obtain⟨ii,hi,hzz0,hzz1,hzz2⟩:=info_parts Tryz.infoInt
 go_enter Tryz.func114,Tryz.ntmps114
 go_wp2
 go_loopw [3,6] (fun v i wr=>∃k:Nat,k≤d∧i=.int .i64 k∧Hid (OwnI w wr v k (fun j=>(j:Int)))) (fun _ i _=>d-(intOf i).toNat)
 case atStart=>exact⟨0,Nat.zero_le _,rfl,OwnI.nil _ _⟩
 case round =>
  obtain⟨k,hk,rfl,OW⟩:=hrel;by_cases hlt:k<d
  ·have hi2:(k:Int)<(d:Int):=by omega
   go_wp2_with(at_builtin;go_must(refine wpList_append_own _ rfl (.tmp 9) (.tmp 11) 28 rfl w.heap.size 3 ii (.int .i64 0) 1 8 Tryz.underlying28 hi hzz0 hzz1 hzz2 rfl (by decide) _ _ _ rfl (OW.out.owns _ 0) ⟨_,0,none⟩ 1 1 [.int .i64 (k:Int)] rfl rfl (newCell _ _ _) (oneCell _) (by unfold maxLen;omega) (by omega) (by have:=OW.out.2.size;simp;omega) ?_;intro v1 w6 ho6 hg6 _;have O6:=hid (OW.out.pushA _ ho6 hg6 rfl);clear ho6 hg6))
   go_roundw
   case rel=>exact⟨k+1,by omega,by go_num,O6⟩
   case measure=>simp only[intOf];omega
  have he:k=d:=by omega
  subst he;go_wp2;go_ret;exact⟨_,rfl,OW.out⟩
def atF(bx bz:Nat):Value:=.func (.func 145) #[] #[.pointer (some ⟨bx,0,none⟩),.pointer (some ⟨bz,0,none⟩)]
structure AtFn(w:World)(bx bz n:Nat)(X Y:Nat→Int):Prop where
 x:∃a c,w.cell? ⟨bx,0,none⟩=some (.slice a n c)∧IntSl w w.heap.size (.slice a n c) n X
 y:∃a c,w.cell? ⟨bz,0,none⟩=some (.slice a n c)∧IntSl w w.heap.size (.slice a n c) n Y
theorem AtFn.up{w w':World}{bx bz n:Nat}{X Y:Nat→Int}(h:AtFn w bx bz n X Y)(hb:Below w.heap.size w w'):AtFn w' bx bz n X Y:=by
 obtain⟨⟨a1,c1,e1,h1⟩,a2,c2,e2,h2⟩:=h;exact⟨⟨a1,c1,by rw[hb.cell (cell_lt e1)];exact e1,h1.up hb⟩,a2,c2,by rw[hb.cell (cell_lt e2)];exact e2,h2.up hb⟩
structure AtOff(b:Nat)(w:World)(bx bz:Nat):Prop where
 x:bx≠b
 z:bz≠b
 vx:∀v,w.cell? ⟨bx,0,none⟩=some v→v.ownBlock≠some b
 vz:∀v,w.cell? ⟨bz,0,none⟩=some v→v.ownBlock≠some b
theorem IntSl.setOff{w:World}{B b:Nat}{v:Value}{n:Nat}{X:Nat→Int}(h:IntSl w B v n X)(ho:v.ownBlock≠some b)(o:Nat)(u:Value):IntSl (w.setCell ⟨b,o,none⟩ u) B v n X:=by
 obtain⟨ad,cap,rfl,h0,h2⟩:=h;refine⟨ad,cap,rfl,h0,?_⟩;rcases h2 with h2|⟨g,off,rfl,h4,h5⟩;·exact Or.inl h2
 have hb:g≠b:=fun e=>ho (by rw[e];rfl);exact Or.inr ⟨g,off,rfl,h4,fun j hj=>by rw[World.cell?_setCell_other _ _ _ _ (by intro e;injection e with e1;omega)];exact h5 j hj⟩
theorem size_set(w:World)(a:Addr)(u:Value):(w.setCell a u).heap.size=w.heap.size:=by simp[World.setCell]
theorem AtFn.set{w:World}{bx bz n b:Nat}{X Y:Nat→Int}(h:AtFn w bx bz n X Y)(ho:AtOff b w bx bz)(o:Nat)(u:Value):AtFn (w.setCell ⟨b,o,none⟩ u) bx bz n X Y:=by
 obtain⟨⟨a1,c1,e1,h1⟩,a2,c2,e2,h2⟩:=h;have hx:=ho.x;have hz:=ho.z;refine⟨⟨a1,c1,by rw[World.cell?_setCell_other _ _ _ _ (by intro e;injection e with e1;omega)];exact e1,?_⟩,a2,c2,by rw[World.cell?_setCell_other _ _ _ _ (by intro e;injection e with e1;omega)];exact e2,?_⟩;·rw[size_set];exact h1.setOff (ho.vx _ e1) o u
 rw[size_set];exact h2.setOff (ho.vz _ e2) o u
theorem AtOff.set{w:World}{bx bz b b':Nat}(h:AtOff b' w bx bz)(ho:AtOff b w bx bz)(o:Nat)(u:Value):AtOff b' (w.setCell ⟨b,o,none⟩ u) bx bz:=by
 have hx:=ho.x;have hz:=ho.z;refine⟨h.x,h.z,fun v hv=>h.vx v ?_,fun v hv=>h.vz v ?_⟩;·rw[World.cell?_setCell_other _ _ _ _ (by intro e;injection e with e1;omega)]at hv;exact hv
 rw[World.cell?_setCell_other _ _ _ _ (by intro e;injection e with e1;omega)]at hv;exact hv
theorem AtOff.up{w w':World}{bx bz b n:Nat}{X Y:Nat→Int}(h:AtOff b w bx bz)(hf:AtFn w bx bz n X Y)(hb:Below w.heap.size w w'):AtOff b w' bx bz:=by
 obtain⟨⟨a1,c1,e1,_⟩,a2,c2,e2,_⟩:=hf;exact⟨h.x,h.z,fun v hv=>h.vx v (by rw[hb.cell (cell_lt e1)]at hv;exact hv),fun v hv=>h.vz v (by rw[hb.cell (cell_lt e2)]at hv;exact hv)⟩
theorem shThrough(v1 v2:Value)(n:Nat)(X Y:Nat→Int)(w:World)(h1:IntSl w w.heap.size v1 n X)(h2:IntSl w w.heap.size v2 n Y):
 Calls Tryz.prog 113 #[v1,v2] w fun e w'=>e=.returned (atF w.heap.size (w.heap.size+1))∧Below w.heap.size w w'∧AtFn w' w.heap.size (w.heap.size+1) n X Y∧w'.cell? ⟨w.heap.size,0,none⟩=some v1∧w'.cell? ⟨w.heap.size+1,0,none⟩=some v2:=by
 have hb:=((Below.refl w.heap.size w).alloc (Nat.le_refl _) (.cells #[v1] 28)).alloc (by simp) (.cells #[v2] 28)
 have k1:=cell_at (i:=0) (heap_two_old w (.cells #[v1] 28) (.cells #[v2] 28)) rfl
 have k2:=cell_at (i:=0) (heap_two_new w (.cells #[v1] 28) (.cells #[v2] 28)) rfl
 have i1:=h1.up hb
 have i2:=h2.up hb
 obtain⟨a1,c1,rfl,_,_⟩:=h1
 obtain⟨a2,c2,rfl,_,_⟩:=h2
 have HF:Hid (AtFn _ w.heap.size (w.heap.size+1) n X Y):=⟨⟨a1,c1,k1,i1⟩,a2,c2,k2,i2⟩
 have HB:=hid hb
 have HK1:=hid k1
 have HK2:=hid k2
 clear hb k1 k2 i1 i2
 have hmf:∀(fn:Fn) (first cap:Array Value) (w:World),(Instr.makeFunc fn first cap).run Tryz.prog w=.ok (.func fn first cap) w:=fun _ _ _ _=>rfl
 go_enter Tryz.func113,Tryz.ntmps113
 go_wp2
 go_ret
 exact⟨rfl,HB.out,HF.out,HK1.out,HK2.out⟩
theorem shAt(bx bz n:Nat)(X Y:Nat→Int)(t:Int)(w:World)(h:AtFn w bx bz n X Y)(hg:Good n n X Y)(ht:0≤t∧t≤30):
 Calls Tryz.prog 145 #[.int .i64 t,.pointer (some ⟨bx,0,none⟩),.pointer (some ⟨bz,0,none⟩)] w fun e w'=>e=.returned (.int .i64 (crv n X Y t))∧Below w.heap.size w w':=by
 obtain⟨⟨a1,c1,e1,h1⟩,a2,c2,e2,h2⟩:=h
 have HA:=hid (at_up at_spec h1 h2 (chk_mk hg) t ht w (Below.refl _ _))
 clear h1 h2
 generalize crv n X Y t=v at *
 go_enter Tryz.func145,Tryz.ntmps145
 go_wp2_with(go_at_call 146;go_must(refine HA.out.mono ?_;rintro e w1 ⟨rfl,hb1⟩;have HB1:=hid hb1;clear hb1))
 go_ret
 exact⟨rfl,HB1.out⟩
section
theorem splice_pad{n m:Nat}(D:Nat→Int)(hn:n≤m)(j:Nat)(hj:j<m):
 (splice (List.replicate m (Value.int .i64 0)) 0 ((List.range n).map fun j=>Value.int .i64 (D j)))[j]?=some (.int .i64 (padD n D j)):=by
 unfold splice padD
 by_cases h:j<n
 ·rw[if_pos h]
  simp only[List.take_zero,List.nil_append];rw[List.getElem?_append_left (by simpa using h)];simp[h]
 ·rw[if_neg h]
  simp only[List.take_zero,List.nil_append];rw[List.getElem?_append_right (by simpa using h)];simp only[List.length_map,List.length_range,Nat.zero_add,List.drop_replicate];rw[List.getElem?_replicate,if_pos (by omega)]
theorem copy_run{w:World}{g m cm n cp c:Nat}{a:Option Addr}{D:Nat→Int}(hg:w.heap[g]?=some (.cells (List.replicate m (Value.int .i64 0)).toArray 3 (0,0)))(h:IntSl w w.heap.size (.slice a n cp) n D)(hc:c=Nat.min n m)(hc1:1≤c):
 ∃w',(Builtin.copy_ #[28,28] 3 #[.slice (some ⟨g,0,none⟩) m cm,.slice a n cp]).run Tryz.prog w=.ok (.int .i64 (c:Int)) w'∧(∀j,j<m→w'.cell? ⟨g,j,none⟩=some (.int .i64 (padD c D j)))∧(∀j,j<m→w'.frozen? ⟨g,j,none⟩=false)∧∀(B:Nat) (w0:World),Below B w0 w→B≤g→Below B w0 w':=by
 have hcn:c≤n:=by rw[hc];exact Nat.min_le_left _ _
 have hcm:c≤m:=by rw[hc];exact Nat.min_le_right _ _
 obtain⟨ad,cp',e,_,hx⟩:=h
 injection e with e1
 subst e1
 rcases hx with h0|⟨b,o,rfl,hb,hx⟩
 ·omega
 have hsrc:∀j v,((List.range c).map fun j=>Value.int .i64 (D j))[j]?=some v→w.cell? (Addr.add ⟨b,o,none⟩ j)=some v:=fun j v hj=>by
  have hjs:j<c:=by
   rcases Nat.lt_or_ge j c with h|h;·exact h
   rw[List.getElem?_eq_none (by simpa using h)]at hj;cases hj
  simp only[List.getElem?_map,List.getElem?_range hjs,Option.map_some,Option.some.injEq]at hj;rw[Addr.add_lit,hx j (by omega),hj]
 have hrun:=run_copy_row (P:=Tryz.prog) w 28 28 3 3 g 0 m cm ⟨b,o,none⟩ n cp (List.replicate m (Value.int .i64 0)).toArray 3 ((List.range c).map fun j=>Value.int .i64 (D j)) Tryz.underlying28 Tryz.sizeInt hg (by simpa using hc) hsrc (by simpa using hcm) (fun v hv=>by obtain⟨j,_,rfl⟩:=List.mem_map.1 hv;rfl)
 have hl:(((List.range c).map fun j=>Value.int .i64 (D j)).length:Int)=(c:Int):=by simp
 refine⟨_,by rw[hrun,hl];rfl,fun j hj=>?_,fun j hj=>?_,fun B w0 hb0 hBg=>below_setRow hb0 hBg _⟩
 ·refine cell_at (setRow_heap w g _ _ _ _ hg) ?_
  have h1:=splice_pad D hcm j hj;unfold splice at h1;simpa using h1
 ·exact frozen_at (setRow_heap w g _ _ _ _ hg)
structure SpInv(w wr:World)(d m s R n:Nat)(D:Nat→Int)(g0 gl:Nat)(G:Nat→Nat)(kn:Nat)(C:Nat→Nat→Int):Prop where
 below:Below w.heap.size w wr
 p0:wr.cell? ⟨w.heap.size,0,none⟩=some (.int .i64 (d:Int))
 p1:wr.cell? ⟨w.heap.size,1,none⟩=some (.int .i64 (m:Int))
 p2:wr.cell? ⟨w.heap.size,2,none⟩=some (.int .i64 (s:Int))
 whole:∀j,j<R*d→wr.cell? ⟨g0,j,none⟩=some (.int .i64 (padD n D j))
 room:∀i,i<m*2→(∃u,wr.cell? ⟨gl,i,none⟩=some u)∧wr.frozen? ⟨gl,i,none⟩=false
 l0:∀k,k<kn→wr.cell? ⟨gl,k*2,none⟩=some (.int .i64 (k:Int))
 l1:∀k,k<kn→wr.cell? ⟨gl,k*2+1,none⟩=some (.slice (some ⟨G k,0,none⟩) R R)
 row:∀k,k<kn→∀j,j<R→wr.cell? ⟨G k,j,none⟩=some (.int .i64 (C k j))
 free:∀k,k<kn→∀j,j<R→wr.frozen? ⟨G k,j,none⟩=false
 o0:w.heap.size<g0
 ol:g0<gl
 oG:∀k,k<kn→gl<G k
 inj:∀i j,i<kn→j<kn→G i=G j→i=j
section
variable {w wr w' : World} {d m s R n : Nat} {D : Nat → Int} {g0 gl : Nat} {G : Nat → Nat} {kn : Nat} {C : Nat → Nat → Int}
theorem SpInv.up(h:SpInv w wr d m s R n D g0 gl G kn C)(hb:Below wr.heap.size wr w'):SpInv w w' d m s R n D g0 gl G kn C:=by
 refine⟨h.below.trans (hb.mono h.below.size),?_,?_,?_,fun j hj=>?_,fun i hi=>?_,fun k hk=>?_,fun k hk=>?_,fun k hk j hj=>?_,fun k hk j hj=>?_,h.o0,h.ol,h.oG,h.inj⟩;·rw[hb.cell (cell_lt h.p0)];exact h.p0
 ·rw[hb.cell (cell_lt h.p1)];exact h.p1
 ·rw[hb.cell (cell_lt h.p2)];exact h.p2
 ·rw[hb.cell (cell_lt (h.whole j hj))];exact h.whole j hj
 ·obtain⟨⟨u,hu⟩,hf⟩:=h.room i hi
  exact⟨⟨u,by rw[hb.cell (cell_lt hu)];exact hu⟩,by rw[hb.frozen (cell_lt hu)];exact hf⟩
 ·rw[hb.cell (cell_lt (h.l0 k hk))];exact h.l0 k hk
 ·rw[hb.cell (cell_lt (h.l1 k hk))];exact h.l1 k hk
 ·rw[hb.cell (cell_lt (h.row k hk j hj))];exact h.row k hk j hj
 rw[hb.frozen (cell_lt (h.row k hk j hj))];exact h.free k hk j hj
theorem SpInv.congr{C':Nat→Nat→Int}(h:SpInv w wr d m s R n D g0 gl G kn C)(e:∀k j,k<kn→j<R→C k j=C' k j):SpInv w wr d m s R n D g0 gl G kn C' :=
 ⟨h.below,h.p0,h.p1,h.p2,h.whole,h.room,h.l0,h.l1,fun k hk j hj=>by rw[←e k j hk hj];exact h.row k hk j hj,h.free,h.o0,h.ol,h.oG,h.inj⟩
theorem SpInv.set(h:SpInv w wr d m s R n D g0 gl G kn C)(k r:Nat)(hk:k<kn)(hr:r<R)(v:Int):
 SpInv w (wr.setCell ⟨G k,r,none⟩ (.int .i64 v)) d m s R n D g0 gl G kn (fun k' j=>if k'=k∧j=r then v else C k' j):=by
 have hG:=h.oG k hk
 have ho:=h.o0
 have hl:=h.ol
 have oth:∀(a:Addr) (u:Value),a.block<G k→wr.cell? a=some u→(wr.setCell ⟨G k,r,none⟩ (.int .i64 v)).cell? a=some u:=fun a u ha hu=>by
  rw[World.cell?_setCell_other _ _ _ _ (by intro e;rw[←e]at ha;exact Nat.lt_irrefl _ ha)];exact hu
 refine⟨h.below.setCell (p:=⟨G k,r,none⟩) (by show w.heap.size≤G k;omega) _,?_,?_,?_,fun j hj=>?_,fun i hi=>?_,fun k' hk'=>?_,fun k' hk'=>?_,fun k' hk' j hj=>?_,fun k' hk' j hj=>by rw[World.frozen?_setCell];exact h.free k' hk' j hj,h.o0,h.ol,h.oG,h.inj⟩
 ·exact oth _ _ (by show w.heap.size<G k;omega) h.p0
 ·exact oth _ _ (by show w.heap.size<G k;omega) h.p1
 ·exact oth _ _ (by show w.heap.size<G k;omega) h.p2
 ·exact oth _ _ (by show g0<G k;omega) (h.whole j hj)
 ·obtain⟨⟨u,hu⟩,hf⟩:=h.room i hi
  exact⟨⟨u,oth _ _ (by show gl<G k;omega) hu⟩,by rw[World.frozen?_setCell];exact hf⟩
 ·exact oth _ _ (by show gl<G k;omega) (h.l0 k' hk')
 ·exact oth _ _ (by show gl<G k;omega) (h.l1 k' hk')
 ·by_cases e:k'=k∧j=r
  ·obtain⟨rfl,rfl⟩:=e
   rw[if_pos ⟨rfl,rfl⟩];exact World.cell?_setCell_same _ _ _ (h.row k' hk' j hj)
  rw[if_neg e,World.cell?_setCell_other _ _ _ _ (by
   intro e2;injection e2 with e3 e4;exact e ⟨(h.inj k k' hk hk' e3).symm,e4.symm⟩)]
  exact h.row k' hk' j hj
theorem SpInv.push(h:SpInv w wr d m s R n D g0 gl G kn (fun _ _=>0))(hk:kn<m)(hR1:1≤R)(hR:Row wr w' wr.heap.size R (fun _=>0)):
 SpInv w ((w'.setCell ⟨gl,kn*2,none⟩ (.int .i64 (kn:Int))).setCell ⟨gl,kn*2+1,none⟩ (.slice (some ⟨wr.heap.size,0,none⟩) R R)) d m s R n D g0 gl (fun k=>if k=kn then wr.heap.size else G k) (kn+1) (fun _ _=>0):=by
 have h2:=h.up hR.below
 have ho:=h.o0
 have hl:=h.ol
 have hgl:gl<wr.heap.size:=by
  obtain⟨⟨u,hu⟩,_⟩:=h.room 0 (by omega);exact cell_lt hu
 have hGl:∀k,k<kn→0<R→G k<wr.heap.size:=fun k hk hR=>cell_lt (h.row k hk 0 hR)
 have oth:∀(a:Addr) (u:Value),a.block≠gl→w'.cell? a=some u→((w'.setCell ⟨gl,kn*2,none⟩ (.int .i64 (kn:Int))).setCell ⟨gl,kn*2+1,none⟩ (.slice (some ⟨wr.heap.size,0,none⟩) R R)).cell? a=some u:=fun a u ha hu=>by
  rw[World.cell?_setCell_other _ _ _ _ (by intro e;rw[←e]at ha;exact ha rfl),World.cell?_setCell_other _ _ _ _ (by intro e;rw[←e]at ha;exact ha rfl)];exact hu
 have othl:∀(i:Nat) (u:Value),i≠kn*2→i≠kn*2+1→w'.cell? ⟨gl,i,none⟩=some u→((w'.setCell ⟨gl,kn*2,none⟩ (.int .i64 (kn:Int))).setCell ⟨gl,kn*2+1,none⟩ (.slice (some ⟨wr.heap.size,0,none⟩) R R)).cell? ⟨gl,i,none⟩=some u:=fun i u h1 h3 hu=>by
  rw[World.cell?_setCell_other _ _ _ _ (by intro e;injection e with _ e2;omega),World.cell?_setCell_other _ _ _ _ (by intro e;injection e with _ e2;omega)];exact hu
 obtain⟨⟨u0,hu0⟩,hf0⟩:=h2.room (kn*2) (by omega)
 obtain⟨⟨u1,hu1⟩,hf1⟩:=h2.room (kn*2+1) (by omega)
 have c0:((w'.setCell ⟨gl,kn*2,none⟩ (.int .i64 (kn:Int))).setCell ⟨gl,kn*2+1,none⟩ (.slice (some ⟨wr.heap.size,0,none⟩) R R)).cell? ⟨gl,kn*2,none⟩=some (.int .i64 (kn:Int)):=by
  rw[World.cell?_setCell_other _ _ _ _ (by intro e;injection e with _ e2;omega)];exact World.cell?_setCell_same _ _ _ hu0
 have c1:((w'.setCell ⟨gl,kn*2,none⟩ (.int .i64 (kn:Int))).setCell ⟨gl,kn*2+1,none⟩ (.slice (some ⟨wr.heap.size,0,none⟩) R R)).cell? ⟨gl,kn*2+1,none⟩=some (.slice (some ⟨wr.heap.size,0,none⟩) R R) :=
  World.cell?_setCell_same _ _ _ (by rw[World.cell?_setCell_other _ _ _ _ (by intro e;injection e with _ e2;omega)];exact hu1)
 refine⟨(h2.below.setCell (p:=⟨gl,kn*2,none⟩) (by show w.heap.size≤gl;omega) _).setCell (p:=⟨gl,kn*2+1,none⟩) (by show w.heap.size≤gl;omega) _,?_,?_,?_,fun j hj=>?_,fun i hi=>?_,fun k hk'=>?_,fun k hk'=>?_,fun k hk' j hj=>?_,fun k hk' j hj=>?_,h.o0,h.ol,fun k hk'=>?_,fun i j hi hj e=>?_⟩
 ·exact oth _ _ (by show w.heap.size≠gl;omega) h2.p0
 ·exact oth _ _ (by show w.heap.size≠gl;omega) h2.p1
 ·exact oth _ _ (by show w.heap.size≠gl;omega) h2.p2
 ·exact oth _ _ (by show g0≠gl;omega) (h2.whole j hj)
 ·obtain⟨⟨u,hu⟩,hf⟩:=h2.room i hi
  refine⟨?_,by rw[World.frozen?_setCell,World.frozen?_setCell];exact hf⟩;by_cases e1:i=kn*2;·rw[e1];exact⟨_,c0⟩
  by_cases e2:i=kn*2+1;·rw[e2];exact⟨_,c1⟩
  exact⟨u,othl i u e1 e2 hu⟩
 ·by_cases e:k=kn
  ·subst e;exact c0
  exact othl _ _ (by omega) (by omega) (h2.l0 k (by omega))
 ·by_cases e:k=kn
  ·subst e;rw[if_pos rfl];exact c1
  rw[if_neg e];exact othl _ _ (by omega) (by omega) (h2.l1 k (by omega))
 ·by_cases e:k=kn
  ·subst e;rw[if_pos rfl];exact oth _ _ (by show wr.heap.size≠gl;omega) (hR.cell j hj)
  rw[if_neg e];exact oth _ _ (by show G k≠gl;have:=h.oG k (by omega);omega) (h2.row k (by omega) j hj)
 ·rw[World.frozen?_setCell,World.frozen?_setCell]
  by_cases e:k=kn;·subst e;rw[if_pos rfl];exact hR.free j hj
  rw[if_neg e];exact h2.free k (by omega) j hj
 ·by_cases e:k=kn
  ·rw[if_pos e];omega
  rw[if_neg e];exact h.oG k (by omega)
 ·by_cases e1:i=kn
  ·by_cases e2:j=kn
   ·omega
   rw[if_pos e1,if_neg e2]at e;have:=hGl j (by omega) (by omega);omega
  by_cases e2:j=kn
  ·rw[if_neg e1,if_pos e2]at e
   have:=hGl i (by omega) (by omega);omega
  rw[if_neg e1,if_neg e2]at e;exact h.inj i j (by omega) (by omega) e
end
end
end Go.Proofs.YtajmnlhfnhbleaaGreat
