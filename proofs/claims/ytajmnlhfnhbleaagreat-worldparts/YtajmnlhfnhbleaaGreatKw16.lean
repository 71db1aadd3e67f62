/- Several texts of one proof, in their order. -/
import Derived.Test.YtajmnlhfnhbleaaGreatKw14
import Derived.Laws.CopyOwn
namespace Go.Proofs.YtajmnlhfnhbleaaGreat
open Go.RowKit
set_option linter.unusedVariables false
set_option maxHeartbeats 2000000
set_option maxRecDepth 10000
section
def CRow(w:World)(g:Nat)(T:TypeId)(sz k:Nat)(C:Nat→Value):Prop :=
 ∃cs:Array Value,w.heap[g]?=some (.cells cs T (0,0))∧cs.size=sz∧∀i,i<k→cs[i]?=some (C i)
section
variable {w w' : World} {g : Nat} {T : TypeId} {sz k : Nat} {C : Nat → Value}
theorem CRow.lt(h:CRow w g T sz k C):g<w.heap.size:=by
 obtain⟨cs,h1,_⟩:=h;exact(Array.getElem?_eq_some_iff.1 h1).1
theorem CRow.up(h:CRow w g T sz k C)(hb:Below w.heap.size w w'):CRow w' g T sz k C:=by
 obtain⟨cs,h1,h2⟩:=h;exact⟨cs,stayB h1 hb,h2⟩
theorem CRow.below{B:Nat}(h:CRow w g T sz k C)(hb:Below B w w')(hg:g<B):CRow w' g T sz k C:=by
 obtain⟨cs,h1,h2⟩:=h;exact⟨cs,by rw[hb.block _ hg];exact h1,h2⟩
theorem CRow.room(h:CRow w g T sz k C){i:Nat}(hi:i<sz):(∃u,w.cell? ⟨g,i,none⟩=some u)∧w.frozen? ⟨g,i,none⟩=false:=by
 obtain⟨cs,h1,h2,h3⟩:=h;exact⟨⟨cs[i]'(by omega),cell_at h1 (by simp[show i<cs.size by omega])⟩,frozen_at h1⟩
theorem CRow.free(h:CRow w g T sz k C)(i:Nat):w.frozen? ⟨g,i,none⟩=false:=by
 obtain⟨cs,h1,h2,h3⟩:=h;exact frozen_at h1
theorem CRow.cell(h:CRow w g T sz k C){i:Nat}(hi:i<k):w.cell? ⟨g,i,none⟩=some (C i):=by
 obtain⟨cs,h1,h2,h3⟩:=h;exact cell_at h1 (h3 i hi)
theorem CRow.put(h:CRow w g T sz k C)(hk:k<sz){u:Value}(hu:u=C k):CRow (w.setCell ⟨g,k,none⟩ u) g T sz (k+1) C:=by
 obtain⟨cs,h1,h2,h3⟩:=h;refine⟨cs.setIfInBounds k u,by simp[World.setCell,Array.getElem?_modify,h1],by simpa using h2,fun i hi=>?_⟩;rw[Array.getElem?_setIfInBounds];by_cases e:k=i
 ·subst e
  rw[if_pos rfl,if_pos (by omega),hu]
 rw[if_neg e];exact h3 i (by omega)
theorem CRow.other(h:CRow w g T sz k C){g' o:Nat}(hg:g≠g')(u:Value):CRow (w.setCell ⟨g',o,none⟩ u) g T sz k C:=by
 obtain⟨cs,h1,h2⟩:=h;exact⟨cs,by rw[Below.heap_setCell _ _ _ _ (by show g≠g';exact hg)];exact h1,h2⟩
theorem CRow.congr(h:CRow w g T sz k C){C':Nat→Value}(e:∀i,i<k→C i=C' i):CRow w g T sz k C':=by
 obtain⟨cs,h1,h2,h3⟩:=h;exact⟨cs,h1,h2,fun i hi=>by rw[h3 i hi,e i hi]⟩
theorem CRow.made{B n size:Nat}{z:Value}(ho:w.ownsRow B T size (.slice (some ⟨g,0,none⟩) n n) n (madeCells z.cells (n*size)).toList)(C:Nat→Value):CRow w g T (n*size) 0 C:=by
 obtain⟨hl,h2⟩:=ho;rcases h2 with⟨h1,_⟩|⟨g',cap,cur,hv,_,hh,hc1,hc2,hsz,hcur⟩;·cases h1
 injection hv with e1 _ e3;injection e1 with e1;injection e1 with e1;subst e1 e3;exact⟨cur,hh,hsz,fun i hi=>by omega⟩
theorem CRow.three(h:CRow w g T sz (k*3) C)(hk:k*3+3≤sz){u0 u1 u2:Value}(e0:u0=C (k*3))(e1:u1=C (k*3+1))(e2:u2=C (k*3+2)):CRow (((w.setCell ⟨g,k*3,none⟩ u0).setCell ⟨g,k*3+1,none⟩ u1).setCell ⟨g,k*3+2,none⟩ u2) g T sz ((k+1)*3) C:=by
 have h1:=((h.put (by omega) e0).put (by omega) e1).put (by omega) e2;rw[show(k+1)*3=k*3+1+1+1 by omega];exact h1
end
def cellP(KV:Nat→Value)(P:Ps)(i:Nat):Value:=if i%3=0 then .bool (P.th (i/3))else if i%3=1 then .int .i64 (P.rm (i/3))else KV (i/3)
def cellK(UV:Nat→Value)(t:Kt)(i:Nat):Value:=if i%3=0 then .int .i64 (t.V (i/3))else if i%3=1 then .int .i64 (t.N (i/3))else UV (i/3)
section
variable {KV : Nat → Value} {P : Ps} {UV PV : Nat → Value} {t : Kt} {b : Bk} {k : Nat}
theorem cellP_at:cellP KV P (k*3)=.bool (P.th k)∧cellP KV P (k*3+1)=.int .i64 (P.rm k)∧cellP KV P (k*3+2)=KV k:=by
 unfold cellP;refine⟨?_,?_,?_⟩;·rw[if_pos (by omega),show k*3/3=k by omega]
 ·rw[if_neg (by omega),if_pos (by omega),show(k*3+1)/3=k by omega]
 rw[if_neg (by omega),if_neg (by omega),show(k*3+2)/3=k by omega]
theorem cellK_at:cellK UV t (k*3)=.int .i64 (t.V k)∧cellK UV t (k*3+1)=.int .i64 (t.N k)∧cellK UV t (k*3+2)=UV k:=by
 unfold cellK;refine⟨?_,?_,?_⟩;·rw[if_pos (by omega),show k*3/3=k by omega]
 ·rw[if_neg (by omega),if_pos (by omega),show(k*3+1)/3=k by omega]
 rw[if_neg (by omega),if_neg (by omega),show(k*3+2)/3=k by omega]
theorem cellP_cong{KV':Nat→Value}(h:∀j,j<k→KV j=KV' j):∀i,i<k*3→cellP KV P i=cellP KV' P i:=fun i hi=>by
 unfold cellP;rw[h (i/3) (by omega)]
theorem cellK_cong{UV':Nat→Value}(h:∀j,j<k→UV j=UV' j):∀i,i<k*3→cellK UV t i=cellK UV' t i:=fun i hi=>by
 unfold cellK;rw[h (i/3) (by omega)]
end
section
variable {w : World} {g n m : Nat} {KV : Nat → Value} {P : Ps} {UV PV : Nat → Value} {t : Kt} {b : Bk}
theorem CRow.rowP{sz:Nat}(h:CRow w g 41 sz (n*3) (cellP KV P)):RowP w g n KV P :=
 ⟨fun k hk=>by
  obtain⟨e0,e1,e2⟩:=cellP_at (KV:=KV) (P:=P) (k:=k);exact⟨by rw[h.cell (by omega),e0],by rw[h.cell (by omega),e1],by rw[h.cell (by omega),e2]⟩,fun i _=>h.free i,h.lt⟩
theorem CRow.kel{sz:Nat}(h:CRow w g 83 sz (m*3) (cellK UV t))(hr:m*40≤140737488351232)(hi:∀j,j<m→IntSl w w.heap.size (UV j) (t.L j) (t.X j)):KeSl w w.heap.size (.slice (some ⟨g,0,none⟩) m m) m UV t:=by
 refine⟨_,_,rfl,⟨Nat.le_refl _,hr⟩,Or.inr ⟨g,0,rfl,h.lt,fun j hj=>?_⟩⟩;obtain⟨e0,e1,e2⟩:=cellK_at (UV:=UV) (t:=t) (k:=j);rw[Nat.zero_add];exact⟨by rw[h.cell (by omega),e0],by rw[h.cell (by omega),e1],by rw[h.cell (by omega),e2],hi j hj⟩
theorem CRow.newV{T:TypeId}{sz k n c:Nat}{C:Nat→Value}{B:Nat}(h:CRow w g T sz k C)(hB:B≤g):NewV B w (.slice (some ⟨g,0,none⟩) n c):=by
 obtain⟨cs,h1,_⟩:=h;exact newV_block h1 hB
theorem KeSl.ahead{w:World}{g o B:Nat}{v:Value}{m:Nat}{UV:Nat→Value}{t:Kt}(h:KeSl w B v m UV t)(ha:Above (g+1) v)(hu:∀j,j<m→Above (g+1) (UV j))(u:Value):KeSl (w.setCell ⟨g,o,none⟩ u) B v m UV t:=by
 obtain⟨ad,cap,rfl,h0,h2⟩:=h;refine⟨ad,cap,rfl,h0,?_⟩;rcases h2 with h2|⟨bl,off,rfl,h4,h5⟩;·exact Or.inl h2
 have hg:g+1≤bl:=ha _ _ _ rfl;refine Or.inr ⟨bl,off,rfl,h4,fun j hj=>?_⟩;obtain⟨g1,g2,g3,g4⟩:=h5 j hj;exact⟨by rw[cell_set_lit (Or.inl (by omega))];exact g1,by rw[cell_set_lit (Or.inl (by omega))];exact g2,by rw[cell_set_lit (Or.inl (by omega))];exact g3,g4.set (hu j hj) o u⟩
theorem VeSl.ahead{w:World}{g gv o B:Nat}{n c:Nat}{PV:Nat→Value}{b:Bk}(h:VeSl w B (.slice (some ⟨gv,0,none⟩) n c) n PV b)(hg:gv≠g)(hu:∀j,j<n→Above (g+1) (PV j))(u:Value):VeSl (w.setCell ⟨g,o,none⟩ u) B (.slice (some ⟨gv,0,none⟩) n c) n PV b:=by
 obtain⟨ad,cap,e,h0,h2⟩:=h;injection e with e1 _ e3;subst e1 e3;refine⟨_,_,rfl,h0,?_⟩;rcases h2 with h2|⟨bl,off,e,h4,h5⟩;·exact Or.inl h2
 injection e with e;injection e with e5 e6;subst e5 e6;refine Or.inr ⟨_,_,rfl,h4,fun j hj=>?_⟩;obtain⟨x0,x1,x2,x3,x4⟩:=h5 j hj;exact⟨by rw[cell_set_lit (Or.inl hg)];exact x0,by rw[cell_set_lit (Or.inl hg)];exact x1,by rw[cell_set_lit (Or.inl hg)];exact x2,by rw[cell_set_lit (Or.inl hg)];exact x3,x4.set (hu j hj) o u⟩
def NewB(B C:Nat)(w:World)(v:Value):Prop:=∀ad n c,v=.slice (some ad) n c→B≤ad.block∧ad.block<C∧∀i,w.frozen? ⟨ad.block,i,none⟩=false
theorem NewB.below{B C:Nat}{w w':World}{v:Value}(h:NewB B C w v)(hb:Below C w w'):NewB B C w' v:=fun ad n c e=>by
 obtain⟨h1,h2,h3⟩:=h ad n c e;exact⟨h1,h2,fun i=>by rw[←h3 i];exact World.frozen?_of_block (hb.block _ h2)⟩
theorem NewB.mono{B C C':Nat}{w:World}{v:Value}(h:NewB B C w v)(hc:C≤C'):NewB B C' w v:=fun ad n c e=>by
 obtain⟨h1,h2,h3⟩:=h ad n c e;exact⟨h1,by omega,h3⟩
theorem NewB.set{B C:Nat}{w:World}{v:Value}(h:NewB B C w v)(a:Addr)(u:Value):NewB B C (w.setCell a u) v:=fun ad n c e=>by
 obtain⟨h1,h2,h3⟩:=h ad n c e;exact⟨h1,h2,fun i=>by rw[frozen_setN];exact h3 i⟩
theorem NewB.above{B C:Nat}{w:World}{v:Value}(h:NewB B C w v):Above B v:=fun ad n c e=>(h ad n c e).1
theorem NewB.newV{B B' C:Nat}{w:World}{v:Value}(h:NewB B C w v)(hc:C≤w.heap.size)(hb:B'≤B):NewV B' w v:=fun ad n c e=>by
 obtain⟨h1,h2,h3⟩:=h ad n c e;exact⟨by omega,by omega,h3⟩
theorem NewV.newB{B:Nat}{w:World}{v:Value}(h:NewV B w v):NewB B w.heap.size w v:=fun ad n c e=>h ad n c e
end
end
section
variable {P : Program} {D : World → Prop}
theorem anyL_mono{md:Region.Mode}{ops:Array Oper}{sE:Array Bool}{R R':Act→World→Prop}(hR:∀a w,R a w→R' a w):∀(f:Nat) (seen:Array Bool) (a:Act) (w:World),anyL P md ops D sE R f seen a w→anyL P md ops D sE R' f seen a w:=by
 intro f;induction f with
 |zero=>intro seen a w h;exact⟨h.1,hR _ _ h.2⟩
 |succ f ih=>intro seen a w h;exact⟨h.1,fun i hi=>wpOp_ends (fun a' w' h'=>⟨h'.1,ih _ a' w' h'.2⟩) (h.2 i hi)⟩
theorem region_tree_to{id:Nat}{Q:Exit→Act→World→Prop}{a:Act}{w:World}{l lc:List Oper}(D:World→Prop)(c:Nat)(sE:Array Bool)(f:Nat)(R:Act→World→Prop)(hm:P.follows .mixedOrders=true)(hE:Region.ready .any l.toArray sE=[c])(hE2:Region.ready .any l.toArray (sE.setIfInBounds c true)=[])(hf:f+1=l.length)(hc:pickO l [c]=lc)(hcs:(l[c]?).isSome=true)
 (h:anyL P .any l.toArray D sE R f (Array.replicate l.length false) a w.drew) (hR:∀a' w',R a' w'→wpList P l.toArray Q lc a' w'):(Code.region id l.toArray true).wp P Q a w :=
 region_tree_last D c sE f hm hE hE2 hf hc hcs (anyL_mono hR _ _ _ _ h)
end
def lastP(X:Nat→Int)(i:Nat):Int:=if i=0 then -1 else X (i-1)
def oneV(k:Int)(m:Nat)(X:Nat→Int)(nd of sz:Int):Int:=if parE k X m 0 (-1)=0 then chkP nd of sz else parE k X m 0 (-1)
theorem bkOne(k:Nat)(pv:Value)(m:Nat)(X:Nat→Int)(nd of sz:Int)(w:World)(h:IntSl w w.heap.size pv m X):
 Calls Tryz.prog 135 #[.int .i64 (k:Int),verV pv nd of sz] w fun e w'=>e=.returned (.int .i64 (oneV k m X nd of sz))∧Below w.heap.size w w':=by
 have hbA:=below_alloc w (.cells #[pv,.int .i64 nd,.int .i64 of,.int .i64 sz] 61)
 obtain⟨ap,cp,rfl,⟨hcap,hbig⟩,hpc⟩:=h
 obtain⟨W,hW⟩:∃W,w.alloc (.cells #[.slice ap m cp,.int .i64 nd,.int .i64 of,.int .i64 sz] 61)=W:=⟨_,rfl⟩
 rw[hW]at hbA
 have s0:W.cell? ⟨w.heap.size,0,none⟩=some (.slice ap m cp):=by rw[←hW];exact cell_at (heap_alloc_new _ _) rfl
 have s1:W.cell? ⟨w.heap.size,1,none⟩=some (.int .i64 nd):=by rw[←hW];exact cell_at (heap_alloc_new _ _) rfl
 have s2:W.cell? ⟨w.heap.size,2,none⟩=some (.int .i64 of):=by rw[←hW];exact cell_at (heap_alloc_new _ _) rfl
 have s3:W.cell? ⟨w.heap.size,3,none⟩=some (.int .i64 sz):=by rw[←hW];exact cell_at (heap_alloc_new _ _) rfl
 have HBW:=hid hbA
 have HPc:=hid hpc
 obtain⟨ans,hans⟩:∃a,oneV k m X nd of sz=a:=⟨_,rfl⟩
 rw[hans]
 unfold oneV at hans
 have HA:=hid hans
 clear hbA hpc hans
 unfold verV
 go_enter Tryz.func135,Tryz.ntmps135
 go_wp2
 go_loopw [10] (fun iv wz=>∃i:Nat,i≤m∧iv=.int .i64 i∧wz=W∧Hid (parE k X (m-i) i (lastP X i)=parE k X m 0 (-1))) (fun iv _=>m-(intOf iv).toNat)
 case atStart=>exact⟨0,Nat.zero_le _,rfl,rfl,rfl⟩
 case round =>
  obtain⟨i,hi,rfl,hwz,HP⟩:=hrel;subst hwz;by_cases him:i<m
  ·have himi:(i:Int)<(m:Int):=by omega
   rcases HPc.out with h0|⟨bp,op,rfl,hbp,hpx⟩;·omega
   have e0:wr.cell? ⟨bp,op+i,none⟩=some (.int .i64 (X i)):=by rw[HBW.out.cell hbp];exact hpx i him
   have hp:=HP.out;rw[show m-i=(m-(i+1))+1 by omega]at hp;simp only[parE]at hp;obtain⟨x,hxx⟩:∃x,X i=x:=⟨_,rfl⟩;have hlast:lastP X (i+1)=x:=by unfold lastP;rw[if_neg (by omega)];exact hxx
   rw[hxx]at e0 hp;have HLx:=hid hlast;clear hxx hlast;by_cases c1:x<0∨(k:Int)≤x
   ·rw[if_pos c1]at hp
    have hst:=HA.out;rw[←hp,if_neg (by decide)]at hst;have HFin:=hid hst;clear hp hst hpx;by_cases c2:x<0
    ·go_wp2
     go_ret;exact⟨by rw[←HFin.out];rfl,HBW.out⟩
    have c3:(k:Int)≤x:=by omega
    go_wp2;go_ret;exact⟨by rw[←HFin.out];rfl,HBW.out⟩
   rw[if_neg c1]at hp;have c2:¬x<0:=fun h=>c1 (Or.inl h);have c3:¬(k:Int)≤x:=fun h=>c1 (Or.inr h);by_cases h0:i=0
   ·have hz:¬0<(i:Int):=by omega
    rw[show lastP X i = -1 from if_pos h0,if_neg (by omega)]at hp;have HP2:=hid hp;clear hp c1 hpx h0;go_wp2;go_roundw
    case rel=>exact⟨i+1,by omega,by go_num,trivial,by rw[HLx.out];exact HP2.out⟩
    case measure=>simp only[intOf];omega
   have hpos:0<(i:Int):=by omega
   obtain⟨j,rfl⟩:∃j,i=j+1:=⟨i-1,by omega⟩;have e1:wr.cell? ⟨bp,op+j,none⟩=some (.int .i64 (X j)):=by rw[HBW.out.cell hbp];exact hpx j (by omega)
   have hjm:(j:Int)<(m:Int):=by omega
   rw[show lastP X (j+1)=X j from rfl]at hp;obtain⟨y,hyy⟩:∃y,X j=y:=⟨_,rfl⟩;rw[hyy]at e1 hp;clear hpx hyy;by_cases c4:x≤y
   ·rw[if_pos c4]at hp
    have hst:=HA.out;rw[←hp,if_neg (by decide)]at hst;have HFin:=hid hst;clear hp hst c1;go_wp2;go_ret;exact⟨by rw[←HFin.out];rfl,HBW.out⟩
   rw[if_neg c4]at hp;have HP2:=hid hp;clear hp c1;go_wp2;go_roundw
   case rel=>exact⟨j+1+1,by omega,by go_num,trivial,by rw[HLx.out];exact HP2.out⟩
   case measure=>simp only[intOf];omega
  have hie:m=i:=by omega
  subst hie;have hp:=HP.out;rw[Nat.sub_self]at hp;have hp0:parE k X m 0 (-1)=0:=hp.symm;have hst:=HA.out;rw[hp0,if_pos rfl]at hst;have HCk:=hid (shCheck nd of sz wr);rw[hst]at HCk;clear hp hp0 hst;unfold planV at HCk;go_wp2_with fail
  refine Calls.mono HCk.out ?_;rintro e w5 ⟨rfl,hb5⟩;have HB5:=hid (HBW.out.trans (hb5.mono HBW.out.size));clear hb5;go_wp2;go_ret;exact⟨rfl,HB5.out⟩
theorem bkCheck(v:Value)(n:Nat)(PV:Nat→Value)(b:Bk)(w:World)(h:VeSl w w.heap.size v n PV b):
 Calls Tryz.prog 100 #[bookV v] w fun e w'=>e=.returned (.int .i64 (bookE n b))∧Below w.heap.size w w':=by
 obtain⟨ad,cap,rfl,⟨hcap,hbig⟩,hx⟩:=h
 have hbx:=below_alloc w (.cells #[.slice ad n cap] 24)
 have HBx:=hid hbx
 have HX:=hid hx
 obtain⟨ans,hans⟩:∃a,bookE n b=a:=⟨_,rfl⟩
 rw[hans]
 unfold bookE at hans
 clear hbx hx
 unfold bookV
 by_cases hn:n≤12
 ·rw[if_pos hn]at hans
  have HA:=hid hans;have hni:(n:Int)≤12:=by omega
  clear hans;go_enter Tryz.func100,Tryz.ntmps100;go_wp2;go_loopw [13] (fun iv wr=>∃k:Nat,k≤n∧iv=.int .i64 k∧Hid (Below w.heap.size w wr)∧Hid (scanV b (n-k) k=ans)) (fun iv _=>n-(intOf iv).toNat)
  case atStart=>exact⟨0,Nat.zero_le _,rfl,HBx,HA⟩
  case round =>
   obtain⟨k,hk,rfl,HB,HS⟩:=hrel;by_cases hlt:k<n
   ·have hki:(k:Int)<(n:Int):=by omega
    rcases HX.out with h0|⟨bl,off,rfl,hbl,hx⟩;·omega
    obtain⟨x0,x1,x2,x3,x4⟩:=hx k hlt;have hstep:=HS.out;rw[show n-k=(n-(k+1))+1 by omega]at hstep;simp only[scanV]at hstep;have HI:Hid (∀w',Below w.heap.size w w'→IntSl w' w'.heap.size (PV k) (b.PL k) (b.PX k)):=fun w' hb=>x4.up hb;obtain⟨ap,cp,hpe,_,_⟩:=x4;rw[hpe]at x0 HI;have g0:wr.cell? ⟨bl,off+k*4,none⟩=some (.slice ap (b.PL k) cp):=by rw[HB.out.cell hbl];exact x0
    have g1:wr.cell? ⟨bl,off+k*4+1,none⟩=some (.int .i64 (b.nd k)):=by rw[HB.out.cell hbl];exact x1
    have g2:wr.cell? ⟨bl,off+k*4+2,none⟩=some (.int .i64 (b.of k)):=by rw[HB.out.cell hbl];exact x2
    have g3:wr.cell? ⟨bl,off+k*4+3,none⟩=some (.int .i64 (b.sz k)):=by rw[HB.out.cell hbl];exact x3
    have hbA:=below_alloc wr (.cells #[.slice ap (b.PL k) cp,.int .i64 (b.nd k),.int .i64 (b.of k),.int .i64 (b.sz k)] 61);have HBW:=hid (HB.out.trans (hbA.mono HB.out.size));have HC:=hid (bkOne k _ _ _ (b.nd k) (b.of k) (b.sz k) _ (HI.out _ HBW.out));rw[show oneV k (b.PL k) (b.PX k) (b.nd k) (b.of k) (b.sz k)=verE b k from rfl]at HC;obtain⟨c,hcc⟩:∃c,verE b k=c:=⟨_,rfl⟩;rw[hcc]at HC hstep;clear x0 x1 x2 x3 hx hpe hbA hcc;unfold verV at HC;by_cases hc0:c=0
    ·subst hc0
     rw[if_pos rfl]at hstep;have HNx:=hid hstep;clear hstep;go_wp2_with fail
     refine Calls.mono HC.out ?_;rintro e w5 ⟨rfl,hb5⟩;have HB5:=hid (HBW.out.trans (hb5.mono HBW.out.size));clear hb5;go_wp2;go_roundw
     case rel=>exact⟨k+1,by omega,by go_num,HB5,HNx⟩
     case measure=>simp only[intOf];omega
    rw[if_neg hc0]at hstep;have HFin:=hid hstep;have hcb:(c != 0)=true:=by simpa using hc0
    clear hstep hc0;go_wp2_with fail
    refine Calls.mono HC.out ?_;rintro e w5 ⟨rfl,hb5⟩;have HB5:=hid (HBW.out.trans (hb5.mono HBW.out.size));clear hb5;go_wp2;go_ret;exact⟨by rw[←HFin.out];rfl,HB5.out⟩
   have hke:n=k:=by omega
   subst hke;have hst:=HS.out;rw[Nat.sub_self]at hst;have HFin:Hid ((0:Int)=ans):=hst;clear hst;go_wp2;go_ret;exact⟨by rw[←HFin.out];rfl,HB.out⟩
 ·rw[if_neg hn]at hans
  have HA:=hid hans;have hni:¬(n:Int)≤12:=by omega
  clear hans;go_enter Tryz.func100,Tryz.ntmps100;go_wp2;go_ret;exact⟨by rw[←HA.out];rfl,HBx.out⟩
theorem splice_all{n:Nat}(D:Nat→Int)(j:Nat)(hj:j<n):
 (splice (List.replicate n (Value.int .i64 0)) 0 ((List.range n).map fun j=>Value.int .i64 (D j)))[j]?=some (.int .i64 (D j)):=by
 unfold splice
 simp only[List.take_zero,List.nil_append]
 rw[List.getElem?_append_left (by simpa using hj)]
 simp[hj]
theorem copy_all2{w0 w:World}{g m cp:Nat}{a:Option Addr}{D:Nat→Int}(hg:w.heap[g]?=some (.cells (List.replicate m (Value.int .i64 0)).toArray 3 (0,0)))(h:IntSl w w.heap.size (.slice a m cp) m D)(hb0:Below g w0 w):
 ∃w',(Builtin.copy_ #[28,28] 3 #[.slice (some ⟨g,0,none⟩) m m,.slice a m cp]).run Tryz.prog w=.ok (.int .i64 (m:Int)) w'∧(∀j,j<m→w'.cell? ⟨g,j,none⟩=some (.int .i64 (D j)))∧Below g w0 w'∧∃cs:Array Value,w'.heap[g]?=some (.cells cs 3 (0,0)):=by
 obtain⟨ad,cp',e,_,hx⟩:=h
 injection e with e1
 subst e1
 by_cases hm:m=0
 ·subst hm
  exact⟨w,run_copy_none (P:=Tryz.prog) w 28 28 3 3 _ _ 0 0 0 cp Tryz.underlying28 Tryz.sizeInt rfl,fun j hj=>by omega,hb0,_,hg⟩
 rcases hx with h0|⟨b,o,rfl,hb,hx⟩
 ·omega
 have hsrc:∀j v,((List.range m).map fun j=>Value.int .i64 (D j))[j]?=some v→w.cell? (Addr.add ⟨b,o,none⟩ j)=some v:=fun j v hj=>by
  have hjs:j<m:=by
   rcases Nat.lt_or_ge j m with h|h;·exact h
   rw[List.getElem?_eq_none (by simpa using h)]at hj;cases hj
  simp only[List.getElem?_map,List.getElem?_range hjs,Option.map_some,Option.some.injEq]at hj;rw[Addr.add_lit,hx j hjs,hj]
 have hrun:=run_copy_row (P:=Tryz.prog) w 28 28 3 3 g 0 m m ⟨b,o,none⟩ m cp (List.replicate m (Value.int .i64 0)).toArray 3 ((List.range m).map fun j=>Value.int .i64 (D j)) Tryz.underlying28 Tryz.sizeInt hg (by simp) hsrc (by simp) (fun v hv=>by obtain⟨j,_,rfl⟩:=List.mem_map.1 hv;rfl)
 have hl:(((List.range m).map fun j=>Value.int .i64 (D j)).length:Int)=(m:Int):=by simp
 refine⟨_,by rw[hrun,hl];rfl,fun j hj=>?_,below_setRow hb0 (Nat.le_refl _) _,_,setRow_heap w g _ _ _ _ hg⟩
 refine cell_at (setRow_heap w g _ _ _ _ hg) ?_
 have h1:=splice_all D j hj
 unfold splice at h1
 simpa using h1
theorem four_at{w:World}{g:Nat}{T:TypeId}{u0 u1 u2 u3:Value}(h:w.heap[g]?=some (.cells #[u0,u1,u2,u3] T (0,0))):
 w.cell? ⟨g,0,none⟩=some u0∧w.cell? ⟨g,1,none⟩=some u1∧w.cell? ⟨g,2,none⟩=some u2∧w.cell? ⟨g,3,none⟩=some u3:=⟨cell_at h rfl,cell_at h rfl,cell_at h rfl,cell_at h rfl⟩
theorem four_free{w:World}{g:Nat}{T:TypeId}{u0 u1 u2 u3:Value}(h:w.heap[g]?=some (.cells #[u0,u1,u2,u3] T (0,0))):
 w.frozen? ⟨g,0,none⟩=false∧w.frozen? ⟨g,1,none⟩=false∧w.frozen? ⟨g,2,none⟩=false∧w.frozen? ⟨g,3,none⟩=false:=⟨frozen_at h,frozen_at h,frozen_at h,frozen_at h⟩
def put4(w:World)(g o:Nat)(u0 u1 u2 u3:Value):World:=(((w.setCell ⟨g,o,none⟩ u0).setCell ⟨g,o+1,none⟩ u1).setCell ⟨g,o+2,none⟩ u2).setCell ⟨g,o+3,none⟩ u3
theorem put4_whole{w:World}{g:Nat}{T:TypeId}{v0 v1 v2 v3:Value}(h:w.heap[g]?=some (.cells #[v0,v1,v2,v3] T (0,0)))(u0 u1 u2 u3:Value):(put4 w g 0 u0 u1 u2 u3).heap[g]?=some (.cells #[u0,u1,u2,u3] T (0,0)):=by
 simp[put4,World.setCell,Array.getElem?_modify,h]
theorem below_put4{B:Nat}{w0 w:World}(h:Below B w0 w){g:Nat}(hg:B≤g)(o:Nat)(u0 u1 u2 u3:Value):Below B w0 (put4 w g o u0 u1 u2 u3) :=
 (((h.setCell (p:=⟨g,o,none⟩) hg _).setCell (p:=⟨g,o+1,none⟩) hg _).setCell (p:=⟨g,o+2,none⟩) hg _).setCell (p:=⟨g,o+3,none⟩) hg _
theorem frNumbers(v:Value)(m:Nat)(X:Nat→Int)(w:World)(h:IntSl w w.heap.size v m X):
 Calls Tryz.prog 147 #[v] w fun e w'=>Below w.heap.size w w'∧e=.returned (.slice (some ⟨w.heap.size,0,none⟩) m m)∧IntSl w' w'.heap.size (.slice (some ⟨w.heap.size,0,none⟩) m m) m X∧NewV w.heap.size w' (.slice (some ⟨w.heap.size,0,none⟩) m m):=by
 have HI:=hid h
 obtain⟨ap,cp,rfl,⟨hcap,hbig⟩,hpc⟩:=h
 obtain⟨ii,hii,hz0,hz1,hz2⟩:=info_parts Tryz.infoInt
 clear hpc
 go_enter Tryz.func147,Tryz.ntmps147
 go_wp2_with(at_make;go_must(refine wpList_make_full _ rfl (.tmp 5) (.tmp 5) 28 rfl _ 3 ii (.int .i64 0) 1 Tryz.underlying28 hii hz0 hz1 _ _ _ _ m rfl rfl rfl rfl (by rw[hz2];omega) (by unfold maxLen;omega) (Nat.le_refl _) ?_;intro w1 ho1 hg1;have HB1:=hid (below_of_grown hg1);obtain⟨w2,hrun,hm2,hb2,cs2,hh2⟩:=copy_all2 (made_block ho1) (HI.out.up HB1.out) HB1.out;have HM2:=hid hm2;have HB2:=hid hb2;have HH2:=hid hh2;clear ho1 hg1 hm2 hb2 hh2))
 go_ret
 refine⟨HB2.out,rfl,⟨_,_,rfl,⟨Nat.le_refl _,by omega⟩,?_⟩,newV_block HH2.out (Nat.le_refl _)⟩
 by_cases hm:m=0
 ·exact Or.inl hm
 ·exact Or.inr ⟨_,0,rfl,cell_lt (HM2.out 0 (by omega)),fun j hj=>by rw[Nat.zero_add];exact HM2.out j hj⟩
theorem IntSl.put4{w:World}{g o:Nat}{v:Value}{m:Nat}{X:Nat→Int}(h:IntSl w w.heap.size v m X)(ha:Above (g+1) v)(u0 u1 u2 u3:Value):IntSl (put4 w g o u0 u1 u2 u3) (put4 w g o u0 u1 u2 u3).heap.size v m X:=by
 have hz:(Go.Proofs.YtajmnlhfnhbleaaGreat.put4 w g o u0 u1 u2 u3).heap.size=w.heap.size:=by simp[Go.Proofs.YtajmnlhfnhbleaaGreat.put4,World.setCell]
 rw[hz];unfold Go.Proofs.YtajmnlhfnhbleaaGreat.put4;exact(((h.set ha _ _).set ha _ _).set ha _ _).set ha _ _
theorem drew_belowB(w:World):Below w.heap.size w w.drew:=⟨rfl,rfl,rfl,Nat.le_refl _,fun _ _=>rfl⟩
theorem bkOwn(pv:Value)(m:Nat)(X:Nat→Int)(nd of sz:Int)(w:World)(h:IntSl w w.heap.size pv m X):
 Calls Tryz.prog 115 #[verV pv nd of sz] w fun e w'=>Below w.heap.size w w'∧∃pv',e=.returned (verV pv' nd of sz)∧IntSl w' w'.heap.size pv' m X∧Above w.heap.size pv':=by
 have hbA:=((Below.refl w.heap.size w).alloc (Nat.le_refl _) (.cells #[pv,.int .i64 nd,.int .i64 of,.int .i64 sz] 61)).alloc (by simp) (.cells #[.slice none 0 0,.int .i64 0,.int .i64 0,.int .i64 0] 61)
 have HI:=hid h
 obtain⟨ap,cp,rfl,_,_⟩:=h
 obtain⟨W,hW⟩:∃W,(w.alloc (.cells #[.slice ap m cp,.int .i64 nd,.int .i64 of,.int .i64 sz] 61)).alloc (.cells #[.slice none 0 0,.int .i64 0,.int .i64 0,.int .i64 0] 61)=W:=⟨_,rfl⟩
 rw[hW]at hbA
 have k0:W.heap[w.heap.size]?=some (.cells #[.slice ap m cp,.int .i64 nd,.int .i64 of,.int .i64 sz] 61 (0,0)):=by rw[←hW];exact heap_two_old w _ _
 have k1:W.heap[w.heap.size+1]?=some (.cells #[.slice none 0 0,.int .i64 0,.int .i64 0,.int .i64 0] 61 (0,0)):=by rw[←hW];exact heap_two_new w _ _
 obtain⟨s0,s1,s2,s3⟩:=four_at k0
 have hne:Nonempty (Of (Below W.heap.size W)):=⟨⟨W,Below.refl _ _⟩⟩
 have F0:∀u:Of (Below W.heap.size W),u.val.cell? ⟨w.heap.size,0,none⟩=some (.slice ap m cp):=fun u=>by rw[u.is.cell (cell_lt s0)];exact s0
 have F1:∀u:Of (Below W.heap.size W),u.val.cell? ⟨w.heap.size,1,none⟩=some (.int .i64 nd):=fun u=>by rw[u.is.cell (cell_lt s1)];exact s1
 have F2:∀u:Of (Below W.heap.size W),u.val.cell? ⟨w.heap.size,2,none⟩=some (.int .i64 of):=fun u=>by rw[u.is.cell (cell_lt s2)];exact s2
 have F3:∀u:Of (Below W.heap.size W),u.val.cell? ⟨w.heap.size,3,none⟩=some (.int .i64 sz):=fun u=>by rw[u.is.cell (cell_lt s3)];exact s3
 have HD0:Hid (Below W.heap.size W W.drew):=drew_belowB W
 have CN:=hid (frNumbers _ m X W.drew (HI.out.up (hbA.trans (HD0.out.mono hbA.size))))
 have HBW:=hid hbA
 have HK1:=hid k1
 clear hbA k0 k1 s0 s1 s2 s3
 unfold verV
 go_enter Tryz.func115,Tryz.ntmps115
 go_wp2_with fail
 refine region_mixed_last (Below W.heap.size W) [([0,1,3,4],2)] [5] 6 (by kernel_rfl) (by kernel_rfl) HD0.out ?_
 clear hW
 obtain⟨D0,hD0⟩:∃d,W.drew=d:=⟨_,rfl⟩
 rw[hD0]at HD0 CN ⊢
 clear hD0
 refine mixO_cons ?_
 repeat(go_big_quiet_step (fail))
 refine wpQuiet_nil ?_
 intro K hK
 go_wp2_with fail
 refine Calls.mono CN.out ?_
 rintro e w2 ⟨hb2,rfl,hl2,ha2⟩
 have HB2:=hid (HD0.out.trans (hb2.mono HD0.out.size))
 have HL2:=hid hl2
 have HA2:Hid (Above W.heap.size (.slice (some ⟨D0.heap.size,0,none⟩) m m)):=ha2.above.mono' HD0.out.size
 obtain⟨pq,hpq⟩:∃q,D0.heap.size=q:=⟨_,rfl⟩
 rw[hpq]at HL2 HA2 ⊢
 clear hb2 hl2 ha2 hpq
 go_wp2
 refine⟨rfl,hK _ _ HB2.out ?_⟩
 clear hK K
 refine mixO_last ?_
 repeat(go_big_quiet_step (fail))
 refine wpQuiet_nil ?_
 have hsz:w.heap.size+1<W.heap.size:=(Array.getElem?_eq_some_iff.1 HK1.out).1
 obtain⟨d0,d1,d2,d3⟩:=four_at ((HB2.out.block _ hsz).trans HK1.out)
 obtain⟨f0,f1,f2,f3⟩:=four_free ((HB2.out.block _ hsz).trans HK1.out)
 clear F0 F1 F2 F3 hne
 go_wp2
 have hB3:Below w.heap.size w (put4 w2 (w.heap.size+1) 0 (.slice (some ⟨pq,0,none⟩) m m) (.int .i64 nd) (.int .i64 of) (.int .i64 sz)):=below_put4 (HBW.out.trans (HB2.out.mono HBW.out.size)) (by omega) _ _ _ _ _
 have hH:=put4_whole ((HB2.out.block _ hsz).trans HK1.out) (.slice (some ⟨pq,0,none⟩) m m) (.int .i64 nd) (.int .i64 of) (.int .i64 sz)
 refine bodyPost_ret (results_cell_row rfl _ _ (w.heap.size+1) 61 #[.slice (some ⟨pq,0,none⟩) m m,.int .i64 nd,.int .i64 of,.int .i64 sz] (0,0) _ rfl hH Tryz.underlying61 rfl (by kernel_rfl)) rfl ?_
 exact⟨hB3,_,rfl,HL2.out.put4 (HA2.out.mono' (by omega)) _ _ _ _,HA2.out.mono' (by omega)⟩
end Go.Proofs.YtajmnlhfnhbleaaGreat
