/- Several texts of one proof, in their order. -/
import Derived.Test.YtajmnlhfnhbleaaGreatRSum14
namespace Go.Proofs.YtajmnlhfnhbleaaGreat
open Go.RowKit CurveMath
set_option linter.unusedVariables false
set_option maxHeartbeats 8000000
set_option maxRecDepth 10000
theorem kel_low{w:World}{B g o:Nat}{v:Value}{m:Nat}{UV:Nat→Value}{t:Kt}{a:Option Addr}{n c:Nat}(h:KeSl w B v m UV t)(ho:o<2)(hc:w.cell? ⟨g,o,none⟩=some (.slice a n c))(u:Value):KeSl (w.setCell ⟨g,o,none⟩ u) B v m UV t:=by
 obtain⟨ad,cap,rfl,h0,h2⟩:=h;refine⟨ad,cap,rfl,h0,?_⟩;rcases h2 with h2|⟨b,off,rfl,h4,h5⟩;·exact Or.inl h2
 refine Or.inr ⟨b,off,rfl,h4,fun j hj=>?_⟩;obtain⟨x0,x1,x2,x3⟩:=h5 j hj;refine⟨?_,?_,?_,isl_slice x3 hc u⟩
 ·rw[cell_set_lit]
  ·exact x0
  by_cases e1:b=g;·right;intro e2;rw[e1,e2,hc]at x0;injection x0 with x0;cases x0
  exact Or.inl e1
 ·rw[cell_set_lit]
  ·exact x1
  by_cases e1:b=g;·right;intro e2;rw[e1,e2,hc]at x1;injection x1 with x1;cases x1
  exact Or.inl e1
 rw[cell_set_lit (Or.inr (by omega))];exact x2
def put2(w:World)(g:Nat)(u0 u1:Value):World:=(w.setCell ⟨g,0,none⟩ u0).setCell ⟨g,1,none⟩ u1
theorem put2_whole{w:World}{g:Nat}{T:TypeId}{v0 v1:Value}(h:w.heap[g]?=some (.cells #[v0,v1] T (0,0)))(u0 u1:Value):(put2 w g u0 u1).heap[g]?=some (.cells #[u0,u1] T (0,0)):=by
 simp[put2,World.setCell,Array.getElem?_modify,h]
theorem put2_below{B:Nat}{w w5:World}{g:Nat}{u0 u1:Value}(hb:Below B w w5)(hg:B≤g):Below B w (put2 w5 g u0 u1) :=
 (hb.setCell (p:=⟨g,0,none⟩) hg _).setCell (p:=⟨g,1,none⟩) hg _
theorem put2_size{w:World}{g:Nat}{u0 u1:Value}:(put2 w g u0 u1).heap.size=w.heap.size:=by simp[put2,World.setCell]
theorem kel_put2{w:World}{g:Nat}{T:TypeId}{v:Value}{m:Nat}{UV:Nat→Value}{t:Kt}{a0 a1:Option Addr}{n0 c0 n1 c1:Nat}(hg:w.heap[g]?=some (.cells #[.slice a0 n0 c0,.slice a1 n1 c1] T (0,0)))(h:KeSl w w.heap.size v m UV t)(u0 u1:Value):KeSl (put2 w g u0 u1) (put2 w g u0 u1).heap.size v m UV t:=by
 rw[put2_size];obtain⟨q0,q1⟩:=two_at hg;unfold put2;exact kel_low (kel_low h (by omega) q0 u0) (by omega) (by rw[cell_set_lit (Or.inr (by omega))];exact q1) u1
theorem drew_grown(w:World)(row:Option Nat):w.grownBy w.drew row:=⟨rfl,rfl,rfl,Nat.le_refl _,fun _ _ _=>rfl⟩
theorem isl_bool{w:World}{B g o:Nat}{v:Value}{m:Nat}{X:Nat→Int}{x:Bool}(h:IntSl w B v m X)(hc:w.cell? ⟨g,o,none⟩=some (.bool x))(u:Value):IntSl (w.setCell ⟨g,o,none⟩ u) B v m X:=by
 obtain⟨ad,cap,rfl,h0,h2⟩:=h;refine⟨ad,cap,rfl,h0,?_⟩;rcases h2 with h2|⟨b,off,rfl,h4,h5⟩;·exact Or.inl h2
 refine Or.inr ⟨b,off,rfl,h4,fun j hj=>?_⟩;have h6:=h5 j hj;rw[cell_set_lit];·exact h6
 by_cases e1:b=g
 ·right
  intro e2;rw[e1,e2,hc]at h6;injection h6 with h6;cases h6
 exact Or.inl e1
theorem kel_bool{w:World}{B g o:Nat}{v:Value}{m:Nat}{UV:Nat→Value}{t:Kt}{x:Bool}(h:KeSl w B v m UV t)(hc:w.cell? ⟨g,o,none⟩=some (.bool x))(u:Value):KeSl (w.setCell ⟨g,o,none⟩ u) B v m UV t:=by
 obtain⟨ad,cap,rfl,h0,h2⟩:=h;refine⟨ad,cap,rfl,h0,?_⟩;rcases h2 with h2|⟨b,off,rfl,h4,h5⟩;·exact Or.inl h2
 refine Or.inr ⟨b,off,rfl,h4,fun j hj=>?_⟩;obtain⟨x0,x1,x2,x3⟩:=h5 j hj;have key:∀i z,w.cell? ⟨b,i,none⟩=some z→z≠.bool x→(w.setCell ⟨g,o,none⟩ u).cell? ⟨b,i,none⟩=some z:=fun i z hz hne=>by
  rw[cell_set_lit];·exact hz
  by_cases e1:b=g;·right;intro e2;rw[e1,e2,hc]at hz;injection hz with hz;exact hne hz.symm
  exact Or.inl e1
 refine⟨key _ _ x0 (fun e=>by cases e),key _ _ x1 (fun e=>by cases e),key _ _ x2 (fun e=>?_),isl_bool x3 hc u⟩;obtain⟨a,c,e2,_⟩:=x3;rw[e2]at e;cases e
theorem ve_two{w:World}{B g o:Nat}{T:TypeId}{v:Value}{n:Nat}{PV:Nat→Value}{b:Bk}{a0 a1:Option Addr}{n0 c0 n1 c1:Nat}(hg:w.heap[g]?=some (.cells #[.slice a0 n0 c0,.slice a1 n1 c1] T (0,0)))(h:VeSl w B v n PV b)(ho:o<2)(u:Value):VeSl (w.setCell ⟨g,o,none⟩ u) B v n PV b:=by
 obtain⟨q0,q1⟩:=two_at hg;have q2:w.cell? ⟨g,2,none⟩=none:=by unfold World.cell?;simp[hg]
 have hc:∃a n c,w.cell? ⟨g,o,none⟩=some (.slice a n c):=by
  rcases(show o=0∨o=1 by omega)with rfl|rfl;·exact⟨_,_,_,q0⟩
  exact⟨_,_,_,q1⟩
 obtain⟨a,m,c,hc⟩:=hc;obtain⟨ad,cap,rfl,h0,h2⟩:=h;refine⟨ad,cap,rfl,h0,?_⟩;rcases h2 with h2|⟨bl,off,rfl,h4,h5⟩;·exact Or.inl h2
 refine Or.inr ⟨bl,off,rfl,h4,fun j hj=>?_⟩;obtain⟨x0,x1,x2,x3,x4⟩:=h5 j hj;have key:∀i z,w.cell? ⟨bl,i,none⟩=some (.int .i64 z)→(w.setCell ⟨g,o,none⟩ u).cell? ⟨bl,i,none⟩=some (.int .i64 z):=fun i z hz=>by
  rw[cell_set_lit];·exact hz
  by_cases e1:bl=g;·right;intro e2;rw[e1,e2,hc]at hz;injection hz with hz;cases hz
  exact Or.inl e1
 refine⟨?_,key _ _ x1,key _ _ x2,key _ _ x3,isl_slice x4 hc u⟩;rw[cell_set_lit];·exact x0
 by_cases e1:bl=g
 ·right
  intro e2;rw[e1]at x1;rcases(show o=0∨o=1 by omega)with e3|e3;·rw[e2,e3,Nat.zero_add,q1]at x1;injection x1 with x1;cases x1
  rw[e2,e3,q2]at x1;cases x1
 exact Or.inl e1
theorem ve_put2{w:World}{g:Nat}{T:TypeId}{v:Value}{n:Nat}{PV:Nat→Value}{b:Bk}{a0 a1 a2:Option Addr}{n0 c0 n1 c1 n2 c2:Nat}(hg:w.heap[g]?=some (.cells #[.slice a0 n0 c0,.slice a1 n1 c1] T (0,0)))(h:VeSl w w.heap.size v n PV b)(u1:Value):VeSl (put2 w g (.slice a2 n2 c2) u1) (put2 w g (.slice a2 n2 c2) u1).heap.size v n PV b:=by
 rw[put2_size];unfold put2;exact ve_two (a0:=a2) (n0:=n2) (c0:=c2) (a1:=a1) (n1:=n1) (c1:=c1) (T:=T) (by simp[World.setCell,Array.getElem?_modify,hg]) (ve_two hg h (by omega) _) (by omega) _
theorem ps_put2{w:World}{g:Nat}{T:TypeId}{v:Value}{np:Nat}{KV:Nat→Value}{UV:Nat→Nat→Value}{P:Ps}{a0 a1:Option Addr}{n0 c0 n1 c1:Nat}(hg:w.heap[g]?=some (.cells #[.slice a0 n0 c0,.slice a1 n1 c1] T (0,0)))(h:PsSl w w.heap.size v np KV UV P)(u0 u1:Value):PsSl (put2 w g u0 u1) (put2 w g u0 u1).heap.size v np KV UV P:=by
 obtain⟨q0,q1⟩:=two_at hg;obtain⟨ad,cap,rfl,h0,h2⟩:=h;refine⟨ad,cap,rfl,h0,?_⟩;rcases h2 with h2|⟨bl,off,rfl,h4,h5⟩;·exact Or.inl h2
 refine Or.inr ⟨bl,off,rfl,by rw[put2_size];exact h4,fun j hj=>?_⟩;obtain⟨x0,x1,x2,x3⟩:=h5 j hj;have key:∀i z,w.cell? ⟨bl,i,none⟩=some z→(∀a n c,z≠.slice a n c)∨2≤i→(put2 w g u0 u1).cell? ⟨bl,i,none⟩=some z:=fun i z hz hne=>by
  unfold put2;have hd:∀o,o<2→bl≠g∨i≠o:=fun o ho=>by
   by_cases e1:bl=g
   ·right
    intro e2;rcases hne with hne|hne
    ·rcases(show o=0∨o=1 by omega)with e3|e3
     ·rw[e1,e2,e3,q0]at hz;injection hz with hz;exact hne _ _ _ hz.symm
     rw[e1,e2,e3,q1]at hz;injection hz with hz;exact hne _ _ _ hz.symm
    omega
   exact Or.inl e1
  rw[cell_set_lit (hd 1 (by omega)),cell_set_lit (hd 0 (by omega))];exact hz
 exact⟨key _ _ x0 (Or.inl fun a n c e=>by cases e),key _ _ x1 (Or.inl fun a n c e=>by cases e),key _ _ x2 (Or.inr (by omega)),kel_put2 hg x3 _ _⟩
theorem sh_low{w:World}{B g:Nat}{v:Value}{n:Nat}{N:Nat→Int}{V:Nat→Value}{L:Nat→Nat}{X:Nat→Nat→Int}{a:Option Addr}{m c:Nat}(h:ShSl w B v n N V L X)(hc:w.cell? ⟨g,0,none⟩=some (.slice a m c))(u:Value):ShSl (w.setCell ⟨g,0,none⟩ u) B v n N V L X:=by
 obtain⟨ad,cap,rfl,h0,h2⟩:=h;refine⟨ad,cap,rfl,h0,?_⟩;rcases h2 with h2|⟨b,off,rfl,h4,h5⟩;·exact Or.inl h2
 refine Or.inr ⟨b,off,rfl,h4,fun j hj=>?_⟩;obtain⟨x0,x1,x2⟩:=h5 j hj;refine⟨?_,?_,isl_slice x2 hc u⟩
 ·rw[cell_set_lit]
  ·exact x0
  by_cases e1:b=g;·right;intro e2;rw[e1,e2,hc]at x0;injection x0 with x0;cases x0
  exact Or.inl e1
 rw[cell_set_lit (Or.inr (by omega))];exact x1
structure GvInv(w wr:World)(vb:Value)(av:Option Addr)(g np cap:Nat)(KV:Nat→Value)(UV:Nat→Nat→Value)(P:Ps):Prop where
 below:Below w.heap.size w wr
 box:wr.heap[w.heap.size]?=some (.cells #[vb,.slice av np cap] 27 (0,0))
 out:wr.heap[w.heap.size+1]?=some (.cells #[.slice none 0 0,.slice none 0 0] 27 (0,0))
 row:RowP wr g np KV P
 kept:∀k,k<np→KeSl wr wr.heap.size (KV k) (P.m k) (UV k) (P.t k)
theorem GvInv.up{w wr w':World}{vb:Value}{av:Option Addr}{g np cap:Nat}{KV:Nat→Value}{UV:Nat→Nat→Value}{P:Ps}(h:GvInv w wr vb av g np cap KV UV P)(hb:Below wr.heap.size wr w'):GvInv w w' vb av g np cap KV UV P :=
 ⟨h.below.trans (hb.mono h.below.size),stayB h.box hb,stayB h.out hb,h.row.up hb,fun k hk=>(h.kept k hk).up hb⟩
theorem GvInv.put{w wr:World}{vb:Value}{av:Option Addr}{g np cap q:Nat}{KV:Nat→Value}{UV:Nat→Nat→Value}{P P':Ps}(h:GvInv w wr vb av g np cap KV UV P)(hg:w.heap.size+1<g)(hq:q<np){r:Value}{UR:Nat→Value}(hs:∃a n c,KV q=.slice a n c)(e1:P'.th=P.th)(e2:P'.rm=P.rm)(e3:∀k,k<np→k≠q→P'.m k=P.m k∧P'.t k=P.t k)
 (hr:KeSl wr wr.heap.size r (P'.m q) UR (P'.t q)):GvInv w (wr.setCell ⟨g,q*3+2,none⟩ r) vb av g np cap (fun k=>if k=q then r else KV k) (fun k=>if k=q then UR else UV k) P':=by
 obtain⟨c1,c2,c3⟩:=h.row.cell q hq
 obtain⟨a,n,c,hsl⟩:=hs
 rw[hsl]at c3
 have hz:(wr.setCell ⟨g,q*3+2,none⟩ r).heap.size=wr.heap.size:=by simp[World.setCell]
 refine⟨h.below.setCell (p:=⟨g,q*3+2,none⟩) (by show w.heap.size≤g;omega) r,?_,?_,h.row.put hq r (fun k _=>by rw[e1]) (fun k _=>by rw[e2]),fun k hk=>?_⟩
 ·rw[Below.heap_setCell _ _ _ _ (by show w.heap.size≠g;omega)];exact h.box
 ·rw[Below.heap_setCell _ _ _ _ (by show w.heap.size+1≠g;omega)];exact h.out
 ·rw[hz]
  by_cases e:k=q
  ·subst e
   simp only[if_true];exact kel_slice hr c3 c1 r
  simp only[if_neg e];rw[(e3 k hk e).1,(e3 k hk e).2];exact kel_slice (h.kept k hk) c3 c1 r
theorem GvInv.slices{w wr:World}{vb:Value}{av:Option Addr}{g np cap:Nat}{KV:Nat→Value}{UV:Nat→Nat→Value}{P:Ps}(h:GvInv w wr vb av g np cap KV UV P){q:Nat}(hq:q<np):∃a c,KV q=.slice a (P.m q) c:=by
 obtain⟨a,c,e,_⟩:=h.kept q hq;exact⟨a,c,e⟩
theorem GvInv.fin{w wr:World}{vb:Value}{av:Option Addr}{g np cap:Nat}{KV:Nat→Value}{UV:Nat→Nat→Value}{P:Ps}(h:GvInv w wr vb av g np cap KV UV P){n:Nat}{PV:Nat→Value}{b:Bk}(hv:VeSl w w.heap.size vb n PV b)(ha:1≤np→av=some ⟨g,0,none⟩)(hg:1≤np→w.heap.size+1<g)(hc:np≤cap)(hn:np≤8):
 MeshPost w 0 n b np P (.returned (.tuple #[.agg #[vb,.slice av np cap],.int .i64 0])) (put2 wr (w.heap.size+1) vb (.slice av np cap)):=by
 have hB:Below w.heap.size w (put2 wr (w.heap.size+1) vb (.slice av np cap)):=put2_below h.below (by omega)
 refine⟨hB,vb,.slice av np cap,n,np,PV,KV,UV,rfl,rfl,rfl,hv.up hB,?_⟩
 by_cases h1:1≤np
 ·have hr:RowP (put2 wr (w.heap.size+1) vb (.slice av np cap)) g np KV P:=by
   have hg1:=hg h1;refine⟨fun k hk=>?_,fun i hi=>by unfold put2;rw[frozen_set,frozen_set];exact h.row.free i hi,by rw[put2_size];exact h.row.lt⟩;obtain⟨q1,q2,q3⟩:=h.row.cell k hk;unfold put2;exact⟨by rw[cell_set_lit (Or.inl (by omega)),cell_set_lit (Or.inl (by omega))];exact q1,by rw[cell_set_lit (Or.inl (by omega)),cell_set_lit (Or.inl (by omega))];exact q2,by rw[cell_set_lit (Or.inl (by omega)),cell_set_lit (Or.inl (by omega))];exact q3⟩
  exact hr.sl ha hc (by omega) fun k hk=>kel_put2 h.out (h.kept k hk) _ _
 ·exact⟨av,cap,rfl,⟨hc,by omega⟩,Or.inl (by omega)⟩
theorem adds_store{W U w0:World}{bm n:Nat}{v:Value}{PV:Nat→Value}{b:Bk}(hm:U.heap[bm]?=some (.cells #[.slice none 0 0] 24 (0,0)))(hv:OwnV w0 U v n PV b)(hW:Below W.heap.size W U)(hb:W.heap.size≤bm):
 Below W.heap.size W (U.setCell ⟨bm,0,none⟩ v)∧(U.setCell ⟨bm,0,none⟩ v).heap[bm]?=some (.cells #[v] 24 (0,0))∧(U.setCell ⟨bm,0,none⟩ v).ownsRow w0.heap.size 61 4 v n (flatV n PV b) :=
 ⟨hW.setCell (p:=⟨bm,0,none⟩) hb _,by simp[World.setCell,Array.getElem?_modify,hm],owns_set_other hv.1 (owns_ne hv.1 hm (by decide)) _⟩
theorem flatS_eqv{n:Nat}{N N':Nat→Int}{V V':Nat→Value}(h:∀j,j<n→N j=N' j∧V j=V' j):flatS n N V=flatS n N' V':=by
 unfold flatS;refine List.map_congr_left fun i hi=>?_;have hi2:=List.mem_range.1 hi;obtain⟨h1,h2⟩:=h (i/2) (by omega);unfold cellS;rw[h1,h2]
theorem flatS_snoc(P:Ps)(UV:Nat→Nat→Value)(l:List (Nat×Nat))(k i:Nat):flatS (l++[(k,i)]).length (nL P (l++[(k,i)])) (vaL UV (l++[(k,i)]))=flatS l.length (nL P l) (vaL UV l)++[.int .i64 ((P.t k).N i),UV k i]:=by
 rw[List.length_append,show[(k,i)].length=1 from rfl,flatS_succ];have e1:nL P (l++[(k,i)]) l.length=(P.t k).N i:=by unfold nL;rw[getD_new]
 have e2:vaL UV (l++[(k,i)]) l.length=UV k i:=by unfold vaL;rw[getD_new]
 rw[e1,e2];congr 1;exact flatS_eqv fun j hj=>by unfold nL vaL;rw[getD_old _ _ _ hj];exact⟨rfl,rfl⟩
theorem seenN_snoc(P:Ps)(l:List (Nat×Nat))(k i:Nat)(N:Int):seenN P (l++[(k,i)]) N=(seenN P l N||decide ((P.t k).N i=N)):=by
 unfold seenN;rw[List.any_append];simp
theorem row_ne{wr:World}{base:Nat}{e:TypeId}{size n:Nat}{v:Value}{xs:List Value}{g:Nat}{cs:Array Value}{T:TypeId}{fz:Nat×Nat}(h:wr.ownsRow base e size v n xs)(hb:wr.heap[g]?=some (.cells cs T fz))(hT:T≠e):some g≠v.ownBlock:=by
 obtain⟨_,h2⟩:=h;rcases h2 with⟨rfl,_⟩|⟨g',cap,cur,rfl,_,hh,_⟩;·intro e;cases e
 intro e;injection e with e;subst e;rw[hb]at hh;injection hh with hh;injection hh with _ h3 _;exact hT h3
theorem cells_pr(w:World)(N:Int)(v:Value)(T:TypeId):∀j u,([.int .i64 N,v]:List Value)[j]?=some u→(w.alloc (.cells #[.int .i64 N,v] T)).cell? (Addr.add ⟨w.heap.size,0,none⟩ j)=some u:=by
 intro j u hj;rw[Addr.add_lit];match j,hj with
 |0,hj=>simp at hj;subst hj;exact cell_at (heap_alloc_new _ _) rfl
 |1,hj=>simp at hj;subst hj;exact cell_at (heap_alloc_new _ _) rfl
theorem rest_err{w w':World}{n:Nat}{b:Bk}{np:Nat}{P:Ps}{k c:Int}(hb:Below w.heap.size w w')(hc:verM n b np P k=c)(h0:c≠0):RestPost w n b np P k (.returned (.tuple #[.slice none 0 0,.slice none 0 0,.int .i64 c])) w':=by
 have h1:rsE n b np P k=c:=by unfold rsE;rw[hc,if_neg h0]
 have h2:rsB n b np P k=[]:=by unfold rsB;rw[hc,if_neg h0]
 refine⟨hb,.slice none 0 0,.slice none 0 0,0,by rw[h1],by rw[h1,if_neg h0];rfl,⟨none,0,rfl,⟨Nat.le_refl _,by omega⟩,Or.inl rfl⟩,?_⟩;rw[h2];exact⟨none,0,rfl,⟨Nat.le_refl _,by simp⟩,Or.inl rfl⟩
theorem rest_of{w w1 w':World}{n:Nat}{b:Bk}{np:Nat}{P:Ps}{k:Int}{e:Ending}(hb:Below w.heap.size w w1)(hv:verM n b np P k=0)(h:MostPost w1 (b.nd k.toNat) (b.of k.toNat) (b.sz k.toNat) (thereL P k np).length (nT P (thereL P k np)) (lT P (thereL P k np)) (xT P (thereL P k np)) e w'):RestPost w n b np P k e w':=by
 obtain⟨h1,r,bb,m,h2,h3,h4,h5⟩:=h;refine⟨hb.trans (h1.mono hb.size),r,bb,m,?_,?_,h4,?_⟩;·unfold rsE;rw[if_pos hv];exact h2
 ·unfold rsE;rw[if_pos hv];exact h3
 unfold rsB;rw[if_pos hv];exact h5
theorem seen_hit{P:Ps}{l l':List (Nat×Nat)}{c:Int→Int}{M k i:Nat}{N:Int}(h:∀x,0≤c x∧c x≤(M:Int))(hc:∀x,c x=0↔seenN P l x=false)(hN:(P.t k).N i=N)(hl:l'=if(!seenN P l N)=true then l++[(k,i)]else l):
 (∀x,0≤(if x=N then c N+1 else c x)∧(if x=N then c N+1 else c x)≤((M+1:Nat):Int))∧∀x,(if x=N then c N+1 else c x)=0↔seenN P l' x=false:=by
 have hcN:=h N
 refine⟨fun x=>?_,fun x=>?_⟩
 ·have:=h x
  by_cases e:x=N;·rw[if_pos e];omega
  rw[if_neg e];omega
 ·by_cases e:x=N
  ·subst e
   rw[if_pos rfl];constructor;·intro h9;omega
   intro h9;exfalso;rw[hl]at h9;cases hs:seenN P l x with
   |true=>rw[hs,Bool.not_true,if_neg (by decide),hs]at h9;cases h9
   |false=>rw[hs,Bool.not_false,if_pos rfl,seenN_snoc,hN,decide_eq_true rfl,Bool.or_true]at h9;cases h9
  rw[if_neg e,hc x,hl];cases hs:seenN P l N with
  |true=>rw[Bool.not_true,if_neg (by decide)]
  |false=>rw[Bool.not_false,if_pos rfl,seenN_snoc,hN,decide_eq_false (fun h=>e h.symm),Bool.or_false]
theorem nums_hit{T:List Int}{c:Int→Int}{M:Nat}{N:Int}(h:∀x,0≤c x∧c x≤(M:Int))(hc:∀x,c x=0↔T.contains x=false):
 (∀x,0≤(if x=N then c N+1 else c x)∧(if x=N then c N+1 else c x)≤((M+1:Nat):Int))∧∀x,(if x=N then c N+1 else c x)=0↔(T++[N]).contains x=false:=by
 have hcN:=h N
 refine⟨fun x=>?_,fun x=>?_⟩
 ·have:=h x
  by_cases e:x=N;·rw[if_pos e];omega
  rw[if_neg e];omega
 ·by_cases e:x=N
  ·subst e
   rw[if_pos rfl];constructor;·intro h9;omega
   intro h9;simp at h9
  rw[if_neg e,hc x];simp[e]
theorem thAll_has{n:Nat}{b:Bk}{np:Nat}{P:Ps}(h:MeshR n b np P)(ver:Int){k:Nat}(hk:k<np):thAll P ver (k+1)=if(hasK P ver k && !seenN P (thAll P ver k) (numK P ver k))=true then thAll P ver k++[(k,atK P ver k)]else thAll P ver k:=by
 rw[thAll_succ];exact thRow_has (fun i j hij hj=>(h.peer k hk).rise i j hij hj) _
theorem thAll_len{n:Nat}{b:Bk}{np:Nat}{P:Ps}(h:MeshR n b np P)(ver:Int):∀k,k≤np→(thAll P ver k).length≤k:=by
 intro k;induction k with
 |zero=>intro _;exact Nat.le_refl _
 |succ k ih =>
  intro hk;have:=ih (by omega);rw[thAll_has h ver (by omega)];split;·rw[List.length_append];simp;omega
  omega
theorem split_ok{d m s:Nat}{D:Nat→Int}(hp:planOk (d:Int) (m:Int) (s:Int)=true)(hD:∀j,0≤D j∧D j≤30):splitE (d:Int) (m:Int) (s:Int) s D=0:=by
 unfold splitE;rw[if_pos hp,if_pos rfl,if_pos];unfold numsB;refine decide_eq_true fun j _=>?_;have:=hD j;unfold isNum;simp;omega
section
structure ThInv(w wr:World)(vb vl:Value)(P:Ps)(UV:Nat→Nat→Value)(l s:List (Nat×Nat))(vo:Value):Prop where
 below:Below w.heap.size w wr
 box:wr.heap[w.heap.size]?=some (.cells #[vb,vl] 27 (0,0))
 seen:∃cs:Array Value,wr.heap[w.heap.size+1]?=some (.cells cs 126 (0,0))∧cs.size=8∧∀q,q<8→cs[q]?=some (.bool (seenN P s q))
 row:wr.ownsRow (w.heap.size+2) 81 2 vo l.length (flatS l.length (nL P l) (vaL UV l))
section
variable {w wr w' : World} {vb vl : Value} {P : Ps} {UV : Nat → Nat → Value} {l s : List (Nat × Nat)} {vo : Value}
theorem ThInv.up(h:ThInv w wr vb vl P UV l s vo)(hb:Below wr.heap.size wr w'):ThInv w w' vb vl P UV l s vo:=by
 obtain⟨cs,h1,h2,h3⟩:=h.seen;exact⟨h.below.trans (hb.mono h.below.size),stayB h.box hb,⟨cs,stayB h1 hb,h2,h3⟩,owns_below h.row hb⟩
theorem ThInv.mark(h:ThInv w wr vb vl P UV l s vo){k i q:Nat}(hq:q<8)(hN:(P.t k).N i=(q:Int)):ThInv w (wr.setCell ⟨w.heap.size+1,q,none⟩ (.bool true)) vb vl P UV l (s++[(k,i)]) vo:=by
 obtain⟨cs,h1,h2,h3⟩:=h.seen;refine⟨h.below.setCell (p:=⟨w.heap.size+1,q,none⟩) (by show w.heap.size≤w.heap.size+1;omega) _,?_,⟨cs.set! q (.bool true),?_,by simpa using h2,fun x hx=>?_⟩,?_⟩;·rw[Below.heap_setCell _ _ _ _ (by show w.heap.size≠w.heap.size+1;omega)];exact h.box
 ·simp[World.setCell,Array.getElem?_modify,h1]
 ·rw[seenN_snoc,hN]
  by_cases e:x=q
  ·subst e
   simp[h2,hx]
  have e2:¬(q:Int)=(x:Int):=by omega
  rw[decide_eq_false e2,Bool.or_false,←h3 x hx];simp[Ne.symm e]
 exact ownsRow_setCell_below h.row (by show w.heap.size+1<w.heap.size+2;omega) _
theorem ThInv.push(h:ThInv w wr vb vl P UV l s vo){k i:Nat}{v1:Value}{o:Obj}(ho:w'.ownsRow (w.heap.size+2) 81 2 v1 (l.length+1) (flatS l.length (nL P l) (vaL UV l)++[.int .i64 ((P.t k).N i),UV k i]))(hg:(wr.alloc o).grownBy w' vo.ownBlock):ThInv w w' vb vl P UV (l++[(k,i)]) s v1:=by
 have hA:=h.up (below_alloc wr o);obtain⟨cs,h1,h2,h3⟩:=hA.seen;refine⟨hA.below.grown hg hA.below.size (fun g hgg=>Nat.le_trans (by omega) (hA.row.lt g hgg).1),?_,⟨cs,?_,h2,h3⟩,?_⟩;·rw[hg.block _ (Array.getElem?_eq_some_iff.1 hA.box).1 (row_ne hA.row hA.box (by decide))];exact hA.box
 ·rw[hg.block _ (Array.getElem?_eq_some_iff.1 h1).1 (row_ne hA.row h1 (by decide))];exact h1
 rw[flatS_snoc,List.length_append];exact ho
end
theorem there_any(vb vl:Value)(np:Nat)(KV:Nat→Value)(UV:Nat→Nat→Value)(P:Ps)(ver:Int)(w:World)(hvb:∃a n c,vb=.slice a n c)(hl:PsSl w w.heap.size vl np KV UV P)(hn:np≤8)(hm:∀k,k<np→P.m k≤20)(hN:∀k i,k<np→i<P.m k→0≤(P.t k).N i∧(P.t k).N i<8):
 Calls Tryz.prog 70 #[meshV vb vl,.int .i64 ver] w fun e w'=>Below w.heap.size w w'∧∃vo,e=.returned vo∧ShSl w' w'.heap.size vo (thereL P ver np).length (nL P (thereL P ver np)) (vaL UV (thereL P ver np)) (lL P (thereL P ver np)) (xL P (thereL P ver np)):=by
 obtain⟨ab,nb,cb,rfl⟩:=hvb
 have HL:=hid hl
 have HM:=hid hm
 have HN:=hid hN
 obtain⟨al,cl,rfl,_,_⟩:=hl
 obtain⟨ii,hii,hz0,hz1,hz2⟩:=info_parts Tryz.infoShare
 have hb0:=((Below.refl w.heap.size w).alloc (Nat.le_refl _) (.cells #[.slice ab nb cb,.slice al np cl] 27)).alloc (by simp) (.cells #[.bool false,.bool false,.bool false,.bool false,.bool false,.bool false,.bool false,.bool false] 126)
 have k0:=heap_two_old w (.cells #[.slice ab nb cb,.slice al np cl] 27) (.cells #[.bool false,.bool false,.bool false,.bool false,.bool false,.bool false,.bool false,.bool false] 126)
 have k1:=heap_two_new w (.cells #[.slice ab nb cb,.slice al np cl] 27) (.cells #[.bool false,.bool false,.bool false,.bool false,.bool false,.bool false,.bool false,.bool false] 126)
 have J0:Hid (ThInv w _ (.slice ab nb cb) (.slice al np cl) P UV (thAll P ver 0) (thAll P ver 0) (.slice none 0 0)):=⟨hb0,k0,⟨_,k1,rfl,fun q hq=>by
  match q,hq with
  |0,_=>rfl
  |1,_=>rfl
  |2,_=>rfl
  |3,_=>rfl
  |4,_=>rfl
  |5,_=>rfl
  |6,_=>rfl
  |7,_=>rfl⟩,World.ownsRow_nil _ _ _ _⟩
 have c1:=(two_at k0).2
 have HLen:Hid (∀f,f≤np→(thAll P ver f).length≤8):=fun f hf=>once_len (thAll_ok P ver np f hf).once (fun x hx=>by
  obtain⟨h1,h2,_⟩:=(thAll_ok P ver np f hf).at_ x hx;exact HN.out x.1 x.2 h1 h2)
 have HLen2:Hid (∀k f,k<np→f≤P.m k→(thRow P ver k (thAll P ver k) f).length≤8):=fun k f hk hf=>once_len ((thAll_ok P ver np k (by omega)).row hk f hf).once (fun x hx=>by
  obtain⟨h1,h2,_⟩:=((thAll_ok P ver np k (by omega)).row hk f hf).at_ x hx;exact HN.out x.1 x.2 h1 h2)
 clear hb0 k0 k1 hm hN
 unfold meshV thereL
 go_enter Tryz.func70,Tryz.ntmps70
 go_wp2
 clear c1
 go_loopw [5,14] (fun vo kv wr=>∃k:Nat,k≤np∧kv=.int .i64 k∧Hid (ThInv w wr (.slice ab nb cb) (.slice al np cl) P UV (thAll P ver k) (thAll P ver k) vo)) (fun _ kv _=>np-(intOf kv).toNat)
 case atStart=>exact⟨0,Nat.zero_le _,rfl,J0⟩
 case round =>
  obtain⟨k,hk,rfl,J⟩:=hrel;by_cases hlt:k<np
  ·have hki:(k:Int)<(np:Int):=by omega
   obtain⟨bl,off,rfl,hbl,g0,g1,g2,g3⟩:=(HL.out.up J.out.below).at hlt;have G3:=hid g3;obtain⟨ak,ck,hke,_,_⟩:=g3;rw[hke]at g2 G3;have hbA:=below_alloc wr (.cells #[.bool (P.th k),.int .i64 (P.rm k),.slice ak (P.m k) ck] 41);have kp:=heap_alloc_new wr (.cells #[.bool (P.th k),.int .i64 (P.rm k),.slice ak (P.m k) ck] 41);have JA:=hid (J.out.up hbA);have KP:=hid kp;have HKe:Hid (∀u,Below w.heap.size w u→KeSl u u.heap.size (.slice ak (P.m k) ck) (P.m k) (UV k) (P.t k)):=fun u hbu=>by
    obtain⟨_,_,_,_,_,_,_,h3⟩:=(HL.out.up hbu).at hlt;rw[hke]at h3;exact h3
   have hm20:=HM.out k hlt;go_wp2;obtain⟨W1,hW1⟩:∃u,wr.alloc (.cells #[.bool (P.th k),.int .i64 (P.rm k),.slice ak (P.m k) ck] 41)=u:=⟨_,rfl⟩;rw[hW1]at JA KP ⊢;obtain⟨bp,hbp⟩:∃g,wr.heap.size=g:=⟨_,rfl⟩;rw[hbp]at KP ⊢;clear g0 g1 g2 hbA kp hke hW1 hbp hbl J G3;obtain⟨w0,hw0⟩:∃w0,wr=w0:=⟨_,rfl⟩;subst hw0;go_loopw [5,21] (fun vo iv wz=>∃i:Nat,i≤P.m k∧iv=.int .i64 i∧Hid (ThInv w wz (.slice ab nb cb) (.slice (some ⟨bl,off,none⟩) np cl) P UV (thRow P ver k (thAll P ver k) i) (thRow P ver k (thAll P ver k) i) vo)∧Hid (wz.heap[bp]?=some (.cells #[.bool (P.th k),.int .i64 (P.rm k),.slice ak (P.m k) ck] 41 (0,0)))) (fun _ iv _=>P.m k-(intOf iv).toNat)
   case atStart=>exact⟨0,Nat.zero_le _,rfl,JA,KP⟩
   case round =>
    obtain⟨i,hi,rfl,JZ,KZ⟩:=hrel;by_cases hil:i<P.m k
    ·have hii2:(i:Int)<(P.m k:Int):=by omega
     obtain⟨b2,o2,rfl,_,x0,x1,x2,x3⟩:=(HKe.out wr JZ.out.below).at hil;obtain⟨au,cu,hue,_,_⟩:=x3;rw[hue]at x2;have hbB:=below_alloc wr (.cells #[.int .i64 ((P.t k).V i),.int .i64 ((P.t k).N i),.slice au ((P.t k).L i) cu] 83);have JB:=hid (JZ.out.up hbB);have KB:=hid (stayB KZ.out hbB);obtain⟨p0,p1,p2⟩:=three_at KB.out;have hNq:=HN.out k i hlt hil;have hst:=thRow_succ P ver k (thAll P ver k) i;have hln:=HLen2.out k i hlt (by omega);obtain⟨l,hl9⟩:∃l,thRow P ver k (thAll P ver k) i=l:=⟨_,rfl⟩;rw[hl9]at hst JB hln;obtain⟨q,hq⟩:∃q:Nat,(P.t k).N i=q:=⟨((P.t k).N i).toNat,by omega⟩;have hq8:q<8:=by omega
     have hqi:(q:Int)<8:=by omega
     obtain⟨cs,s1,s2,s3⟩:=JB.out.seen;have sc:=cell_at (i:=q) s1 (s3 q hq8);have sf:=frozen_at (i:=q) s1;unfold thStep isTh at hst;rw[hq]at hst x1 JB KB p0 p1 p2 sc sf;obtain⟨x,hxx⟩:∃x,(P.t k).V i=x:=⟨_,rfl⟩;rw[hxx]at hst x0 JB KB p0 p1 p2 sc sf;obtain⟨sn,hsn⟩:∃b,seenN P l (q:Int)=b:=⟨_,rfl⟩;rw[hsn]at hst sc;obtain⟨tk,htk⟩:∃b,P.th k=b:=⟨_,rfl⟩;rw[htk]at hst p0;have HQ:=hid hq;have HU:=hid hue;clear hbB s1 s2 s3 hxx hsn hue hl9 hq htk;cases tk with
     |false =>
      rw[Bool.false_and,Bool.false_and,if_neg (by decide)]at hst;have HSt:=hid hst;clear hst;go_wp2;go_roundw
      case rel=>exact⟨i+1,by omega,by go_num,by rw[HSt.out];exact JB.out,KB⟩
      case measure=>simp only[intOf];omega
     |true =>
      rw[Bool.true_and]at hst;by_cases hxv:x=ver
      ·have hxb:(x==ver)=true:=by rw[beq_iff_eq];exact hxv
       rw[decide_eq_true hxv,Bool.true_and]at hst;clear hxv;cases sn with
       |true =>
        rw[Bool.not_true,if_neg (by decide)]at hst;have HSt:=hid hst;clear hst;go_wp2;go_roundw
        case rel=>exact⟨i+1,by omega,by go_num,by rw[HSt.out];exact JB.out,KB⟩
        case measure=>simp only[intOf];omega
       |false =>
        rw[Bool.not_false,if_pos rfl]at hst;have HSt:=hid hst;clear hst;have hsl:w.heap.size+1<wr.heap.size:=by
         obtain⟨cs,s1,_⟩:=JZ.out.seen;exact(Array.getElem?_eq_some_iff.1 s1).1
        have jc:=JB.out.mark hq8 HQ.out;have y0:=heap_alloc_new wr (.cells #[.int .i64 x,.int .i64 (q:Int),.slice au ((P.t k).L i) cu] 83);have y1:((wr.alloc (.cells #[.int .i64 x,.int .i64 (q:Int),.slice au ((P.t k).L i) cu] 83)).setCell ⟨w.heap.size+1,q,none⟩ (.bool true)).heap[wr.heap.size]?=_:=(Below.heap_setCell _ _ _ _ (by show wr.heap.size≠w.heap.size+1;omega)).trans y0;have hpl:bp<wr.heap.size:=(Array.getElem?_eq_some_iff.1 KZ.out).1;have hpn:bp≠w.heap.size+1:=fun e=>by
         obtain⟨cs,s1,_⟩:=JZ.out.seen;have h9:=KZ.out;rw[e,s1]at h9;injection h9 with h9;injection h9 with _ h9 _;exact absurd h9 (by decide)
        have y2:((wr.alloc (.cells #[.int .i64 x,.int .i64 (q:Int),.slice au ((P.t k).L i) cu] 83)).setCell ⟨w.heap.size+1,q,none⟩ (.bool true)).heap[bp]?=_:=(Below.heap_setCell _ _ _ _ hpn).trans KB.out;obtain⟨WC,hWC⟩:∃u,(wr.alloc (.cells #[.int .i64 x,.int .i64 (q:Int),.slice au ((P.t k).L i) cu] 83)).setCell ⟨w.heap.size+1,q,none⟩ (.bool true)=u:=⟨_,rfl⟩;rw[hWC]at jc y1 y2;have JC:=hid jc;have Y2:=hid y2;obtain⟨z0,z1,z2⟩:=three_at y1;have hge:w.heap.size+2≤WC.heap.size:=by
         obtain⟨cs,s1,_⟩:=JC.out.seen;have:=(Array.getElem?_eq_some_iff.1 s1).1;omega
        clear jc y0 y1 y2;go_wp2_with(at_builtin;go_must(refine wpList_append_own _ rfl (.tmp 45) (.tmp 48) 103 rfl (w.heap.size+2) 81 ii (.agg #[.int .i64 0,.slice none 0 0]) 2 32 Tryz.underlying103 hii hz0 hz1 hz2 rfl (by decide) _ _ _ rfl (World.ownsRow.alloc JC.out.row _) ⟨_,0,none⟩ 1 1 [.int .i64 (q:Int),.slice au ((P.t k).L i) cu] rfl rfl (cells_pr _ _ _ _) (by intro u hu;simp at hu;rcases hu with rfl|rfl<;>rfl) (by unfold maxLen;omega) (by omega) (by simp;omega) ?_;intro v1 w6 ho6 hg6 _;have HO6:=hid ho6;have HG6:=hid hg6;clear ho6 hg6))
        have hd:(P.t k).N i=(q:Int):=HQ.out;have J6:=hid (JC.out.push (k:=k) (i:=i) (by rw[hd,HU.out];exact HO6.out) HG6.out);have jA:=JC.out.up (below_alloc WC (.cells #[.int .i64 (q:Int),.slice au ((P.t k).L i) cu] 81));have K6:Hid (w6.heap[bp]?=some (.cells #[.bool (P.th k),.int .i64 (P.rm k),.slice (some ⟨b2,o2,none⟩) (P.m k) ck] 41 (0,0))):=by
         have h8:=stayB Y2.out (below_alloc WC (.cells #[.int .i64 (q:Int),.slice au ((P.t k).L i) cu] 81));show _=_;rw[HG6.out.block _ (Array.getElem?_eq_some_iff.1 h8).1 (row_ne jA.row h8 (by decide))];exact h8
        clear HO6 HG6 jA hd;go_roundw
        case rel=>exact⟨i+1,by omega,by go_num,by rw[HSt.out];exact J6.out,K6⟩
        case measure=>simp only[intOf];omega
      have hxb:(x==ver)=false:=by rw[beq_eq_false_iff_ne];exact hxv
      rw[decide_eq_false hxv,Bool.false_and,if_neg (by decide)]at hst;have HSt:=hid hst;clear hst hxv;go_wp2;go_roundw
      case rel=>exact⟨i+1,by omega,by go_num,by rw[HSt.out];exact JB.out,KB⟩
      case measure=>simp only[intOf];omega
    have hie:P.m k=i:=by omega
    have hil2:¬(i:Int)<(P.m k:Int):=by omega
    have hal:thAll P ver (k+1)=thRow P ver k (thAll P ver k) i:=by rw[thAll_succ,hie]
    have HAl:=hid hal;clear hal;go_wp2;go_roundw
    case rel=>exact⟨k+1,by omega,by go_num,by rw[HAl.out];exact JZ.out⟩
    case measure=>simp only[intOf];omega
  have hke:np=k:=by omega
  subst hke;have hlen:=HLen.out np (Nat.le_refl _);have hsl:ShSl wr wr.heap.size u5 (thAll P ver np).length (nL P (thAll P ver np)) (vaL UV (thAll P ver np)) (lL P (thAll P ver np)) (xL P (thAll P ver np)):=by
   refine OwnS.shl (w0:=w) ⟨owns_base J.out.row (by omega),J.out.below⟩ (by omega) fun j hj=>?_;obtain⟨h1,h2,_⟩:=(thAll_ok P ver np np (Nat.le_refl _)).at_ ((thAll P ver np).getD j (0,0)) (by rw[List.getD_eq_getElem?_getD,List.getElem?_eq_getElem hj];exact List.getElem_mem hj);exact(HL.out.up J.out.below).ints h1 h2
  have HS:=hid hsl;clear hsl;go_wp2;go_ret;exact⟨J.out.below,_,rfl,HS.out⟩
end
end Go.Proofs.YtajmnlhfnhbleaaGreat
