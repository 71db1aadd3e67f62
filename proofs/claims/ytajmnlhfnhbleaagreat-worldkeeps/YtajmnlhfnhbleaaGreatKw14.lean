/- Several texts of one proof, in their order. -/
import Derived.Test.YtajmnlhfnhbleaaGreatKw13
namespace Go.Proofs.YtajmnlhfnhbleaaGreat
open Go.RowKit CurveMath
set_option linter.unusedVariables false
set_option maxHeartbeats 2000000
theorem kel_low{w:World}{B g o:Nat}{v:Value}{m:Nat}{UV:Nat→Value}{t:Kt}{a:Option Addr}{n c:Nat}(h:KeSl w B v m UV t)(ho:o<2)(hc:w.cell? ⟨g,o,none⟩=some (.slice a n c))(u:Value):KeSl (w.setCell ⟨g,o,none⟩ u) B v m UV t:=by
 obtain⟨ad,cap,rfl,h0,h2⟩:=h;refine⟨ad,cap,rfl,h0,?_⟩;rcases h2 with h2|⟨b,off,rfl,h4,h5⟩;·exact Or.inl h2
 refine Or.inr ⟨b,off,rfl,h4,fun j hj=>?_⟩;obtain⟨x0,x1,x2,x3⟩:=h5 j hj;refine⟨?_,?_,?_,isl_slice x3 hc u⟩
 ·rw[cell_set_lit]
  ·exact x0
  by_cases e1:b=g;·right;intro e2;rw[e1,e2,hc]at x0;injection x0 with x0;cases x0
  exact Or.inl e1
 ·rw[cell_set_lit]
  ·exact x1
  by_cases e1:b=g;·right;intro e2;rw[e1,e2,hc]at x1;injection x1 with x1;cases x1
  exact Or.inl e1
 rw[cell_set_lit (Or.inr (by omega))];exact x2
def put2(w:World)(g:Nat)(u0 u1:Value):World:=(w.setCell ⟨g,0,none⟩ u0).setCell ⟨g,1,none⟩ u1
theorem put2_whole{w:World}{g:Nat}{T:TypeId}{v0 v1:Value}(h:w.heap[g]?=some (.cells #[v0,v1] T (0,0)))(u0 u1:Value):(put2 w g u0 u1).heap[g]?=some (.cells #[u0,u1] T (0,0)):=by
 simp[put2,World.setCell,Array.getElem?_modify,h]
theorem put2_below{B:Nat}{w w5:World}{g:Nat}{u0 u1:Value}(hb:Below B w w5)(hg:B≤g):Below B w (put2 w5 g u0 u1) :=
 (hb.setCell (p:=⟨g,0,none⟩) hg _).setCell (p:=⟨g,1,none⟩) hg _
theorem put2_size{w:World}{g:Nat}{u0 u1:Value}:(put2 w g u0 u1).heap.size=w.heap.size:=by simp[put2,World.setCell]
theorem kel_put2{w:World}{g:Nat}{T:TypeId}{v:Value}{m:Nat}{UV:Nat→Value}{t:Kt}{a0 a1:Option Addr}{n0 c0 n1 c1:Nat}(hg:w.heap[g]?=some (.cells #[.slice a0 n0 c0,.slice a1 n1 c1] T (0,0)))(h:KeSl w w.heap.size v m UV t)(u0 u1:Value):KeSl (put2 w g u0 u1) (put2 w g u0 u1).heap.size v m UV t:=by
 rw[put2_size];obtain⟨q0,q1⟩:=two_at hg;unfold put2;exact kel_low (kel_low h (by omega) q0 u0) (by omega) (by rw[cell_set_lit (Or.inr (by omega))];exact q1) u1
theorem drew_grown(w:World)(row:Option Nat):w.grownBy w.drew row:=⟨rfl,rfl,rfl,Nat.le_refl _,fun _ _ _=>rfl⟩
theorem isl_bool{w:World}{B g o:Nat}{v:Value}{m:Nat}{X:Nat→Int}{x:Bool}(h:IntSl w B v m X)(hc:w.cell? ⟨g,o,none⟩=some (.bool x))(u:Value):IntSl (w.setCell ⟨g,o,none⟩ u) B v m X:=by
 obtain⟨ad,cap,rfl,h0,h2⟩:=h;refine⟨ad,cap,rfl,h0,?_⟩;rcases h2 with h2|⟨b,off,rfl,h4,h5⟩;·exact Or.inl h2
 refine Or.inr ⟨b,off,rfl,h4,fun j hj=>?_⟩;have h6:=h5 j hj;rw[cell_set_lit];·exact h6
 by_cases e1:b=g
 ·right
  intro e2;rw[e1,e2,hc]at h6;injection h6 with h6;cases h6
 exact Or.inl e1
theorem kel_bool{w:World}{B g o:Nat}{v:Value}{m:Nat}{UV:Nat→Value}{t:Kt}{x:Bool}(h:KeSl w B v m UV t)(hc:w.cell? ⟨g,o,none⟩=some (.bool x))(u:Value):KeSl (w.setCell ⟨g,o,none⟩ u) B v m UV t:=by
 obtain⟨ad,cap,rfl,h0,h2⟩:=h;refine⟨ad,cap,rfl,h0,?_⟩;rcases h2 with h2|⟨b,off,rfl,h4,h5⟩;·exact Or.inl h2
 refine Or.inr ⟨b,off,rfl,h4,fun j hj=>?_⟩;obtain⟨x0,x1,x2,x3⟩:=h5 j hj;have key:∀i z,w.cell? ⟨b,i,none⟩=some z→z≠.bool x→(w.setCell ⟨g,o,none⟩ u).cell? ⟨b,i,none⟩=some z:=fun i z hz hne=>by
  rw[cell_set_lit];·exact hz
  by_cases e1:b=g;·right;intro e2;rw[e1,e2,hc]at hz;injection hz with hz;exact hne hz.symm
  exact Or.inl e1
 refine⟨key _ _ x0 (fun e=>by cases e),key _ _ x1 (fun e=>by cases e),key _ _ x2 (fun e=>?_),isl_bool x3 hc u⟩;obtain⟨a,c,e2,_⟩:=x3;rw[e2]at e;cases e
theorem ve_two{w:World}{B g o:Nat}{T:TypeId}{v:Value}{n:Nat}{PV:Nat→Value}{b:Bk}{a0 a1:Option Addr}{n0 c0 n1 c1:Nat}(hg:w.heap[g]?=some (.cells #[.slice a0 n0 c0,.slice a1 n1 c1] T (0,0)))(h:VeSl w B v n PV b)(ho:o<2)(u:Value):VeSl (w.setCell ⟨g,o,none⟩ u) B v n PV b:=by
 obtain⟨q0,q1⟩:=two_at hg;have q2:w.cell? ⟨g,2,none⟩=none:=by unfold World.cell?;simp[hg]
 have hc:∃a n c,w.cell? ⟨g,o,none⟩=some (.slice a n c):=by
  rcases(show o=0∨o=1 by omega)with rfl|rfl;·exact⟨_,_,_,q0⟩
  exact⟨_,_,_,q1⟩
 obtain⟨a,m,c,hc⟩:=hc;obtain⟨ad,cap,rfl,h0,h2⟩:=h;refine⟨ad,cap,rfl,h0,?_⟩;rcases h2 with h2|⟨bl,off,rfl,h4,h5⟩;·exact Or.inl h2
 refine Or.inr ⟨bl,off,rfl,h4,fun j hj=>?_⟩;obtain⟨x0,x1,x2,x3,x4⟩:=h5 j hj;have key:∀i z,w.cell? ⟨bl,i,none⟩=some (.int .i64 z)→(w.setCell ⟨g,o,none⟩ u).cell? ⟨bl,i,none⟩=some (.int .i64 z):=fun i z hz=>by
  rw[cell_set_lit];·exact hz
  by_cases e1:bl=g;·right;intro e2;rw[e1,e2,hc]at hz;injection hz with hz;cases hz
  exact Or.inl e1
 refine⟨?_,key _ _ x1,key _ _ x2,key _ _ x3,isl_slice x4 hc u⟩;rw[cell_set_lit];·exact x0
 by_cases e1:bl=g
 ·right
  intro e2;rw[e1]at x1;rcases(show o=0∨o=1 by omega)with e3|e3;·rw[e2,e3,Nat.zero_add,q1]at x1;injection x1 with x1;cases x1
  rw[e2,e3,q2]at x1;cases x1
 exact Or.inl e1
theorem ve_put2{w:World}{g:Nat}{T:TypeId}{v:Value}{n:Nat}{PV:Nat→Value}{b:Bk}{a0 a1 a2:Option Addr}{n0 c0 n1 c1 n2 c2:Nat}(hg:w.heap[g]?=some (.cells #[.slice a0 n0 c0,.slice a1 n1 c1] T (0,0)))(h:VeSl w w.heap.size v n PV b)(u1:Value):VeSl (put2 w g (.slice a2 n2 c2) u1) (put2 w g (.slice a2 n2 c2) u1).heap.size v n PV b:=by
 rw[put2_size];unfold put2;exact ve_two (a0:=a2) (n0:=n2) (c0:=c2) (a1:=a1) (n1:=n1) (c1:=c1) (T:=T) (by simp[World.setCell,Array.getElem?_modify,hg]) (ve_two hg h (by omega) _) (by omega) _
theorem ps_put2{w:World}{g:Nat}{T:TypeId}{v:Value}{np:Nat}{KV:Nat→Value}{UV:Nat→Nat→Value}{P:Ps}{a0 a1:Option Addr}{n0 c0 n1 c1:Nat}(hg:w.heap[g]?=some (.cells #[.slice a0 n0 c0,.slice a1 n1 c1] T (0,0)))(h:PsSl w w.heap.size v np KV UV P)(u0 u1:Value):PsSl (put2 w g u0 u1) (put2 w g u0 u1).heap.size v np KV UV P:=by
 obtain⟨q0,q1⟩:=two_at hg;obtain⟨ad,cap,rfl,h0,h2⟩:=h;refine⟨ad,cap,rfl,h0,?_⟩;rcases h2 with h2|⟨bl,off,rfl,h4,h5⟩;·exact Or.inl h2
 refine Or.inr ⟨bl,off,rfl,by rw[put2_size];exact h4,fun j hj=>?_⟩;obtain⟨x0,x1,x2,x3⟩:=h5 j hj;have key:∀i z,w.cell? ⟨bl,i,none⟩=some z→(∀a n c,z≠.slice a n c)∨2≤i→(put2 w g u0 u1).cell? ⟨bl,i,none⟩=some z:=fun i z hz hne=>by
  unfold put2;have hd:∀o,o<2→bl≠g∨i≠o:=fun o ho=>by
   by_cases e1:bl=g
   ·right
    intro e2;rcases hne with hne|hne
    ·rcases(show o=0∨o=1 by omega)with e3|e3
     ·rw[e1,e2,e3,q0]at hz;injection hz with hz;exact hne _ _ _ hz.symm
     rw[e1,e2,e3,q1]at hz;injection hz with hz;exact hne _ _ _ hz.symm
    omega
   exact Or.inl e1
  rw[cell_set_lit (hd 1 (by omega)),cell_set_lit (hd 0 (by omega))];exact hz
 exact⟨key _ _ x0 (Or.inl fun a n c e=>by cases e),key _ _ x1 (Or.inl fun a n c e=>by cases e),key _ _ x2 (Or.inr (by omega)),kel_put2 hg x3 _ _⟩
theorem KeSl.agree{w:World}{B:Nat}{v:Value}{m:Nat}{UV:Nat→Value}{t t':Kt}(h:KeSl w B v m UV t)(e:∀i,i<m→t.V i=t'.V i∧t.N i=t'.N i∧t.L i=t'.L i∧∀r,r<t.L i→t.X i r=t'.X i r):KeSl w B v m UV t':=by
 obtain⟨ad,cap,rfl,h0,h2⟩:=h;refine⟨ad,cap,rfl,h0,?_⟩;rcases h2 with h2|⟨b,off,rfl,h4,h5⟩;·exact Or.inl h2
 refine Or.inr ⟨b,off,rfl,h4,fun j hj=>?_⟩;obtain⟨x0,x1,x2,x3⟩:=h5 j hj;obtain⟨e0,e1,e2,e3⟩:=e j hj;rw[←e0,←e1,←e2];exact⟨x0,x1,x2,x3.congr e3⟩
theorem PsSl.agree{w:World}{B:Nat}{v:Value}{np:Nat}{KV:Nat→Value}{UV:Nat→Nat→Value}{P P':Ps}(h:PsSl w B v np KV UV P)
 (e:∀k,k<np→P.th k=P'.th k∧P.rm k=P'.rm k∧P.m k=P'.m k∧∀i,i<P.m k→(P.t k).V i=(P'.t k).V i∧(P.t k).N i=(P'.t k).N i∧(P.t k).L i=(P'.t k).L i∧∀r,r<(P.t k).L i→(P.t k).X i r=(P'.t k).X i r):PsSl w B v np KV UV P':=by
 obtain⟨ad,cap,rfl,h0,h2⟩:=h
 refine⟨ad,cap,rfl,h0,?_⟩
 rcases h2 with h2|⟨b,off,rfl,h4,h5⟩
 ·exact Or.inl h2
 ·refine Or.inr ⟨b,off,rfl,h4,fun j hj=>?_⟩
  obtain⟨x0,x1,x2,x3⟩:=h5 j hj;obtain⟨e0,e1,e2,e3⟩:=e j hj;rw[←e0,←e1,←e2];exact⟨x0,x1,x2,x3.agree e3⟩
theorem NewP.set{B:Nat}{w:World}{vl:Value}{np:Nat}{KV:Nat→Value}{UV:Nat→Nat→Value}{P P':Ps}(h:NewP B w vl np KV UV P)(e:∀k,k<np→P'.m k=P.m k∧∀i,i<P.m k→(P'.t k).L i=(P.t k).L i)(a:Addr)(u:Value):NewP B (w.setCell a u) vl np KV UV P' :=
 ⟨h.1.set a u,fun k hk=>⟨(h.2 k hk).1.set a u,fun i hi=>by
  rw[(e k hk).1]at hi;rw[(e k hk).2 i hi];exact((h.2 k hk).2 i hi).imp id fun h=>h.set a u⟩⟩
theorem NewP.up{B:Nat}{w w':World}{vl:Value}{np:Nat}{KV:Nat→Value}{UV:Nat→Nat→Value}{P:Ps}(h:NewP B w vl np KV UV P)(hb:Below w.heap.size w w'):NewP B w' vl np KV UV P :=
 ⟨h.1.up hb,fun k hk=>⟨(h.2 k hk).1.up hb,fun i hi=>((h.2 k hk).2 i hi).imp id fun h=>h.up hb⟩⟩
theorem NewP.mono{B B':Nat}{w:World}{vl:Value}{np:Nat}{KV:Nat→Value}{UV:Nat→Nat→Value}{P:Ps}(h:NewP B w vl np KV UV P)(hb:B'≤B):NewP B' w vl np KV UV P :=
 ⟨h.1.mono hb,fun k hk=>⟨(h.2 k hk).1.mono hb,fun i hi=>((h.2 k hk).2 i hi).imp id fun h=>h.mono hb⟩⟩
theorem equal_errs{w:World}{v1 v2:Value}{n m:Nat}{X Y:Nat→Int}(h1:IntSl w w.heap.size v1 n X)(h2:IntSl w w.heap.size v2 m Y):
 Calls Tryz.prog 23 #[v1,v2] w fun e w'=>e=.returned (.bool (eqB n m X Y))∧Below w.heap.size w w':=by
 obtain⟨a1,c1,rfl,_,hx⟩:=h1
 obtain⟨a2,c2,rfl,_,hy⟩:=h2
 have HX:=hid hx
 have HY:=hid hy
 clear hx hy
 obtain⟨eb,heb⟩:∃q,eqB n m X Y=q:=⟨_,rfl⟩
 rw[heb]
 have HEb:=hid heb
 clear heb
 by_cases hnm:n=m
 ·subst hnm
  have hbn:((n:Int) != (n:Int))=false:=by simp
  go_enter Tryz.func23,Tryz.ntmps23;go_wp2;go_loopw [13] (fun iv wr=>∃j:Nat,j≤n∧iv=.int .i64 j∧Hid (∀i,i<j→X i=Y i)∧Hid (Below w.heap.size w wr)) (fun iv _=>n-(intOf iv).toNat)
  case atStart=>exact⟨0,Nat.zero_le _,rfl,fun i hi=>absurd hi (Nat.not_lt_zero _),Below.refl _ _⟩
  case round =>
   obtain⟨j,hj,rfl,HS,HB⟩:=hrel;by_cases hlt:j<n
   ·have hji:(j:Int)<(n:Int):=by omega
    rcases HX.out with h0|⟨b1,o1,rfl,hb1,hx⟩;·omega
    rcases HY.out with h0|⟨b2,o2,rfl,hb2,hy⟩;·omega
    have q1:=hx j hlt;have q2:=hy j hlt;obtain⟨x,hxe⟩:∃x,X j=x:=⟨_,rfl⟩;obtain⟨y,hye⟩:∃y,Y j=y:=⟨_,rfl⟩;rw[hxe]at q1;rw[hye]at q2;have HXe:=hid hxe;have HYe:=hid hye;have HD:Hid (∀k,Below wr.heap.size wr (wr.drewN k)):=fun k=>⟨rfl,rfl,rfl,Nat.le_refl _,fun _ _=>rfl⟩;have c1:wr.cell? ⟨b1,o1+j,none⟩=some (.int .i64 x):=by rw[HB.out.cell hb1];exact q1
    have c2:wr.cell? ⟨b2,o2+j,none⟩=some (.int .i64 y):=by rw[HB.out.cell hb2];exact q2
    clear hx hy q1 q2 hxe hye;by_cases hxy:x=y
    ·subst hxy
     have hb:(x != x)=false:=by simp
     have HS2:Hid (∀i,i<j+1→X i=Y i):=fun i hi=>by
      by_cases e:i=j;·rw[e,HXe.out,HYe.out]
      exact HS.out i (by omega)
     go_wp2_with fail
     go_quiet (fail);go_wp2;go_roundw
     case rel=>exact⟨j+1,by omega,by go_num,HS2,HB.out.trans ((HD.out nq).mono HB.out.size)⟩
     case measure=>simp only[intOf];omega
    have hb:(x != y)=true:=by simpa using hxy
    have he:Hid (eb=false):=by
     show eb=false;rw[←HEb.out];exact decide_eq_false fun h=>hxy (by rw[←HXe.out,←HYe.out];exact h.2 j hlt)
    clear hxy;go_wp2_with fail
    go_quiet (fail);go_wp2;go_ret;exact⟨by rw[he.out];rfl,HB.out.trans ((HD.out nq).mono HB.out.size)⟩
   have hje:n=j:=by omega
   subst hje;have hjn:¬(n:Int)<(n:Int):=by omega
   have he:Hid (eb=true):=by
    show eb=true;rw[←HEb.out];exact decide_eq_true ⟨rfl,fun i hi=>HS.out i hi⟩
   go_wp2;go_ret;exact⟨by rw[he.out];rfl,HB.out⟩
 ·have he:eb=false:=by
   rw[←HEb.out];exact decide_eq_false fun h=>hnm h.1
  subst he;have hbn:((n:Int) != (m:Int))=true:=by simp;omega
  go_enter Tryz.func23,Tryz.ntmps23;go_wp2;go_ret;exact⟨rfl,Below.refl _ _⟩
end Go.Proofs.YtajmnlhfnhbleaaGreat
