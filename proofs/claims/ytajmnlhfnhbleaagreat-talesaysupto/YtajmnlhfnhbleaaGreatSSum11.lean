/- Several texts of one proof, in their order. -/
import Derived.Test.YtajmnlhfnhbleaaGreatSSum10
namespace Go.Proofs.YtajmnlhfnhbleaaGreat
open Go.RowKit CurveMath
set_option linter.unusedVariables false
set_option maxHeartbeats 8000000
set_option maxRecDepth 10000
theorem kel_low{w:World}{B g o:Nat}{v:Value}{m:Nat}{UV:Nat→Value}{t:Kt}{a:Option Addr}{n c:Nat}(h:KeSl w B v m UV t)(ho:o<2)(hc:w.cell? ⟨g,o,none⟩=some (.slice a n c))(u:Value):KeSl (w.setCell ⟨g,o,none⟩ u) B v m UV t:=by
 obtain⟨ad,cap,rfl,h0,h2⟩:=h;refine⟨ad,cap,rfl,h0,?_⟩;rcases h2 with h2|⟨b,off,rfl,h4,h5⟩;·exact Or.inl h2
 refine Or.inr ⟨b,off,rfl,h4,fun j hj=>?_⟩;obtain⟨x0,x1,x2,x3⟩:=h5 j hj;refine⟨?_,?_,?_,isl_slice x3 hc u⟩
 ·rw[cell_set_lit]
  ·exact x0
  by_cases e1:b=g;·right;intro e2;rw[e1,e2,hc]at x0;injection x0 with x0;cases x0
  exact Or.inl e1
 ·rw[cell_set_lit]
  ·exact x1
  by_cases e1:b=g;·right;intro e2;rw[e1,e2,hc]at x1;injection x1 with x1;cases x1
  exact Or.inl e1
 rw[cell_set_lit (Or.inr (by omega))];exact x2
def put2(w:World)(g:Nat)(u0 u1:Value):World:=(w.setCell ⟨g,0,none⟩ u0).setCell ⟨g,1,none⟩ u1
theorem put2_whole{w:World}{g:Nat}{T:TypeId}{v0 v1:Value}(h:w.heap[g]?=some (.cells #[v0,v1] T (0,0)))(u0 u1:Value):(put2 w g u0 u1).heap[g]?=some (.cells #[u0,u1] T (0,0)):=by
 simp[put2,World.setCell,Array.getElem?_modify,h]
theorem put2_below{B:Nat}{w w5:World}{g:Nat}{u0 u1:Value}(hb:Below B w w5)(hg:B≤g):Below B w (put2 w5 g u0 u1) :=
 (hb.setCell (p:=⟨g,0,none⟩) hg _).setCell (p:=⟨g,1,none⟩) hg _
theorem put2_size{w:World}{g:Nat}{u0 u1:Value}:(put2 w g u0 u1).heap.size=w.heap.size:=by simp[put2,World.setCell]
theorem kel_put2{w:World}{g:Nat}{T:TypeId}{v:Value}{m:Nat}{UV:Nat→Value}{t:Kt}{a0 a1:Option Addr}{n0 c0 n1 c1:Nat}(hg:w.heap[g]?=some (.cells #[.slice a0 n0 c0,.slice a1 n1 c1] T (0,0)))(h:KeSl w w.heap.size v m UV t)(u0 u1:Value):KeSl (put2 w g u0 u1) (put2 w g u0 u1).heap.size v m UV t:=by
 rw[put2_size];obtain⟨q0,q1⟩:=two_at hg;unfold put2;exact kel_low (kel_low h (by omega) q0 u0) (by omega) (by rw[cell_set_lit (Or.inr (by omega))];exact q1) u1
theorem drew_grown(w:World)(row:Option Nat):w.grownBy w.drew row:=⟨rfl,rfl,rfl,Nat.le_refl _,fun _ _ _=>rfl⟩
theorem isl_bool{w:World}{B g o:Nat}{v:Value}{m:Nat}{X:Nat→Int}{x:Bool}(h:IntSl w B v m X)(hc:w.cell? ⟨g,o,none⟩=some (.bool x))(u:Value):IntSl (w.setCell ⟨g,o,none⟩ u) B v m X:=by
 obtain⟨ad,cap,rfl,h0,h2⟩:=h;refine⟨ad,cap,rfl,h0,?_⟩;rcases h2 with h2|⟨b,off,rfl,h4,h5⟩;·exact Or.inl h2
 refine Or.inr ⟨b,off,rfl,h4,fun j hj=>?_⟩;have h6:=h5 j hj;rw[cell_set_lit];·exact h6
 by_cases e1:b=g
 ·right
  intro e2;rw[e1,e2,hc]at h6;injection h6 with h6;cases h6
 exact Or.inl e1
theorem kel_bool{w:World}{B g o:Nat}{v:Value}{m:Nat}{UV:Nat→Value}{t:Kt}{x:Bool}(h:KeSl w B v m UV t)(hc:w.cell? ⟨g,o,none⟩=some (.bool x))(u:Value):KeSl (w.setCell ⟨g,o,none⟩ u) B v m UV t:=by
 obtain⟨ad,cap,rfl,h0,h2⟩:=h;refine⟨ad,cap,rfl,h0,?_⟩;rcases h2 with h2|⟨b,off,rfl,h4,h5⟩;·exact Or.inl h2
 refine Or.inr ⟨b,off,rfl,h4,fun j hj=>?_⟩;obtain⟨x0,x1,x2,x3⟩:=h5 j hj;have key:∀i z,w.cell? ⟨b,i,none⟩=some z→z≠.bool x→(w.setCell ⟨g,o,none⟩ u).cell? ⟨b,i,none⟩=some z:=fun i z hz hne=>by
  rw[cell_set_lit];·exact hz
  by_cases e1:b=g;·right;intro e2;rw[e1,e2,hc]at hz;injection hz with hz;exact hne hz.symm
  exact Or.inl e1
 refine⟨key _ _ x0 (fun e=>by cases e),key _ _ x1 (fun e=>by cases e),key _ _ x2 (fun e=>?_),isl_bool x3 hc u⟩;obtain⟨a,c,e2,_⟩:=x3;rw[e2]at e;cases e
theorem ve_two{w:World}{B g o:Nat}{T:TypeId}{v:Value}{n:Nat}{PV:Nat→Value}{b:Bk}{a0 a1:Option Addr}{n0 c0 n1 c1:Nat}(hg:w.heap[g]?=some (.cells #[.slice a0 n0 c0,.slice a1 n1 c1] T (0,0)))(h:VeSl w B v n PV b)(ho:o<2)(u:Value):VeSl (w.setCell ⟨g,o,none⟩ u) B v n PV b:=by
 obtain⟨q0,q1⟩:=two_at hg;have q2:w.cell? ⟨g,2,none⟩=none:=by unfold World.cell?;simp[hg]
 have hc:∃a n c,w.cell? ⟨g,o,none⟩=some (.slice a n c):=by
  rcases(show o=0∨o=1 by omega)with rfl|rfl;·exact⟨_,_,_,q0⟩
  exact⟨_,_,_,q1⟩
 obtain⟨a,m,c,hc⟩:=hc;obtain⟨ad,cap,rfl,h0,h2⟩:=h;refine⟨ad,cap,rfl,h0,?_⟩;rcases h2 with h2|⟨bl,off,rfl,h4,h5⟩;·exact Or.inl h2
 refine Or.inr ⟨bl,off,rfl,h4,fun j hj=>?_⟩;obtain⟨x0,x1,x2,x3,x4⟩:=h5 j hj;have key:∀i z,w.cell? ⟨bl,i,none⟩=some (.int .i64 z)→(w.setCell ⟨g,o,none⟩ u).cell? ⟨bl,i,none⟩=some (.int .i64 z):=fun i z hz=>by
  rw[cell_set_lit];·exact hz
  by_cases e1:bl=g;·right;intro e2;rw[e1,e2,hc]at hz;injection hz with hz;cases hz
  exact Or.inl e1
 refine⟨?_,key _ _ x1,key _ _ x2,key _ _ x3,isl_slice x4 hc u⟩;rw[cell_set_lit];·exact x0
 by_cases e1:bl=g
 ·right
  intro e2;rw[e1]at x1;rcases(show o=0∨o=1 by omega)with e3|e3;·rw[e2,e3,Nat.zero_add,q1]at x1;injection x1 with x1;cases x1
  rw[e2,e3,q2]at x1;cases x1
 exact Or.inl e1
theorem ve_put2{w:World}{g:Nat}{T:TypeId}{v:Value}{n:Nat}{PV:Nat→Value}{b:Bk}{a0 a1 a2:Option Addr}{n0 c0 n1 c1 n2 c2:Nat}(hg:w.heap[g]?=some (.cells #[.slice a0 n0 c0,.slice a1 n1 c1] T (0,0)))(h:VeSl w w.heap.size v n PV b)(u1:Value):VeSl (put2 w g (.slice a2 n2 c2) u1) (put2 w g (.slice a2 n2 c2) u1).heap.size v n PV b:=by
 rw[put2_size];unfold put2;exact ve_two (a0:=a2) (n0:=n2) (c0:=c2) (a1:=a1) (n1:=n1) (c1:=c1) (T:=T) (by simp[World.setCell,Array.getElem?_modify,hg]) (ve_two hg h (by omega) _) (by omega) _
theorem ps_put2{w:World}{g:Nat}{T:TypeId}{v:Value}{np:Nat}{KV:Nat→Value}{UV:Nat→Nat→Value}{P:Ps}{a0 a1:Option Addr}{n0 c0 n1 c1:Nat}(hg:w.heap[g]?=some (.cells #[.slice a0 n0 c0,.slice a1 n1 c1] T (0,0)))(h:PsSl w w.heap.size v np KV UV P)(u0 u1:Value):PsSl (put2 w g u0 u1) (put2 w g u0 u1).heap.size v np KV UV P:=by
 obtain⟨q0,q1⟩:=two_at hg;obtain⟨ad,cap,rfl,h0,h2⟩:=h;refine⟨ad,cap,rfl,h0,?_⟩;rcases h2 with h2|⟨bl,off,rfl,h4,h5⟩;·exact Or.inl h2
 refine Or.inr ⟨bl,off,rfl,by rw[put2_size];exact h4,fun j hj=>?_⟩;obtain⟨x0,x1,x2,x3⟩:=h5 j hj;have key:∀i z,w.cell? ⟨bl,i,none⟩=some z→(∀a n c,z≠.slice a n c)∨2≤i→(put2 w g u0 u1).cell? ⟨bl,i,none⟩=some z:=fun i z hz hne=>by
  unfold put2;have hd:∀o,o<2→bl≠g∨i≠o:=fun o ho=>by
   by_cases e1:bl=g
   ·right
    intro e2;rcases hne with hne|hne
    ·rcases(show o=0∨o=1 by omega)with e3|e3
     ·rw[e1,e2,e3,q0]at hz;injection hz with hz;exact hne _ _ _ hz.symm
     rw[e1,e2,e3,q1]at hz;injection hz with hz;exact hne _ _ _ hz.symm
    omega
   exact Or.inl e1
  rw[cell_set_lit (hd 1 (by omega)),cell_set_lit (hd 0 (by omega))];exact hz
 exact⟨key _ _ x0 (Or.inl fun a n c e=>by cases e),key _ _ x1 (Or.inl fun a n c e=>by cases e),key _ _ x2 (Or.inr (by omega)),kel_put2 hg x3 _ _⟩
theorem sh_low{w:World}{B g:Nat}{v:Value}{n:Nat}{N:Nat→Int}{V:Nat→Value}{L:Nat→Nat}{X:Nat→Nat→Int}{a:Option Addr}{m c:Nat}(h:ShSl w B v n N V L X)(hc:w.cell? ⟨g,0,none⟩=some (.slice a m c))(u:Value):ShSl (w.setCell ⟨g,0,none⟩ u) B v n N V L X:=by
 obtain⟨ad,cap,rfl,h0,h2⟩:=h;refine⟨ad,cap,rfl,h0,?_⟩;rcases h2 with h2|⟨b,off,rfl,h4,h5⟩;·exact Or.inl h2
 refine Or.inr ⟨b,off,rfl,h4,fun j hj=>?_⟩;obtain⟨x0,x1,x2⟩:=h5 j hj;refine⟨?_,?_,isl_slice x2 hc u⟩
 ·rw[cell_set_lit]
  ·exact x0
  by_cases e1:b=g;·right;intro e2;rw[e1,e2,hc]at x0;injection x0 with x0;cases x0
  exact Or.inl e1
 rw[cell_set_lit (Or.inr (by omega))];exact x1
theorem KeSl.agree{w:World}{B:Nat}{v:Value}{m:Nat}{UV:Nat→Value}{t t':Kt}(h:KeSl w B v m UV t)(e:∀i,i<m→t.V i=t'.V i∧t.N i=t'.N i∧t.L i=t'.L i∧∀r,r<t.L i→t.X i r=t'.X i r):KeSl w B v m UV t':=by
 obtain⟨ad,cap,rfl,h0,h2⟩:=h;refine⟨ad,cap,rfl,h0,?_⟩;rcases h2 with h2|⟨b,off,rfl,h4,h5⟩;·exact Or.inl h2
 refine Or.inr ⟨b,off,rfl,h4,fun j hj=>?_⟩;obtain⟨x0,x1,x2,x3⟩:=h5 j hj;obtain⟨e0,e1,e2,e3⟩:=e j hj;rw[←e0,←e1,←e2];exact⟨x0,x1,x2,x3.congr e3⟩
theorem PsSl.agree{w:World}{B:Nat}{v:Value}{np:Nat}{KV:Nat→Value}{UV:Nat→Nat→Value}{P P':Ps}(h:PsSl w B v np KV UV P)
 (e:∀k,k<np→P.th k=P'.th k∧P.rm k=P'.rm k∧P.m k=P'.m k∧∀i,i<P.m k→(P.t k).V i=(P'.t k).V i∧(P.t k).N i=(P'.t k).N i∧(P.t k).L i=(P'.t k).L i∧∀r,r<(P.t k).L i→(P.t k).X i r=(P'.t k).X i r):PsSl w B v np KV UV P':=by
 obtain⟨ad,cap,rfl,h0,h2⟩:=h
 refine⟨ad,cap,rfl,h0,?_⟩
 rcases h2 with h2|⟨b,off,rfl,h4,h5⟩
 ·exact Or.inl h2
 ·refine Or.inr ⟨b,off,rfl,h4,fun j hj=>?_⟩
  obtain⟨x0,x1,x2,x3⟩:=h5 j hj;obtain⟨e0,e1,e2,e3⟩:=e j hj;rw[←e0,←e1,←e2];exact⟨x0,x1,x2,x3.agree e3⟩
theorem w_agree:∀k,k<5→(saveP 0 5 (freshP wX) 2 4 3 wD).th k=(wP true 7).th k∧(saveP 0 5 (freshP wX) 2 4 3 wD).rm k=(wP true 7).rm k∧(saveP 0 5 (freshP wX) 2 4 3 wD).m k=(wP true 7).m k∧∀i,i<(saveP 0 5 (freshP wX) 2 4 3 wD).m k →
 ((saveP 0 5 (freshP wX) 2 4 3 wD).t k).V i=((wP true 7).t k).V i∧((saveP 0 5 (freshP wX) 2 4 3 wD).t k).N i=((wP true 7).t k).N i∧((saveP 0 5 (freshP wX) 2 4 3 wD).t k).L i=((wP true 7).t k).L i∧∀r,r<((saveP 0 5 (freshP wX) 2 4 3 wD).t k).L i→((saveP 0 5 (freshP wX) 2 4 3 wD).t k).X i r=((wP true 7).t k).X i r:=by decide +kernel
theorem ve_bool{w:World}{B g o:Nat}{v:Value}{n:Nat}{PV:Nat→Value}{b:Bk}{x:Bool}(h:VeSl w B v n PV b)(hc:w.cell? ⟨g,o,none⟩=some (.bool x))(u:Value):VeSl (w.setCell ⟨g,o,none⟩ u) B v n PV b:=by
 obtain⟨ad,cap,rfl,h0,h2⟩:=h;refine⟨ad,cap,rfl,h0,?_⟩;rcases h2 with h2|⟨bl,off,rfl,h4,h5⟩;·exact Or.inl h2
 refine Or.inr ⟨bl,off,rfl,h4,fun j hj=>?_⟩;obtain⟨x0,x1,x2,x3,x4⟩:=h5 j hj;have key:∀i z,w.cell? ⟨bl,i,none⟩=some z→z≠.bool x→(w.setCell ⟨g,o,none⟩ u).cell? ⟨bl,i,none⟩=some z:=fun i z hz hne=>by
  rw[cell_set_lit];·exact hz
  by_cases e1:bl=g;·right;intro e2;rw[e1,e2,hc]at hz;injection hz with hz;exact hne hz.symm
  exact Or.inl e1
 refine⟨key _ _ x0 (fun e=>?_),key _ _ x1 (fun e=>by cases e),key _ _ x2 (fun e=>by cases e),key _ _ x3 (fun e=>by cases e),isl_bool x4 hc u⟩;obtain⟨a,c,e2,_⟩:=x4;rw[e2]at e;cases e
theorem ps_there{w:World}{bl off cap:Nat}{np q:Nat}{KV:Nat→Value}{UV:Nat→Nat→Value}{P P':Ps}(h:PsSl w w.heap.size (.slice (some ⟨bl,off,none⟩) np cap) np KV UV P)(hq:q<np)(t:Bool)(e:∀k,k<np→P'.th k=(if k=q then t else P.th k)∧P'.rm k=P.rm k∧P'.m k=P.m k∧P'.t k=P.t k):
 PsSl (w.setCell ⟨bl,off+q*3,none⟩ (.bool t)) (w.setCell ⟨bl,off+q*3,none⟩ (.bool t)).heap.size (.slice (some ⟨bl,off,none⟩) np cap) np KV UV P':=by
 have hz:(w.setCell ⟨bl,off+q*3,none⟩ (.bool t)).heap.size=w.heap.size:=by simp[World.setCell]
 rw[hz]
 obtain⟨bl',off',e1,_,hc,_,_,_⟩:=h.at hq
 injection e1 with e1
 injection e1 with e1 e2
 subst e1 e2
 obtain⟨ad,cap',he,h0,h2⟩:=h
 injection he with he1 _ he3
 subst he1 he3
 refine⟨_,cap,rfl,h0,?_⟩
 rcases h2 with h2|⟨b,off',e1,h4,h5⟩
 ·omega
 ·injection e1 with e1
  injection e1 with e1 e2;subst e1 e2;refine Or.inr ⟨bl,off,rfl,h4,fun j hj=>?_⟩;obtain⟨x0,x1,x2,x3⟩:=h5 j hj;obtain⟨g1,g2,g3,g4⟩:=e j hj;rw[g1,g2,g3,g4];refine⟨?_,by rw[cell_set_lit (Or.inr (by omega))];exact x1,by rw[cell_set_lit (Or.inr (by omega))];exact x2,kel_bool x3 hc _⟩;by_cases ej:j=q;·subst ej;rw[if_pos rfl];exact cell_set_same x0 _
  rw[if_neg ej,cell_set_lit (Or.inr (by omega))];exact x0
theorem NewP.set{B:Nat}{w:World}{vl:Value}{np:Nat}{KV:Nat→Value}{UV:Nat→Nat→Value}{P P':Ps}(h:NewP B w vl np KV UV P)(e:∀k,k<np→P'.m k=P.m k∧∀i,i<P.m k→(P'.t k).L i=(P.t k).L i)(a:Addr)(u:Value):NewP B (w.setCell a u) vl np KV UV P' :=
 ⟨h.1.set a u,fun k hk=>⟨(h.2 k hk).1.set a u,fun i hi=>by
  rw[(e k hk).1]at hi;rw[(e k hk).2 i hi];exact((h.2 k hk).2 i hi).imp id fun h=>h.set a u⟩⟩
theorem NewP.up{B:Nat}{w w':World}{vl:Value}{np:Nat}{KV:Nat→Value}{UV:Nat→Nat→Value}{P:Ps}(h:NewP B w vl np KV UV P)(hb:Below w.heap.size w w'):NewP B w' vl np KV UV P :=
 ⟨h.1.up hb,fun k hk=>⟨(h.2 k hk).1.up hb,fun i hi=>((h.2 k hk).2 i hi).imp id fun h=>h.up hb⟩⟩
theorem NewP.mono{B B':Nat}{w:World}{vl:Value}{np:Nat}{KV:Nat→Value}{UV:Nat→Nat→Value}{P:Ps}(h:NewP B w vl np KV UV P)(hb:B'≤B):NewP B' w vl np KV UV P :=
 ⟨h.1.mono hb,fun k hk=>⟨(h.2 k hk).1.mono hb,fun i hi=>((h.2 k hk).2 i hi).imp id fun h=>h.mono hb⟩⟩
theorem mesh_openN{w:World}{er:Int}{n:Nat}{b:Bk}{np:Nat}{P:Ps}{e:Ending}{w':World}(h:MeshPostN w er n b np P e w'):
 Below w.heap.size w w'∧∃(ab:Option Addr) (n' cb:Nat) (PV:Nat→Value) (al:Option Addr) (np' cl:Nat) (KV:Nat→Value) (UV:Nat→Nat→Value),e=.returned (.tuple #[.agg #[.slice ab n' cb,.slice al np' cl],.int .i64 er]) ∧
  n'=(if er=0 then n else 0)∧np'=(if er=0 then np else 0)∧VeSl w' w'.heap.size (.slice ab n' cb) n' PV b∧PsSl w' w'.heap.size (.slice al np' cl) np' KV UV P∧NewP w.heap.size w' (.slice al np' cl) np' KV UV P:=by
 obtain⟨h1,vb,vl,n',np',PV,KV,UV,rfl,h3,h4,h5,h6,h7,_⟩:=h
 have h5':=h5
 have h6':=h6
 obtain⟨ab,cb,rfl,_,_⟩:=h5'
 obtain⟨al,cl,rfl,_,_⟩:=h6'
 exact⟨h1,ab,n',cb,PV,al,np',cl,KV,UV,rfl,h3,h4,h5,h6,h7⟩
theorem isl_five{w:World}{g:Nat}{T:TypeId}(h:w.heap[g]?=some (.cells #[.int .i64 2,.int .i64 2,.int .i64 2,.int .i64 2,.int .i64 2] T (0,0))):IntSl w w.heap.size (.slice (some ⟨g,0,none⟩) 5 5) 5 wX :=
 ⟨_,_,rfl,⟨Nat.le_refl _,by omega⟩,Or.inr ⟨g,0,rfl,(Array.getElem?_eq_some_iff.1 h).1,fun j hj=>by
  match j,hj with
  |0,_=>exact cell_at h rfl
  |1,_=>exact cell_at h rfl
  |2,_=>exact cell_at h rfl
  |3,_=>exact cell_at h rfl
  |4,_=>exact cell_at h rfl⟩⟩
theorem isl_579{w:World}{g:Nat}{T:TypeId}(h:w.heap[g]?=some (.cells #[.int .i64 5,.int .i64 7,.int .i64 9] T (0,0))):IntSl w w.heap.size (.slice (some ⟨g,0,none⟩) 3 3) 3 wD :=
 ⟨_,_,rfl,⟨Nat.le_refl _,by omega⟩,Or.inr ⟨g,0,rfl,(Array.getElem?_eq_some_iff.1 h).1,fun j hj=>by
  match j,hj with
  |0,_=>exact cell_at h rfl
  |1,_=>exact cell_at h rfl
  |2,_=>exact cell_at h rfl⟩⟩
def BegunPost(w:World)(e:Ending)(w':World):Prop :=
 Below w.heap.size w w'∧∃(ab:Option Addr) (cb:Nat) (PV:Nat→Value) (al:Option Addr) (cl:Nat) (KV:Nat→Value) (UV:Nat→Nat→Value),e=.returned (.tuple #[.agg #[.slice ab 1 cb,.slice al 5 cl],.int .i64 0]) ∧
  VeSl w' w'.heap.size (.slice ab 1 cb) 1 PV wB∧PsSl w' w'.heap.size (.slice al 5 cl) 5 KV UV (wP true 7)∧NewP w.heap.size w' (.slice al 5 cl) 5 KV UV (wP true 7)
theorem begun_any(hO:MeshCore)(w:World):Calls Tryz.prog 71 #[] w (BegunPost w):=by
 have HO:=hid hO;have hb0:=((Below.refl w.heap.size w).alloc (Nat.le_refl _) (.cells #[.slice none 0 0,.slice none 0 0] 27)).alloc (by simp) (.cells #[.int .i64 2,.int .i64 2,.int .i64 2,.int .i64 2,.int .i64 2] 3);have k1:=heap_two_old w (.cells #[.slice none 0 0,.slice none 0 0] 27) (.cells #[.int .i64 2,.int .i64 2,.int .i64 2,.int .i64 2,.int .i64 2] 3);have k2:=heap_two_new w (.cells #[.slice none 0 0,.slice none 0 0] 27) (.cells #[.int .i64 2,.int .i64 2,.int .i64 2,.int .i64 2,.int .i64 2] 3);obtain⟨W0,hW0⟩:∃W,(w.alloc (.cells #[.slice none 0 0,.slice none 0 0] 27)).alloc (.cells #[.int .i64 2,.int .i64 2,.int .i64 2,.int .i64 2,.int .i64 2] 3)=W:=⟨_,rfl⟩;rw[hW0]at hb0 k1 k2;have CK:=hid (HO.out.new _ 5 wX W0 (isl_five k2) (by omega));rw[w_new]at CK;have B0:=hid hb0;have K1:=hid k1;clear hb0 k1 k2 hO
 go_enter Tryz.func71,Tryz.ntmps71;go_wp2_with fail
 refine Calls.mono CK.out ?_;rintro e W1 hM;obtain⟨hb1,ab,n1,cb,PV,al,np1,cl,KV,UV,rfl,hn1,hp1,hv1,hl1,_⟩:=mesh_openN hM;rw[if_pos rfl]at hn1 hp1;subst hn1 hp1;have hbM:=below_alloc W1 (.cells #[.slice ab 0 cb,.slice al 5 cl] 27);have hx:=MsAt.box hv1 hl1;obtain⟨V1,hV1⟩:∃v,World.alloc W1 (.cells #[.slice ab 0 cb,.slice al 5 cl] 27)=v:=⟨_,rfl⟩;rw[hV1]at hbM hx;have hbD:=below_alloc V1 (.cells #[.int .i64 5,.int .i64 7,.int .i64 9] 3);have kd:=heap_alloc_new V1 (.cells #[.int .i64 5,.int .i64 7,.int .i64 9] 3);obtain⟨V2,hV2⟩:∃v,World.alloc V1 (.cells #[.int .i64 5,.int .i64 7,.int .i64 9] 3)=v:=⟨_,rfl⟩;rw[hV2]at hbD kd;have hb12:=hb1.trans ((hbM.trans (hbD.mono hbM.size)).mono hb1.size);have B2:=hid (B0.out.trans (hb12.mono B0.out.size));have K1:=hid (stayB K1.out hb12);have X1:=hid (hx.up hbD)
 have CS:=hid (HO.out.save _ 0 PV noB _ 5 KV UV (freshP wX) _ 3 wD (.slice none 0 0) 0 w0 2 4 V2 X1.out.2.1 X1.out.2.2 (isl_579 kd) ⟨none,0,rfl,⟨Nat.le_refl _,by omega⟩,Or.inl rfl⟩);rw[w_save]at CS;unfold meshV at CS;obtain⟨c0,c1⟩:=hx.cells;clear hM hb1 hbM hbD hb12 hx kd hv1 hl1 CK;go_wp2_with fail
 refine Calls.mono CS.out ?_;rintro e W3 hM;obtain⟨hb3,ab3,n3,cb3,PV3,al3,np3,cl3,KV3,UV3,rfl,hn3,hp3,hv3,hl3,hN3⟩:=mesh_openN hM;rw[if_pos rfl]at hn3 hp3;subst hn3 hp3;have B3:=hid (B2.out.trans (hb3.mono B2.out.size));have o3:=stayB K1.out hb3;have HO3:=hid o3;have HV3:=hid hv3;have HL3:=hid hl3;have HN3:=hid hN3;obtain⟨r1,r2⟩:=two_at o3;have f1:=frozen_at (i:=0) o3;have f2:=frozen_at (i:=1) o3;clear hM hb3 o3 hv3 hl3 hN3 CS c0 c1;go_wp2;refine ret2 (put2_whole HO3.out _ _) Tryz.underlying27 ?_;have hag:∀k,k<5→(wP true 7).m k=(saveP 0 5 (freshP wX) 2 4 3 wD).m k∧∀i,i<(saveP 0 5 (freshP wX) 2 4 3 wD).m k→((wP true 7).t k).L i=((saveP 0 5 (freshP wX) 2 4 3 wD).t k).L i:=fun k hk=>⟨(w_agree k hk).2.2.1.symm,fun i hi=>((w_agree k hk).2.2.2 i hi).2.2.1.symm⟩
 exact⟨put2_below B3.out (Nat.le_refl _),ab3,cb3,PV3,al3,cl3,KV3,UV3,rfl,ve_put2 HO3.out HV3.out _,(ps_put2 HO3.out HL3.out _ _).agree w_agree,((HN3.out.mono B2.out.size).set (P':=saveP 0 5 (freshP wX) 2 4 3 wD) (fun k hk=>⟨rfl,fun i hi=>rfl⟩) _ _).set hag _ _⟩
theorem isl_three{w:World}{g:Nat}{T:TypeId}(h:w.heap[g]?=some (.cells #[.int .i64 2,.int .i64 2,.int .i64 2] T (0,0))):IntSl w w.heap.size (.slice (some ⟨g,0,none⟩) 3 3) 3 dnX :=
 ⟨_,_,rfl,⟨Nat.le_refl _,by omega⟩,Or.inr ⟨g,0,rfl,(Array.getElem?_eq_some_iff.1 h).1,fun j hj=>by
  match j,hj with
  |0,_=>exact cell_at h rfl
  |1,_=>exact cell_at h rfl
  |2,_=>exact cell_at h rfl⟩⟩
def put7(w:World)(g:Nat)(u0 u1 u2 u3 u4 u5 u6:Value):World:=((((((w.setCell ⟨g,0,none⟩ u0).setCell ⟨g,1,none⟩ u1).setCell ⟨g,2,none⟩ u2).setCell ⟨g,3,none⟩ u3).setCell ⟨g,4,none⟩ u4).setCell ⟨g,5,none⟩ u5).setCell ⟨g,6,none⟩ u6
theorem put7_whole{w:World}{g:Nat}{T:TypeId}{v0 v1 v2 v3 v4 v5 v6:Value}(h:w.heap[g]?=some (.cells #[v0,v1,v2,v3,v4,v5,v6] T (0,0)))(u0 u1 u2 u3 u4 u5 u6:Value):(put7 w g u0 u1 u2 u3 u4 u5 u6).heap[g]?=some (.cells #[u0,u1,u2,u3,u4,u5,u6] T (0,0)):=by
 simp[put7,World.setCell,Array.getElem?_modify,h]
theorem put7_below{B:Nat}{w w5:World}{g:Nat}{u0 u1 u2 u3 u4 u5 u6:Value}(hb:Below B w w5)(hg:B≤g):Below B w (put7 w5 g u0 u1 u2 u3 u4 u5 u6) :=
 ((((((hb.setCell (p:=⟨g,0,none⟩) hg _).setCell (p:=⟨g,1,none⟩) hg _).setCell (p:=⟨g,2,none⟩) hg _).setCell (p:=⟨g,3,none⟩) hg _).setCell (p:=⟨g,4,none⟩) hg _).setCell (p:=⟨g,5,none⟩) hg _).setCell (p:=⟨g,6,none⟩) hg _
theorem isl_put2D{w:World}{g:Nat}{T:TypeId}{v:Value}{m:Nat}{X:Nat→Int}{a0 a1:Option Addr}{n0 c0 n1 c1:Nat}(hg:w.heap[g]?=some (.cells #[.slice a0 n0 c0,.slice a1 n1 c1] T (0,0)))(h:IntSl w w.heap.size v m X)(u0 u1:Value):IntSl (put2 w g u0 u1) (put2 w g u0 u1).heap.size v m X:=by
 rw[put2_size];unfold put2;obtain⟨q0,q1⟩:=two_at hg;exact isl_slice (isl_slice h q0 u0) (by rw[cell_set_lit (Or.inr (by omega))];exact q1) u1
theorem isl_zero(w:World)(X:Nat→Int):IntSl w w.heap.size (.slice none 0 0) 0 X:=⟨none,0,rfl,⟨Nat.le_refl _,by omega⟩,Or.inl rfl⟩
theorem isl_row1{w:World}{g:Nat}{x:Int}{T:TypeId}{X:Nat→Int}(h:w.heap[g]?=some (.cells #[.int .i64 x] T (0,0)))(e:X 0=x):IntSl w w.heap.size (.slice (some ⟨g,0,none⟩) 1 1) 1 X :=
 ⟨_,_,rfl,⟨Nat.le_refl _,by omega⟩,Or.inr ⟨g,0,rfl,(Array.getElem?_eq_some_iff.1 h).1,fun j hj=>by
  match j,hj with
  |0,_=>rw[e];exact cell_at h rfl⟩⟩
theorem isl_row2{w:World}{g:Nat}{x y:Int}{T:TypeId}{X:Nat→Int}(h:w.heap[g]?=some (.cells #[.int .i64 x,.int .i64 y] T (0,0)))(e:X 0=x)(e2:X 1=y):IntSl w w.heap.size (.slice (some ⟨g,0,none⟩) 2 2) 2 X :=
 ⟨_,_,rfl,⟨Nat.le_refl _,by omega⟩,Or.inr ⟨g,0,rfl,(Array.getElem?_eq_some_iff.1 h).1,fun j hj=>by
  match j,hj with
  |0,_=>rw[e];exact cell_at h rfl
  |1,_=>rw[e2];exact cell_at h rfl⟩⟩
theorem eqB_self(n:Nat)(X:Nat→Int):eqB n n X X=true:=decide_eq_true ⟨rfl,fun _ _=>rfl⟩
theorem drewN_up(w:World)(k:Nat):Below w.heap.size w (w.drewN k):=⟨rfl,rfl,rfl,Nat.le_refl _,fun _ _=>rfl⟩
section
structure WvAt(B:Nat)(w:World)(g1:Nat)(ab:Option Addr)(cb:Nat)(PV:Nat→Value)(bl off cl:Nat)(KV:Nat→Value)(UV:Nat→Nat→Value)(bk ok ck bu ou cu:Nat)(t0:Bool)(x:Int):Prop where
 box:MsAt w g1 ab 1 cb PV wB (some ⟨bl,off,none⟩) 5 cl KV UV (wP t0 x)
 new:NewP B w (.slice (some ⟨bl,off,none⟩) 5 cl) 5 KV UV (wP t0 x)
 k1:KV 1=.slice (some ⟨bk,ok,none⟩) 1 ck
 u1:UV 1 0=.slice (some ⟨bu,ou,none⟩) 2 cu
 ne1:bl≠g1
 ne2:bu≠g1
section
variable {B : Nat} {w w' : World} {g1 : Nat} {ab : Option Addr} {cb : Nat} {PV : Nat → Value} {bl off cl : Nat} {KV : Nat → Value} {UV : Nat → Nat → Value} {bk ok ck bu ou cu : Nat} {t0 : Bool} {x : Int}
theorem WvAt.up(h:WvAt B w g1 ab cb PV bl off cl KV UV bk ok ck bu ou cu t0 x)(hb:Below w.heap.size w w'):WvAt B w' g1 ab cb PV bl off cl KV UV bk ok ck bu ou cu t0 x :=
 ⟨h.box.up hb,h.new.up hb,h.k1,h.u1,h.ne1,h.ne2⟩
theorem WvAt.cells(h:WvAt B w g1 ab cb PV bl off cl KV UV bk ok ck bu ou cu t0 x):(w.cell? ⟨g1,0,none⟩=some (.slice ab 1 cb)∧w.cell? ⟨g1,1,none⟩=some (.slice (some ⟨bl,off,none⟩) 5 cl))∧(w.cell? ⟨bl,off,none⟩=some (.bool t0)∧w.frozen? ⟨bl,off,none⟩=false) ∧
 w.cell? ⟨bl,off+3+2,none⟩=some (.slice (some ⟨bk,ok,none⟩) 1 ck)∧w.cell? ⟨bk,ok+1+1,none⟩=some (.slice (some ⟨bu,ou,none⟩) 2 cu)∧(w.cell? ⟨bu,ou,none⟩=some (.int .i64 x)∧w.frozen? ⟨bu,ou,none⟩=false):=by
 obtain⟨bl',off',e,_,c0,_,_,_⟩:=h.box.2.2.at (i:=0) (by omega)
 injection e with e
 injection e with e1 e2
 subst e1 e2
 obtain⟨bl',off',e,_,_,_,c2,ke⟩:=h.box.2.2.at (i:=1) (by omega)
 injection e with e
 injection e with e1 e2
 subst e1 e2
 rw[h.k1]at c2 ke
 obtain⟨ad,cap,e,_,h2⟩:=ke
 injection e with e1 _ _
 rcases h2 with h2|⟨b2,o2,e3,_,h5⟩
 ·exact absurd h2 (by show ¬(1:Nat)=0;decide)
 ·rw[←e1]at e3
  injection e3 with e3;injection e3 with e4 e5;subst e4 e5;obtain⟨_,_,d2,d3⟩:=h5 0 (by show(0:Nat)<1;decide);rw[h.u1]at d2 d3;have hd3:=d3;obtain⟨ad',cap',e',_,g2⟩:=hd3;injection e' with e1' _ _;have hx0:w.cell? ⟨bu,ou,none⟩=some (.int .i64 x):=by
   rcases g2 with g2|⟨b3,o3,e3',_,g5⟩;·exact absurd g2 (by show ¬(2:Nat)=0;decide)
   rw[←e1']at e3';injection e3' with e3';injection e3' with e4 e5;subst e4 e5;have g6:=g5 0 (by show(0:Nat)<2;decide);exact g6
  have hfr:=((h.new.2 1 (by omega)).2 0 (by show(0:Nat)<1;decide)).resolve_left (by show ¬(2:Nat)=0;decide);rw[h.u1]at hfr;refine⟨h.box.cells,⟨?_,(h.new.1 _ _ _ rfl).2.2 off⟩,?_,?_,hx0,(hfr _ _ _ rfl).2.2 ou⟩
  ·have h9:w.cell? ⟨bl,off+0*3,none⟩=some (.bool t0):=c0
   rw[Nat.zero_mul,Nat.add_zero]at h9;exact h9
  ·have h9:w.cell? ⟨bl,off+1*3+2,none⟩=some (.slice (some ⟨bk,ok,none⟩) 1 ck):=c2
   rw[Nat.one_mul]at h9;exact h9
  have h9:w.cell? ⟨bk,ok+0*3+2,none⟩=some (.slice (some ⟨bu,ou,none⟩) 2 cu):=d2;rw[Nat.zero_mul,Nat.add_zero]at h9;exact h9
theorem WvAt.goes(h:WvAt B w g1 ab cb PV bl off cl KV UV bk ok ck bu ou cu t0 x):WvAt B (w.setCell ⟨bl,off,none⟩ (.bool false)) g1 ab cb PV bl off cl KV UV bk ok ck bu ou cu false x:=by
 have hc:=h.cells.2.1.1;have hz:(w.setCell ⟨bl,off,none⟩ (.bool false)).heap.size=w.heap.size:=by simp[World.setCell]
 have hp:=ps_there (P':=wP false x) h.box.2.2 (q:=0) (by omega) false (fun k hk=>⟨by simp only[wP];by_cases e:k=0<;>simp[e],rfl,rfl,rfl⟩);rw[Nat.zero_mul,Nat.add_zero]at hp;refine⟨⟨?_,?_,hp⟩,h.new.set (fun k hk=>⟨rfl,fun i hi=>rfl⟩) _ _,h.k1,h.u1,h.ne1,h.ne2⟩;·rw[Below.heap_setCell _ _ _ _ (by show g1≠bl;exact fun e=>h.ne1 e.symm)];exact h.box.1
 rw[hz];exact ve_bool h.box.2.1 hc _
end
end
def tlB:Nat→Int:=fun i=>[(9:Int)].getD i 0
def tlL:List Hp:=[⟨1,0,0,2,dnA,0,dn0,1,2⟩,⟨1,0,0,1,tlB,0,dn0,3,4⟩,⟨1,0,0,1,dnB,1,dnC,1,1⟩]
def tlH:Nat→Hp:=fun j=>tlL.getD j ⟨0,0,0,0,dn0,0,dn0,0,0⟩
def tlDV(g1 g2 g3:Nat):Nat→Value:=fun j=>if j=0 then .slice (some ⟨g1,0,none⟩) 2 2 else if j=1 then .slice (some ⟨g2,0,none⟩) 1 1 else .slice (some ⟨g3,0,none⟩) 1 1
def tlQV(g4:Nat):Nat→Value:=fun j=>if j=2 then .slice (some ⟨g4,0,none⟩) 1 1 else .slice none 0 0
theorem tl_list:hapL tlH 3=tlL:=rfl
theorem tl_e:savE 3 dnX 3=0:=by decide +kernel
theorem tl_n:(savedL dnM tlL).length=2:=by decide +kernel
theorem tl_l:slL (savedL dnM tlL) 1=1:=by decide +kernel
theorem tl_x:slX (savedL dnM tlL) 1 0=3:=by decide +kernel
theorem tl_s:spV 1 wB 5 (wP false 7) 0=1:=by decide +kernel
theorem tl_v:verM 1 wB 5 (wP false 7) 0=0:=by decide +kernel
theorem tl_w:verM 1 wB 5 (wP false 7) 1=4:=by decide +kernel
def tlCells(g1 g2 g3 g4:Nat):Array Value:=#[.int .i64 1,.int .i64 0,.int .i64 0,.slice (some ⟨g1,0,none⟩) 2 2,.slice none 0 0,.int .i64 1,.int .i64 2,.int .i64 1,.int .i64 0,.int .i64 0,.slice (some ⟨g2,0,none⟩) 1 1,.slice none 0 0,.int .i64 3,.int .i64 4,.int .i64 1,.int .i64 0,.int .i64 0,.slice (some ⟨g3,0,none⟩) 1 1,.slice (some ⟨g4,0,none⟩) 1 1,.int .i64 1,.int .i64 1]
theorem tl_slice{w:World}{g g1 g2 g3 g4:Nat}(hg:w.heap[g]?=some (.cells (tlCells g1 g2 g3 g4) 30 (0,0)))(h1:w.heap[g1]?=some (.cells #[.int .i64 1,.int .i64 2] 3 (0,0)))(h2:w.heap[g2]?=some (.cells #[.int .i64 9] 3 (0,0)))(h3:w.heap[g3]?=some (.cells #[.int .i64 3] 3 (0,0)))(h4:w.heap[g4]?=some (.cells #[.int .i64 0] 3 (0,0))):
 HpSl w w.heap.size (.slice (some ⟨g,0,none⟩) 3 3) 3 (tlDV g1 g2 g3) (tlQV g4) tlH :=
 ⟨_,_,rfl,⟨Nat.le_refl _,by omega⟩,Or.inr ⟨g,0,rfl,(Array.getElem?_eq_some_iff.1 hg).1,fun j hj=>by
  match j,hj with
  |0,_=>exact⟨⟨cell_at hg rfl,cell_at hg rfl,cell_at hg rfl,cell_at hg rfl,cell_at hg rfl,cell_at hg rfl,cell_at hg rfl⟩,isl_row2 h1 rfl rfl,isl_zero w _⟩
  |1,_=>exact⟨⟨cell_at hg rfl,cell_at hg rfl,cell_at hg rfl,cell_at hg rfl,cell_at hg rfl,cell_at hg rfl,cell_at hg rfl⟩,isl_row1 h2 rfl,isl_zero w _⟩
  |2,_=>exact⟨⟨cell_at hg rfl,cell_at hg rfl,cell_at hg rfl,cell_at hg rfl,cell_at hg rfl,cell_at hg rfl,cell_at hg rfl⟩,isl_row1 h3 rfl,isl_row1 h4 rfl⟩⟩⟩
theorem told_any(hO:MeshCore)(hT:TaleOwes)(w:World):Calls Tryz.prog 28 #[] w fun e w'=>e=.returned (.bool true)∧Below w.heap.size w w':=by
 have HO:=hid hO;have HT:=hid hT;clear hO hT;have hb1:=below_alloc w (.cells #[.int .i64 1,.int .i64 2] 3);have k1:=heap_alloc_new w (.cells #[.int .i64 1,.int .i64 2] 3);obtain⟨U1,hU1⟩:∃u,w.alloc (.cells #[.int .i64 1,.int .i64 2] 3)=u:=⟨_,rfl⟩;obtain⟨g1,hg1⟩:∃g,w.heap.size=g:=⟨_,rfl⟩;rw[hU1]at hb1 k1;rw[hg1]at k1;have hb2:=below_alloc U1 (.cells #[.int .i64 9] 3);have k2:=heap_alloc_new U1 (.cells #[.int .i64 9] 3);obtain⟨U2,hU2⟩:∃u,U1.alloc (.cells #[.int .i64 9] 3)=u:=⟨_,rfl⟩;obtain⟨g2,hg2⟩:∃g,U1.heap.size=g:=⟨_,rfl⟩;rw[hU2]at hb2 k2;rw[hg2]at k2;have hb3:=below_alloc U2 (.cells #[.int .i64 3] 3);have k3:=heap_alloc_new U2 (.cells #[.int .i64 3] 3);obtain⟨U3,hU3⟩:∃u,U2.alloc (.cells #[.int .i64 3] 3)=u:=⟨_,rfl⟩;obtain⟨g3,hg3⟩:∃g,U2.heap.size=g:=⟨_,rfl⟩;rw[hU3]at hb3 k3;rw[hg3]at k3
 have hb4:=below_alloc U3 (.cells #[.int .i64 0] 3);have k4:=heap_alloc_new U3 (.cells #[.int .i64 0] 3);obtain⟨U4,hU4⟩:∃u,U3.alloc (.cells #[.int .i64 0] 3)=u:=⟨_,rfl⟩;obtain⟨g4,hg4⟩:∃g,U3.heap.size=g:=⟨_,rfl⟩;rw[hU4]at hb4 k4;rw[hg4]at k4;have hb5:=below_alloc U4 (.cells (tlCells g1 g2 g3 g4) 30);have k5:=heap_alloc_new U4 (.cells (tlCells g1 g2 g3 g4) 30);obtain⟨U5,hU5⟩:∃u,U4.alloc (.cells (tlCells g1 g2 g3 g4) 30)=u:=⟨_,rfl⟩;obtain⟨g5,hg5⟩:∃g,U4.heap.size=g:=⟨_,rfl⟩;rw[hU5]at hb5 k5;rw[hg5]at k5;have hb6:=below_alloc U5 (.cells #[.int .i64 2,.int .i64 2,.int .i64 2] 3);have k6:=heap_alloc_new U5 (.cells #[.int .i64 2,.int .i64 2,.int .i64 2] 3);obtain⟨U6,hU6⟩:∃u,U5.alloc (.cells #[.int .i64 2,.int .i64 2,.int .i64 2] 3)=u:=⟨_,rfl⟩;obtain⟨g6,hg6⟩:∃g,U5.heap.size=g:=⟨_,rfl⟩;rw[hU6]at hb6 k6
 rw[hg6]at k6;have hs:=tl_slice (stayB k5 hb6) (stayB (stayB (stayB (stayB (stayB k1 hb2) hb3) hb4) hb5) hb6) (stayB (stayB (stayB (stayB k2 hb3) hb4) hb5) hb6) (stayB (stayB (stayB k3 hb4) hb5) hb6) (stayB (stayB k4 hb5) hb6);have CS:=hid (HT.out.saved _ 3 dnX _ 3 _ _ _ U6 (isl_three k6) (by omega) hs);rw[tl_e,tl_list,show(⟨0,noB,3,freshP dnX⟩:Ms)=dnM from rfl]at CS;have B6:Hid (Below w.heap.size w U6):=by
  have h2:=hb1.trans (hb2.mono hb1.size);have h3:=h2.trans (hb3.mono h2.size);have h4:=h3.trans (hb4.mono h3.size);have h5:=h4.trans (hb5.mono h4.size);exact h5.trans (hb6.mono h5.size)
 unfold tlCells at hU5;clear hb1 hb2 hb3 hb4 hb5 hb6 k1 k2 k3 k4 k5 k6 hs;go_enter Tryz.func28,Tryz.ntmps28;go_wp2_with fail
 refine Calls.mono CS.out ?_;rintro e u7 ⟨hb,vo,n7,VV,rfl,hn7,hls⟩;rw[if_pos rfl,tl_n]at hn7;subst hn7;obtain⟨b7,o7,c7,rfl,hb7,x7,hi7⟩:=hls.at (j:=1) (by omega);rw[tl_l]at hi7;obtain⟨a8,c8,hv8,z1,z2⟩:=id hi7;clear z1 z2;rw[hv8]at x7 hi7;have B7:=hid (B6.out.trans (hb.mono B6.out.size));have HI7:=hid hi7;have X7:Hid (∀u,Below u7.heap.size u7 u→u.cell? ⟨b7,o7+1,none⟩=some (.slice a8 1 c8)):=fun u hu=>by rw[hu.cell hb7];exact x7
 clear hb CS hls x7 hi7 hv8 hU1 hU2 hU3 hU4 hU5 hU6 hg1 hg2 hg3 hg4 hg5 hg6 B6;go_wp2_with fail
 refine Calls.mono (begun_any HO.out u7) ?_;rintro e W1 ⟨hb1,ab,cb,PV,al,cl,KV,UV,rfl,hv1,hl1,hN1⟩;have hbM:=below_alloc W1 (.cells #[.slice ab 1 cb,.slice al 5 cl] 27);have hx:=MsAt.box hv1 hl1;obtain⟨bl,off,hal,hbl,_,_,_,_⟩:=hl1.at (i:=0) (by omega);obtain⟨bl',off',hal',_,_,_,_,ke⟩:=hl1.at (i:=1) (by omega);subst hal;injection hal' with hal';injection hal' with e1 e2;subst e1 e2;obtain⟨ak,ck,hke,_,hk1⟩:=ke;rcases hk1 with hk1|⟨bk,ok,rfl,hbk,hk1⟩;·exact absurd hk1 (by show ¬(1:Nat)=0;decide)
 obtain⟨au,cu,hue,_,hu1⟩:=(hk1 0 (by show(0:Nat)<1;decide)).2.2.2;rcases hu1 with hu1|⟨bu,ou,rfl,hbu,hu1⟩;·exact absurd hu1 (by show ¬(2:Nat)=0;decide)
 obtain⟨V1,hV1⟩:∃v,World.alloc W1 (.cells #[.slice ab 1 cb,.slice (some ⟨bl,off,none⟩) 5 cl] 27)=v:=⟨_,rfl⟩;rw[hV1]at hbM hx;obtain⟨g1,hg1⟩:∃g,W1.heap.size=g:=⟨_,rfl⟩;have A1:Hid (WvAt u7.heap.size V1 g1 ab cb PV bl off cl KV UV bk ok ck bu ou cu true 7):=⟨by rw[←hg1];exact hx,hN1.up hbM,hke,hue,by omega,by omega⟩;have C1:=hid (hb1.trans (hbM.mono hb1.size));have HLo:Hid (u7.heap.size≤bl):=(hN1.1 _ _ _ rfl).1;obtain⟨⟨c0,c1⟩,⟨t0,ft⟩,_,_,_⟩:=A1.out.cells;have A2:=hid A1.out.goes;have C2:=hid (C1.out.setCell (p:=⟨bl,off,none⟩) (by show u7.heap.size≤bl;exact HLo.out) (.bool false));obtain⟨V2,hV2⟩:∃v,V1.setCell ⟨bl,off,none⟩ (.bool false)=v:=⟨_,rfl⟩;rw[hV2]at A2 C2;have CK:=hid (HT.out.spare _ 1 PV wB _ 5 KV UV (wP false 7) 0 V2 A2.out.box.2.1 A2.out.box.2.2);rw[tl_s,tl_v]at CK;unfold meshV at CK
 obtain⟨⟨d0,d1⟩,_⟩:=A2.out.cells;clear hbM hx hb1 hv1 hl1 hN1 hk1 hu1 hbl hbk hbu hke hue;go_wp2_with fail
 refine Calls.mono CK.out ?_;rintro e u8 ⟨rfl,hb⟩;have A3:=hid (A2.out.up hb);have C3:=hid (C2.out.trans (hb.mono C2.out.size));clear hb CK c0 c1 t0 ft d0 d1 hV1 hV2 A1 A2 C1 C2 hg1;have CK:=hid (HT.out.spare _ 1 PV wB _ 5 KV UV (wP false 7) 1 u8 A3.out.box.2.1 A3.out.box.2.2);unfold spV at CK;rw[tl_w,if_neg (by decide)]at CK;unfold meshV at CK;obtain⟨⟨d0,d1⟩,_⟩:=A3.out.cells;go_wp2_with fail
 refine Calls.mono CK.out ?_;rintro e u9 ⟨rfl,hb⟩;have C4:=hid (C3.out.trans (hb.mono C3.out.size));clear hb CK d0 d1 A3 C3;have x7:=X7.out u9 C4.out;have hbD:=below_alloc u9 (.cells #[.int .i64 3] 3);have kd:=heap_alloc_new u9 (.cells #[.int .i64 3] 3);obtain⟨V9,hV9⟩:∃v,World.alloc u9 (.cells #[.int .i64 3] 3)=v:=⟨_,rfl⟩;rw[hV9]at hbD kd;have CE:=hid (equal_isl ((HI7.out.up C4.out).up hbD) (isl_row1 (X:=fun _=>3) kd rfl))
 rw [show eqB 1 1 (slX (savedL dnM tlL) 1) (fun _ => 3) = true from decide_eq_true ⟨rfl, fun j hj => by obtain rfl : j = 0 := by omega
                                                                                                        exact tl_x⟩]at CE
 have B9:=hid (B7.out.trans ((C4.out.trans (hbD.mono C4.out.size)).mono B7.out.size));clear hbD kd;go_wp2_with fail
 refine Calls.mono CE.out ?_;rintro e y1 ⟨rfl,j1,hy1⟩;have hb:Below V9.heap.size V9 y1:=by rw[hy1];exact drewN_up _ _
 have B10:=hid (B9.out.trans (hb.mono B9.out.size));clear hb hy1 CE hV9 B9 x7;go_wp2;go_ret;exact⟨rfl,B10.out⟩
structure GvInv(w wr:World)(vb:Value)(av:Option Addr)(g np cap:Nat)(KV:Nat→Value)(UV:Nat→Nat→Value)(P:Ps):Prop where
 below:Below w.heap.size w wr
 box:wr.heap[w.heap.size]?=some (.cells #[vb,.slice av np cap] 27 (0,0))
 out:wr.heap[w.heap.size+1]?=some (.cells #[.slice none 0 0,.slice none 0 0] 27 (0,0))
 row:RowP wr g np KV P
 kept:∀k,k<np→KeSl wr wr.heap.size (KV k) (P.m k) (UV k) (P.t k)
theorem GvInv.up{w wr w':World}{vb:Value}{av:Option Addr}{g np cap:Nat}{KV:Nat→Value}{UV:Nat→Nat→Value}{P:Ps}(h:GvInv w wr vb av g np cap KV UV P)(hb:Below wr.heap.size wr w'):GvInv w w' vb av g np cap KV UV P :=
 ⟨h.below.trans (hb.mono h.below.size),stayB h.box hb,stayB h.out hb,h.row.up hb,fun k hk=>(h.kept k hk).up hb⟩
theorem GvInv.put{w wr:World}{vb:Value}{av:Option Addr}{g np cap q:Nat}{KV:Nat→Value}{UV:Nat→Nat→Value}{P P':Ps}(h:GvInv w wr vb av g np cap KV UV P)(hg:w.heap.size+1<g)(hq:q<np){r:Value}{UR:Nat→Value}(hs:∃a n c,KV q=.slice a n c)(e1:P'.th=P.th)(e2:P'.rm=P.rm)(e3:∀k,k<np→k≠q→P'.m k=P.m k∧P'.t k=P.t k)
 (hr:KeSl wr wr.heap.size r (P'.m q) UR (P'.t q)):GvInv w (wr.setCell ⟨g,q*3+2,none⟩ r) vb av g np cap (fun k=>if k=q then r else KV k) (fun k=>if k=q then UR else UV k) P':=by
 obtain⟨c1,c2,c3⟩:=h.row.cell q hq
 obtain⟨a,n,c,hsl⟩:=hs
 rw[hsl]at c3
 have hz:(wr.setCell ⟨g,q*3+2,none⟩ r).heap.size=wr.heap.size:=by simp[World.setCell]
 refine⟨h.below.setCell (p:=⟨g,q*3+2,none⟩) (by show w.heap.size≤g;omega) r,?_,?_,h.row.put hq r (fun k _=>by rw[e1]) (fun k _=>by rw[e2]),fun k hk=>?_⟩
 ·rw[Below.heap_setCell _ _ _ _ (by show w.heap.size≠g;omega)];exact h.box
 ·rw[Below.heap_setCell _ _ _ _ (by show w.heap.size+1≠g;omega)];exact h.out
 ·rw[hz]
  by_cases e:k=q
  ·subst e
   simp only[if_true];exact kel_slice hr c3 c1 r
  simp only[if_neg e];rw[(e3 k hk e).1,(e3 k hk e).2];exact kel_slice (h.kept k hk) c3 c1 r
theorem GvInv.slices{w wr:World}{vb:Value}{av:Option Addr}{g np cap:Nat}{KV:Nat→Value}{UV:Nat→Nat→Value}{P:Ps}(h:GvInv w wr vb av g np cap KV UV P){q:Nat}(hq:q<np):∃a c,KV q=.slice a (P.m q) c:=by
 obtain⟨a,c,e,_⟩:=h.kept q hq;exact⟨a,c,e⟩
theorem GvInv.fin{w wr:World}{vb:Value}{av:Option Addr}{g np cap:Nat}{KV:Nat→Value}{UV:Nat→Nat→Value}{P:Ps}(h:GvInv w wr vb av g np cap KV UV P){n:Nat}{PV:Nat→Value}{b:Bk}(hv:VeSl w w.heap.size vb n PV b)(ha:1≤np→av=some ⟨g,0,none⟩)(hg:1≤np→w.heap.size+1<g)(hc:np≤cap)(hn:np≤8):
 MeshPost w 0 n b np P (.returned (.tuple #[.agg #[vb,.slice av np cap],.int .i64 0])) (put2 wr (w.heap.size+1) vb (.slice av np cap)):=by
 have hB:Below w.heap.size w (put2 wr (w.heap.size+1) vb (.slice av np cap)):=put2_below h.below (by omega)
 refine⟨hB,vb,.slice av np cap,n,np,PV,KV,UV,rfl,rfl,rfl,hv.up hB,?_⟩
 by_cases h1:1≤np
 ·have hr:RowP (put2 wr (w.heap.size+1) vb (.slice av np cap)) g np KV P:=by
   have hg1:=hg h1;refine⟨fun k hk=>?_,fun i hi=>by unfold put2;rw[frozen_set,frozen_set];exact h.row.free i hi,by rw[put2_size];exact h.row.lt⟩;obtain⟨q1,q2,q3⟩:=h.row.cell k hk;unfold put2;exact⟨by rw[cell_set_lit (Or.inl (by omega)),cell_set_lit (Or.inl (by omega))];exact q1,by rw[cell_set_lit (Or.inl (by omega)),cell_set_lit (Or.inl (by omega))];exact q2,by rw[cell_set_lit (Or.inl (by omega)),cell_set_lit (Or.inl (by omega))];exact q3⟩
  exact hr.sl ha hc (by omega) fun k hk=>kel_put2 h.out (h.kept k hk) _ _
 ·exact⟨av,cap,rfl,⟨hc,by omega⟩,Or.inl (by omega)⟩
theorem adds_store{W U w0:World}{bm n:Nat}{v:Value}{PV:Nat→Value}{b:Bk}(hm:U.heap[bm]?=some (.cells #[.slice none 0 0] 24 (0,0)))(hv:OwnV w0 U v n PV b)(hW:Below W.heap.size W U)(hb:W.heap.size≤bm):
 Below W.heap.size W (U.setCell ⟨bm,0,none⟩ v)∧(U.setCell ⟨bm,0,none⟩ v).heap[bm]?=some (.cells #[v] 24 (0,0))∧(U.setCell ⟨bm,0,none⟩ v).ownsRow w0.heap.size 61 4 v n (flatV n PV b) :=
 ⟨hW.setCell (p:=⟨bm,0,none⟩) hb _,by simp[World.setCell,Array.getElem?_modify,hm],owns_set_other hv.1 (owns_ne hv.1 hm (by decide)) _⟩
end Go.Proofs.YtajmnlhfnhbleaaGreat
