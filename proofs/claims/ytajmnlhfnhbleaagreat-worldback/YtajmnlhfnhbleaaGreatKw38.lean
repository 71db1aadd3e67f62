/- Several texts of one proof, in their order. -/
import Derived.Test.YtajmnlhfnhbleaaGreatKw37
namespace Go.Proofs.YtajmnlhfnhbleaaGreat
open Go.RowKit Go.Maps CurveMath
set_option linter.unusedVariables false
set_option maxHeartbeats 8000000
set_option maxRecDepth 10000
section
theorem ve_boolC{w:World}{B g o:Nat}{v:Value}{n:Nat}{PV:Nat→Value}{b:Bk}{x:Bool}(h:VeSl w B v n PV b)(hne:∀ad n' c',v=.slice (some ad) n' c'→ad.block≠g)(hc:w.cell? ⟨g,o,none⟩=some (.bool x))(u:Value):VeSl (w.setCell ⟨g,o,none⟩ u) B v n PV b:=by
 obtain⟨ad,cap,rfl,h0,h2⟩:=h;refine⟨ad,cap,rfl,h0,?_⟩;rcases h2 with h2|⟨bl,off,rfl,h4,h5⟩;·exact Or.inl h2
 have hb:bl≠g:=hne _ _ _ rfl;refine Or.inr ⟨bl,off,rfl,h4,fun j hj=>?_⟩;obtain⟨x0,x1,x2,x3,x4⟩:=h5 j hj;exact⟨by rw[cell_set_lit (Or.inl hb)];exact x0,by rw[cell_set_lit (Or.inl hb)];exact x1,by rw[cell_set_lit (Or.inl hb)];exact x2,by rw[cell_set_lit (Or.inl hb)];exact x3,isl_bool x4 hc u⟩
theorem isl_ben{w:World}{B g L c:Nat}{X X':Nat→Int}{x:Int}(h:IntSl w B (.slice (some ⟨g,0,none⟩) L c) L X)(hL:1≤L)(e:∀r,r<L→X' r=if r=0 then x else X r):IntSl (w.setCell ⟨g,0,none⟩ (.int .i64 x)) B (.slice (some ⟨g,0,none⟩) L c) L X':=by
 obtain⟨ad,cap,e1,h0,h2⟩:=h;injection e1 with e1 _ e3;subst e1 e3;refine⟨_,_,rfl,h0,?_⟩;rcases h2 with h2|⟨b,off,e2,h4,h5⟩;·omega
 injection e2 with e2;injection e2 with e4 e5;subst e4 e5;refine Or.inr ⟨g,0,rfl,h4,fun j hj=>?_⟩;rw[e j hj];by_cases hj0:j=0
 ·subst hj0
  rw[if_pos rfl];exact cell_set_same (h5 0 hL) _
 rw[if_neg hj0,cell_set_lit (Or.inr (by omega))];exact h5 j hj
theorem RowP.thereC{wr:World}{g np q:Nat}{KV:Nat→Value}{P:Ps}(h:RowP wr g np KV P)(hq:q<np)(v:Bool):RowP (wr.setCell ⟨g,q*3,none⟩ (.bool v)) g np KV (putB P q v) :=
 ⟨fun k hk=>by
  obtain⟨h1,h2,h3⟩:=h.cell k hk;refine⟨?_,by rw[cell_set_lit (Or.inr (by omega))];exact h2,by rw[cell_set_lit (Or.inr (by omega))];exact h3⟩;show _=some (Value.bool (if k=q then v else P.th k));by_cases e:k=q;·subst e;rw[if_pos rfl];exact cell_set_same h1 _
  rw[if_neg e,cell_set_lit (Or.inr (by omega))];exact h1,
  fun i hi=>by rw[frozen_set];exact h.free i hi,by simpa[World.setCell]using h.lt⟩
section
variable {w wr w' : World} {ab : Option Addr} {n cb : Nat} {al : Option Addr} {np cl : Nat} {gv gp gm : Nat} {PV : Nat → Value} {b : Bk} {KV : Nat → Value} {UV : Nat → Nat → Value} {P P' : Ps}
theorem SprInv.there(h:SprInv w wr ab n cb al np cl gv gp gm PV b KV UV P){q:Nat}(hq:q<np)(v:Bool):SprInv w (wr.setCell ⟨gp,q*3,none⟩ (.bool v)) ab n cb al np cl gv gp gm PV b KV UV (putB P q v):=by
 obtain⟨n1,n2,n3,n4⟩:=h.ne;obtain⟨c1,c2,c3⟩:=h.row.cell q hq;have hz:(wr.setCell ⟨gp,q*3,none⟩ (.bool v)).heap.size=wr.heap.size:=by simp[World.setCell]
 refine⟨h.below.setCell (p:=⟨gp,q*3,none⟩) (by show w.heap.size≤gp;omega) _,?_,?_,?_,?_,h.row.thereC hq v,fun k hk=>?_,h.new.setS _ _,h.ne,h.verO⟩;·rw[Below.heap_setCell _ _ _ _ (by show w.heap.size≠gp;omega)];exact h.box
 ·rw[Below.heap_setCell _ _ _ _ (by show w.heap.size+1≠gp;omega)];exact h.out
 ·rw[Below.heap_setCell _ _ _ _ (by show gm≠gp;omega)];exact h.made
 ·rw[hz]
  exact ve_boolC h.ver (fun ad n' c' e=>by injection e with e;injection e with e;rw[←e];exact n2) c1 _
 rw[hz];exact kel_bool (h.kept k hk) c1 _
theorem SprInv.ben(h:SprInv w wr ab n cb al np cl gv gp gm PV b KV UV P){q i g c:Nat}(hq:q<np)(hi:i<P.m q)(hU:UV q i=.slice (some ⟨g,0,none⟩) ((P.t q).L i) c)(hL:1≤(P.t q).L i)
 (hw:w.heap.size+1<g) (hv:gv≠g) (hp:gp≠g) (hm:gm≠g) (oP:∀j,j<n→OfB g (b.PL j) (PV j)) (oK:∀k,k<np→OfB g (P.m k) (KV k)) (oU:∀k i',k<np→i'<P.m k→(k≠q∨i'≠i)→OfB g ((P.t k).L i') (UV k i')) :
 SprInv w (wr.setCell ⟨g,0,none⟩ (.int .i64 (((P.t q).X i 0+1)%31))) ab n cb al np cl gv gp gm PV b KV UV (putT P q (P.m q) (benT (P.t q) i 1)):=by
 have hz:(wr.setCell ⟨g,0,none⟩ (.int .i64 (((P.t q).X i 0+1)%31))).heap.size=wr.heap.size:=by simp[World.setCell]
 refine⟨h.below.setCell (p:=⟨g,0,none⟩) (by show w.heap.size≤g;omega) _,?_,?_,?_,?_,⟨fun k hk=>?_,fun j hj=>by rw[frozen_set];exact h.row.free j hj,by rw[hz];exact h.row.lt⟩,fun k hk=>?_,⟨h.new.1.set _ _,fun k hk=>?_⟩,h.ne,h.verO⟩
 ·rw[Below.heap_setCell _ _ _ _ (by show w.heap.size≠g;omega)];exact h.box
 ·rw[Below.heap_setCell _ _ _ _ (by show w.heap.size+1≠g;omega)];exact h.out
 ·rw[Below.heap_setCell _ _ _ _ (by show gm≠g;exact hm)];exact h.made
 ·rw[hz]
  exact h.ver.off ⟨Or.inr fun ad n' c' e=>by injection e with e;injection e with e;subst e;exact hv,oP⟩ _
 ·obtain⟨x1,x2,x3⟩:=h.row.cell k hk
  exact⟨by rw[cell_set_lit (Or.inl hp)];exact x1,by rw[cell_set_lit (Or.inl hp)];exact x2,by rw[cell_set_lit (Or.inl hp)];exact x3⟩
 ·rw[hz]
  show KeSl _ _ _ (if k=q then P.m q else P.m k) _ (if k=q then benT (P.t q) i 1 else P.t k);by_cases e:k=q
  ·subst e
   rw[if_pos rfl,if_pos rfl];obtain⟨ad,cap,e0,h0,h2⟩:=h.kept k hk;refine⟨ad,cap,e0,h0,?_⟩;rcases h2 with h2|⟨bl,off,rfl,h4,h5⟩;·exact Or.inl h2
   have hb:bl≠g:=by
    rcases oK k hk with h9|h9;·omega
    exact h9 _ _ _ e0
   refine Or.inr ⟨bl,off,rfl,h4,fun j hj=>?_⟩;obtain⟨y1,y2,y3,y4⟩:=h5 j hj;refine⟨by rw[cell_off hb];exact y1,by rw[cell_off hb];exact y2,by rw[cell_off hb];exact y3,?_⟩;by_cases ej:j=i
   ·subst ej
    rw[hU]at y4 ⊢;exact isl_ben y4 hL fun r hr=>by
     rw[ben_X];by_cases hr0:r=0;·rw[if_pos ⟨rfl,hr0⟩,if_pos hr0]
     rw[if_neg (fun hh=>hr0 hh.2),if_neg hr0]
   have hx:(benT (P.t k) i 1).X j=(P.t k).X j:=by
    funext r;rw[ben_X,if_neg (fun hh=>ej hh.1)]
   rw[hx];exact y4.off (oU k j hk hj (Or.inr ej)) _
  rw[if_neg e,if_neg e];exact(h.kept k hk).off ⟨oK k hk,fun i' hi'=>oU k i' hk hi' (Or.inl e)⟩ _
 ·show NewV _ _ (KV k)∧∀j,j<(if k=q then P.m q else P.m k)→(if k=q then benT (P.t q) i 1 else P.t k).L j=0∨NewV _ _ (UV k j)
  by_cases e:k=q
  ·subst e
   rw[if_pos rfl,if_pos rfl];exact⟨(h.new.2 k hk).1.set _ _,fun j hj=>((h.new.2 k hk).2 j hj).imp id fun h=>h.set _ _⟩
  rw[if_neg e,if_neg e];exact⟨(h.new.2 k hk).1.set _ _,fun j hj=>((h.new.2 k hk).2 j hj).imp id fun h=>h.set _ _⟩
end
theorem wdLeave(g o:Nat)(th:Bool)(w:World)(hc:w.cell? ⟨g,o,none⟩=some (.bool th))(hf:w.frozen? ⟨g,o,none⟩=false):
 Calls Tryz.prog 41 #[.pointer (some ⟨g,o,none⟩)] w fun e w'=>(th=true∧e=.returned (.int .i64 0)∧w'=w.setCell ⟨g,o,none⟩ (.bool false))∨(th=false∧e=.returned (.int .i64 6)∧w'=w):=by
 go_enter Tryz.func41,Tryz.ntmps41
 cases th with
 |true =>
  go_wp2;go_ret;exact⟨rfl,rfl⟩
 |false =>
  go_wp2;go_ret;exact⟨rfl,rfl⟩
theorem wdCome(g o:Nat)(th:Bool)(w:World)(hc:w.cell? ⟨g,o,none⟩=some (.bool th))(hf:w.frozen? ⟨g,o,none⟩=false):
 Calls Tryz.prog 42 #[.pointer (some ⟨g,o,none⟩)] w fun e w'=>(th=false∧e=.returned (.int .i64 0)∧w'=w.setCell ⟨g,o,none⟩ (.bool true))∨(th=true∧e=.returned (.int .i64 6)∧w'=w):=by
 go_enter Tryz.func42,Tryz.ntmps42
 cases th with
 |false =>
  go_wp2;go_ret;exact⟨rfl,rfl⟩
 |true =>
  go_wp2;go_ret;exact⟨rfl,rfl⟩
theorem wdLose(g o:Nat)(a:Option Addr)(m c:Nat)(w:World)(hc:w.cell? ⟨g,o+2,none⟩=some (.slice a m c))(hf:w.frozen? ⟨g,o+2,none⟩=false):
 Calls Tryz.prog 43 #[.pointer (some ⟨g,o,none⟩)] w fun e w'=>e=.returned (.int .i64 0)∧w'=w.setCell ⟨g,o+2,none⟩ (.slice none 0 0):=by
 go_enter Tryz.func43,Tryz.ntmps43
 go_wp2
 go_ret
 exact⟨rfl,rfl⟩
theorem wdBend_none(g o:Nat)(a:Option Addr)(m c:Nat)(M:Int)(w:World)(hc:w.cell? ⟨g,o+2,none⟩=some (.slice a m c))(hM:M<0∨(m:Int)≤M):
 Calls Tryz.prog 45 #[.pointer (some ⟨g,o,none⟩),.int .i64 M] w fun e w'=>e=.returned (.int .i64 4)∧w'=w:=by
 go_enter Tryz.func45,Tryz.ntmps45
 by_cases h0:M<0
 ·go_wp2
  go_ret;exact⟨rfl,rfl⟩
 ·have h1:M≥(m:Int):=by omega
  go_wp2;go_ret;exact⟨rfl,rfl⟩
theorem wdBend(g o gk m c q f L d:Nat)(x:Int)(w:World)(hc:w.cell? ⟨g,o+2,none⟩=some (.slice (some ⟨gk,0,none⟩) m c))(hq:q<m)(hu:w.cell? ⟨gk,q*3+2,none⟩=some (.slice (some ⟨f,0,none⟩) L d))(hL:1≤L)(hx:w.cell? ⟨f,0,none⟩=some (.int .i64 x))(hx2:0≤x∧x≤30)(hf:w.frozen? ⟨f,0,none⟩=false):
 Calls Tryz.prog 45 #[.pointer (some ⟨g,o,none⟩),.int .i64 (q:Int)] w fun e w'=>e=.returned (.int .i64 0)∧w'=w.setCell ⟨f,0,none⟩ (.int .i64 ((x+1)%31)):=by
 have h0:¬(q:Int)<0:=by omega
 have h1:¬(q:Int)≥(m:Int):=by omega
 have h2:(q:Int)<(m:Int):=by omega
 have h3:(0:Int)<(L:Int):=by omega
 go_enter Tryz.func45,Tryz.ntmps45
 go_wp2_with(go_at_call 85;go_must(refine(add_ok x 1 hx2 (by omega) _).mono ?_;rintro e w' ⟨rfl,rfl⟩))
 go_ret
 exact⟨rfl,rfl⟩
theorem wdChange_leave(vb:Value)(n:Nat)(PV:Nat→Value)(b:Bk)(vl:Value)(np:Nat)(KV:Nat→Value)(UV:Nat→Nat→Value)(P:Ps)(N M:Int)(len:Nat)(D:Nat→Int)(lp:Nat)(X:Nat→Int)(need of:Int)(w:World)
 (hv:VeSl w w.heap.size vb n PV b) (hl:PsSl w w.heap.size vl np KV UV P) (hR:MeshR n b np P) :
 Calls Tryz.prog 40 #[meshV vb vl,.int .i64 N,.func (.func 41) #[] #[]] w (MeshPostN w (lonE ⟨n,b,np,P⟩ ⟨2,N,M,len,D,lp,X,need,of⟩) n b np (lonP ⟨n,b,np,P⟩ ⟨2,N,M,len,D,lp,X,need,of⟩)):=by
 have hb0:=((Below.refl w.heap.size w).alloc (Nat.le_refl _) (.cells #[vb,vl] 27)).alloc (by simp) (.cells #[.slice none 0 0,.slice none 0 0] 27)
 have k1:=heap_two_old w (.cells #[vb,vl] 27) (.cells #[.slice none 0 0,.slice none 0 0] 27)
 have k2:=heap_two_new w (.cells #[vb,vl] 27) (.cells #[.slice none 0 0,.slice none 0 0] 27)
 obtain⟨W,hW⟩:∃W,(w.alloc (.cells #[vb,vl] 27)).alloc (.cells #[.slice none 0 0,.slice none 0 0] 27)=W:=⟨_,rfl⟩
 rw[hW]at hb0 k1 k2
 have HV:=hid hv
 have HL:=hid hl
 have HR:=hid hR
 have h8:=hR.few
 have hn12:n≤12:=(right_of hR.book).le
 obtain⟨ad,cap0,rfl,_,_⟩:=hv
 obtain⟨al,cl,rfl,_,_⟩:=hl
 obtain⟨er,her⟩:∃c,lonE ⟨n,b,np,P⟩ ⟨2,N,M,len,D,lp,X,need,of⟩=c:=⟨_,rfl⟩
 rw[her]
 have HEr:=hid her
 obtain⟨m0,m1⟩:=two_at k1
 have B0:=hid hb0
 have K1:=hid k1
 have K2:=hid k2
 have CW:=hid (frMesh _ n PV b _ np KV UV P W (HV.out.up hb0) (HL.out.up hb0) (by omega) (by omega))
 unfold meshV at CW
 clear hb0 k1 k2 her hR
 unfold meshV
 by_cases hN:N<0∨(np:Int)≤N
 ·have HE:Hid (er=4):=by
   show er=4;rw[←HEr.out];unfold lonE;rw[if_pos hN]
  obtain⟨r1,r2⟩:=two_at K2.out;have f1:=frozen_at (i:=0) K2.out;have f2:=frozen_at (i:=1) K2.out;go_enter Tryz.func40,Tryz.ntmps40;by_cases h0:N<0
  ·clear hN
   go_wp2;refine ret2 (put2_whole K2.out _ _) Tryz.underlying27 ?_;rw[HE.out];exact meshN_none (put2_below B0.out (by omega)) (by omega)
  have h1:N≥(np:Int):=by omega
  clear hN;go_wp2;refine ret2 (put2_whole K2.out _ _) Tryz.underlying27 ?_;rw[HE.out];exact meshN_none (put2_below B0.out (by omega)) (by omega)
 ·obtain⟨q,rfl⟩:∃q:Nat,N=q:=⟨N.toNat,by omega⟩
  have hqn:q<np:=by omega
  have h0:¬(q:Int)<0:=by omega
  have h1:¬(q:Int)≥(np:Int):=by omega
  have h2:(q:Int)<(np:Int):=by omega
  have HNot:=hid hN;clear hN;go_enter Tryz.func40,Tryz.ntmps40;go_wp2_with fail
  refine Calls.mono CW.out ?_;rintro e W2 ⟨hb2,gv,gp,QV,LV,VV,rfl,w1,w2,w3,hv2,hrow,hnew,hkept,hqa,T0,gk,f,hsep,ht1,ht2⟩;unfold meshV;have hs1:w.heap.size+1<W.heap.size:=(Array.getElem?_eq_some_iff.1 K2.out).1;have hb3:=hb2.alloc hb2.size (.cells #[.slice (some ⟨gv,0,none⟩) n n,.slice (some ⟨gp,0,none⟩) np np] 27);have hb23:=below_alloc W2 (.cells #[.slice (some ⟨gv,0,none⟩) n n,.slice (some ⟨gp,0,none⟩) np np] 27);have k9:=heap_alloc_new W2 (.cells #[.slice (some ⟨gv,0,none⟩) n n,.slice (some ⟨gp,0,none⟩) np np] 27);obtain⟨Y,hY⟩:∃u,W2.alloc (.cells #[.slice (some ⟨gv,0,none⟩) n n,.slice (some ⟨gp,0,none⟩) np np] 27)=u:=⟨_,rfl⟩;rw[hY]at hb3 hb23 k9;have hB1:=B0.out.size;have hgpl:=hrow.lt;have GI:Hid (SprInv w Y ad n cap0 al np cl gv gp W2.heap.size QV b LV VV P):=by
   refine⟨B0.out.trans (hb3.mono B0.out.size),stayB K1.out hb3,stayB K2.out hb3,k9,hv2.up hb23,hrow.up hb23,fun k hk=>(hkept k hk).1.up hb23,⟨(hnew.mono (by omega)).up hb23,fun k hk=>⟨((hkept k hk).2.1.mono (by omega)).up hb23,fun i hi=>Or.inr ((((hkept k hk).2.2 i hi).mono (by omega)).up hb23)⟩⟩,⟨by omega,w3,by omega,by have:=hb2.size;omega⟩,fun s hs=>⟨Or.inr fun ad n' c' e=>(by injection e with e;injection e with e;subst e;show gv≠s;omega),fun j hj=>OfB.above ((hqa j hj).mono' (by omega))⟩⟩
  obtain⟨gm,hgm⟩:∃g,W2.heap.size=g:=⟨_,rfl⟩;rw[hgm]at GI ;clear hb2 hv2 hrow hnew hkept hqa hb3 hb23 k9 w1 w2 w3 hs1 hB1 hgpl CW m0 m1 hsep ht1 ht2 hW;obtain⟨c0,c1⟩:=two_at GI.out.made;obtain⟨p0,p1,p2⟩:=GI.out.row.cell q hqn;have q0:=GI.out.row.free (q*3) (by omega);have q2:=GI.out.row.free (q*3+2) (by omega);have hX:er=lonE ⟨n,b,np,P⟩ ⟨2,(q:Int),M,len,D,lp,X,need,of⟩:=HEr.out.symm;unfold lonE at hX;rw[if_neg HNot.out]at hX;have CH:=hid (wdLeave gp (q*3) (P.th q) Y p0 q0);have HX:=hid hX;clear hX;go_wp2_with fail
  refine Calls.mono CH.out ?_;rintro e U hU;clear hY;rcases hU with⟨ht,rfl,rfl⟩|⟨ht,rfl,rfl⟩
  ·have HE:Hid (er=0):=by
    show er=0;rw[HX.out];simp[ht]
   have GJ:Hid (SprInv w (Y.setCell ⟨gp,q*3,none⟩ (.bool false)) ad n cap0 al np cl gv gp gm QV b LV VV (lonP ⟨n,b,np,P⟩ ⟨2,(q:Int),M,len,D,lp,X,need,of⟩)):=by
    have h9:=GI.out.there hqn false;have e9:lonP ⟨n,b,np,P⟩ ⟨2,(q:Int),M,len,D,lp,X,need,of⟩=putB P q false:=by unfold lonP;simp
    show SprInv _ _ _ _ _ _ _ _ _ _ _ _ _ _ _ _;rw[e9];exact h9
   obtain⟨Z,hZ⟩:∃z,Y.setCell ⟨gp,q*3,none⟩ (.bool false)=z:=⟨_,rfl⟩;rw[hZ]at GJ ⊢;clear hZ c0 c1 p0 p1 p2 q0 q2 CH;obtain⟨c0,c1⟩:=two_at GJ.out.made;obtain⟨r1,r2⟩:=two_at GJ.out.out;have f1:=frozen_at (i:=0) GJ.out.out;have f2:=frozen_at (i:=1) GJ.out.out;go_wp2;refine ret2 (put2_whole GJ.out.out _ _) Tryz.underlying27 ?_;rw[HE.out];exact(GJ.out.fin (C:=False) (ver:=0) h8 rfl (fun h=>h.elim)).n
  have HE:Hid (er=6):=by
   show er=6;rw[HX.out];simp[ht]
  obtain⟨r1,r2⟩:=two_at GI.out.out;have f1:=frozen_at (i:=0) GI.out.out;have f2:=frozen_at (i:=1) GI.out.out;clear c0 c1 p0 p1 p2 q0 q2;go_wp2;refine ret2 (put2_whole GI.out.out _ _) Tryz.underlying27 ?_;rw[HE.out];exact meshN_none (put2_below GI.out.below (by omega)) (by omega)
theorem wdChange_come(vb:Value)(n:Nat)(PV:Nat→Value)(b:Bk)(vl:Value)(np:Nat)(KV:Nat→Value)(UV:Nat→Nat→Value)(P:Ps)(N M:Int)(len:Nat)(D:Nat→Int)(lp:Nat)(X:Nat→Int)(need of:Int)(w:World)
 (hv:VeSl w w.heap.size vb n PV b) (hl:PsSl w w.heap.size vl np KV UV P) (hR:MeshR n b np P) :
 Calls Tryz.prog 40 #[meshV vb vl,.int .i64 N,.func (.func 42) #[] #[]] w (MeshPostN w (lonE ⟨n,b,np,P⟩ ⟨3,N,M,len,D,lp,X,need,of⟩) n b np (lonP ⟨n,b,np,P⟩ ⟨3,N,M,len,D,lp,X,need,of⟩)):=by
 have hb0:=((Below.refl w.heap.size w).alloc (Nat.le_refl _) (.cells #[vb,vl] 27)).alloc (by simp) (.cells #[.slice none 0 0,.slice none 0 0] 27)
 have k1:=heap_two_old w (.cells #[vb,vl] 27) (.cells #[.slice none 0 0,.slice none 0 0] 27)
 have k2:=heap_two_new w (.cells #[vb,vl] 27) (.cells #[.slice none 0 0,.slice none 0 0] 27)
 obtain⟨W,hW⟩:∃W,(w.alloc (.cells #[vb,vl] 27)).alloc (.cells #[.slice none 0 0,.slice none 0 0] 27)=W:=⟨_,rfl⟩
 rw[hW]at hb0 k1 k2
 have HV:=hid hv
 have HL:=hid hl
 have HR:=hid hR
 have h8:=hR.few
 have hn12:n≤12:=(right_of hR.book).le
 obtain⟨ad,cap0,rfl,_,_⟩:=hv
 obtain⟨al,cl,rfl,_,_⟩:=hl
 obtain⟨er,her⟩:∃c,lonE ⟨n,b,np,P⟩ ⟨3,N,M,len,D,lp,X,need,of⟩=c:=⟨_,rfl⟩
 rw[her]
 have HEr:=hid her
 obtain⟨m0,m1⟩:=two_at k1
 have B0:=hid hb0
 have K1:=hid k1
 have K2:=hid k2
 have CW:=hid (frMesh _ n PV b _ np KV UV P W (HV.out.up hb0) (HL.out.up hb0) (by omega) (by omega))
 unfold meshV at CW
 clear hb0 k1 k2 her hR
 unfold meshV
 by_cases hN:N<0∨(np:Int)≤N
 ·have HE:Hid (er=4):=by
   show er=4;rw[←HEr.out];unfold lonE;rw[if_pos hN]
  obtain⟨r1,r2⟩:=two_at K2.out;have f1:=frozen_at (i:=0) K2.out;have f2:=frozen_at (i:=1) K2.out;go_enter Tryz.func40,Tryz.ntmps40;by_cases h0:N<0
  ·clear hN
   go_wp2;refine ret2 (put2_whole K2.out _ _) Tryz.underlying27 ?_;rw[HE.out];exact meshN_none (put2_below B0.out (by omega)) (by omega)
  have h1:N≥(np:Int):=by omega
  clear hN;go_wp2;refine ret2 (put2_whole K2.out _ _) Tryz.underlying27 ?_;rw[HE.out];exact meshN_none (put2_below B0.out (by omega)) (by omega)
 ·obtain⟨q,rfl⟩:∃q:Nat,N=q:=⟨N.toNat,by omega⟩
  have hqn:q<np:=by omega
  have h0:¬(q:Int)<0:=by omega
  have h1:¬(q:Int)≥(np:Int):=by omega
  have h2:(q:Int)<(np:Int):=by omega
  have HNot:=hid hN;clear hN;go_enter Tryz.func40,Tryz.ntmps40;go_wp2_with fail
  refine Calls.mono CW.out ?_;rintro e W2 ⟨hb2,gv,gp,QV,LV,VV,rfl,w1,w2,w3,hv2,hrow,hnew,hkept,hqa,T0,gk,f,hsep,ht1,ht2⟩;unfold meshV;have hs1:w.heap.size+1<W.heap.size:=(Array.getElem?_eq_some_iff.1 K2.out).1;have hb3:=hb2.alloc hb2.size (.cells #[.slice (some ⟨gv,0,none⟩) n n,.slice (some ⟨gp,0,none⟩) np np] 27);have hb23:=below_alloc W2 (.cells #[.slice (some ⟨gv,0,none⟩) n n,.slice (some ⟨gp,0,none⟩) np np] 27);have k9:=heap_alloc_new W2 (.cells #[.slice (some ⟨gv,0,none⟩) n n,.slice (some ⟨gp,0,none⟩) np np] 27);obtain⟨Y,hY⟩:∃u,W2.alloc (.cells #[.slice (some ⟨gv,0,none⟩) n n,.slice (some ⟨gp,0,none⟩) np np] 27)=u:=⟨_,rfl⟩;rw[hY]at hb3 hb23 k9;have hB1:=B0.out.size;have hgpl:=hrow.lt;have GI:Hid (SprInv w Y ad n cap0 al np cl gv gp W2.heap.size QV b LV VV P):=by
   refine⟨B0.out.trans (hb3.mono B0.out.size),stayB K1.out hb3,stayB K2.out hb3,k9,hv2.up hb23,hrow.up hb23,fun k hk=>(hkept k hk).1.up hb23,⟨(hnew.mono (by omega)).up hb23,fun k hk=>⟨((hkept k hk).2.1.mono (by omega)).up hb23,fun i hi=>Or.inr ((((hkept k hk).2.2 i hi).mono (by omega)).up hb23)⟩⟩,⟨by omega,w3,by omega,by have:=hb2.size;omega⟩,fun s hs=>⟨Or.inr fun ad n' c' e=>(by injection e with e;injection e with e;subst e;show gv≠s;omega),fun j hj=>OfB.above ((hqa j hj).mono' (by omega))⟩⟩
  obtain⟨gm,hgm⟩:∃g,W2.heap.size=g:=⟨_,rfl⟩;rw[hgm]at GI ;clear hb2 hv2 hrow hnew hkept hqa hb3 hb23 k9 w1 w2 w3 hs1 hB1 hgpl CW m0 m1 hsep ht1 ht2 hW;obtain⟨c0,c1⟩:=two_at GI.out.made;obtain⟨p0,p1,p2⟩:=GI.out.row.cell q hqn;have q0:=GI.out.row.free (q*3) (by omega);have q2:=GI.out.row.free (q*3+2) (by omega);have hX:er=lonE ⟨n,b,np,P⟩ ⟨3,(q:Int),M,len,D,lp,X,need,of⟩:=HEr.out.symm;unfold lonE at hX;rw[if_neg HNot.out]at hX;have CH:=hid (wdCome gp (q*3) (P.th q) Y p0 q0);have HX:=hid hX;clear hX;go_wp2_with fail
  refine Calls.mono CH.out ?_;rintro e U hU;clear hY;rcases hU with⟨ht,rfl,rfl⟩|⟨ht,rfl,rfl⟩
  ·have HE:Hid (er=0):=by
    show er=0;rw[HX.out];simp[ht]
   have GJ:Hid (SprInv w (Y.setCell ⟨gp,q*3,none⟩ (.bool true)) ad n cap0 al np cl gv gp gm QV b LV VV (lonP ⟨n,b,np,P⟩ ⟨3,(q:Int),M,len,D,lp,X,need,of⟩)):=by
    have h9:=GI.out.there hqn true;have e9:lonP ⟨n,b,np,P⟩ ⟨3,(q:Int),M,len,D,lp,X,need,of⟩=putB P q true:=by unfold lonP;simp
    show SprInv _ _ _ _ _ _ _ _ _ _ _ _ _ _ _ _;rw[e9];exact h9
   obtain⟨Z,hZ⟩:∃z,Y.setCell ⟨gp,q*3,none⟩ (.bool true)=z:=⟨_,rfl⟩;rw[hZ]at GJ ⊢;clear hZ c0 c1 p0 p1 p2 q0 q2 CH;obtain⟨c0,c1⟩:=two_at GJ.out.made;obtain⟨r1,r2⟩:=two_at GJ.out.out;have f1:=frozen_at (i:=0) GJ.out.out;have f2:=frozen_at (i:=1) GJ.out.out;go_wp2;refine ret2 (put2_whole GJ.out.out _ _) Tryz.underlying27 ?_;rw[HE.out];exact(GJ.out.fin (C:=False) (ver:=0) h8 rfl (fun h=>h.elim)).n
  have HE:Hid (er=6):=by
   show er=6;rw[HX.out];simp[ht]
  obtain⟨r1,r2⟩:=two_at GI.out.out;have f1:=frozen_at (i:=0) GI.out.out;have f2:=frozen_at (i:=1) GI.out.out;clear c0 c1 p0 p1 p2 q0 q2;go_wp2;refine ret2 (put2_whole GI.out.out _ _) Tryz.underlying27 ?_;rw[HE.out];exact meshN_none (put2_below GI.out.below (by omega)) (by omega)
theorem wdChange_lose(vb:Value)(n:Nat)(PV:Nat→Value)(b:Bk)(vl:Value)(np:Nat)(KV:Nat→Value)(UV:Nat→Nat→Value)(P:Ps)(N M:Int)(len:Nat)(D:Nat→Int)(lp:Nat)(X:Nat→Int)(need of:Int)(w:World)
 (hv:VeSl w w.heap.size vb n PV b) (hl:PsSl w w.heap.size vl np KV UV P) (hR:MeshR n b np P) :
 Calls Tryz.prog 40 #[meshV vb vl,.int .i64 N,.func (.func 43) #[] #[]] w (MeshPostN w (lonE ⟨n,b,np,P⟩ ⟨4,N,M,len,D,lp,X,need,of⟩) n b np (lonP ⟨n,b,np,P⟩ ⟨4,N,M,len,D,lp,X,need,of⟩)):=by
 have hb0:=((Below.refl w.heap.size w).alloc (Nat.le_refl _) (.cells #[vb,vl] 27)).alloc (by simp) (.cells #[.slice none 0 0,.slice none 0 0] 27)
 have k1:=heap_two_old w (.cells #[vb,vl] 27) (.cells #[.slice none 0 0,.slice none 0 0] 27)
 have k2:=heap_two_new w (.cells #[vb,vl] 27) (.cells #[.slice none 0 0,.slice none 0 0] 27)
 obtain⟨W,hW⟩:∃W,(w.alloc (.cells #[vb,vl] 27)).alloc (.cells #[.slice none 0 0,.slice none 0 0] 27)=W:=⟨_,rfl⟩
 rw[hW]at hb0 k1 k2
 have HV:=hid hv
 have HL:=hid hl
 have HR:=hid hR
 have h8:=hR.few
 have hn12:n≤12:=(right_of hR.book).le
 obtain⟨ad,cap0,rfl,_,_⟩:=hv
 obtain⟨al,cl,rfl,_,_⟩:=hl
 obtain⟨er,her⟩:∃c,lonE ⟨n,b,np,P⟩ ⟨4,N,M,len,D,lp,X,need,of⟩=c:=⟨_,rfl⟩
 rw[her]
 have HEr:=hid her
 obtain⟨m0,m1⟩:=two_at k1
 have B0:=hid hb0
 have K1:=hid k1
 have K2:=hid k2
 have CW:=hid (frMesh _ n PV b _ np KV UV P W (HV.out.up hb0) (HL.out.up hb0) (by omega) (by omega))
 unfold meshV at CW
 clear hb0 k1 k2 her hR
 unfold meshV
 by_cases hN:N<0∨(np:Int)≤N
 ·have HE:Hid (er=4):=by
   show er=4;rw[←HEr.out];unfold lonE;rw[if_pos hN]
  obtain⟨r1,r2⟩:=two_at K2.out;have f1:=frozen_at (i:=0) K2.out;have f2:=frozen_at (i:=1) K2.out;go_enter Tryz.func40,Tryz.ntmps40;by_cases h0:N<0
  ·clear hN
   go_wp2;refine ret2 (put2_whole K2.out _ _) Tryz.underlying27 ?_;rw[HE.out];exact meshN_none (put2_below B0.out (by omega)) (by omega)
  have h1:N≥(np:Int):=by omega
  clear hN;go_wp2;refine ret2 (put2_whole K2.out _ _) Tryz.underlying27 ?_;rw[HE.out];exact meshN_none (put2_below B0.out (by omega)) (by omega)
 ·obtain⟨q,rfl⟩:∃q:Nat,N=q:=⟨N.toNat,by omega⟩
  have hqn:q<np:=by omega
  have h0:¬(q:Int)<0:=by omega
  have h1:¬(q:Int)≥(np:Int):=by omega
  have h2:(q:Int)<(np:Int):=by omega
  have HNot:=hid hN;clear hN;go_enter Tryz.func40,Tryz.ntmps40;go_wp2_with fail
  refine Calls.mono CW.out ?_;rintro e W2 ⟨hb2,gv,gp,QV,LV,VV,rfl,w1,w2,w3,hv2,hrow,hnew,hkept,hqa,T0,gk,f,hsep,ht1,ht2⟩;unfold meshV;have hs1:w.heap.size+1<W.heap.size:=(Array.getElem?_eq_some_iff.1 K2.out).1;have hb3:=hb2.alloc hb2.size (.cells #[.slice (some ⟨gv,0,none⟩) n n,.slice (some ⟨gp,0,none⟩) np np] 27);have hb23:=below_alloc W2 (.cells #[.slice (some ⟨gv,0,none⟩) n n,.slice (some ⟨gp,0,none⟩) np np] 27);have k9:=heap_alloc_new W2 (.cells #[.slice (some ⟨gv,0,none⟩) n n,.slice (some ⟨gp,0,none⟩) np np] 27);obtain⟨Y,hY⟩:∃u,W2.alloc (.cells #[.slice (some ⟨gv,0,none⟩) n n,.slice (some ⟨gp,0,none⟩) np np] 27)=u:=⟨_,rfl⟩;rw[hY]at hb3 hb23 k9;have hB1:=B0.out.size;have hgpl:=hrow.lt;have GI:Hid (SprInv w Y ad n cap0 al np cl gv gp W2.heap.size QV b LV VV P):=by
   refine⟨B0.out.trans (hb3.mono B0.out.size),stayB K1.out hb3,stayB K2.out hb3,k9,hv2.up hb23,hrow.up hb23,fun k hk=>(hkept k hk).1.up hb23,⟨(hnew.mono (by omega)).up hb23,fun k hk=>⟨((hkept k hk).2.1.mono (by omega)).up hb23,fun i hi=>Or.inr ((((hkept k hk).2.2 i hi).mono (by omega)).up hb23)⟩⟩,⟨by omega,w3,by omega,by have:=hb2.size;omega⟩,fun s hs=>⟨Or.inr fun ad n' c' e=>(by injection e with e;injection e with e;subst e;show gv≠s;omega),fun j hj=>OfB.above ((hqa j hj).mono' (by omega))⟩⟩
  obtain⟨gm,hgm⟩:∃g,W2.heap.size=g:=⟨_,rfl⟩;rw[hgm]at GI ;clear hb2 hv2 hrow hnew hkept hqa hb3 hb23 k9 w1 w2 w3 hs1 hB1 hgpl CW m0 m1 hsep ht1 ht2 hW;obtain⟨c0,c1⟩:=two_at GI.out.made;obtain⟨p0,p1,p2⟩:=GI.out.row.cell q hqn;have q0:=GI.out.row.free (q*3) (by omega);have q2:=GI.out.row.free (q*3+2) (by omega);have hX:er=lonE ⟨n,b,np,P⟩ ⟨4,(q:Int),M,len,D,lp,X,need,of⟩:=HEr.out.symm;unfold lonE at hX;rw[if_neg HNot.out]at hX;obtain⟨ak,ck,hke,_,_⟩:=GI.out.kept q hqn;rw[hke]at p2;have CH:=hid (wdLose gp (q*3) ak (P.m q) ck Y p2 q2);have HX:=hid hX;clear hX hke;go_wp2_with fail
  refine Calls.mono CH.out ?_;rintro e U ⟨rfl,rfl⟩;clear hY;have HE:Hid (er=0):=by
   show er=0;rw[HX.out];simp
  have GJ:Hid (SprInv w (Y.setCell ⟨gp,q*3+2,none⟩ (.slice none 0 0)) ad n cap0 al np cl gv gp gm QV b (fun k=>if k=q then .slice none 0 0 else LV k) (fun k=>if k=q then VV q else VV k) (lonP ⟨n,b,np,P⟩ ⟨4,(q:Int),M,len,D,lp,X,need,of⟩)):=by
   have e9:lonP ⟨n,b,np,P⟩ ⟨4,(q:Int),M,len,D,lp,X,need,of⟩=putT P q 0 (P.t q):=by unfold lonP;simp
   show SprInv _ _ _ _ _ _ _ _ _ _ _ _ _ _ _ _;rw[e9];refine GI.out.put (P':=putT P q 0 (P.t q)) hqn rfl rfl (fun k _ hkq=>⟨if_neg hkq,if_neg hkq⟩) ?_ ⟨NewV.none _ _ _ _,fun i hi=>?_⟩
   ·have e1:(putT P q 0 (P.t q)).m q=0:=if_pos rfl
    rw[e1];exact⟨none,0,rfl,⟨Nat.le_refl _,by omega⟩,Or.inl rfl⟩
   have e1:(putT P q 0 (P.t q)).m q=0:=if_pos rfl;omega
  obtain⟨Z,hZ⟩:∃z,Y.setCell ⟨gp,q*3+2,none⟩ (.slice none 0 0)=z:=⟨_,rfl⟩;rw[hZ]at GJ ⊢;clear hZ c0 c1 p0 p1 p2 q0 q2 CH;obtain⟨c0,c1⟩:=two_at GJ.out.made;obtain⟨r1,r2⟩:=two_at GJ.out.out;have f1:=frozen_at (i:=0) GJ.out.out;have f2:=frozen_at (i:=1) GJ.out.out;go_wp2;refine ret2 (put2_whole GJ.out.out _ _) Tryz.underlying27 ?_;rw[HE.out];exact(GJ.out.fin (C:=False) (ver:=0) h8 rfl (fun h=>h.elim)).n
theorem oneK_someC{b:Bk}{t:Kt}{i:Nat}(h:oneK b t i=0):1≤t.L i∧(0≤t.X i 0∧t.X i 0≤30):=by
 unfold oneK at h;obtain⟨g1,g2,g3,g4⟩:=oneE_ok h;obtain⟨b1,b2,b3⟩:=planOk_spec g1;have hr:=rowsN_bd b1 b3;have hl:1≤t.L i:=by omega
 have h5:=of_decide_eq_true g4 0 (by omega);unfold isNum at h5;rw[decide_eq_true_iff]at h5;exact⟨hl,h5⟩
theorem wdChange_bend(vb:Value)(n:Nat)(PV:Nat→Value)(b:Bk)(vl:Value)(np:Nat)(KV:Nat→Value)(UV:Nat→Nat→Value)(P:Ps)(N M:Int)(len:Nat)(D:Nat→Int)(lp:Nat)(X:Nat→Int)(need of:Int)(gx:Nat)(w:World)
 (hv:VeSl w w.heap.size vb n PV b) (hl:PsSl w w.heap.size vl np KV UV P) (hR:MeshR n b np P) (hx:w.cell? ⟨gx,2,none⟩=some (.int .i64 M)) :
 Calls Tryz.prog 40 #[meshV vb vl,.int .i64 N,.func (.func 44) #[] #[.pointer (some ⟨gx,0,none⟩)]] w (MeshPostN w (lonE ⟨n,b,np,P⟩ ⟨5,N,M,len,D,lp,X,need,of⟩) n b np (lonP ⟨n,b,np,P⟩ ⟨5,N,M,len,D,lp,X,need,of⟩)):=by
 have hb0:=((Below.refl w.heap.size w).alloc (Nat.le_refl _) (.cells #[vb,vl] 27)).alloc (by simp) (.cells #[.slice none 0 0,.slice none 0 0] 27)
 have k1:=heap_two_old w (.cells #[vb,vl] 27) (.cells #[.slice none 0 0,.slice none 0 0] 27)
 have k2:=heap_two_new w (.cells #[vb,vl] 27) (.cells #[.slice none 0 0,.slice none 0 0] 27)
 obtain⟨W,hW⟩:∃W,(w.alloc (.cells #[vb,vl] 27)).alloc (.cells #[.slice none 0 0,.slice none 0 0] 27)=W:=⟨_,rfl⟩
 rw[hW]at hb0 k1 k2
 have HV:=hid hv
 have HL:=hid hl
 have HR:=hid hR
 have h8:=hR.few
 have hn12:n≤12:=(right_of hR.book).le
 obtain⟨ad,cap0,rfl,_,_⟩:=hv
 obtain⟨al,cl,rfl,_,_⟩:=hl
 obtain⟨er,her⟩:∃c,lonE ⟨n,b,np,P⟩ ⟨5,N,M,len,D,lp,X,need,of⟩=c:=⟨_,rfl⟩
 rw[her]
 have HEr:=hid her
 obtain⟨m0,m1⟩:=two_at k1
 have B0:=hid hb0
 have K1:=hid k1
 have K2:=hid k2
 have CW:=hid (frMesh _ n PV b _ np KV UV P W (HV.out.up hb0) (HL.out.up hb0) (by omega) (by omega))
 unfold meshV at CW
 clear hb0 k1 k2 her hR
 unfold meshV
 by_cases hN:N<0∨(np:Int)≤N
 ·have HE:Hid (er=4):=by
   show er=4;rw[←HEr.out];unfold lonE;rw[if_pos hN]
  obtain⟨r1,r2⟩:=two_at K2.out;have f1:=frozen_at (i:=0) K2.out;have f2:=frozen_at (i:=1) K2.out;go_enter Tryz.func40,Tryz.ntmps40;by_cases h0:N<0
  ·clear hN
   go_wp2;refine ret2 (put2_whole K2.out _ _) Tryz.underlying27 ?_;rw[HE.out];exact meshN_none (put2_below B0.out (by omega)) (by omega)
  have h1:N≥(np:Int):=by omega
  clear hN;go_wp2;refine ret2 (put2_whole K2.out _ _) Tryz.underlying27 ?_;rw[HE.out];exact meshN_none (put2_below B0.out (by omega)) (by omega)
 ·obtain⟨q,rfl⟩:∃q:Nat,N=q:=⟨N.toNat,by omega⟩
  have hqn:q<np:=by omega
  have h0:¬(q:Int)<0:=by omega
  have h1:¬(q:Int)≥(np:Int):=by omega
  have h2:(q:Int)<(np:Int):=by omega
  have HNot:=hid hN;clear hN;go_enter Tryz.func40,Tryz.ntmps40;go_wp2_with fail
  refine Calls.mono CW.out ?_;rintro e W2 ⟨hb2,gv,gp,QV,LV,VV,rfl,w1,w2,w3,hv2,hrow,hnew,hkept,hqa,T0,gk,f,hsep,ht1,ht2⟩;unfold meshV;have hs1:w.heap.size+1<W.heap.size:=(Array.getElem?_eq_some_iff.1 K2.out).1;have hb3:=hb2.alloc hb2.size (.cells #[.slice (some ⟨gv,0,none⟩) n n,.slice (some ⟨gp,0,none⟩) np np] 27);have hb23:=below_alloc W2 (.cells #[.slice (some ⟨gv,0,none⟩) n n,.slice (some ⟨gp,0,none⟩) np np] 27);have k9:=heap_alloc_new W2 (.cells #[.slice (some ⟨gv,0,none⟩) n n,.slice (some ⟨gp,0,none⟩) np np] 27);obtain⟨Y,hY⟩:∃u,W2.alloc (.cells #[.slice (some ⟨gv,0,none⟩) n n,.slice (some ⟨gp,0,none⟩) np np] 27)=u:=⟨_,rfl⟩;rw[hY]at hb3 hb23 k9;have hB1:=B0.out.size;have hgpl:=hrow.lt;have GI:Hid (SprInv w Y ad n cap0 al np cl gv gp W2.heap.size QV b LV VV P):=by
   refine⟨B0.out.trans (hb3.mono B0.out.size),stayB K1.out hb3,stayB K2.out hb3,k9,hv2.up hb23,hrow.up hb23,fun k hk=>(hkept k hk).1.up hb23,⟨(hnew.mono (by omega)).up hb23,fun k hk=>⟨((hkept k hk).2.1.mono (by omega)).up hb23,fun i hi=>Or.inr ((((hkept k hk).2.2 i hi).mono (by omega)).up hb23)⟩⟩,⟨by omega,w3,by omega,by have:=hb2.size;omega⟩,fun s hs=>⟨Or.inr fun ad n' c' e=>(by injection e with e;injection e with e;subst e;show gv≠s;omega),fun j hj=>OfB.above ((hqa j hj).mono' (by omega))⟩⟩
  have hlt9:∀k i,k<np→i<P.m k→f k i<W2.heap.size:=fun k i hk hi=>by
   have h9:=(hkept k hk).2.2 i hi;rw[(hsep.2.2.1 k hk).1 i hi]at h9;exact(h9 _ _ _ rfl).2.1
  have HLt:=hid hlt9;have HSep:=hid hsep;have HT:Hid (gv<T0∧gp<T0∧w.heap.size+1<gv∧w.heap.size+1<gp):=⟨ht1,ht2,by omega,by omega⟩;have HX0:Hid (Y.cell? ⟨gx,2,none⟩=some (.int .i64 M)):=by
   have hbx:=B0.out.trans (hb3.mono B0.out.size);show _=_;rw[hbx.cell (cell_lt hx)];exact hx
  obtain⟨gm,hgm⟩:∃g,W2.heap.size=g:=⟨_,rfl⟩;rw[hgm]at GI HLt;clear hb2 hv2 hrow hnew hkept hqa hb3 hb23 k9 w1 w2 w3 hs1 hB1 hgpl CW m0 m1 hsep ht1 ht2 hlt9 hx hW;obtain⟨c0,c1⟩:=two_at GI.out.made;obtain⟨p0,p1,p2⟩:=GI.out.row.cell q hqn;have q0:=GI.out.row.free (q*3) (by omega);have q2:=GI.out.row.free (q*3+2) (by omega);have hX:er=lonE ⟨n,b,np,P⟩ ⟨5,(q:Int),M,len,D,lp,X,need,of⟩:=HEr.out.symm;unfold lonE at hX;rw[if_neg HNot.out]at hX;obtain⟨s1,s2,s3,s4⟩:=HSep.out;obtain⟨y1,y2,y3⟩:=s2 q hqn;rw[y1]at p2;have HX:=hid hX;clear hX;have x0:=HX0.out;by_cases hM:M<0∨((P.m q:Nat):Int)≤M
  ·have HE:Hid (er=4):=by
    show er=4;rw[HX.out];simp[hM]
   have CH:Hid (Calls Tryz.prog 44 #[.pointer (some ⟨gp,q*3,none⟩),.pointer (some ⟨gx,0,none⟩)] Y fun e w'=>e=.returned (.int .i64 4)∧w'=Y):=by
    have CB:=hid (wdBend_none gp (q*3) _ (P.m q) (P.m q) M Y p2 hM);show Calls _ _ _ _ _;clear s1 s2 s3 s4 y1 y2 y3 hM c0 c1;go_enter Tryz.func44,Tryz.ntmps44;go_wp2_with fail
    refine Calls.mono CB.out ?_;rintro e w' ⟨rfl,rfl⟩;go_wp2;go_ret;exact⟨rfl,rfl⟩
   clear s1 s2 s3 s4 y1 y2 y3 hM x0;go_wp2_with fail
   refine Calls.mono CH.out ?_;rintro e U ⟨rfl,rfl⟩;clear hY;obtain⟨r1,r2⟩:=two_at GI.out.out;have f1:=frozen_at (i:=0) GI.out.out;have f2:=frozen_at (i:=1) GI.out.out;clear c0 c1 p0 p1 p2 q0 q2;go_wp2;refine ret2 (put2_whole GI.out.out _ _) Tryz.underlying27 ?_;rw[HE.out];exact meshN_none (put2_below GI.out.below (by omega)) (by omega)
  obtain⟨i,rfl⟩:∃i:Nat,M=i:=⟨M.toNat,by omega⟩;have him:i<P.m q:=by omega
  have HE:Hid (er=0):=by
   show er=0;rw[HX.out];simp only[show ¬(5:Int)=2 by decide,show ¬(5:Int)=3 by decide,show ¬(5:Int)=4 by decide,if_false];exact if_neg hM
  obtain⟨z1,z2⟩:=oneK_someC ((HR.out.peer q hqn).right i him).2;have hUq:=(s3 q hqn).1 i him;obtain⟨ak,ck,hke,_,hx9⟩:=GI.out.kept q hqn;rw[y1]at hke;injection hke with e1 _ e3;subst e1 e3;rcases hx9 with h9|⟨bl,off,e4,h4,h5⟩;·omega
  injection e4 with e4;injection e4 with e5 e6;subst e5 e6;obtain⟨u1,u2,u3,u4⟩:=h5 i him;rw[hUq]at u3 u4;rw[Nat.zero_add]at u3;have hx5:Y.cell? ⟨f q i,0,none⟩=some (.int .i64 ((P.t q).X i 0)):=by
   obtain⟨a9,c9,e9,_,h9⟩:=u4;injection e9 with e9;subst e9;rcases h9 with h9|⟨b9,o9,e9,_,h9⟩;·omega
   injection e9 with e9;injection e9 with e9 e10;subst e9 e10;exact h9 0 z1
  have hf5:Y.frozen? ⟨f q i,0,none⟩=false:=by
   rcases(GI.out.new.2 q hqn).2 i him with h9|h9;·omega
   rw[hUq]at h9;exact(h9 _ _ _ rfl).2.2 0
  have CH:Hid (Calls Tryz.prog 44 #[.pointer (some ⟨gp,q*3,none⟩),.pointer (some ⟨gx,0,none⟩)] Y fun e w'=>e=.returned (.int .i64 0)∧w'=Y.setCell ⟨f q i,0,none⟩ (.int .i64 (((P.t q).X i 0+1)%31))):=by
   have CB:=hid (wdBend gp (q*3) (gk q) (P.m q) (P.m q) i (f q i) _ _ _ Y p2 him u3 z1 hx5 z2 hf5);show Calls _ _ _ _ _;clear s1 s2 s3 s4 y1 y2 y3 hM c0 c1 u1 u2 u3 u4 hx5 hf5 hUq h5;go_enter Tryz.func44,Tryz.ntmps44;go_wp2_with fail
   refine Calls.mono CB.out ?_;rintro e w' ⟨rfl,rfl⟩;go_wp2;go_ret;exact⟨rfl,rfl⟩
  have GJ:Hid (SprInv w (Y.setCell ⟨f q i,0,none⟩ (.int .i64 (((P.t q).X i 0+1)%31))) ad n cap0 al np cl gv gp gm QV b LV VV (lonP ⟨n,b,np,P⟩ ⟨5,(q:Int),(i:Int),len,D,lp,X,need,of⟩)):=by
   have e9:lonP ⟨n,b,np,P⟩ ⟨5,(q:Int),(i:Int),len,D,lp,X,need,of⟩=putT P q (P.m q) (benT (P.t q) i 1):=by unfold lonP;simp
   show SprInv _ _ _ _ _ _ _ _ _ _ _ _ _ _ _ _;rw[e9];obtain⟨t1,t2,t3,t4⟩:=HT.out;have hfi:=y3 i him;have hlt:=HLt.out q i hqn him;refine GI.out.ben hqn him hUq z1 (by omega) (by omega) (by omega) (by omega) (fun j hj=>?_) (fun k hk=>?_) (fun k i' hk hi' hne=>?_)
   ·rcases s1 j hj with h9|h9
    ·exact Or.inl h9
    exact Or.inr fun a9 n9 c9 e9=>by have:=h9 a9 n9 c9 e9;omega
   ·rw[(s2 k hk).1]
    refine Or.inr fun a9 n9 c9 e9=>?_;injection e9 with e9;injection e9 with e9;subst e9;show gk k≠f q i;rcases Nat.lt_trichotomy k q with h9|h9|h9;·have:=(s4 k q h9 hqn).1;omega
    ·subst h9;omega
    have:=(s4 q k h9 hk).2 i him;omega
   rw[(s3 k hk).1 i' hi'];refine Or.inr fun a9 n9 c9 e9=>?_;injection e9 with e9;injection e9 with e9;subst e9;show f k i'≠f q i;rcases Nat.lt_trichotomy k q with h9|h9|h9;·have:=(s4 k q h9 hqn).2 i' hi';omega
   ·subst h9
    rcases Nat.lt_trichotomy i' i with h8|h8|h8;·have:=(s3 k hk).2 i' i h8 him;omega
    ·exact absurd h8 (hne.resolve_left (fun h=>h rfl))
    have:=(s3 k hk).2 i i' h8 hi';omega
   have h7:=(s4 q k h9 hk).2 i him;have h6:=(s2 k hk).2.2 i' hi';omega
  clear s1 s2 s3 s4 y1 y2 y3 hM u1 u2 u3 u4 hx5 hf5 hUq h5 x0;go_wp2_with fail
  refine Calls.mono CH.out ?_;rintro e U ⟨rfl,rfl⟩;clear hY;obtain⟨Z,hZ⟩:∃z,Y.setCell ⟨f q i,0,none⟩ (.int .i64 (((P.t q).X i 0+1)%31))=z:=⟨_,rfl⟩;rw[hZ]at GJ ⊢;clear hZ c0 c1 p0 p1 p2 q0 q2 CH;obtain⟨c0,c1⟩:=two_at GJ.out.made;obtain⟨r1,r2⟩:=two_at GJ.out.out;have f1:=frozen_at (i:=0) GJ.out.out;have f2:=frozen_at (i:=1) GJ.out.out;go_wp2;refine ret2 (put2_whole GJ.out.out _ _) Tryz.underlying27 ?_;rw[HE.out];exact(GJ.out.fin (C:=False) (ver:=0) h8 rfl (fun h=>h.elim)).n
end
end Go.Proofs.YtajmnlhfnhbleaaGreat
