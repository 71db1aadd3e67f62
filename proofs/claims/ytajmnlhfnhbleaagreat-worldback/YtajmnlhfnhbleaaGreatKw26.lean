/- Several texts of one proof, in their order. -/
import Derived.Test.YtajmnlhfnhbleaaGreatKw18
import Derived.Test.YtajmnlhfnhbleaaGreatKw22
import Derived.Test.YtajmnlhfnhbleaaGreatKw25
namespace Go.Proofs.YtajmnlhfnhbleaaGreat
open Go.RowKit CurveMath Go.Maps
set_option linter.unusedVariables false
set_option maxHeartbeats 8000000
set_option maxRecDepth 10000
section
def MPart(vb:Value)(n:Nat)(PV:Nat→Value)(b:Bk)(vl:Value)(np:Nat)(KV:Nat→Value)(UV:Nat→Nat→Value)(P:Ps)(ver:Int)(G:Nat→Prop):Prop :=
 ∀q,q<np→G q→∀i,i<P.m q→(P.t q).V i=ver →
  OffV vb (UV q i) ((P.t q).L i)∧(∀j,j<n→b.PL j=0∨OffV (PV j) (UV q i) ((P.t q).L i))∧OffV vl (UV q i) ((P.t q).L i)∧(∀k,k<np→P.m k=0∨OffV (KV k) (UV q i) ((P.t q).L i)) ∧
  (∀k i',k<np→i'<P.m k→(k≠q∨(P.t k).V i'≠ver)→(P.t k).L i'=0∨OffV (UV k i') (UV q i) ((P.t q).L i))
section
variable {vb : Value} {n : Nat} {PV : Nat → Value} {b : Bk} {vl : Value} {np : Nat} {KV : Nat → Value} {UV : Nat → Nat → Value} {P P' : Ps} {ver : Int} {G G' : Nat → Prop}
theorem MPart.mono(h:MPart vb n PV b vl np KV UV P ver G)(hG:∀k,k<np→G' k→G k):MPart vb n PV b vl np KV UV P ver G' :=
 fun q hq hg=>h q hq (hG q hq hg)
theorem MPart.none:MPart vb n PV b vl 0 KV UV P ver G:=fun q hq=>absurd hq (Nat.not_lt_zero _)
theorem MPart.put(h:MPart vb n PV b vl np KV UV P ver G){g q:Nat}(hq:q<np){r:Value}{UR:Nat→Value}
 (b1:LtV g vb 1) (b2:∀j,j<n→LtV g (PV j) (b.PL j)) (b3:LtV g vl 1) (b4:∀k,k<np→LtV g (KV k) (P.m k)) (b5:∀k i,k<np→i<P.m k→LtV g (UV k i) ((P.t k).L i))
 (e:∀k,k<np→k≠q→P'.m k=P.m k∧P'.t k=P.t k) (n1:Above g r) (n2:∀i,i<P'.m q→(P'.t q).L i=0∨Above g (UR i)) (hp:PartK ver r (P'.m q) UR (P'.t q)) :
 MPart vb n PV b vl np (fun k=>if k=q then r else KV k) (fun k=>if k=q then UR else UV k) P' ver (fun k=>G k∨k=q):=by
 intro x hx hG i hi hV
 have one:∀ {v u:Value} {L:Nat},LtV g v 1→Above g u→OffV v u L:=fun h1 h2=>(offV_lt h1 h2).resolve_left (by decide)
 obtain⟨s,hs⟩:=hp
 by_cases hxq:x=q
 ·subst hxq
  simp only[if_true];rcases n2 i hi with h0|ha;·exact⟨Or.inl h0,fun j hj=>Or.inr (Or.inl h0),Or.inl h0,fun k hk=>Or.inr (Or.inl h0),fun k i' hk hi' hne=>Or.inr (Or.inl h0)⟩
  refine⟨one b1 ha,fun j hj=>offV_lt (b2 j hj) ha,one b3 ha,fun k hk=>?_,fun k i' hk hi' hne=>?_⟩
  ·by_cases e9:k=x
   ·subst e9
    simp only[if_true];exact Or.inr (hs i hi).1
   simp only[if_neg e9];rw[(e k hk e9).1];exact offV_lt (b4 k hk) ha
  by_cases e9:k=x
  ·subst e9
   simp only[if_true];have hv:(P'.t k).V i'≠ver:=hne.resolve_left (fun h=>h rfl);exact offV_lt ((hs i' hi').2.2 hv) ((hs i hi).2.1 hV)
  simp only[if_neg e9];rw[(e k hk e9).1]at hi';rw[(e k hk e9).2];exact offV_lt (b5 k i' hk hi') ha
 ·have hg:G x:=hG.resolve_right hxq
  rw[(e x hx hxq).1]at hi;rw[(e x hx hxq).2]at hV ⊢;have hUx:(fun k=>if k=q then UR else UV k) x=UV x:=if_neg hxq;rw[hUx];obtain⟨h1,h2,h3,h4,h5⟩:=h x hx hg i hi hV;refine⟨h1,h2,h3,fun k hk=>?_,fun k i' hk hi' hne=>?_⟩
  ·by_cases e9:k=q
   ·subst e9
    simp only[if_true];exact Or.inr (offV_gt n1 (b5 x i hx hi))
   simp only[if_neg e9];rw[(e k hk e9).1];exact h4 k hk
  by_cases e9:k=q
  ·subst e9
   simp only[if_true];exact(n2 i' hi').imp id fun h=>offV_gt h (b5 x i hx hi)
  simp only[if_neg e9];rw[(e k hk e9).1]at hi';rw[(e k hk e9).2]at hne ⊢;exact h5 k i' hk hi' hne
end
def MeshPostW(w:World)(er:Int)(n:Nat)(b:Bk)(np:Nat)(P:Ps)(C:Prop)(ver:Int)(e:Ending)(w':World):Prop :=
 Below w.heap.size w w'∧∃(vb vl:Value) (n' np':Nat) (PV KV:Nat→Value) (UV:Nat→Nat→Value),e=.returned (.tuple #[meshV vb vl,.int .i64 er])∧n'=(if er=0 then n else 0)∧np'=(if er=0 then np else 0) ∧
  VeSl w' w'.heap.size vb n' PV b∧PsSl w' w'.heap.size vl np' KV UV P∧NewP w.heap.size w' vl np' KV UV P∧(C→MPart vb n' PV b vl np' KV UV P ver (fun _=>True))∧∀s,s<w.heap.size→VeOff s vb n' PV b
theorem MeshPostW.n{w:World}{er:Int}{n:Nat}{b:Bk}{np:Nat}{P:Ps}{C:Prop}{ver:Int}{e:Ending}{w':World}(h:MeshPostW w er n b np P C ver e w'):MeshPostN w er n b np P e w':=by
 obtain⟨h1,vb,vl,n',np',PV,KV,UV,h2,h3,h4,h5,h6,h7,_,h8⟩:=h;exact⟨h1,vb,vl,n',np',PV,KV,UV,h2,h3,h4,h5,h6,h7,h8⟩
def NoneOf(P:Ps)(np:Nat)(ver:Int):Prop:=∀k,k<np→∀i,i<P.m k→(P.t k).V i≠ver
end
section
theorem ve_slice{w:World}{B g o:Nat}{v:Value}{n:Nat}{PV:Nat→Value}{b:Bk}{a:Option Addr}{m c:Nat}(h:VeSl w B v n PV b)(hne:∀ad n' c',v=.slice (some ad) n' c'→ad.block≠g)(hc:w.cell? ⟨g,o,none⟩=some (.slice a m c))(u:Value):VeSl (w.setCell ⟨g,o,none⟩ u) B v n PV b:=by
 obtain⟨ad,cap,rfl,h0,h2⟩:=h;refine⟨ad,cap,rfl,h0,?_⟩;rcases h2 with h2|⟨bl,off,rfl,h4,h5⟩;·exact Or.inl h2
 have hb:bl≠g:=hne _ _ _ rfl;refine Or.inr ⟨bl,off,rfl,h4,fun j hj=>?_⟩;obtain⟨x0,x1,x2,x3,x4⟩:=h5 j hj;exact⟨by rw[cell_set_lit (Or.inl hb)];exact x0,by rw[cell_set_lit (Or.inl hb)];exact x1,by rw[cell_set_lit (Or.inl hb)];exact x2,by rw[cell_set_lit (Or.inl hb)];exact x3,isl_slice x4 hc u⟩
structure SprInv(w wr:World)(ab:Option Addr)(n cb:Nat)(al:Option Addr)(np cl:Nat)(gv gp gm:Nat)(PV:Nat→Value)(b:Bk)(KV:Nat→Value)(UV:Nat→Nat→Value)(P:Ps):Prop where
 below:Below w.heap.size w wr
 box:wr.heap[w.heap.size]?=some (.cells #[.slice ab n cb,.slice al np cl] 27 (0,0))
 out:wr.heap[w.heap.size+1]?=some (.cells #[.slice none 0 0,.slice none 0 0] 27 (0,0))
 made:wr.heap[gm]?=some (.cells #[.slice (some ⟨gv,0,none⟩) n n,.slice (some ⟨gp,0,none⟩) np np] 27 (0,0))
 ver:VeSl wr wr.heap.size (.slice (some ⟨gv,0,none⟩) n n) n PV b
 row:RowP wr gp np KV P
 kept:∀k,k<np→KeSl wr wr.heap.size (KV k) (P.m k) (UV k) (P.t k)
 new:NewP w.heap.size wr (.slice (some ⟨gp,0,none⟩) np np) np KV UV P
 ne:w.heap.size+1<gp∧gv≠gp∧gm≠gp∧w.heap.size+1<gm
 verO:∀s,s<w.heap.size→VeOff s (.slice (some ⟨gv,0,none⟩) n n) n PV b
section
variable {w wr w' : World} {ab : Option Addr} {n cb : Nat} {al : Option Addr} {np cl : Nat} {gv gp gm : Nat} {PV : Nat → Value} {b : Bk} {KV : Nat → Value} {UV : Nat → Nat → Value} {P P' : Ps}
theorem NewP.upS{B:Nat}{vl:Value}(h:NewP B wr vl np KV UV P)(hb:Below wr.heap.size wr w'):NewP B w' vl np KV UV P :=
 ⟨h.1.up hb,fun k hk=>⟨(h.2 k hk).1.up hb,fun i hi=>((h.2 k hk).2 i hi).imp id fun h=>h.up hb⟩⟩
theorem NewP.setS{B:Nat}{vl:Value}(h:NewP B wr vl np KV UV P)(a:Addr)(u:Value):NewP B (wr.setCell a u) vl np KV UV P :=
 ⟨h.1.set a u,fun k hk=>⟨(h.2 k hk).1.set a u,fun i hi=>((h.2 k hk).2 i hi).imp id fun h=>h.set a u⟩⟩
theorem SprInv.up(h:SprInv w wr ab n cb al np cl gv gp gm PV b KV UV P)(hb:Below wr.heap.size wr w'):SprInv w w' ab n cb al np cl gv gp gm PV b KV UV P :=
 ⟨h.below.trans (hb.mono h.below.size),stayB h.box hb,stayB h.out hb,stayB h.made hb,h.ver.up hb,h.row.up hb,fun k hk=>(h.kept k hk).up hb,h.new.upS hb,h.ne,h.verO⟩
theorem SprInv.put(h:SprInv w wr ab n cb al np cl gv gp gm PV b KV UV P){q:Nat}(hq:q<np){r:Value}{UR:Nat→Value}(e1:P'.th=P.th)(e2:P'.rm=P.rm)(e3:∀k,k<np→k≠q→P'.m k=P.m k∧P'.t k=P.t k)
 (hr:KeSl wr wr.heap.size r (P'.m q) UR (P'.t q)) (hw:NewV w.heap.size wr r∧∀i,i<P'.m q→(P'.t q).L i=0∨NewV w.heap.size wr (UR i)) :
 SprInv w (wr.setCell ⟨gp,q*3+2,none⟩ r) ab n cb al np cl gv gp gm PV b (fun k=>if k=q then r else KV k) (fun k=>if k=q then UR else UV k) P':=by
 obtain⟨n1,n2,n3,n4⟩:=h.ne
 obtain⟨c1,c2,c3⟩:=h.row.cell q hq
 obtain⟨ak,ck,hsl,_⟩:=h.kept q hq
 rw[hsl]at c3
 have hz:(wr.setCell ⟨gp,q*3+2,none⟩ r).heap.size=wr.heap.size:=by simp[World.setCell]
 refine⟨h.below.setCell (p:=⟨gp,q*3+2,none⟩) (by show w.heap.size≤gp;omega) r,?_,?_,?_,?_,h.row.put hq r (fun k _=>by rw[e1]) (fun k _=>by rw[e2]),fun k hk=>?_,⟨h.new.1.set _ _,fun k hk=>?_⟩,h.ne,h.verO⟩
 ·rw[Below.heap_setCell _ _ _ _ (by show w.heap.size≠gp;omega)];exact h.box
 ·rw[Below.heap_setCell _ _ _ _ (by show w.heap.size+1≠gp;omega)];exact h.out
 ·rw[Below.heap_setCell _ _ _ _ (by show gm≠gp;omega)];exact h.made
 ·rw[hz]
  exact ve_slice h.ver (fun ad n' c' e=>by injection e with e;injection e with e;rw[←e];exact n2) c3 r
 ·rw[hz]
  by_cases e:k=q
  ·subst e
   simp only[if_true];exact kel_slice hr c3 c1 r
  simp only[if_neg e];rw[(e3 k hk e).1,(e3 k hk e).2];exact kel_slice (h.kept k hk) c3 c1 r
 ·by_cases e:k=q
  ·subst e
   simp only[if_true];exact⟨hw.1.set _ _,fun i hi=>(hw.2 i hi).imp id fun h=>h.set _ _⟩
  simp only[if_neg e];rw[(e3 k hk e).1,(e3 k hk e).2];exact⟨(h.new.2 k hk).1.set _ _,fun i hi=>((h.new.2 k hk).2 i hi).imp id fun h=>h.set _ _⟩
theorem SprInv.lts(h:SprInv w wr ab n cb al np cl gv gp gm PV b KV UV P){g:Nat}(hgg:wr.heap.size≤g)(hn:0<n):
 LtV g (.slice (some ⟨gv,0,none⟩) n n) 1∧(∀j,j<n→LtV g (PV j) (b.PL j))∧LtV g (.slice (some ⟨gp,0,none⟩) np np) 1∧(∀k,k<np→LtV g (KV k) (P.m k))∧(∀k i,k<np→i<P.m k→LtV g (UV k i) ((P.t k).L i)):=by
 have hgp:=h.row.lt
 have hgv:gv<wr.heap.size:=by
  obtain⟨ad,cap,e,_,h2⟩:=h.ver;rcases h2 with h2|⟨bl,off,rfl,h4,_⟩;·omega
  injection e with e;injection e with e;injection e with e;omega
 refine⟨Or.inr fun ad n' c' e=>?_,fun j hj=>?_,Or.inr fun ad n' c' e=>?_,fun k hk=>?_,fun k i hk hi=>?_⟩
 ·injection e with e
  injection e with e;subst e;show gv<g;omega
 ·obtain⟨ad,cap,e,_,h2⟩:=h.ver
  rcases h2 with h2|⟨bl,off,_,_,h5⟩;·omega
  exact fresh_ltV (h5 j hj).2.2.2.2 hgg
 ·injection e with e
  injection e with e;subst e;show gp<g;omega
 ·obtain⟨ad,cap,e,_,h2⟩:=h.kept k hk
  rcases h2 with h2|⟨bl,off,rfl,h4,_⟩;·exact Or.inl h2
  refine Or.inr fun ad2 n2 c2 e2=>?_;rw[e]at e2;injection e2 with e2;injection e2 with e2;subst e2;show bl<g;omega
 ·obtain⟨ad,cap,e,_,h2⟩:=h.kept k hk
  rcases h2 with h2|⟨bl,off,rfl,h4,h5⟩;·omega
  exact fresh_ltV (h5 i hi).2.2.2 hgg
theorem SprInv.fin(h:SprInv w wr ab n cb al np cl gv gp gm PV b KV UV P)(h8:np≤8){er:Int}(he:er=0){C:Prop}{ver:Int}(hp:C→MPart (.slice (some ⟨gv,0,none⟩) n n) n PV b (.slice (some ⟨gp,0,none⟩) np np) np KV UV P ver (fun _=>True)):
 MeshPostW w er n b np P C ver (.returned (.tuple #[.agg #[.slice (some ⟨gv,0,none⟩) n n,.slice (some ⟨gp,0,none⟩) np np],.int .i64 0])) (put2 wr (w.heap.size+1) (.slice (some ⟨gv,0,none⟩) n n) (.slice (some ⟨gp,0,none⟩) np np)):=by
 subst he
 obtain⟨n1,n2,n3,n4⟩:=h.ne
 have hB:Below w.heap.size w (put2 wr (w.heap.size+1) (.slice (some ⟨gv,0,none⟩) n n) (.slice (some ⟨gp,0,none⟩) np np)):=put2_below h.below (by omega)
 refine⟨hB,_,_,n,np,PV,KV,UV,rfl,rfl,rfl,ve_put2 h.out h.ver _,?_,?_,hp,h.verO⟩
 ·exact ps_put2 h.out (h.row.kel (Nat.le_refl _) (by omega) h.kept) _ _
 ·unfold put2
  exact(h.new.setS _ _).setS _ _
end
theorem meshN_none{w w':World}{er:Int}{n:Nat}{b:Bk}{np:Nat}{P:Ps}(hb:Below w.heap.size w w')(he:er≠0):MeshPostN w er n b np P (.returned (.tuple #[.agg #[.slice none 0 0,.slice none 0 0],.int .i64 er])) w' :=
 ⟨hb,.slice none 0 0,.slice none 0 0,0,0,fun _=>.int .i64 0,fun _=>.int .i64 0,fun _ _=>.int .i64 0,rfl,by rw[if_neg he],by rw[if_neg he],⟨none,0,rfl,⟨Nat.le_refl _,by omega⟩,Or.inl rfl⟩,⟨none,0,rfl,⟨Nat.le_refl _,by omega⟩,Or.inl rfl⟩,⟨NewV.none _ _ _ _,fun k hk=>by omega⟩,fun s hs=>⟨Or.inl rfl,fun j hj=>by omega⟩⟩
theorem meshW_none{w w':World}{er:Int}{n:Nat}{b:Bk}{np:Nat}{P:Ps}{C:Prop}{ver:Int}(hb:Below w.heap.size w w')(he:er≠0):MeshPostW w er n b np P C ver (.returned (.tuple #[.agg #[.slice none 0 0,.slice none 0 0],.int .i64 er])) w' :=
 ⟨hb,.slice none 0 0,.slice none 0 0,0,0,fun _=>.int .i64 0,fun _=>.int .i64 0,fun _ _=>.int .i64 0,rfl,by rw[if_neg he],by rw[if_neg he],⟨none,0,rfl,⟨Nat.le_refl _,by omega⟩,Or.inl rfl⟩,⟨none,0,rfl,⟨Nat.le_refl _,by omega⟩,Or.inl rfl⟩,⟨NewV.none _ _ _ _,fun k hk=>by omega⟩,fun _=>MPart.none,fun s hs=>⟨Or.inl rfl,fun j hj=>by omega⟩⟩
theorem msSpread(vb:Value)(n:Nat)(PV:Nat→Value)(b:Bk)(vl:Value)(np:Nat)(KV:Nat→Value)(UV:Nat→Nat→Value)(P:Ps)(ver:Int)(vs:Value)(cnt:Nat)(SN:Nat→Int)(SV:Nat→Value)(SL:Nat→Nat)(SX:Nat→Nat→Int)(w:World)
 (hv:VeSl w w.heap.size vb n PV b) (hl:PsSl w w.heap.size vl np KV UV P) (hs:ShSl w w.heap.size vs cnt SN SV SL SX) (hR:MeshR n b np P) (hver:0≤ver∧ver<(n:Int)) (hS:∀j,j<cnt→oneE (b.nd ver.toNat) (b.of ver.toNat) (b.sz ver.toNat) (SN j) (SL j) (SX j)=0) :
 Calls Tryz.prog 81 #[meshV vb vl,.int .i64 ver,vs] w (MeshPostW w (manyE P ver np (cnt:Int)) n b np (giveP P ver (forA P ver np cnt) SN SL SX cnt) (NoneOf P np ver) ver):=by
 have hb0:=((Below.refl w.heap.size w).alloc (Nat.le_refl _) (.cells #[vb,vl] 27)).alloc (by simp) (.cells #[.slice none 0 0,.slice none 0 0] 27)
 have k1:=heap_two_old w (.cells #[vb,vl] 27) (.cells #[.slice none 0 0,.slice none 0 0] 27)
 have k2:=heap_two_new w (.cells #[vb,vl] 27) (.cells #[.slice none 0 0,.slice none 0 0] 27)
 obtain⟨W0,hW0⟩:∃W,(w.alloc (.cells #[vb,vl] 27)).alloc (.cells #[.slice none 0 0,.slice none 0 0] 27)=W:=⟨_,rfl⟩
 rw[hW0]at hb0 k1 k2
 have HV:=hid hv
 have HL:=hid hl
 have HSh:=hid hs
 have HR:=hid hR
 have HS:=hid hS
 obtain⟨ad,cap0,rfl,_,_⟩:=hv
 obtain⟨al,cl,rfl,_,_⟩:=hl
 obtain⟨ash,csh,rfl,_,hxs⟩:=hs
 have CP:=hid (plFor _ n PV b _ np KV UV P ver (cnt:Int) W0 (HV.out.up hb0) (HL.out.up hb0))
 have he:forE n b P ver np (cnt:Int)=manyE P ver np (cnt:Int):=by unfold forE;rw[if_pos hR.e]
 rw[he,if_pos hR.e]at CP
 obtain⟨c,hc⟩:∃c,manyE P ver np (cnt:Int)=c:=⟨_,rfl⟩
 rw[hc]at CP ⊢
 have HC:=hid hc
 obtain⟨m0,m1⟩:=two_at k1
 have B0:=hid hb0
 have K1:=hid k1
 have K2:=hid k2
 have HXs:=hid hxs
 have hnp8:=hR.few
 have hn12:n≤12:=(right_of hR.book).le
 unfold bookV at CP
 clear hb0 k1 k2 hc hxs hR hS he
 unfold meshV
 go_enter Tryz.func81,Tryz.ntmps81
 go_wp2_with fail
 refine Calls.mono CP.out ?_
 rintro e W ⟨hbW,va,rfl,hva⟩
 have B1:=hid (B0.out.trans (hbW.mono B0.out.size))
 have d1:=stayB K1.out hbW
 have d2:=stayB K2.out hbW
 have D1:=hid d1
 have D2:=hid d2
 have HVa:=hid hva
 obtain⟨aa,ca,rfl,⟨_,hbiga⟩,_⟩:=hva
 clear hbW m0 m1 CP
 by_cases h0:c=0
 ·subst h0
  obtain⟨hfe,_,hfl⟩:=forL_len HC.out;have hlen:(forL P ver np (cnt:Int)).length=cnt:=by rw[hfe];omega
  have HLen:=hid hlen;rw[hlen]at HVa hbiga ⊢;obtain⟨m0,m1⟩:=two_at d1;have CW:=hid (frMesh _ n PV b _ np KV UV P W (HV.out.up B1.out) (HL.out.up B1.out) (by omega) (by omega));unfold meshV at CW;clear d1 d2 hfe hfl hlen;go_wp2_with fail
  refine Calls.mono CW.out ?_;rintro e W2 ⟨hb2,gv,gp,QV,LV,VV,rfl,w1,w2,w3,hv2,hrow,hnew,hkept,hqa,_⟩;unfold meshV;have hs1:w.heap.size+1<W.heap.size:=(Array.getElem?_eq_some_iff.1 D2.out).1;have hb3:=hb2.alloc hb2.size (.cells #[.slice (some ⟨gv,0,none⟩) n n,.slice (some ⟨gp,0,none⟩) np np] 27);have hb23:=below_alloc W2 (.cells #[.slice (some ⟨gv,0,none⟩) n n,.slice (some ⟨gp,0,none⟩) np np] 27);have k9:=heap_alloc_new W2 (.cells #[.slice (some ⟨gv,0,none⟩) n n,.slice (some ⟨gp,0,none⟩) np np] 27);obtain⟨Y,hY⟩:∃u,W2.alloc (.cells #[.slice (some ⟨gv,0,none⟩) n n,.slice (some ⟨gp,0,none⟩) np np] 27)=u:=⟨_,rfl⟩;rw[hY]at hb3 hb23 k9;have hB1:=B1.out.size;have hgpl:=hrow.lt;have GI:Hid (SprInv w Y ad n cap0 al np cl gv gp W2.heap.size QV b LV VV P):=by
   refine⟨B1.out.trans (hb3.mono B1.out.size),stayB D1.out hb3,stayB D2.out hb3,k9,hv2.up hb23,hrow.up hb23,fun k hk=>(hkept k hk).1.up hb23,⟨(hnew.mono (by omega)).up hb23,fun k hk=>⟨((hkept k hk).2.1.mono (by omega)).up hb23,fun i hi=>Or.inr ((((hkept k hk).2.2 i hi).mono (by omega)).up hb23)⟩⟩,⟨by omega,w3,by omega,by have:=hb2.size;omega⟩,fun s hs=>⟨Or.inr fun ad n' c' e=>(by injection e with e;injection e with e;subst e;show gv≠s;omega),fun j hj=>OfB.above ((hqa j hj).mono' (by omega))⟩⟩
  have HIa:Hid (IntSl Y Y.heap.size (.slice aa cnt ca) cnt (forA P ver np cnt)):=HVa.out.up hb3;obtain⟨gm,hgm⟩:∃g,W2.heap.size=g:=⟨_,rfl⟩;rw[hgm]at GI;clear hb2 hv2 hrow hnew hkept hqa hb3 hb23 k9 w1 w2 w3 hs1 hB1 hgpl CW D1 D2 HVa m0 m1;go_wp2;clear hY hgm;go_loopw [32] (fun iv wr=>∃(i:Nat) (KVi:Nat→Value) (UVi:Nat→Nat→Value),i≤cnt∧iv=.int .i64 i∧Hid (SprInv w wr ad n cap0 al np cl gv gp gm QV b KVi UVi (giveP P ver (forA P ver np cnt) SN SL SX i))∧Hid (MPart (.slice (some ⟨gv,0,none⟩) n n) n QV b (.slice (some ⟨gp,0,none⟩) np np) np KVi UVi (giveP P ver (forA P ver np cnt) SN SL SX i) ver (fun k=>∃j,j<i∧forA P ver np cnt j=(k:Int)))∧Hid (IntSl wr wr.heap.size (.slice aa cnt ca) cnt (forA P ver np cnt))) (fun iv _=>cnt-(intOf iv).toNat)
  case atStart=>exact⟨0,LV,VV,Nat.zero_le _,rfl,(by show SprInv _ _ _ _ _ _ _ _ _ _ _ _ _ _ _ _;rw[giveP_zero];exact GI.out),fun q hq hG=>by obtain⟨j,hj,_⟩:=hG;omega,HIa⟩
  case round =>
   obtain⟨i,KVi,UVi,hi,rfl,GR,GP,HIr⟩:=hrel;by_cases hlt:i<cnt
   ·have hii:(i:Int)<(cnt:Int):=by omega
    obtain⟨q,hAq,hqn,hmay,hleft⟩:=forA_at HC.out hlt;have hne9:∀j,j<i→forA P ver np cnt j≠forA P ver np cnt i:=fun j hj=>forA_ne HC.out hj hlt;have hold:=giveP_old (P:=P) (ver:=ver) (A:=forA P ver np cnt) (SN:=SN) (SL:=SL) (SX:=SX) (i:=i) (k:=q) (fun j hj e=>hne9 j hj (by rw[e,hAq]));obtain⟨al9,cl9,hKq9,_,_⟩:=GR.out.kept q hqn;rw[hold.1]at hKq9;have HKq:=hid hKq9;obtain⟨n1,n2,n3,n4⟩:=GR.out.ne;obtain⟨bl,off,rfl,hbl,g0,g1,g2,g3⟩:=HL.out.at hqn;have G3:Hid (∀u,Below w.heap.size w u→KeSl u u.heap.size (KV q) (P.m q) (UV q) (P.t q)):=fun u hbu=>g3.up hbu;obtain⟨ak,ck,hke,_,_⟩:=g3;rw[hke]at g2 G3;have hgl:=GR.out.row.lt;have y0:wr.cell? ⟨bl,off+q*3,none⟩=some (.bool (P.th q)):=by rw[GR.out.below.cell hbl];exact g0
    have y1:wr.cell? ⟨bl,off+q*3+1,none⟩=some (.int .i64 (P.rm q)):=by rw[GR.out.below.cell hbl];exact g1
    have y2:wr.cell? ⟨bl,off+q*3+2,none⟩=some (.slice ak (P.m q) ck):=by rw[GR.out.below.cell hbl];exact g2
    have hia:=HIr.out;obtain⟨aa',ca',hea,_,hxa⟩:=hia;injection hea with hea1 _ hea3;subst hea1 hea3;rcases hxa with h0|⟨ba,oa,rfl,hba,hxa⟩;·omega
    have a1:=hxa i hlt;rw[hAq]at a1;rcases HXs.out with h0|⟨bs,os,rfl,hbs,hxs⟩;·omega
    obtain⟨s1,s2,s3⟩:=hxs i hlt;have HIs:Hid (∀u,Below w.heap.size w u→IntSl u u.heap.size (SV i) (SL i) (SX i)):=fun u hb=>s3.up hb;obtain⟨ap,cp,hpe,_,_⟩:=s3;rw[hpe]at s2 HIs;have t1:wr.cell? ⟨bs,os+i*2,none⟩=some (.int .i64 (SN i)):=by rw[GR.out.below.cell hbs];exact s1
    have t2:wr.cell? ⟨bs,os+i*2+1,none⟩=some (.slice ap (SL i) cp):=by rw[GR.out.below.cell hbs];exact s2
    obtain⟨m0,m1⟩:=two_at GR.out.box;obtain⟨_,c1⟩:=two_at GR.out.made;have hbw:bs<w.heap.size:=hbs;have hblw:bl<w.heap.size:=hbl;have hne:Nonempty (Of (fun u=>wr.grownBy u (some gp))):=⟨⟨wr,rfl,rfl,rfl,Nat.le_refl _,fun _ _ _=>rfl⟩⟩;have F0:∀u:Of (fun u=>wr.grownBy u (some gp)),u.val.cell? ⟨w.heap.size,0,none⟩=some (.slice ad n cap0):=fun u=>u.is.cell m0 (by simp;omega);have F1:∀u:Of (fun u=>wr.grownBy u (some gp)),u.val.cell? ⟨w.heap.size,1,none⟩=some (.slice (some ⟨bl,off,none⟩) np cl):=fun u=>u.is.cell m1 (by simp;omega);have F2:∀u:Of (fun u=>wr.grownBy u (some gp)),u.val.cell? ⟨bs,os+i*2,none⟩=some (.int .i64 (SN i)):=fun u=>u.is.cell t1 (by simp;omega)
    have F3:∀u:Of (fun u=>wr.grownBy u (some gp)),u.val.cell? ⟨bs,os+i*2+1,none⟩=some (.slice ap (SL i) cp):=fun u=>u.is.cell t2 (by simp;omega);have F4:∀u:Of (fun u=>wr.grownBy u (some gp)),u.val.cell? ⟨gm,1,none⟩=some (.slice (some ⟨gp,0,none⟩) np np):=fun u=>u.is.cell c1 (by simp;omega);have F5:∀u:Of (fun u=>wr.grownBy u (some gp)),u.val.cell? ⟨bl,off+q*3,none⟩=some (.bool (P.th q)):=fun u=>u.is.cell y0 (by simp;omega);have F6:∀u:Of (fun u=>wr.grownBy u (some gp)),u.val.cell? ⟨bl,off+q*3+1,none⟩=some (.int .i64 (P.rm q)):=fun u=>u.is.cell y1 (by simp;omega);have F7:∀u:Of (fun u=>wr.grownBy u (some gp)),u.val.cell? ⟨bl,off+q*3+2,none⟩=some (.slice ak (P.m q) ck):=fun u=>u.is.cell y2 (by simp;omega);have hqi:(q:Int)<(np:Int):=by omega
    have HAq:=hid hAq;have HNe:=hid hne9;have HMay:=hid hmay;have HLeft:=hid hleft;have HOld:=hid hold;clear hAq hne9 hmay hleft hold hKq9 hke hxa hxs s1 s2 hpe g0 g1 g2 y0 y1 y2 t1 t2 m0 m1 c1 n1 n2 n3 n4;go_wp2_with fail
    refine region_mixed (fun u=>wr.grownBy u (some gp)) [([0,1,2,3,4,5,6,7,8,9,10,11,12,13,14,15],16),([17,18,19,20],21)] [22] (by kernel_rfl) (by kernel_rfl) (drew_grown wr _) ?_;clear a1;have hb0:=drew_below wr;obtain⟨U0,hU0⟩:∃U,wr.drew=U:=⟨_,rfl⟩;rw[hU0]at hb0 ⊢;have HU0:=hid hb0;have HBU:=hid (GR.out.below.trans (hb0.mono GR.out.below.size));have CS:=hid (peKeep _ n PV b (P.th q) (P.rm q) _ (P.m q) _ (P.t q) ver (SN i) _ (SL i) (SX i) U0 (HV.out.up HBU.out) (G3.out _ HBU.out) (HIs.out _ HBU.out));unfold bookV peerV keptV at CS;clear hU0 hb0;refine mixO_cons ?_;repeat(go_big_quiet_step (fail))
    refine wpQuiet_nil ?_;intro K hK;go_wp2_with fail
    refine Calls.mono CS.out ?_;rintro e U1 ⟨hb1,er,th',room',r,m',UR,t',rfl,hkr,hto,hnk,hpk⟩;have hlf:=HLeft.out;unfold leftK at hlf;obtain⟨rfl,rfl,rfl,rfl,rfl⟩:=keepsTo_ok hto (HR.out.peer q hqn) (by omega) HMay.out.2 hver (HS.out i hlt);have HKr:=hid hkr;obtain⟨ar,cr,rfl,_,_⟩:=hkr;have hb01:=HU0.out.trans (hb1.mono HU0.out.size);have G1:=hid (GR.out.up hb01);have HI1:=hid (HIr.out.up hb01);have HB1:=hid hb01;obtain⟨z1,z2,z3⟩:=G1.out.row.cell q hqn;rw[HKq.out]at z3;have z1':U1.cell? ⟨gp,q*3,none⟩=some (.bool (P.th q)):=z1;have z2':U1.cell? ⟨gp,q*3+1,none⟩=some (.int .i64 (P.rm q)):=z2;have S1:=setCell_same z1';have S2:=setCell_same z2';have f1:=G1.out.row.free (q*3) (by omega);have f2:=G1.out.row.free (q*3+1) (by omega);have f3:=G1.out.row.free (q*3+2) (by omega)
    have hwU:w.heap.size≤U0.heap.size:=HBU.out.size;have HNk:Hid (NewV w.heap.size U1 (.slice ar (P.m q+1) cr)∧∀j,j<P.m q+1→(keepT (P.t q) (P.m q) ver (SN i) (SL i) (SX i)).L j=0∨NewV w.heap.size U1 (UR j)):=⟨hnk.1.mono hwU,fun j hj=>(hnk.2 j hj).imp id fun h=>h.mono hwU⟩;obtain⟨Y,hY⟩:∃Y,U1.setCell ⟨gp,q*3+2,none⟩ (.slice ar (P.m q+1) cr)=Y:=⟨_,rfl⟩;have HYi:Hid (IntSl Y Y.heap.size (.slice (some ⟨ba,oa,none⟩) cnt ca) cnt (forA P ver np cnt)):=by
     show IntSl _ _ _ _ _;have hz:Y.heap.size=U1.heap.size:=by rw[←hY];simp[World.setCell]
     rw[hz,←hY];exact isl_slice HI1.out z3 _
    have HYg:Hid (SprInv w Y ad n cap0 (some ⟨bl,off,none⟩) np cl gv gp gm QV b (fun k=>if k=q then .slice ar (P.m q+1) cr else KVi k) (fun k=>if k=q then UR else UVi k) (giveP P ver (forA P ver np cnt) SN SL SX (i+1))):=by
     show SprInv _ _ _ _ _ _ _ _ _ _ _ _ _ _ _ _;rw[←hY];have hst:=fun k=>giveP_succ (P:=P) (ver:=ver) (A:=forA P ver np cnt) (SN:=SN) (SL:=SL) (SX:=SX) (i:=i) (k:=k) HNe.out;refine G1.out.put hqn rfl rfl (fun k hk hkq=>?_) ?_ ?_
     ·have hne2:¬forA P ver np cnt i=(k:Int):=by rw[HAq.out];omega
      rw[(hst k).1,(hst k).2,if_neg hne2,if_neg hne2];exact⟨rfl,rfl⟩
     ·rw[(hst q).1,(hst q).2,if_pos HAq.out,if_pos HAq.out]
      exact HKr.out
     rw[(hst q).1,(hst q).2,if_pos HAq.out,if_pos HAq.out];exact HNk.out
    have HYd:Hid (wr.grownBy Y (some gp)):=by
     show World.grownBy _ _ _;rw[←hY];have h9:wr.grownBy U1 (some gp):=(grown_of_below HB1.out _);exact⟨h9.os,h9.tape,h9.output,by simpa[World.setCell]using h9.size,fun k hk hkg=>by rw[Below.heap_setCell _ _ _ _ (by show k≠gp;intro e;exact hkg (by rw[e]))];exact h9.block k hk hkg⟩
    have HYp:Hid (MPart (.slice (some ⟨gv,0,none⟩) n n) n QV b (.slice (some ⟨gp,0,none⟩) np np) np (fun k=>if k=q then .slice ar (P.m q+1) cr else KVi k) (fun k=>if k=q then UR else UVi k) (giveP P ver (forA P ver np cnt) SN SL SX (i+1)) ver (fun k=>∃j,j<i+1∧forA P ver np cnt j=(k:Int))):=by
     show MPart _ _ _ _ _ _ _ _ _ _ _;have hst:=fun k=>giveP_succ (P:=P) (ver:=ver) (A:=forA P ver np cnt) (SN:=SN) (SL:=SL) (SX:=SX) (i:=i) (k:=k) HNe.out;obtain⟨b1,b2,b3,b4,b5⟩:=GR.out.lts HU0.out.size (by omega);refine MPart.mono (MPart.put GP.out hqn b1 b2 b3 b4 b5 (fun k hk hkq=>?_) hnk.1.above (fun j hj=>?_) ?_) (fun k hk hG=>?_)
     ·have hne2:¬forA P ver np cnt i=(k:Int):=by rw[HAq.out];omega
      rw[(hst k).1,(hst k).2,if_neg hne2,if_neg hne2];exact⟨rfl,rfl⟩
     ·rw[(hst q).1,if_pos HAq.out]at hj
      rw[(hst q).2,if_pos HAq.out];exact(hnk.2 j hj).imp id fun h=>h.above
     ·rw[(hst q).1,(hst q).2,if_pos HAq.out,if_pos HAq.out]
      exact hpk
     obtain⟨j,hj,hjk⟩:=hG;by_cases hji:j=i
     ·subst hji
      rw[HAq.out]at hjk;exact Or.inr (by omega)
     exact Or.inl ⟨j,by omega,hjk⟩
    clear hb1 hto hb01 z1 z2 hnk hwU hpk;unfold peerV;go_wp2;refine⟨rfl,hK _ _ (grown_of_below HB1.out _) ?_⟩;clear hK K;refine mixO_cons ?_;repeat(go_big_quiet_step (fail))
    refine wpQuiet_nil ?_;intro K hK;go_wp2;refine⟨rfl,hK _ _ HYd.out ?_⟩;clear hK K;refine mixO_nil ?_;repeat(go_big_quiet_step (fail))
    refine wpQuiet_nil ?_;clear F0 F1 F2 F3 F4 F5 F6 F7 hne z1' z2' z3 S1 S2 f1 f2 f3 hY;go_wp2;go_roundw
    case rel=>exact⟨i+1,_,_,by omega,by go_num,HYg,HYp,HYi⟩
    case measure=>simp only[intOf];omega
   have hie:cnt=i:=by omega
   subst hie;obtain⟨m0,m1⟩:=two_at GR.out.made;obtain⟨r1,r2⟩:=two_at GR.out.out;have f1:=frozen_at (i:=0) GR.out.out;have f2:=frozen_at (i:=1) GR.out.out;go_wp2;refine ret2 (put2_whole GR.out.out _ _) Tryz.underlying27 ?_;refine GR.out.fin hnp8 rfl fun hC q hq _ i hi hV=>?_;rcases Classical.em (∃j,j<cnt∧forA P ver np cnt j=(q:Int))with hG|hG;·exact GP.out q hq hG i hi hV
   have ho:=giveP_old (P:=P) (ver:=ver) (A:=forA P ver np cnt) (SN:=SN) (SL:=SL) (SX:=SX) (i:=cnt) (k:=q) (fun j hj e=>hG ⟨j,hj,e⟩);rw[ho.1]at hi;rw[ho.2]at hV;exact absurd hV (hC q hq i hi)
 ·have hcb:(c != 0)=true:=by simpa using h0
  have H0:=hid h0;obtain⟨r1,r2⟩:=two_at d2;have f1:=frozen_at (i:=0) d2;have f2:=frozen_at (i:=1) d2;clear h0 d1 d2;go_wp2;refine ret2 (put2_whole D2.out _ _) Tryz.underlying27 ?_;exact meshW_none (put2_below B1.out (by omega)) H0.out
end
theorem eqB_self(n:Nat)(X:Nat→Int):eqB n n X X=true:=decide_eq_true ⟨rfl,fun _ _=>rfl⟩
theorem bookB_self(n:Nat)(b:Bk):bookB n n b b=true:=by
 have h:∀f k,restB b b f k=true:=by
  intro f;induction f with
  |zero=>intro k;rfl
  |succ f ih =>
   intro k;simp only[restB];rw[ih,Bool.and_true];unfold verB;rw[eqB_self];simp
 unfold bookB;rw[h,decide_eq_true rfl];rfl
theorem meshB_self(n:Nat)(b:Bk)(np:Nat)(P:Ps):meshB n n b b np np P P=true:=by
 unfold meshB peersB;rw[bookB_self,restP_refl,decide_eq_true rfl];rfl
def SetM(w:World)(g m n:Nat)(S:Nat→Bool):Prop:=∃D:DataW Empty,w.ownsMap Tryz.prog 3 (plainElem Tryz.prog 4) g m D∧(∀x:Nat,D.atKey (.int .i64 (x:Int)) (.lit (.bool false))=.lit (.bool (S x)))∧(∀x:Nat,Maps.has D (.int .i64 (x:Int))=S x)∧Maps.size D=((List.range (n+1)).filter S).length
theorem SetM.kept{w w':World}{g m n:Nat}{S:Nat→Bool}{row:Option Nat}(h:SetM w g m n S)(hg:w.grownBy w' row)(hne:some g≠row):SetM w' g m n S:=by
 obtain⟨D,h1,h2⟩:=h;exact⟨D,h1.kept hg hne,h2⟩
theorem SetM.up{w w':World}{g m n:Nat}{S:Nat→Bool}(h:SetM w g m n S)(hb:Below w.heap.size w w'):SetM w' g m n S:=h.kept (grown_of_below hb none) (by intro e;cases e)
theorem SetM.ne{w:World}{g m n:Nat}{S:Nat→Bool}(h:SetM w g m n S){a:Addr}{u:Value}(ha:w.cell? a=some u):a.block≠g:=by
 obtain⟨D,⟨es,clock,hb,_⟩,_⟩:=h;intro e;rw[World.cell?,e,hb]at ha;simp at ha
theorem SetM.mono{w:World}{g m m' n:Nat}{S:Nat→Bool}(h:SetM w g m n S)(hm:m≤m'):SetM w g m' n S:=by
 obtain⟨D,h1,h2⟩:=h;exact⟨D,h1.mono hm,h2⟩
theorem SetM.lt{w:World}{g m n:Nat}{S:Nat→Bool}(h:SetM w g m n S):g<w.heap.size:=by
 obtain⟨D,h1,_⟩:=h;exact h1.lt
theorem IntSl.grownM{w w':World}{B g m n l:Nat}{S:Nat→Bool}{v:Value}{X:Nat→Int}(h:IntSl w B v l X)(hm:SetM w g m n S)(hg:w.grownBy w' (some g)):IntSl w' B v l X:=by
 obtain⟨ad,cap,rfl,h0,h2⟩:=h;refine⟨ad,cap,rfl,h0,?_⟩;rcases h2 with h2|⟨b,off,rfl,h4,h5⟩;·exact Or.inl h2
 exact Or.inr ⟨b,off,rfl,h4,fun j hj=>hg.cell (h5 j hj) (by intro e;injection e with e;exact hm.ne (h5 j hj) e)⟩
theorem VeSl.grownM{w w':World}{B g m n l:Nat}{S:Nat→Bool}{v:Value}{PV:Nat→Value}{b:Bk}(h:VeSl w B v l PV b)(hm:SetM w g m n S)(hg:w.grownBy w' (some g)):VeSl w' B v l PV b:=by
 obtain⟨ad,cap,rfl,h0,h2⟩:=h;refine⟨ad,cap,rfl,h0,?_⟩;rcases h2 with h2|⟨bl,off,rfl,h4,h5⟩;·exact Or.inl h2
 have key:∀ {a:Addr} {u:Value},w.cell? a=some u→w'.cell? a=some u:=fun ha=>hg.cell ha (by intro e;injection e with e;exact hm.ne ha e);refine Or.inr ⟨bl,off,rfl,h4,fun j hj=>?_⟩;obtain⟨g1,g2,g3,g4,g5⟩:=h5 j hj;exact⟨key g1,key g2,key g3,key g4,g5.grownM hm hg⟩
end Go.Proofs.YtajmnlhfnhbleaaGreat
