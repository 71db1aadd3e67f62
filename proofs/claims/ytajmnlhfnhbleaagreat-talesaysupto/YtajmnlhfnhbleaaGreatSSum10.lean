/- Several texts of one proof, in their order. -/
import Derived.Test.YtajmnlhfnhbleaaGreatSSum9
namespace Go.Proofs.YtajmnlhfnhbleaaGreat
open Go.RowKit CurveMath
set_option linter.unusedVariables false
section
def OfB(s m:Nat)(v:Value):Prop:=m=0∨∀ad n c,v=.slice (some ad) n c→ad.block≠s
theorem OfB.above{s m:Nat}{v:Value}(h:Above (s+1) v):OfB s m v:=Or.inr fun ad n c e h9=>by
 have:=h ad n c e;omega
theorem offB_isl{w:World}{B s m:Nat}{v:Value}{X:Nat→Int}(h:IntSl w B v m X)(hs:B≤s):OfB s m v:=by
 obtain⟨ad,cap,rfl,_,h2⟩:=h;rcases h2 with h2|⟨b,off,rfl,h4,_⟩;·exact Or.inl h2
 refine Or.inr fun a n c e=>?_;injection e with e1;injection e1 with e1;subst e1;show b≠s;omega
theorem cell_off{w:World}{s o b o':Nat}{u:Value}(h:b≠s):(w.setCell ⟨s,o,none⟩ u).cell? ⟨b,o',none⟩=w.cell? ⟨b,o',none⟩ :=
 World.cell?_setCell_other _ _ _ _ (by intro e;injection e with e1;exact h e1.symm)
section
variable {w w' : World} {B s o : Nat} {v : Value} {u : Value}
theorem IntSl.off{m:Nat}{X:Nat→Int}(h:IntSl w B v m X)(hs:OfB s m v)(u:Value):IntSl (w.setCell ⟨s,o,none⟩ u) B v m X:=by
 obtain⟨ad,cap,rfl,h0,h2⟩:=h;refine⟨ad,cap,rfl,h0,?_⟩;rcases h2 with h2|⟨b,off,rfl,h4,h5⟩;·exact Or.inl h2
 rcases hs with h9|h9;·exact Or.inl h9
 exact Or.inr ⟨b,off,rfl,h4,fun j hj=>by rw[cell_off (show b≠s from h9 _ _ _ rfl)];exact h5 j hj⟩
theorem IntSl.grownO{m:Nat}{X:Nat→Int}(h:IntSl w w.heap.size v m X)(hg:w.grownBy w' (some s))(hs:OfB s m v):IntSl w' w'.heap.size v m X:=by
 obtain⟨ad,cap,rfl,h0,h2⟩:=h;refine⟨ad,cap,rfl,h0,?_⟩;rcases h2 with h2|⟨b,off,rfl,h4,h5⟩;·exact Or.inl h2
 rcases hs with h9|h9;·exact Or.inl h9
 have hb:b≠s:=h9 _ _ _ rfl;exact Or.inr ⟨b,off,rfl,Nat.lt_of_lt_of_le h4 hg.size,fun j hj=>hg.cell (h5 j hj) (by intro e;injection e with e;exact hb e)⟩
def VeOff(s:Nat)(vb:Value)(n:Nat)(PV:Nat→Value)(b:Bk):Prop:=OfB s n vb∧∀j,j<n→OfB s (b.PL j) (PV j)
def KeOff(s:Nat)(vk:Value)(m:Nat)(UV:Nat→Value)(t:Kt):Prop:=OfB s m vk∧∀i,i<m→OfB s (t.L i) (UV i)
def PsOff(s:Nat)(vl:Value)(np:Nat)(KV:Nat→Value)(UV:Nat→Nat→Value)(P:Ps):Prop:=OfB s np vl∧∀k,k<np→KeOff s (KV k) (P.m k) (UV k) (P.t k)
theorem VeSl.off{n:Nat}{PV:Nat→Value}{b:Bk}(h:VeSl w B v n PV b)(hs:VeOff s v n PV b)(u:Value):VeSl (w.setCell ⟨s,o,none⟩ u) B v n PV b:=by
 obtain⟨ad,cap,rfl,h0,h2⟩:=h;refine⟨ad,cap,rfl,h0,?_⟩;rcases h2 with h2|⟨bl,off,rfl,h4,h5⟩;·exact Or.inl h2
 rcases hs.1 with h9|h9;·exact Or.inl h9
 have hb:bl≠s:=h9 _ _ _ rfl;refine Or.inr ⟨bl,off,rfl,h4,fun j hj=>?_⟩;obtain⟨x0,x1,x2,x3,x4⟩:=h5 j hj;exact⟨by rw[cell_off hb];exact x0,by rw[cell_off hb];exact x1,by rw[cell_off hb];exact x2,by rw[cell_off hb];exact x3,x4.off (hs.2 j hj) u⟩
theorem VeSl.grownO{n:Nat}{PV:Nat→Value}{b:Bk}(h:VeSl w w.heap.size v n PV b)(hg:w.grownBy w' (some s))(hs:VeOff s v n PV b):VeSl w' w'.heap.size v n PV b:=by
 obtain⟨ad,cap,rfl,h0,h2⟩:=h;refine⟨ad,cap,rfl,h0,?_⟩;rcases h2 with h2|⟨bl,off,rfl,h4,h5⟩;·exact Or.inl h2
 rcases hs.1 with h9|h9;·exact Or.inl h9
 have hb:bl≠s:=h9 _ _ _ rfl;have hn:some bl≠some s:=by intro e;injection e with e;exact hb e
 refine Or.inr ⟨bl,off,rfl,Nat.lt_of_lt_of_le h4 hg.size,fun j hj=>?_⟩;obtain⟨x0,x1,x2,x3,x4⟩:=h5 j hj;exact⟨hg.cell x0 hn,hg.cell x1 hn,hg.cell x2 hn,hg.cell x3 hn,x4.grownO hg (hs.2 j hj)⟩
theorem KeSl.off{m:Nat}{UV:Nat→Value}{t:Kt}(h:KeSl w B v m UV t)(hs:KeOff s v m UV t)(u:Value):KeSl (w.setCell ⟨s,o,none⟩ u) B v m UV t:=by
 obtain⟨ad,cap,rfl,h0,h2⟩:=h;refine⟨ad,cap,rfl,h0,?_⟩;rcases h2 with h2|⟨bl,off,rfl,h4,h5⟩;·exact Or.inl h2
 rcases hs.1 with h9|h9;·exact Or.inl h9
 have hb:bl≠s:=h9 _ _ _ rfl;refine Or.inr ⟨bl,off,rfl,h4,fun j hj=>?_⟩;obtain⟨x0,x1,x2,x4⟩:=h5 j hj;exact⟨by rw[cell_off hb];exact x0,by rw[cell_off hb];exact x1,by rw[cell_off hb];exact x2,x4.off (hs.2 j hj) u⟩
theorem KeSl.grownO{m:Nat}{UV:Nat→Value}{t:Kt}(h:KeSl w w.heap.size v m UV t)(hg:w.grownBy w' (some s))(hs:KeOff s v m UV t):KeSl w' w'.heap.size v m UV t:=by
 obtain⟨ad,cap,rfl,h0,h2⟩:=h;refine⟨ad,cap,rfl,h0,?_⟩;rcases h2 with h2|⟨bl,off,rfl,h4,h5⟩;·exact Or.inl h2
 rcases hs.1 with h9|h9;·exact Or.inl h9
 have hb:bl≠s:=h9 _ _ _ rfl;have hn:some bl≠some s:=by intro e;injection e with e;exact hb e
 refine Or.inr ⟨bl,off,rfl,Nat.lt_of_lt_of_le h4 hg.size,fun j hj=>?_⟩;obtain⟨x0,x1,x2,x4⟩:=h5 j hj;exact⟨hg.cell x0 hn,hg.cell x1 hn,hg.cell x2 hn,x4.grownO hg (hs.2 j hj)⟩
theorem PsSl.off{np:Nat}{KV:Nat→Value}{UV:Nat→Nat→Value}{P:Ps}(h:PsSl w B v np KV UV P)(hs:PsOff s v np KV UV P)(u:Value):PsSl (w.setCell ⟨s,o,none⟩ u) B v np KV UV P:=by
 obtain⟨ad,cap,rfl,h0,h2⟩:=h;refine⟨ad,cap,rfl,h0,?_⟩;rcases h2 with h2|⟨bl,off,rfl,h4,h5⟩;·exact Or.inl h2
 rcases hs.1 with h9|h9;·exact Or.inl h9
 have hb:bl≠s:=h9 _ _ _ rfl;refine Or.inr ⟨bl,off,rfl,h4,fun j hj=>?_⟩;obtain⟨x0,x1,x2,x4⟩:=h5 j hj;exact⟨by rw[cell_off hb];exact x0,by rw[cell_off hb];exact x1,by rw[cell_off hb];exact x2,x4.off (hs.2 j hj) u⟩
theorem PsSl.grownO{np:Nat}{KV:Nat→Value}{UV:Nat→Nat→Value}{P:Ps}(h:PsSl w w.heap.size v np KV UV P)(hg:w.grownBy w' (some s))(hs:PsOff s v np KV UV P):PsSl w' w'.heap.size v np KV UV P:=by
 obtain⟨ad,cap,rfl,h0,h2⟩:=h;refine⟨ad,cap,rfl,h0,?_⟩;rcases h2 with h2|⟨bl,off,rfl,h4,h5⟩;·exact Or.inl h2
 rcases hs.1 with h9|h9;·exact Or.inl h9
 have hb:bl≠s:=h9 _ _ _ rfl;have hn:some bl≠some s:=by intro e;injection e with e;exact hb e
 refine Or.inr ⟨bl,off,rfl,Nat.lt_of_lt_of_le h4 hg.size,fun j hj=>?_⟩;obtain⟨x0,x1,x2,x4⟩:=h5 j hj;exact⟨hg.cell x0 hn,hg.cell x1 hn,hg.cell x2 hn,x4.grownO hg (hs.2 j hj)⟩
theorem veOff_of{n:Nat}{PV:Nat→Value}{b:Bk}(h:VeSl w B v n PV b)(hs:B≤s):VeOff s v n PV b:=by
 obtain⟨ad,cap,rfl,_,h2⟩:=h;rcases h2 with rfl|⟨bl,off,rfl,h4,h5⟩;·exact⟨Or.inl rfl,fun j hj=>absurd hj (Nat.not_lt_zero _)⟩
 refine⟨Or.inr fun a n' c e=>?_,fun j hj=>offB_isl (h5 j hj).2.2.2.2 hs⟩;injection e with e1;injection e1 with e1;subst e1;show bl≠s;omega
theorem keOff_of{m:Nat}{UV:Nat→Value}{t:Kt}(h:KeSl w B v m UV t)(hs:B≤s):KeOff s v m UV t:=by
 obtain⟨ad,cap,rfl,_,h2⟩:=h;rcases h2 with rfl|⟨bl,off,rfl,h4,h5⟩;·exact⟨Or.inl rfl,fun j hj=>absurd hj (Nat.not_lt_zero _)⟩
 refine⟨Or.inr fun a n' c e=>?_,fun j hj=>offB_isl (h5 j hj).2.2.2 hs⟩;injection e with e1;injection e1 with e1;subst e1;show bl≠s;omega
theorem psOff_of{np:Nat}{KV:Nat→Value}{UV:Nat→Nat→Value}{P:Ps}(h:PsSl w B v np KV UV P)(hs:B≤s):PsOff s v np KV UV P:=by
 obtain⟨ad,cap,rfl,_,h2⟩:=h;rcases h2 with rfl|⟨bl,off,rfl,h4,h5⟩;·exact⟨Or.inl rfl,fun j hj=>absurd hj (Nat.not_lt_zero _)⟩
 refine⟨Or.inr fun a n' c e=>?_,fun j hj=>keOff_of (h5 j hj).2.2.2 hs⟩;injection e with e1;injection e1 with e1;subst e1;show bl≠s;omega
end
def MsOff(s:Nat)(vb:Value)(n:Nat)(PV:Nat→Value)(b:Bk)(vl:Value)(np:Nat)(KV:Nat→Value)(UV:Nat→Nat→Value)(P:Ps):Prop:=VeOff s vb n PV b∧PsOff s vl np KV UV P
end
section
def NewP(B:Nat)(w:World)(vl:Value)(np:Nat)(KV:Nat→Value)(UV:Nat→Nat→Value)(P:Ps):Prop:=NewV B w vl∧∀k,k<np→NewV B w (KV k)∧∀i,i<P.m k→(P.t k).L i=0∨NewV B w (UV k i)
def MeshPostN(w:World)(er:Int)(n:Nat)(b:Bk)(np:Nat)(P:Ps)(e:Ending)(w':World):Prop :=
 Below w.heap.size w w'∧∃(vb vl:Value) (n' np':Nat) (PV KV:Nat→Value) (UV:Nat→Nat→Value),e=.returned (.tuple #[meshV vb vl,.int .i64 er])∧n'=(if er=0 then n else 0)∧np'=(if er=0 then np else 0) ∧
  VeSl w' w'.heap.size vb n' PV b∧PsSl w' w'.heap.size vl np' KV UV P∧NewP w.heap.size w' vl np' KV UV P∧∀s,s<w.heap.size→VeOff s vb n' PV b
theorem MeshPostN.old{w:World}{er:Int}{n:Nat}{b:Bk}{np:Nat}{P:Ps}{e:Ending}{w':World}(h:MeshPostN w er n b np P e w'):MeshPost w er n b np P e w':=by
 obtain⟨h1,vb,vl,n',np',PV,KV,UV,h2,h3,h4,h5,h6,_⟩:=h;exact⟨h1,vb,vl,n',np',PV,KV,UV,h2,h3,h4,h5,h6⟩
theorem NewP.off{B s:Nat}{w:World}{vl:Value}{np:Nat}{KV:Nat→Value}{UV:Nat→Nat→Value}{P:Ps}(h:NewP B w vl np KV UV P)(hs:s<B):PsOff s vl np KV UV P :=
 ⟨OfB.above (h.1.above.mono' hs),fun k hk=>⟨OfB.above ((h.2 k hk).1.above.mono' hs),fun i hi=>by
  rcases(h.2 k hk).2 i hi with h0|h0;·exact Or.inl h0
  exact OfB.above (h0.above.mono' hs)⟩⟩
structure MeshCore:Prop where
 check:∀(vb:Value) (n:Nat) (PV:Nat→Value) (b:Bk) (vl:Value) (np:Nat) (KV:Nat→Value) (UV:Nat→Nat→Value) (P:Ps) (w:World),VeSl w w.heap.size vb n PV b→PsSl w w.heap.size vl np KV UV P →
  Calls Tryz.prog 17 #[meshV vb vl] w fun e w'=>e=.returned (.int .i64 (peersE n b np P))∧Below w.heap.size w w'
 new:∀(vr:Value) (len:Nat) (X:Nat→Int) (w:World),IntSl w w.heap.size vr len X→len≤1048576 →
  Calls Tryz.prog 36 #[vr] w (MeshPostN w (newE len X) 0 noB len (freshP X))
 restore:∀(vb:Value) (n:Nat) (PV:Nat→Value) (b:Bk) (vl:Value) (np:Nat) (KV:Nat→Value) (UV:Nat→Nat→Value) (P:Ps) (k:Int) (w:World),VeSl w w.heap.size vb n PV b→PsSl w w.heap.size vl np KV UV P →
  Calls Tryz.prog 33 #[meshV vb vl,.int .i64 k] w (RestPost w n b np P k)
 save:∀(vb:Value) (n:Nat) (PV:Nat→Value) (b:Bk) (vl:Value) (np:Nat) (KV:Nat→Value) (UV:Nat→Nat→Value) (P:Ps) (vd:Value) (len:Nat) (D:Nat→Int) (vp:Value) (lp:Nat) (X:Nat→Int) (need of:Int) (w:World),
  VeSl w w.heap.size vb n PV b→PsSl w w.heap.size vl np KV UV P→IntSl w w.heap.size vd len D→IntSl w w.heap.size vp lp X →
  Calls Tryz.prog 37 #[meshV vb vl,vd,vp,.int .i64 need,.int .i64 of] w (MeshPostN w (saveE n b np P need of len D lp X) (n+1) (saveB n b need of len lp X) np (saveP n np P need of len D))
 repair:∀(vb:Value) (n:Nat) (PV:Nat→Value) (b:Bk) (vl:Value) (np:Nat) (KV:Nat→Value) (UV:Nat→Nat→Value) (P:Ps) (k:Int) (w:World),VeSl w w.heap.size vb n PV b→PsSl w w.heap.size vl np KV UV P →
  Calls Tryz.prog 38 #[meshV vb vl,.int .i64 k] w (MeshPostN w (mendE n b np P k) n b np (mendP b np P k))
structure MeshOwes:Prop extends MeshCore where
 same:∀(w:World) (vb vl vb' vl':Value) (n n' np np':Nat) (PV PV' KV KV':Nat→Value) (UV UV':Nat→Nat→Value) (b b':Bk) (P P':Ps),VeSl w w.heap.size vb n PV b→PsSl w w.heap.size vl np KV UV P→VeSl w w.heap.size vb' n' PV' b'→PsSl w w.heap.size vl' np' KV' UV' P' →
  Calls Tryz.prog 21 #[meshV vb vl,meshV vb' vl'] w fun e w'=>e=.returned (.bool (meshB n n' b b' np np' P P'))∧Below w.heap.size w w'
def MsAt(w:World)(g:Nat)(ab:Option Addr)(n cb:Nat)(PV:Nat→Value)(b:Bk)(al:Option Addr)(np cl:Nat)(KV:Nat→Value)(UV:Nat→Nat→Value)(P:Ps):Prop :=
 w.heap[g]?=some (.cells #[.slice ab n cb,.slice al np cl] 27 (0,0))∧VeSl w w.heap.size (.slice ab n cb) n PV b∧PsSl w w.heap.size (.slice al np cl) np KV UV P
section
variable {w w' : World} {g : Nat} {ab : Option Addr} {n cb : Nat} {PV : Nat → Value} {b : Bk} {al : Option Addr} {np cl : Nat} {KV : Nat → Value} {UV : Nat → Nat → Value} {P : Ps}
theorem MsAt.up(h:MsAt w g ab n cb PV b al np cl KV UV P)(hb:Below w.heap.size w w'):MsAt w' g ab n cb PV b al np cl KV UV P:=⟨stayB h.1 hb,h.2.1.up hb,h.2.2.up hb⟩
theorem MsAt.cells(h:MsAt w g ab n cb PV b al np cl KV UV P):w.cell? ⟨g,0,none⟩=some (.slice ab n cb)∧w.cell? ⟨g,1,none⟩=some (.slice al np cl):=two_at h.1
theorem MsAt.box(hv:VeSl w w.heap.size (.slice ab n cb) n PV b)(hl:PsSl w w.heap.size (.slice al np cl) np KV UV P):MsAt (w.alloc (.cells #[.slice ab n cb,.slice al np cl] 27)) w.heap.size ab n cb PV b al np cl KV UV P :=
 ⟨heap_alloc_new _ _,hv.up (below_alloc _ _),hl.up (below_alloc _ _)⟩
end
theorem mesh_open{w:World}{er:Int}{n:Nat}{b:Bk}{np:Nat}{P:Ps}{e:Ending}{w':World}(h:MeshPost w er n b np P e w'):
 Below w.heap.size w w'∧∃(ab:Option Addr) (n' cb:Nat) (PV:Nat→Value) (al:Option Addr) (np' cl:Nat) (KV:Nat→Value) (UV:Nat→Nat→Value),e=.returned (.tuple #[.agg #[.slice ab n' cb,.slice al np' cl],.int .i64 er]) ∧
  n'=(if er=0 then n else 0)∧np'=(if er=0 then np else 0)∧VeSl w' w'.heap.size (.slice ab n' cb) n' PV b∧PsSl w' w'.heap.size (.slice al np' cl) np' KV UV P:=by
 obtain⟨h1,vb,vl,n',np',PV,KV,UV,rfl,h3,h4,h5,h6⟩:=h
 have h5':=h5
 have h6':=h6
 obtain⟨ab,cb,rfl,_,_⟩:=h5'
 obtain⟨al,cl,rfl,_,_⟩:=h6'
 exact⟨h1,ab,n',cb,PV,al,np',cl,KV,UV,rfl,h3,h4,h5,h6⟩
end
section
def hapV(x:Hp)(vd vp:Value):Value:=.agg #[.int .i64 x.kd,.int .i64 x.N,.int .i64 x.M,vd,vp,.int .i64 x.need,.int .i64 x.of]
def HpAt(w:World)(B:Nat)(x:Hp)(vd vp:Value):Prop:=IntSl w B vd x.len x.D∧IntSl w B vp x.lp x.X
def HpSl(w:World)(B:Nat)(v:Value)(n:Nat)(DV QV:Nat→Value)(H:Nat→Hp):Prop :=
 ∃(ad:Option Addr) (cap:Nat),v=.slice ad n cap∧(n≤cap∧n*88≤140737488351232)∧(n=0∨∃bl off,ad=some ⟨bl,off,none⟩∧bl<B∧∀j,j<n →
  (w.cell? ⟨bl,off+j*7,none⟩=some (.int .i64 (H j).kd)∧w.cell? ⟨bl,off+j*7+1,none⟩=some (.int .i64 (H j).N)∧w.cell? ⟨bl,off+j*7+2,none⟩=some (.int .i64 (H j).M)∧w.cell? ⟨bl,off+j*7+3,none⟩=some (DV j) ∧
   w.cell? ⟨bl,off+j*7+4,none⟩=some (QV j)∧w.cell? ⟨bl,off+j*7+5,none⟩=some (.int .i64 (H j).need)∧w.cell? ⟨bl,off+j*7+6,none⟩=some (.int .i64 (H j).of))∧HpAt w B (H j) (DV j) (QV j))
section
variable {w w' : World} {B B' : Nat} {v : Value} {n : Nat} {DV QV : Nat → Value} {H : Nat → Hp} {x : Hp} {vd vp : Value}
theorem HpAt.below(h:HpAt w B x vd vp)(hb:Below B w w'):HpAt w' B x vd vp:=⟨h.1.below hb,h.2.below hb⟩
theorem HpAt.mono(h:HpAt w B x vd vp)(hb:B≤B'):HpAt w B' x vd vp:=⟨h.1.mono hb,h.2.mono hb⟩
theorem HpAt.up(h:HpAt w w.heap.size x vd vp)(hb:Below w.heap.size w w'):HpAt w' w'.heap.size x vd vp:=(h.below hb).mono hb.size
theorem HpSl.below(h:HpSl w B v n DV QV H)(hb:Below B w w'):HpSl w' B v n DV QV H:=by
 obtain⟨ad,cap,h1,h0,h2⟩:=h;refine⟨ad,cap,h1,h0,?_⟩;rcases h2 with h2|⟨bl,off,h3,h4,h5⟩;·exact Or.inl h2
 refine Or.inr ⟨bl,off,h3,h4,fun j hj=>?_⟩;obtain⟨⟨g0,g1,g2,g3,g4,g5,g6⟩,g7⟩:=h5 j hj;exact⟨⟨by rw[hb.cell h4];exact g0,by rw[hb.cell h4];exact g1,by rw[hb.cell h4];exact g2,by rw[hb.cell h4];exact g3,by rw[hb.cell h4];exact g4,by rw[hb.cell h4];exact g5,by rw[hb.cell h4];exact g6⟩,g7.below hb⟩
theorem HpSl.mono(h:HpSl w B v n DV QV H)(hb:B≤B'):HpSl w B' v n DV QV H:=by
 obtain⟨ad,cap,h1,h0,h2⟩:=h;refine⟨ad,cap,h1,h0,?_⟩;rcases h2 with h2|⟨bl,off,h3,h4,h5⟩;·exact Or.inl h2
 exact Or.inr ⟨bl,off,h3,by omega,fun j hj=>⟨(h5 j hj).1,(h5 j hj).2.mono hb⟩⟩
theorem HpSl.up(h:HpSl w w.heap.size v n DV QV H)(hb:Below w.heap.size w w'):HpSl w' w'.heap.size v n DV QV H:=(h.below hb).mono hb.size
theorem HpSl.at{a:Option Addr}{c:Nat}(h:HpSl w B (.slice a n c) n DV QV H){j:Nat}(hj:j<n):
 ∃bl off,a=some ⟨bl,off,none⟩∧bl<B∧(w.cell? ⟨bl,off+j*7,none⟩=some (.int .i64 (H j).kd)∧w.cell? ⟨bl,off+j*7+1,none⟩=some (.int .i64 (H j).N)∧w.cell? ⟨bl,off+j*7+2,none⟩=some (.int .i64 (H j).M)∧w.cell? ⟨bl,off+j*7+3,none⟩=some (DV j) ∧
  w.cell? ⟨bl,off+j*7+4,none⟩=some (QV j)∧w.cell? ⟨bl,off+j*7+5,none⟩=some (.int .i64 (H j).need)∧w.cell? ⟨bl,off+j*7+6,none⟩=some (.int .i64 (H j).of))∧HpAt w B (H j) (DV j) (QV j):=by
 obtain⟨ad,cap,e,_,h2⟩:=h
 injection e with e1
 subst e1
 rcases h2 with h2|⟨bl,off,rfl,h4,h5⟩
 ·omega
 ·exact⟨bl,off,rfl,h4,(h5 j hj).1,(h5 j hj).2⟩
end
def hapL(H:Nat→Hp)(n:Nat):List Hp:=(List.range n).map H
theorem hapL_succ(H:Nat→Hp)(n:Nat):hapL H (n+1)=hapL H n++[H n]:=by unfold hapL;rw[List.range_succ,List.map_append];rfl
theorem hapL_len(H:Nat→Hp)(n:Nat):(hapL H n).length=n:=by unfold hapL;simp
def MsPost(w:World)(er:Int)(m:Ms)(e:Ending)(w':World):Prop:=MeshPost w er m.n m.b m.np m.P e w'
def RunPost(w:World)(er:Int)(m:Ms)(said:List Int)(e:Ending)(w':World):Prop :=
 Below w.heap.size w w'∧∃(vb vl vo:Value) (n' np' k:Nat) (PV KV:Nat→Value) (UV:Nat→Nat→Value),e=.returned (.tuple #[meshV vb vl,vo,.int .i64 er])∧n'=(if er=0 then m.n else 0)∧np'=(if er=0 then m.np else 0)∧k=(if er=0 then said.length else 0) ∧
  VeSl w' w'.heap.size vb n' PV m.b∧PsSl w' w'.heap.size vl np' KV UV m.P∧IntSl w' w'.heap.size vo k (fun j=>said.getD j 0)
structure WorldOwes:Prop where
 does:∀(vb:Value) (n:Nat) (PV:Nat→Value) (b:Bk) (vl:Value) (np:Nat) (KV:Nat→Value) (UV:Nat→Nat→Value) (P:Ps) (x:Hp) (vd vp:Value) (w:World),VeSl w w.heap.size vb n PV b→PsSl w w.heap.size vl np KV UV P→HpAt w w.heap.size x vd vp →
  Calls Tryz.prog 12 #[meshV vb vl,hapV x vd vp] w (MsPost w (doE ⟨n,b,np,P⟩ x) (happM ⟨n,b,np,P⟩ x))
 run:∀(vb:Value) (n:Nat) (PV:Nat→Value) (b:Bk) (vl:Value) (np:Nat) (KV:Nat→Value) (UV:Nat→Nat→Value) (P:Ps) (vs:Value) (len:Nat) (DV QV:Nat→Value) (H:Nat→Hp) (w:World),VeSl w w.heap.size vb n PV b→PsSl w w.heap.size vl np KV UV P→HpSl w w.heap.size vs len DV QV H →
  Calls Tryz.prog 22 #[meshV vb vl,vs] w (RunPost w (runE ⟨n,b,np,P⟩ len) (runM ⟨n,b,np,P⟩ (hapL H len)) (runS ⟨n,b,np,P⟩ (hapL H len)))
end
section
def spN(b:Bk)(np:Nat)(P:Ps)(v:Int):Int:=((thereL P v np).length:Int)-b.nd v.toNat
section
variable {d m s : Nat} {n : Nat} {b : Bk} {np : Nat} {P : Ps} {v : Int}
end
def thN(P:Ps)(v:Int)(f:Nat):List Int:=(thAll P v f).map fun x=>(P.t x.1).N x.2
theorem thN_len(P:Ps)(v:Int)(np:Nat):(thN P v np).length=(thereL P v np).length:=List.length_map _
theorem seen_thN(P:Ps)(v:Int)(f:Nat)(N:Int):seenN P (thAll P v f) N=true↔N∈thN P v f:=by
 rw[seenN_iff];unfold thN;rw[List.mem_map]
section
variable {n : Nat} {b : Bk} {np : Nat} {P Q : Ps} {v : Int} {k : Nat}
end
def savedL:Ms→List Hp→List (Nat×(Nat→Int))
 |_,[]=>[]
 |m,x::l=>(if x.kd=1∧happE m x=0 then[(x.len,x.D)]else[])++savedL (stepM m x) l
end
section
def LiSl(w:World)(B:Nat)(v:Value)(n:Nat)(VV:Nat→Value)(L:Nat→Nat)(X:Nat→Nat→Int):Prop :=
 ∃(ad:Option Addr) (cap:Nat),v=.slice ad n cap∧(n≤cap∧n*24≤140737488351232)∧(n=0∨∃bl off,ad=some ⟨bl,off,none⟩∧bl<B∧∀j,j<n→w.cell? ⟨bl,off+j,none⟩=some (VV j)∧IntSl w B (VV j) (L j) (X j))
def slL(l:List (Nat×(Nat→Int)))(j:Nat):Nat:=(l.getD j (0,fun _=>0)).1
def slX(l:List (Nat×(Nat→Int)))(j:Nat):Nat→Int:=(l.getD j (0,fun _=>0)).2
section
variable {w w' : World} {B B' : Nat} {v : Value} {n : Nat} {VV : Nat → Value} {L : Nat → Nat} {X : Nat → Nat → Int}
theorem LiSl.up(h:LiSl w w.heap.size v n VV L X)(hb:Below w.heap.size w w'):LiSl w' w'.heap.size v n VV L X:=by
 obtain⟨ad,cap,h1,h0,h2⟩:=h;refine⟨ad,cap,h1,h0,?_⟩;rcases h2 with h2|⟨bl,off,h3,h4,h5⟩;·exact Or.inl h2
 exact Or.inr ⟨bl,off,h3,Nat.lt_of_lt_of_le h4 hb.size,fun j hj=>⟨by rw[hb.cell h4];exact(h5 j hj).1,(h5 j hj).2.up hb⟩⟩
theorem LiSl.at(h:LiSl w B v n VV L X){j:Nat}(hj:j<n):∃bl off cap,v=.slice (some ⟨bl,off,none⟩) n cap∧bl<B∧w.cell? ⟨bl,off+j,none⟩=some (VV j)∧IntSl w B (VV j) (L j) (X j):=by
 obtain⟨ad,cap,h1,h0,h2⟩:=h;rcases h2 with h2|⟨bl,off,rfl,h4,h5⟩;·omega
 exact⟨bl,off,cap,h1,h4,(h5 j hj).1,(h5 j hj).2⟩
end
def SavedPost(w:World)(er:Int)(l:List (Nat×(Nat→Int)))(e:Ending)(w':World):Prop :=
 Below w.heap.size w w'∧∃(vo:Value) (n:Nat) (VV:Nat→Value),e=.returned (.tuple #[vo,.int .i64 er])∧n=(if er=0 then l.length else 0)∧LiSl w' w'.heap.size vo n VV (slL l) (slX l)
def savE(lr:Nat)(Z:Nat→Int)(len:Nat):Int:=if newE lr Z=0 then(if len≤100 then 0 else 1)else newE lr Z
def spV(n:Nat)(b:Bk)(np:Nat)(P:Ps)(k:Int):Int:=if verM n b np P k=0 then spN b np P k else 0
structure TaleOwes:Prop where
 saved:∀(vr:Value) (lr:Nat) (Z:Nat→Int) (vs:Value) (len:Nat) (DV QV:Nat→Value) (H:Nat→Hp) (w:World),IntSl w w.heap.size vr lr Z→lr≤1048576→HpSl w w.heap.size vs len DV QV H →
  Calls Tryz.prog 25 #[vr,vs] w (SavedPost w (savE lr Z len) (savedL ⟨0,noB,lr,freshP Z⟩ (hapL H len)))
 spare:∀(vb:Value) (n:Nat) (PV:Nat→Value) (b:Bk) (vl:Value) (np:Nat) (KV:Nat→Value) (UV:Nat→Nat→Value) (P:Ps) (k:Int) (w:World),VeSl w w.heap.size vb n PV b→PsSl w w.heap.size vl np KV UV P →
  Calls Tryz.prog 26 #[meshV vb vl,.int .i64 k] w fun e w'=>e=.returned (.tuple #[.int .i64 (spV n b np P k),.int .i64 (verM n b np P k)])∧Below w.heap.size w w'
structure LsInv(w wr:World)(v:Value)(VV:List Value)(l:List (Nat×(Nat→Int))):Prop where
 below:Below w.heap.size w wr
 own:wr.ownsRow w.heap.size 28 1 v l.length VV
 len:VV.length=l.length
 at_:∀j,j<l.length→IntSl wr wr.heap.size (VV.getD j undef) (slL l j) (slX l j)
 off:∀s,v.ownBlock=some s→∀j,j<l.length→OfB s (slL l j) (VV.getD j undef)
section
variable {w wr w' : World} {v v' : Value} {VV : List Value} {l : List (Nat × (Nat → Int))}
theorem LsInv.nil(w:World):LsInv w w (.slice none 0 0) [] []:=⟨Below.refl _ _,World.ownsRow_nil _ _ _ _,rfl,fun j hj=>absurd hj (Nat.not_lt_zero _),fun s hs j hj=>absurd hj (Nat.not_lt_zero _)⟩
theorem LsInv.up(h:LsInv w wr v VV l)(hb:Below wr.heap.size wr w'):LsInv w w' v VV l :=
 ⟨h.below.trans (hb.mono h.below.size),owns_below h.own hb,h.len,fun j hj=>(h.at_ j hj).up hb,h.off⟩
theorem LsInv.grow{x:Value}{d:Nat}{D:Nat→Int}(h:LsInv w wr v VV l)(hx:IntSl wr wr.heap.size x d D)(ho:∀s,v.ownBlock=some s→OfB s d x)(hg:wr.grownBy w' v.ownBlock)(hw:w'.ownsRow w.heap.size 28 1 v' (l.length+1) (VV++[x]))(hat:v'.ownBlock=v.ownBlock∨v'.ownBlock=some wr.heap.size):
 LsInv w w' v' (VV++[x]) (l++[(d,D)]):=by
 have hlt:=h.own.lt
 have hsz:=hg.size
 have e1:∀j,j<l.length→slL (l++[(d,D)]) j=slL l j∧slX (l++[(d,D)]) j=slX l j∧(VV++[x]).getD j undef=VV.getD j undef:=fun j hj=>by
  have h9:=h.len;refine⟨?_,?_,?_⟩;·unfold slL;rw[List.getD_eq_getElem?_getD,List.getD_eq_getElem?_getD,List.getElem?_append_left hj]
  ·unfold slX;rw[List.getD_eq_getElem?_getD,List.getD_eq_getElem?_getD,List.getElem?_append_left hj]
  rw[List.getD_eq_getElem?_getD,List.getD_eq_getElem?_getD,List.getElem?_append_left (by omega)]
 have e2:slL (l++[(d,D)]) l.length=d∧slX (l++[(d,D)]) l.length=D∧(VV++[x]).getD l.length undef=x:=by
  have h9:=h.len;refine⟨?_,?_,?_⟩;·unfold slL;simp
  ·unfold slX;simp
  rw[←h9];simp
 have hi:∀ {y:Value} {m:Nat} {Y:Nat→Int},IntSl wr wr.heap.size y m Y→(∀s,v.ownBlock=some s→OfB s m y)→IntSl w' w'.heap.size y m Y:=fun {y m Y} hy hoy=>by
  cases hrow:v.ownBlock with
  |none=>rw[hrow]at hg;exact hy.up (below_of_grown hg)
  |some s=>rw[hrow]at hg;exact hy.grownO hg (hoy s hrow)
 refine⟨h.below.grown hg h.below.size fun k hk=>(hlt k hk).1,?_,by rw[List.length_append,List.length_append,h.len];rfl,fun j hj=>?_,fun s hs j hj=>?_⟩
 ·rw[List.length_append];exact hw
 ·rw[List.length_append]at hj
  by_cases c:j<l.length
  ·obtain⟨a1,a2,a3⟩:=e1 j c
   rw[a1,a2,a3];exact hi (h.at_ j c) fun s hs=>h.off s hs j c
  obtain rfl:j=l.length:=by simp at hj;omega
  obtain⟨a1,a2,a3⟩:=e2;rw[a1,a2,a3];exact hi hx ho
 ·rw[List.length_append]at hj
  by_cases c:j<l.length
  ·obtain⟨a1,a2,a3⟩:=e1 j c
   rw[a1,a3];rcases hat with hat|hat;·exact h.off s (by rw[←hat];exact hs) j c
   rw[hat]at hs;injection hs with hs;exact offB_isl (h.at_ j c) (by omega)
  obtain rfl:j=l.length:=by simp at hj;omega
  obtain⟨a1,a2,a3⟩:=e2;rw[a1,a3];rcases hat with hat|hat;·exact ho s (by rw[←hat];exact hs)
  rw[hat]at hs;injection hs with hs;exact offB_isl hx (by omega)
theorem LsInv.lisl(h:LsInv w wr v VV l)(hr:l.length*24≤140737488351232):LiSl wr wr.heap.size v l.length (fun j=>VV.getD j undef) (slL l) (slX l):=by
 obtain⟨_,h2⟩:=h.own;rcases h2 with⟨e1,e0⟩|⟨g,cap,cur,e1,hg,hh,hc1,hc2,hsz,hcur⟩
 ·rw[e1,e0]
  exact⟨none,0,rfl,⟨Nat.le_refl _,by omega⟩,Or.inl rfl⟩
 refine⟨_,cap,e1,⟨hc1,hr⟩,Or.inr ⟨g,0,rfl,(Array.getElem?_eq_some_iff.1 hh).1,fun j hj=>⟨?_,h.at_ j hj⟩⟩⟩;have h9:VV[j]?=some (VV.getD j undef):=by
  have:=h.len;rw[List.getD_eq_getElem?_getD,List.getElem?_eq_getElem (by omega)];rfl
 have h4:cur[j]?=some (VV.getD j undef):=by
  rw[←hcur,List.getElem?_take]at h9;rw[if_pos (by omega)]at h9;rw[hcur]at h9;simpa using h9
 rw[Nat.zero_add];simp[World.cell?,hh,h4]
end
end
def dnX:Nat→Int:=fun i=>[(2:Int),2,2].getD i 0
def dnM:Ms:=⟨0,noB,3,freshP dnX⟩
def dn0:Nat→Int:=fun _=>0
def dnA:Nat→Int:=fun i=>[(1:Int),2].getD i 0
def dnB:Nat→Int:=fun i=>[(3:Int)].getD i 0
def dnC:Nat→Int:=fun i=>[(0:Int)].getD i 0
def dnL:List Hp:=[⟨1,0,0,2,dnA,0,dn0,1,2⟩,⟨2,0,0,0,dn0,0,dn0,0,0⟩,⟨2,0,0,0,dn0,0,dn0,0,0⟩,⟨6,0,0,0,dn0,0,dn0,0,0⟩,⟨3,0,0,0,dn0,0,dn0,0,0⟩,⟨5,2,0,0,dn0,0,dn0,0,0⟩,
 ⟨1,0,0,1,dnB,1,dnC,1,1⟩,⟨7,0,0,0,dn0,0,dn0,0,0⟩,⟨7,1,0,0,dn0,0,dn0,0,0⟩,⟨4,1,0,0,dn0,0,dn0,0,0⟩]
section
variable {P : Program} {D : World → Prop}
end
def wX:Nat→Int:=fun i=>[(2:Int),2,2,2,2].getD i 0
def wD:Nat→Int:=fun i=>[(5:Int),7,9].getD i 0
def w0:Nat→Int:=fun _=>0
def wB:Bk:=saveB 0 noB 2 4 3 0 w0
def wP(t0:Bool)(x:Int):Ps:=⟨fun k=>if k=0 then t0 else true,fun _=>2,fun k=>if k<4 then 1 else 0,fun k=>⟨fun _=>0,fun _=>(k:Int),fun _=>2,fun _ r=>if k=1∧r=0 then x else([[(5:Int),9],[7,0],[9,22],[11,13]].getD k []).getD r 0⟩⟩
theorem w_new:newE 5 wX=0:=by decide +kernel
theorem w_save:saveE 0 noB 5 (freshP wX) 2 4 3 wD 0 w0=0:=by decide +kernel
theorem w_for:forL (freshP wX) 0 5 4=[0,1,2,3]:=by decide +kernel
theorem w_shv:∀k,k<4→∀r,r<2→shv 2 3 wD k r=([[(5:Int),9],[7,0],[9,22],[11,13]].getD k []).getD r 0:=by decide +kernel
theorem w_ok:peersE 1 wB 5 (wP false 7)=0∧peersE 1 wB 5 (wP false 8)=0:=by decide +kernel
theorem w_there:thereL (wP false 7) 0 5=[(1,0),(2,0),(3,0)]∧thereL (wP false 8) 0 5=[(1,0),(2,0),(3,0)]:=by decide +kernel
theorem w_e7:rsE 1 wB 5 (wP false 7) 0=0:=by decide +kernel
theorem w_e8:rsE 1 wB 5 (wP false 8) 0=0:=by decide +kernel
theorem w_d7:eqB 3 3 (rsD wB 5 (wP false 7) 0) wD=true:=by decide +kernel
theorem w_none:rsE 1 wB 5 (wP false 7) 1=4:=by decide +kernel
theorem w_mend:mendE 1 wB 5 (wP false 7) 0=0:=by decide +kernel
theorem w_m4:(mendP wB 5 (wP false 7) 0).m 4=1∧((mendP wB 5 (wP false 7) 0).t 4).N 0=0:=by decide +kernel
theorem w_mok:peersE 1 wB 5 (mendP wB 5 (wP false 7) 0)=0:=by decide +kernel
theorem w_b7:(rsB 1 wB 5 (wP false 7) 0).length=0:=by decide +kernel
theorem w_b8:(rsB 1 wB 5 (wP false 8) 0).length=1:=by decide +kernel
theorem cell_set_lit{w:World}{g o g' o':Nat}(h:g'≠g∨o'≠o)(u:Value):(w.setCell ⟨g,o,none⟩ u).cell? ⟨g',o',none⟩=w.cell? ⟨g',o',none⟩:=by
 by_cases hg:g'=g
 ·subst hg
  have ho:o'≠o:=by rcases h with h|h;exact absurd rfl h;exact h
  unfold World.cell? World.setCell;simp only[Array.getElem?_modify];cases hb:w.heap[g']? with
  |none=>simp
  |some x =>
   cases x<;>simp[Array.getElem?_setIfInBounds_ne (Ne.symm ho)]
 exact World.cell?_of_block (Below.heap_setCell _ _ _ _ (by show g'≠g;exact hg))
theorem cell_set_same{w:World}{g o:Nat}{v:Value}(h:w.cell? ⟨g,o,none⟩=some v)(u:Value):(w.setCell ⟨g,o,none⟩ u).cell? ⟨g,o,none⟩=some u:=by
 unfold World.cell? at h;unfold World.cell? World.setCell;simp only[Array.getElem?_modify];cases hb:w.heap[g]? with
 |none=>rw[hb]at h;simp at h
 |some x =>
  rw[hb]at h;cases x with
  |cells c e f =>
   simp at h;have ho:o<c.size:=(Array.getElem?_eq_some_iff.1 h).1;simp[ho]
  |_=>simp at h
theorem world_eq{w w':World}(h1:w'.heap=w.heap)(h2:w'.tape=w.tape)(h3:w'.drawn=w.drawn)(h4:w'.os=w.os)(h5:w'.output=w.output):w'=w:=by
 cases w';cases w;simp_all
theorem setCell_same{w:World}{g o:Nat}{u:Value}(h:w.cell? ⟨g,o,none⟩=some u):w.setCell ⟨g,o,none⟩ u=w:=by
 refine world_eq ?_ rfl rfl rfl rfl;unfold World.cell? at h;unfold World.setCell;apply Array.ext_getElem?;intro i;simp only[Array.getElem?_modify];by_cases hi:g=i
 ·subst hi
  rw[if_pos rfl];cases hb:w.heap[g]? with
  |none=>rfl
  |some x =>
   rw[hb]at h;cases x with
   |cells c e f =>
    simp at h;obtain⟨ho,hoe⟩:=Array.getElem?_eq_some_iff.1 h;simp only[Option.map_some,Option.isSome_none,Bool.false_eq_true,if_false,Option.some.injEq,Obj.cells.injEq,and_true];apply Array.ext_getElem?;intro j;rw[Array.getElem?_setIfInBounds];by_cases hj:o=j;·subst hj;rw[if_pos rfl,if_pos ho,h]
    rw[if_neg hj]
   |_=>rfl
 rw[if_neg hi]
theorem frozen_set{w:World}{a b:Addr}{u:Value}:(w.setCell a u).frozen? b=w.frozen? b:=by
 unfold World.frozen? World.setCell;simp only[Array.getElem?_modify];by_cases h:a.block=b.block
 ·rw[if_pos h]
  cases hb:w.heap[b.block]? with
  |none=>rfl
  |some x=>cases x<;>rfl
 rw[if_neg h]
theorem isl_slice{w:World}{B g o:Nat}{v:Value}{m:Nat}{X:Nat→Int}{a:Option Addr}{n c:Nat}(h:IntSl w B v m X)(hc:w.cell? ⟨g,o,none⟩=some (.slice a n c))(u:Value):IntSl (w.setCell ⟨g,o,none⟩ u) B v m X:=by
 obtain⟨ad,cap,rfl,h0,h2⟩:=h;refine⟨ad,cap,rfl,h0,?_⟩;rcases h2 with h2|⟨b,off,rfl,h4,h5⟩;·exact Or.inl h2
 refine Or.inr ⟨b,off,rfl,h4,fun j hj=>?_⟩;have h6:=h5 j hj;rw[cell_set_lit];·exact h6
 by_cases e1:b=g
 ·right
  intro e2;rw[e1,e2,hc]at h6;injection h6 with h6;cases h6
 exact Or.inl e1
theorem kel_slice{w:World}{B g o:Nat}{v:Value}{m:Nat}{UV:Nat→Value}{t:Kt}{a:Option Addr}{n c:Nat}{th:Bool}(h:KeSl w B v m UV t)(hc:w.cell? ⟨g,o+2,none⟩=some (.slice a n c))(hb:w.cell? ⟨g,o,none⟩=some (.bool th))(u:Value):KeSl (w.setCell ⟨g,o+2,none⟩ u) B v m UV t:=by
 obtain⟨ad,cap,rfl,h0,h2⟩:=h;refine⟨ad,cap,rfl,h0,?_⟩;rcases h2 with h2|⟨b,off,rfl,h4,h5⟩;·exact Or.inl h2
 refine Or.inr ⟨b,off,rfl,h4,fun j hj=>?_⟩;obtain⟨x0,x1,x2,x3⟩:=h5 j hj;refine⟨?_,?_,?_,isl_slice x3 hc u⟩
 ·rw[cell_set_lit]
  ·exact x0
  by_cases e1:b=g;·right;intro e2;rw[e1,e2,hc]at x0;injection x0 with x0;cases x0
  exact Or.inl e1
 ·rw[cell_set_lit]
  ·exact x1
  by_cases e1:b=g;·right;intro e2;rw[e1,e2,hc]at x1;injection x1 with x1;cases x1
  exact Or.inl e1
 rw[cell_set_lit];·exact x2
 by_cases e1:b=g
 ·right
  intro e2;have e3:off+j*3=o:=by omega
  rw[e1,e3,hb]at x0;injection x0 with x0;cases x0
 exact Or.inl e1
def flatP(KV:Nat→Value)(P:Ps)(np:Nat):List Value:=(List.range np).flatMap fun k=>[.bool (P.th k),.int .i64 (P.rm k),KV k]
theorem flatP_len(KV:Nat→Value)(P:Ps)(np:Nat):(flatP KV P np).length=np*3:=by
 induction np with
 |zero=>rfl
 |succ np ih =>
  unfold flatP at ih ⊢;rw[List.range_succ,List.flatMap_append,List.length_append,ih];simp;omega
theorem flatP_succ(KV:Nat→Value)(P:Ps)(np:Nat):flatP KV P (np+1)=flatP KV P np++[.bool (P.th np),.int .i64 (P.rm np),KV np]:=by
 unfold flatP;rw[List.range_succ,List.flatMap_append];simp
theorem flatP_get(KV:Nat→Value)(P:Ps):∀(np k:Nat),k<np→(flatP KV P np)[k*3]?=some (.bool (P.th k))∧(flatP KV P np)[k*3+1]?=some (.int .i64 (P.rm k))∧(flatP KV P np)[k*3+2]?=some (KV k):=by
 intro np;induction np with
 |zero=>intro k hk;omega
 |succ np ih =>
  intro k hk;rw[flatP_succ];by_cases e:k=np
  ·subst e
   have hl:=flatP_len KV P k;refine⟨?_,?_,?_⟩;·rw[List.getElem?_append_right (by omega),hl,Nat.sub_self];rfl
   ·rw[List.getElem?_append_right (by omega),hl,show k*3+1-k*3=1 by omega];rfl
   rw[List.getElem?_append_right (by omega),hl,show k*3+2-k*3=2 by omega];rfl
  have hl:=flatP_len KV P np;obtain⟨h1,h2,h3⟩:=ih k (by omega);refine⟨?_,?_,?_⟩;·rw[List.getElem?_append_left (by omega)];exact h1
  ·rw[List.getElem?_append_left (by omega)];exact h2
  rw[List.getElem?_append_left (by omega)];exact h3
theorem flatP_one{KV:Nat→Value}{P:Ps}{np:Nat}(h:∀k,k<np→(KV k).oneCell'=true):∀u∈flatP KV P np,u.oneCell'=true:=by
 intro u hu;unfold flatP at hu;obtain⟨i,hi,hu⟩:=List.mem_flatMap.1 hu;simp only[List.mem_cons,List.not_mem_nil,or_false]at hu;rcases hu with rfl|rfl|rfl;·rfl
 ·rfl
 exact h i (List.mem_range.1 hi)
structure RowP(wr:World)(g np:Nat)(KV:Nat→Value)(P:Ps):Prop where
 cell:∀k,k<np→wr.cell? ⟨g,k*3,none⟩=some (.bool (P.th k))∧wr.cell? ⟨g,k*3+1,none⟩=some (.int .i64 (P.rm k))∧wr.cell? ⟨g,k*3+2,none⟩=some (KV k)
 free:∀i,i<np*3→wr.frozen? ⟨g,i,none⟩=false
 lt:g<wr.heap.size
theorem RowP.up{wr w':World}{g np:Nat}{KV:Nat→Value}{P:Ps}(h:RowP wr g np KV P)(hb:Below wr.heap.size wr w'):RowP w' g np KV P :=
 ⟨fun k hk=>by
  obtain⟨h1,h2,h3⟩:=h.cell k hk;exact⟨by rw[hb.cell h.lt];exact h1,by rw[hb.cell h.lt];exact h2,by rw[hb.cell h.lt];exact h3⟩,
  fun i hi=>by rw[←h.free i hi];exact World.frozen?_of_block (hb.block g h.lt),Nat.lt_of_lt_of_le h.lt hb.size⟩
theorem RowP.kel{wr:World}{g np cap:Nat}{KV:Nat→Value}{P:Ps}{UV:Nat→Nat→Value}(h:RowP wr g np KV P)(hc:np≤cap)(hr:np*40≤140737488351232)(hk:∀k,k<np→KeSl wr wr.heap.size (KV k) (P.m k) (UV k) (P.t k)):PsSl wr wr.heap.size (.slice (some ⟨g,0,none⟩) np cap) np KV UV P:=by
 refine⟨_,cap,rfl,⟨hc,hr⟩,Or.inr ⟨g,0,rfl,h.lt,fun k hk'=>?_⟩⟩;obtain⟨h1,h2,h3⟩:=h.cell k hk';rw[Nat.zero_add];exact⟨h1,h2,h3,hk k hk'⟩
theorem RowP.put{wr:World}{g np q:Nat}{KV:Nat→Value}{P P':Ps}(h:RowP wr g np KV P)(hq:q<np)(u:Value)(e1:∀k,k<np→P'.th k=P.th k)(e2:∀k,k<np→P'.rm k=P.rm k):RowP (wr.setCell ⟨g,q*3+2,none⟩ u) g np (fun k=>if k=q then u else KV k) P' :=
 ⟨fun k hk=>by
  obtain⟨h1,h2,h3⟩:=h.cell k hk;rw[e1 k hk,e2 k hk];refine⟨by rw[cell_set_lit (Or.inr (by omega))];exact h1,by rw[cell_set_lit (Or.inr (by omega))];exact h2,?_⟩;show _=some (if k=q then u else KV k);by_cases e:k=q;·subst e;rw[if_pos rfl];exact cell_set_same h3 u
  rw[if_neg e,cell_set_lit (Or.inr (by omega))];exact h3,
  fun i hi=>by rw[frozen_set];exact h.free i hi,by simpa[World.setCell]using h.lt⟩
theorem rowP_of{wr:World}{base:Nat}{v:Value}{np:Nat}{KV:Nat→Value}{P:Ps}(h:wr.ownsRow base 41 3 v np (flatP KV P np))(hn:1≤np):∃g cap,v=.slice (some ⟨g,0,none⟩) np cap∧base≤g∧np≤cap∧RowP wr g np KV P:=by
 obtain⟨hl,h2⟩:=h;rcases h2 with⟨rfl,h0⟩|⟨g,cap,cur,rfl,hg,hh,hc1,hc2,hsz,hcur⟩;·omega
 have key:∀i u,i<np*3→(flatP KV P np)[i]?=some u→wr.cell? ⟨g,i,none⟩=some u:=fun i u hi h3=>by
  rw[←hcur,List.getElem?_take,if_pos hi]at h3;exact cell_at hh (by simpa using h3)
 refine⟨g,cap,rfl,hg,hc1,fun k hk=>?_,fun i hi=>frozen_at hh,(Array.getElem?_eq_some_iff.1 hh).1⟩;obtain⟨q1,q2,q3⟩:=flatP_get KV P np k hk;exact⟨key _ _ (by omega) q1,key _ _ (by omega) q2,key _ _ (by omega) q3⟩
theorem rowP_any{wr:World}{base g0:Nat}{v:Value}{np:Nat}{KV:Nat→Value}{P:Ps}(h:wr.ownsRow base 41 3 v np (flatP KV P np))(hg0:g0<wr.heap.size):∃av g cap,v=.slice av np cap∧(1≤np→av=some ⟨g,0,none⟩∧base≤g)∧np≤cap∧RowP wr g np KV P:=by
 by_cases hn:1≤np
 ·obtain⟨g,cap,e,h1,h2,h3⟩:=rowP_of h hn
  exact⟨_,g,cap,e,fun _=>⟨rfl,h1⟩,h2,h3⟩
 have h0:np=0:=by omega
 subst h0;rcases h.2 with⟨rfl,_⟩|⟨g,cap,cur,rfl,_,_,hc1,_⟩;·exact⟨none,g0,0,rfl,fun h=>absurd h hn,Nat.le_refl _,fun k hk=>(by omega),fun i hi=>(by omega),hg0⟩
 exact⟨_,g0,cap,rfl,fun h=>absurd h hn,hc1,fun k hk=>(by omega),fun i hi=>(by omega),hg0⟩
theorem RowP.sl{wr:World}{av:Option Addr}{g np cap:Nat}{KV:Nat→Value}{P:Ps}{UV:Nat→Nat→Value}(h:RowP wr g np KV P)(ha:1≤np→av=some ⟨g,0,none⟩)(hc:np≤cap)(hr:np*40≤140737488351232)(hk:∀k,k<np→KeSl wr wr.heap.size (KV k) (P.m k) (UV k) (P.t k)):PsSl wr wr.heap.size (.slice av np cap) np KV UV P:=by
 by_cases hn:1≤np;·rw[ha hn];exact h.kel hc hr hk
 exact⟨av,cap,rfl,⟨hc,hr⟩,Or.inl (by omega)⟩
theorem Tryz.infoPeer:(Tryz.prog.info? 41).map (fun i=>(i.zero,i.size,i.bytes))=some (some (.agg #[.bool false,.int .i64 0,.slice none 0 0]),3,40):=by kernel_rfl
theorem cloneP{w:World}{v:Value}{m:Nat}{KV:Nat→Value}{UV:Nat→Nat→Value}{P:Ps}(h:PsSl w w.heap.size v m KV UV P)(hn:m≤1000):
 Calls Tryz.prog 57 #[v] w fun e w'=>∃v',e=.returned v'∧w'.ownsRow w.heap.size 41 3 v' m (flatP KV P m)∧Below w.heap.size w w':=by
 obtain⟨ad,cap,rfl,⟨hc,hr⟩,hx⟩:=h
 have q34:∀(w:World) (a:Option Addr) (n c:Nat),(binOp .eql 25 (.slice a n c) (.slice none 0 0)).run Tryz.prog w=.ok (.bool a.isNone) w:=fun w a n c=>Lib.run_eql_slice_nil w _ _ a n c 0 0 Tryz.underlying25
 cases ad with
 |none =>
  have h0:m=0:=by
   rcases hx with h0|⟨bl,off,e,_⟩;·exact h0
   cases e
  subst h0;clear hx;go_enter Tryz.func57,Tryz.ntmps57;go_wp2;go_ret;exact⟨_,rfl,World.ownsRow_nil _ _ _ _,Below.refl _ _⟩
 |some a =>
  have hnews:∀j u,(flatP KV P m)[j]?=some u→w.cell? (Addr.add a j)=some u:=by
   intro j u hu;have hj:j<m*3:=by
    have:=(List.getElem?_eq_some_iff.1 hu).1;rw[flatP_len]at this;exact this
   rcases hx with h0|⟨bl,off,e,hbl,hx⟩;·omega
   injection e with e;subst e;obtain⟨g1,g2,g3,_⟩:=hx (j/3) (by omega);obtain⟨q1,q2,q3⟩:=flatP_get KV P m (j/3) (by omega);rw[Addr.add_lit];rcases(show j=j/3*3∨j=j/3*3+1∨j=j/3*3+2 by omega)with e|e|e
   ·rw[e]at hu ⊢
    rw[q1]at hu;rw[g1,←hu]
   ·rw[e]at hu ⊢
    rw[q2]at hu;rw[←Nat.add_assoc,g2,←hu]
   rw[e]at hu ⊢;rw[q3]at hu;rw[←Nat.add_assoc,g3,←hu]
  have h1:∀u∈flatP KV P m,u.oneCell'=true:=flatP_one fun i hi=>by
   rcases hx with h0|⟨bl,off,e,hbl,hx⟩;·omega
   obtain⟨ap,cp,e2,_⟩:=(hx i hi).2.2.2;rw[e2];rfl
  have HNw:=hid hnews;have H1:=hid h1;obtain⟨ii,hi,hz0,hz1,hz2⟩:=info_parts Tryz.infoPeer;have HLn:Hid ((flatP KV P m).length=m*3):=flatP_len KV P m;obtain⟨F,hF⟩:∃F,flatP KV P m=F:=⟨_,rfl⟩;rw[hF]at HNw H1 HLn;have HF:=hid hF;clear hx hnews h1 hF;go_enter Tryz.func57,Tryz.ntmps57;go_wp2_with(at_builtin;go_must(refine wpList_append_own _ rfl _ _ 25 rfl w.heap.size 41 ii (.agg #[.bool false,.int .i64 0,.slice none 0 0]) 3 40 Tryz.underlying25 hi hz0 hz1 hz2 rfl (by decide) _ _ _ rfl (World.ownsRow_made w #[] 0 (Nat.le_refl _) (Nat.zero_le _) (by simp)) a m cap F rfl HLn.out (fun j u hu=>Lib.cell?_alloc_some _ (HNw.out j u hu)) H1.out (by unfold maxLen;omega) (by omega) (by simp) ?_;intro v1 w2 ho hg _;have HO:=hid ho;have HG:=hid hg;clear ho hg))
  go_ret;refine⟨_,rfl,?_,?_⟩
  ·have h:=HO.out
   rw[Nat.zero_add,List.nil_append,←HF.out]at h;exact h
  exact((Below.refl _ _).alloc (Nat.le_refl _) _).grown HG.out (by simp) (fun k hk=>by cases hk;exact Nat.le_refl _)
end Go.Proofs.YtajmnlhfnhbleaaGreat
