/- Several texts of one proof, in their order. -/
import Derived.Test.YtajmnlhfnhbleaaGreatKw1
namespace Go.Proofs.YtajmnlhfnhbleaaGreat
open Go.RowKit
set_option linter.unusedVariables false
structure Kt where
 V:Nat→Int
 N:Nat→Int
 L:Nat→Nat
 X:Nat→Nat→Int
def KeSl(w:World)(B:Nat)(v:Value)(n:Nat)(UV:Nat→Value)(t:Kt):Prop :=
 ∃(ad:Option Addr) (cap:Nat),v=.slice ad n cap∧(n≤cap∧n*40≤140737488351232)∧(n=0∨∃bl off,ad=some ⟨bl,off,none⟩∧bl<B∧∀j,j<n →
  w.cell? ⟨bl,off+j*3,none⟩=some (.int .i64 (t.V j))∧w.cell? ⟨bl,off+j*3+1,none⟩=some (.int .i64 (t.N j))∧w.cell? ⟨bl,off+j*3+2,none⟩=some (UV j)∧IntSl w B (UV j) (t.L j) (t.X j))
theorem KeSl.below{w w':World}{B:Nat}{v:Value}{n:Nat}{UV:Nat→Value}{t:Kt}(h:KeSl w B v n UV t)(hb:Below B w w'):KeSl w' B v n UV t:=by
 obtain⟨ad,cap,h1,h0,h2⟩:=h;refine⟨ad,cap,h1,h0,?_⟩;rcases h2 with h2|⟨bl,off,h3,h4,h5⟩;·exact Or.inl h2
 refine Or.inr ⟨bl,off,h3,h4,fun j hj=>?_⟩;obtain⟨g1,g2,g3,g4⟩:=h5 j hj;exact⟨by rw[hb.cell h4];exact g1,by rw[hb.cell h4];exact g2,by rw[hb.cell h4];exact g3,g4.below hb⟩
theorem KeSl.mono{w:World}{B B':Nat}{v:Value}{n:Nat}{UV:Nat→Value}{t:Kt}(h:KeSl w B v n UV t)(hb:B≤B'):KeSl w B' v n UV t:=by
 obtain⟨ad,cap,h1,h0,h2⟩:=h;refine⟨ad,cap,h1,h0,?_⟩;rcases h2 with h2|⟨bl,off,h3,h4,h5⟩;·exact Or.inl h2
 refine Or.inr ⟨bl,off,h3,by omega,fun j hj=>?_⟩;obtain⟨g1,g2,g3,g4⟩:=h5 j hj;exact⟨g1,g2,g3,g4.mono hb⟩
theorem KeSl.up{w w':World}{v:Value}{n:Nat}{UV:Nat→Value}{t:Kt}(h:KeSl w w.heap.size v n UV t)(hb:Below w.heap.size w w'):KeSl w' w'.heap.size v n UV t:=(h.below hb).mono hb.size
def keptV(ver N:Int)(uv:Value):Value:=.agg #[.int .i64 ver,.int .i64 N,uv]
def peerV(th:Bool)(room:Int)(vk:Value):Value:=.agg #[.bool th,.int .i64 room,vk]
def oneK(b:Bk)(t:Kt)(k:Nat):Int:=oneE (b.nd (t.V k).toNat) (b.of (t.V k).toNat) (b.sz (t.V k).toNat) (t.N k) (t.L k) (t.X k)
def scanK(n:Nat)(b:Bk)(t:Kt):Nat→Nat→Int→Int
 |0,_,_=>0
 |f+1,k,last=>if t.V k<0∨(n:Int)≤t.V k then 4 else if t.V k≤last then 5 else if oneK b t k=0 then scanK n b t f (k+1) (t.V k)else oneK b t k
def peerE(n:Nat)(b:Bk)(room:Int)(m:Nat)(t:Kt):Int :=
 if bookE n b=0 then(if 0≤room∧room≤20 then(if(m:Int)≤room then scanK n b t m 0 (-1)else 8)else 2)else bookE n b
def verK(t u:Kt)(j:Nat):Bool:=decide (t.V j=u.V j)&&sameB (t.N j) (u.N j) (t.L j) (u.L j) (t.X j) (u.X j)
def restK(t u:Kt):Nat→Nat→Bool
 |0,_=>true
 |f+1,k=>verK t u k&&restK t u f (k+1)
def keptB(n m:Nat)(t u:Kt):Bool:=decide (n=m)&&restK t u n 0
def peerB(a1 a2:Bool)(r1 r2:Int)(n m:Nat)(t u:Kt):Bool:=(a1==a2)&&(decide (r1=r2)&&keptB n m t u)
theorem grown_of_below{w w':World}(h:Below w.heap.size w w')(row:Option Nat):w.grownBy w' row:=⟨h.os,h.tape,h.output,h.size,fun k hk _=>h.block k hk⟩
theorem owns_below{w w':World}{base:Nat}{e:TypeId}{size:Nat}{v:Value}{n:Nat}{xs:List Value}(h:w.ownsRow base e size v n xs)(hb:Below w.heap.size w w'):w'.ownsRow base e size v n xs:=by
 cases hv:v.ownBlock with
 |none=>exact h.kept (grown_of_below hb none) (Or.inl hv)
 |some g=>exact h.kept (grown_of_below hb none) (Or.inr (by rw[hv];intro h;cases h))
theorem OwnI.below{w0 wr w':World}{v:Value}{n:Nat}{C:Nat→Int}(h:OwnI w0 wr v n C)(hb:Below wr.heap.size wr w'):OwnI w0 w' v n C :=
 ⟨owns_below h.1 hb,h.2.trans (hb.mono h.2.size)⟩
theorem OwnI.shape{w0 wr:World}{v:Value}{n:Nat}{C:Nat→Int}(h:OwnI w0 wr v n C):∃ad cap,v=.slice ad n cap:=by
 obtain⟨_,h2⟩:=h.1;rcases h2 with⟨h1,h0⟩|⟨g,cap,cur,h1,_⟩;·exact⟨none,0,by rw[h0];exact h1⟩
 exact⟨_,_,h1⟩
theorem OwnI.congr{w0 wr:World}{v:Value}{n:Nat}{C D:Nat→Int}(h:OwnI w0 wr v n C)(e:∀j,j<n→C j=D j):OwnI w0 wr v n D:=by
 refine⟨?_,h.2⟩;have e2:((List.range n).map fun j=>Value.int .i64 (D j))=(List.range n).map fun j=>Value.int .i64 (C j):=List.map_congr_left fun j hj=>by rw[e j (List.mem_range.1 hj)]
 rw[e2];exact h.1
theorem OwnI.isl{w0 wr:World}{v:Value}{n:Nat}{C:Nat→Int}(h:OwnI w0 wr v n C)(hn:1≤n)(hr:n*8≤140737488351232):IntSl wr wr.heap.size v n C:=by
 obtain⟨g,cap,rfl,hc,hrow⟩:=h.row hn;exact hrow.isl hc hr
structure Two(w0 wr:World)(va vb:Value)(r:Nat)(A B:Nat→Int):Prop where
 a:OwnI w0 wr va r A
 b:OwnI w0 wr vb r B
 ne:va.ownBlock=none∨va.ownBlock≠vb.ownBlock
theorem Two.nil(w:World)(A B:Nat→Int):Two w w (.slice none 0 0) (.slice none 0 0) 0 A B:=⟨OwnI.nil _ _,OwnI.nil _ _,Or.inl rfl⟩
theorem Two.below{w0 wr w':World}{va vb:Value}{r:Nat}{A B:Nat→Int}(h:Two w0 wr va vb r A B)(hb:Below wr.heap.size wr w'):Two w0 w' va vb r A B:=⟨h.a.below hb,h.b.below hb,h.ne⟩
theorem Two.after{w0 wr w1:World}{va vb va':Value}{r:Nat}{A B:Nat→Int}{k:Int}(h:Two w0 wr va vb r A B)(o:Obj)
 (ho:w1.ownsRow w0.heap.size 3 1 va' (r+1) (((List.range r).map fun j=>Value.int .i64 (A j))++[.int .i64 k])) (hg:(wr.alloc o).grownBy w1 va.ownBlock)
 (hat:va'.ownBlock=va.ownBlock∨va'.ownBlock=some (wr.alloc o).heap.size) :
 OwnI w0 w1 va' (r+1) (fun j=>if j=r then k else A j)∧OwnI w0 w1 vb r B∧(vb.ownBlock=none∨va'.ownBlock≠vb.ownBlock):=by
 have hbA:Below w0.heap.size w0 (wr.alloc o):=h.a.2.alloc h.a.2.size o
 have hlo:∀g,va.ownBlock=some g→w0.heap.size≤g:=fun g hgg=>(h.a.1.lt g hgg).1
 have hb1:Below w0.heap.size w0 w1:=hbA.grown hg hbA.size hlo
 have hvb:w1.ownsRow w0.heap.size 3 1 vb r ((List.range r).map fun j=>Value.int .i64 (B j)):=by
  refine(h.b.1.alloc o).kept hg ?_;rcases h.ne with h1|h1
  ·rw[h1]
   cases hv:vb.ownBlock with
   |none=>exact Or.inl rfl
   |some g=>exact Or.inr (by intro h;cases h)
  exact Or.inr (Ne.symm h1)
 refine⟨⟨?_,hb1⟩,⟨hvb,hb1⟩,?_⟩
 ·have e:((List.range (r+1)).map fun j=>Value.int .i64 (if j=r then k else A j))=((List.range r).map fun j=>Value.int .i64 (A j))++[.int .i64 k]:=by
   rw[List.range_succ,List.map_append];congr 1;·exact List.map_congr_left fun j hj=>by have:=List.mem_range.1 hj;rw[if_neg (by omega)]
   ·simp
  rw[e];exact ho
 ·cases hv:vb.ownBlock with
  |none=>exact Or.inl rfl
  |some g =>
   right;have hlt:=(h.b.1.lt g hv).2;rcases hat with h1|h1
   ·rw[h1]
    rcases h.ne with h2|h2;·rw[h2];intro h;cases h
    rw[←hv];exact h2
   rw[h1];intro h2;injection h2 with h2;simp at h2;omega
theorem Two.both{w0 w2 w3:World}{va vb vb':Value}{r:Nat}{A B:Nat→Int}{v:Int}(ha:OwnI w0 w2 va (r+1) A)(hb:OwnI w0 w2 vb r B)(hne:vb.ownBlock=none∨va.ownBlock≠vb.ownBlock)(o:Obj)
 (ho:w3.ownsRow w0.heap.size 3 1 vb' (r+1) (((List.range r).map fun j=>Value.int .i64 (B j))++[.int .i64 v])) (hg:(w2.alloc o).grownBy w3 vb.ownBlock)
 (hat:vb'.ownBlock=vb.ownBlock∨vb'.ownBlock=some (w2.alloc o).heap.size) :
 Two w0 w3 va vb' (r+1) A (fun j=>if j=r then v else B j):=by
 have hbA:Below w0.heap.size w0 (w2.alloc o):=hb.2.alloc hb.2.size o
 have hlo:∀g,vb.ownBlock=some g→w0.heap.size≤g:=fun g hgg=>(hb.1.lt g hgg).1
 have hb1:Below w0.heap.size w0 w3:=hbA.grown hg hbA.size hlo
 have hva:w3.ownsRow w0.heap.size 3 1 va (r+1) ((List.range (r+1)).map fun j=>Value.int .i64 (A j)):=by
  refine(ha.1.alloc o).kept hg ?_;rcases hne with h1|h1
  ·rw[h1]
   cases hv:va.ownBlock with
   |none=>exact Or.inl rfl
   |some g=>exact Or.inr (by intro h;cases h)
  exact Or.inr h1
 refine⟨⟨hva,hb1⟩,⟨?_,hb1⟩,?_⟩
 ·have e:((List.range (r+1)).map fun j=>Value.int .i64 (if j=r then v else B j))=((List.range r).map fun j=>Value.int .i64 (B j))++[.int .i64 v]:=by
   rw[List.range_succ,List.map_append];congr 1;·exact List.map_congr_left fun j hj=>by have:=List.mem_range.1 hj;rw[if_neg (by omega)]
   ·simp
  rw[e];exact ho
 ·cases hv:va.ownBlock with
  |none=>exact Or.inl rfl
  |some g =>
   right;have hlt:=(ha.1.lt g hv).2;rcases hat with h1|h1
   ·rw[h1]
    rcases hne with h2|h2;·rw[h2];intro h;cases h
    rw[←hv];exact h2
   rw[h1];intro h2;injection h2 with h2;simp at h2;omega
def anyB(p:Nat→Bool):Nat→Nat→Bool
 |0,_=>false
 |f+1,i=>p i||anyB p f (i+1)
theorem anyB_iff(p:Nat→Bool):∀f i,anyB p f i=true↔∃j,i≤j∧j<i+f∧p j=true:=by
 intro f;induction f with
 |zero=>intro i;simp only[anyB];exact⟨fun h=>(by cases h),fun⟨j,h1,h2,_⟩=>(by omega)⟩
 |succ f ih =>
  intro i;simp only[anyB,Bool.or_eq_true,ih];constructor
  ·rintro(h|⟨j,h1,h2,h3⟩)
   ·exact⟨i,Nat.le_refl _,by omega,h⟩
   exact⟨j,by omega,by omega,h3⟩
  rintro⟨j,h1,h2,h3⟩;by_cases e:j=i;·subst e;exact Or.inl h3
  exact Or.inr ⟨j,by omega,by omega,h3⟩
def frm(b:Bk):Nat→Nat→Nat→Bool
 |0,_,_=>false
 |f+1,k,old=>decide (k=old)||anyB (fun i=>frm b f (b.PX k i).toNat old) (b.PL k) 0
def Elder(n:Nat)(b:Bk):Prop:=∀k,k<n→∀i,i<b.PL k→0≤b.PX k i∧b.PX k i<(k:Int)
theorem parE_ok(k:Int)(X:Nat→Int):∀f i last,parE k X f i last=0→(∀j,i≤j→j<i+f→0≤X j∧X j<k∧last<X j)∧∀j,i≤j→j+1<i+f→X j<X (j+1):=by
 intro f;induction f with
 |zero=>intro i last _;exact⟨fun j h1 h2=>by omega,fun j h1 h2=>by omega⟩
 |succ f ih =>
  intro i last h;simp only[parE]at h;by_cases c1:X i<0∨k≤X i;·rw[if_pos c1]at h;omega
  rw[if_neg c1]at h;by_cases c2:X i≤last;·rw[if_pos c2]at h;omega
  rw[if_neg c2]at h;obtain⟨h1,h2⟩:=ih (i+1) (X i) h;have c3:¬X i<0:=fun hh=>c1 (Or.inl hh);have c4:¬k≤X i:=fun hh=>c1 (Or.inr hh);refine⟨fun j g1 g2=>?_,fun j g1 g2=>?_⟩
  ·by_cases e:j=i
   ·subst e;omega
   have:=h1 j (by omega) (by omega);omega
  by_cases e:j=i;·subst e;exact(h1 (j+1) (by omega) (by omega)).2.2
  exact h2 j (by omega) (by omega)
theorem scanV_ok(b:Bk):∀f k,scanV b f k=0→∀j,k≤j→j<k+f→verE b j=0:=by
 intro f;induction f with
 |zero=>intro k _ j h1 h2;omega
 |succ f ih =>
  intro k h j h1 h2;simp only[scanV]at h;by_cases c:verE b k=0
  ·rw[if_pos c]at h
   by_cases e:j=k;·subst e;exact c
   exact ih (k+1) h j (by omega) (by omega)
  rw[if_neg c]at h;exact absurd h c
structure Right(n:Nat)(b:Bk):Prop where
 le:n≤12
 elder:Elder n b
 rise:∀k,k<n→∀i,i+1<b.PL k→b.PX k i<b.PX k (i+1)
 plan:∀k,k<n→chkP (b.nd k) (b.of k) (b.sz k)=0
theorem right_of{n:Nat}{b:Bk}(h:bookE n b=0):Right n b:=by
 unfold bookE at h;by_cases hn:n≤12
 ·rw[if_pos hn]at h
  have hall:=scanV_ok b n 0 h;have hp:∀k,k<n→parE k (b.PX k) (b.PL k) 0 (-1)=0∧chkP (b.nd k) (b.of k) (b.sz k)=0:=fun k hk=>by
   have h1:=hall k (Nat.zero_le _) (by omega);unfold verE at h1;by_cases c:parE k (b.PX k) (b.PL k) 0 (-1)=0;·rw[if_pos c]at h1;exact⟨c,h1⟩
   rw[if_neg c]at h1;exact absurd h1 c
  refine⟨hn,fun k hk i hi=>?_,fun k hk i hi=>(parE_ok _ _ _ _ _ (hp k hk).1).2 i (Nat.zero_le _) (by omega),fun k hk=>(hp k hk).2⟩;have:=(parE_ok _ _ _ _ _ (hp k hk).1).1 i (Nat.zero_le _) (by omega);omega
 rw[if_neg hn]at h;omega
theorem owns_base{W:World}{base base':Nat}{e:TypeId}{size:Nat}{v:Value}{k:Nat}{xs:List Value}(h:W.ownsRow base e size v k xs)(hb:base'≤base):W.ownsRow base' e size v k xs:=by
 obtain⟨h1,h2⟩:=h;refine⟨h1,?_⟩;rcases h2 with h2|⟨g,cap,cur,hv,hg,hr⟩;·exact Or.inl h2
 exact Or.inr ⟨g,cap,cur,hv,Nat.le_trans hb hg,hr⟩
def OwnL(w0 wr:World)(v:Value)(l:List Int):Prop:=wr.ownsRow w0.heap.size 3 1 v l.length (l.map (Value.int .i64))∧Below w0.heap.size w0 wr
theorem map_getD(l:List Int):((List.range l.length).map fun j=>Value.int .i64 (l.getD j 0))=l.map (Value.int .i64):=by
 apply List.ext_getElem (by simp);intro j h1 h2;have hj:j<l.length:=by simpa using h1
 simp[List.getD_eq_getElem?_getD,hj]
theorem OwnL.ownI{w0 wr:World}{v:Value}{l:List Int}(h:OwnL w0 wr v l):OwnI w0 wr v l.length (fun j=>l.getD j 0):=by
 refine⟨?_,h.2⟩;rw[map_getD];exact h.1
theorem OwnL.nil(w:World):OwnL w w (.slice none 0 0) []:=⟨World.ownsRow_nil _ _ _ _,Below.refl _ _⟩
theorem OwnL.up{w0 wr w':World}{v:Value}{l:List Int}(h:OwnL w0 wr v l)(hb:Below wr.heap.size wr w'):OwnL w0 w' v l:=⟨owns_below h.1 hb,h.2.trans (hb.mono h.2.size)⟩
theorem OwnL.push{w0 wr w1:World}{v v':Value}{l:List Int}{x:Int}{o:Obj}(h:OwnL w0 wr v l)
 (ho:w1.ownsRow w0.heap.size 3 1 v' (l.length+1) (l.map (Value.int .i64)++[.int .i64 x])) (hg:(wr.alloc o).grownBy w1 v.ownBlock):OwnL w0 w1 v' (l++[x]):=by
 refine⟨?_,?_⟩
 ·rw[List.length_append,List.map_append]
  exact ho
 ·have hbA:Below w0.heap.size w0 (wr.alloc o):=h.2.alloc h.2.size o
  exact hbA.grown hg hbA.size (fun g hgg=>(h.1.lt g hgg).1)
theorem OwnL.isl{w0 wr:World}{v:Value}{l:List Int}(h:OwnL w0 wr v l)(hr:l.length*8≤140737488351232):IntSl wr wr.heap.size v l.length (fun j=>l.getD j 0):=by
 by_cases h0:l.length=0
 ·obtain⟨ad,cap,e⟩:=h.ownI.shape
  obtain⟨_,h2⟩:=h.1;rcases h2 with⟨e1,_⟩|⟨g,cp,cur,e1,_,_,hc,_⟩;·rw[e1,h0];exact⟨none,0,rfl,⟨Nat.le_refl _,by omega⟩,Or.inl rfl⟩
  exact⟨_,cp,e1,⟨hc,hr⟩,Or.inl h0⟩
 exact h.ownI.isl (by omega) hr
def LiPost(w:World)(l:List Int)(er:Int)(e:Ending)(w':World):Prop :=
 Below w.heap.size w w'∧∃vo,e=.returned (.tuple #[vo,.int .i64 er])∧IntSl w' w'.heap.size vo l.length (fun j=>l.getD j 0)
theorem liPost_nil{w w':World}{er:Int}(hb:Below w.heap.size w w'):LiPost w [] er (.returned (.tuple #[.slice none 0 0,.int .i64 er])) w' :=
 ⟨hb,_,rfl,none,0,rfl,⟨Nat.le_refl _,by simp⟩,Or.inl rfl⟩
def behL(b:Bk)(f k j:Nat):List Int:=((List.range j).filter fun old=>frm b f k old).map fun(x:Nat)=>(x:Int)
theorem contains_sl{w:World}{B:Nat}{v:Value}{n:Nat}{X:Nat→Int}(h:IntSl w B v n X)(x:Int):
 Calls Tryz.prog 55 #[v,.int .i64 x] w fun e w'=>e=.returned (.bool (hasB X n x))∧w'=w:=by
 obtain⟨ad,cap,rfl,⟨h0,h1⟩,h2⟩:=h
 rcases h2 with rfl|⟨b,off,rfl,_,h3⟩
 ·exact contains_none ad cap x w
 ·exact contains_any b off n cap X x w h1 h3
def parB(b:Bk)(k j:Nat):Bool:=hasB (b.PX j) (b.PL j) (k:Int)
def headsL(b:Bk)(n j:Nat):List Int:=((List.range j).filter fun k => !anyB (parB b k) n 0).map fun(x:Nat)=>(x:Int)
theorem headsL_len(b:Bk)(n j:Nat):(headsL b n j).length≤j:=by
 unfold headsL;rw[List.length_map];refine Nat.le_trans (List.length_filter_le _ _) ?_;simp
section
variable {P : Program} {ops : Array Oper} {md : Region.Mode} {D : World → Prop}
theorem anyM_fork{R:Act→World→Prop}(hs:Region.noSelect ops=true){c1 c2:Nat}{rA rB:List (Nat×Bool)}{seen:Array Bool}{a:Act}{w:World}(hr:Region.ready md ops seen=[c1,c2])(hl:rA.length=rB.length)
 (hA:ordB md ops rA (seen.setIfInBounds c1 true)=true) (hB:ordB md ops rB (seen.setIfInBounds c2 true)=true)
 (h1:wpOp P ops (endN R) c1 (fun a' w'=>D w'∧walkF P ops D R rA a' w') a w) (h2:wpOp P ops (endN R) c2 (fun a' w'=>D w'∧walkF P ops D R rB a' w') a w) :
 anyM P md ops D R (rA.length+1) seen a w:=by
 refine⟨fun h0=>(by rw[h0]at hr;cases hr),fun j hj=>?_⟩
 rw[hr]at hj
 rcases List.mem_cons.1 hj with rfl|hj
 ·exact wpOp_mono (fun a' w' h'=>⟨h'.1,anyM_of_walk hs rA _ a' w' h'.1 hA h'.2⟩) h1
 ·obtain rfl:j=c2:=by simpa using hj
  rw[hl];exact wpOp_mono (fun a' w' h'=>⟨h'.1,anyM_of_walk hs rB _ a' w' h'.1 hB h'.2⟩) h2
def ordQ(md:Region.Mode)(ops:Array Oper):List Nat→Array Bool→Bool
 |[],_=>true
 |i::r,seen=>(Region.ready md ops seen).contains i&&Region.free md ops seen i&&ordQ md ops r (seen.setIfInBounds i true)
def seenQ:List Nat→Array Bool→Array Bool
 |[],seen=>seen
 |i::r,seen=>seenQ r (seen.setIfInBounds i true)
theorem anyM_quiet{l:List Oper}{R G:Act→World→Prop}{f:Nat}{w:World}(hs:Region.noSelect l.toArray=true)(hD:D w):∀(q:List Nat) (seen:Array Bool) (a:Act),ordQ md l.toArray q seen=true →
 (q.all (fun i=>match l[i]? with|some o=>plainB o|none=>false))=true→(∀a,G a w→anyM P md l.toArray D R f (seenQ q seen) a w) →
 wpQuiet P l.toArray (fun w'=>∃u:Of D,w'=u.val) (fun a'=>G a' w) (pickO l q) a→anyM P md l.toArray D R (f+q.length) seen a w
 |[],seen,a,_,_,hG,h=>hG a h
 |i::q,seen,a,ho,hq,hG,h=>by
  simp only[List.all_cons,Bool.and_eq_true]at hq;obtain⟨h1,h2⟩:=hq;simp only[ordQ,Bool.and_eq_true]at ho;obtain⟨⟨hr,hf⟩,ho'⟩:=ho;cases hoi:l[i]? with
  |none=>simp[hoi]at h1
  |some o =>
   simp only[hoi]at h1;simp only[pickO,hoi]at h;have h0:l.toArray[i]?=some o:=by simpa using hoi
   have hst:qOp P l.toArray (fun w'=>∃u:Of D,w'=u.val) i (wpQuiet P l.toArray (fun w'=>∃u:Of D,w'=u.val) (fun a'=>G a' w) (pickO l q)) a:=by unfold qOp;simp only[h0];exact h
   obtain⟨v,hy,hK⟩:=yieldsIn_of_qOp h0 hst;exact anyM_first h0 (Region.noSelect_spec hs) (f+q.length) seen a w hD (Region.free_spec h0 hf) (by simpa using hr) (still_of_yields h1 hy) (anyM_quiet hs hD q _ _ ho' h2 hG hK)
theorem wpOp_of_mix{l:List Oper}{R:Act→World→Prop}{c:Nat}{r:List (List Nat×Nat)}{last:List Nat}{a:Act}{w:World}(hc:(l[c]?).isSome=true)(hf:fitB l r last=true)
 (h:wpList P l.toArray (endN fun a'' w''=>D w''∧mixO P l D R r last a'' w'') (pickO l [c]) a w):wpOp P l.toArray (endN R) c (fun a' w'=>D w'∧walkF P l.toArray D R (flatO r last) a' w') a w:=by
 obtain⟨o,ho⟩:=Option.isSome_iff_exists.1 hc
 have h0:l.toArray[c]?=some o:=by simpa using ho
 simp only[pickO,ho,wpList]at h
 unfold wpOp
 simp only[h0]
 have hk:∀a'' w'',endN (fun a'' w''=>D w''∧mixO P l D R r last a'' w'') .normal a'' w''→D w''∧walkF P l.toArray D R (flatO r last) a'' w'':=fun a'' w'' hh=>⟨hh.2.1,walk_of_mix last r a'' w'' hf hh.2.2⟩
 split
 ·rename_i hw
  simp only[hw,if_true]at h;rcases h with h|h;·exact Or.inl (upon_ends (fun v w1 hh=>hk _ _ hh) (fun d w1 hh=>hk _ _ hh) h)
  exact absurd h.2 letsOut_endN
 ·rename_i hw
  simp only[hw]at h;exact hk _ _ h
theorem region_fork{id:Nat}{Q:Exit→Act→World→Prop}{a:Act}{w:World}{l lq l1 l2:List Oper}(D:World→Prop)(q:List Nat)(c1 c2:Nat)(rA rB:List (List Nat×Nat))(last:List Nat)(hm:P.follows .mixedOrders=true)
 (hB:(Region.noSelect l.toArray&&q.all (fun i=>match l[i]? with|some o=>plainB o|none=>false)&&(l[c1]?).isSome&&(l[c2]?).isSome&&fitB l rA last&&fitB l rB last&&decide ((flatO rA last).length+1+q.length=l.length)&&decide ((flatO rA last).length=(flatO rB last).length)
  && ordQ .any l.toArray q (Array.replicate l.length false)&&(Region.ready .any l.toArray (seenQ q (Array.replicate l.length false))==[c1,c2])
  && ordB .any l.toArray (flatO rA last) ((seenQ q (Array.replicate l.length false)).setIfInBounds c1 true)&&ordB .any l.toArray (flatO rB last) ((seenQ q (Array.replicate l.length false)).setIfInBounds c2 true))=true) (hD:D w.drew)
 (hq:pickO l q=lq) (h1:pickO l [c1]=l1) (h2:pickO l [c2]=l2)
 (h:wpQuiet P l.toArray (fun w'=>∃u:Of D,w'=u.val) (fun a' =>
  (∀K:Act→World→Prop,(∀a'' w'',D w''→mixO P l D (fun a' w'=>Q .normal a' w') rA last a'' w''→K a'' w'')→wpList P l.toArray (endN K) l1 a' w.drew) ∧
  (∀K:Act→World→Prop,(∀a'' w'',D w''→mixO P l D (fun a' w'=>Q .normal a' w') rB last a'' w''→K a'' w'')→wpList P l.toArray (endN K) l2 a' w.drew)) lq a):(Code.region id l.toArray true).wp P Q a w:=by
 subst hq h1 h2
 simp only[Bool.and_eq_true,decide_eq_true_eq,beq_iff_eq]at hB
 obtain⟨⟨⟨⟨⟨⟨⟨⟨⟨⟨⟨hsel,hq⟩,hc1⟩,hc2⟩,hfA⟩,hfB⟩,hlen⟩,hll⟩,hoq⟩,hrd⟩,hoA⟩,hoB⟩:=hB
 refine wp_region_any hm ?_
 have h3:=anyM_quiet (md:=.any) (f:=(flatO rA last).length+1) (R:=fun a' w'=>Q .normal a' w') (w:=w.drew)
  (G:=fun a' w=>(∀K:Act→World→Prop,(∀a'' w'',D w''→mixO P l D (fun a' w'=>Q .normal a' w') rA last a'' w''→K a'' w'')→wpList P l.toArray (endN K) (pickO l [c1]) a' w) ∧
   (∀K:Act→World→Prop,(∀a'' w'',D w''→mixO P l D (fun a' w'=>Q .normal a' w') rB last a'' w''→K a'' w'')→wpList P l.toArray (endN K) (pickO l [c2]) a' w)) hsel hD q _ a hoq hq
  (fun a' ha=>anyM_fork hsel hrd hll hoA hoB (wpOp_of_mix hc1 hfA (ha.1 _ fun a'' w'' g1 g2=>⟨g1,g2⟩)) (wpOp_of_mix hc2 hfB (ha.2 _ fun a'' w'' g1 g2=>⟨g1,g2⟩))) h
 rw[hlen]at h3
 have h4:=any_of_anyM (Q:=Q) (fun _ _ h=>h) _ _ _ _ h3
 simpa using h4
end
section
variable {P : Program} {D : World → Prop}
theorem anyM_pick{l:List Oper}{md:Region.Mode}{R:Act→World→Prop}{f:Nat}{seen:Array Bool}{a:Act}{w:World}(rs:List Nat)(hr:Region.ready md l.toArray seen=rs)(hne:rs≠[])
 (h:∀i∈rs,∃o,l[i]?=some o∧∀K:Act→World→Prop,(∀a'' w'',D w''→anyM P md l.toArray D R f (seen.setIfInBounds i true) a'' w''→K a'' w'')→wpList P l.toArray (endN K) [o] a w) :
 anyM P md l.toArray D R (f+1) seen a w:=by
 refine⟨fun h0=>absurd (hr.symm.trans h0) hne,fun i hi=>?_⟩
 rw[hr]at hi
 obtain⟨o,ho,hK⟩:=h i hi
 have h0:l.toArray[i]?=some o:=by simpa using ho
 have hw:=hK (fun a'' w''=>D w''∧anyM P md l.toArray D R f (seen.setIfInBounds i true) a'' w'') (fun a'' w'' g1 g2=>⟨g1,g2⟩)
 simp only[wpList]at hw
 unfold wpOp
 simp only[h0]
 split
 ·rename_i hwt
  simp only[hwt,if_true]at hw;rcases hw with hw|hw;·exact Or.inl (upon_ends (fun v w1 hh=>hh.2) (fun d w1 hh=>hh.2) hw)
  exact absurd hw.2 letsOut_endN
 ·rename_i hwt
  simp only[hwt]at hw;exact hw.2
theorem anyM_reads{l lq:List Oper}{md:Region.Mode}{R:Act→World→Prop}{f g:Nat}{seen:Array Bool}{a:Act}{w:World}(q:List Nat)(hD:D w)
 (h:wpQuiet P l.toArray (fun w'=>∃u:Of D,w'=u.val) (fun a'=>anyM P md l.toArray D R f (seenQ q seen) a' w) lq a)
 (hs:Region.noSelect l.toArray=true:=by kernel_rfl) (hg:g=f+q.length:=by rfl) (ho:ordQ md l.toArray q seen=true:=by kernel_rfl)
 (hq:(q.all (fun i=>match l[i]? with|some o=>plainB o|none=>false))=true:=by kernel_rfl) (hl:pickO l q=lq:=by simp only[pickO,List.getElem?_cons_zero,List.getElem?_cons_succ];exact rfl):anyM P md l.toArray D R g seen a w:=by
 subst hg hl
 exact anyM_quiet (G:=fun a' w=>anyM P md l.toArray D R f (seenQ q seen) a' w) hs hD q seen a ho hq (fun a h=>h) h
theorem anyM_end{l:List Oper}{md:Region.Mode}{R:Act→World→Prop}{seen:Array Bool}{a:Act}{w:World}(hr:Region.ready md l.toArray seen=[])(h:R a w):anyM P md l.toArray D R 0 seen a w:=⟨hr,h⟩
theorem region_tree{id:Nat}{Q:Exit→Act→World→Prop}{a:Act}{w:World}{l:List Oper}(D:World→Prop)(hm:P.follows .mixedOrders=true)
 (h:anyM P .any l.toArray D (fun a' w'=>Q .normal a' w') l.length (Array.replicate l.length false) a w.drew):(Code.region id l.toArray true).wp P Q a w:=by
 refine wp_region_any hm ?_
 have h2:=any_of_anyM (Q:=Q) (fun _ _ h=>h) _ _ _ _ h
 simpa using h2
end
end Go.Proofs.YtajmnlhfnhbleaaGreat
