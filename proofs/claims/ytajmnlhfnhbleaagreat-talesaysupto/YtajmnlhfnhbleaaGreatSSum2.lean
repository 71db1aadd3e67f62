/- Several texts of one proof, in their order. -/
import Derived.Test.YtajmnlhfnhbleaaGreatSSum1
namespace Go.Proofs.YtajmnlhfnhbleaaGreat
open Go.RowKit
set_option linter.unusedVariables false
set_option maxHeartbeats 2000000
set_option maxRecDepth 10000
theorem checkBook_any(v:Value)(n:Nat)(PV:Nat→Value)(b:Bk)(w:World)(h:VeSl w w.heap.size v n PV b):
 Calls Tryz.prog 86 #[bookV v] w fun e w'=>e=.returned (.int .i64 (bookE n b))∧Below w.heap.size w w':=by
 obtain⟨ad,cap,rfl,⟨hcap,hbig⟩,hx⟩:=h
 have hbx:=below_alloc w (.cells #[.slice ad n cap] 24)
 have HBx:=hid hbx
 have HX:=hid hx
 obtain⟨ans,hans⟩:∃a,bookE n b=a:=⟨_,rfl⟩
 rw[hans]
 unfold bookE at hans
 have HCp:=hid (fun nd of sz w=>checkPlan_any nd of sz w)
 clear hbx hx
 unfold bookV
 by_cases hn:n≤12
 ·rw[if_pos hn]at hans
  have HA:=hid hans;have hni:(n:Int)≤12:=by omega
  clear hans;go_enter Tryz.func86,Tryz.ntmps86;go_wp2;go_loopw [16] (fun iv wr=>∃k:Nat,k≤n∧iv=.int .i64 k∧Hid (Below w.heap.size w wr)∧Hid (scanV b (n-k) k=ans)) (fun iv _=>n-(intOf iv).toNat)
  case atStart=>exact⟨0,Nat.zero_le _,rfl,HBx,HA⟩
  case round =>
   obtain⟨k,hk,rfl,HB,HS⟩:=hrel;by_cases hlt:k<n
   ·have hki:(k:Int)<(n:Int):=by omega
    rcases HX.out with h0|⟨bl,off,rfl,hbl,hx⟩;·omega
    obtain⟨x0,x1,x2,x3,x4⟩:=hx k hlt;have hstep:=HS.out;rw[show n-k=(n-(k+1))+1 by omega]at hstep;simp only[scanV]at hstep;obtain⟨ap,cp,hpe,hpl,hpc⟩:=x4;obtain⟨m,hm⟩:∃m,b.PL k=m:=⟨_,rfl⟩;rw[hm]at hpe hpl hpc;have g0:wr.cell? ⟨bl,off+k*4,none⟩=some (.slice ap m cp):=by rw[HB.out.cell hbl,x0,hpe]
    have g1:wr.cell? ⟨bl,off+k*4+1,none⟩=some (.int .i64 (b.nd k)):=by rw[HB.out.cell hbl];exact x1
    have g2:wr.cell? ⟨bl,off+k*4+2,none⟩=some (.int .i64 (b.of k)):=by rw[HB.out.cell hbl];exact x2
    have g3:wr.cell? ⟨bl,off+k*4+3,none⟩=some (.int .i64 (b.sz k)):=by rw[HB.out.cell hbl];exact x3
    obtain⟨nd,hnd⟩:∃nd,b.nd k=nd:=⟨_,rfl⟩;obtain⟨of,hof⟩:∃of,b.of k=of:=⟨_,rfl⟩;obtain⟨sz,hsz⟩:∃sz,b.sz k=sz:=⟨_,rfl⟩;rw[hnd]at g1;rw[hof]at g2;rw[hsz]at g3;have hbA:=below_alloc wr (.cells #[.slice ap m cp,.int .i64 nd,.int .i64 of,.int .i64 sz] 61);obtain⟨W,hW⟩:∃W,wr.alloc (.cells #[.slice ap m cp,.int .i64 nd,.int .i64 of,.int .i64 sz] 61)=W:=⟨_,rfl⟩;rw[hW]at hbA;have s0:W.cell? ⟨wr.heap.size,0,none⟩=some (.slice ap m cp):=by rw[←hW];exact cell_at (heap_alloc_new _ _) rfl
    have s1:W.cell? ⟨wr.heap.size,1,none⟩=some (.int .i64 nd):=by rw[←hW];exact cell_at (heap_alloc_new _ _) rfl
    have s2:W.cell? ⟨wr.heap.size,2,none⟩=some (.int .i64 of):=by rw[←hW];exact cell_at (heap_alloc_new _ _) rfl
    have s3:W.cell? ⟨wr.heap.size,3,none⟩=some (.int .i64 sz):=by rw[←hW];exact cell_at (heap_alloc_new _ _) rfl
    have HBW:=hid (HB.out.trans (hbA.mono HB.out.size));have HPc:=hid hpc;have HSt:=hid hstep;have HNd:=hid hnd;have HOf:=hid hof;have HSz:=hid hsz;have HM:=hid hm;clear x0 x1 x2 x3 hx hpe hbA hpc hstep hnd hof hsz hm;go_wp2;go_loopw [5,24] (fun lv iv wz=>∃(i:Nat) (last:Int),i≤m∧iv=.int .i64 i∧lv=.int .i64 last∧wz=W∧Hid (parE k (b.PX k) (m-i) i last=parE k (b.PX k) m 0 (-1))) (fun _ iv _=>m-(intOf iv).toNat)
    case atStart=>exact⟨0,-1,Nat.zero_le _,rfl,rfl,rfl,rfl⟩
    case round =>
     obtain⟨i,last,hi,rfl,rfl,hwz,HP⟩:=hrel;subst hwz;by_cases him:i<m
     ·have himi:(i:Int)<(m:Int):=by omega
      rcases HPc.out with h0|⟨bp,op,rfl,hbp,hpx⟩;·omega
      have e0:wr.cell? ⟨bp,op+i,none⟩=some (.int .i64 (b.PX k i)):=by rw[HBW.out.cell hbp];exact hpx i him
      have hp:=HP.out;rw[show m-i=(m-(i+1))+1 by omega]at hp;simp only[parE]at hp;obtain⟨x,hxx⟩:∃x,b.PX k i=x:=⟨_,rfl⟩;rw[hxx]at e0 hp;clear hpx hxx;by_cases c1:x<0∨(k:Int)≤x
      ·rw[if_pos c1]at hp
       have hst:=HSt.out;have hv:verE b k=4:=by unfold verE;rw[HM.out,←hp,if_neg (by decide)]
       rw[hv,if_neg (by decide)]at hst;have HFin:=hid hst;clear hp hst hv;by_cases c2:x<0
       ·go_wp2
        go_ret;exact⟨by rw[←HFin.out];rfl,HBW.out⟩
       have c3:(k:Int)≤x:=by omega
       go_wp2;go_ret;exact⟨by rw[←HFin.out];rfl,HBW.out⟩
      rw[if_neg c1]at hp;have c2:¬x<0:=fun h=>c1 (Or.inl h);have c3:¬(k:Int)≤x:=fun h=>c1 (Or.inr h);by_cases c4:x≤last
      ·rw[if_pos c4]at hp
       have hst:=HSt.out;have hv:verE b k=5:=by unfold verE;rw[HM.out,←hp,if_neg (by decide)]
       rw[hv,if_neg (by decide)]at hst;have HFin:=hid hst;clear hp hst hv c1;go_wp2;go_ret;exact⟨by rw[←HFin.out];rfl,HBW.out⟩
      rw[if_neg c4]at hp;have HP2:=hid hp;clear hp c1;go_wp2;go_roundw
      case rel=>exact⟨i+1,x,by omega,by go_num,rfl,trivial,HP2⟩
      case measure=>simp only[intOf];omega
     have hie:m=i:=by omega
     subst hie;have hp:=HP.out;rw[Nat.sub_self]at hp;have hp0:parE k (b.PX k) m 0 (-1)=0:=hp.symm;have hst:=HSt.out;have hv:verE b k=chkP nd of sz:=by unfold verE;rw[HM.out,hp0,if_pos rfl,HNd.out,HOf.out,HSz.out]
     rw[hv]at hst;have HCk:=hid (HCp.out nd of sz wr);obtain⟨c,hcc⟩:∃c,chkP nd of sz=c:=⟨_,rfl⟩;rw[hcc]at hst HCk;clear hp hp0 hv hcc;unfold planV at HCk;by_cases hc0:c=0
     ·subst hc0
      rw[if_pos rfl]at hst;have HNx:=hid hst;clear hst;go_wp2_with fail
      refine Calls.mono HCk.out ?_;rintro e w5 ⟨rfl,hb5⟩;have HB5:=hid (HBW.out.trans (hb5.mono HBW.out.size));clear hb5;go_wp2;go_roundw
      case rel=>exact⟨k+1,by omega,by go_num,HB5,HNx⟩
      case measure=>simp only[intOf];omega
     rw[if_neg hc0]at hst;have HFin:=hid hst;have hcb:(c != 0)=true:=by simpa using hc0
     clear hst hc0;go_wp2_with fail
     refine Calls.mono HCk.out ?_;rintro e w5 ⟨rfl,hb5⟩;have HB5:=hid (HBW.out.trans (hb5.mono HBW.out.size));clear hb5;go_wp2;go_ret;exact⟨by rw[←HFin.out];rfl,HB5.out⟩
   have hke:n=k:=by omega
   subst hke;have hst:=HS.out;rw[Nat.sub_self]at hst;have HFin:Hid ((0:Int)=ans):=hst;clear hst;go_wp2;go_ret;exact⟨by rw[←HFin.out];rfl,HB.out⟩
 ·rw[if_neg hn]at hans
  have HA:=hid hans;have hni:¬(n:Int)≤12:=by omega
  clear hans;go_enter Tryz.func86,Tryz.ntmps86;go_wp2;go_ret;exact⟨by rw[←HA.out];rfl,HBx.out⟩
theorem grown_of_below{w w':World}(h:Below w.heap.size w w')(row:Option Nat):w.grownBy w' row:=⟨h.os,h.tape,h.output,h.size,fun k hk _=>h.block k hk⟩
theorem owns_below{w w':World}{base:Nat}{e:TypeId}{size:Nat}{v:Value}{n:Nat}{xs:List Value}(h:w.ownsRow base e size v n xs)(hb:Below w.heap.size w w'):w'.ownsRow base e size v n xs:=by
 cases hv:v.ownBlock with
 |none=>exact h.kept (grown_of_below hb none) (Or.inl hv)
 |some g=>exact h.kept (grown_of_below hb none) (Or.inr (by rw[hv];intro h;cases h))
theorem OwnI.below{w0 wr w':World}{v:Value}{n:Nat}{C:Nat→Int}(h:OwnI w0 wr v n C)(hb:Below wr.heap.size wr w'):OwnI w0 w' v n C :=
 ⟨owns_below h.1 hb,h.2.trans (hb.mono h.2.size)⟩
theorem OwnI.shape{w0 wr:World}{v:Value}{n:Nat}{C:Nat→Int}(h:OwnI w0 wr v n C):∃ad cap,v=.slice ad n cap:=by
 obtain⟨_,h2⟩:=h.1;rcases h2 with⟨h1,h0⟩|⟨g,cap,cur,h1,_⟩;·exact⟨none,0,by rw[h0];exact h1⟩
 exact⟨_,_,h1⟩
theorem OwnI.congr{w0 wr:World}{v:Value}{n:Nat}{C D:Nat→Int}(h:OwnI w0 wr v n C)(e:∀j,j<n→C j=D j):OwnI w0 wr v n D:=by
 refine⟨?_,h.2⟩;have e2:((List.range n).map fun j=>Value.int .i64 (D j))=(List.range n).map fun j=>Value.int .i64 (C j):=List.map_congr_left fun j hj=>by rw[e j (List.mem_range.1 hj)]
 rw[e2];exact h.1
theorem OwnI.isl{w0 wr:World}{v:Value}{n:Nat}{C:Nat→Int}(h:OwnI w0 wr v n C)(hn:1≤n)(hr:n*8≤140737488351232):IntSl wr wr.heap.size v n C:=by
 obtain⟨g,cap,rfl,hc,hrow⟩:=h.row hn;exact hrow.isl hc hr
structure Two(w0 wr:World)(va vb:Value)(r:Nat)(A B:Nat→Int):Prop where
 a:OwnI w0 wr va r A
 b:OwnI w0 wr vb r B
 ne:va.ownBlock=none∨va.ownBlock≠vb.ownBlock
theorem Two.nil(w:World)(A B:Nat→Int):Two w w (.slice none 0 0) (.slice none 0 0) 0 A B:=⟨OwnI.nil _ _,OwnI.nil _ _,Or.inl rfl⟩
theorem Two.below{w0 wr w':World}{va vb:Value}{r:Nat}{A B:Nat→Int}(h:Two w0 wr va vb r A B)(hb:Below wr.heap.size wr w'):Two w0 w' va vb r A B:=⟨h.a.below hb,h.b.below hb,h.ne⟩
theorem Two.after{w0 wr w1:World}{va vb va':Value}{r:Nat}{A B:Nat→Int}{k:Int}(h:Two w0 wr va vb r A B)(o:Obj)
 (ho:w1.ownsRow w0.heap.size 3 1 va' (r+1) (((List.range r).map fun j=>Value.int .i64 (A j))++[.int .i64 k])) (hg:(wr.alloc o).grownBy w1 va.ownBlock)
 (hat:va'.ownBlock=va.ownBlock∨va'.ownBlock=some (wr.alloc o).heap.size) :
 OwnI w0 w1 va' (r+1) (fun j=>if j=r then k else A j)∧OwnI w0 w1 vb r B∧(vb.ownBlock=none∨va'.ownBlock≠vb.ownBlock):=by
 have hbA:Below w0.heap.size w0 (wr.alloc o):=h.a.2.alloc h.a.2.size o
 have hlo:∀g,va.ownBlock=some g→w0.heap.size≤g:=fun g hgg=>(h.a.1.lt g hgg).1
 have hb1:Below w0.heap.size w0 w1:=hbA.grown hg hbA.size hlo
 have hvb:w1.ownsRow w0.heap.size 3 1 vb r ((List.range r).map fun j=>Value.int .i64 (B j)):=by
  refine(h.b.1.alloc o).kept hg ?_;rcases h.ne with h1|h1
  ·rw[h1]
   cases hv:vb.ownBlock with
   |none=>exact Or.inl rfl
   |some g=>exact Or.inr (by intro h;cases h)
  exact Or.inr (Ne.symm h1)
 refine⟨⟨?_,hb1⟩,⟨hvb,hb1⟩,?_⟩
 ·have e:((List.range (r+1)).map fun j=>Value.int .i64 (if j=r then k else A j))=((List.range r).map fun j=>Value.int .i64 (A j))++[.int .i64 k]:=by
   rw[List.range_succ,List.map_append];congr 1;·exact List.map_congr_left fun j hj=>by have:=List.mem_range.1 hj;rw[if_neg (by omega)]
   ·simp
  rw[e];exact ho
 ·cases hv:vb.ownBlock with
  |none=>exact Or.inl rfl
  |some g =>
   right;have hlt:=(h.b.1.lt g hv).2;rcases hat with h1|h1
   ·rw[h1]
    rcases h.ne with h2|h2;·rw[h2];intro h;cases h
    rw[←hv];exact h2
   rw[h1];intro h2;injection h2 with h2;simp at h2;omega
theorem Two.both{w0 w2 w3:World}{va vb vb':Value}{r:Nat}{A B:Nat→Int}{v:Int}(ha:OwnI w0 w2 va (r+1) A)(hb:OwnI w0 w2 vb r B)(hne:vb.ownBlock=none∨va.ownBlock≠vb.ownBlock)(o:Obj)
 (ho:w3.ownsRow w0.heap.size 3 1 vb' (r+1) (((List.range r).map fun j=>Value.int .i64 (B j))++[.int .i64 v])) (hg:(w2.alloc o).grownBy w3 vb.ownBlock)
 (hat:vb'.ownBlock=vb.ownBlock∨vb'.ownBlock=some (w2.alloc o).heap.size) :
 Two w0 w3 va vb' (r+1) A (fun j=>if j=r then v else B j):=by
 have hbA:Below w0.heap.size w0 (w2.alloc o):=hb.2.alloc hb.2.size o
 have hlo:∀g,vb.ownBlock=some g→w0.heap.size≤g:=fun g hgg=>(hb.1.lt g hgg).1
 have hb1:Below w0.heap.size w0 w3:=hbA.grown hg hbA.size hlo
 have hva:w3.ownsRow w0.heap.size 3 1 va (r+1) ((List.range (r+1)).map fun j=>Value.int .i64 (A j)):=by
  refine(ha.1.alloc o).kept hg ?_;rcases hne with h1|h1
  ·rw[h1]
   cases hv:va.ownBlock with
   |none=>exact Or.inl rfl
   |some g=>exact Or.inr (by intro h;cases h)
  exact Or.inr h1
 refine⟨⟨hva,hb1⟩,⟨?_,hb1⟩,?_⟩
 ·have e:((List.range (r+1)).map fun j=>Value.int .i64 (if j=r then v else B j))=((List.range r).map fun j=>Value.int .i64 (B j))++[.int .i64 v]:=by
   rw[List.range_succ,List.map_append];congr 1;·exact List.map_congr_left fun j hj=>by have:=List.mem_range.1 hj;rw[if_neg (by omega)]
   ·simp
  rw[e];exact ho
 ·cases hv:va.ownBlock with
  |none=>exact Or.inl rfl
  |some g =>
   right;have hlt:=(ha.1.lt g hv).2;rcases hat with h1|h1
   ·rw[h1]
    rcases hne with h2|h2;·rw[h2];intro h;cases h
    rw[←hv];exact h2
   rw[h1];intro h2;injection h2 with h2;simp at h2;omega
def anyB(p:Nat→Bool):Nat→Nat→Bool
 |0,_=>false
 |f+1,i=>p i||anyB p f (i+1)
theorem anyB_iff(p:Nat→Bool):∀f i,anyB p f i=true↔∃j,i≤j∧j<i+f∧p j=true:=by
 intro f;induction f with
 |zero=>intro i;simp only[anyB];exact⟨fun h=>(by cases h),fun⟨j,h1,h2,_⟩=>(by omega)⟩
 |succ f ih =>
  intro i;simp only[anyB,Bool.or_eq_true,ih];constructor
  ·rintro(h|⟨j,h1,h2,h3⟩)
   ·exact⟨i,Nat.le_refl _,by omega,h⟩
   exact⟨j,by omega,by omega,h3⟩
  rintro⟨j,h1,h2,h3⟩;by_cases e:j=i;·subst e;exact Or.inl h3
  exact Or.inr ⟨j,by omega,by omega,h3⟩
def frm(b:Bk):Nat→Nat→Nat→Bool
 |0,_,_=>false
 |f+1,k,old=>decide (k=old)||anyB (fun i=>frm b f (b.PX k i).toNat old) (b.PL k) 0
def Elder(n:Nat)(b:Bk):Prop:=∀k,k<n→∀i,i<b.PL k→0≤b.PX k i∧b.PX k i<(k:Int)
theorem parE_ok(k:Int)(X:Nat→Int):∀f i last,parE k X f i last=0→(∀j,i≤j→j<i+f→0≤X j∧X j<k∧last<X j)∧∀j,i≤j→j+1<i+f→X j<X (j+1):=by
 intro f;induction f with
 |zero=>intro i last _;exact⟨fun j h1 h2=>by omega,fun j h1 h2=>by omega⟩
 |succ f ih =>
  intro i last h;simp only[parE]at h;by_cases c1:X i<0∨k≤X i;·rw[if_pos c1]at h;omega
  rw[if_neg c1]at h;by_cases c2:X i≤last;·rw[if_pos c2]at h;omega
  rw[if_neg c2]at h;obtain⟨h1,h2⟩:=ih (i+1) (X i) h;have c3:¬X i<0:=fun hh=>c1 (Or.inl hh);have c4:¬k≤X i:=fun hh=>c1 (Or.inr hh);refine⟨fun j g1 g2=>?_,fun j g1 g2=>?_⟩
  ·by_cases e:j=i
   ·subst e;omega
   have:=h1 j (by omega) (by omega);omega
  by_cases e:j=i;·subst e;exact(h1 (j+1) (by omega) (by omega)).2.2
  exact h2 j (by omega) (by omega)
theorem scanV_ok(b:Bk):∀f k,scanV b f k=0→∀j,k≤j→j<k+f→verE b j=0:=by
 intro f;induction f with
 |zero=>intro k _ j h1 h2;omega
 |succ f ih =>
  intro k h j h1 h2;simp only[scanV]at h;by_cases c:verE b k=0
  ·rw[if_pos c]at h
   by_cases e:j=k;·subst e;exact c
   exact ih (k+1) h j (by omega) (by omega)
  rw[if_neg c]at h;exact absurd h c
structure Right(n:Nat)(b:Bk):Prop where
 le:n≤12
 elder:Elder n b
 rise:∀k,k<n→∀i,i+1<b.PL k→b.PX k i<b.PX k (i+1)
 plan:∀k,k<n→chkP (b.nd k) (b.of k) (b.sz k)=0
theorem right_of{n:Nat}{b:Bk}(h:bookE n b=0):Right n b:=by
 unfold bookE at h;by_cases hn:n≤12
 ·rw[if_pos hn]at h
  have hall:=scanV_ok b n 0 h;have hp:∀k,k<n→parE k (b.PX k) (b.PL k) 0 (-1)=0∧chkP (b.nd k) (b.of k) (b.sz k)=0:=fun k hk=>by
   have h1:=hall k (Nat.zero_le _) (by omega);unfold verE at h1;by_cases c:parE k (b.PX k) (b.PL k) 0 (-1)=0;·rw[if_pos c]at h1;exact⟨c,h1⟩
   rw[if_neg c]at h1;exact absurd h1 c
  refine⟨hn,fun k hk i hi=>?_,fun k hk i hi=>(parE_ok _ _ _ _ _ (hp k hk).1).2 i (Nat.zero_le _) (by omega),fun k hk=>(hp k hk).2⟩;have:=(parE_ok _ _ _ _ _ (hp k hk).1).1 i (Nat.zero_le _) (by omega);omega
 rw[if_neg hn]at h;omega
theorem owns_base{W:World}{base base':Nat}{e:TypeId}{size:Nat}{v:Value}{k:Nat}{xs:List Value}(h:W.ownsRow base e size v k xs)(hb:base'≤base):W.ownsRow base' e size v k xs:=by
 obtain⟨h1,h2⟩:=h;refine⟨h1,?_⟩;rcases h2 with h2|⟨g,cap,cur,hv,hg,hr⟩;·exact Or.inl h2
 exact Or.inr ⟨g,cap,cur,hv,Nat.le_trans hb hg,hr⟩
def OwnL(w0 wr:World)(v:Value)(l:List Int):Prop:=wr.ownsRow w0.heap.size 3 1 v l.length (l.map (Value.int .i64))∧Below w0.heap.size w0 wr
theorem map_getD(l:List Int):((List.range l.length).map fun j=>Value.int .i64 (l.getD j 0))=l.map (Value.int .i64):=by
 apply List.ext_getElem (by simp);intro j h1 h2;have hj:j<l.length:=by simpa using h1
 simp[List.getD_eq_getElem?_getD,hj]
theorem OwnL.ownI{w0 wr:World}{v:Value}{l:List Int}(h:OwnL w0 wr v l):OwnI w0 wr v l.length (fun j=>l.getD j 0):=by
 refine⟨?_,h.2⟩;rw[map_getD];exact h.1
theorem OwnL.nil(w:World):OwnL w w (.slice none 0 0) []:=⟨World.ownsRow_nil _ _ _ _,Below.refl _ _⟩
theorem OwnL.up{w0 wr w':World}{v:Value}{l:List Int}(h:OwnL w0 wr v l)(hb:Below wr.heap.size wr w'):OwnL w0 w' v l:=⟨owns_below h.1 hb,h.2.trans (hb.mono h.2.size)⟩
theorem OwnL.push{w0 wr w1:World}{v v':Value}{l:List Int}{x:Int}{o:Obj}(h:OwnL w0 wr v l)
 (ho:w1.ownsRow w0.heap.size 3 1 v' (l.length+1) (l.map (Value.int .i64)++[.int .i64 x])) (hg:(wr.alloc o).grownBy w1 v.ownBlock):OwnL w0 w1 v' (l++[x]):=by
 refine⟨?_,?_⟩
 ·rw[List.length_append,List.map_append]
  exact ho
 ·have hbA:Below w0.heap.size w0 (wr.alloc o):=h.2.alloc h.2.size o
  exact hbA.grown hg hbA.size (fun g hgg=>(h.1.lt g hgg).1)
theorem OwnL.isl{w0 wr:World}{v:Value}{l:List Int}(h:OwnL w0 wr v l)(hr:l.length*8≤140737488351232):IntSl wr wr.heap.size v l.length (fun j=>l.getD j 0):=by
 by_cases h0:l.length=0
 ·obtain⟨ad,cap,e⟩:=h.ownI.shape
  obtain⟨_,h2⟩:=h.1;rcases h2 with⟨e1,_⟩|⟨g,cp,cur,e1,_,_,hc,_⟩;·rw[e1,h0];exact⟨none,0,rfl,⟨Nat.le_refl _,by omega⟩,Or.inl rfl⟩
  exact⟨_,cp,e1,⟨hc,hr⟩,Or.inl h0⟩
 exact h.ownI.isl (by omega) hr
def LiPost(w:World)(l:List Int)(er:Int)(e:Ending)(w':World):Prop :=
 Below w.heap.size w w'∧∃vo,e=.returned (.tuple #[vo,.int .i64 er])∧IntSl w' w'.heap.size vo l.length (fun j=>l.getD j 0)
theorem liPost_nil{w w':World}{er:Int}(hb:Below w.heap.size w w'):LiPost w [] er (.returned (.tuple #[.slice none 0 0,.int .i64 er])) w' :=
 ⟨hb,_,rfl,none,0,rfl,⟨Nat.le_refl _,by simp⟩,Or.inl rfl⟩
def behL(b:Bk)(f k j:Nat):List Int:=((List.range j).filter fun old=>frm b f k old).map fun(x:Nat)=>(x:Int)
theorem contains_sl{w:World}{B:Nat}{v:Value}{n:Nat}{X:Nat→Int}(h:IntSl w B v n X)(x:Int):
 Calls Tryz.prog 55 #[v,.int .i64 x] w fun e w'=>e=.returned (.bool (hasB X n x))∧w'=w:=by
 obtain⟨ad,cap,rfl,⟨h0,h1⟩,h2⟩:=h
 rcases h2 with rfl|⟨b,off,rfl,_,h3⟩
 ·exact contains_none ad cap x w
 ·exact contains_any b off n cap X x w h1 h3
def parB(b:Bk)(k j:Nat):Bool:=hasB (b.PX j) (b.PL j) (k:Int)
theorem headF_any(pv:Value)(m:Nat)(X:Nat→Int)(nd of sz k:Int)(bk:Nat)(w:World)(h:IntSl w w.heap.size pv m X)(hk:w.cell? ⟨bk,0,none⟩=some (.int .i64 k)):
 Calls Tryz.prog 99 #[verV pv nd of sz,.pointer (some ⟨bk,0,none⟩)] w fun e w'=>e=.returned (.bool (hasB X m k))∧Below w.heap.size w w':=by
 have hb:=below_alloc w (.cells #[pv,.int .i64 nd,.int .i64 of,.int .i64 sz] 61)
 have HC:=hid (contains_sl (h.up hb) k)
 have HB:=hid hb
 have lk:=cell_lt hk
 obtain⟨ad,cap,rfl,_,_⟩:=h
 clear hb
 unfold verV
 go_enter Tryz.func99,Tryz.ntmps99
 go_wp2_with fail
 refine HC.out.mono ?_
 rintro e w2 ⟨rfl,hw2⟩
 subst hw2
 go_wp2
 go_ret
 exact⟨rfl,HB.out⟩
theorem indexFunc_heads(bk:Nat)(k:Nat)(v:Value)(n:Nat)(PV:Nat→Value)(b:Bk)(w:World)(h:VeSl w w.heap.size v n PV b)(hk:w.cell? ⟨bk,0,none⟩=some (.int .i64 (k:Int))):
 Calls Tryz.prog 134 #[v,.func (.func 99) #[] #[.pointer (some ⟨bk,0,none⟩)]] w fun e w'=>∃r:Int,e=.returned (.int .i64 r)∧decide (0≤r)=anyB (parB b k) n 0∧Below w.heap.size w w':=by
 obtain⟨ad,cap,rfl,⟨hc,hr⟩,hx⟩:=h
 obtain⟨ans,hans⟩:∃ans,anyB (parB b k) n 0=ans:=⟨_,rfl⟩
 rw[hans]
 have HA:=hid hans
 have HX:=hid hx
 have HK:=hid hk
 clear hans hx hk
 go_enter Tryz.func134,Tryz.ntmps134
 go_wp2
 go_loopw [8] (fun iv wr=>∃i:Nat,i≤n∧iv=.int .i64 i∧Hid (Below w.heap.size w wr)∧Hid (anyB (parB b k) (n-i) i=ans)) (fun iv _=>n-(intOf iv).toNat)
 case atStart=>exact⟨0,Nat.zero_le _,rfl,Below.refl _ _,HA⟩
 case round =>
  obtain⟨i,hi,rfl,HB,HS⟩:=hrel;by_cases hlt:i<n
  ·have hii:(i:Int)<(n:Int):=by omega
   rcases HX.out with h0|⟨b1,o1,rfl,hb1,hx⟩;·omega
   obtain⟨x0,x1,x2,x3,x4⟩:=hx i hlt;have HI:=hid (x4.up HB.out);obtain⟨ap,cp,hpe,_,_⟩:=x4;rw[hpe]at x0 HI;have g0:wr.cell? ⟨b1,o1+i*4,none⟩=some (.slice ap (b.PL i) cp):=by rw[HB.out.cell hb1];exact x0
   have g1:wr.cell? ⟨b1,o1+i*4+1,none⟩=some (.int .i64 (b.nd i)):=by rw[HB.out.cell hb1];exact x1
   have g2:wr.cell? ⟨b1,o1+i*4+2,none⟩=some (.int .i64 (b.of i)):=by rw[HB.out.cell hb1];exact x2
   have g3:wr.cell? ⟨b1,o1+i*4+3,none⟩=some (.int .i64 (b.sz i)):=by rw[HB.out.cell hb1];exact x3
   have hkr:wr.cell? ⟨bk,0,none⟩=some (.int .i64 (k:Int)):=by rw[HB.out.cell (cell_lt HK.out)];exact HK.out
   have hstep:=HS.out;rw[show n-i=(n-(i+1))+1 by omega]at hstep;simp only[anyB]at hstep;have HC:=hid (headF_any _ _ _ (b.nd i) (b.of i) (b.sz i) _ bk wr HI.out hkr);unfold verV at HC;have hpb:hasB (b.PX i) (b.PL i) (k:Int)=parB b k i:=rfl;rw[hpb]at HC;clear hx x0 x1 x2 x3 hpe hpb hkr;cases hpi:parB b k i with
   |true =>
    rw[hpi,Bool.true_or]at hstep;rw[hpi]at HC;have HSt:=hid hstep;clear hstep hpi;go_wp2_with fail
    refine Calls.mono HC.out ?_;rintro e w2 ⟨rfl,hb2⟩;have HB2:=hid (HB.out.trans (hb2.mono HB.out.size));clear hb2;go_wp2;go_ret;exact⟨_,rfl,by rw[←HSt.out];exact decide_eq_true (by omega),HB2.out⟩
   |false =>
    rw[hpi,Bool.false_or]at hstep;rw[hpi]at HC;have HSt:=hid hstep;clear hstep hpi;go_wp2_with fail
    refine Calls.mono HC.out ?_;rintro e w2 ⟨rfl,hb2⟩;have HB2:=hid (HB.out.trans (hb2.mono HB.out.size));clear hb2;go_wp2;go_roundw
    case rel=>exact⟨i+1,by omega,by go_num,HB2,HSt⟩
    case measure=>simp only[intOf];omega
  have hie:n=i:=by omega
  subst hie;have hst:=HS.out;rw[Nat.sub_self]at hst;have HFin:Hid (false=ans):=hst;clear hst;go_wp2;go_ret;exact⟨_,rfl,by rw[←HFin.out];decide,HB.out⟩
theorem containsFunc_heads(bk:Nat)(k:Nat)(v:Value)(n:Nat)(PV:Nat→Value)(b:Bk)(w:World)(h:VeSl w w.heap.size v n PV b)(hk:w.cell? ⟨bk,0,none⟩=some (.int .i64 (k:Int))):
 Calls Tryz.prog 98 #[v,.func (.func 99) #[] #[.pointer (some ⟨bk,0,none⟩)]] w fun e w'=>e=.returned (.bool (anyB (parB b k) n 0))∧Below w.heap.size w w':=by
 have HI:=hid (indexFunc_heads bk k v n PV b w h hk)
 obtain⟨ad,cap,rfl,_,_⟩:=h
 clear hk
 go_enter Tryz.func98,Tryz.ntmps98
 go_wp2_with fail
 refine HI.out.mono ?_
 rintro e w2 ⟨r,rfl,hd,hb⟩
 have HB:=hid hb
 have HD:=hid hd
 clear hb hd
 go_wp2
 go_ret
 exact⟨by rw[←HD.out];simp,HB.out⟩
def headsL(b:Bk)(n j:Nat):List Int:=((List.range j).filter fun k => !anyB (parB b k) n 0).map fun(x:Nat)=>(x:Int)
theorem headsL_succ(b:Bk)(n j:Nat):headsL b n (j+1)=headsL b n j++(if anyB (parB b j) n 0=true then[]else[(j:Int)]):=by
 unfold headsL;rw[List.range_succ,List.filter_append,List.map_append];cases h:anyB (parB b j) n 0<;>simp[h]
theorem headsL_len(b:Bk)(n j:Nat):(headsL b n j).length≤j:=by
 unfold headsL;rw[List.length_map];refine Nat.le_trans (List.length_filter_le _ _) ?_;simp
theorem headsOf_any(n:Nat)(v:Value)(PV:Nat→Value)(b:Bk)(hn:n≤12)(w:World)(h:VeSl w w.heap.size v n PV b):
 Calls Tryz.prog 56 #[bookV v] w fun e w'=>Below w.heap.size w w'∧∃vo,e=.returned vo∧OwnL w w' vo (headsL b n n):=by
 have hbx:=below_alloc w (.cells #[v] 24)
 have HV:=hid h
 have HBx:=hid hbx
 obtain⟨ad,cap,rfl,_,_⟩:=h
 obtain⟨ii,hii,hzz0,hzz1,hzz2⟩:=info_parts Tryz.infoInt
 obtain⟨W,hW⟩:∃W,w.alloc (.cells #[.slice ad n cap] 24)=W:=⟨_,rfl⟩
 rw[hW]at HBx
 have b0:W.cell? ⟨w.heap.size,0,none⟩=some (.slice ad n cap):=by rw[←hW];exact cell_at (heap_alloc_new _ _) rfl
 have HB0:=hid b0
 clear hbx
 unfold bookV
 go_enter Tryz.func56,Tryz.ntmps56
 go_wp2
 clear b0
 go_loopw [3,8] (fun vo iv wr=>∃j:Nat,j≤n∧iv=.int .i64 j∧Hid (OwnL W wr vo (headsL b n j))) (fun _ iv _=>n-(intOf iv).toNat)
 case atStart=>exact⟨0,Nat.zero_le _,rfl,OwnL.nil _⟩
 case round =>
  obtain⟨j,hj,rfl,OW⟩:=hrel;by_cases hlt:j<n
  ·have hji:(j:Int)<(n:Int):=by omega
   have hbA:=below_alloc wr (.cells #[.int .i64 (j:Int)] 3);obtain⟨U,hU⟩:∃U,wr.alloc (.cells #[.int .i64 (j:Int)] 3)=U:=⟨_,rfl⟩;rw[hU]at hbA;have u0:U.cell? ⟨wr.heap.size,0,none⟩=some (.int .i64 (j:Int)):=by rw[←hU];exact cell_at (heap_alloc_new _ _) rfl
   have HBU:=hid (OW.out.2.trans (hbA.mono OW.out.2.size));have c0:U.cell? ⟨w.heap.size,0,none⟩=some (.slice ad n cap):=by rw[HBU.out.cell (cell_lt HB0.out)];exact HB0.out
   have OU:=hid (OW.out.up hbA);have hsc:=headsL_succ b n j;have hll:=headsL_len b n j;have HC:=hid (containsFunc_heads wr.heap.size j _ n PV b U (HV.out.up (HBx.out.trans (HBU.out.mono HBx.out.size))) u0);clear hbA;cases hf:anyB (parB b j) n 0 with
   |true =>
    rw[hf,if_pos rfl,List.append_nil]at hsc;rw[hf]at HC;have HSc:=hid hsc;clear hsc hf;go_wp2_with fail
    refine Calls.mono HC.out ?_;rintro e w2 ⟨rfl,hb2⟩;have O2:=hid (OU.out.up hb2);clear hb2;go_wp2;go_roundw
    case rel=>exact⟨j+1,by omega,by go_num,by rw[HSc.out];exact O2.out⟩
    case measure=>simp only[intOf];omega
   |false =>
    rw[hf,if_neg (by decide)]at hsc;rw[hf]at HC;have HSc:=hid hsc;clear hsc hf;go_wp2_with fail
    refine Calls.mono HC.out ?_;rintro e w2 ⟨rfl,hb2⟩;have O2:=hid (OU.out.up hb2);have u2:w2.cell? ⟨wr.heap.size,0,none⟩=some (.int .i64 (j:Int)):=by rw[hb2.cell (cell_lt u0)];exact u0
    have hge:W.heap.size≤w2.heap.size:=O2.out.2.size;clear hb2;go_wp2_with(at_builtin;go_must(refine wpList_append_own _ rfl (.tmp 16) (.tmp 18) 28 rfl W.heap.size 3 ii (.int .i64 0) 1 8 Tryz.underlying28 hii hzz0 hzz1 hzz2 rfl (by decide) _ _ _ rfl (World.ownsRow.alloc O2.out.1 _) ⟨_,0,none⟩ 1 1 [.int .i64 (j:Int)] rfl rfl (newCell _ _ _) (oneCell _) (by unfold maxLen;omega) (by omega) (by simp;omega) ?_;intro v1 w6 ho6 hg6 _;have O6:=hid (O2.out.push ho6 hg6);clear ho6 hg6))
    go_roundw
    case rel=>exact⟨j+1,by omega,by go_num,by rw[HSc.out];exact O6.out⟩
    case measure=>simp only[intOf];omega
  have hje:n=j:=by omega
  subst hje;go_wp2;go_ret;refine⟨HBx.out.trans (OW.out.2.mono HBx.out.size),_,rfl,owns_base OW.out.1 HBx.out.size,HBx.out.trans (OW.out.2.mono HBx.out.size)⟩
section
variable {P : Program} {ops : Array Oper} {md : Region.Mode} {D : World → Prop}
theorem anyM_fork{R:Act→World→Prop}(hs:Region.noSelect ops=true){c1 c2:Nat}{rA rB:List (Nat×Bool)}{seen:Array Bool}{a:Act}{w:World}(hr:Region.ready md ops seen=[c1,c2])(hl:rA.length=rB.length)
 (hA:ordB md ops rA (seen.setIfInBounds c1 true)=true) (hB:ordB md ops rB (seen.setIfInBounds c2 true)=true)
 (h1:wpOp P ops (endN R) c1 (fun a' w'=>D w'∧walkF P ops D R rA a' w') a w) (h2:wpOp P ops (endN R) c2 (fun a' w'=>D w'∧walkF P ops D R rB a' w') a w) :
 anyM P md ops D R (rA.length+1) seen a w:=by
 refine⟨fun h0=>(by rw[h0]at hr;cases hr),fun j hj=>?_⟩
 rw[hr]at hj
 rcases List.mem_cons.1 hj with rfl|hj
 ·exact wpOp_mono (fun a' w' h'=>⟨h'.1,anyM_of_walk hs rA _ a' w' h'.1 hA h'.2⟩) h1
 ·obtain rfl:j=c2:=by simpa using hj
  rw[hl];exact wpOp_mono (fun a' w' h'=>⟨h'.1,anyM_of_walk hs rB _ a' w' h'.1 hB h'.2⟩) h2
def ordQ(md:Region.Mode)(ops:Array Oper):List Nat→Array Bool→Bool
 |[],_=>true
 |i::r,seen=>(Region.ready md ops seen).contains i&&Region.free md ops seen i&&ordQ md ops r (seen.setIfInBounds i true)
def seenQ:List Nat→Array Bool→Array Bool
 |[],seen=>seen
 |i::r,seen=>seenQ r (seen.setIfInBounds i true)
theorem anyM_quiet{l:List Oper}{R G:Act→World→Prop}{f:Nat}{w:World}(hs:Region.noSelect l.toArray=true)(hD:D w):∀(q:List Nat) (seen:Array Bool) (a:Act),ordQ md l.toArray q seen=true →
 (q.all (fun i=>match l[i]? with|some o=>plainB o|none=>false))=true→(∀a,G a w→anyM P md l.toArray D R f (seenQ q seen) a w) →
 wpQuiet P l.toArray (fun w'=>∃u:Of D,w'=u.val) (fun a'=>G a' w) (pickO l q) a→anyM P md l.toArray D R (f+q.length) seen a w
 |[],seen,a,_,_,hG,h=>hG a h
 |i::q,seen,a,ho,hq,hG,h=>by
  simp only[List.all_cons,Bool.and_eq_true]at hq;obtain⟨h1,h2⟩:=hq;simp only[ordQ,Bool.and_eq_true]at ho;obtain⟨⟨hr,hf⟩,ho'⟩:=ho;cases hoi:l[i]? with
  |none=>simp[hoi]at h1
  |some o =>
   simp only[hoi]at h1;simp only[pickO,hoi]at h;have h0:l.toArray[i]?=some o:=by simpa using hoi
   have hst:qOp P l.toArray (fun w'=>∃u:Of D,w'=u.val) i (wpQuiet P l.toArray (fun w'=>∃u:Of D,w'=u.val) (fun a'=>G a' w) (pickO l q)) a:=by unfold qOp;simp only[h0];exact h
   obtain⟨v,hy,hK⟩:=yieldsIn_of_qOp h0 hst;exact anyM_first h0 (Region.noSelect_spec hs) (f+q.length) seen a w hD (Region.free_spec h0 hf) (by simpa using hr) (still_of_yields h1 hy) (anyM_quiet hs hD q _ _ ho' h2 hG hK)
theorem wpOp_of_mix{l:List Oper}{R:Act→World→Prop}{c:Nat}{r:List (List Nat×Nat)}{last:List Nat}{a:Act}{w:World}(hc:(l[c]?).isSome=true)(hf:fitB l r last=true)
 (h:wpList P l.toArray (endN fun a'' w''=>D w''∧mixO P l D R r last a'' w'') (pickO l [c]) a w):wpOp P l.toArray (endN R) c (fun a' w'=>D w'∧walkF P l.toArray D R (flatO r last) a' w') a w:=by
 obtain⟨o,ho⟩:=Option.isSome_iff_exists.1 hc
 have h0:l.toArray[c]?=some o:=by simpa using ho
 simp only[pickO,ho,wpList]at h
 unfold wpOp
 simp only[h0]
 have hk:∀a'' w'',endN (fun a'' w''=>D w''∧mixO P l D R r last a'' w'') .normal a'' w''→D w''∧walkF P l.toArray D R (flatO r last) a'' w'':=fun a'' w'' hh=>⟨hh.2.1,walk_of_mix last r a'' w'' hf hh.2.2⟩
 split
 ·rename_i hw
  simp only[hw,if_true]at h;rcases h with h|h;·exact Or.inl (upon_ends (fun v w1 hh=>hk _ _ hh) (fun d w1 hh=>hk _ _ hh) h)
  exact absurd h.2 letsOut_endN
 ·rename_i hw
  simp only[hw]at h;exact hk _ _ h
theorem region_fork{id:Nat}{Q:Exit→Act→World→Prop}{a:Act}{w:World}{l lq l1 l2:List Oper}(D:World→Prop)(q:List Nat)(c1 c2:Nat)(rA rB:List (List Nat×Nat))(last:List Nat)(hm:P.follows .mixedOrders=true)
 (hB:(Region.noSelect l.toArray&&q.all (fun i=>match l[i]? with|some o=>plainB o|none=>false)&&(l[c1]?).isSome&&(l[c2]?).isSome&&fitB l rA last&&fitB l rB last&&decide ((flatO rA last).length+1+q.length=l.length)&&decide ((flatO rA last).length=(flatO rB last).length)
  && ordQ .any l.toArray q (Array.replicate l.length false)&&(Region.ready .any l.toArray (seenQ q (Array.replicate l.length false))==[c1,c2])
  && ordB .any l.toArray (flatO rA last) ((seenQ q (Array.replicate l.length false)).setIfInBounds c1 true)&&ordB .any l.toArray (flatO rB last) ((seenQ q (Array.replicate l.length false)).setIfInBounds c2 true))=true) (hD:D w.drew)
 (hq:pickO l q=lq) (h1:pickO l [c1]=l1) (h2:pickO l [c2]=l2)
 (h:wpQuiet P l.toArray (fun w'=>∃u:Of D,w'=u.val) (fun a' =>
  (∀K:Act→World→Prop,(∀a'' w'',D w''→mixO P l D (fun a' w'=>Q .normal a' w') rA last a'' w''→K a'' w'')→wpList P l.toArray (endN K) l1 a' w.drew) ∧
  (∀K:Act→World→Prop,(∀a'' w'',D w''→mixO P l D (fun a' w'=>Q .normal a' w') rB last a'' w''→K a'' w'')→wpList P l.toArray (endN K) l2 a' w.drew)) lq a):(Code.region id l.toArray true).wp P Q a w:=by
 subst hq h1 h2
 simp only[Bool.and_eq_true,decide_eq_true_eq,beq_iff_eq]at hB
 obtain⟨⟨⟨⟨⟨⟨⟨⟨⟨⟨⟨hsel,hq⟩,hc1⟩,hc2⟩,hfA⟩,hfB⟩,hlen⟩,hll⟩,hoq⟩,hrd⟩,hoA⟩,hoB⟩:=hB
 refine wp_region_any hm ?_
 have h3:=anyM_quiet (md:=.any) (f:=(flatO rA last).length+1) (R:=fun a' w'=>Q .normal a' w') (w:=w.drew)
  (G:=fun a' w=>(∀K:Act→World→Prop,(∀a'' w'',D w''→mixO P l D (fun a' w'=>Q .normal a' w') rA last a'' w''→K a'' w'')→wpList P l.toArray (endN K) (pickO l [c1]) a' w) ∧
   (∀K:Act→World→Prop,(∀a'' w'',D w''→mixO P l D (fun a' w'=>Q .normal a' w') rB last a'' w''→K a'' w'')→wpList P l.toArray (endN K) (pickO l [c2]) a' w)) hsel hD q _ a hoq hq
  (fun a' ha=>anyM_fork hsel hrd hll hoA hoB (wpOp_of_mix hc1 hfA (ha.1 _ fun a'' w'' g1 g2=>⟨g1,g2⟩)) (wpOp_of_mix hc2 hfB (ha.2 _ fun a'' w'' g1 g2=>⟨g1,g2⟩))) h
 rw[hlen]at h3
 have h4:=any_of_anyM (Q:=Q) (fun _ _ h=>h) _ _ _ _ h3
 simpa using h4
end
section
variable {P : Program} {D : World → Prop}
theorem anyM_pick{l:List Oper}{md:Region.Mode}{R:Act→World→Prop}{f:Nat}{seen:Array Bool}{a:Act}{w:World}(rs:List Nat)(hr:Region.ready md l.toArray seen=rs)(hne:rs≠[])
 (h:∀i∈rs,∃o,l[i]?=some o∧∀K:Act→World→Prop,(∀a'' w'',D w''→anyM P md l.toArray D R f (seen.setIfInBounds i true) a'' w''→K a'' w'')→wpList P l.toArray (endN K) [o] a w) :
 anyM P md l.toArray D R (f+1) seen a w:=by
 refine⟨fun h0=>absurd (hr.symm.trans h0) hne,fun i hi=>?_⟩
 rw[hr]at hi
 obtain⟨o,ho,hK⟩:=h i hi
 have h0:l.toArray[i]?=some o:=by simpa using ho
 have hw:=hK (fun a'' w''=>D w''∧anyM P md l.toArray D R f (seen.setIfInBounds i true) a'' w'') (fun a'' w'' g1 g2=>⟨g1,g2⟩)
 simp only[wpList]at hw
 unfold wpOp
 simp only[h0]
 split
 ·rename_i hwt
  simp only[hwt,if_true]at hw;rcases hw with hw|hw;·exact Or.inl (upon_ends (fun v w1 hh=>hh.2) (fun d w1 hh=>hh.2) hw)
  exact absurd hw.2 letsOut_endN
 ·rename_i hwt
  simp only[hwt]at hw;exact hw.2
theorem anyM_reads{l lq:List Oper}{md:Region.Mode}{R:Act→World→Prop}{f g:Nat}{seen:Array Bool}{a:Act}{w:World}(q:List Nat)(hD:D w)
 (h:wpQuiet P l.toArray (fun w'=>∃u:Of D,w'=u.val) (fun a'=>anyM P md l.toArray D R f (seenQ q seen) a' w) lq a)
 (hs:Region.noSelect l.toArray=true:=by kernel_rfl) (hg:g=f+q.length:=by rfl) (ho:ordQ md l.toArray q seen=true:=by kernel_rfl)
 (hq:(q.all (fun i=>match l[i]? with|some o=>plainB o|none=>false))=true:=by kernel_rfl) (hl:pickO l q=lq:=by simp only[pickO,List.getElem?_cons_zero,List.getElem?_cons_succ];exact rfl):anyM P md l.toArray D R g seen a w:=by
 subst hg hl
 exact anyM_quiet (G:=fun a' w=>anyM P md l.toArray D R f (seenQ q seen) a' w) hs hD q seen a ho hq (fun a h=>h) h
theorem anyM_end{l:List Oper}{md:Region.Mode}{R:Act→World→Prop}{seen:Array Bool}{a:Act}{w:World}(hr:Region.ready md l.toArray seen=[])(h:R a w):anyM P md l.toArray D R 0 seen a w:=⟨hr,h⟩
theorem region_tree{id:Nat}{Q:Exit→Act→World→Prop}{a:Act}{w:World}{l:List Oper}(D:World→Prop)(hm:P.follows .mixedOrders=true)
 (h:anyM P .any l.toArray D (fun a' w'=>Q .normal a' w') l.length (Array.replicate l.length false) a w.drew):(Code.region id l.toArray true).wp P Q a w:=by
 refine wp_region_any hm ?_
 have h2:=any_of_anyM (Q:=Q) (fun _ _ h=>h) _ _ _ _ h
 simpa using h2
end
end Go.Proofs.YtajmnlhfnhbleaaGreat
