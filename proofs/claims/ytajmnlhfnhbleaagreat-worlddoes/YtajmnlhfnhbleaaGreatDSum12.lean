/- Several texts of one proof, in their order. -/
import Derived.Test.YtajmnlhfnhbleaaGreatDSum11
namespace Go.Proofs.YtajmnlhfnhbleaaGreat
open Go.RowKit CurveMath
set_option linter.unusedVariables false
set_option maxHeartbeats 4000000
set_option maxRecDepth 10000
section
section
variable {nd of sz : Int} {N : Nat → Int} {L : Nat → Nat} {X : Nat → Nat → Int} {n k : Nat} {e : Int}
theorem scanS_bad(hk:k<n)(h:scanS nd of sz N L X (n-k) k=e)(hb:oneE nd of sz (N k) (L k) (X k)≠0):e=oneE nd of sz (N k) (L k) (X k):=by
 rw[show n-k=(n-k-1)+1 by omega]at h;simp only[scanS]at h;rw[if_neg hb]at h;exact h.symm
theorem scanS_dup(hk:k<n)(h:scanS nd of sz N L X (n-k) k=e)(hb:oneE nd of sz (N k) (L k) (X k)=0)(hd:hasB N k (N k)=true):e=5:=by
 rw[show n-k=(n-k-1)+1 by omega]at h;simp only[scanS]at h;rw[if_pos hb,if_pos hd]at h;exact h.symm
theorem scanS_next(hk:k<n)(h:scanS nd of sz N L X (n-k) k=e)(hb:oneE nd of sz (N k) (L k) (X k)=0)(hd:hasB N k (N k)=false):scanS nd of sz N L X (n-(k+1)) (k+1)=e:=by
 rw[show n-k=(n-(k+1))+1 by omega]at h;simp only[scanS]at h;rw[if_pos hb,if_neg (by rw[hd];decide)]at h;exact h
theorem oneE_who(h:oneE nd of sz (N k) (L k) (X k)=0):planOk nd of sz=true∧(0≤N k∧N k<of)∧(L k:Int)=rowsN nd sz∧∀j,j<L k→0≤X k j∧X k j≤30:=by
 unfold oneE at h;by_cases h1:planOk nd of sz=true
 ·rw[if_pos h1]at h
  by_cases h2:0≤N k∧N k<of
  ·rw[if_pos h2]at h
   by_cases h3:(L k:Int)=rowsN nd sz
   ·rw[if_pos h3]at h
    by_cases h4:numsB (L k) (X k)=true;·exact⟨h1,h2,h3,fun j hj=>(isNum_iff _).1 ((of_decide_eq_true h4) j hj)⟩
    rw[if_neg h4]at h;omega
   rw[if_neg h3]at h;omega
  rw[if_neg h2]at h;omega
 rw[if_neg h1]at h;omega
end
def checksE(nd of sz:Int)(n:Nat)(N:Nat→Int)(L:Nat→Nat)(X:Nat→Nat→Int):Int :=
 if planOk nd of sz=true then(if n≤8 then(if scanS nd of sz N L X n 0=0 then(if nd≤(n:Int)then 0 else 7)else scanS nd of sz N L X n 0)else 1)else 2
theorem hasB_next(X:Nat→Int)(k:Nat)(v:Int):hasB X (k+1) v=(if X k=v then true else hasB X k v):=by
 by_cases h:X k=v
 ·rw[if_pos h,hasB_iff]
  exact⟨k,by omega,h⟩
 rw[if_neg h];rw[Bool.eq_iff_iff,hasB_iff,hasB_iff];constructor
 ·rintro⟨j,hj,e⟩
  by_cases hjk:j=k;·subst hjk;exact absurd e h
  exact⟨j,by omega,e⟩
 rintro⟨j,hj,e⟩;exact⟨j,by omega,e⟩
structure SeenInv(w wr:World)(A:Nat)(nd of sz:Int)(N:Nat→Int)(j:Nat):Prop where
 below:Below w.heap.size w wr
 ge:w.heap.size<A
 p0:wr.cell? ⟨w.heap.size,0,none⟩=some (.int .i64 nd)
 p1:wr.cell? ⟨w.heap.size,1,none⟩=some (.int .i64 of)
 p2:wr.cell? ⟨w.heap.size,2,none⟩=some (.int .i64 sz)
 s:∀i,i<8→wr.cell? ⟨A,i,none⟩=some (.bool (hasB N j (i:Int)))
 f:∀i,i<8→wr.frozen? ⟨A,i,none⟩=false
theorem SeenInv.up{w wr w':World}{A:Nat}{nd of sz:Int}{N:Nat→Int}{j:Nat}(h:SeenInv w wr A nd of sz N j)(hb:Below wr.heap.size wr w'):SeenInv w w' A nd of sz N j :=
 ⟨h.below.trans (hb.mono h.below.size),h.ge,by rw[hb.cell (cell_lt h.p0)];exact h.p0,by rw[hb.cell (cell_lt h.p1)];exact h.p1,by rw[hb.cell (cell_lt h.p2)];exact h.p2,
  fun i hi=>by rw[hb.cell (cell_lt (h.s i hi))];exact h.s i hi,fun i hi=>by rw[hb.frozen (cell_lt (h.s i hi))];exact h.f i hi⟩
theorem SeenInv.next{w wr:World}{A:Nat}{nd of sz:Int}{N:Nat→Int}{j ν:Nat}(h:SeenInv w wr A nd of sz N j)(hν:ν<8)(e:N j=(ν:Int)):SeenInv w (wr.setCell ⟨A,ν,none⟩ (.bool true)) A nd of sz N (j+1):=by
 have hge:=h.ge;have ho:∀(o:Nat) (v:Value),wr.cell? ⟨w.heap.size,o,none⟩=some v→(wr.setCell ⟨A,ν,none⟩ (.bool true)).cell? ⟨w.heap.size,o,none⟩=some v:=fun o v hv=>by
  rw[World.cell?_setCell_other _ _ _ _ (by intro e;injection e with e1;omega)];exact hv
 refine⟨h.below.setCell (p:=⟨A,ν,none⟩) (by show w.heap.size≤A;omega) _,h.ge,ho _ _ h.p0,ho _ _ h.p1,ho _ _ h.p2,fun i hi=>?_,fun i hi=>by rw[World.frozen?_setCell];exact h.f i hi⟩;rw[hasB_next,e];by_cases hie:i=ν
 ·subst hie
  rw[if_pos rfl];exact World.cell?_setCell_same _ _ _ (h.s i hi)
 rw[if_neg (by omega),World.cell?_setCell_other _ _ _ _ (by intro e;injection e with _ e2;omega)];exact h.s i hi
theorem checkShares_any(nd of sz:Int)(v:Value)(n:Nat)(N:Nat→Int)(V:Nat→Value)(L:Nat→Nat)(X:Nat→Nat→Int)(w:World)(h:ShSl w w.heap.size v n N V L X):
 Calls Tryz.prog 158 #[planV nd of sz,v] w fun e w'=>e=.returned (.int .i64 (checksE nd of sz n N L X))∧Below w.heap.size w w':=by
 have hbx:=below_alloc w (.cells #[.int .i64 nd,.int .i64 of,.int .i64 sz] 59)
 have HC:=hid (checkPlan_any nd of sz (w.alloc (.cells #[.int .i64 nd,.int .i64 of,.int .i64 sz] 59)))
 have HS:=hid h
 have HBx:=hid hbx
 obtain⟨ad,cap,rfl,⟨hcap,hbig⟩,hx⟩:=h
 obtain⟨ans,hans⟩:∃a,checksE nd of sz n N L X=a:=⟨_,rfl⟩
 rw[hans]
 unfold checksE at hans
 clear hbx
 by_cases hp:planOk nd of sz=true
 ·have e:chkP nd of sz=0:=by unfold chkP;rw[if_pos hp]
  rw[e]at HC;rw[if_pos hp]at hans;obtain⟨hnd,hof,hsz⟩:=planOk_spec hp;clear hp e;unfold planV;go_enter Tryz.func158,Tryz.ntmps158;go_wp2_with fail
  refine HC.out.mono ?_;rintro e w1 ⟨rfl,hb1⟩;have p0:w1.cell? ⟨w.heap.size,0,none⟩=some (.int .i64 nd):=by rw[hb1.cell (by simp)];exact cell_at (heap_alloc_new _ _) rfl
  have p1:w1.cell? ⟨w.heap.size,1,none⟩=some (.int .i64 of):=by rw[hb1.cell (by simp)];exact cell_at (heap_alloc_new _ _) rfl
  have p2:w1.cell? ⟨w.heap.size,2,none⟩=some (.int .i64 sz):=by rw[hb1.cell (by simp)];exact cell_at (heap_alloc_new _ _) rfl
  have HB1:=hid (HBx.out.trans (hb1.mono HBx.out.size));have hwl:w.heap.size<w1.heap.size:=cell_lt p0;clear hb1;by_cases hn8:n≤8
  ·rw[if_pos hn8]at hans
   have hn9:((n:Int)≤8):=by omega
   have HA:=hid hans;clear hans;have J0:Hid (SeenInv w (w1.alloc (.cells #[.bool false,.bool false,.bool false,.bool false,.bool false,.bool false,.bool false,.bool false] 126)) w1.heap.size nd of sz N 0):=by
    have hb:=below_alloc w1 (.cells #[.bool false,.bool false,.bool false,.bool false,.bool false,.bool false,.bool false,.bool false] 126);have hh:=heap_alloc_new w1 (.cells #[.bool false,.bool false,.bool false,.bool false,.bool false,.bool false,.bool false,.bool false] 126);refine⟨HB1.out.trans (hb.mono HB1.out.size),hwl,by rw[hb.cell (cell_lt p0)];exact p0,by rw[hb.cell (cell_lt p1)];exact p1,by rw[hb.cell (cell_lt p2)];exact p2,fun i hi=>?_,fun i hi=>frozen_at hh⟩;have e:hasB N 0 (i:Int)=false:=rfl;rw[e];rcases(show i=0∨i=1∨i=2∨i=3∨i=4∨i=5∨i=6∨i=7 by omega)with rfl|rfl|rfl|rfl|rfl|rfl|rfl|rfl<;>exact cell_at hh rfl
   clear p0 p1 p2;go_wp2;go_loopw [20] (fun iv wr=>∃j:Nat,j≤n∧iv=.int .i64 j∧Hid (SeenInv w wr w1.heap.size nd of sz N j)∧Hid (scanS nd of sz N L X (n-j) j=scanS nd of sz N L X n 0)) (fun iv _=>n-(intOf iv).toNat)
   case atStart=>exact⟨0,Nat.zero_le _,rfl,J0,rfl⟩
   case round =>
    obtain⟨j,hj,rfl,J,SC⟩:=hrel;by_cases hlt:j<n
    ·have hji:(j:Int)<(n:Int):=by omega
     have hx5:∃b off,ad=some ⟨b,off,none⟩∧b<w.heap.size∧(w.cell? ⟨b,off+j*2,none⟩=some (.int .i64 (N j))∧w.cell? ⟨b,off+j*2+1,none⟩=some (V j)∧IntSl w w.heap.size (V j) (L j) (X j)):=by
      rcases hx with h0|⟨b,off,rfl,hb,h5⟩;·omega
      exact⟨b,off,rfl,hb,h5 j hlt⟩
     obtain⟨b,off,rfl,hb,x1,x2,x3⟩:=hx5;have HI3:Hid (∀w',Below w.heap.size w w'→IntSl w' w'.heap.size (V j) (L j) (X j)):=fun w' hb'=>x3.up hb';obtain⟨av,cv,hve,_,_⟩:=x3;rw[hve]at HI3;have g1:wr.cell? ⟨b,off+j*2,none⟩=some (.int .i64 (N j)):=by rw[J.out.below.cell hb];exact x1
     have g2:wr.cell? ⟨b,off+j*2+1,none⟩=some (.slice av (L j) cv):=by rw[J.out.below.cell hb,x2,hve]
     have q0:=J.out.p0;have q1:=J.out.p1;have q2:=J.out.p2;have lp:w.heap.size<wr.heap.size:=cell_lt q0;obtain⟨W,hW⟩:∃W,wr.alloc (.cells #[.int .i64 (N j),.slice av (L j) cv] 81)=W:=⟨_,rfl⟩;have JA:=J.out.up (below_alloc wr (.cells #[.int .i64 (N j),.slice av (L j) cv] 81));have bx:W.cell? ⟨wr.heap.size,0,none⟩=some (.int .i64 (N j)):=by rw[←hW];exact cell_at (heap_alloc_new _ _) rfl
     have by':W.cell? ⟨wr.heap.size,1,none⟩=some (.slice av (L j) cv):=by rw[←hW];exact cell_at (heap_alloc_new _ _) rfl
     rw[hW]at JA;have q0':=JA.p0;have q1':=JA.p1;have q2':=JA.p2;have HOn:=hid (checkShare_any nd of sz (N j) _ (L j) (X j) W (HI3.out W JA.below));have HJA:=hid JA;clear x1 x2 hve JA;obtain⟨c,hc⟩:∃c,oneE nd of sz (N j) (L j) (X j)=c:=⟨_,rfl⟩;rw[hc]at HOn;have HCc:=hid hc;clear hc;by_cases hc0:c=0
     ·subst hc0
      obtain⟨_,hwho,_,_⟩:=oneE_who HCc.out;obtain⟨ν,hν⟩:∃ν:Nat,N j=ν:=⟨(N j).toNat,by omega⟩;have hν8:ν<8:=by omega
      have hνi:(ν:Int)<8:=by omega
      have HN:=hid hν;clear hν hwho;go_wp2_with fail
      refine Calls.mono HOn.out ?_;rintro e w2 ⟨rfl,hb2⟩;have J2:=hid (HJA.out.up hb2);have bx2:w2.cell? ⟨wr.heap.size,0,none⟩=some (.int .i64 (ν:Int)):=by rw[hb2.cell (cell_lt bx),←HN.out];exact bx
      have sc:=J2.out.s ν hν8;have sf:=J2.out.f ν hν8;clear hb2;cases hd:hasB N j (ν:Int)with
      |true =>
       rw[hd]at sc;have h5:=scanS_dup hlt SC.out HCc.out (by rw[HN.out];exact hd);have hA:=HA.out;rw[h5,if_neg (by decide)]at hA;subst hA;clear h5;go_wp2;go_ret;exact⟨rfl,J2.out.below⟩
      |false =>
       rw[hd]at sc;go_wp2;go_roundw
       case rel=>exact⟨j+1,by omega,by go_num,J2.out.next hν8 HN.out,scanS_next hlt SC.out HCc.out (by rw[HN.out];exact hd)⟩
       case measure=>simp only[intOf];omega
     have hcb:(c != 0)=true:=by simpa using hc0
     have h5:=scanS_bad hlt SC.out (by rw[HCc.out];exact hc0);rw[HCc.out]at h5;have hA:=HA.out;rw[h5,if_neg hc0]at hA;subst hA;clear h5 hc0;go_wp2_with fail
     refine Calls.mono HOn.out ?_;rintro e w2 ⟨rfl,hb2⟩;have J2:=hid (HJA.out.up hb2);clear hb2;go_wp2;go_ret;exact⟨rfl,J2.out.below⟩
    have hje:j=n:=by omega
    subst hje;have h5:=SC.out;rw[Nat.sub_self]at h5;have h6:scanS nd of sz N L X j 0=0:=h5.symm;have hA:=HA.out;rw[if_pos h6]at hA;have q0:=J.out.p0;clear h5 h6;by_cases hle:nd≤(j:Int)
    ·rw[if_pos hle]at hA
     subst hA;go_wp2;go_ret;exact⟨rfl,J.out.below⟩
    rw[if_neg hle]at hA;subst hA;have hle2:(j:Int)<nd:=by omega
    clear hle;go_wp2;go_ret;exact⟨rfl,J.out.below⟩
  rw[if_neg hn8]at hans;subst hans;have hn9:(8:Int)<(n:Int):=by omega
  go_wp2;go_ret;exact⟨rfl,HB1.out⟩
 ·have e:chkP nd of sz=2:=by unfold chkP;rw[if_neg hp]
  rw[e]at HC;rw[if_neg hp]at hans;subst hans;clear hp e;unfold planV;go_enter Tryz.func158,Tryz.ntmps158;go_wp2_with(go_at_call 124;go_must(refine HC.out.mono ?_;rintro e w1 ⟨rfl,hb1⟩;have HB1:=hid (HBx.out.trans (hb1.mono HBx.out.size));clear hb1))
  go_ret;exact⟨rfl,HB1.out⟩
end
def madeB(d s R:Nat)(N:Nat→Int)(X:Nat→Nat→Int):Bool:=decide (∀i,i<R*d→i<s∨joinD d N X i=0)
def MadePost(w:World)(d s R:Nat)(N:Nat→Int)(X:Nat→Nat→Int)(e:Ending)(w':World):Prop :=
 Below w.heap.size w w'∧((madeB d s R N X=true∧∃v,e=.returned (.tuple #[v,.bool true])∧IntSl w' w'.heap.size v s (joinD d N X))∨(madeB d s R N X=false∧e=.returned (.tuple #[.slice none 0 0,.bool false])))
theorem joinD_row{d r t:Nat}{N:Nat→Int}{X:Nat→Nat→Int}(ht:t<d):joinD d N X (r*d+t)=crv d N (fun j=>X j r) (t:Int):=by
 unfold joinD;have e1:(r*d+t)/d=r:=by rw[Nat.mul_comm,Nat.mul_add_div (by omega),Nat.div_eq_of_lt ht,Nat.add_zero]
 have e2:(r*d+t)%d=t:=by rw[Nat.mul_comm,Nat.mul_add_mod,Nat.mod_eq_of_lt ht]
 rw[e1,e2]
structure Beside(w2 wz:World)(vd vy:Value)(n k:Nat)(C Y:Nat→Int):Prop where
 d:OwnI w2 wz vd n C
 y:IntSl wz wz.heap.size vy k Y
 off:Off vd vy
theorem Beside.start{w2 wr wz:World}{vd vy:Value}{n k:Nat}{C Y:Nat→Int}(hd:OwnI w2 wr vd n C)(hy:OwnI wr wz vy k Y)(hk:1≤k)(hk8:k≤100):Beside w2 wz vd vy n k C Y:=by
 refine⟨hd.below hy.2,hy.isl hk (by omega),fun ad n' c' e e2=>?_⟩;have h1:=(hd.1.lt ad.block e2.symm).2;have h2:=(hy.1.lt ad.block (by rw[e];rfl)).1;omega
theorem Beside.next{w2 wz w6:World}{vd vd' vy:Value}{n k:Nat}{C Y:Nat→Int}{x:Int}{o:Obj}(h:Beside w2 wz vd vy n k C Y)(hk:1≤k)
 (ho:w6.ownsRow w2.heap.size 3 1 vd' (n+1) (((List.range n).map fun j=>Value.int .i64 (C j))++[.int .i64 x])) (hg:(wz.alloc o).grownBy w6 vd.ownBlock) (hat:vd'.ownBlock=vd.ownBlock∨vd'.ownBlock=some (wz.alloc o).heap.size) (hx:C n=x) :
 Beside w2 w6 vd' vy (n+1) k C Y:=by
 obtain⟨h1,h2⟩:=off_step hk h.y h.off hg hat
 exact⟨h.d.pushA o ho hg hx,h1,h2⟩
theorem Beside.up{w2 wz w6:World}{vd vy:Value}{n k:Nat}{C Y:Nat→Int}(h:Beside w2 wz vd vy n k C Y)(hb:Below wz.heap.size wz w6):Beside w2 w6 vd vy n k C Y:=⟨h.d.below hb,h.y.up hb,h.off⟩
theorem made_any(d m s n:Nat)(a:Option Addr)(cp:Nat)(N:Nat→Int)(V:Nat→Value)(L:Nat→Nat)(X:Nat→Nat→Int)(w:World)(hp:planOk (d:Int) (m:Int) (s:Int)=true){R:Nat}(hR:rowsN (d:Int) (s:Int)=R)(hdn:d≤n)
 (hL:∀j,j<d→L j=R) (hG:∀r,r<R→Good d d N (fun j=>X j r)) (h:ShSl w w.heap.size (.slice a n cp) n N V L X) :
 Calls Tryz.prog 161 #[planV (d:Int) (m:Int) (s:Int),.slice a n cp] w fun e w'=>MadePost w d s R N X e w':=by
 obtain⟨hnd,hof,hsz⟩:=planOk_spec hp
 have hrb:=rowsN_bd hnd hsz
 rw[hR]at hrb
 have hRo:=fun w=>rowsOf_any (d:Int) (m:Int) (s:Int) w
 have e2:longP (d:Int) (m:Int) (s:Int)=(R:Int):=by unfold longP;rw[if_pos hp,hR]
 rw[e2]at hRo
 have HRo:=hid hRo
 have hdd:1≤d∧d≤4:=by omega
 have hRR:1≤R∧R≤24:=by omega
 have hss:1≤s∧s≤24:=by omega
 have hsR:s≤R*d∧R*d≤27:=by
  have h1:=hrb.1;have h2:=hrb.2.2.2.2;have h3:((R*d:Nat):Int)=(R:Int)*(d:Int):=by simp
  omega
 have HG:=hid hG
 obtain⟨ad,cap,e,⟨hcap,hbig⟩,hx⟩:=h
 injection e with e3 _ e4
 subst e3 e4
 rcases hx with h0|⟨b,off,rfl,hb,hx⟩
 ·omega
 have hbx:=below_alloc w (.cells #[.int .i64 (d:Int),.int .i64 (m:Int),.int .i64 (s:Int)] 59)
 obtain⟨W,hW⟩:∃W,w.alloc (.cells #[.int .i64 (d:Int),.int .i64 (m:Int),.int .i64 (s:Int)] 59)=W:=⟨_,rfl⟩
 rw[hW]at hbx
 have p0:W.cell? ⟨w.heap.size,0,none⟩=some (.int .i64 (d:Int)):=by rw[←hW];exact cell_at (heap_alloc_new _ _) rfl
 have p1:W.cell? ⟨w.heap.size,1,none⟩=some (.int .i64 (m:Int)):=by rw[←hW];exact cell_at (heap_alloc_new _ _) rfl
 have p2:W.cell? ⟨w.heap.size,2,none⟩=some (.int .i64 (s:Int)):=by rw[←hW];exact cell_at (heap_alloc_new _ _) rfl
 have KP:Hid (∀w',Below W.heap.size W w'→w'.cell? ⟨w.heap.size,0,none⟩=some (.int .i64 (d:Int))∧w'.cell? ⟨w.heap.size,1,none⟩=some (.int .i64 (m:Int))∧w'.cell? ⟨w.heap.size,2,none⟩=some (.int .i64 (s:Int))):=fun w' hb' =>
  ⟨by rw[hb'.cell (cell_lt p0)];exact p0,by rw[hb'.cell (cell_lt p1)];exact p1,by rw[hb'.cell (cell_lt p2)];exact p2⟩
 have hbW:b<W.heap.size:=Nat.lt_of_lt_of_le hb hbx.size
 have HX:Hid (∀j,j<d→W.cell? ⟨b,off+j*2,none⟩=some (.int .i64 (N j))∧W.cell? ⟨b,off+j*2+1,none⟩=some (V j)∧IntSl W W.heap.size (V j) R (X j)):=fun j hj=>by
  obtain⟨x1,x2,x3⟩:=hx j (by omega);rw[hL j hj]at x3;exact⟨by rw[hbx.cell hb];exact x1,by rw[hbx.cell hb];exact x2,x3.up hbx⟩
 have HBx:=hid hbx
 obtain⟨ii,hi,hzz0,hzz1,hzz2⟩:=info_parts Tryz.infoInt
 have hdi:(d:Int)≤(n:Int):=by omega
 have hdc:(d:Int)≤(cp:Int):=by omega
 clear hRo e2 hrb hnd hof hsz hp hR hG hL hx hbx
 unfold planV
 go_enter Tryz.func161,Tryz.ntmps161
 go_wp2
 clear hW
 go_loopw [6,22] (fun v iv wr=>∃k:Nat,k≤d∧iv=.int .i64 k∧Hid (OwnI W wr v k N)) (fun _ iv _=>d-(intOf iv).toNat)
 case atStart=>exact⟨0,Nat.zero_le _,rfl,OwnI.nil _ _⟩
 case round =>
  obtain⟨k,hk,rfl,OW⟩:=hrel;by_cases hlt:k<d
  ·have hki:(k:Int)<(d:Int):=by omega
   obtain⟨x1,x2,x3⟩:=HX.out k hlt;obtain⟨av,cv,hve,_,_⟩:=x3;have g1:wr.cell? ⟨b,off+k*2,none⟩=some (.int .i64 (N k)):=by rw[OW.out.2.cell hbW];exact x1
   have g2:wr.cell? ⟨b,off+k*2+1,none⟩=some (.slice av R cv):=by rw[OW.out.2.cell hbW,x2,hve]
   have O2:=hid (OW.out.below (below_alloc wr (.cells #[.int .i64 (N k),.slice av R cv] 81)));clear x1 x2 hve;go_wp2_with(at_builtin;go_must(refine wpList_append_own _ rfl (.tmp 26) (.tmp 29) 28 rfl W.heap.size 3 ii (.int .i64 0) 1 8 Tryz.underlying28 hi hzz0 hzz1 hzz2 rfl (by decide) _ _ _ rfl (World.ownsRow.alloc O2.out.1 _) ⟨_,0,none⟩ 1 1 [.int .i64 (N k)] rfl rfl (fun j u hj=>by rw[Addr.add_lit];match j,hj with|0,hj=>(simp at hj;subst hj;exact cell_at (by have h9:=heap_alloc_new (wr.alloc (.cells #[.int .i64 (N k),.slice av R cv] 81)) (.cells #[.int .i64 (N k)] 3);simpa using h9) rfl)) (oneCell _) (by unfold maxLen;omega) (by omega) (by have:=O2.out.2.size;simp at *;omega) ?_;intro v1 w6 ho6 hg6 _;have O6:=hid (O2.out.pushA _ ho6 hg6 rfl);clear ho6 hg6))
   go_roundw
   case rel=>exact⟨k+1,by omega,by go_num,O6⟩
   case measure=>simp only[intOf];omega
  have hke:k=d:=by omega
  subst hke;obtain⟨q0,q1,q2⟩:=KP.out wr OW.out.2;have hIx:=OW.out.isl hdd.1 (by omega);obtain⟨gx,cx,hvx,hcx,hrx⟩:=OW.out.row hdd.1;subst hvx;go_wp2_with fail
  refine Calls.mono (HRo.out _) ?_;rintro e w2 ⟨rfl,hb2⟩;have HIx:=hid (hIx.up hb2);have HB2:=hid (OW.out.2.trans (hb2.mono OW.out.2.size));clear hb2 hIx hrx q0 q1 q2;go_wp2;go_loopw [7,34] (fun vd iv wr=>∃r:Nat,r≤R∧iv=.int .i64 r∧Hid (OwnI w2 wr vd (r*k) (joinD k N X))) (fun _ iv _=>R-(intOf iv).toNat)
  case atStart=>exact⟨0,Nat.zero_le _,rfl,by rw[Nat.zero_mul];exact OwnI.nil _ _⟩
  case round =>
   obtain⟨r,hr,rfl,OD⟩:=hrel;have HBr:=hid (HB2.out.trans (OD.out.2.mono HB2.out.size));obtain⟨q0,q1,q2⟩:=KP.out wr HBr.out;by_cases hrR:r<R
   ·have hri:(r:Int)<(R:Int):=by omega
    have hrk:r*k+k≤27:=by
     have h1:(r+1)*k≤R*k:=Nat.mul_le_mul_right k hrR;rw[Nat.add_mul,Nat.one_mul]at h1;omega
    obtain⟨ad7,cp7,hv7⟩:=OD.out.shape;subst hv7;go_wp2;go_loopw [11,42] (fun v iv wz=>∃j:Nat,j≤k∧iv=.int .i64 j∧Hid (OwnI wr wz v j (fun i=>X i r))) (fun _ iv _=>k-(intOf iv).toNat)
    case atStart=>exact⟨0,Nat.zero_le _,rfl,OwnI.nil _ _⟩
    case round =>
     obtain⟨j,hj,rfl,OY⟩:=hrel;have HBz:=hid (HBr.out.trans (OY.out.2.mono HBr.out.size));by_cases hjk:j<k
     ·have hji:(j:Int)<(k:Int):=by omega
      obtain⟨x1,x2,x3⟩:=HX.out j hjk;have x4:=x3.up HBz.out;obtain⟨av,cv,hve,_,h5⟩:=x4;rcases h5 with h0|⟨bv,ov,rfl,hbv,h5⟩;·omega
      have g1:wr.cell? ⟨b,off+j*2,none⟩=some (.int .i64 (N j)):=by rw[HBz.out.cell hbW];exact x1
      have g2:wr.cell? ⟨b,off+j*2+1,none⟩=some (.slice (some ⟨bv,ov,none⟩) R cv):=by rw[HBz.out.cell hbW,x2,hve]
      have g3:=h5 r hrR;have hbl:bv<wr.heap.size:=hbv;have O2:=hid (OY.out.below (below_alloc wr (.cells #[.int .i64 (N j),.slice (some ⟨bv,ov,none⟩) R cv] 81)));clear x1 x2 hve h5;go_wp2_with(at_builtin;go_must(refine wpList_append_own _ rfl (.tmp 46) (.tmp 52) 28 rfl _ 3 ii (.int .i64 0) 1 8 Tryz.underlying28 hi hzz0 hzz1 hzz2 rfl (by decide) _ _ _ rfl (World.ownsRow.alloc O2.out.1 _) ⟨_,0,none⟩ 1 1 [.int .i64 (X j r)] rfl rfl (fun j' u hj=>by rw[Addr.add_lit];match j',hj with|0,hj=>(simp at hj;subst hj;exact cell_at (by have h9:=heap_alloc_new (wr.alloc (.cells #[.int .i64 (N j),.slice (some ⟨bv,ov,none⟩) R cv] 81)) (.cells #[.int .i64 (X j r)] 3);simpa using h9) rfl)) (oneCell _) (by unfold maxLen;omega) (by omega) (by have:=O2.out.2.size;simp at *;omega) ?_;intro v1 w6 ho6 hg6 _;have O6:=hid (O2.out.pushA _ ho6 hg6 rfl);clear ho6 hg6))
      go_roundw
      case rel=>exact⟨j+1,by omega,by go_num,O6⟩
      case measure=>simp only[intOf];omega
     have hje:j=k:=by omega
     subst hje;obtain⟨t0,t1,t2⟩:=KP.out wr HBz.out;obtain⟨ay,cy,hvy⟩:=OY.out.shape;subst hvy;have hBs:=hid (Beside.start OD.out OY.out hdd.1 (by omega));clear q0 q1 q2;go_wp2;go_loopw [7,57] (fun vd iv wz=>∃t:Nat,t≤j∧iv=.int .i64 t∧Hid (Beside w2 wz vd (.slice ay j cy) (r*j+t) j (joinD j N X) (fun i=>X i r))) (fun _ iv _=>j-(intOf iv).toNat)
     case atStart=>exact⟨0,Nat.zero_le _,rfl,hBs⟩
     case round =>
      obtain⟨t,ht,rfl,BS⟩:=hrel;by_cases htj:t<j
      ·have hti:(t:Int)<(j:Int):=by omega
       have HVa:=hid (valueAt_good _ _ j N (fun i=>X i r) (t:Int) wr (HIx.out.up BS.out.d.2) BS.out.y (HG.out r hrR) ⟨by omega,by omega⟩);go_wp2_with fail
       refine Calls.mono HVa.out ?_;rintro e w5 ⟨rfl,hb5⟩;have B5:=hid (BS.out.up hb5);clear hb5;obtain⟨x,hx⟩:∃x,crv j N (fun i=>X i r) (t:Int)=x:=⟨_,rfl⟩;rw[hx];have HXx:Hid (joinD j N X (r*j+t)=x):=by show _=_;rw[joinD_row htj];exact hx
       clear hx;go_wp2_with(at_builtin;go_must(refine wpList_append_own_at _ rfl (.tmp 60) (.tmp 65) 28 rfl w2.heap.size 3 ii (.int .i64 0) 1 8 Tryz.underlying28 hi hzz0 hzz1 hzz2 rfl (by decide) _ _ _ rfl (World.ownsRow.alloc B5.out.d.1 _) ⟨_,0,none⟩ 1 1 [.int .i64 x] rfl rfl (newCell _ _ _) (oneCell _) (by unfold maxLen;omega) (by omega) (by have:=B5.out.d.2.size;simp;omega) ?_;intro v1 w6 ho6 hg6 _ hat6;have B6:=hid (B5.out.next hdd.1 ho6 hg6 hat6 HXx.out);clear ho6 hg6 hat6))
       go_roundw
       case rel=>exact⟨t+1,by omega,by go_num,B6⟩
       case measure=>simp only[intOf];omega
      have hte:t=j:=by omega
      subst hte;go_wp2;go_roundw
      case rel=>exact⟨r+1,by omega,by go_num,by rw[Nat.add_mul,Nat.one_mul];exact BS.out.d⟩
      case measure=>simp only[intOf];omega
   have hre:r=R:=by omega
   subst hre;obtain⟨g,cd,hvd,hcd,hrow⟩:=OD.out.row (by omega);subst hvd;have hsi:(s:Int)≤((r*k:Nat):Int):=by omega
   have hsc:(s:Int)≤(cd:Int):=by omega
   have HRow:=hid hrow;clear hrow;by_cases hcs:cd=s
   ·have hrs:r*k=s:=by omega
    have hmb:madeB k s r N X=true:=decide_eq_true fun j hj=>Or.inl (by omega);have HM:=hid hmb;have hz0:r*k-s=0:=by omega
    have HRs:=hid hrs;have HCs:=hid hcs;clear hmb hrs;go_wp2;refine wp_loop_rounds 1 ?_;rw[rounds_succ];go_wp2;go_ret2;refine⟨HBx.out.trans (HBr.out.mono HBx.out.size),Or.inl ⟨HM.out,_,rfl,_,_,rfl,⟨by have:=HCs.out;omega,by omega⟩,Or.inr ⟨g,0,rfl,cell_lt (HRow.out.cell 0 (by omega)),fun j hj=>?_⟩⟩⟩;rw[Nat.zero_add];exact HRow.out.cell j (by have:=HRs.out;omega)
   go_wp2;go_loop [74] (fun iv=>∃i:Nat,i≤r*k-s∧iv=.int .i64 i∧Hid (∀j,s≤j→j<s+i→joinD k N X j=0)) (fun iv=>r*k-s-(intOf iv).toNat)
   case atStart=>exact⟨0,Nat.zero_le _,rfl,fun j h1 h2=>by omega⟩
   case round =>
    obtain⟨i,hi',rfl,HZ⟩:=hrel;by_cases hil:i<r*k-s
    ·have hii:(i:Int)<((r*k-s:Nat):Int):=by omega
     have c0:=HRow.out.cell (s+i) (by omega);obtain⟨x,hx⟩:∃x,joinD k N X (s+i)=x:=⟨_,rfl⟩;rw[hx]at c0;have HXx:=hid hx;clear hx;by_cases hx0:x=0
     ·subst hx0
      go_wp2;go_round
      case rel =>
       refine⟨i+1,by omega,by go_num,fun j h1 h2=>?_⟩;by_cases e:j=s+i;·rw[e];exact HXx.out
       exact HZ.out j h1 (by omega)
      case measure=>simp only[intOf];omega
     have hxb:(x != 0)=true:=by simpa using hx0
     have hmb:madeB k s r N X=false:=decide_eq_false fun h=>by
      rcases h (s+i) (by omega)with h1|h1;·omega
      rw[HXx.out]at h1;exact hx0 h1
     have HM:=hid hmb;clear hmb hx0;go_wp2;go_ret2;exact⟨HBx.out.trans (HBr.out.mono HBx.out.size),Or.inr ⟨HM.out,rfl⟩⟩
    have hie:i=r*k-s:=by omega
    have hii:((r*k-s:Nat):Int)≤(i:Int):=by omega
    have hzz:∀j,s≤j→j<r*k→joinD k N X j=0:=fun j h1 h2=>HZ.out j h1 (by omega);have hmb:madeB k s r N X=true:=decide_eq_true fun j hj=>by
     by_cases h:j<s;·exact Or.inl h
     exact Or.inr (hzz j (by omega) hj)
    have HM:=hid hmb;clear hmb hzz hie;go_wp2;go_ret2;refine⟨HBx.out.trans (HBr.out.mono HBx.out.size),Or.inl ⟨HM.out,_,rfl,_,cd,rfl,⟨by omega,by omega⟩,Or.inr ⟨g,0,rfl,cell_lt (HRow.out.cell 0 (by omega)),fun j hj=>?_⟩⟩⟩;rw[Nat.zero_add];exact HRow.out.cell j (by omega)
section
theorem crv_alike{n n' m:Nat}{X Y A B:Nat→Int}(h:Good n n' X Y)(hg:Good m m A B)(hm:n≤m)(hAB:∀j,j<m→B j=crv n X Y (A j))(t:Int):crv m A B t=crv n X Y t:=by
 refine crv_uniq hg (fun u=>newt (fun i=>toF (X i)) (fun i=>dd (fun i=>toF (X i)) (fun i=>toF (Y i)) i i) n u) ((newt_deg _ _ n h.injF).mono hm) ?_ t _ (crv_num n X Y t) (toF_crv n X Y t);intro j hj;rw[hAB j hj,toF_crv];rfl
theorem scanS_mk{nd of sz:Int}{N:Nat→Int}{L:Nat→Nat}{X:Nat→Nat→Int}(m:Nat):∀k,(∀j,k≤j→j<k+m→oneE nd of sz (N j) (L j) (X j)=0∧hasB N j (N j)=false)→scanS nd of sz N L X m k=0:=by
 induction m with
 |zero=>intro k _;rfl
 |succ m ih =>
  intro k h;obtain⟨h1,h2⟩:=h k (by omega) (by omega);simp only[scanS];rw[if_pos h1,if_neg (by rw[h2];decide)];exact ih (k+1) (fun j a b=>h j (by omega) (by omega))
theorem oneE_mk{nd of sz N:Int}{L:Nat}{X:Nat→Int}(hp:planOk nd of sz=true)(hN:0≤N∧N<of)(hL:(L:Int)=rowsN nd sz)(hX:∀j,j<L→0≤X j∧X j≤30):oneE nd of sz N L X=0:=by
 unfold oneE;have h4:numsB L X=true:=decide_eq_true fun j hj=>(isNum_iff _).2 (hX j hj);rw[if_pos hp,if_pos hN,if_pos hL,if_pos h4]
section
variable {d m n c : Nat} {D : Nat → Int} {O : Nat → Nat}
end
end
end Go.Proofs.YtajmnlhfnhbleaaGreat
