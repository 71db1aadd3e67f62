/- Several texts of one proof, in their order. -/
import Derived.Test.YtajmnlhfnhbleaaGreatKw28
namespace Go.Proofs.YtajmnlhfnhbleaaGreat
open Go.RowKit Go.Maps CurveMath
set_option linter.unusedVariables false
set_option maxHeartbeats 2000000
structure SeenM(w wr:World)(A:Nat)(nd of sz:Int)(N:Nat→Int)(j:Nat):Prop where
 below:Below w.heap.size w wr
 ge:w.heap.size<A
 p0:wr.cell? ⟨w.heap.size,0,none⟩=some (.int .i64 nd)
 p1:wr.cell? ⟨w.heap.size,1,none⟩=some (.int .i64 of)
 p2:wr.cell? ⟨w.heap.size,2,none⟩=some (.int .i64 sz)
 m:wr.ownsMap Tryz.prog 3 (plainElem Tryz.prog 3) A j (setX (H:=Empty) (.lit (.int .i64 1)) N j)
theorem SeenM.up{w wr w':World}{A:Nat}{nd of sz:Int}{N:Nat→Int}{j:Nat}(h:SeenM w wr A nd of sz N j)(hb:Below wr.heap.size wr w'):SeenM w w' A nd of sz N j :=
 ⟨h.below.trans (hb.mono h.below.size),h.ge,by rw[hb.cell (cell_lt h.p0)];exact h.p0,by rw[hb.cell (cell_lt h.p1)];exact h.p1,by rw[hb.cell (cell_lt h.p2)];exact h.p2,h.m.kept (grown_of_below hb none) (by intro e;cases e)⟩
theorem SeenM.next{w wr w':World}{A:Nat}{nd of sz:Int}{N:Nat→Int}{j:Nat}{x:Int}(h:SeenM w wr A nd of sz N j)(hx:N j=x)
 (ho:w'.ownsMap Tryz.prog 3 (plainElem Tryz.prog 3) A (j+1) ((setX (H:=Empty) (.lit (.int .i64 1)) N j).put (.int .i64 x) (.lit (.int .i64 1)))) (hg:wr.grownBy w' (some A)):SeenM w w' A nd of sz N (j+1):=by
 have hge:=h.ge
 have hne:some w.heap.size≠some A:=by intro e;injection e with e;omega
 refine⟨h.below.grown hg h.below.size (fun k hk=>by injection hk with hk;omega),h.ge,hg.cell h.p0 hne,hg.cell h.p1 hne,hg.cell h.p2 hne,?_⟩
 rw[setX_succ,hx]
 exact ho
theorem shEnough(nd of sz:Int)(v:Value)(n:Nat)(N:Nat→Int)(V:Nat→Value)(L:Nat→Nat)(X:Nat→Nat→Int)(w:World)(h:ShSl w w.heap.size v n N V L X):
 Calls Tryz.prog 138 #[planV nd of sz,v] w fun e w'=>e=.returned (.int .i64 (checksE nd of sz n N L X))∧Below w.heap.size w w':=by
 have hbx:=below_alloc w (.cells #[.int .i64 nd,.int .i64 of,.int .i64 sz] 59)
 have HC:=hid (shCheck nd of sz (w.alloc (.cells #[.int .i64 nd,.int .i64 of,.int .i64 sz] 59)))
 have HS:=hid h
 have HBx:=hid hbx
 obtain⟨ad,cap,rfl,⟨hcap,hbig⟩,hx⟩:=h
 obtain⟨ans,hans⟩:∃a,checksE nd of sz n N L X=a:=⟨_,rfl⟩
 rw[hans]
 unfold checksE at hans
 clear hbx
 by_cases hp:planOk nd of sz=true
 ·have e:chkP nd of sz=0:=by unfold chkP;rw[if_pos hp]
  rw[e]at HC;rw[if_pos hp]at hans;obtain⟨hnd,hof,hsz⟩:=planOk_spec hp;clear hp e;have hmm:=@run_makeMap Tryz.prog;unfold planV;go_enter Tryz.func138,Tryz.ntmps138;go_wp2_with fail
  refine HC.out.mono ?_;rintro e w1 ⟨rfl,hb1⟩;have p0:w1.cell? ⟨w.heap.size,0,none⟩=some (.int .i64 nd):=by rw[hb1.cell (by simp)];exact cell_at (heap_alloc_new _ _) rfl
  have p1:w1.cell? ⟨w.heap.size,1,none⟩=some (.int .i64 of):=by rw[hb1.cell (by simp)];exact cell_at (heap_alloc_new _ _) rfl
  have p2:w1.cell? ⟨w.heap.size,2,none⟩=some (.int .i64 sz):=by rw[hb1.cell (by simp)];exact cell_at (heap_alloc_new _ _) rfl
  have HB1:=hid (HBx.out.trans (hb1.mono HBx.out.size));have hwl:w.heap.size<w1.heap.size:=cell_lt p0;clear hb1;by_cases hn8:n≤8
  ·rw[if_pos hn8]at hans
   have hn9:((n:Int)≤8):=by omega
   have HA:=hid hans;clear hans;have J0:Hid (SeenM w (w1.alloc (.map #[] 0)) w1.heap.size nd of sz N 0):=by
    have hb:Below w1.heap.size w1 (w1.alloc (.map #[] 0)):=(Below.refl _ _).alloc (Nat.le_refl _) _;exact⟨HB1.out.trans (hb.mono HB1.out.size),hwl,by rw[hb.cell (cell_lt p0)];exact p0,by rw[hb.cell (cell_lt p1)];exact p1,by rw[hb.cell (cell_lt p2)];exact p2,World.ownsMap_made _ _ _ _⟩
   clear p0 p1 p2;go_wp2;go_loopw [21] (fun iv wr=>∃j:Nat,j≤n∧iv=.int .i64 j∧Hid (SeenM w wr w1.heap.size nd of sz N j)∧Hid (scanS nd of sz N L X (n-j) j=scanS nd of sz N L X n 0)) (fun iv _=>n-(intOf iv).toNat)
   case atStart=>exact⟨0,Nat.zero_le _,rfl,J0,rfl⟩
   case round =>
    obtain⟨j,hj,rfl,J,SC⟩:=hrel;generalize w1.heap.size=A at *;by_cases hlt:j<n
    ·have hji:(j:Int)<(n:Int):=by omega
     have hx5:∃b off,ad=some ⟨b,off,none⟩∧b<w.heap.size∧(w.cell? ⟨b,off+j*2,none⟩=some (.int .i64 (N j))∧w.cell? ⟨b,off+j*2+1,none⟩=some (V j)∧IntSl w w.heap.size (V j) (L j) (X j)):=by
      rcases hx with h0|⟨b,off,rfl,hb,h5⟩;·omega
      exact⟨b,off,rfl,hb,h5 j hlt⟩
     obtain⟨b,off,rfl,hb,x1,x2,x3⟩:=hx5;have HI3:Hid (∀w',Below w.heap.size w w'→IntSl w' w'.heap.size (V j) (L j) (X j)):=fun w' hb'=>x3.up hb';obtain⟨av,cv,hve,_,_⟩:=x3;rw[hve]at HI3;have g1:wr.cell? ⟨b,off+j*2,none⟩=some (.int .i64 (N j)):=by rw[J.out.below.cell hb];exact x1
     have g2:wr.cell? ⟨b,off+j*2+1,none⟩=some (.slice av (L j) cv):=by rw[J.out.below.cell hb,x2,hve]
     have q0:=J.out.p0;have q1:=J.out.p1;have q2:=J.out.p2;have lp:w.heap.size<wr.heap.size:=cell_lt q0;obtain⟨W,hW⟩:∃W,wr.alloc (.cells #[.int .i64 (N j),.slice av (L j) cv] 81)=W:=⟨_,rfl⟩;have JA:=J.out.up (below_alloc wr (.cells #[.int .i64 (N j),.slice av (L j) cv] 81));have bx:W.cell? ⟨wr.heap.size,0,none⟩=some (.int .i64 (N j)):=by rw[←hW];exact cell_at (heap_alloc_new _ _) rfl
     have by':W.cell? ⟨wr.heap.size,1,none⟩=some (.slice av (L j) cv):=by rw[←hW];exact cell_at (heap_alloc_new _ _) rfl
     rw[hW]at JA;have q0':=JA.p0;have q1':=JA.p1;have q2':=JA.p2;have HOn:=hid (shOne nd of sz (N j) _ (L j) (X j) W (HI3.out W JA.below));have HJA:=hid JA;have hAl:A<wr.heap.size:=J.out.m.lt;clear x1 x2 hve JA;obtain⟨c,hc⟩:∃c,oneE nd of sz (N j) (L j) (X j)=c:=⟨_,rfl⟩;rw[hc]at HOn;have HCc:=hid hc;clear hc;by_cases hc0:c=0
     ·subst hc0
      obtain⟨_,hwho,_,_⟩:=oneE_who HCc.out;obtain⟨x,hνx⟩:∃x,N j=x:=⟨_,rfl⟩;rw[hνx]at hwho;have hxr:0≤x∧x≤30:=by omega
      have hkey:keyOf Tryz.prog 3 (.int .i64 x)=some (.int .i64 x):=keyOf_int_mk Tryz.underlying3 (WalkArith.wf_i64 (by omega));have HK:=hid hkey;have HN:=hid hνx;have HNe:Hid (some wr.heap.size≠some A):=fun e=>by injection e with e;omega
      clear hνx hwho hkey;go_wp2_with fail
      refine Calls.mono HOn.out ?_;rintro e w2 ⟨rfl,hb2⟩;have J2:=hid (HJA.out.up hb2);have bx2:w2.cell? ⟨wr.heap.size,0,none⟩=some (.int .i64 x):=by rw[hb2.cell (cell_lt bx),←HN.out];exact bx
      have HBX:=hid bx2;have HO2:=hid J2.out.m;clear hb2;cases hd:hasB N j x with
      |true =>
       have h5:=scanS_dup hlt SC.out HCc.out (by rw[HN.out];exact hd);have hA:=HA.out;rw[h5,if_neg (by decide)]at hA;subst hA;clear h5;go_wp2_with(first
        |(at_lookup;refine wpList_lookup_own_int _ rfl _ _ 102 rfl 3 3 .i64 keyed_int Tryz.underlying102 Tryz.underlying3 (zero_int _) A (j+1) _ rfl HO3.out _ _ rfl HK.out ?_;intro c hat hwc;obtain rfl:=look_put (isMap_setX _ N j) hat;clear hat hwc)
        |(at_lookup;refine wpList_lookup_own_int _ rfl _ _ 102 rfl 3 3 .i64 keyed_int Tryz.underlying102 Tryz.underlying3 (zero_int _) A j _ rfl HO2.out _ _ rfl HK.out ?_;intro c hat hwc;obtain rfl:=look_has HN.out hd hat;clear hat hwc)
        |(at_mapUpdate;refine wpList_mapUpdate_own _ rfl _ _ _ 102 rfl 3 3 keyed_int Tryz.underlying102 _ A j _ rfl HO2.out (by unfold maxLen;omega) _ _ _ rfl rfl HK.out _ [] (plainElem_int Tryz.underlying3 (by first|exact wrap64_wf _|exact WalkArith.wf_i64 (by omega))) ?_;intro w3 hown3 hgrow3;have HO3:=hid hown3;have bx3:w3.cell? ⟨wr.heap.size,0,none⟩=some (.int .i64 x):=hgrow3.cell HBX.out HNe.out;have HB3:Hid (Below w.heap.size w w3):=J2.out.below.grown hgrow3 J2.out.below.size (fun g hg=>by cases hg;have:=J2.out.ge;omega);clear hown3 hgrow3))
       go_ret;exact⟨rfl,HB3.out⟩
      |false =>
       go_wp2_with(first
        |(at_lookup;refine wpList_lookup_own_int _ rfl _ _ 102 rfl 3 3 .i64 keyed_int Tryz.underlying102 Tryz.underlying3 (zero_int _) A (j+1) _ rfl HO3.out _ _ rfl HK.out ?_;intro c hat hwc;obtain rfl:=look_put (isMap_setX _ N j) hat;clear hat hwc)
        |(at_lookup;refine wpList_lookup_own_int _ rfl _ _ 102 rfl 3 3 .i64 keyed_int Tryz.underlying102 Tryz.underlying3 (zero_int _) A j _ rfl HO2.out _ _ rfl HK.out ?_;intro c hat hwc;obtain rfl:=look_not HN.out hd hat;clear hat hwc)
        |(at_mapUpdate;refine wpList_mapUpdate_own _ rfl _ _ _ 102 rfl 3 3 keyed_int Tryz.underlying102 _ A j _ rfl HO2.out (by unfold maxLen;omega) _ _ _ rfl rfl HK.out _ [] (plainElem_int Tryz.underlying3 (by first|exact wrap64_wf _|exact WalkArith.wf_i64 (by omega))) ?_;intro w3 hown3 hgrow3;have HO3:=hid hown3;have bx3:w3.cell? ⟨wr.heap.size,0,none⟩=some (.int .i64 x):=hgrow3.cell HBX.out HNe.out;have HG3:=hid hgrow3;clear hown3 hgrow3))
       go_roundw
       case rel=>exact⟨j+1,by omega,by go_num,J2.out.next HN.out HO3.out HG3.out,scanS_next hlt SC.out HCc.out (by rw[HN.out];exact hd)⟩
       case measure=>simp only[intOf];omega
     have hcb:(c != 0)=true:=by simpa using hc0
     have h5:=scanS_bad hlt SC.out (by rw[HCc.out];exact hc0);rw[HCc.out]at h5;have hA:=HA.out;rw[h5,if_neg hc0]at hA;subst hA;clear h5 hc0;go_wp2_with fail
     refine Calls.mono HOn.out ?_;rintro e w2 ⟨rfl,hb2⟩;have J2:=hid (HJA.out.up hb2);clear hb2;go_wp2;go_ret;exact⟨rfl,J2.out.below⟩
    have hje:j=n:=by omega
    subst hje;have h5:=SC.out;rw[Nat.sub_self]at h5;have h6:scanS nd of sz N L X j 0=0:=h5.symm;have hA:=HA.out;rw[if_pos h6]at hA;have q0:=J.out.p0;clear h5 h6;by_cases hle:nd≤(j:Int)
    ·rw[if_pos hle]at hA
     subst hA;go_wp2;go_ret;exact⟨rfl,J.out.below⟩
    rw[if_neg hle]at hA;subst hA;have hle2:(j:Int)<nd:=by omega
    clear hle;go_wp2;go_ret;exact⟨rfl,J.out.below⟩
  rw[if_neg hn8]at hans;subst hans;have hn9:(8:Int)<(n:Int):=by omega
  go_wp2;go_ret;exact⟨rfl,HB1.out⟩
 ·have e:chkP nd of sz=2:=by unfold chkP;rw[if_neg hp]
  rw[e]at HC;rw[if_neg hp]at hans;subst hans;clear hp e;unfold planV;go_enter Tryz.func138,Tryz.ntmps138;go_wp2_with(go_at_call 110;go_must(refine HC.out.mono ?_;rintro e w1 ⟨rfl,hb1⟩;have HB1:=hid (HBx.out.trans (hb1.mono HBx.out.size));clear hb1))
  go_ret;exact⟨rfl,HB1.out⟩
theorem shPoints(d cp r:Nat)(a:Option Addr)(N:Nat→Int)(V:Nat→Value)(L:Nat→Nat)(X:Nat→Nat→Int)(w:World)(hd:1≤d∧d≤8)(hr:r≤100)(hL:∀j,j<d→r<L j)(h:ShSl w w.heap.size (.slice a d cp) d N V L X):
 Calls Tryz.prog 139 #[.slice a d cp,.int .i64 (r:Int)] w fun e w'=>∃vx vy,e=.returned (.tuple #[vx,vy])∧OwnI w w' vx d N∧OwnI w w' vy d (fun j=>X j r):=by
 obtain⟨ad,cap,e,⟨hcap,hbig⟩,hx⟩:=h
 injection e with e3 _ e4
 subst e3 e4
 rcases hx with h0|⟨b,off,rfl,hb,hx⟩
 ·omega
 have HX:=hid hx
 have HL:=hid hL
 obtain⟨ii,hi,hzz0,hzz1,hzz2⟩:=info_parts Tryz.infoInt
 clear hx hL
 go_enter Tryz.func139,Tryz.ntmps139
 go_wp2
 go_loopw [4,5,10] (fun vx vy iv wr=>∃k:Nat,k≤d∧iv=.int .i64 k∧Hid (Two w wr vx vy k N (fun j=>X j r))) (fun _ _ iv _=>d-(intOf iv).toNat)
 case atStart=>exact⟨0,Nat.zero_le _,rfl,Two.nil _ _ _⟩
 case round =>
  obtain⟨k,hk,rfl,TW⟩:=hrel;by_cases hlt:k<d
  ·have hki:(k:Int)<(d:Int):=by omega
   obtain⟨x1,x2,x3⟩:=HX.out k hlt;have hrL:=HL.out k hlt;have hbel:=TW.out.a.2;obtain⟨av,cv,hve,hvc,h5⟩:=x3;rcases h5 with h0|⟨bv,ov,rfl,hbv,h5⟩;·omega
   have g1:wr.cell? ⟨b,off+k*2,none⟩=some (.int .i64 (N k)):=by rw[hbel.cell hb];exact x1
   have g2:wr.cell? ⟨b,off+k*2+1,none⟩=some (.slice (some ⟨bv,ov,none⟩) (L k) cv):=by rw[hbel.cell hb,x2,hve]
   have hri:(r:Int)<(L k:Int):=by omega
   have hLb:((L k:Nat):Int)*8≤140737488351232:=by omega
   have gx:w.cell? ⟨bv,ov+r,none⟩=some (.int .i64 (X k r)):=h5 r hrL;have T2:=hid (TW.out.below (below_alloc wr (.cells #[.int .i64 (N k),.slice (some ⟨bv,ov,none⟩) (L k) cv] 81)));obtain⟨ax,cx,hvx⟩:=TW.out.a.shape;obtain⟨ay,cy,hvy⟩:=TW.out.b.shape;subst hvx hvy;have HF:Hid (∀(w6:World) (o:Obj),((wr.alloc (.cells #[.int .i64 (N k),.slice (some ⟨bv,ov,none⟩) (L k) cv] 81)).alloc o).grownBy w6 (Value.slice ax k cx).ownBlock →
    w6.cell? ⟨wr.heap.size,1,none⟩=some (.slice (some ⟨bv,ov,none⟩) (L k) cv)∧w6.cell? ⟨bv,ov+r,none⟩=some (.int .i64 (X k r))):=fun w6 o hg=>by
    have hl:∀g,(Value.slice ax k cx).ownBlock=some g→w.heap.size≤g∧g<wr.heap.size:=fun g hg=>TW.out.a.1.lt g hg
    have hb1:=below_alloc wr (.cells #[.int .i64 (N k),.slice (some ⟨bv,ov,none⟩) (L k) cv] 81)
    have hb2:=below_alloc (wr.alloc (.cells #[.int .i64 (N k),.slice (some ⟨bv,ov,none⟩) (L k) cv] 81)) o
    have hc:(wr.alloc (.cells #[.int .i64 (N k),.slice (some ⟨bv,ov,none⟩) (L k) cv] 81)).cell? ⟨wr.heap.size,1,none⟩=some (.slice (some ⟨bv,ov,none⟩) (L k) cv):=cell_at (heap_alloc_new wr _) rfl
    refine⟨hg.cell (by rw[hb2.cell (cell_lt hc)];exact hc) (fun e=>?_),hg.cell (v:=.int .i64 (X k r)) ?_ (fun e=>?_)⟩
    ·have:=(hl _ e.symm).2
     exact Nat.lt_irrefl _ this
    ·have h6:wr.cell? ⟨bv,ov+r,none⟩=some (.int .i64 (X k r)):=by rw[hbel.cell hbv];exact gx
     have h7:(wr.alloc (.cells #[.int .i64 (N k),.slice (some ⟨bv,ov,none⟩) (L k) cv] 81)).cell? ⟨bv,ov+r,none⟩=some (.int .i64 (X k r)):=by rw[hb1.cell (cell_lt h6)];exact h6
     rw[hb2.cell (cell_lt h7)];exact h7
    ·have h8:=(hl _ e.symm).1
     have h9:w.heap.size≤bv:=h8;omega
   clear x1 x2 hve h5 gx hbel;go_wp2_with(first
    |(at_builtin;refine wpList_append_own_at _ rfl (.tmp 14) (.tmp 17) 28 rfl w.heap.size 3 ii (.int .i64 0) 1 8 Tryz.underlying28 hi hzz0 hzz1 hzz2 rfl (by decide) _ _ _ rfl (World.ownsRow.alloc T2.out.a.1 _) ⟨_,0,none⟩ 1 1 [.int .i64 (N k)] rfl rfl (fun j u hj=>by rw[Addr.add_lit];match j,hj with|0,hj=>(simp at hj;subst hj;exact cell_at (by have h9:=heap_alloc_new (wr.alloc (.cells #[.int .i64 (N k),.slice (some ⟨bv,ov,none⟩) (L k) cv] 81)) (.cells #[.int .i64 (N k)] 3);simpa using h9) rfl)) (oneCell _) (by unfold maxLen;omega) (by omega) (by have:=T2.out.a.2.size;simp at *;omega) ?_;intro v1 w6 ho6 hg6 _ hat6;obtain⟨c6,d6⟩:=HF.out w6 _ hg6;have TA:=hid (T2.out.after _ ho6 hg6 hat6);clear ho6 hg6 hat6)
    |(at_builtin;(refine wpList_append_own_at _ rfl (.tmp 19) (.tmp 25) 28 rfl w.heap.size 3 ii (.int .i64 0) 1 8 Tryz.underlying28 hi hzz0 hzz1 hzz2 rfl (by decide) _ _ _ rfl (World.ownsRow.alloc TA.out.2.1.1 _) ⟨_,0,none⟩ 1 1 [.int .i64 (X k r)] rfl rfl (newCell _ _ _) (oneCell _) (by unfold maxLen;omega) (by omega) (by have:=TA.out.2.1.2.size;simp;omega) ?_;intro v2 w7 ho7 hg7 _ hat7;have TB:=hid (Two.both TA.out.1 TA.out.2.1 TA.out.2.2 _ ho7 hg7 hat7);clear ho7 hg7 hat7)))
   go_roundw
   case rel =>
    refine⟨k+1,by omega,by go_num,⟨TB.out.a.congr fun j hj=>?_,TB.out.b.congr fun j hj=>?_,TB.out.ne⟩⟩
    ·by_cases e:j=k
     ·rw[if_pos e,e]
     rw[if_neg e]
    by_cases e:j=k;·rw[if_pos e,e]
    rw[if_neg e]
   case measure=>simp only[intOf];omega
  have hke:k=d:=by omega
  subst hke;go_wp2;go_ret2;exact⟨_,_,rfl,TW.out.a,TW.out.b⟩
def fitsB(d m r:Nat)(A B:Nat→Int)(N:Nat→Int)(X:Nat→Nat→Int):Bool:=decide (∀j,j<m→X j r=crv d A B (N j))
theorem shFit(d m cp r bx bz:Nat)(a:Option Addr)(A B:Nat→Int)(N:Nat→Int)(V:Nat→Value)(L:Nat→Nat)(X:Nat→Nat→Int)(w:World)(hm:m≤8)(hr:r≤100)(hL:∀j,j<m→r<L j)(hN:∀j,j<m→0≤N j∧N j≤30)
 (h:ShSl w w.heap.size (.slice a m cp) m N V L X) (hF:AtFn w bx bz d A B) (hG:Good d d A B) :
 Calls Tryz.prog 140 #[.slice a m cp,.int .i64 (r:Int),atF bx bz] w fun e w'=>e=.returned (.bool (fitsB d m r A B N X))∧Below w.heap.size w w':=by
 obtain⟨ans,hans⟩:∃b,fitsB d m r A B N X=b:=⟨_,rfl⟩
 rw[hans]
 obtain⟨ad,cap,e,⟨hcap,hbig⟩,hx⟩:=h
 injection e with e3 _ e4
 subst e3 e4
 have HX:=hid hx
 have HL:=hid hL
 have HN:=hid hN
 have HF:=hid hF
 have HG:=hid hG
 have HA:=hid hans
 unfold atF
 clear hx hL hN hF hG hans
 go_enter Tryz.func140,Tryz.ntmps140
 go_wp2
 go_loopw [11] (fun iv wr=>∃k:Nat,k≤m∧iv=.int .i64 k∧Hid (Below w.heap.size w wr)∧Hid (∀j,j<k→X j r=crv d A B (N j))) (fun iv _=>m-(intOf iv).toNat)
 case atStart=>exact⟨0,Nat.zero_le _,rfl,Below.refl _ _,fun j hj=>absurd hj (Nat.not_lt_zero _)⟩
 case round =>
  obtain⟨k,hk,rfl,HB,HE⟩:=hrel;by_cases hlt:k<m
  ·have hki:(k:Int)<(m:Int):=by omega
   have hx5:∃b off,a=some ⟨b,off,none⟩∧b<w.heap.size∧(w.cell? ⟨b,off+k*2,none⟩=some (.int .i64 (N k))∧w.cell? ⟨b,off+k*2+1,none⟩=some (V k)∧IntSl w w.heap.size (V k) (L k) (X k)):=by
    rcases HX.out with h0|⟨b,off,rfl,hb,h5⟩;·omega
    exact⟨b,off,rfl,hb,h5 k hlt⟩
   obtain⟨b,off,rfl,hb,x1,x2,x3⟩:=hx5;have hrL:=HL.out k hlt;obtain⟨av,cv,hve,hvc,h5⟩:=x3;rcases h5 with h0|⟨bv,ov,rfl,hbv,h5⟩;·omega
   have g1:wr.cell? ⟨b,off+k*2,none⟩=some (.int .i64 (N k)):=by rw[HB.out.cell hb];exact x1
   have g2:wr.cell? ⟨b,off+k*2+1,none⟩=some (.slice (some ⟨bv,ov,none⟩) (L k) cv):=by rw[HB.out.cell hb,x2,hve]
   have gx:wr.cell? ⟨bv,ov+r,none⟩=some (.int .i64 (X k r)):=by rw[HB.out.cell hbv];exact h5 r hrL
   have hri:(r:Int)<(L k:Int):=by omega
   have hLb:((L k:Nat):Int)*8≤140737488351232:=by omega
   have hnk:=HN.out k hlt;have hbA:=below_alloc wr (.cells #[.int .i64 (N k),.slice (some ⟨bv,ov,none⟩) (L k) cv] 81);have m0:(wr.alloc (.cells #[.int .i64 (N k),.slice (some ⟨bv,ov,none⟩) (L k) cv] 81)).cell? ⟨wr.heap.size,0,none⟩=some (.int .i64 (N k)):=cell_at (heap_alloc_new wr _) rfl;have m1:(wr.alloc (.cells #[.int .i64 (N k),.slice (some ⟨bv,ov,none⟩) (L k) cv] 81)).cell? ⟨wr.heap.size,1,none⟩=some (.slice (some ⟨bv,ov,none⟩) (L k) cv):=cell_at (heap_alloc_new wr _) rfl;have m2:(wr.alloc (.cells #[.int .i64 (N k),.slice (some ⟨bv,ov,none⟩) (L k) cv] 81)).cell? ⟨bv,ov+r,none⟩=some (.int .i64 (X k r)):=by rw[hbA.cell (cell_lt gx)];exact gx
   obtain⟨W,hW⟩:∃W,wr.alloc (.cells #[.int .i64 (N k),.slice (some ⟨bv,ov,none⟩) (L k) cv] 81)=W:=⟨_,rfl⟩;rw[hW]at hbA m0 m1 m2;have HBW:=hid (HB.out.trans (hbA.mono HB.out.size));have hne:Nonempty (Of (Below W.heap.size W)):=⟨⟨W,Below.refl _ _⟩⟩;have E0:∀u:Of (Below W.heap.size W),u.val.cell? ⟨wr.heap.size,0,none⟩=some (.int .i64 (N k)):=fun u=>by rw[u.is.cell (cell_lt m0)];exact m0
   have E1:∀u:Of (Below W.heap.size W),u.val.cell? ⟨wr.heap.size,1,none⟩=some (.slice (some ⟨bv,ov,none⟩) (L k) cv):=fun u=>by rw[u.is.cell (cell_lt m1)];exact m1
   have E2:∀u:Of (Below W.heap.size W),u.val.cell? ⟨bv,ov+r,none⟩=some (.int .i64 (X k r)):=fun u=>by rw[u.is.cell (cell_lt m2)];exact m2
   have HD1:Hid (Below W.heap.size W W.drew):=⟨rfl,rfl,rfl,Nat.le_refl _,fun _ _=>rfl⟩;clear x1 x2 hve h5 gx hbA;go_wp2_with fail
   refine region_mixed (Below W.heap.size W) [([0,1,2,3,4,5,6,7],8)] [9] (by kernel_rfl) (by kernel_rfl) HD1.out ?_;refine mixO_cons ?_;repeat(go_big_quiet_step (fail))
   refine wpQuiet_nil ?_;intro K hK;go_wp2_with fail
   refine Calls.mono (shAt bx bz d A B (N k) _ ((HF.out.up HBW.out).up HD1.out) HG.out hnk) ?_;rintro e w9 ⟨rfl,hb9⟩;have HB9:=hid (HD1.out.trans (hb9.mono HD1.out.size));clear hb9;obtain⟨x,hx⟩:∃x,crv d A B (N k)=x:=⟨_,rfl⟩;obtain⟨y,hy⟩:∃y,X k r=y:=⟨_,rfl⟩;rw[hx];have HXx:=hid hx;have HYy:=hid hy;clear hx;go_wp2;refine⟨rfl,hK _ _ HB9.out ?_⟩;clear hK K;refine mixO_nil ?_;clear hy;by_cases hxy:y=x
   ·have hb:(y != x)=false:=by simpa using hxy
    have HEq:=hid hxy;clear hxy;repeat(go_big_quiet_step (fail))
    refine wpQuiet_nil ?_;go_wp2;go_roundw
    case rel =>
     refine⟨k+1,by omega,by go_num,HBW.out.trans (HB9.out.mono HBW.out.size),fun j hj=>?_⟩;by_cases e:j=k;·rw[e,HYy.out,HXx.out,HEq.out]
     exact HE.out j (by omega)
    case measure=>simp only[intOf];omega
   have hb:(y != x)=true:=by simpa using hxy
   have hA:=HA.out;unfold fitsB at hA;rw[decide_eq_false (fun h=>hxy (by rw[←HYy.out,←HXx.out];exact h k hlt))]at hA;subst hA;clear hxy;repeat(go_big_quiet_step (fail))
   refine wpQuiet_nil ?_;go_wp2;go_ret;exact⟨rfl,HBW.out.trans (HB9.out.mono HBW.out.size)⟩
  have hke:k=m:=by omega
  subst hke;have hA:=HA.out;unfold fitsB at hA;rw[decide_eq_true HE.out]at hA;subst hA;go_wp2;go_ret;exact⟨rfl,HB.out⟩
section
theorem IntSl.grownG{w w':World}{v:Value}{n g:Nat}{X:Nat→Int}(h:IntSl w w.heap.size v n X)(hg:w.grownBy w' (some g))(ho:v.ownBlock≠some g):IntSl w' w'.heap.size v n X:=by
 obtain⟨ad,cap,rfl,h0,h2⟩:=h;refine⟨ad,cap,rfl,h0,?_⟩;rcases h2 with h2|⟨b,off,rfl,h4,h5⟩;·exact Or.inl h2
 exact Or.inr ⟨b,off,rfl,Nat.lt_of_lt_of_le h4 hg.size,fun j hj=>hg.cell (h5 j hj) ho⟩
theorem AtFn.grown{w w':World}{bx bz n g:Nat}{X Y:Nat→Int}(h:AtFn w bx bz n X Y)(ho:AtOff g w bx bz)(hg:w.grownBy w' (some g)):AtFn w' bx bz n X Y:=by
 obtain⟨⟨a1,c1,e1,h1⟩,a2,c2,e2,h2⟩:=h;exact⟨⟨a1,c1,hg.cell e1 (fun e=>ho.x (by injection e)),h1.grownG hg (ho.vx _ e1)⟩,a2,c2,hg.cell e2 (fun e=>ho.z (by injection e)),h2.grownG hg (ho.vz _ e2)⟩
theorem AtOff.grown{w w':World}{bx bz n g:Nat}{X Y:Nat→Int}(h:AtOff g w bx bz)(hf:AtFn w bx bz n X Y)(hg:w.grownBy w' (some g)):AtOff g w' bx bz:=by
 obtain⟨⟨a1,c1,e1,_⟩,a2,c2,e2,_⟩:=hf;refine⟨h.x,h.z,fun v hv=>h.vx v ?_,fun v hv=>h.vz v ?_⟩
 ·have:=hg.cell e1 (fun e=>h.x (by injection e))
  rw[this]at hv;rw[e1];exact hv
 have:=hg.cell e2 (fun e=>h.z (by injection e));rw[this]at hv;rw[e2];exact hv
structure JoInv(w wr:World)(d m s g k cap:Nat)(C:Nat→Int):Prop where
 below:Below w.heap.size w wr
 p0:wr.cell? ⟨w.heap.size,0,none⟩=some (.int .i64 (d:Int))
 p1:wr.cell? ⟨w.heap.size,1,none⟩=some (.int .i64 (m:Int))
 p2:wr.cell? ⟨w.heap.size,2,none⟩=some (.int .i64 (s:Int))
 og:w.heap.size<g
 own:wr.ownsRow g 3 1 (.slice (some ⟨g,0,none⟩) k cap) k ((List.range k).map fun j=>Value.int .i64 (C j))
section
variable {w wr w' : World} {d m s g k cap : Nat} {C : Nat → Int}
theorem JoInv.up(h:JoInv w wr d m s g k cap C)(hb:Below wr.heap.size wr w'):JoInv w w' d m s g k cap C :=
 ⟨h.below.trans (hb.mono h.below.size),by rw[hb.cell (cell_lt h.p0)];exact h.p0,by rw[hb.cell (cell_lt h.p1)];exact h.p1,by rw[hb.cell (cell_lt h.p2)];exact h.p2,h.og,owns_below h.own hb⟩
theorem JoInv.push{x:Int}(h:JoInv w wr d m s g k cap C)(ho:w'.ownsRow g 3 1 (.slice (some ⟨g,0,none⟩) (k+1) cap) (k+1) (((List.range k).map fun j=>Value.int .i64 (C j))++[.int .i64 x]))(hg:wr.grownBy w' (some g))(hx:C k=x):JoInv w w' d m s g (k+1) cap C:=by
 have hog:=h.og;have hne:some w.heap.size≠some g:=by intro e;injection e with e;omega
 refine⟨h.below.grown hg h.below.size (fun i hi=>by injection hi with hi;omega),hg.cell h.p0 hne,hg.cell h.p1 hne,hg.cell h.p2 hne,h.og,?_⟩;have e:((List.range (k+1)).map fun j=>Value.int .i64 (C j))=((List.range k).map fun j=>Value.int .i64 (C j))++[.int .i64 x]:=by
  rw[List.range_succ,List.map_append];simp only[List.map_cons,List.map_nil,hx]
 rw[e];exact ho
theorem JoInv.cells(h:JoInv w wr d m s g k cap C)(j:Nat)(hj:j<k):wr.cell? ⟨g,j,none⟩=some (.int .i64 (C j)):=by
 obtain⟨hl,h2⟩:=h.own;rcases h2 with⟨h1,_⟩|⟨g',cap',cur,hv,_,hh,hc1,hc2,hsz,hcur⟩;·cases h1
 injection hv with e1 _ e3;injection e1 with e1;injection e1 with e1;subst e1;have h3:((List.range k).map fun j=>Value.int .i64 (C j))[j]?=some (.int .i64 (C j)):=by simp[hj]
 rw[←hcur,List.getElem?_take,if_pos (by omega)]at h3;exact cell_at hh (by simpa using h3)
end
theorem torn_fit{d s R n r:Nat}{N:Nat→Int}{X:Nat→Nat→Int}(hr:r<R)(h:fitsB d (n-d) r N (fun i=>X i r) (fun j=>N (d+j)) (fun j=>X (d+j))=false):tornB d s R n N X=true:=by
 unfold tornB;have hne:decide (∀r,r<R→∀j,j<n→crv d N (fun i=>X i r) (N j)=X j r)=false:=by
  refine decide_eq_false fun hall=>?_;have h2:=of_decide_eq_false h;exact h2 fun j hj=>(hall r hr (d+j) (by omega)).symm
 rw[hne];rfl
theorem torn_not{d m s R n:Nat}{N:Nat→Int}{L:Nat→Nat}{X:Nat→Nat→Int}(hS:Shares d m s R n N L X)(hm:madeB d s R N X=true)(hf:∀r,r<R→fitsB d (n-d) r N (fun i=>X i r) (fun j=>N (d+j)) (fun j=>X (d+j))=true):tornB d s R n N X=false:=by
 refine torn_iff hm fun j hj=>decide_eq_true fun r hr=>?_;by_cases hjd:j<d;·exact crv_own (hS.good r hr) j hjd
 have h1:X (d+(j-d)) r=crv d N (fun i=>X i r) (N (d+(j-d))):=(of_decide_eq_true (hf r hr)) (j-d) (by omega);have e:d+(j-d)=j:=by omega
 rw[e]at h1;exact h1.symm
theorem ShSl.drop{w:World}{B b off cap n d:Nat}{N:Nat→Int}{V:Nat→Value}{L:Nat→Nat}{X:Nat→Nat→Int}(h:ShSl w B (.slice (some ⟨b,off,none⟩) n cap) n N V L X)(hd:d≤n):ShSl w B (.slice (some ⟨b,off+d*2,none⟩) (n-d) (cap-d)) (n-d) (fun j=>N (d+j)) (fun j=>V (d+j)) (fun j=>L (d+j)) (fun j=>X (d+j)):=by
 obtain⟨ad,cp,e,h0,hh⟩:=h;injection e with e1 _ e3;subst e1 e3;refine⟨_,cap-d,rfl,⟨by omega,by omega⟩,?_⟩;rcases hh with hh|⟨b',off',e,h4,h5⟩;·exact Or.inl (by omega)
 injection e with e;injection e with e1 e2;subst e1 e2;refine Or.inr ⟨b,_,rfl,h4,fun j hj=>?_⟩;have h6:=h5 (d+j) (by omega);have e1:off+(d+j)*2=off+d*2+j*2:=by omega
 rw[e1]at h6;exact h6
end
end Go.Proofs.YtajmnlhfnhbleaaGreat
