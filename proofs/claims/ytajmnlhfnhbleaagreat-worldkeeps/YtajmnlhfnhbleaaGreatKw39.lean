/- Several texts of one proof, in their order. -/
import Derived.Test.YtajmnlhfnhbleaaGreatKw38
namespace Go.Proofs.YtajmnlhfnhbleaaGreat
open Go.RowKit Go.Maps CurveMath
set_option linter.unusedVariables false
set_option maxHeartbeats 8000000
set_option maxRecDepth 10000
theorem bkCount(g m:Nat)(c:Int→Int)(v:Value)(n:Nat)(X:Nat→Int)(M:Nat)(w:World)(hc:CntM w g m c)(hM:∀x,0≤c x∧c x≤(M:Int))(hb:M+n≤100000∧m+n≤100000)(h:IntSl w w.heap.size v n X)(hX:∀i,i<n→0≤X i∧X i≤1000):
 Calls Tryz.prog 118 #[.map (some g),v] w fun e w'=>e=.returned (.tuple #[])∧w.grownBy w' (some g)∧∃c',CntM w' g (m+n) c'∧Cnted c c' X M n:=by
 obtain⟨ap,cp,rfl,⟨hcap,hbig⟩,hpc⟩:=h
 have HPc:=hid hpc
 have HXb:=hid hX
 have HNe:Hid (∀(a:Addr) (u:Value),w.cell? a=some u→a.block≠g):=fun a u ha=>hc.ne ha
 have HC:=hid hc
 have HI:Hid (Cnted c c X M 0):=⟨fun x=>by have:=hM x;omega,fun x=>⟨fun h=>⟨h,fun j hj=>by omega⟩,fun h=>h.1⟩⟩
 clear hpc hX hc hM
 go_enter Tryz.func118,Tryz.ntmps118
 go_wp2
 go_loopw [8] (fun iv wr=>∃(i:Nat) (ci:Int→Int),i≤n∧iv=.int .i64 i∧Hid (w.grownBy wr (some g))∧Hid (CntM wr g (m+i) ci)∧Hid (Cnted c ci X M i)) (fun iv _=>n-(intOf iv).toNat)
 case atStart=>exact⟨0,c,Nat.zero_le _,rfl,World.grownBy.refl _ _,HC,HI⟩
 case round =>
  obtain⟨i,ci,hi,rfl,HG,HM,HN⟩:=hrel;by_cases him:i<n
  ·have himi:(i:Int)<(n:Int):=by omega
   rcases HPc.out with h0|⟨bp,op,rfl,hbp,hpx⟩;·omega
   have e0:wr.cell? ⟨bp,op+i,none⟩=some (.int .i64 (X i)):=HG.out.cell (hpx i him) (by intro e;injection e with e;exact HNe.out _ _ (hpx i him) e);obtain⟨x,hx⟩:∃x,X i=x:=⟨_,rfl⟩;rw[hx]at e0;have hxb:=HXb.out i him;rw[hx]at hxb;obtain⟨D,hD,hat⟩:=HM.out;have HD:=hid hD;have HAt:=hid hat;have HX:=hid hx;have HK:=hid (keyInt hxb);obtain⟨cx,hcx⟩:∃cx,ci x=cx:=⟨_,rfl⟩;have hbd:=HN.out.1 x;rw[hcx]at hbd;have HCx:=hid hcx;clear hpx hx hD hat hcx;go_wp2_with(first
    |(at_lookup;refine wpList_lookup_own_int _ rfl _ _ 102 rfl 3 3 .i64 keyedInt Tryz.underlying102 Tryz.underlying3 (zeroInt _) g (m+i) _ rfl HD.out _ _ rfl HK.out ?_;intro c0 hat0 hwc;obtain rfl:c0=cx:=(cnt_val HAt.out hat0).trans HCx.out;clear hat0 hwc)
    |(at_mapUpdate;refine wpList_mapUpdate_own _ rfl _ _ _ 102 rfl 3 3 keyedInt Tryz.underlying102 _ g (m+i) _ rfl HD.out (by unfold maxLen;omega) _ _ _ rfl rfl HK.out _ [] (plainElem_int Tryz.underlying3 (by first|exact wrap64_wf _|exact WalkArith.wf_i64 (by omega))) ?_;intro w1 hown1 hgrow1;have HO1:=hid hown1;have HG1:=hid (HG.out.trans hgrow1);clear hown1 hgrow1))
   go_roundw
   case rel=>exact⟨i+1,fun y=>if y=x then c0+1 else ci y,by omega,by go_num,HG1,cntM_put HD.out HAt.out HO1.out,by have h:=HN.out.step HX.out;rw[HCx.out]at h;exact h⟩
   case measure=>simp only[intOf];omega
  have hie:n=i:=by omega
  subst hie;go_wp2;go_end0
  exact⟨rfl,HG.out,ci,HM.out,HN.out⟩
theorem bkAskH(bx g m:Nat)(c:Int→Int)(k:Int)(hk:0≤k∧k≤1000)(w:World)(hx:w.cell? ⟨bx,0,none⟩=some (.map (some g)))(hc:CntM w g m c):
 Calls Tryz.prog 120 #[.int .i64 k,.pointer (some ⟨bx,0,none⟩)] w fun e w'=>e=.returned (.bool (decide (c k=0)))∧Below w.heap.size w w':=by
 obtain⟨D,hD,hat⟩:=hc
 have HD:=hid hD
 have HAt:=hid hat
 have HK:=hid (keyInt hk)
 obtain⟨cx,hcx⟩:∃cx,c k=cx:=⟨_,rfl⟩
 rw[hcx]
 have HCx:=hid hcx
 clear hD hat hcx
 go_enter Tryz.func120,Tryz.ntmps120
 go_wp2_with(at_lookup;refine wpList_lookup_own_int _ rfl _ _ 102 rfl 3 3 .i64 keyedInt Tryz.underlying102 Tryz.underlying3 (zeroInt _) g m _ rfl HD.out _ _ rfl HK.out ?_;intro c0 hat0 hwc;obtain rfl:c0=cx:=(cnt_val HAt.out hat0).trans HCx.out;clear hat0 hwc)
 go_ret
 refine⟨?_,Below.refl _ _⟩
 congr 2
theorem bkThoseH(bx g m:Nat)(c:Int→Int)(v:Value)(n:Nat)(hn:n≤1000)(w:World)(hv:∃ad cap,v=.slice ad n cap)(hx:w.cell? ⟨bx,0,none⟩=some (.map (some g)))(hc:CntM w g m c):
 Calls Tryz.prog 119 #[bookV v,.func (.func 120) #[] #[.pointer (some ⟨bx,0,none⟩)]] w fun e w'=>Below w.heap.size w w'∧∃vo,e=.returned vo∧OwnL w w' vo (pickL (fun k=>decide (c (k:Int)=0)) n):=by
 have hbx:=below_alloc w (.cells #[v] 24)
 obtain⟨ad,cap,rfl⟩:=hv
 obtain⟨ii,hii,hzz0,hzz1,hzz2⟩:=info_parts Tryz.infoInt
 obtain⟨W,hW⟩:∃W,w.alloc (.cells #[.slice ad n cap] 24)=W:=⟨_,rfl⟩
 rw[hW]at hbx
 have HBx:=hid hbx
 have HX:Hid (W.cell? ⟨bx,0,none⟩=some (.map (some g))):=by show _=_;rw[hbx.cell (cell_lt hx)];exact hx
 have HC:=hid (hc.up hbx)
 have b0:W.cell? ⟨w.heap.size,0,none⟩=some (.slice ad n cap):=by rw[←hW];exact cell_at (heap_alloc_new _ _) rfl
 clear hbx hx hc
 unfold bookV
 go_enter Tryz.func119,Tryz.ntmps119
 go_wp2
 clear b0
 go_loopw [5,10] (fun vo iv wr=>∃j:Nat,j≤n∧iv=.int .i64 j∧Hid (OwnL W wr vo (pickL (fun k=>decide (c (k:Int)=0)) j))) (fun _ iv _=>n-(intOf iv).toNat)
 case atStart=>exact⟨0,Nat.zero_le _,rfl,OwnL.nil _⟩
 case round =>
  obtain⟨j,hj,rfl,OW⟩:=hrel;by_cases hlt:j<n
  ·have hji:(j:Int)<(n:Int):=by omega
   have hsc:=pickL_succ (fun k=>decide (c (k:Int)=0)) j;have hll:=pickL_len (fun k=>decide (c (k:Int)=0)) j;have HAk:=hid (bkAskH bx g m c (j:Int) (by omega) wr (by rw[OW.out.2.cell (cell_lt HX.out)];exact HX.out) (HC.out.up (OW.out.2)));cases hf:decide (c (j:Int)=0)with
   |true =>
    rw[hf,if_pos rfl]at hsc;rw[hf]at HAk;have HSc:=hid hsc;clear hsc hf;go_wp2_with fail
    refine Calls.mono HAk.out ?_;rintro e w2 ⟨rfl,hb2⟩;have O2:=hid (OW.out.up hb2);have hge:W.heap.size≤w2.heap.size:=O2.out.2.size;clear hb2;go_wp2_with(at_builtin;go_must(refine wpList_append_own _ rfl (.tmp 16) (.tmp 18) 28 rfl W.heap.size 3 ii (.int .i64 0) 1 8 Tryz.underlying28 hii hzz0 hzz1 hzz2 rfl (by decide) _ _ _ rfl (World.ownsRow.alloc O2.out.1 _) ⟨_,0,none⟩ 1 1 [.int .i64 (j:Int)] rfl rfl (newCell _ _ _) (oneCell _) (by unfold maxLen;omega) (by omega) (by simp;omega) ?_;intro v1 w6 ho6 hg6 _;have O6:=hid (O2.out.push ho6 hg6);clear ho6 hg6))
    go_roundw
    case rel=>exact⟨j+1,by omega,by go_num,by rw[HSc.out];exact O6.out⟩
    case measure=>simp only[intOf];omega
   |false =>
    rw[hf,if_neg (by decide),List.append_nil]at hsc;rw[hf]at HAk;have HSc:=hid hsc;clear hsc hf;go_wp2_with fail
    refine Calls.mono HAk.out ?_;rintro e w2 ⟨rfl,hb2⟩;have O2:=hid (OW.out.up hb2);clear hb2;go_wp2;go_roundw
    case rel=>exact⟨j+1,by omega,by go_num,by rw[HSc.out];exact O2.out⟩
    case measure=>simp only[intOf];omega
  have hje:n=j:=by omega
  subst hje;go_wp2;go_ret;refine⟨HBx.out.trans (OW.out.2.mono HBx.out.size),_,rfl,owns_base OW.out.1 HBx.out.size,HBx.out.trans (OW.out.2.mono HBx.out.size)⟩
section
theorem CntM.mono{w:World}{g m m':Nat}{c:Int→Int}(h:CntM w g m c)(hm:m≤m'):CntM w g m' c:=by
 obtain⟨D,h1,h2⟩:=h;exact⟨D,h1.mono hm,h2⟩
theorem hinv_step{b:Bk}{k:Nat}{c c':Int→Int}(h:HInvP b k c)(hl:b.PL k≤12)(hc:Cnted c c' (b.PX k) (k*12) (b.PL k)):HInvP b (k+1) c':=by
 refine⟨fun x=>by have:=hc.1 x;omega,fun x=>?_⟩;rw[hc.2 x,h.2 x];constructor
 ·rintro⟨h1,h2⟩ j hj i hi
  by_cases e:j=k;·subst e;exact h2 i hi
  exact h1 j (by omega) i hi
 intro h1;exact⟨fun j hj i hi=>h1 j (by omega) i hi,fun i hi=>h1 k (by omega) i hi⟩
structure MpInv(w wr:World)(ad:Option Addr)(n cap:Nat)(bx g m:Nat)(c:Int→Int):Prop where
 below:Below w.heap.size w wr
 book:wr.cell? ⟨w.heap.size,0,none⟩=some (.slice ad n cap)
 var:wr.cell? ⟨bx,0,none⟩=some (.map (some g))
 map:CntM wr g m c
 og:w.heap.size<g
section
variable {w wr w' : World} {ad : Option Addr} {n cap bx g m : Nat} {c : Int → Int}
theorem MpInv.up(h:MpInv w wr ad n cap bx g m c)(hb:Below wr.heap.size wr w'):MpInv w w' ad n cap bx g m c :=
 ⟨h.below.trans (hb.mono h.below.size),by rw[hb.cell (cell_lt h.book)];exact h.book,by rw[hb.cell (cell_lt h.var)];exact h.var,h.map.up hb,h.og⟩
theorem MpInv.grown(h:MpInv w wr ad n cap bx g m c)(hg:wr.grownBy w' (some g)){m':Nat}{c':Int→Int}(hc:CntM w' g m' c'):MpInv w w' ad n cap bx g m' c' :=
 ⟨h.below.grown hg h.below.size (fun k hk=>by cases hk;exact Nat.le_of_lt h.og),hg.cell h.book (by intro e;injection e with e;exact h.map.ne h.book e),hg.cell h.var (by intro e;injection e with e;exact h.map.ne h.var e),hc,h.og⟩
end
theorem bkHeads(v:Value)(n:Nat)(PV:Nat→Value)(b:Bk)(w:World)(h:VeSl w w.heap.size v n PV b):
 Calls Tryz.prog 83 #[bookV v] w (LiPost w (if bookE n b=0 then headsL b n n else[]) (bookE n b)):=by
 have HV:=hid h
 obtain⟨ad,cap,rfl,⟨hcap,hbig⟩,hx⟩:=h
 have hbx:=below_alloc w (.cells #[.slice ad n cap] 24)
 have HCk:=hid (bkCheck _ n PV b _ (HV.out.up hbx))
 have c0:(w.alloc (.cells #[.slice ad n cap] 24)).cell? ⟨w.heap.size,0,none⟩=some (.slice ad n cap):=cell_at (heap_alloc_new _ _) rfl
 have HC0:=hid c0
 have HBx:=hid hbx
 have HX:=hid hx
 obtain⟨c,hcc⟩:∃c,bookE n b=c:=⟨_,rfl⟩
 rw[hcc]at HCk ⊢
 obtain⟨l,hl⟩:∃l,(if c=0 then headsL b n n else[])=l:=⟨_,rfl⟩
 rw[hl]
 have HL:=hid hl
 clear hbx hx c0 hl
 unfold bookV at HCk
 unfold bookV
 go_enter Tryz.func83,Tryz.ntmps83
 go_wp2_with fail
 refine Calls.mono HCk.out ?_
 rintro e W ⟨rfl,hbW⟩
 have HWW:=hid (HBx.out.trans (hbW.mono HBx.out.size))
 have d0:W.cell? ⟨w.heap.size,0,none⟩=some (.slice ad n cap):=by rw[hbW.cell (cell_lt HC0.out)];exact HC0.out
 clear hbW
 by_cases hc0:c=0
 ·subst hc0
  have HR:=hid (right_of hcc);have hn12:n≤12:=(right_of hcc).le;obtain rfl:headsL b n n=l:=HL.out;clear hcc;have hmm:=@run_makeMap Tryz.prog;have hlt:w.heap.size<W.heap.size:=cell_lt d0;have J0:Hid (MpInv w ((W.alloc (.map #[] 0)).alloc (.cells #[.map (some W.heap.size)] 102)) ad n cap (W.heap.size+1) W.heap.size 0 (fun _=>0)):=by
   have hb1:=(Below.refl W.heap.size W).alloc (Nat.le_refl _) (.map #[] 0);have hb2:=hb1.alloc (by simp) (.cells #[.map (some W.heap.size)] 102);refine⟨HWW.out.trans (hb2.mono HWW.out.size),by rw[hb2.cell hlt];exact d0,?_,(cntM_made W).up (below_alloc _ _),hlt⟩;have:=heap_two_new W (.map #[] 0) (.cells #[.map (some W.heap.size)] 102);exact cell_at this rfl
  have HI0:Hid (HInvP b 0 (fun _=>0)):=⟨fun x=>by simp,fun x=>⟨fun _ j hj=>by omega,fun _=>rfl⟩⟩;go_wp2;generalize W.heap.size=g at *;clear d0 hmm hlt;go_loopw [17] (fun iv wr=>∃(k:Nat) (ck:Int→Int),k≤n∧iv=.int .i64 k∧Hid (MpInv w wr ad n cap (g+1) g (k*12) ck)∧Hid (HInvP b k ck)) (fun iv _=>n-(intOf iv).toNat)
  case atStart=>exact⟨0,_,Nat.zero_le _,rfl,J0,HI0⟩
  case round =>
   obtain⟨k,ck,hk,rfl,J,HI⟩:=hrel;by_cases hlt:k<n
   ·have hki:(k:Int)<(n:Int):=by omega
    rcases HX.out with h0|⟨bl,off,rfl,hbl,hx⟩;·omega
    obtain⟨x0,x1,x2,x3,x4⟩:=hx k hlt;have HIs:Hid (∀w',Below w.heap.size w w'→IntSl w' w'.heap.size (PV k) (b.PL k) (b.PX k)):=fun w' hb=>x4.up hb;obtain⟨ap,cp,hpe,_,_⟩:=x4;rw[hpe]at x0 HIs;have g0:wr.cell? ⟨bl,off+k*4,none⟩=some (.slice ap (b.PL k) cp):=by rw[J.out.below.cell hbl];exact x0
    have g1:wr.cell? ⟨bl,off+k*4+1,none⟩=some (.int .i64 (b.nd k)):=by rw[J.out.below.cell hbl];exact x1
    have g2:wr.cell? ⟨bl,off+k*4+2,none⟩=some (.int .i64 (b.of k)):=by rw[J.out.below.cell hbl];exact x2
    have g3:wr.cell? ⟨bl,off+k*4+3,none⟩=some (.int .i64 (b.sz k)):=by rw[J.out.below.cell hbl];exact x3
    have v0:=J.out.var;have lv:=cell_lt v0;have hfew:=HR.out.few hlt;have hbA:=below_alloc wr (.cells #[.slice ap (b.PL k) cp,.int .i64 (b.nd k),.int .i64 (b.of k),.int .i64 (b.sz k)] 61);have JA:=hid (J.out.up hbA);have HCt:=hid (bkCount g (k*12) ck _ (b.PL k) (b.PX k) (k*12) _ JA.out.map HI.out.1 (by omega) (HIs.out _ JA.out.below) (fun i hi=>by have:=HR.out.elder k hlt i hi;omega));clear x0 x1 x2 x3 hx hpe hbA;go_wp2_with fail
    refine Calls.mono HCt.out ?_;rintro e w2 ⟨rfl,hg2,c2,hc2,hn2⟩;have J2:=hid (JA.out.grown hg2 (hc2.mono (show k*12+b.PL k≤(k+1)*12 by omega)));have HI2:=hid (hinv_step HI.out (by omega) hn2);clear hg2 hc2 hn2;go_wp2;go_roundw
    case rel=>exact⟨k+1,c2,by omega,by go_num,J2,HI2⟩
    case measure=>simp only[intOf];omega
   have hke:n=k:=by omega
   subst hke;have b0:=J.out.book;have HT:=hid (bkThoseH (g+1) g (n*12) ck _ n (by omega) wr ⟨ad,cap,rfl⟩ J.out.var J.out.map);rw[heads_of HI.out]at HT;unfold bookV at HT;go_wp2_with fail
   refine Calls.mono HT.out ?_;rintro e w2 ⟨hb2,vo,rfl,ho⟩;have hl:=headsL_len b n n;have HFin:=hid (J.out.below.trans (hb2.mono J.out.below.size));have HIs:=hid (ho.isl (by omega));clear hb2 ho;go_wp2;go_ret2;exact⟨HFin.out,_,rfl,HIs.out⟩
 ·have hcb:(c != 0)=true:=by simpa using hc0
  obtain rfl:[]=l:=by rw[←HL.out,if_neg hc0]
  clear hc0 hcc;go_wp2;go_ret2;exact liPost_nil HWW.out
end
theorem hasB_memC(l:List Int)(x:Int):hasB (fun j=>l.getD j 0) l.length x=decide (x∈l):=by
 rw[Bool.eq_iff_iff,hasB_iff,decide_eq_true_iff];constructor
 ·rintro⟨j,hj,rfl⟩
  rw[List.getD_eq_getElem?_getD,List.getElem?_eq_getElem hj];exact List.getElem_mem hj
 intro h;obtain⟨j,hj,rfl⟩:=List.mem_iff_getElem.1 h;exact⟨j,hj,by rw[List.getD_eq_getElem?_getD,List.getElem?_eq_getElem hj];rfl⟩
def fgP(P:Ps)(N:Int)(i:Nat):Ps:=⟨P.th,P.rm,fun k=>if k<i then(forgP P N).m k else P.m k,fun k=>if k<i then(forgP P N).t k else P.t k⟩
theorem fgP_skip{P:Ps}{N:Int}{i:Nat}(ht:P.th i=false):fgP P N (i+1)=fgP P N i:=by
 unfold fgP;congr 1<;>funext k
 ·by_cases e:k=i
  ·subst e
   rw[if_pos (Nat.lt_succ_self _),if_neg (Nat.lt_irrefl _)];simp[forgP,ht]
  have:(k<i+1)=(k<i):=propext ⟨fun _=>by omega,fun _=>by omega⟩;simp only[this]
 by_cases e:k=i
 ·subst e
  rw[if_pos (Nat.lt_succ_self _),if_neg (Nat.lt_irrefl _)];simp[forgP,ht]
 have:(k<i+1)=(k<i):=propext ⟨fun _=>by omega,fun _=>by omega⟩;simp only[this]
theorem fgP_at{P:Ps}{N:Int}{i:Nat}(ht:P.th i=true):(fgP P N (i+1)).m i=(butL (P.t i) N (P.m i)).length∧(fgP P N (i+1)).t i=selT (P.t i) (butL (P.t i) N (P.m i)):=by
 unfold fgP;simp only[Nat.lt_succ_self,if_true];unfold forgP;simp only[ht,if_true];exact⟨trivial,trivial⟩
theorem fgP_old{P:Ps}{N:Int}{i k:Nat}(hk:k≠i):(fgP P N (i+1)).m k=(fgP P N i).m k∧(fgP P N (i+1)).t k=(fgP P N i).t k:=by
 unfold fgP;have:(k<i+1)=(k<i):=propext ⟨fun _=>by omega,fun _=>by omega⟩;simp only[this];exact⟨trivial,trivial⟩
theorem spr_forg{w wr:World}{ab:Option Addr}{n cb:Nat}{al:Option Addr}{np cl gv gp gm:Nat}{PV:Nat→Value}{b:Bk}{KV:Nat→Value}{UV:Nat→Nat→Value}{P:Ps}{N:Int}(h:SprInv w wr ab n cb al np cl gv gp gm PV b KV UV (fgP P N np)):SprInv w wr ab n cb al np cl gv gp gm PV b KV UV (forgP P N):=by
 have e:∀k,k<np→(fgP P N np).m k=(forgP P N).m k∧(fgP P N np).t k=(forgP P N).t k:=fun k hk=>⟨if_pos hk,if_pos hk⟩;exact⟨h.below,h.box,h.out,h.made,h.ver,⟨h.row.cell,h.row.free,h.row.lt⟩,fun k hk=>by rw[←(e k hk).1,←(e k hk).2];exact h.kept k hk,⟨h.new.1,fun k hk=>by rw[←(e k hk).1,←(e k hk).2];exact h.new.2 k hk⟩,h.ne,h.verO⟩
theorem wdForget(vb:Value)(n:Nat)(PV:Nat→Value)(b:Bk)(vl:Value)(np:Nat)(KV:Nat→Value)(UV:Nat→Nat→Value)(P:Ps)(N:Int)(w:World)
 (hv:VeSl w w.heap.size vb n PV b) (hl:PsSl w w.heap.size vl np KV UV P) (hR:MeshR n b np P) :
 Calls Tryz.prog 39 #[meshV vb vl,.int .i64 N] w (MeshPostN w (forgE n b np P N) n b np (forgP P N)):=by
 have hb0:=((Below.refl w.heap.size w).alloc (Nat.le_refl _) (.cells #[vb,vl] 27)).alloc (by simp) (.cells #[.slice none 0 0,.slice none 0 0] 27)
 have k1:=heap_two_old w (.cells #[vb,vl] 27) (.cells #[.slice none 0 0,.slice none 0 0] 27)
 have k2:=heap_two_new w (.cells #[vb,vl] 27) (.cells #[.slice none 0 0,.slice none 0 0] 27)
 obtain⟨W,hW⟩:∃W,(w.alloc (.cells #[vb,vl] 27)).alloc (.cells #[.slice none 0 0,.slice none 0 0] 27)=W:=⟨_,rfl⟩
 rw[hW]at hb0 k1 k2
 have HV:=hid hv
 have HL:=hid hl
 have HR:=hid hR
 have h8:=hR.few
 have hn12:n≤12:=(right_of hR.book).le
 obtain⟨ad,cap0,rfl,_,_⟩:=hv
 obtain⟨al,cl,rfl,_,_⟩:=hl
 obtain⟨er,her⟩:∃c,forgE n b np P N=c:=⟨_,rfl⟩
 rw[her]
 have HEr:=hid her
 obtain⟨m0,m1⟩:=two_at k1
 have B0:=hid hb0
 have K1:=hid k1
 have K2:=hid k2
 have CH:=hid (bkHeads _ n PV b W (HV.out.up hb0))
 have hbk:bookE n b=0:=hR.book
 rw[hbk,if_pos rfl]at CH
 have hpe:peersE n b np P=0:=hR.e
 unfold bookV at CH
 clear hb0 k1 k2 her hR hbk
 unfold meshV
 by_cases hN:N<0∨(n:Int)≤N
 ·have HE:Hid (er=4):=by
   show er=4;rw[←HEr.out];have hv9:verM n b np P N=4:=by
    unfold verM;rw[if_pos hpe,if_neg (by omega)]
   unfold forgE;rw[hv9,if_neg (by decide)]
  clear hpe;obtain⟨r1,r2⟩:=two_at K2.out;have f1:=frozen_at (i:=0) K2.out;have f2:=frozen_at (i:=1) K2.out;go_enter Tryz.func39,Tryz.ntmps39;by_cases h0:N<0
  ·clear hN
   go_wp2;refine ret2 (put2_whole K2.out _ _) Tryz.underlying27 ?_;rw[HE.out];exact meshN_none (put2_below B0.out (by omega)) (by omega)
  have h1:N≥(n:Int):=by omega
  clear hN;go_wp2;refine ret2 (put2_whole K2.out _ _) Tryz.underlying27 ?_;rw[HE.out];exact meshN_none (put2_below B0.out (by omega)) (by omega)
 ·obtain⟨q,rfl⟩:∃q:Nat,N=q:=⟨N.toNat,by omega⟩
  have hqn:q<n:=by omega
  have h0:¬(q:Int)<0:=by omega
  have h1:¬(q:Int)≥(n:Int):=by omega
  have HX:Hid (er=if((q:Int)∈headsL b n n)then 0 else 6):=by
   show er=_;rw[←HEr.out];have hv9:verM n b np P (q:Int)=0:=by
    unfold verM;rw[if_pos hpe,if_pos (by omega)]
   unfold forgE;rw[if_pos hv9]
  clear hN hpe;go_enter Tryz.func39,Tryz.ntmps39;go_wp2_with fail
  refine Calls.mono CH.out ?_;rintro e W1 ⟨hb1,vo,rfl,hol⟩;have K1b:=hid (stayB K1.out hb1);have K2b:=hid (stayB K2.out hb1);have B1:=hid (B0.out.trans (hb1.mono B0.out.size));have CC:=hid (contains_sl hol (q:Int));rw[hasB_memC]at CC;obtain⟨db,hdb⟩:∃d,decide ((q:Int)∈headsL b n n)=d:=⟨_,rfl⟩;rw[hdb]at CC;have HDb:=hid hdb;clear hdb;obtain⟨aw,cw,hvo,_⟩:=id hol;subst hvo;clear hb1 hol CH m0 m1 hW;go_wp2_with fail
  refine Calls.mono CC.out ?_;rintro e W2 ⟨rfl,hw3⟩;subst W2;obtain⟨m0,m1⟩:=two_at K1b.out;cases db with
  |false =>
   have HE:Hid (er=6):=by
    show er=6;rw[HX.out,if_neg (of_decide_eq_false HDb.out)]
   obtain⟨r1,r2⟩:=two_at K2b.out;have f1:=frozen_at (i:=0) K2b.out;have f2:=frozen_at (i:=1) K2b.out;clear CC;go_wp2;refine ret2 (put2_whole K2b.out _ _) Tryz.underlying27 ?_;rw[HE.out];exact meshN_none (put2_below B1.out (by omega)) (by omega)
  |true =>
   have HE:Hid (er=0):=by
    show er=0;rw[HX.out,if_pos (of_decide_eq_true HDb.out)]
   have CW:=hid (frMesh _ n PV b _ np KV UV P W1 (HV.out.up B1.out) (HL.out.up B1.out) (by omega) (by omega));unfold meshV at CW;clear CC;go_wp2_with fail
   refine Calls.mono CW.out ?_;rintro e W2 ⟨hb2,gv,gp,QV,LV,VV,rfl,w1,w2,w3,hv2,hrow,hnew,hkept,hqa,_⟩;unfold meshV;have hs1:w.heap.size+1<W1.heap.size:=(Array.getElem?_eq_some_iff.1 K2b.out).1;have hb3:=hb2.alloc hb2.size (.cells #[.slice (some ⟨gv,0,none⟩) n n,.slice (some ⟨gp,0,none⟩) np np] 27);have hb23:=below_alloc W2 (.cells #[.slice (some ⟨gv,0,none⟩) n n,.slice (some ⟨gp,0,none⟩) np np] 27);have k9:=heap_alloc_new W2 (.cells #[.slice (some ⟨gv,0,none⟩) n n,.slice (some ⟨gp,0,none⟩) np np] 27);obtain⟨Y,hY⟩:∃u,W2.alloc (.cells #[.slice (some ⟨gv,0,none⟩) n n,.slice (some ⟨gp,0,none⟩) np np] 27)=u:=⟨_,rfl⟩;rw[hY]at hb3 hb23 k9;have hB1:=B1.out.size;have hgpl:=hrow.lt;have GI:Hid (SprInv w Y ad n cap0 al np cl gv gp W2.heap.size QV b LV VV (fgP P (q:Int) 0)):=by
    refine⟨B1.out.trans (hb3.mono B1.out.size),stayB K1b.out hb3,stayB K2b.out hb3,k9,hv2.up hb23,hrow.up hb23,fun k hk=>(hkept k hk).1.up hb23,⟨(hnew.mono (by omega)).up hb23,fun k hk=>⟨((hkept k hk).2.1.mono (by omega)).up hb23,fun i hi=>Or.inr ((((hkept k hk).2.2 i hi).mono (by omega)).up hb23)⟩⟩,⟨by omega,w3,by omega,by have:=hb2.size;omega⟩,fun s hs=>⟨Or.inr fun ad n' c' e=>(by injection e with e;injection e with e;subst e;show gv≠s;omega),fun j hj=>OfB.above ((hqa j hj).mono' (by omega))⟩⟩
   obtain⟨gm,hgm⟩:∃g,W2.heap.size=g:=⟨_,rfl⟩;rw[hgm]at GI;clear hb2 hv2 hrow hnew hkept hqa hb3 hb23 k9 w1 w2 w3 hs1 hB1 hgpl CW m0 m1;obtain⟨m0,m1⟩:=two_at GI.out.box;go_wp2;clear hY hgm m0 m1;go_loopw [42] (fun iv wr=>∃(i:Nat) (KVi:Nat→Value) (UVi:Nat→Nat→Value),i≤np∧iv=.int .i64 i∧Hid (SprInv w wr ad n cap0 al np cl gv gp gm QV b KVi UVi (fgP P (q:Int) i))) (fun iv _=>np-(intOf iv).toNat)
   case atStart=>exact⟨0,LV,VV,Nat.zero_le _,rfl,GI⟩
   case round =>
    obtain⟨i,KVi,UVi,hi,rfl,GR⟩:=hrel;by_cases hlt:i<np
    ·have hii:(i:Int)<(np:Int):=by omega
     obtain⟨bl,off,rfl,hbl,g0,g1,g2,g3⟩:=(HL.out.up GR.out.below).at hlt;have G3:Hid (∀u,Below w.heap.size w u→KeSl u u.heap.size (KV i) (P.m i) (UV i) (P.t i)):=fun u hbu=>by
      obtain⟨_,_,_,_,_,_,_,h3⟩:=(HL.out.up hbu).at hlt;exact h3
     obtain⟨ak,ck,hke,_,_⟩:=g3;rw[hke]at g2 G3;obtain⟨t0,ht0⟩:∃t,P.th i=t:=⟨_,rfl⟩;rw[ht0]at g0;have HT0:=hid ht0;have hbA:=below_alloc wr (.cells #[.bool t0,.int .i64 (P.rm i),.slice ak (P.m i) ck] 41);have kp:=heap_alloc_new wr (.cells #[.bool t0,.int .i64 (P.rm i),.slice ak (P.m i) ck] 41);obtain⟨W4,hW4⟩:∃u,wr.alloc (.cells #[.bool t0,.int .i64 (P.rm i),.slice ak (P.m i) ck] 41)=u:=⟨_,rfl⟩;rw[hW4]at hbA kp;have hgpw:gp<wr.heap.size:=GR.out.row.lt;have hgmw:gm<wr.heap.size:=(Array.getElem?_eq_some_iff.1 GR.out.made).1;obtain⟨bp,hbp⟩:∃q,wr.heap.size=q:=⟨_,rfl⟩;rw[hbp]at kp hgpw hgmw;obtain⟨p0,p1,p2⟩:=three_at kp;have GA:=hid (GR.out.up hbA);clear hke ht0 hbA;cases t0 with
     |false =>
      have e9:=fgP_skip (N:=(q:Int)) HT0.out;have GB:Hid (SprInv w W4 ad n cap0 (some ⟨bl,off,none⟩) np cl gv gp gm QV b KVi UVi (fgP P (q:Int) (i+1))):=by
       show SprInv _ _ _ _ _ _ _ _ _ _ _ _ _ _ _ _;rw[e9];exact GA.out
      clear kp e9;go_wp2;go_roundw
      case rel=>exact⟨i+1,_,_,by omega,by go_num,GB⟩
      case measure=>simp only[intOf];omega
     |true =>
      obtain⟨n1,n2,n3,n4⟩:=GA.out.ne;obtain⟨m0,m1⟩:=two_at GA.out.box;obtain⟨c0,c1⟩:=two_at GA.out.made;have hne:Nonempty (Of (fun u=>W4.grownBy u (some gp))):=⟨⟨W4,rfl,rfl,rfl,Nat.le_refl _,fun _ _ _=>rfl⟩⟩;have F0:∀u:Of (fun u=>W4.grownBy u (some gp)),u.val.cell? ⟨w.heap.size,0,none⟩=some (.slice ad n cap0):=fun u=>u.is.cell m0 (by simp;omega);have F1:∀u:Of (fun u=>W4.grownBy u (some gp)),u.val.cell? ⟨gm,1,none⟩=some (.slice (some ⟨gp,0,none⟩) np np):=fun u=>u.is.cell c1 (by simp;omega);have F2:∀u:Of (fun u=>W4.grownBy u (some gp)),u.val.cell? ⟨bp,0,none⟩=some (.bool true):=fun u=>u.is.cell p0 (by simp;omega);have F3:∀u:Of (fun u=>W4.grownBy u (some gp)),u.val.cell? ⟨bp,1,none⟩=some (.int .i64 (P.rm i)):=fun u=>u.is.cell p1 (by simp;omega)
      have F4:∀u:Of (fun u=>W4.grownBy u (some gp)),u.val.cell? ⟨bp,2,none⟩=some (.slice ak (P.m i) ck):=fun u=>u.is.cell p2 (by simp;omega);clear kp n1 n2 n3 n4 m0 m1 c0 c1;go_wp2_with fail
      refine region_mixed (fun u=>W4.grownBy u (some gp)) [([0,1,2,3,4,5,6],7),([8,9,10,11],12)] [13] (by kernel_rfl) (by kernel_rfl) (drew_grown W4 _) ?_;have hb0:=drew_below W4;obtain⟨U0,hU0⟩:∃U,W4.drew=U:=⟨_,rfl⟩;rw[hU0]at hb0 ⊢;have HU0:=hid hb0;have HBU:=hid (GA.out.below.trans (hb0.mono GA.out.below.size));have CD:=hid (peDrop _ n PV b true (P.rm i) _ (P.m i) _ (P.t i) (q:Int) U0 (HV.out.up HBU.out) (G3.out _ HBU.out));unfold bookV peerV at CD;clear hU0 hb0;refine mixO_cons ?_;repeat(go_big_quiet_step (fail))
      refine wpQuiet_nil ?_;intro K hK;go_wp2_with fail
      refine Calls.mono CD.out ?_;rintro e U1 hDr;obtain⟨hb1,ar,cr,UR,rfl,hkr,hnk⟩:=drop_opened (HR.out.peer i hlt).e hDr;have hb01:=HU0.out.trans (hb1.mono HU0.out.size);have G1:=hid (GA.out.up hb01);have HB1:=hid hb01;have hwU:w.heap.size≤U0.heap.size:=HBU.out.size;have HKr:=hid hkr;have HNk:Hid (NewV w.heap.size U1 (.slice ar (butL (P.t i) (q:Int) (P.m i)).length cr)∧∀j,j<(butL (P.t i) (q:Int) (P.m i)).length→(selT (P.t i) (butL (P.t i) (q:Int) (P.m i))).L j=0∨NewV w.heap.size U1 (UR j)):=⟨hnk.1.mono hwU,fun j hj=>(hnk.2 j hj).imp id fun h=>h.mono hwU⟩;obtain⟨z1,z2,z3⟩:=G1.out.row.cell i hlt;obtain⟨a9,c9,hk9,_,_⟩:=G1.out.kept i hlt;rw[hk9]at z3;have z1':U1.cell? ⟨gp,i*3,none⟩=some (.bool true):=by rw[z1];exact congrArg (fun t=>some (Value.bool t)) HT0.out
      have z2':U1.cell? ⟨gp,i*3+1,none⟩=some (.int .i64 (P.rm i)):=z2;have S1:=setCell_same z1';have S2:=setCell_same z2';have f1:=G1.out.row.free (i*3) (by omega);have f2:=G1.out.row.free (i*3+1) (by omega);have f3:=G1.out.row.free (i*3+2) (by omega);have JP:Hid (SprInv w (U1.setCell ⟨gp,i*3+2,none⟩ (.slice ar (butL (P.t i) (q:Int) (P.m i)).length cr)) ad n cap0 (some ⟨bl,off,none⟩) np cl gv gp gm QV b (fun k=>if k=i then .slice ar (butL (P.t i) (q:Int) (P.m i)).length cr else KVi k) (fun k=>if k=i then UR else UVi k) (fgP P (q:Int) (i+1))):=by
       obtain⟨e1,e2⟩:=fgP_at (N:=(q:Int)) HT0.out;refine G1.out.put (P':=fgP P (q:Int) (i+1)) hlt rfl rfl (fun k _ hkq=>fgP_old hkq) ?_ ?_;·rw[e1,e2];exact HKr.out
       rw[e1,e2];exact HNk.out
      have HYd:Hid (W4.grownBy (U1.setCell ⟨gp,i*3+2,none⟩ (.slice ar (butL (P.t i) (q:Int) (P.m i)).length cr)) (some gp)):=by
       show World.grownBy _ _ _;have h9:W4.grownBy U1 (some gp):=grown_of_below HB1.out _;exact⟨h9.os,h9.tape,h9.output,by simpa[World.setCell]using h9.size,fun k hk hkg=>by rw[Below.heap_setCell _ _ _ _ (by show k≠gp;intro e;exact hkg (by rw[e]))];exact h9.block k hk hkg⟩
      clear hDr hb1 hb01 z1 z2 hkr hnk hwU hk9 CD;go_wp2;refine⟨rfl,hK _ _ (grown_of_below HB1.out _) ?_⟩;clear hK K;refine mixO_cons ?_;repeat(go_big_quiet_step (fail))
      refine wpQuiet_nil ?_;intro K hK;go_wp2;refine⟨rfl,hK _ _ HYd.out ?_⟩;clear hK K;refine mixO_nil ?_;repeat(go_big_quiet_step (fail))
      refine wpQuiet_nil ?_;clear F0 F1 F2 F3 F4 hne z1' z2' z3 S1 S2 f1 f2 f3 p0 p1 p2;go_wp2;go_roundw
      case rel=>exact⟨i+1,_,_,by omega,by go_num,JP⟩
      case measure=>simp only[intOf];omega
    have hie:np=i:=by omega
    subst hie;have hjn:¬(np:Int)<(np:Int):=by omega
    have GJ:=hid (spr_forg GR.out);obtain⟨m0,m1⟩:=two_at GJ.out.made;obtain⟨r1,r2⟩:=two_at GJ.out.out;have f1:=frozen_at (i:=0) GJ.out.out;have f2:=frozen_at (i:=1) GJ.out.out;go_wp2;refine ret2 (put2_whole GJ.out.out _ _) Tryz.underlying27 ?_;rw[HE.out];exact(GJ.out.fin (C:=False) (ver:=0) h8 rfl (fun h=>h.elim)).n
end Go.Proofs.YtajmnlhfnhbleaaGreat
