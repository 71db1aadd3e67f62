/- Several texts of one proof, in their order. -/
import Derived.Test.YtajmnlhfnhbleaaGreatKw17
namespace Go.Proofs.YtajmnlhfnhbleaaGreat
open Go.RowKit
set_option linter.unusedVariables false
set_option maxHeartbeats 4000000
set_option maxRecDepth 10000
theorem IntSl.grownA{w w':World}{B g:Nat}{v:Value}{n:Nat}{X:Nat→Int}(h:IntSl w B v n X)(ha:Above (g+1) v)(hg:w.grownBy w' (some g)):IntSl w' B v n X:=by
 obtain⟨ad,cap,rfl,h0,h2⟩:=h;refine⟨ad,cap,rfl,h0,?_⟩;rcases h2 with h2|⟨b,off,rfl,h4,h5⟩;·exact Or.inl h2
 have hb:g+1≤b:=ha _ _ _ rfl;exact Or.inr ⟨b,off,rfl,h4,fun j hj=>hg.cell (h5 j hj) (by intro e;injection e with e;have e2:b=g:=e;omega)⟩
def AddPost'(w:World)(n:Nat)(b b':Bk)(e:Ending)(w':World):Prop :=
 Below w.heap.size w w'∧∃(r:Value) (m:Nat) (PV':Nat→Value),e=.returned (.tuple #[bookV r,.int .i64 (addE n b b')])∧m=(if addE n b b'=0 then n+1 else 0)∧VeSl w' w'.heap.size r m PV' b'
theorem add_err{w w5:World}{n:Nat}{b b':Bk}{c:Int}{u:Value}(he:addE n b b'=c)(hc:c≠0)(hb:Below w.heap.size w w5):AddPost' w n b b' (.returned (.tuple #[.agg #[.slice none 0 0],.int .i64 c])) (w5.setCell ⟨w.heap.size+2,0,none⟩ u):=by
 refine⟨hb.setCell (p:=⟨w.heap.size+2,0,none⟩) (by show w.heap.size≤w.heap.size+2;omega) _,.slice none 0 0,0,fun _=>undef,by rw[he];rfl,by rw[he,if_neg hc],none,0,rfl,⟨Nat.le_refl _,by omega⟩,Or.inl rfl⟩
structure AdInv(w u:World)(n:Nat)(b:Bk)(gm:Nat)(v:Value)(PV:Nat→Value):Prop where
 below:Below w.heap.size w u
 own:u.ownsRow w.heap.size 61 4 v n (flatV n PV b)
 lists:∀j,j<n→IntSl u u.heap.size (PV j) (b.PL j) (b.PX j)∧Above (w.heap.size+3) (PV j)
 book:u.heap[gm]?=some (.cells #[v] 24 (0,0))
 res:u.heap[w.heap.size+2]?=some (.cells #[.slice none 0 0] 24 (0,0))
theorem AdInv.up{w u u':World}{n:Nat}{b:Bk}{gm:Nat}{v:Value}{PV:Nat→Value}(h:AdInv w u n b gm v PV)(hb:Below u.heap.size u u'):AdInv w u' n b gm v PV :=
 ⟨h.below.trans (hb.mono h.below.size),owns_below h.own hb,fun j hj=>⟨(h.lists j hj).1.up hb,(h.lists j hj).2⟩,by rw[hb.block _ (Array.getElem?_eq_some_iff.1 h.book).1];exact h.book,by rw[hb.block _ (Array.getElem?_eq_some_iff.1 h.res).1];exact h.res⟩
theorem AdInv.ok{w u:World}{n:Nat}{b b':Bk}{gm:Nat}{v:Value}{PV:Nat→Value}(h:AdInv w u (n+1) b' gm v PV)(he:addE n b b'=0)(hn:(n+1)*48≤140737488351232):AddPost' w n b b' (.returned (.tuple #[.agg #[v],.int .i64 0])) (u.setCell ⟨w.heap.size+2,0,none⟩ v):=by
 refine⟨h.below.setCell (p:=⟨w.heap.size+2,0,none⟩) (by show w.heap.size≤w.heap.size+2;omega) _,v,n+1,PV,by rw[he];rfl,by rw[he,if_pos rfl],?_⟩;refine rowV_shl (owns_set_other h.own (owns_ne h.own h.res (by decide)) _) hn fun j hj=>?_;have:=(h.lists j hj).1.set (bs:=w.heap.size+2) (h.lists j hj).2 0 v;simpa[World.setCell]using this
theorem AdInv.vsl{w u:World}{n:Nat}{b:Bk}{gm:Nat}{v:Value}{PV:Nat→Value}(h:AdInv w u n b gm v PV)(hn:n*48≤140737488351232):VeSl u u.heap.size v n PV b :=
 rowV_shl h.own hn fun j hj=>(h.lists j hj).1
theorem ad_made{w w1 w2 w4 w6:World}{n lp:Nat}{b:Bk}{X:Nat→Int}{nd of sz:Int}{g:Nat}{PV:Nat→Value}{pv v9:Value}{o:Obj}
 (hB:Below w.heap.size w w1) (hres:w1.heap[w.heap.size+2]?=some (.cells #[.slice none 0 0] 24 (0,0)))
 (hwh:OwnV w1 w2 (.slice (some ⟨g,0,none⟩) n n) n PV b) (hls:∀j,j<n→IntSl w2 w2.heap.size (PV j) (b.PL j) (b.PX j)∧Above (g+1) (PV j))
 (h4:Below (w2.heap.size+1) (w2.alloc (.cells #[.slice (some ⟨g,0,none⟩) n n] 24)) w4) (hpv:IntSl w4 w4.heap.size pv lp X) (hap:Above (w2.heap.size+1) pv)
 (ho:w6.ownsRow w1.heap.size 61 4 v9 (n+1) (flatV n PV b++[pv,.int .i64 nd,.int .i64 of,.int .i64 sz])) (hg:(w4.alloc o).grownBy w6 (some g)) :
 AdInv w (w6.setCell ⟨w2.heap.size,0,none⟩ v9) (n+1) (snocB n b lp X nd of sz) w2.heap.size v9 (snocP n PV pv):=by
 have hg1:w1.heap.size≤g∧g<w2.heap.size:=hwh.1.lt g rfl
 have hr1:w.heap.size+2<w1.heap.size:=(Array.getElem?_eq_some_iff.1 hres).1
 have hb24:Below w2.heap.size w2 w4:=(below_alloc w2 _).trans (h4.mono (by omega))
 have hb25:Below w2.heap.size w2 (w4.alloc o):=hb24.alloc hb24.size _
 have hb15:Below w1.heap.size w1 (w4.alloc o):=hwh.2.trans (hb25.mono hwh.2.size)
 have hb16:Below w1.heap.size w1 w6:=hb15.grown hg hb15.size (fun k hk=>by cases hk;exact hg1.1)
 have hsz6:w2.heap.size<w6.heap.size:=by
  have h1:=h4.size;have h2:=hg.size;simp at h1 h2;omega
 have hm6:w6.heap[w2.heap.size]?=some (.cells #[.slice (some ⟨g,0,none⟩) n n] 24 (0,0)):=by
  have e1:w4.heap[w2.heap.size]?=some (.cells #[.slice (some ⟨g,0,none⟩) n n] 24 (0,0)):=by rw[h4.block _ (Nat.lt_succ_self _)];exact heap_alloc_new _ _
  have l4:=(Array.getElem?_eq_some_iff.1 e1).1;rw[hg.block _ (by simp;omega) (by intro e;injection e with e;omega),Below.heap_alloc _ _ _ l4];exact e1
 have hown:w6.ownsRow w1.heap.size 61 4 v9 (n+1) (flatV (n+1) (snocP n PV pv) (snocB n b lp X nd of sz)):=by
  rw[flatV_succ];have e:flatV n (snocP n PV pv) (snocB n b lp X nd of sz)=flatV n PV b:=flatV_congr fun j hj=>by
   have hne:j≠n:=by omega
   simp[snocP,snocB,hne]
  rw[e];simp only[snocP,snocB,if_true];exact ho
 have hw1:=hB.size
 refine⟨(hB.trans (hb16.mono hw1)).setCell (p:=⟨w2.heap.size,0,none⟩) (by show w.heap.size≤w2.heap.size;omega) _,owns_base (owns_set_other hown (owns_ne hown hm6 (by decide)) _) hw1,fun j hj=>?_,set_one hm6 _,?_⟩
 ·by_cases e:j=n
  ·subst e
   simp only[snocP,snocB,if_true];have h1:=(hpv.up (below_alloc w4 o)).grownA (hap.mono' (by omega)) hg;have h2:=(h1.mono hg.size).set (bs:=w2.heap.size) hap 0 v9;exact⟨by simpa[World.setCell]using h2,hap.mono' (by omega)⟩
  simp only[snocP,snocB,if_neg e];obtain⟨g1,g2⟩:=hls j (by omega);have h1:=(g1.below hb25).grownA g2 hg;have h2:IntSl (w6.setCell ⟨w2.heap.size,0,none⟩ v9) w2.heap.size (PV j) (b.PL j) (b.PX j):=h1.below ((Below.refl w2.heap.size w6).setCell (p:=⟨w2.heap.size,0,none⟩) (Nat.le_refl _) _);exact⟨h2.mono (by simp[World.setCell];omega),g2.mono' (by omega)⟩
 ·rw[Below.heap_setCell _ _ _ _ (by show w.heap.size+2≠w2.heap.size;omega),hb16.block _ hr1]
  exact hres
theorem bkAdd(v:Value)(n:Nat)(PV:Nat→Value)(b:Bk)(pv:Value)(lp:Nat)(X:Nat→Int)(nd of sz:Int)(w:World)(h:VeSl w w.heap.size v n PV b)(hp:IntSl w w.heap.size pv lp X):
 Calls Tryz.prog 80 #[bookV v,verV pv nd of sz] w (AddPost' w n b (snocB n b lp X nd of sz)):=by
 have HV:=hid h
 have HIp:=hid hp
 obtain⟨ad,cap,rfl,⟨hcap,hbig⟩,hx⟩:=h
 obtain⟨ap,cp,rfl,_,_⟩:=hp
 obtain⟨ii,hii,hz0,hz1,hz2⟩:=info_parts Tryz.infoVer
 have hb3:Below w.heap.size w (((w.alloc (.cells #[.slice ad n cap] 24)).alloc (.cells #[.slice ap lp cp,.int .i64 nd,.int .i64 of,.int .i64 sz] 61)).alloc (.cells #[.slice none 0 0] 24)):=((Below.refl _ _).alloc (Nat.le_refl _) _).alloc (by simp) _ |>.alloc (by simp;omega) _
 have c1:(((w.alloc (.cells #[.slice ad n cap] 24)).alloc (.cells #[.slice ap lp cp,.int .i64 nd,.int .i64 of,.int .i64 sz] 61)).alloc (.cells #[.slice none 0 0] 24)).heap[w.heap.size]?=some (.cells #[.slice ad n cap] 24 (0,0)):=by rw[Below.heap_alloc _ _ _ (by simp;omega),Below.heap_alloc _ _ _ (by simp)];exact heap_alloc_new _ _
 have c2:(((w.alloc (.cells #[.slice ad n cap] 24)).alloc (.cells #[.slice ap lp cp,.int .i64 nd,.int .i64 of,.int .i64 sz] 61)).alloc (.cells #[.slice none 0 0] 24)).heap[w.heap.size+1]?=some (.cells #[.slice ap lp cp,.int .i64 nd,.int .i64 of,.int .i64 sz] 61 (0,0)):=by
  rw[Below.heap_alloc _ _ _ (by simp)];have:=heap_alloc_new (w.alloc (.cells #[.slice ad n cap] 24)) (.cells #[.slice ap lp cp,.int .i64 nd,.int .i64 of,.int .i64 sz] 61);simpa using this
 have c3:(((w.alloc (.cells #[.slice ad n cap] 24)).alloc (.cells #[.slice ap lp cp,.int .i64 nd,.int .i64 of,.int .i64 sz] 61)).alloc (.cells #[.slice none 0 0] 24)).heap[w.heap.size+2]?=some (.cells #[.slice none 0 0] 24 (0,0)):=by
  have:=heap_alloc_new ((w.alloc (.cells #[.slice ad n cap] 24)).alloc (.cells #[.slice ap lp cp,.int .i64 nd,.int .i64 of,.int .i64 sz] 61)) (.cells #[.slice none 0 0] 24);simpa using this
 have HCk:=hid (bkCheck _ n PV b _ (HV.out.up hb3))
 obtain⟨c,hcc⟩:∃c,bookE n b=c:=⟨_,rfl⟩
 rw[hcc]at HCk
 have HB3:=hid hb3
 have HC1:=hid c1
 have HC2:=hid c2
 have HC3:=hid c3
 clear hx hb3 c1 c2 c3
 unfold bookV at HCk
 unfold bookV verV
 go_enter Tryz.func80,Tryz.ntmps80
 go_wp2_with fail
 refine Calls.mono HCk.out ?_
 rintro e W ⟨rfl,hbW⟩
 have d1:W.heap[w.heap.size]?=some (.cells #[.slice ad n cap] 24 (0,0)):=by rw[hbW.block _ (Array.getElem?_eq_some_iff.1 HC1.out).1];exact HC1.out
 have d2:W.heap[w.heap.size+1]?=some (.cells #[.slice ap lp cp,.int .i64 nd,.int .i64 of,.int .i64 sz] 61 (0,0)):=by rw[hbW.block _ (Array.getElem?_eq_some_iff.1 HC2.out).1];exact HC2.out
 have d3:W.heap[w.heap.size+2]?=some (.cells #[.slice none 0 0] 24 (0,0)):=by rw[hbW.block _ (Array.getElem?_eq_some_iff.1 HC3.out).1];exact HC3.out
 have HWW:=hid (HB3.out.trans (hbW.mono HB3.out.size))
 have HR0:=hid d3
 have HD2:=hid d2
 have e1:W.cell? ⟨w.heap.size,0,none⟩=some (.slice ad n cap):=cell_at d1 rfl
 have r0:=cell_at (i:=0) d3 rfl
 have rf:=frozen_at (i:=0) d3
 clear hbW HC1 HC2 HC3 HCk d1 d2 d3
 by_cases hc0:c=0
 ·subst hc0
  have HE0:=hid hcc;have hn12:n≤12:=(right_of hcc).le;clear hcc;by_cases h12:n=12
  ·have h12i:((n:Int)==12)=true:=by rw[beq_iff_eq];omega
   have he:addE n b (snocB n b lp X nd of sz)=1:=by unfold addE;rw[HE0.out,if_pos rfl];unfold bookE;rw[if_neg (by omega)]
   have HEr:=hid he;clear he h12;go_wp2;refine ret2 (set_one HR0.out _) Tryz.underlying24 ?_;exact add_err HEr.out (by decide) HWW.out
  have h12i:((n:Int)==12)=false:=by rw[beq_eq_false_iff_ne];omega
  have hn11:n≤11:=by omega
  clear h12;go_wp2_with fail
  refine Calls.mono (bkWhole _ n PV b (by omega) W (HV.out.up HWW.out)) ?_;rintro e w2 ⟨g,QV,rfl,hown,hls⟩;unfold bookV;have HOwn:=hid hown;have HLs:=hid hls;have hbb:=hown.2;have HB2:=hid hbb;have q2:w2.heap[w.heap.size+1]?=some (.cells #[.slice ap lp cp,.int .i64 nd,.int .i64 of,.int .i64 sz] 61 (0,0)):=by rw[hbb.block _ (Array.getElem?_eq_some_iff.1 HD2.out).1];exact HD2.out
  have hgl:W.heap.size≤g∧g<w2.heap.size:=hown.1.lt g rfl;obtain⟨U,hU⟩:∃U,w2.alloc (.cells #[.slice (some ⟨g,0,none⟩) n n] 24)=U:=⟨_,rfl⟩;have hbU:Below w2.heap.size w2 U:=by rw[←hU];exact below_alloc _ _
  have hszU:U.heap.size=w2.heap.size+1:=by rw[←hU];simp
  have HSzU:=hid hszU;have u1:U.heap[w2.heap.size]?=some (.cells #[.slice (some ⟨g,0,none⟩) n n] 24 (0,0)):=by rw[←hU];exact heap_alloc_new _ _
  have u2:U.heap[w.heap.size+1]?=some (.cells #[.slice ap lp cp,.int .i64 nd,.int .i64 of,.int .i64 sz] 61 (0,0)):=by rw[hbU.block _ (Array.getElem?_eq_some_iff.1 q2).1];exact q2
  have HBU:=hid (HWW.out.trans ((hbb.trans (hbU.mono hbb.size)).mono HWW.out.size));have HU1:=hid u1;have HU2:=hid u2;have l1:w.heap.size+1<w2.heap.size:=(Array.getElem?_eq_some_iff.1 q2).1;have hne:Nonempty (Of (fun u:World=>u.heap[w2.heap.size]?=some (.cells #[.slice (some ⟨g,0,none⟩) n n] 24 (0,0))∧u.heap[w.heap.size+1]?=some (.cells #[.slice ap lp cp,.int .i64 nd,.int .i64 of,.int .i64 sz] 61 (0,0)))):=⟨⟨U,u1,u2⟩⟩;have F0:∀u:Of (fun u:World=>u.heap[w2.heap.size]?=some (.cells #[.slice (some ⟨g,0,none⟩) n n] 24 (0,0))∧u.heap[w.heap.size+1]?=some (.cells #[.slice ap lp cp,.int .i64 nd,.int .i64 of,.int .i64 sz] 61 (0,0))),u.val.cell? ⟨w2.heap.size,0,none⟩=some (.slice (some ⟨g,0,none⟩) n n):=fun u=>cell_at u.is.1 rfl
  have F1:∀u:Of (fun u:World=>u.heap[w2.heap.size]?=some (.cells #[.slice (some ⟨g,0,none⟩) n n] 24 (0,0))∧u.heap[w.heap.size+1]?=some (.cells #[.slice ap lp cp,.int .i64 nd,.int .i64 of,.int .i64 sz] 61 (0,0))),u.val.cell? ⟨w.heap.size+1,0,none⟩=some (.slice ap lp cp):=fun u=>cell_at u.is.2 rfl;have F2:∀u:Of (fun u:World=>u.heap[w2.heap.size]?=some (.cells #[.slice (some ⟨g,0,none⟩) n n] 24 (0,0))∧u.heap[w.heap.size+1]?=some (.cells #[.slice ap lp cp,.int .i64 nd,.int .i64 of,.int .i64 sz] 61 (0,0))),u.val.cell? ⟨w.heap.size+1,1,none⟩=some (.int .i64 nd):=fun u=>cell_at u.is.2 rfl
  have F3:∀u:Of (fun u:World=>u.heap[w2.heap.size]?=some (.cells #[.slice (some ⟨g,0,none⟩) n n] 24 (0,0))∧u.heap[w.heap.size+1]?=some (.cells #[.slice ap lp cp,.int .i64 nd,.int .i64 of,.int .i64 sz] 61 (0,0))),u.val.cell? ⟨w.heap.size+1,2,none⟩=some (.int .i64 of):=fun u=>cell_at u.is.2 rfl;have F4:∀u:Of (fun u:World=>u.heap[w2.heap.size]?=some (.cells #[.slice (some ⟨g,0,none⟩) n n] 24 (0,0))∧u.heap[w.heap.size+1]?=some (.cells #[.slice ap lp cp,.int .i64 nd,.int .i64 of,.int .i64 sz] 61 (0,0))),u.val.cell? ⟨w.heap.size+1,3,none⟩=some (.int .i64 sz):=fun u=>cell_at u.is.2 rfl;clear hown hls hbb q2 hbU hszU u1 u2 e1 r0 rf;go_wp2_with fail
  refine region_mixed_last (fun u:World=>u.heap[w2.heap.size]?=some (.cells #[.slice (some ⟨g,0,none⟩) n n] 24 (0,0))∧u.heap[w.heap.size+1]?=some (.cells #[.slice ap lp cp,.int .i64 nd,.int .i64 of,.int .i64 sz] 61 (0,0))) [([0,1,2],3),([],4),([],5)] [6] 7 (by kernel_rfl) (by kernel_rfl) ⟨HU1.out,HU2.out⟩ ?_;refine mixO_cons ?_;repeat(go_big_quiet_step (fail))
  refine wpQuiet_nil ?_;intro K hK;go_wp2_with fail
  have hbUd:Below U.heap.size U U.drew:=⟨rfl,rfl,rfl,Nat.le_refl _,fun _ _=>rfl⟩;refine Calls.mono (bkOwn _ _ _ nd of sz U.drew (HIp.out.up (HBU.out.trans (hbUd.mono HBU.out.size)))) ?_;rintro e w4 ⟨hb4,pv',rfl,hl4,ha4⟩;have h4:Below U.heap.size U w4:=hbUd.trans (hb4.mono hbUd.size);rw[HSzU.out]at h4;have ha5:Above (w2.heap.size+1) pv':=by have h5:Above U.heap.size pv':=ha4;rw[HSzU.out]at h5;exact h5
  have k1:w4.heap[w2.heap.size]?=some (.cells #[.slice (some ⟨g,0,none⟩) n n] 24 (0,0)):=by rw[h4.block _ (by omega)];exact HU1.out
  have k2:w4.heap[w.heap.size+1]?=some (.cells #[.slice ap lp cp,.int .i64 nd,.int .i64 of,.int .i64 sz] 61 (0,0)):=by rw[h4.block _ (by omega)];exact HU2.out
  have H4:=hid h4;have HL4:=hid hl4;have HA4:=hid ha5;have K1:=hid k1;have K2:=hid k2;have l4:w2.heap.size<w4.heap.size:=(Array.getElem?_eq_some_iff.1 k1).1;clear hb4 hl4 ha4 h4 ha5 k1 k2 hbUd;unfold verV;go_wp2;refine⟨rfl,hK _ _ ⟨K1.out,K2.out⟩ ?_⟩;clear hK K;refine mixO_cons (lq:=[]) ?_ rfl;refine wpQuiet_nil ?_;intro K hK;go_wp2;refine⟨rfl,hK _ _ ⟨by rw[Below.heap_alloc _ _ _ l4];exact K1.out,by rw[Below.heap_alloc _ _ _ (by omega)];exact K2.out⟩ ?_⟩;clear hK K;refine mixO_cons (lq:=[]) ?_ rfl;refine wpQuiet_nil ?_;intro K hK;obtain⟨aq,cq,hpv',_,_⟩:=HL4.out;subst hpv';have HCf:=hid (cells_four w4 (.slice aq lp cq) (.int .i64 nd) (.int .i64 of) (.int .i64 sz) 61);have HOn:Hid ((w4.alloc (.cells #[.slice aq lp cq,.int .i64 nd,.int .i64 of,.int .i64 sz] 61)).ownsRow W.heap.size 61 4 (.slice (some ⟨g,0,none⟩) n n) n (flatV n QV b)):=by
   have hb24:Below w2.heap.size w2 w4:=by
    refine Below.trans ?_ (H4.out.mono (by omega));rw[←hU];exact below_alloc _ _
   exact owns_below HOwn.out.1 (hb24.alloc hb24.size _)
  have hWs:W.heap.size≤w4.heap.size:=by omega
  go_wp2_with(at_builtin;go_must(refine wpList_append_own _ rfl (.tmp 23) (.tmp 26) 22 rfl W.heap.size 61 ii (.agg #[.slice none 0 0,.int .i64 0,.int .i64 0,.int .i64 0]) 4 48 Tryz.underlying22 hii hz0 hz1 hz2 rfl (by decide) _ _ _ rfl HOn.out ⟨_,0,none⟩ 1 1 [.slice aq lp cq,.int .i64 nd,.int .i64 of,.int .i64 sz] rfl rfl HCf.out (by intro u hu;simp at hu;rcases hu with rfl|rfl|rfl|rfl<;>rfl) (by unfold maxLen;omega) (by omega) (by simp;omega) ?_;intro v9 w6 ho9 hg9 _;have HO9:=hid ho9;have HG9:=hid hg9;clear ho9 hg9))
  have hsz6:w4.heap.size+1≤w6.heap.size:=by have:=HG9.out.size;simpa using this
  have k6:w6.heap[w2.heap.size]?=some (.cells #[.slice (some ⟨g,0,none⟩) n n] 24 (0,0)):=by
   rw[HG9.out.block _ (by simp;omega) (by intro e;injection e with e;have e2:w2.heap.size=g:=e;omega),Below.heap_alloc _ _ _ l4];exact K1.out
  have k7:w6.heap[w.heap.size+1]?=some (.cells #[.slice ap lp cp,.int .i64 nd,.int .i64 of,.int .i64 sz] 61 (0,0)):=by
   have hlW:w.heap.size+1<W.heap.size:=(Array.getElem?_eq_some_iff.1 HD2.out).1;rw[HG9.out.block _ (by simp;omega) (by intro e;injection e with e;have e2:w.heap.size+1=g:=e;omega),Below.heap_alloc _ _ _ (by omega)];exact K2.out
  refine⟨rfl,hK _ _ ⟨k6,k7⟩ ?_⟩;clear hK K;refine mixO_last ?_;repeat(go_big_quiet_step (fail))
  refine wpQuiet_nil ?_;have A0:Hid (AdInv w (w6.setCell ⟨w2.heap.size,0,none⟩ v9) (n+1) (snocB n b lp X nd of sz) w2.heap.size v9 (snocP n QV (.slice aq lp cq))) :=
   ad_made HWW.out HR0.out HOwn.out HLs.out (by rw[hU];exact H4.out) HL4.out HA4.out HO9.out HG9.out
  have s6:=cell_at (i:=0) k6 rfl;have z6:=frozen_at (i:=0) k6;obtain⟨a9,c9,h9⟩:=owns_sliceV HO9.out;subst h9;have hvs:=A0.out.vsl (by omega);have y0:=cell_at (i:=0) A0.out.book rfl;have HCk:=hid (bkCheck _ (n+1) _ _ _ hvs);unfold bookV at HCk;clear hvs k6 k7 F0 F1 F2 F3 F4;go_wp2_with fail
  refine Calls.mono HCk.out ?_;rintro e w5 ⟨rfl,hb5⟩;have A5:=hid (A0.out.up hb5);have o5:=cell_at (i:=0) A5.out.book rfl;have r5:=cell_at (i:=0) A5.out.res rfl;have rf:=frozen_at (i:=0) A5.out.res;clear hb5;obtain⟨c,hcc⟩:∃c,bookE (n+1) (snocB n b lp X nd of sz)=c:=⟨_,rfl⟩;have HAe:Hid (addE n b (snocB n b lp X nd of sz)=c):=by unfold addE;rw[if_pos HE0.out];exact hcc
  rw[hcc];clear hcc;by_cases hc0:c=0
  ·subst hc0
   go_wp2;refine ret2 (set_one A5.out.res _) Tryz.underlying24 ?_;exact A5.out.ok HAe.out (by omega)
  have hcb:(c != 0)=true:=by simpa using hc0
  have HC0:=hid hc0;clear hc0;go_wp2;refine ret2 (set_one A5.out.res _) Tryz.underlying24 ?_;exact add_err HAe.out HC0.out A5.out.below
 ·have hcb:(c != 0)=true:=by simpa using hc0
  have he:addE n b (snocB n b lp X nd of sz)=c:=by unfold addE;rw[hcc,if_neg hc0]
  have HEr:=hid he;have HNe:=hid hc0;clear he hcc hc0;go_wp2;refine ret2 (set_one HR0.out _) Tryz.underlying24 ?_;exact add_err HEr.out HNe.out HWW.out
end Go.Proofs.YtajmnlhfnhbleaaGreat
