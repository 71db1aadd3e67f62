/- Several texts of one proof, in their order. -/
import Derived.Test.YtajmnlhfnhbleaaGreatRSum40
namespace Go.Proofs.YtajmnlhfnhbleaaGreat
open Go.RowKit Go.Maps CurveMath
set_option linter.unusedVariables false
set_option maxHeartbeats 4000000
set_option maxRecDepth 10000
theorem IntSl.grownA{w w':World}{B g:Nat}{v:Value}{n:Nat}{X:Nat→Int}(h:IntSl w B v n X)(ha:Above (g+1) v)(hg:w.grownBy w' (some g)):IntSl w' B v n X:=by
 obtain⟨ad,cap,rfl,h0,h2⟩:=h;refine⟨ad,cap,rfl,h0,?_⟩;rcases h2 with h2|⟨b,off,rfl,h4,h5⟩;·exact Or.inl h2
 have hb:g+1≤b:=ha _ _ _ rfl;exact Or.inr ⟨b,off,rfl,h4,fun j hj=>hg.cell (h5 j hj) (by intro e;injection e with e;have e2:b=g:=e;omega)⟩
def AddPost'(w:World)(n:Nat)(b b':Bk)(e:Ending)(w':World):Prop :=
 Below w.heap.size w w'∧∃(r:Value) (m:Nat) (PV':Nat→Value),e=.returned (.tuple #[bookV r,.int .i64 (addE n b b')])∧m=(if addE n b b'=0 then n+1 else 0)∧VeSl w' w'.heap.size r m PV' b'
theorem add_err{w w5:World}{n:Nat}{b b':Bk}{c:Int}{u:Value}(he:addE n b b'=c)(hc:c≠0)(hb:Below w.heap.size w w5):AddPost' w n b b' (.returned (.tuple #[.agg #[.slice none 0 0],.int .i64 c])) (w5.setCell ⟨w.heap.size+2,0,none⟩ u):=by
 refine⟨hb.setCell (p:=⟨w.heap.size+2,0,none⟩) (by show w.heap.size≤w.heap.size+2;omega) _,.slice none 0 0,0,fun _=>undef,by rw[he];rfl,by rw[he,if_neg hc],none,0,rfl,⟨Nat.le_refl _,by omega⟩,Or.inl rfl⟩
structure AdInv(w u:World)(n:Nat)(b:Bk)(gm:Nat)(v:Value)(PV:Nat→Value):Prop where
 below:Below w.heap.size w u
 own:u.ownsRow w.heap.size 61 4 v n (flatV n PV b)
 lists:∀j,j<n→IntSl u u.heap.size (PV j) (b.PL j) (b.PX j)∧Above (w.heap.size+3) (PV j)
 book:u.heap[gm]?=some (.cells #[v] 24 (0,0))
 res:u.heap[w.heap.size+2]?=some (.cells #[.slice none 0 0] 24 (0,0))
theorem AdInv.up{w u u':World}{n:Nat}{b:Bk}{gm:Nat}{v:Value}{PV:Nat→Value}(h:AdInv w u n b gm v PV)(hb:Below u.heap.size u u'):AdInv w u' n b gm v PV :=
 ⟨h.below.trans (hb.mono h.below.size),owns_below h.own hb,fun j hj=>⟨(h.lists j hj).1.up hb,(h.lists j hj).2⟩,by rw[hb.block _ (Array.getElem?_eq_some_iff.1 h.book).1];exact h.book,by rw[hb.block _ (Array.getElem?_eq_some_iff.1 h.res).1];exact h.res⟩
theorem AdInv.ok{w u:World}{n:Nat}{b b':Bk}{gm:Nat}{v:Value}{PV:Nat→Value}(h:AdInv w u (n+1) b' gm v PV)(he:addE n b b'=0)(hn:(n+1)*48≤140737488351232):AddPost' w n b b' (.returned (.tuple #[.agg #[v],.int .i64 0])) (u.setCell ⟨w.heap.size+2,0,none⟩ v):=by
 refine⟨h.below.setCell (p:=⟨w.heap.size+2,0,none⟩) (by show w.heap.size≤w.heap.size+2;omega) _,v,n+1,PV,by rw[he];rfl,by rw[he,if_pos rfl],?_⟩;refine rowV_shl (owns_set_other h.own (owns_ne h.own h.res (by decide)) _) hn fun j hj=>?_;have:=(h.lists j hj).1.set (bs:=w.heap.size+2) (h.lists j hj).2 0 v;simpa[World.setCell]using this
theorem AdInv.vsl{w u:World}{n:Nat}{b:Bk}{gm:Nat}{v:Value}{PV:Nat→Value}(h:AdInv w u n b gm v PV)(hn:n*48≤140737488351232):VeSl u u.heap.size v n PV b :=
 rowV_shl h.own hn fun j hj=>(h.lists j hj).1
theorem ad_made{w w1 w2 w4 w6:World}{n lp:Nat}{b:Bk}{X:Nat→Int}{nd of sz:Int}{g:Nat}{PV:Nat→Value}{pv v9:Value}{o:Obj}
 (hB:Below w.heap.size w w1) (hres:w1.heap[w.heap.size+2]?=some (.cells #[.slice none 0 0] 24 (0,0)))
 (hwh:OwnV w1 w2 (.slice (some ⟨g,0,none⟩) n n) n PV b) (hls:∀j,j<n→IntSl w2 w2.heap.size (PV j) (b.PL j) (b.PX j)∧Above (g+1) (PV j))
 (h4:Below (w2.heap.size+1) (w2.alloc (.cells #[.slice (some ⟨g,0,none⟩) n n] 24)) w4) (hpv:IntSl w4 w4.heap.size pv lp X) (hap:Above (w2.heap.size+1) pv)
 (ho:w6.ownsRow w1.heap.size 61 4 v9 (n+1) (flatV n PV b++[pv,.int .i64 nd,.int .i64 of,.int .i64 sz])) (hg:(w4.alloc o).grownBy w6 (some g)) :
 AdInv w (w6.setCell ⟨w2.heap.size,0,none⟩ v9) (n+1) (snocB n b lp X nd of sz) w2.heap.size v9 (snocP n PV pv):=by
 have hg1:w1.heap.size≤g∧g<w2.heap.size:=hwh.1.lt g rfl
 have hr1:w.heap.size+2<w1.heap.size:=(Array.getElem?_eq_some_iff.1 hres).1
 have hb24:Below w2.heap.size w2 w4:=(below_alloc w2 _).trans (h4.mono (by omega))
 have hb25:Below w2.heap.size w2 (w4.alloc o):=hb24.alloc hb24.size _
 have hb15:Below w1.heap.size w1 (w4.alloc o):=hwh.2.trans (hb25.mono hwh.2.size)
 have hb16:Below w1.heap.size w1 w6:=hb15.grown hg hb15.size (fun k hk=>by cases hk;exact hg1.1)
 have hsz6:w2.heap.size<w6.heap.size:=by
  have h1:=h4.size;have h2:=hg.size;simp at h1 h2;omega
 have hm6:w6.heap[w2.heap.size]?=some (.cells #[.slice (some ⟨g,0,none⟩) n n] 24 (0,0)):=by
  have e1:w4.heap[w2.heap.size]?=some (.cells #[.slice (some ⟨g,0,none⟩) n n] 24 (0,0)):=by rw[h4.block _ (Nat.lt_succ_self _)];exact heap_alloc_new _ _
  have l4:=(Array.getElem?_eq_some_iff.1 e1).1;rw[hg.block _ (by simp;omega) (by intro e;injection e with e;omega),Below.heap_alloc _ _ _ l4];exact e1
 have hown:w6.ownsRow w1.heap.size 61 4 v9 (n+1) (flatV (n+1) (snocP n PV pv) (snocB n b lp X nd of sz)):=by
  rw[flatV_succ];have e:flatV n (snocP n PV pv) (snocB n b lp X nd of sz)=flatV n PV b:=flatV_congr fun j hj=>by
   have hne:j≠n:=by omega
   simp[snocP,snocB,hne]
  rw[e];simp only[snocP,snocB,if_true];exact ho
 have hw1:=hB.size
 refine⟨(hB.trans (hb16.mono hw1)).setCell (p:=⟨w2.heap.size,0,none⟩) (by show w.heap.size≤w2.heap.size;omega) _,owns_base (owns_set_other hown (owns_ne hown hm6 (by decide)) _) hw1,fun j hj=>?_,set_one hm6 _,?_⟩
 ·by_cases e:j=n
  ·subst e
   simp only[snocP,snocB,if_true];have h1:=(hpv.up (below_alloc w4 o)).grownA (hap.mono' (by omega)) hg;have h2:=(h1.mono hg.size).set (bs:=w2.heap.size) hap 0 v9;exact⟨by simpa[World.setCell]using h2,hap.mono' (by omega)⟩
  simp only[snocP,snocB,if_neg e];obtain⟨g1,g2⟩:=hls j (by omega);have h1:=(g1.below hb25).grownA g2 hg;have h2:IntSl (w6.setCell ⟨w2.heap.size,0,none⟩ v9) w2.heap.size (PV j) (b.PL j) (b.PX j):=h1.below ((Below.refl w2.heap.size w6).setCell (p:=⟨w2.heap.size,0,none⟩) (Nat.le_refl _) _);exact⟨h2.mono (by simp[World.setCell];omega),g2.mono' (by omega)⟩
 ·rw[Below.heap_setCell _ _ _ _ (by show w.heap.size+2≠w2.heap.size;omega),hb16.block _ hr1]
  exact hres
theorem bkAdd(v:Value)(n:Nat)(PV:Nat→Value)(b:Bk)(pv:Value)(lp:Nat)(X:Nat→Int)(nd of sz:Int)(w:World)(h:VeSl w w.heap.size v n PV b)(hp:IntSl w w.heap.size pv lp X):
 Calls Tryz.prog 80 #[bookV v,verV pv nd of sz] w (AddPost' w n b (snocB n b lp X nd of sz)):=by
 have HV:=hid h
 have HIp:=hid hp
 obtain⟨ad,cap,rfl,⟨hcap,hbig⟩,hx⟩:=h
 obtain⟨ap,cp,rfl,_,_⟩:=hp
 obtain⟨ii,hii,hz0,hz1,hz2⟩:=info_parts Tryz.infoVer
 have hb3:Below w.heap.size w (((w.alloc (.cells #[.slice ad n cap] 24)).alloc (.cells #[.slice ap lp cp,.int .i64 nd,.int .i64 of,.int .i64 sz] 61)).alloc (.cells #[.slice none 0 0] 24)):=((Below.refl _ _).alloc (Nat.le_refl _) _).alloc (by simp) _ |>.alloc (by simp;omega) _
 have c1:(((w.alloc (.cells #[.slice ad n cap] 24)).alloc (.cells #[.slice ap lp cp,.int .i64 nd,.int .i64 of,.int .i64 sz] 61)).alloc (.cells #[.slice none 0 0] 24)).heap[w.heap.size]?=some (.cells #[.slice ad n cap] 24 (0,0)):=by rw[Below.heap_alloc _ _ _ (by simp;omega),Below.heap_alloc _ _ _ (by simp)];exact heap_alloc_new _ _
 have c2:(((w.alloc (.cells #[.slice ad n cap] 24)).alloc (.cells #[.slice ap lp cp,.int .i64 nd,.int .i64 of,.int .i64 sz] 61)).alloc (.cells #[.slice none 0 0] 24)).heap[w.heap.size+1]?=some (.cells #[.slice ap lp cp,.int .i64 nd,.int .i64 of,.int .i64 sz] 61 (0,0)):=by
  rw[Below.heap_alloc _ _ _ (by simp)];have:=heap_alloc_new (w.alloc (.cells #[.slice ad n cap] 24)) (.cells #[.slice ap lp cp,.int .i64 nd,.int .i64 of,.int .i64 sz] 61);simpa using this
 have c3:(((w.alloc (.cells #[.slice ad n cap] 24)).alloc (.cells #[.slice ap lp cp,.int .i64 nd,.int .i64 of,.int .i64 sz] 61)).alloc (.cells #[.slice none 0 0] 24)).heap[w.heap.size+2]?=some (.cells #[.slice none 0 0] 24 (0,0)):=by
  have:=heap_alloc_new ((w.alloc (.cells #[.slice ad n cap] 24)).alloc (.cells #[.slice ap lp cp,.int .i64 nd,.int .i64 of,.int .i64 sz] 61)) (.cells #[.slice none 0 0] 24);simpa using this
 have HCk:=hid (bkCheck _ n PV b _ (HV.out.up hb3))
 obtain⟨c,hcc⟩:∃c,bookE n b=c:=⟨_,rfl⟩
 rw[hcc]at HCk
 have HB3:=hid hb3
 have HC1:=hid c1
 have HC2:=hid c2
 have HC3:=hid c3
 clear hx hb3 c1 c2 c3
 unfold bookV at HCk
 unfold bookV verV
 go_enter Tryz.func80,Tryz.ntmps80
 go_wp2_with fail
 refine Calls.mono HCk.out ?_
 rintro e W ⟨rfl,hbW⟩
 have d1:W.heap[w.heap.size]?=some (.cells #[.slice ad n cap] 24 (0,0)):=by rw[hbW.block _ (Array.getElem?_eq_some_iff.1 HC1.out).1];exact HC1.out
 have d2:W.heap[w.heap.size+1]?=some (.cells #[.slice ap lp cp,.int .i64 nd,.int .i64 of,.int .i64 sz] 61 (0,0)):=by rw[hbW.block _ (Array.getElem?_eq_some_iff.1 HC2.out).1];exact HC2.out
 have d3:W.heap[w.heap.size+2]?=some (.cells #[.slice none 0 0] 24 (0,0)):=by rw[hbW.block _ (Array.getElem?_eq_some_iff.1 HC3.out).1];exact HC3.out
 have HWW:=hid (HB3.out.trans (hbW.mono HB3.out.size))
 have HR0:=hid d3
 have HD2:=hid d2
 have e1:W.cell? ⟨w.heap.size,0,none⟩=some (.slice ad n cap):=cell_at d1 rfl
 have r0:=cell_at (i:=0) d3 rfl
 have rf:=frozen_at (i:=0) d3
 clear hbW HC1 HC2 HC3 HCk d1 d2 d3
 by_cases hc0:c=0
 ·subst hc0
  have HE0:=hid hcc;have hn12:n≤12:=(right_of hcc).le;clear hcc;by_cases h12:n=12
  ·have h12i:((n:Int)==12)=true:=by rw[beq_iff_eq];omega
   have he:addE n b (snocB n b lp X nd of sz)=1:=by unfold addE;rw[HE0.out,if_pos rfl];unfold bookE;rw[if_neg (by omega)]
   have HEr:=hid he;clear he h12;go_wp2;refine ret2 (set_one HR0.out _) Tryz.underlying24 ?_;exact add_err HEr.out (by decide) HWW.out
  have h12i:((n:Int)==12)=false:=by rw[beq_eq_false_iff_ne];omega
  have hn11:n≤11:=by omega
  clear h12;go_wp2_with fail
  refine Calls.mono (bkWhole _ n PV b (by omega) W (HV.out.up HWW.out)) ?_;rintro e w2 ⟨g,QV,rfl,hown,hls⟩;unfold bookV;have HOwn:=hid hown;have HLs:=hid hls;have hbb:=hown.2;have HB2:=hid hbb;have q2:w2.heap[w.heap.size+1]?=some (.cells #[.slice ap lp cp,.int .i64 nd,.int .i64 of,.int .i64 sz] 61 (0,0)):=by rw[hbb.block _ (Array.getElem?_eq_some_iff.1 HD2.out).1];exact HD2.out
  have hgl:W.heap.size≤g∧g<w2.heap.size:=hown.1.lt g rfl;obtain⟨U,hU⟩:∃U,w2.alloc (.cells #[.slice (some ⟨g,0,none⟩) n n] 24)=U:=⟨_,rfl⟩;have hbU:Below w2.heap.size w2 U:=by rw[←hU];exact below_alloc _ _
  have hszU:U.heap.size=w2.heap.size+1:=by rw[←hU];simp
  have HSzU:=hid hszU;have u1:U.heap[w2.heap.size]?=some (.cells #[.slice (some ⟨g,0,none⟩) n n] 24 (0,0)):=by rw[←hU];exact heap_alloc_new _ _
  have u2:U.heap[w.heap.size+1]?=some (.cells #[.slice ap lp cp,.int .i64 nd,.int .i64 of,.int .i64 sz] 61 (0,0)):=by rw[hbU.block _ (Array.getElem?_eq_some_iff.1 q2).1];exact q2
  have HBU:=hid (HWW.out.trans ((hbb.trans (hbU.mono hbb.size)).mono HWW.out.size));have HU1:=hid u1;have HU2:=hid u2;have l1:w.heap.size+1<w2.heap.size:=(Array.getElem?_eq_some_iff.1 q2).1;have hne:Nonempty (Of (fun u:World=>u.heap[w2.heap.size]?=some (.cells #[.slice (some ⟨g,0,none⟩) n n] 24 (0,0))∧u.heap[w.heap.size+1]?=some (.cells #[.slice ap lp cp,.int .i64 nd,.int .i64 of,.int .i64 sz] 61 (0,0)))):=⟨⟨U,u1,u2⟩⟩;have F0:∀u:Of (fun u:World=>u.heap[w2.heap.size]?=some (.cells #[.slice (some ⟨g,0,none⟩) n n] 24 (0,0))∧u.heap[w.heap.size+1]?=some (.cells #[.slice ap lp cp,.int .i64 nd,.int .i64 of,.int .i64 sz] 61 (0,0))),u.val.cell? ⟨w2.heap.size,0,none⟩=some (.slice (some ⟨g,0,none⟩) n n):=fun u=>cell_at u.is.1 rfl
  have F1:∀u:Of (fun u:World=>u.heap[w2.heap.size]?=some (.cells #[.slice (some ⟨g,0,none⟩) n n] 24 (0,0))∧u.heap[w.heap.size+1]?=some (.cells #[.slice ap lp cp,.int .i64 nd,.int .i64 of,.int .i64 sz] 61 (0,0))),u.val.cell? ⟨w.heap.size+1,0,none⟩=some (.slice ap lp cp):=fun u=>cell_at u.is.2 rfl;have F2:∀u:Of (fun u:World=>u.heap[w2.heap.size]?=some (.cells #[.slice (some ⟨g,0,none⟩) n n] 24 (0,0))∧u.heap[w.heap.size+1]?=some (.cells #[.slice ap lp cp,.int .i64 nd,.int .i64 of,.int .i64 sz] 61 (0,0))),u.val.cell? ⟨w.heap.size+1,1,none⟩=some (.int .i64 nd):=fun u=>cell_at u.is.2 rfl
  have F3:∀u:Of (fun u:World=>u.heap[w2.heap.size]?=some (.cells #[.slice (some ⟨g,0,none⟩) n n] 24 (0,0))∧u.heap[w.heap.size+1]?=some (.cells #[.slice ap lp cp,.int .i64 nd,.int .i64 of,.int .i64 sz] 61 (0,0))),u.val.cell? ⟨w.heap.size+1,2,none⟩=some (.int .i64 of):=fun u=>cell_at u.is.2 rfl;have F4:∀u:Of (fun u:World=>u.heap[w2.heap.size]?=some (.cells #[.slice (some ⟨g,0,none⟩) n n] 24 (0,0))∧u.heap[w.heap.size+1]?=some (.cells #[.slice ap lp cp,.int .i64 nd,.int .i64 of,.int .i64 sz] 61 (0,0))),u.val.cell? ⟨w.heap.size+1,3,none⟩=some (.int .i64 sz):=fun u=>cell_at u.is.2 rfl;clear hown hls hbb q2 hbU hszU u1 u2 e1 r0 rf;go_wp2_with fail
  refine region_mixed_last (fun u:World=>u.heap[w2.heap.size]?=some (.cells #[.slice (some ⟨g,0,none⟩) n n] 24 (0,0))∧u.heap[w.heap.size+1]?=some (.cells #[.slice ap lp cp,.int .i64 nd,.int .i64 of,.int .i64 sz] 61 (0,0))) [([0,1,2],3),([],4),([],5)] [6] 7 (by kernel_rfl) (by kernel_rfl) ⟨HU1.out,HU2.out⟩ ?_;refine mixO_cons ?_;repeat(go_big_quiet_step (fail))
  refine wpQuiet_nil ?_;intro K hK;go_wp2_with fail
  have hbUd:Below U.heap.size U U.drew:=⟨rfl,rfl,rfl,Nat.le_refl _,fun _ _=>rfl⟩;refine Calls.mono (bkOwn _ _ _ nd of sz U.drew (HIp.out.up (HBU.out.trans (hbUd.mono HBU.out.size)))) ?_;rintro e w4 ⟨hb4,pv',rfl,hl4,ha4⟩;have h4:Below U.heap.size U w4:=hbUd.trans (hb4.mono hbUd.size);rw[HSzU.out]at h4;have ha5:Above (w2.heap.size+1) pv':=by have h5:Above U.heap.size pv':=ha4;rw[HSzU.out]at h5;exact h5
  have k1:w4.heap[w2.heap.size]?=some (.cells #[.slice (some ⟨g,0,none⟩) n n] 24 (0,0)):=by rw[h4.block _ (by omega)];exact HU1.out
  have k2:w4.heap[w.heap.size+1]?=some (.cells #[.slice ap lp cp,.int .i64 nd,.int .i64 of,.int .i64 sz] 61 (0,0)):=by rw[h4.block _ (by omega)];exact HU2.out
  have H4:=hid h4;have HL4:=hid hl4;have HA4:=hid ha5;have K1:=hid k1;have K2:=hid k2;have l4:w2.heap.size<w4.heap.size:=(Array.getElem?_eq_some_iff.1 k1).1;clear hb4 hl4 ha4 h4 ha5 k1 k2 hbUd;unfold verV;go_wp2;refine⟨rfl,hK _ _ ⟨K1.out,K2.out⟩ ?_⟩;clear hK K;refine mixO_cons (lq:=[]) ?_ rfl;refine wpQuiet_nil ?_;intro K hK;go_wp2;refine⟨rfl,hK _ _ ⟨by rw[Below.heap_alloc _ _ _ l4];exact K1.out,by rw[Below.heap_alloc _ _ _ (by omega)];exact K2.out⟩ ?_⟩;clear hK K;refine mixO_cons (lq:=[]) ?_ rfl;refine wpQuiet_nil ?_;intro K hK;obtain⟨aq,cq,hpv',_,_⟩:=HL4.out;subst hpv';have HCf:=hid (cells_four w4 (.slice aq lp cq) (.int .i64 nd) (.int .i64 of) (.int .i64 sz) 61);have HOn:Hid ((w4.alloc (.cells #[.slice aq lp cq,.int .i64 nd,.int .i64 of,.int .i64 sz] 61)).ownsRow W.heap.size 61 4 (.slice (some ⟨g,0,none⟩) n n) n (flatV n QV b)):=by
   have hb24:Below w2.heap.size w2 w4:=by
    refine Below.trans ?_ (H4.out.mono (by omega));rw[←hU];exact below_alloc _ _
   exact owns_below HOwn.out.1 (hb24.alloc hb24.size _)
  have hWs:W.heap.size≤w4.heap.size:=by omega
  go_wp2_with(at_builtin;go_must(refine wpList_append_own _ rfl (.tmp 23) (.tmp 26) 22 rfl W.heap.size 61 ii (.agg #[.slice none 0 0,.int .i64 0,.int .i64 0,.int .i64 0]) 4 48 Tryz.underlying22 hii hz0 hz1 hz2 rfl (by decide) _ _ _ rfl HOn.out ⟨_,0,none⟩ 1 1 [.slice aq lp cq,.int .i64 nd,.int .i64 of,.int .i64 sz] rfl rfl HCf.out (by intro u hu;simp at hu;rcases hu with rfl|rfl|rfl|rfl<;>rfl) (by unfold maxLen;omega) (by omega) (by simp;omega) ?_;intro v9 w6 ho9 hg9 _;have HO9:=hid ho9;have HG9:=hid hg9;clear ho9 hg9))
  have hsz6:w4.heap.size+1≤w6.heap.size:=by have:=HG9.out.size;simpa using this
  have k6:w6.heap[w2.heap.size]?=some (.cells #[.slice (some ⟨g,0,none⟩) n n] 24 (0,0)):=by
   rw[HG9.out.block _ (by simp;omega) (by intro e;injection e with e;have e2:w2.heap.size=g:=e;omega),Below.heap_alloc _ _ _ l4];exact K1.out
  have k7:w6.heap[w.heap.size+1]?=some (.cells #[.slice ap lp cp,.int .i64 nd,.int .i64 of,.int .i64 sz] 61 (0,0)):=by
   have hlW:w.heap.size+1<W.heap.size:=(Array.getElem?_eq_some_iff.1 HD2.out).1;rw[HG9.out.block _ (by simp;omega) (by intro e;injection e with e;have e2:w.heap.size+1=g:=e;omega),Below.heap_alloc _ _ _ (by omega)];exact K2.out
  refine⟨rfl,hK _ _ ⟨k6,k7⟩ ?_⟩;clear hK K;refine mixO_last ?_;repeat(go_big_quiet_step (fail))
  refine wpQuiet_nil ?_;have A0:Hid (AdInv w (w6.setCell ⟨w2.heap.size,0,none⟩ v9) (n+1) (snocB n b lp X nd of sz) w2.heap.size v9 (snocP n QV (.slice aq lp cq))) :=
   ad_made HWW.out HR0.out HOwn.out HLs.out (by rw[hU];exact H4.out) HL4.out HA4.out HO9.out HG9.out
  have s6:=cell_at (i:=0) k6 rfl;have z6:=frozen_at (i:=0) k6;obtain⟨a9,c9,h9⟩:=owns_sliceV HO9.out;subst h9;have hvs:=A0.out.vsl (by omega);have y0:=cell_at (i:=0) A0.out.book rfl;have HCk:=hid (bkCheck _ (n+1) _ _ _ hvs);unfold bookV at HCk;clear hvs k6 k7 F0 F1 F2 F3 F4;go_wp2_with fail
  refine Calls.mono HCk.out ?_;rintro e w5 ⟨rfl,hb5⟩;have A5:=hid (A0.out.up hb5);have o5:=cell_at (i:=0) A5.out.book rfl;have r5:=cell_at (i:=0) A5.out.res rfl;have rf:=frozen_at (i:=0) A5.out.res;clear hb5;obtain⟨c,hcc⟩:∃c,bookE (n+1) (snocB n b lp X nd of sz)=c:=⟨_,rfl⟩;have HAe:Hid (addE n b (snocB n b lp X nd of sz)=c):=by unfold addE;rw[if_pos HE0.out];exact hcc
  rw[hcc];clear hcc;by_cases hc0:c=0
  ·subst hc0
   go_wp2;refine ret2 (set_one A5.out.res _) Tryz.underlying24 ?_;exact A5.out.ok HAe.out (by omega)
  have hcb:(c != 0)=true:=by simpa using hc0
  have HC0:=hid hc0;clear hc0;go_wp2;refine ret2 (set_one A5.out.res _) Tryz.underlying24 ?_;exact add_err HAe.out HC0.out A5.out.below
 ·have hcb:(c != 0)=true:=by simpa using hc0
  have he:addE n b (snocB n b lp X nd of sz)=c:=by unfold addE;rw[hcc,if_neg hc0]
  have HEr:=hid he;have HNe:=hid hc0;clear he hcc hc0;go_wp2;refine ret2 (set_one HR0.out _) Tryz.underlying24 ?_;exact add_err HEr.out HNe.out HWW.out
theorem meshN_out{w w1 w':World}{er:Int}{n:Nat}{b:Bk}{np:Nat}{P:Ps}{vb vl:Value}(hb:Below w.heap.size w w1)(h:MeshPostN w1 er n b np P (.returned (.tuple #[.agg #[vb,vl],.int .i64 er])) w'){g:Nat}{T:TypeId}{a0 a1:Option Addr}{n0 c0 n1 c1:Nat}(hg:w'.heap[g]?=some (.cells #[.slice a0 n0 c0,.slice a1 n1 c1] T (0,0)))(hwg:w.heap.size≤g):
 MeshPostN w er n b np P (.returned (.tuple #[.agg #[vb,vl],.int .i64 er])) (put2 w' g vb vl):=by
 obtain⟨h1,vb',vl',n',np',PV,KV,UV,e,h2,h3,h4,h5,h6,hvo⟩:=h
 injection e with e
 injection e with e
 have e1 : #[Value.agg #[vb,vl],.int .i64 er]=#[meshV vb' vl',.int .i64 er]:=e
 unfold meshV at e1
 simp at e1
 obtain⟨rfl,rfl⟩:=e1
 refine⟨put2_below (hb.trans (h1.mono hb.size)) hwg,vb,vl,n',np',PV,KV,UV,rfl,h2,h3,?_,ps_put2 hg h5 _ _,?_,fun s hs=>hvo s (Nat.lt_of_lt_of_le hs hb.size)⟩
 ·have h4':=h4
  obtain⟨a,c,rfl,_⟩:=h4';exact ve_put2 hg h4 _
 ·have h7:NewP w.heap.size w' vl np' KV UV P:=⟨h6.1.mono hb.size,fun k hk=>⟨(h6.2 k hk).1.mono hb.size,fun i hi=>((h6.2 k hk).2 i hi).imp id fun h=>h.mono hb.size⟩⟩
  unfold put2;exact(h7.setS _ _).setS _ _
theorem meshW_out{w w1 w':World}{er:Int}{n:Nat}{b:Bk}{np:Nat}{P:Ps}{C:Prop}{ver:Int}{vb vl:Value}(hb:Below w.heap.size w w1)(h:MeshPostW w1 er n b np P C ver (.returned (.tuple #[.agg #[vb,vl],.int .i64 er])) w'){g:Nat}{T:TypeId}{a0 a1:Option Addr}{n0 c0 n1 c1:Nat}(hg:w'.heap[g]?=some (.cells #[.slice a0 n0 c0,.slice a1 n1 c1] T (0,0)))(hwg:w.heap.size≤g):
 MeshPostW w er n b np P C ver (.returned (.tuple #[.agg #[vb,vl],.int .i64 er])) (put2 w' g vb vl):=by
 obtain⟨h1,vb',vl',n',np',PV,KV,UV,e,h2,h3,h4,h5,h6,h9,hvo⟩:=h
 injection e with e
 injection e with e
 have e1 : #[Value.agg #[vb,vl],.int .i64 er]=#[meshV vb' vl',.int .i64 er]:=e
 unfold meshV at e1
 simp at e1
 obtain⟨rfl,rfl⟩:=e1
 refine⟨put2_below (hb.trans (h1.mono hb.size)) hwg,vb,vl,n',np',PV,KV,UV,rfl,h2,h3,?_,ps_put2 hg h5 _ _,?_,h9,fun s hs=>hvo s (Nat.lt_of_lt_of_le hs hb.size)⟩
 ·have h4':=h4
  obtain⟨a,c,rfl,_⟩:=h4';exact ve_put2 hg h4 _
 ·have h7:NewP w.heap.size w' vl np' KV UV P:=⟨h6.1.mono hb.size,fun k hk=>⟨(h6.2 k hk).1.mono hb.size,fun i hi=>((h6.2 k hk).2 i hi).imp id fun h=>h.mono hb.size⟩⟩
  unfold put2;exact(h7.setS _ _).setS _ _
theorem msSave(vb:Value)(n:Nat)(PV:Nat→Value)(b:Bk)(vl:Value)(np:Nat)(KV:Nat→Value)(UV:Nat→Nat→Value)(P:Ps)(vd:Value)(len:Nat)(D:Nat→Int)(vp:Value)(lp:Nat)(X:Nat→Int)(need of:Int)(w:World)
 (hv:VeSl w w.heap.size vb n PV b) (hl:PsSl w w.heap.size vl np KV UV P) (hd:IntSl w w.heap.size vd len D) (hp:IntSl w w.heap.size vp lp X) :
 Calls Tryz.prog 37 #[meshV vb vl,vd,vp,.int .i64 need,.int .i64 of] w (MeshPostW w (saveE n b np P need of len D lp X) (n+1) (saveB n b need of len lp X) np (saveP n np P need of len D) (NoneOf P np (n:Int)) (n:Int)):=by
 have hb0:=((Below.refl w.heap.size w).alloc (Nat.le_refl _) (.cells #[vb,vl] 27)).alloc (by simp) (.cells #[.slice none 0 0,.slice none 0 0] 27)
 have k1:=heap_two_old w (.cells #[vb,vl] 27) (.cells #[.slice none 0 0,.slice none 0 0] 27)
 have k2:=heap_two_new w (.cells #[vb,vl] 27) (.cells #[.slice none 0 0,.slice none 0 0] 27)
 obtain⟨W0,hW0⟩:∃W,(w.alloc (.cells #[vb,vl] 27)).alloc (.cells #[.slice none 0 0,.slice none 0 0] 27)=W:=⟨_,rfl⟩
 rw[hW0]at hb0 k1 k2
 have HV:=hid hv
 have HL:=hid hl
 have HDt:=hid hd
 have HPa:=hid hp
 obtain⟨ad,cap0,rfl,⟨_,hbv⟩,_⟩:=hv
 obtain⟨al,cl,rfl,_,_⟩:=hl
 obtain⟨adt,cdt,rfl,⟨_,hbd⟩,_⟩:=hd
 obtain⟨apa,cpa,rfl,_,_⟩:=hp
 have CK:=hid (msCheck _ n PV b _ np KV UV P W0 (HV.out.up hb0) (HL.out.up hb0))
 obtain⟨er,her⟩:∃c,saveE n b np P need of len D lp X=c:=⟨_,rfl⟩
 rw[her]
 unfold saveE at her
 obtain⟨c,hc⟩:∃c,peersE n b np P=c:=⟨_,rfl⟩
 rw[hc]at CK her
 have HC:=hid hc
 have HEr:=hid her
 obtain⟨m0,m1⟩:=two_at k1
 have B0:=hid hb0
 have K1:=hid k1
 have K2:=hid k2
 clear hb0 k1 k2 hc her
 unfold meshV at CK
 unfold meshV
 go_enter Tryz.func37,Tryz.ntmps37
 go_wp2_with fail
 refine Calls.mono CK.out ?_
 rintro e W ⟨rfl,hbW⟩
 have B1:=hid (B0.out.trans (hbW.mono B0.out.size))
 have d1:=stayB K1.out hbW
 have d2:=stayB K2.out hbW
 have D1:=hid d1
 have D2:=hid d2
 clear hbW m0 m1 CK hW0
 by_cases h0:c=0
 ·subst h0
  have hE1:=HEr.out;rw[if_pos rfl]at hE1;have HE1:=hid hE1;have hbP:=below_alloc W (.cells #[.int .i64 need,.int .i64 of,.int .i64 (len:Int)] 59);have kp:=heap_alloc_new W (.cells #[.int .i64 need,.int .i64 of,.int .i64 (len:Int)] 59);obtain⟨W1,hW1⟩:∃W',W.alloc (.cells #[.int .i64 need,.int .i64 of,.int .i64 (len:Int)] 59)=W':=⟨_,rfl⟩;rw[hW1]at hbP kp;have B2:=hid (B1.out.trans (hbP.mono B1.out.size));have D1:=hid (stayB d1 hbP);have D2:=hid (stayB d2 hbP);have KP:=hid kp;have CSp:=hid (owes.split need of (len:Int) _ len D W1 (HDt.out.up B2.out));unfold planV at CSp;obtain⟨p0,p1,p2⟩:=three_at kp;clear d1 d2 hE1 hbP kp;go_wp2_with fail
  refine Calls.mono CSp.out ?_;rintro e W2 ⟨hb2,vs,cnt,SV,rfl,hcnt,hsh,_,_⟩;have B3:=hid (B2.out.trans (hb2.mono B2.out.size));have d1:=stayB D1.out hb2;have d2:=stayB D2.out hb2;have kp:=stayB KP.out hb2;have D1:=hid d1;have D2:=hid d2;have HSh:=hid hsh;obtain⟨ash,csh,rfl,_,_⟩:=hsh;obtain⟨c2,hc2⟩:∃c,splitE need of (len:Int) len D=c:=⟨_,rfl⟩;have hE1:=HE1.out;rw[hc2]at hE1 hcnt;rw[hc2];have HC2:=hid hc2;clear hb2 p0 p1 p2 CSp hc2 hW1;by_cases h2:c2=0
  ·subst h2
   rw[if_pos rfl]at hE1 hcnt;have HE2:=hid hE1;have HCnt:=hid hcnt;obtain⟨m0,m1⟩:=two_at d1;obtain⟨p0,p1,p2⟩:=three_at kp;have CA:=hid (bkAdd _ n PV b _ lp X need of (len:Int) W2 (HV.out.up B3.out) (HPa.out.up B3.out));unfold bookV verV at CA;clear d1 d2 hE1 hcnt kp;go_wp2_with fail
   refine Calls.mono CA.out ?_;rintro e W3 ⟨hb3,rb,nb,QV,rfl,hnb,hvb⟩;unfold bookV;have HVb3:=hid hvb;obtain⟨ab,cb,rfl,_,_⟩:=hvb;have hb34:=below_alloc W3 (.cells #[.slice ab nb cb] 24);have kb:=heap_alloc_new W3 (.cells #[.slice ab nb cb] 24);obtain⟨W4,hW4⟩:∃u,World.alloc W3 (.cells #[.slice ab nb cb] 24)=u:=⟨_,rfl⟩;rw[hW4]at hb34 kb;have hb4:=hb3.trans (hb34.mono hb3.size);have B4:=hid (B3.out.trans (hb4.mono B3.out.size));have D14:=hid (stayB D1.out hb4);have D24:=hid (stayB D2.out hb4);have HSh4:=hid (HSh.out.up hb4);have HVb:=hid (HVb3.out.up hb34);have hR:=meshR_of HC.out;have hae:addE n b (snocB n b lp X need of (len:Int))=bookE (n+1) (saveB n b need of len lp X):=by unfold addE saveB;rw[if_pos hR.book]
   rw[hae]at hnb;have HR:=hid hR;obtain⟨c3,hc3⟩:∃c,bookE (n+1) (saveB n b need of len lp X)=c:=⟨_,rfl⟩;have hE2:=HE2.out;rw[hc3]at hE2 hnb;rw[hae,hc3];have HC3:=hid hc3;clear m0 m1 p0 p1 p2;obtain⟨m0,m1⟩:=two_at D14.out;have b0:W4.cell? ⟨W3.heap.size,0,none⟩=some (.slice ab nb cb):=cell_at kb rfl;obtain⟨r1,r2⟩:=two_at D24.out;have f1:=frozen_at (i:=0) D24.out;have f2:=frozen_at (i:=1) D24.out;clear hb3 hb34 hb4 hR CA hae hc3 kb;by_cases h3:c3=0
   ·subst h3
    rw[if_pos rfl]at hE2 hnb;subst hnb;have HE3:=hid hE2;obtain⟨hpl,_,_⟩:=splitE_ok HC2.out;have hofp:=(planOk_spec hpl).2.1;have hndp:=(planOk_spec hpl).1;have hof:(cnt:Int)=of:=HCnt.out;have hofn:of.toNat=cnt:=by omega
    have CG:=hid (msSpread _ (n+1) _ (saveB n b need of len lp X) _ np KV UV P (n:Int) _ cnt (fun k=>(k:Int)) SV (fun _=>rowsN need (len:Int)) (fun k i=>shv need.toNat len D k i) W4 HVb.out (HL.out.up B4.out) HSh4.out (HR.out.snoc HC3.out) ⟨by omega,by omega⟩ (fun j hj=>by
     have e1:(saveB n b need of len lp X).nd (n:Int).toNat=need:=by simp[saveB,snocB]
     have e2:(saveB n b need of len lp X).of (n:Int).toNat=of:=by simp[saveB,snocB]
     have e3:(saveB n b need of len lp X).sz (n:Int).toNat=(len:Int):=by simp[saveB,snocB]
     rw[e1,e2,e3];exact split_right HC2.out (by omega)))
    have hsv:giveP P (n:Int) (forA P (n:Int) np cnt) (fun k=>(k:Int)) (fun _=>rowsN need (len:Int)) (fun k i=>shv need.toNat len D k i) cnt=saveP n np P need of len D:=by unfold saveP;rw[hofn]
    rw[hsv,hof,HE3.out]at CG;unfold meshV at CG;clear hE2 hpl hofp hndp hof hofn hsv;go_wp2_with fail
    refine Calls.mono CG.out ?_;rintro e W5 hM;have HM:=hid hM;obtain⟨hb5,gb,gl,n5,np5,PV5,KV5,UV5,rfl,hn5,hnp5,hv5,hl5,_⟩:=hM;clear hn5 hnp5;obtain⟨a5,c5,rfl,_,_⟩:=hv5;obtain⟨a6,c6,rfl,_,_⟩:=hl5;unfold meshV at HM;have o5:=stayB D24.out hb5;have HO5:=hid o5;clear r1 r2 f1 f2;obtain⟨r1,r2⟩:=two_at o5;have f1:=frozen_at (i:=0) o5;have f2:=frozen_at (i:=1) o5;unfold meshV;clear hb5 o5;go_wp2;refine ret2 (put2_whole HO5.out _ _) Tryz.underlying27 ?_;exact meshW_out B4.out HM.out HO5.out (by omega)
   have hcb:(c3 != 0)=true:=by simpa using h3
   rw[if_neg h3]at hE2;have H3:=hid h3;have HE3:=hid hE2;clear h3 hE2 hnb;go_wp2;refine ret2 (put2_whole D24.out _ _) Tryz.underlying27 ?_;rw[←HE3.out];exact meshW_none (put2_below B4.out (by omega)) H3.out
  have hcb:(c2 != 0)=true:=by simpa using h2
  rw[if_neg h2]at hE1;have H2:=hid h2;have HE2:=hid hE1;obtain⟨r1,r2⟩:=two_at d2;have f1:=frozen_at (i:=0) d2;have f2:=frozen_at (i:=1) d2;clear h2 d1 d2 kp hE1 hcnt;go_wp2;refine ret2 (put2_whole D2.out _ _) Tryz.underlying27 ?_;rw[←HE2.out];exact meshW_none (put2_below B3.out (by omega)) H2.out
 ·have hcb:(c != 0)=true:=by simpa using h0
  have H0:=hid h0;have hE1:=HEr.out;rw[if_neg h0]at hE1;have HE1:=hid hE1;obtain⟨r1,r2⟩:=two_at d2;have f1:=frozen_at (i:=0) d2;have f2:=frozen_at (i:=1) d2;clear h0 d1 d2 hE1;go_wp2;refine ret2 (put2_whole D2.out _ _) Tryz.underlying27 ?_;rw[←HE1.out];exact meshW_none (put2_below B1.out (by omega)) H0.out
theorem msRepair(vb:Value)(n:Nat)(PV:Nat→Value)(b:Bk)(vl:Value)(np:Nat)(KV:Nat→Value)(UV:Nat→Nat→Value)(P:Ps)(k:Int)(w:World)(hv:VeSl w w.heap.size vb n PV b)(hl:PsSl w w.heap.size vl np KV UV P):
 Calls Tryz.prog 38 #[meshV vb vl,.int .i64 k] w (MeshPostN w (mendE n b np P k) n b np (mendP b np P k)):=by
 have hb0:=((Below.refl w.heap.size w).alloc (Nat.le_refl _) (.cells #[vb,vl] 27)).alloc (by simp) (.cells #[.slice none 0 0,.slice none 0 0] 27)
 have k1:=heap_two_old w (.cells #[vb,vl] 27) (.cells #[.slice none 0 0,.slice none 0 0] 27)
 have k2:=heap_two_new w (.cells #[vb,vl] 27) (.cells #[.slice none 0 0,.slice none 0 0] 27)
 obtain⟨W0,hW0⟩:∃W,(w.alloc (.cells #[vb,vl] 27)).alloc (.cells #[.slice none 0 0,.slice none 0 0] 27)=W:=⟨_,rfl⟩
 rw[hW0]at hb0 k1 k2
 have HV:=hid hv
 have HL:=hid hl
 obtain⟨ad,cap0,rfl,_,hxv⟩:=hv
 obtain⟨al,cl,rfl,_,_⟩:=hl
 have CR:=hid (msRestore _ n PV b _ np KV UV P k W0 (HV.out.up hb0) (HL.out.up hb0))
 obtain⟨er,her⟩:∃c,mendE n b np P k=c:=⟨_,rfl⟩
 rw[her]
 unfold mendE at her
 have HEr:=hid her
 obtain⟨m0,m1⟩:=two_at k1
 have B0:=hid hb0
 have K1:=hid k1
 have K2:=hid k2
 have HXv:=hid hxv
 clear hb0 k1 k2 her hxv
 unfold meshV at CR
 unfold meshV
 go_enter Tryz.func38,Tryz.ntmps38
 go_wp2_with fail
 refine Calls.mono CR.out ?_
 rintro e W ⟨hbW,vd,vbad,ld,rfl,hld,hvd,hbad⟩
 have B1:=hid (B0.out.trans (hbW.mono B0.out.size))
 have d1:=stayB K1.out hbW
 have d2:=stayB K2.out hbW
 have D1:=hid d1
 have D2:=hid d2
 have HVd:=hid hvd
 obtain⟨adt,cdt,rfl,_,_⟩:=hvd
 obtain⟨abd,cbd,rfl,_,_⟩:=hbad
 obtain⟨c,hc⟩:∃c,rsE n b np P k=c:=⟨_,rfl⟩
 have hE1:=HEr.out
 rw[hc]at hE1 hld
 rw[hc]
 have HC:=hid hc
 clear hbW m0 m1 CR hc hW0
 by_cases h0:c=0
 ·subst h0
  rw[if_pos rfl]at hE1 hld;have HE1:=hid hE1;obtain⟨hver,d,mo,sN,e1,e2,e3,hpl⟩:=rsE_ok HC.out;obtain⟨hR,hk0,hkn⟩:=verM_ok hver;obtain⟨q,rfl⟩:∃q:Nat,k=q:=⟨k.toNat,by omega⟩;rw[Int.toNat_natCast]at e1 e2 e3 hld;have hqn:q<n:=by omega
  have hki:(q:Int)<(n:Int):=by omega
  have hls:ld=sN:=by rw[e3]at hld;omega
  subst hls;have HR:=hid hR;have HPl:=hid hpl;have hps:=planOk_spec hpl;have HNd:=hid e1;have HOf:=hid e2;have HSz:=hid e3;rcases HXv.out with h0|⟨bv,ov,rfl,hbv,hxv⟩;·omega
  obtain⟨_,v1,v2,v3,_⟩:=hxv q hqn;rw[e1]at v1;rw[e2]at v2;rw[e3]at v3;have q1:W.cell? ⟨bv,ov+q*4+1,none⟩=some (.int .i64 (d:Int)):=by rw[B1.out.cell hbv];exact v1
  have q2:W.cell? ⟨bv,ov+q*4+2,none⟩=some (.int .i64 (mo:Int)):=by rw[B1.out.cell hbv];exact v2
  have q3:W.cell? ⟨bv,ov+q*4+3,none⟩=some (.int .i64 (ld:Int)):=by rw[B1.out.cell hbv];exact v3
  obtain⟨m0,m1⟩:=two_at d1;have CSp:=hid (owes.split (d:Int) (mo:Int) (ld:Int) _ ld (rsD b np P (q:Int)) W HVd.out);rw[split_ok hpl (fun j=>rsD_num b np P (q:Int) j)]at CSp;unfold planV at CSp;clear d1 d2 hE1 hxv v1 v2 v3 hld hver hR hpl e1 e2 e3;go_wp2_with fail
  refine Calls.mono CSp.out ?_;rintro e W2 ⟨hb2,vs,cnt,SV,rfl,hcnt,hsh,_,_⟩;rw[if_pos trivial]at hcnt;obtain rfl:cnt=mo:=by omega
  obtain⟨R,hRr⟩:∃R:Nat,rowsN (d:Int) (ld:Int)=R:=⟨_,rfl⟩;obtain⟨S,hSs⟩:∃S,rsS b np P (q:Int)=S:=⟨_,rfl⟩;have hsx:(fun(j:Nat) (r:Nat)=>shv (d:Int).toNat ld (rsD b np P (q:Int)) j r)=S:=by
   rw[←hSs];funext j r;unfold rsS;simp only[Int.toNat_natCast];rw[HNd.out,HSz.out];simp only[Int.toNat_natCast]
  rw[hsx,hRr]at hsh;have B2:=hid (B1.out.trans (hb2.mono B1.out.size));have d1:=stayB D1.out hb2;have D21:=hid d1;have D22:=hid (stayB D2.out hb2);have HSh:=hid hsh;obtain⟨ash,csh,rfl,_,_⟩:=hsh;have hNl:∀i,i<np→hasK P (q:Int) i=true→numK P (q:Int) i<(cnt:Int):=fun i hi hh=>by
   obtain⟨_,h1,h2⟩:=hasK_at hh;have h3:=((HR.out.peer i hi).right _ h1).2;unfold oneK at h3;rw[h2,Int.toNat_natCast,HNd.out,HOf.out,HSz.out]at h3;exact(oneE_ok h3).2.1.2
  have CSf:=hid (msSift _ n PV b _ np KV UV P (q:Int) _ cnt R SV S W2 (HV.out.up B2.out) (HL.out.up B2.out) HSh.out HR.out (by omega) hNl);have HRr:=hid hRr;have HSs:=hid hSs;clear m0 m1;obtain⟨m0,m1⟩:=two_at d1;unfold meshV at CSf;clear hb2 CSp q1 q2 q3 hsx d1 hNl hRr hSs hcnt;go_wp2_with fail
  refine Calls.mono CSf.out ?_;rintro e W3 ⟨hb3,vl2,vo,LV,VV,SV2,rfl,hl2,hs2⟩;have B3:=hid (B2.out.trans (hb3.mono B2.out.size));have d1:=stayB D21.out hb3;have D32:=hid (stayB D22.out hb3);have HL2:=hid hl2;have HS2:=hid hs2;obtain⟨al2,cl2,rfl,_,_⟩:=hl2;obtain⟨as2,cs2,rfl,_,_⟩:=hs2;clear m0 m1;obtain⟨m0,m1⟩:=two_at d1;have hof:lackK (repS P (q:Int) R S np) cnt=lackL P (q:Int) R S np cnt:=rfl;obtain⟨L,hL⟩:∃L,lackK (repS P (q:Int) R S np) cnt=L:=⟨_,rfl⟩;have hLlt:∀i,i<L.length→L.getD i 0<cnt:=fun i hi=>by rw[←hL]at hi ⊢;exact lackK_lt (getD_in (d:=0) hi)
  rw[hL]at HS2 hof;rw[hL];have CG:=hid (msSpread _ n PV b _ np LV VV (repP P (q:Int) R S np) (q:Int) _ L.length (fun i=>((L.getD i 0:Nat):Int)) SV2 (fun _=>R) (fun i=>S (L.getD i 0)) W3 (HV.out.up B3.out) HL2.out HS2.out (HR.out.rep (q:Int) R S np) ⟨by omega,by omega⟩ (fun i hi=>by
   rw[Int.toNat_natCast,HNd.out,HOf.out,HSz.out];have hlt9:=hLlt i hi;unfold oneE;rw[if_pos HPl.out,if_pos ⟨by omega,by omega⟩,if_pos (by rw[HRr.out]),if_pos];unfold numsB;refine decide_eq_true fun r _=>?_;rw[←HSs.out];unfold rsS isNum;exact decide_eq_true (shv_num _ _ _ _ _)))
  have hE9:manyE (repP P (q:Int) R S np) (q:Int) np (L.length:Int)=er:=by
   have h9:=HE1.out;rw[Int.toNat_natCast,HNd.out,HOf.out,HSz.out,HRr.out,HSs.out,Int.toNat_natCast]at h9;unfold fillE at h9;rw[hof];exact h9
  have hP9:giveP (repP P (q:Int) R S np) (q:Int) (forA (repP P (q:Int) R S np) (q:Int) np L.length) (fun i=>((L.getD i 0:Nat):Int)) (fun _=>R) (fun i=>S (L.getD i 0)) L.length=mendP b np P (q:Int):=by
   unfold mendP fillP;rw[Int.toNat_natCast,HNd.out,HOf.out,HSz.out,HRr.out,HSs.out,Int.toNat_natCast,hof]
  rw[hE9,hP9]at CG;unfold meshV at CG;clear hof hE9 hP9 hLlt hL hb3 d1 CSf;go_wp2_with fail
  refine Calls.mono CG.out ?_;rintro e W5 hM;replace hM:=hM.n;have HM:=hid hM;obtain⟨hb5,gb,gl,n5,np5,PV5,KV5,UV5,rfl,hn5,hnp5,hv5,hl5,_⟩:=hM;clear hn5 hnp5;obtain⟨a5,c5,rfl,_,_⟩:=hv5;obtain⟨a6,c6,rfl,_,_⟩:=hl5;unfold meshV at HM;have o5:=stayB D32.out hb5;have HO5:=hid o5;obtain⟨r1,r2⟩:=two_at o5;have f1:=frozen_at (i:=0) o5;have f2:=frozen_at (i:=1) o5;unfold meshV;clear hb5 o5 m0 m1;go_wp2;refine ret2 (put2_whole HO5.out _ _) Tryz.underlying27 ?_;exact meshN_out B3.out HM.out HO5.out (by omega)
 ·have hcb:(c != 0)=true:=by simpa using h0
  rw[if_neg h0]at hE1;have H0:=hid h0;have HE1:=hid hE1;obtain⟨r1,r2⟩:=two_at d2;have f1:=frozen_at (i:=0) d2;have f2:=frozen_at (i:=1) d2;clear h0 d1 d2 hE1 hld;go_wp2;refine ret2 (put2_whole D2.out _ _) Tryz.underlying27 ?_;rw[←HE1.out];exact meshN_none (put2_below B1.out (by omega)) H0.out
theorem meshCore:MeshCore where
 check:=msCheck
 new:=fun vr len X w h hl=>msNew vr len X w h hl
 restore:=msRestore
 save:=fun vb n PV b vl np KV UV P vd len D vp lp X need of w hv hl hd hp=>(msSave vb n PV b vl np KV UV P vd len D vp lp X need of w hv hl hd hp).mono fun e w' h=>h.n
 repair:=msRepair
theorem meshOwes:MeshOwes where
 toMeshCore:=meshCore
 same:=fun w vb vl vb' vl' n n' np np' PV PV' KV KV' UV UV' b b' P P' hv hl hv' hl'=>msSame hv hl hv' hl'
end Go.Proofs.YtajmnlhfnhbleaaGreat
