/- Several texts of one proof, in their order. -/
import Derived.Test.YtajmnlhfnhbleaaGreatKw0
import Derived.Test.YtajmnlhfnhbleaaGreatWorldPartsPart1
namespace Go.Proofs.YtajmnlhfnhbleaaGreat
open Go.RowKit
set_option linter.unusedVariables false
set_option maxHeartbeats 2000000
set_option maxRecDepth 10000
theorem Tryz.infoErrC:(Tryz.prog.info? 31).map (fun i=>(i.zero,i.size,i.bytes))=some (some (.int .i64 0),1,8):=by kernel_rfl
theorem growErr_any(n:Nat)(hn:n≤1000)(w:World):
 Calls Tryz.prog 69 #[.slice none 0 0,.int .i64 n] w fun e w'=>∃v,e=.returned v∧w'.ownsRow w.heap.size 31 1 v 0 []∧Below w.heap.size w w':=by
 by_cases h0:n=0
 ·subst h0
  go_enter Tryz.func69,Tryz.ntmps69;go_wp2;go_ret;exact⟨_,rfl,⟨rfl,Or.inl ⟨rfl,rfl⟩⟩,Below.refl _ _⟩
 ·obtain⟨ii,hi,hz0,hz1,hz2⟩:=info_parts Tryz.infoErrC
  have h:=Any8.slices_Grow_grow Tryz.growErr ii (.int .i64 0) hi hz0 (by rw[hz1];decide) none 0 0 n [] w (Nat.le_refl _) (by omega) (by rw[hz2];omega) (by omega) (by simp) (fun _=>rfl) (fun a ha=>by cases ha);refine Calls.mono h ?_;rintro e w' ⟨rfl,rfl⟩;refine⟨_,rfl,?_,?_⟩
  ·refine World.ownsRow_made w.drew _ _ (Nat.le_refl _) (grownCap_le_maxLen w _ _ _ (by unfold maxLen;omega)) ?_
   have hge:=grownCap_ge w (0+n) 0 31;have hzc:(Value.int .i64 0).cells.size=1:=rfl;simp only[Array.size_append,List.size_toArray,size_zeroCells,hzc,List.length_nil];have e1:Tryz.growErr_ren.t 25=31:=rfl;rw[e1];omega
  exact(Below.refl w.heap.size w).drew.alloc (Nat.le_refl _) _
theorem newCellsE{w:World}{b off m:Nat}{X:Nat→Int}(h:∀j,j<m→w.cell? ⟨b,off+j,none⟩=some (.int .i64 (X j))):∀j u,((List.range m).map fun j=>Value.int .i64 (X j))[j]?=some u→w.cell? (Addr.add ⟨b,off,none⟩ j)=some u:=by
 intro j u hj;have hl:j<m:=by
  have:=(List.getElem?_eq_some_iff.1 hj).1;simpa using this
 have e:((List.range m).map fun j=>Value.int .i64 (X j))[j]?=some (Value.int .i64 (X j)):=by simp[hl]
 rw[e]at hj;injection hj with hj;rw[←hj];have h2:=h j hl;unfold Addr.add;split
 ·rename_i h0
  subst h0;exact h2
 exact h2
theorem oneCellsE(m:Nat)(X:Nat→Int):∀u∈((List.range m).map fun j=>Value.int .i64 (X j)),u.oneCell'=true:=by
 intro u hu;obtain⟨j,_,rfl⟩:=List.mem_map.1 hu;rfl
theorem errs_isl{w:World}{base:Nat}{v:Value}{l:List Int}(h:w.ownsRow base 31 1 v l.length (l.map (Value.int .i64)))(hr:l.length*8≤140737488351232):IntSl w w.heap.size v l.length (fun j=>l.getD j 0):=by
 obtain⟨hl,h2⟩:=h;rcases h2 with⟨e1,h0⟩|⟨g,cp,cur,e1,_,hh,hc,_,hsz,hcur⟩;·rw[e1,h0];exact⟨none,0,rfl,⟨Nat.le_refl _,by omega⟩,Or.inl rfl⟩
 refine⟨_,cp,e1,⟨hc,hr⟩,Or.inr ⟨g,0,rfl,(Array.getElem?_eq_some_iff.1 hh).1,fun j hj=>?_⟩⟩;have h3:(l.map (Value.int .i64))[j]?=some (.int .i64 (l.getD j 0)):=by simp[List.getD_eq_getElem?_getD,hj]
 rw[←hcur,List.getElem?_take,if_pos (by omega)]at h3;rw[Nat.zero_add];exact cell_at hh (by simpa using h3)
theorem range_map{l:List Int}:((List.range l.length).map fun j=>Value.int .i64 (l.getD j 0))=l.map (Value.int .i64):=by
 apply List.ext_getElem?;intro i;by_cases h:i<l.length;·simp[h,List.getD_eq_getElem?_getD]
 simp[h]
theorem concat_errs(g c0 g1 g2:Nat)(w:World)(x y:List Int)(h1:IntSl w w.heap.size (.slice (some ⟨g1,0,none⟩) x.length x.length) x.length (fun j=>x.getD j 0))(h2:IntSl w w.heap.size (.slice (some ⟨g2,0,none⟩) y.length y.length) y.length (fun j=>y.getD j 0))
 (hn1:x.length≤100) (hn2:y.length≤100) (hc0:w.cell? ⟨g,0,none⟩=some (.slice (some ⟨g1,0,none⟩) x.length x.length)) (hc1:w.cell? ⟨g,1,none⟩=some (.slice (some ⟨g2,0,none⟩) y.length y.length)) :
 Calls Tryz.prog 24 #[.slice (some ⟨g,0,none⟩) 2 c0] w fun e w'=>Below w.heap.size w w'∧∃v,e=.returned v∧IntSl w' w'.heap.size v (x++y).length (fun j=>(x++y).getD j 0):=by
 have hX:∀u:World,Below w.heap.size w u→∀j,j<x.length→u.cell? ⟨g1,0+j,none⟩=some (.int .i64 (x.getD j 0)):=fun u hb j hj=>by
  obtain⟨a,c,e,_,hx⟩:=h1;injection e with e;subst e;rcases hx with hx|⟨b,o,e,hb9,hx⟩;·omega
  injection e with e;injection e with e1 e2;subst e1 e2;rw[hb.cell hb9];exact hx j hj
 have hY:∀u:World,Below w.heap.size w u→∀j,j<y.length→u.cell? ⟨g2,0+j,none⟩=some (.int .i64 (y.getD j 0)):=fun u hb j hj=>by
  obtain⟨a,c,e,_,hx⟩:=h2;injection e with e;subst e;rcases hx with hx|⟨b,o,e,hb9,hx⟩;·omega
  injection e with e;injection e with e1 e2;subst e1 e2;rw[hb.cell hb9];exact hx j hj
 have hbg:g<w.heap.size:=cell_lt hc0
 have HX:=hid hX
 have HY:=hid hY
 have HC0:=hid hc0
 have HC1:=hid hc1
 obtain⟨n1,hn1e⟩:∃n,x.length=n:=⟨_,rfl⟩
 obtain⟨n2,hn2e⟩:∃n,y.length=n:=⟨_,rfl⟩
 have HN1:=hid hn1e
 have HN2:=hid hn2e
 rw[hn1e]at hc0 hn1
 rw[hn2e]at hc1 hn2
 rw[hn1e]at HC0
 rw[hn2e]at HC1
 clear hX hY h1 h2 hn1e hn2e
 obtain⟨ii,hi,hz0,hz1,hz2⟩:=info_parts Tryz.infoErrC
 go_enter Tryz.func24,Tryz.ntmps24
 go_wp2
 refine wp_loop_rounds 3 ?_
 iterate 3 (rw[rounds_succ];go_wp2_with fail)
 clear hc0 hc1
 refine Calls.mono (growErr_any (n1+n2) (by omega) w) ?_
 rintro e w1 ⟨v0,rfl,ho1,hbw⟩
 have hc0:w1.cell? ⟨g,0,none⟩=some (.slice (some ⟨g1,0,none⟩) n1 n1):=by rw[hbw.cell hbg];exact HC0.out
 have O1:=hid ho1
 have BW:=hid hbw
 clear ho1 hbw
 go_wp2_with fail
 refine wp_loop_rounds 3 ?_
 rw[rounds_succ]
 go_wp2_with(at_builtin;go_must(refine wpList_append_own _ rfl (.tmp 31) (.tmp 32) 46 rfl w.heap.size 31 ii (.int .i64 0) 1 8 Tryz.underlying46 hi hz0 hz1 hz2 rfl (by decide) v0 0 [] rfl O1.out ⟨g1,0,none⟩ n1 n1 (x.map (Value.int .i64)) rfl (by rw[List.length_map,HN1.out];omega) (by rw[←range_map,HN1.out];exact newCellsE fun j hj=>HX.out _ BW.out j (by rw[HN1.out];exact hj)) (by rw[←range_map];exact oneCellsE _ _) (by unfold maxLen;omega) (by omega) BW.out.size ?_;intro v1 w2 ho2 hg2 _;have O2:=hid ho2;have B2:Hid (Below w.heap.size w w2):=BW.out.grown hg2 BW.out.size (fun j hj=>(O1.out.lt j hj).1);clear ho2 hg2 hc0;have hc1:w2.cell? ⟨g,1,none⟩=some (.slice (some ⟨g2,0,none⟩) n2 n2):=by rw[B2.out.cell hbg];exact HC1.out))
 rw[rounds_succ]
 go_wp2_with(at_builtin;go_must(refine wpList_append_own _ rfl (.tmp 31) (.tmp 32) 46 rfl w.heap.size 31 ii (.int .i64 0) 1 8 Tryz.underlying46 hi hz0 hz1 hz2 rfl (by decide) v1 (0+n1) _ rfl O2.out ⟨g2,0,none⟩ n2 n2 (y.map (Value.int .i64)) rfl (by rw[List.length_map,HN2.out];omega) (by rw[←range_map,HN2.out];exact newCellsE fun j hj=>HY.out _ B2.out j (by rw[HN2.out];exact hj)) (by rw[←range_map];exact oneCellsE _ _) (by unfold maxLen;omega) (by omega) B2.out.size ?_;intro v2 w3 ho3 hg3 _;have O3:=hid ho3;have B3:Hid (Below w.heap.size w w3):=B2.out.grown hg3 B2.out.size (fun j hj=>(O2.out.lt j hj).1);clear ho3 hg3 hc1))
 rw[rounds_succ]
 go_wp2
 go_ret
 refine⟨B3.out,v2,rfl,errs_isl (base:=w.heap.size) (l:=x++y) ?_ (by rw[List.length_append,HN1.out,HN2.out];omega)⟩
 have h9:=O3.out
 rw[List.length_append,HN1.out,HN2.out,List.map_append]
 rw[Nat.zero_add,List.nil_append]at h9
 exact h9
end Go.Proofs.YtajmnlhfnhbleaaGreat
