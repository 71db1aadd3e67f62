/- Several texts of one proof, in their order. -/
import Derived.Test.YtajmnlhfnhbleaaGreatDSum4
namespace Go.Proofs.YtajmnlhfnhbleaaGreat
open Go.RowKit
set_option linter.unusedVariables false
set_option maxHeartbeats 2000000
def flatI(UV:Nat→Value)(t:Kt)(l:List Nat):List Value:=l.flatMap fun i=>[.int .i64 (t.V i),.int .i64 (t.N i),UV i]
theorem flatI_len(UV:Nat→Value)(t:Kt)(l:List Nat):(flatI UV t l).length=l.length*3:=by
 induction l with
 |nil=>rfl
 |cons x l ih=>simp only[flatI,List.flatMap_cons,List.length_append,List.length_cons,List.length_nil]at *;omega
theorem flatI_snoc(UV:Nat→Value)(t:Kt)(l:List Nat)(i:Nat):flatI UV t (l++[i])=flatI UV t l++[.int .i64 (t.V i),.int .i64 (t.N i),UV i]:=by
 simp[flatI]
theorem flatI_get(UV:Nat→Value)(t:Kt):∀(l:List Nat) (j:Nat),j<l.length→(flatI UV t l)[j*3]?=some (.int .i64 (t.V (l.getD j 0)))∧(flatI UV t l)[j*3+1]?=some (.int .i64 (t.N (l.getD j 0)))∧(flatI UV t l)[j*3+2]?=some (UV (l.getD j 0)):=by
 intro l;induction l with
 |nil=>intro j hj;simp at hj
 |cons x l ih =>
  intro j hj;have e:flatI UV t (x::l)=[.int .i64 (t.V x),.int .i64 (t.N x),UV x]++flatI UV t l:=by simp[flatI]
  rw[e];cases j with
  |zero=>exact⟨rfl,rfl,rfl⟩
  |succ j =>
   obtain⟨h1,h2,h3⟩:=ih j (by simpa using hj);have a1:(j+1)*3=3+j*3:=by omega
   have key:∀c,([Value.int .i64 (t.V x),.int .i64 (t.N x),UV x]++flatI UV t l)[3+j*3+c]?=(flatI UV t l)[j*3+c]?:=fun c=>by
    rw[List.getElem?_append_right (by simp;omega)];simp only[List.length_cons,List.length_nil];congr 1;omega
   rw[a1];refine⟨?_,?_,?_⟩;·have:=key 0;rw[Nat.add_zero,Nat.add_zero]at this;rw[this,h1];rfl
   ·rw[key 1,h2];rfl
   rw[key 2,h3];rfl
def selT(t:Kt)(l:List Nat):Kt:=⟨fun j=>t.V (l.getD j 0),fun j=>t.N (l.getD j 0),fun j=>t.L (l.getD j 0),fun j=>t.X (l.getD j 0)⟩
def OwnT(w0 wr:World)(v:Value)(UV:Nat→Value)(t:Kt)(l:List Nat):Prop:=wr.ownsRow w0.heap.size 83 3 v l.length (flatI UV t l)∧Below w0.heap.size w0 wr
theorem OwnT.nil(w:World)(UV:Nat→Value)(t:Kt):OwnT w w (.slice none 0 0) UV t []:=⟨World.ownsRow_nil _ _ _ _,Below.refl _ _⟩
theorem OwnT.up{w0 wr w':World}{v:Value}{UV:Nat→Value}{t:Kt}{l:List Nat}(h:OwnT w0 wr v UV t l)(hb:Below wr.heap.size wr w'):OwnT w0 w' v UV t l:=⟨owns_below h.1 hb,h.2.trans (hb.mono h.2.size)⟩
theorem OwnT.push{w0 wr w1:World}{v v':Value}{UV:Nat→Value}{t:Kt}{l:List Nat}{i:Nat}(h:OwnT w0 wr v UV t l)
 (ho:w1.ownsRow w0.heap.size 83 3 v' (l.length+1) (flatI UV t l++[.int .i64 (t.V i),.int .i64 (t.N i),UV i])) (hg:wr.grownBy w1 v.ownBlock):OwnT w0 w1 v' UV t (l++[i]):=by
 refine⟨?_,h.2.grown hg h.2.size (fun g hgg=>(h.1.lt g hgg).1)⟩
 rw[List.length_append,flatI_snoc]
 exact ho
theorem rowT_kel{wr:World}{base:Nat}{v:Value}{UV:Nat→Value}{t:Kt}{l:List Nat}(h:wr.ownsRow base 83 3 v l.length (flatI UV t l))(hr:l.length*40≤140737488351232)(hi:∀i,i∈l→IntSl wr wr.heap.size (UV i) (t.L i) (t.X i)):KeSl wr wr.heap.size v l.length (fun j=>UV (l.getD j 0)) (selT t l):=by
 obtain⟨hl,h2⟩:=h;rcases h2 with⟨rfl,h0⟩|⟨g,cap,cur,rfl,hg,hh,hc1,hc2,hsz,hcur⟩;·rw[h0];exact⟨none,0,rfl,⟨Nat.le_refl _,by omega⟩,Or.inl rfl⟩
 refine⟨_,cap,rfl,⟨hc1,hr⟩,Or.inr ⟨g,0,rfl,(Array.getElem?_eq_some_iff.1 hh).1,fun j hj=>?_⟩⟩;have key:∀i u,i<l.length*3→(flatI UV t l)[i]?=some u→wr.cell? ⟨g,i,none⟩=some u:=fun i u hi h3=>by
  rw[←hcur,List.getElem?_take,if_pos hi]at h3;exact cell_at hh (by simpa using h3)
 obtain⟨q1,q2,q3⟩:=flatI_get UV t l j hj;rw[Nat.zero_add];refine⟨key _ _ (by omega) q1,key _ _ (by omega) q2,key _ _ (by omega) q3,hi _ ?_⟩;rw[List.getD_eq_getElem?_getD,List.getElem?_eq_getElem hj];exact List.getElem_mem hj
theorem Tryz.infoKept:(Tryz.prog.info? 83).map (fun i=>(i.zero,i.size,i.bytes))=some (some (.agg #[.int .i64 0,.int .i64 0,.slice none 0 0]),3,40):=by kernel_rfl
theorem cells_three(w:World)(v0 v1 v2:Value)(T:TypeId):∀j u,([v0,v1,v2]:List Value)[j]?=some u→(w.alloc (.cells #[v0,v1,v2] T)).cell? (Addr.add ⟨w.heap.size,0,none⟩ j)=some u:=by
 intro j u hj;rw[Addr.add_lit];match j,hj with
 |0,hj=>simp at hj;subst hj;exact cell_at (heap_alloc_new _ _) rfl
 |1,hj=>simp at hj;subst hj;exact cell_at (heap_alloc_new _ _) rfl
 |2,hj=>simp at hj;subst hj;exact cell_at (heap_alloc_new _ _) rfl
def butL(t:Kt)(ver:Int)(m:Nat):List Nat:=(List.range m).filter fun j=>t.V j != ver
theorem butL_succ(t:Kt)(ver:Int)(m:Nat):butL t ver (m+1)=butL t ver m++(if(t.V m != ver)=true then[m]else[]):=by
 unfold butL;rw[List.range_succ,List.filter_append];cases h:(t.V m != ver)<;>simp[h]
theorem butL_len(t:Kt)(ver:Int)(m:Nat):(butL t ver m).length≤m:=by
 unfold butL;refine Nat.le_trans (List.length_filter_le _ _) ?_;simp
theorem butL_lt{t:Kt}{ver:Int}{m i:Nat}(h:i∈butL t ver m):i<m:=by
 unfold butL at h;exact List.mem_range.1 (List.mem_filter.1 h).1
def PePost(w:World)(th:Bool)(room:Int)(m:Nat)(t:Kt)(e:Ending)(w':World):Prop :=
 Below w.heap.size w w'∧∃(r:Value) (UV:Nat→Value),e=.returned (peerV th room r)∧KeSl w' w'.heap.size r m UV t
theorem without_any(th:Bool)(room:Int)(v:Value)(m:Nat)(UV:Nat→Value)(t:Kt)(ver:Int)(w:World)(hm:m≤1000)(h:KeSl w w.heap.size v m UV t):
 Calls Tryz.prog 58 #[peerV th room v,.int .i64 ver] w (PePost w th room (butL t ver m).length (selT t (butL t ver m))):=by
 obtain⟨ad,cap,rfl,⟨hcap,hbig⟩,hx⟩:=h
 have hb0:=((Below.refl w.heap.size w).alloc (Nat.le_refl _) (.cells #[.bool th,.int .i64 room,.slice ad m cap] 41)).alloc (by simp) (.cells #[.bool false,.int .i64 0,.slice none 0 0] 41)
 have k1:=heap_two_old w (.cells #[.bool th,.int .i64 room,.slice ad m cap] 41) (.cells #[.bool false,.int .i64 0,.slice none 0 0] 41)
 have k2:=heap_two_new w (.cells #[.bool th,.int .i64 room,.slice ad m cap] 41) (.cells #[.bool false,.int .i64 0,.slice none 0 0] 41)
 obtain⟨W,hW⟩:∃W,(w.alloc (.cells #[.bool th,.int .i64 room,.slice ad m cap] 41)).alloc (.cells #[.bool false,.int .i64 0,.slice none 0 0] 41)=W:=⟨_,rfl⟩
 rw[hW]at hb0 k1 k2
 have B0:=hid hb0
 have K1:=hid k1
 have K2:=hid k2
 have HX:=hid hx
 obtain⟨p0,p1,p2⟩:=three_at k1
 obtain⟨ii,hii,hz0,hz1,hz2⟩:=info_parts Tryz.infoKept
 have hl1:w.heap.size+1<W.heap.size:=(Array.getElem?_eq_some_iff.1 k2).1
 have HL1:=hid hl1
 clear hb0 k1 k2 hx hl1
 unfold peerV
 go_enter Tryz.func58,Tryz.ntmps58
 go_wp2
 clear p0 p1 p2
 go_loopw [5,11] (fun vo iv wr=>∃j:Nat,j≤m∧iv=.int .i64 j∧Hid (OwnT W wr vo UV t (butL t ver j))) (fun _ iv _=>m-(intOf iv).toNat)
 case atStart=>exact⟨0,Nat.zero_le _,rfl,OwnT.nil _ _ _⟩
 case round =>
  obtain⟨k,hk,rfl,OW⟩:=hrel;by_cases hlt:k<m
  ·have hki:(k:Int)<(m:Int):=by omega
   have BR:=hid (B0.out.trans (OW.out.2.mono B0.out.size));rcases HX.out with h0|⟨bl,off,rfl,hbl,hx⟩;·omega
   obtain⟨x0,x1,x2,x3⟩:=hx k hlt;obtain⟨ap,cp,hpe,_,_⟩:=x3;have HPe:=hid hpe;rw[hpe]at x2;have g0:wr.cell? ⟨bl,off+k*3,none⟩=some (.int .i64 (t.V k)):=by rw[BR.out.cell hbl];exact x0
   have g1:wr.cell? ⟨bl,off+k*3+1,none⟩=some (.int .i64 (t.N k)):=by rw[BR.out.cell hbl];exact x1
   have g2:wr.cell? ⟨bl,off+k*3+2,none⟩=some (.slice ap (t.L k) cp):=by rw[BR.out.cell hbl];exact x2
   obtain⟨Z,hZ⟩:∃Z,wr.alloc (.cells #[.int .i64 (t.V k),.int .i64 (t.N k),.slice ap (t.L k) cp] 83)=Z:=⟨_,rfl⟩;have hbZ:Below wr.heap.size wr Z:=by rw[←hZ];exact below_alloc _ _
   have OZ:=hid (OW.out.up hbZ);obtain⟨z0,z1,z2⟩:Z.cell? ⟨wr.heap.size,0,none⟩=_∧Z.cell? ⟨wr.heap.size,1,none⟩=_∧Z.cell? ⟨wr.heap.size,2,none⟩=_:=three_at (by rw[←hZ];exact heap_alloc_new wr _);have hsc:=butL_succ t ver k;have hll:=butL_len t ver k;have hge:W.heap.size≤Z.heap.size:=OZ.out.2.size;clear x0 x1 x2 hx hpe hbZ;cases hne:(t.V k != ver)with
   |false =>
    rw[hne,if_neg (by decide),List.append_nil]at hsc;have HSc:=hid hsc;clear hsc;go_wp2;go_roundw
    case rel=>exact⟨k+1,by omega,by go_num,by rw[HSc.out];exact OZ.out⟩
    case measure=>simp only[intOf];omega
   |true =>
    rw[hne,if_pos rfl]at hsc;have HSc:=hid hsc;have HCt:=hid (cells_three Z (.int .i64 (t.V k)) (.int .i64 (t.N k)) (.slice ap (t.L k) cp) 83);clear hsc;go_wp2_with(at_builtin;go_must(refine wpList_append_own _ rfl (.tmp 19) (.tmp 21) 39 rfl W.heap.size 83 ii (.agg #[.int .i64 0,.int .i64 0,.slice none 0 0]) 3 40 Tryz.underlying39 hii hz0 hz1 hz2 rfl (by decide) _ _ _ rfl (World.ownsRow.alloc OZ.out.1 _) ⟨_,0,none⟩ 1 1 [.int .i64 (t.V k),.int .i64 (t.N k),.slice ap (t.L k) cp] rfl rfl HCt.out (by intro u hu;simp at hu;rcases hu with rfl|rfl|rfl<;>rfl) (by unfold maxLen;omega) (by omega) (by simp;omega) ?_;intro v1 w6 ho6 hg6 _;have HO6:=hid ho6;have HG6:=hid hg6;clear ho6 hg6))
    have O6:OwnT W w6 v1 UV t (butL t ver k++[k]):=by
     have hbZ2:=below_alloc Z (.cells #[.int .i64 (t.V k),.int .i64 (t.N k),.slice ap (t.L k) cp] 83);refine(OZ.out.up hbZ2).push ?_ HG6.out;rw[HPe.out];exact HO6.out
    go_roundw
    case rel=>exact⟨k+1,by omega,by go_num,by rw[HSc.out];exact O6⟩
    case measure=>simp only[intOf];omega
  have hke:m=k:=by omega
  subst hke;have kk1:wr.heap[w.heap.size]?=some (.cells #[.bool th,.int .i64 room,.slice ad m cap] 41 (0,0)):=by rw[OW.out.2.block _ (Array.getElem?_eq_some_iff.1 K1.out).1];exact K1.out
  have kk2:wr.heap[w.heap.size+1]?=some (.cells #[.bool false,.int .i64 0,.slice none 0 0] 41 (0,0)):=by rw[OW.out.2.block _ (Array.getElem?_eq_some_iff.1 K2.out).1];exact K2.out
  obtain⟨p0,p1,p2⟩:=three_at kk1;obtain⟨r0,r1,r2⟩:=three_at kk2;have f2:=frozen_at (i:=2) kk1;have q0:=frozen_at (i:=0) kk2;have q1:=frozen_at (i:=1) kk2;have q2:=frozen_at (i:=2) kk2;obtain⟨ao,co,hvo⟩:=owns_sliceV OW.out.1;subst hvo;have hll:=butL_len t ver m;go_wp2;have h1:=HL1.out;have e1:(wr.setCell ⟨w.heap.size,2,none⟩ (.slice ao (butL t ver m).length co)).heap[w.heap.size+1]?=some (.cells #[.bool false,.int .i64 0,.slice none 0 0] 41 (0,0)):=by
   rw[Below.heap_setCell _ _ _ _ (by show w.heap.size+1≠w.heap.size;omega)];exact kk2
  have hH:=put3_whole e1 (.bool th) (.int .i64 room) (.slice ao (butL t ver m).length co);have hB:Below w.heap.size w (put3 (wr.setCell ⟨w.heap.size,2,none⟩ (.slice ao (butL t ver m).length co)) (w.heap.size+1) (.bool th) (.int .i64 room) (.slice ao (butL t ver m).length co)) :=
   ((((B0.out.trans (OW.out.2.mono B0.out.size)).setCell (p:=⟨w.heap.size,2,none⟩) (Nat.le_refl _) _).setCell (p:=⟨w.heap.size+1,0,none⟩) (by show w.heap.size≤w.heap.size+1;omega) _).setCell (p:=⟨w.heap.size+1,1,none⟩) (by show w.heap.size≤w.heap.size+1;omega) _).setCell (p:=⟨w.heap.size+1,2,none⟩) (by show w.heap.size≤w.heap.size+1;omega) _
  have hne:∀g,g≤w.heap.size+1→(Value.slice ao (butL t ver m).length co).ownBlock≠some g:=fun g hg e=>by have:=(OW.out.1.lt g e).1;omega
  have hO:=owns_set_other (o:=2) (owns_set_other (o:=1) (owns_set_other (o:=0) (owns_set_other (o:=2) OW.out.1 (hne _ (Nat.le_succ _)) (.slice ao (butL t ver m).length co)) (hne _ (Nat.le_refl _)) (.bool th)) (hne _ (Nat.le_refl _)) (.int .i64 room)) (hne _ (Nat.le_refl _)) (.slice ao (butL t ver m).length co);refine bodyPost_ret (results_cell_row rfl _ _ (w.heap.size+1) 41 #[.bool th,.int .i64 room,.slice ao (butL t ver m).length co] (0,0) _ rfl hH Tryz.underlying41 rfl (by kernel_rfl)) rfl ?_;refine⟨hB,_,_,rfl,rowT_kel hO (by omega) fun i hi=>?_⟩;rcases HX.out with h0|⟨bl,off,_,hbl,hx⟩;·have:=butL_lt hi;omega
  exact(hx i (butL_lt hi)).2.2.2.up hB
theorem flatI_one{UV:Nat→Value}{t:Kt}{l:List Nat}(h:∀i,i∈l→(UV i).oneCell'=true):∀u∈flatI UV t l,u.oneCell'=true:=by
 intro u hu;unfold flatI at hu;obtain⟨i,hi,hu⟩:=List.mem_flatMap.1 hu;simp only[List.mem_cons,List.not_mem_nil,or_false]at hu;rcases hu with rfl|rfl|rfl;·rfl
 ·rfl
 exact h i hi
theorem cloneT{w:World}{v:Value}{m:Nat}{UV:Nat→Value}{t:Kt}(h:KeSl w w.heap.size v m UV t)(hn:m≤1000):
 Calls Tryz.prog 60 #[v] w fun e w'=>∃v',e=.returned v'∧OwnT w w' v' UV t (List.range m):=by
 obtain⟨ad,cap,rfl,⟨hc,hr⟩,hx⟩:=h
 have q34:∀(w:World) (a:Option Addr) (n c:Nat),(binOp .eql 39 (.slice a n c) (.slice none 0 0)).run Tryz.prog w=.ok (.bool a.isNone) w:=fun w a n c=>Lib.run_eql_slice_nil w _ _ a n c 0 0 Tryz.underlying39
 cases ad with
 |none =>
  have h0:m=0:=by
   rcases hx with h0|⟨bl,off,e,_⟩;·exact h0
   cases e
  subst h0;clear hx;go_enter Tryz.func60,Tryz.ntmps60;go_wp2;go_ret;exact⟨_,rfl,OwnT.nil _ _ _⟩
 |some a =>
  have hrg:∀j,j<m→(List.range m).getD j 0=j:=fun j hj=>by simp[List.getD_eq_getElem?_getD,hj]
  have hnews:∀j u,(flatI UV t (List.range m))[j]?=some u→w.cell? (Addr.add a j)=some u:=by
   intro j u hu;have hj:j<m*3:=by
    have:=(List.getElem?_eq_some_iff.1 hu).1;rw[flatI_len]at this;simpa using this
   rcases hx with h0|⟨bl,off,e,hbl,hx⟩;·omega
   injection e with e;subst e;obtain⟨g1,g2,g3,_⟩:=hx (j/3) (by omega);obtain⟨q1,q2,q3⟩:=flatI_get UV t (List.range m) (j/3) (by simp;omega);rw[hrg _ (by omega)]at q1 q2 q3;rw[Addr.add_lit];rcases(show j=j/3*3∨j=j/3*3+1∨j=j/3*3+2 by omega)with e|e|e
   ·rw[e]at hu ⊢
    rw[q1]at hu;rw[g1,←hu]
   ·rw[e]at hu ⊢
    rw[q2]at hu;rw[←Nat.add_assoc,g2,←hu]
   rw[e]at hu ⊢;rw[q3]at hu;rw[←Nat.add_assoc,g3,←hu]
  have h1:∀u∈flatI UV t (List.range m),u.oneCell'=true:=flatI_one fun i hi=>by
   rcases hx with h0|⟨bl,off,e,hbl,hx⟩;·have:=List.mem_range.1 hi;omega
   obtain⟨ap,cp,e2,_⟩:=(hx i (List.mem_range.1 hi)).2.2.2;rw[e2];rfl
  have HNw:=hid hnews;have H1:=hid h1;obtain⟨ii,hi,hz0,hz1,hz2⟩:=info_parts Tryz.infoKept;have HLn:Hid ((flatI UV t (List.range m)).length=m*3):=by show _=_;rw[flatI_len];simp
  obtain⟨F,hF⟩:∃F,flatI UV t (List.range m)=F:=⟨_,rfl⟩;rw[hF]at HNw H1 HLn;have HF:=hid hF;clear hx hnews h1 hrg hF;go_enter Tryz.func60,Tryz.ntmps60;go_wp2_with(at_builtin;go_must(refine wpList_append_own _ rfl _ _ 39 rfl w.heap.size 83 ii (.agg #[.int .i64 0,.int .i64 0,.slice none 0 0]) 3 40 Tryz.underlying39 hi hz0 hz1 hz2 rfl (by decide) _ _ _ rfl (World.ownsRow_made w #[] 0 (Nat.le_refl _) (Nat.zero_le _) (by simp)) a m cap F rfl HLn.out (fun j u hu=>Lib.cell?_alloc_some _ (HNw.out j u hu)) H1.out (by unfold maxLen;omega) (by omega) (by simp) ?_;intro v1 w2 ho hg _;have HO:=hid ho;have HG:=hid hg;clear ho hg))
  go_ret;refine⟨_,rfl,?_,?_⟩
  ·have h:=HO.out
   rw[Nat.zero_add,List.nil_append,←HF.out]at h;simpa using h
  exact((Below.refl _ _).alloc (Nat.le_refl _) _).grown HG.out (by simp) (fun k hk=>by cases hk;exact Nat.le_refl _)
def cmpK(a c:Int):Int:=if a<c then -1 else 1
theorem cmpKept_any(v1 v2 N1 N2:Int)(pv qv:Value)(w:World)(h1:∃a n c,pv=.slice a n c)(h2:∃a n c,qv=.slice a n c):
 Calls Tryz.prog 157 #[keptV v1 N1 pv,keptV v2 N2 qv] w fun e w'=>e=.returned (.int .i64 (cmpK v1 v2))∧w'=(w.alloc (.cells #[.int .i64 v1,.int .i64 N1,pv] 83)).alloc (.cells #[.int .i64 v2,.int .i64 N2,qv] 83):=by
 obtain⟨a1,n1,c1,rfl⟩:=h1
 obtain⟨a2,n2,c2,rfl⟩:=h2
 unfold keptV cmpK
 by_cases h:v1<v2
 ·rw[if_pos h]
  go_enter Tryz.func157,Tryz.ntmps157;go_wp2;go_ret;exact⟨rfl,rfl⟩
 ·rw[if_neg h]
  go_enter Tryz.func157,Tryz.ntmps157;go_wp2;go_ret;exact⟨rfl,rfl⟩
end Go.Proofs.YtajmnlhfnhbleaaGreat
namespace Go.Proofs
open Go.Shelf
set_option linter.unusedVariables false
def Tryz.sortKept_ren:Go.Shelf.Ren:=⟨fun|6=>156|15=>166|14=>173|28=>184|29=>185|20=>192|21=>193|22=>194|23=>195|24=>196|25=>197|26=>198|27=>199|46=>216|47=>209|48=>210|49=>217|50=>218|57=>225|n=>n,fun|22=>39|24=>83|25=>176|3=>3|39=>186|0=>0|53=>202|55=>204|4=>4|46=>194|45=>193|50=>199|5=>5|9=>9|66=>217|70=>221|76=>227|77=>228|n=>n,fun|n=>n⟩
theorem Tryz.sortKept:Go.Proofs.SlLaysF0.n6 Tryz.prog Tryz.sortKept_ren:={
 mixed:=by kernel_rfl
 f6:=⟨Tryz.f156.name,by decide,Tryz.func156.trans (congrArg some (by kernel_rfl))⟩
 f14:=⟨Tryz.f173.name,by decide,Tryz.func173.trans (congrArg some (by kernel_rfl))⟩
 f15:=Tryz.func166.trans (congrArg some (by kernel_rfl))
 f20:=⟨Tryz.f192.name,by decide,Tryz.func192.trans (congrArg some (by kernel_rfl))⟩
 f21:=⟨Tryz.f193.name,by decide,Tryz.func193.trans (congrArg some (by kernel_rfl))⟩
 f22:=⟨Tryz.f194.name,by decide,Tryz.func194.trans (congrArg some (by kernel_rfl))⟩
 f23:=⟨Tryz.f195.name,by decide,Tryz.func195.trans (congrArg some (by kernel_rfl))⟩
 f24:=⟨Tryz.f196.name,by decide,Tryz.func196.trans (congrArg some (by kernel_rfl))⟩
 f25:=⟨Tryz.f197.name,by decide,Tryz.func197.trans (congrArg some (by kernel_rfl))⟩
 f26:=⟨Tryz.f198.name,by decide,Tryz.func198.trans (congrArg some (by kernel_rfl))⟩
 f27:=⟨Tryz.f199.name,by decide,Tryz.func199.trans (congrArg some (by kernel_rfl))⟩
 f28:=Tryz.func184.trans (congrArg some (by kernel_rfl))
 f29:=Tryz.func185.trans (congrArg some (by kernel_rfl))
 f46:=⟨Tryz.f216.name,by decide,Tryz.func216.trans (congrArg some (by kernel_rfl))⟩
 f47:=Tryz.func209.trans (congrArg some (by kernel_rfl))
 f48:=Tryz.func210.trans (congrArg some (by kernel_rfl))
 f49:=⟨Tryz.f217.name,by decide,Tryz.func217.trans (congrArg some (by kernel_rfl))⟩
 f50:=⟨Tryz.f218.name,by decide,Tryz.func218.trans (congrArg some (by kernel_rfl))⟩
 f57:=⟨Tryz.f225.name,by decide,Tryz.func225.trans (congrArg some (by kernel_rfl))⟩
 t0:=Tryz.underlying0
 a0:=Tryz.isAgg0
 z0:=Tryz.sizeOf0
 v0:=Tryz.zeroValue0
 t3:=Tryz.underlying3
 a3:=Tryz.isAgg3
 z3:=Tryz.sizeOf3
 v3:=Tryz.zeroValue3
 t4:=Tryz.underlying4
 a4:=Tryz.isAgg4
 z4:=Tryz.sizeOf4
 v4:=Tryz.zeroValue4
 t5:=Tryz.underlying5
 a5:=Tryz.isAgg5
 z5:=Tryz.sizeOf5
 v5:=Tryz.zeroValue5
 t9:=Tryz.underlying9
 a9:=Tryz.isAgg9
 z9:=Tryz.sizeOf9
 v9:=Tryz.zeroValue9
 t22:=Tryz.underlying39
 a22:=Tryz.isAgg39
 z22:=Tryz.sizeOf39
 v22:=Tryz.zeroValue39
 t25:=Tryz.underlying176
 a25:=Tryz.isAgg176
 z25:=Tryz.sizeOf176
 v25:=Tryz.zeroValue176
 t39:=Tryz.underlying186
 a39:=Tryz.isAgg186
 z39:=Tryz.sizeOf186
 v39:=Tryz.zeroValue186
 t45:=Tryz.underlying193
 a45:=Tryz.isAgg193
 z45:=Tryz.sizeOf193
 v45:=Tryz.zeroValue193
 t46:=Tryz.underlying194
 a46:=Tryz.isAgg194
 z46:=Tryz.sizeOf194
 v46:=Tryz.zeroValue194
 t50:=Tryz.underlying199
 a50:=Tryz.isAgg199
 z50:=Tryz.sizeOf199
 v50:=Tryz.zeroValue199
 t53:=Tryz.underlying202
 a53:=Tryz.isAgg202
 z53:=Tryz.sizeOf202
 v53:=Tryz.zeroValue202
 t55:=Tryz.underlying204
 a55:=Tryz.isAgg204
 z55:=Tryz.sizeOf204
 v55:=Tryz.zeroValue204
 t66:=Tryz.underlying217
 a66:=Tryz.isAgg217
 z66:=Tryz.sizeOf217
 v66:=Tryz.zeroValue217
 t70:=Tryz.underlying221
 a70:=Tryz.isAgg221
 z70:=Tryz.sizeOf221
 v70:=Tryz.zeroValue221
 t76:=Tryz.underlying227
 a76:=Tryz.isAgg227
 z76:=Tryz.sizeOf227
 v76:=Tryz.zeroValue227
 t77:=Tryz.underlying228
 a77:=Tryz.isAgg228
 z77:=Tryz.sizeOf228
 v77:=Tryz.zeroValue228 }
end Go.Proofs
namespace Go.Proofs.YtajmnlhfnhbleaaGreat
open Go.RowKit Go.Shelf Go.Lib Go.Sort
set_option linter.unusedVariables false
set_option maxHeartbeats 2000000
theorem ltK(a c:Int):decide (cmpK a c<0)=decide (a<c):=by
 unfold cmpK;by_cases h:a<c;·rw[if_pos h];simp[h]
 rw[if_neg h];simp[h]
structure RowK(wr:World)(g K:Nat)(UV:Nat→Value)(t:Kt)(l:List Nat):Prop where
 len:l.length=K
 cell:∀j,j<K→wr.cell? ⟨g,j*3,none⟩=some (.int .i64 (t.V (l.getD j 0)))∧wr.cell? ⟨g,j*3+1,none⟩=some (.int .i64 (t.N (l.getD j 0)))∧wr.cell? ⟨g,j*3+2,none⟩=some (UV (l.getD j 0))
 free:∀i,i<K*3→wr.frozen? ⟨g,i,none⟩=false
 lt:g<wr.heap.size
theorem sortT{wr:World}{g K cap:Nat}{UV:Nat→Value}{t:Kt}(h:RowK wr g K UV t (List.range K))(hK:1≤K)(hK2:K≤1000)(hd:∀i j,i<K→j<K→t.V i=t.V j→i=j)(hu:∀i,i<K→∃a n c,UV i=.slice a n c):
 Calls Tryz.prog 156 #[.slice (some ⟨g,0,none⟩) K cap,.func (.func 157) #[] #[]] wr fun e w'=>e=.returned (.tuple #[]) ∧
  (∀(B:Nat) (w0:World),Below B w0 wr→B≤g→Below B w0 w')∧(∀a:Addr,a.block≠g→a.block<wr.heap.size→w'.cell? a=wr.cell? a)∧wr.heap.size≤w'.heap.size ∧
  ∃l:List Nat,l.Perm (List.range K)∧l.Pairwise (fun a c=>t.V a<t.V c)∧RowK w' g K UV t l:=by
 haveI:Inhabited (Fin K):=⟨⟨0,by omega⟩⟩
 have hget:∀j (hj:j<K),(List.finRange K).toArray[j]! = ⟨j,hj⟩:=fun j hj=>by
  rw[getElem!_pos _ _ (by simpa using hj)];simp
 have hsize:(List.finRange K).toArray.size=K:=by simp
 have hrg:∀j,j<K→(List.range K).getD j 0=j:=fun j hj=>by simp[List.getD_eq_getElem?_getD,hj]
 have hO:SWO (ltOf fun x y:Fin K=>cmpK (t.V x.val) (t.V y.val)):=by
  refine⟨fun x=>?_,fun x y z h1 h2=>?_,fun x y z h1 h2=>?_⟩
  ·show decide (cmpK (t.V x.val) (t.V x.val)<0)=false
   rw[ltK];simp
  ·replace h1:decide (cmpK (t.V x.val) (t.V y.val)<0)=true:=h1
   replace h2:decide (cmpK (t.V y.val) (t.V z.val)<0)=true:=h2;show decide (cmpK (t.V x.val) (t.V z.val)<0)=true;rw[ltK]at *;simp at *;omega
  replace h1:decide (cmpK (t.V x.val) (t.V y.val)<0)=false:=h1;replace h2:decide (cmpK (t.V y.val) (t.V z.val)<0)=false:=h2;show decide (cmpK (t.V x.val) (t.V z.val)<0)=false;rw[ltK]at *;simp at *;omega
 have hcmp:CmpLays Tryz.prog 157 #[] (fun x:Fin K=>[Value.int .i64 (t.V x.val),.int .i64 (t.N x.val),UV x.val]) 3 (fun x y=>cmpK (t.V x.val) (t.V y.val)) g 0 (List.finRange K).toArray.size wr:=fun m os dk hs x y=>by
  refine(cmpKept_any (t.V x.val) (t.V y.val) (t.N x.val) (t.N y.val) (UV x.val) (UV y.val) _ (hu _ x.isLt) (hu _ y.isLt)).mono ?_;rintro e w' ⟨he,hw⟩;refine⟨he,0,#[.cells #[.int .i64 (t.V x.val),.int .i64 (t.N x.val),UV x.val] 83,.cells #[.int .i64 (t.V y.val),.int .i64 (t.N y.val),UV y.val] 83],?_⟩;rw[hw,alloc_eq_grow,alloc_eq_grow,grow_grow];rfl
 have hH:HoldsK (fun x:Fin K=>[Value.int .i64 (t.V x.val),.int .i64 (t.N x.val),UV x.val]) 3 wr g 0 (List.finRange K).toArray:=fun i hi=>by
  rw[size_flatK,hsize]at hi;rw[Nat.zero_add,get_flatK _ _ _ _ (by rw[hsize];exact hi),hget _ (by omega)];refine⟨?_,h.free i hi⟩;obtain⟨q1,q2,q3⟩:=h.cell (i/3) (by omega);rw[hrg _ (by omega)]at q1 q2 q3;rcases(show i%3=0∨i%3=1∨i%3=2 by omega)with e|e|e;·rw[show i/3*3=i by omega]at q1;rw[e];exact q1
  ·rw[show i/3*3+1=i by omega]at q2;rw[e];exact q2
  rw[show i/3*3+2=i by omega]at q3;rw[e];exact q3
 have hcon:=AnyQ.slices_SortFunc Tryz.sortKept 3 Tryz.isAgg83 Tryz.sizeOf83 (fun x:Fin K=>[Value.int .i64 (t.V x.val),.int .i64 (t.N x.val),UV x.val]) (fun _=>rfl) (fun x v hv=>by
  simp only[List.mem_cons,List.not_mem_nil,or_false]at hv;rcases hv with rfl|rfl|rfl;·rfl
  ·rfl
  obtain⟨a,n,c,e⟩:=hu _ x.isLt;rw[e];rfl) (fun x y=>cmpK (t.V x.val) (t.V y.val)) hO 157 #[] g 0 cap (List.finRange K).toArray wr (enters_of Tryz.func157 (by kernel_rfl) rfl) hcmp hH h.lt (by rw[hsize];omega)
 rw[hsize]at hcon
 refine hcon.mono ?_
 rintro e w' ⟨he,d',n,os,hp,hs,hw⟩
 have hds:d'.size=K:=by rw[hp.1,hsize]
 have hperm:d'.toList.Perm (List.finRange K):=by
  have h3:=hp.2.2;rw[Array.extract_eq_self_of_le (by omega),Array.extract_eq_self_of_le (by rw[hsize];omega)]at h3;exact h3
 have hHA:HoldsK (fun x:Fin K=>[Value.int .i64 (t.V x.val),.int .i64 (t.N x.val),UV x.val]) 3 w' g 0 d':=by
  rw[hw];exact holdsK_grow _ _ _ _ _ _ _ (by rw[size_putRowK];exact h.lt) (holdsK_putRowK _ _ _ _ _ (List.finRange K).toArray d' hH (by rw[hds,hsize]))
 have hsz:w'.heap.size=wr.heap.size+os.size:=by rw[hw];simp[sortWorldK,putRowK,putRow,mapBlock,Sort.ahead,grow]
 have hblk:∀k,k≠g→k<wr.heap.size→w'.heap[k]?=wr.heap[k]?:=fun k hk hl=>by
  rw[hw];unfold sortWorldK;rw[heap_grow_old _ _ (by simpa[putRowK,putRow,mapBlock,Sort.ahead]using hl)];simp[putRowK,putRow,mapBlock,Sort.ahead,Array.getElem?_modify,Ne.symm hk]
 refine⟨he,fun B w0 hb hB=>?_,fun a ha hl=>World.cell?_of_block (hblk _ ha hl),by omega,d'.toList.map Fin.val,?_,?_,⟨by simp[hds],fun j hj=>?_,fun i hi=>?_,by have:=h.lt;omega⟩⟩
 ·refine hb.trans ⟨by rw[hw];rfl,by rw[hw];rfl,by rw[hw];rfl,by omega,fun k hk=>hblk k (by omega) (by have:=h.lt;omega)⟩
 ·have:=hperm.map Fin.val
  rwa [show(List.finRange K).map Fin.val=List.range K from List.ext_getElem (by simp) (by simp)]at this
 ·rw[List.pairwise_map,List.pairwise_iff_getElem]
  intro i j hi hj hij;have hi':i<d'.size:=by simpa using hi
  have hj':j<d'.size:=by simpa using hj
  have h4:=hs i j (Nat.zero_le _) hij (by rw[hds]at hj';exact hj');rw[getElem!_pos d' j hj',getElem!_pos d' i hi']at h4;replace h4:decide (cmpK (t.V d'[j].val) (t.V d'[i].val)<0)=false:=h4;rw[ltK]at h4;have h5:¬t.V d'[j].val<t.V d'[i].val:=of_decide_eq_false h4;have hne:t.V d'[i].val≠t.V d'[j].val:=fun e=>by
   have e2:=Fin.ext (hd _ _ d'[i].isLt d'[j].isLt e);have hnd:d'.toList.Nodup:=hperm.nodup_iff.2 (List.nodup_finRange K);have:=(List.getElem_inj (h₀:=hi) (h₁:=hj) hnd).1 (by simpa using e2);omega
  simp only[Array.getElem_toList];omega
 ·have hjd:j<d'.size:=by omega
  have q0:=(hHA.cell hjd (show 0<3 by omega)).1;have q1:=(hHA.cell hjd (show 1<3 by omega)).1;have q2:=(hHA.cell hjd (show 2<3 by omega)).1;rw[Nat.zero_add]at q0 q1 q2;have e:(d'.toList.map Fin.val).getD j 0=(d'[j]!).val:=by
   rw[getElem!_pos d' j hjd];simp[List.getD_eq_getElem?_getD,hjd]
  rw[e];exact⟨q0,q1,q2⟩
 ·have hjd:i/3<d'.size:=by omega
  have q:=(hHA.cell hjd (show i%3<3 by omega)).2;rw[Nat.zero_add,show i/3*3+i%3=i by omega]at q;exact q
section
variable {P : Program} {ops : Array Oper} {md : Region.Mode} {D : World → Prop}
def anyL(P:Program)(md:Region.Mode)(ops:Array Oper)(D:World→Prop)(sE:Array Bool)(R:Act→World→Prop):Nat→Array Bool→Act→World→Prop
 |0,seen,a,w=>seen=sE∧R a w
 |f+1,seen,a,w=>Region.ready md ops seen≠[]∧∀i∈Region.ready md ops seen,wpOp P ops (endN R) i (fun a' w'=>D w'∧anyL P md ops D sE R f (seen.setIfInBounds i true) a' w') a w
theorem any_of_anyL{R:Act→World→Prop}{Q:Exit→Act→World→Prop}{sE:Array Bool}{c:Nat}(hE:Region.ready md ops sE=[c])(hE2:Region.ready md ops (sE.setIfInBounds c true)=[])(hR:∀a w,R a w→wpOp P ops Q c (fun a' w'=>Q .normal a' w') a w)(f:Nat):
 ∀(seen:Array Bool) (a:Act) (w:World),anyL P md ops D sE R f seen a w→wpAny P md ops Q (f+1) seen a w:=by
 induction f with
 |zero =>
  intro seen a w h;obtain⟨rfl,h⟩:=h;refine⟨fun h0=>(by rw[hE]at h0;cases h0),fun i hi=>?_⟩;rw[hE]at hi;obtain rfl:i=c:=by simpa using hi
  exact wpOp_mono (fun a' w' h'=>⟨hE2,h'⟩) (hR a w h)
 |succ f ih =>
  intro seen a w h;refine⟨fun h0=>absurd h0 h.1,fun i hi=>?_⟩;exact wpOp_ends (fun a' w' h'=>ih _ a' w' h'.2) (h.2 i hi)
theorem anyL_first{R:Act→World→Prop}{sE:Array Bool}{c i:Nat}{oi oc:Oper}{v:Value}(hE:Region.ready md ops sE=[c])(hc:ops[c]?=some oc)(hedge:∃e∈oc.after,Region.binds md e=true∧e.on=i)
 (hi:ops[i]?=some oi) (hsel:∀(j:Nat) (o:Oper) cs b,ops[j]?=some o→o.op≠.select cs b) (f:Nat) :
 ∀(seen:Array Bool) (a:Act) (w:World),D w →
  (∀j oj,ops[j]?=some oj→j≠i→seen.getD j true=false→(∀e∈oj.after,Region.binds md e=true→e.on≠i)→oi.apart ops oj=true) →
  i∈Region.ready md ops seen→StillIn P ops D oi v a →
  anyL P md ops D sE R f (seen.setIfInBounds i true) (a.put oi.dst v) w→anyL P md ops D sE R (f+1) seen a w:=by
 induction f with
 |zero =>
  intro seen a w hD _ hr hy H;refine⟨List.ne_nil_of_mem hr,fun j hj=>?_⟩;by_cases hji:j=i;·subst hji;exact hy.wpOp hi hD ⟨hD,H⟩
  have h1:=ready_mono hj hji;rw[H.1,hE]at h1;obtain rfl:j=c:=by simpa using h1
  obtain⟨hjun,oj,hoj,hall⟩:=mem_ready.1 hj;rw[hc]at hoj;injection hoj with hoj;subst hoj;obtain⟨e,he,hb,hon⟩:=hedge;have h2:=hall e he hb;rw[hon,getD_both (mem_ready.1 hr).1]at h2;cases h2
 |succ f ih =>
  intro seen a w hD hfree hr hy H;refine⟨List.ne_nil_of_mem hr,fun j hj=>?_⟩;by_cases hji:j=i;·subst hji;exact hy.wpOp hi hD ⟨hD,H⟩
  have h1:=H.2 j (ready_mono hj hji);obtain⟨hjun,oj,hoj,hall⟩:=mem_ready.1 hj;have hun:=(mem_ready.1 hr).1;have hnot:∀e∈oj.after,Region.binds md e=true→e.on≠i:=by
   intro e he hb heq;have h2:=hall e he hb;rw[heq,getD_both hun]at h2;cases h2
  have h2:=wpOp_put hoj (hfree j oj hoj hji hjun hnot) (fun cs b=>hsel i oi cs b hi) (fun cs b=>hsel j oj cs b hoj) hy h1;refine wpOp_mono (fun a' w' h3=>⟨h3.2.1,ih (seen.setIfInBounds j true) a' w' h3.2.1 ?_ (ready_mono hr (Ne.symm hji)) h3.1 ?_⟩) h2
  ·intro k ok hk hki hunk hno
   refine hfree k ok hk hki ?_ hno;by_cases hjk:j=k
   ·subst hjk
    exact hjun
   rw[getD_set_ne true hjk]at hunk;exact hunk
  rw[Array.setIfInBounds_comm _ _ hji];exact h3.2.2
def ordL(md:Region.Mode)(ops:Array Oper)(c:Nat):List (Nat×Bool)→Array Bool→Bool
 |[],seen=>(Region.ready md ops seen==[c])&&(Region.ready md ops (seen.setIfInBounds c true)).isEmpty
 |(i,true)::r,seen=>(Region.ready md ops seen).contains i&&Region.free md ops seen i&&(match ops[c]? with|some o=>o.after.any (fun e=>Region.binds md e&&e.on==i)|none=>false)&&ordL md ops c r (seen.setIfInBounds i true)
 |(i,false)::r,seen=>(Region.ready md ops seen==[i])&&ordL md ops c r (seen.setIfInBounds i true)
def seenBy:List (Nat×Bool)→Array Bool→Array Bool
 |[],seen=>seen
 |(i,_)::r,seen=>seenBy r (seen.setIfInBounds i true)
theorem ordL_end{c:Nat}:∀(l:List (Nat×Bool)) (seen:Array Bool),ordL md ops c l seen=true→Region.ready md ops (seenBy l seen)=[c]∧Region.ready md ops ((seenBy l seen).setIfInBounds c true)=[]
 |[],seen,h=>by simpa[ordL,seenBy]using h
 |(i,true)::r,seen,h=>by
  simp only[ordL,Bool.and_eq_true]at h;exact ordL_end r _ h.2
 |(i,false)::r,seen,h=>by
  simp only[ordL,Bool.and_eq_true]at h;exact ordL_end r _ h.2
theorem anyL_of_walk{R:Act→World→Prop}{c:Nat}{sE:Array Bool}(hs:Region.noSelect ops=true)(hE:Region.ready md ops sE=[c]):∀(l:List (Nat×Bool)) (seen:Array Bool) (a:Act) (w:World),D w→seenBy l seen=sE →
 ordL md ops c l seen=true→walkF P ops D R l a w→anyL P md ops D sE R l.length seen a w
 |[],_,_,_,_,hq,hB,h=>⟨hq,h⟩
 |(i,true)::r,seen,a,w,hD,hq,hB,h=>by
  simp only[ordL,Bool.and_eq_true]at hB;obtain⟨⟨⟨hr,hf⟩,he⟩,hB'⟩:=hB;obtain⟨o,v,ho,hy,hK⟩:=h;cases hc:ops[c]? with
  |none=>simp[hc]at he
  |some oc =>
   simp only[hc,Array.any_eq_true]at he;obtain⟨x,hx,hb⟩:=he;simp only[Bool.and_eq_true,beq_iff_eq]at hb;exact anyL_first hE hc ⟨oc.after[x],Array.getElem_mem hx,hb.1,hb.2⟩ ho (Region.noSelect_spec hs) r.length seen a w hD (Region.free_spec ho hf) (by simpa using hr) hy (anyL_of_walk hs hE r _ _ w hD hq hB' hK)
 |(i,false)::r,seen,a,w,hD,hq,hB,h=>by
  simp only[ordL,Bool.and_eq_true,beq_iff_eq]at hB;obtain⟨hr,hB'⟩:=hB;refine⟨by rw[hr];exact List.cons_ne_nil _ _,fun j hj=>?_⟩;rw[hr]at hj;obtain rfl:j=i:=by simpa using hj
  exact wpOp_mono (fun a' w' h'=>⟨h'.1,anyL_of_walk hs hE r _ a' w' h'.1 hq hB' h'.2⟩) h
theorem region_mixed_last{id:Nat}{Q:Exit→Act→World→Prop}{a:Act}{w:World}{l:List Oper}(D:World→Prop)(s:List (List Nat×Nat))(last:List Nat)(c:Nat)(hm:P.follows .mixedOrders=true)
 (hB:(Region.noSelect l.toArray&&fitB l s last&&(l[c]?).isSome&&decide ((flatO s last).length+1=l.length)&&ordL .any l.toArray c (flatO s last) (Array.replicate l.length false))=true) (hD:D w.drew)
 (h:mixO P l D (fun a' w'=>wpList P l.toArray Q (pickO l [c]) a' w') s last a w.drew):(Code.region id l.toArray true).wp P Q a w:=by
 simp only[Bool.and_eq_true,decide_eq_true_eq]at hB
 obtain⟨⟨⟨⟨hsel,hf⟩,hcs⟩,hlen⟩,hord⟩:=hB
 obtain⟨oc,hoc⟩:=Option.isSome_iff_exists.1 hcs
 obtain⟨hE1,hE2⟩:=ordL_end _ _ hord
 refine wp_region_any hm ?_
 have h1:=anyL_of_walk (md:=.any) (c:=c) hsel hE1 (flatO s last) _ a w.drew hD rfl hord (walk_of_mix last s a w.drew hf h)
 have h2:=any_of_anyL (Q:=Q) hE1 hE2 (fun a' w' h'=>by
  have h0:l.toArray[c]?=some oc:=by simpa using hoc
  simp only[pickO,hoc,wpList]at h';unfold wpOp;simp only[h0];exact h') _ _ _ _ h1
 rw[hlen]at h2
 simpa using h2
theorem mixO_last{l lq:List Oper}{lc:List Oper}{Q:Exit→Act→World→Prop}{last:List Nat}{c:Nat}{a:Act}{w:World}(h:wpQuiet P l.toArray (fun w'=>∃u:Of D,w'=u.val) (fun a'=>wpList P l.toArray Q lc a' w) lq a)
 (hq:pickO l last=lq:=by simp only[pickO,List.getElem?_cons_zero,List.getElem?_cons_succ];exact rfl) (hc:pickO l [c]=lc:=by simp only[pickO,List.getElem?_cons_zero,List.getElem?_cons_succ];exact rfl):mixO P l D (fun a' w'=>wpList P l.toArray Q (pickO l [c]) a' w') [] last a w:=by
 subst hq hc
 exact h
end
end Go.Proofs.YtajmnlhfnhbleaaGreat
