/- Several texts of one proof, in their order. -/
import Derived.StillTail
import Derived.Test.YtajmnlhfnhbleaaGreatKw0
namespace Go.Proofs.YtajmnlhfnhbleaaGreat
open Go.RowKit
set_option linter.unusedVariables false
set_option maxHeartbeats 1000000
theorem check_ok(a:Int)(ha:0≤a∧a≤30)(w:World):
 Calls Tryz.prog 144 #[.int .i64 a] w fun e w'=>e=.returned (.int .i64 0)∧w'=w:=by
 go_enter Tryz.func144,Tryz.ntmps144
 go_wp2
 go_ret
 exact⟨rfl,rfl⟩
theorem check_bad(a:Int)(ha:¬(0≤a∧a≤30))(w:World):
 Calls Tryz.prog 144 #[.int .i64 a] w fun e w'=>e=.returned (.int .i64 2)∧w'=w:=by
 by_cases h0:a<0
 ·go_enter Tryz.func144,Tryz.ntmps144
  go_wp2;go_ret;exact⟨rfl,rfl⟩
 ·have h1:31≤a:=by omega
  clear ha;go_enter Tryz.func144,Tryz.ntmps144;go_wp2;go_ret;exact⟨rfl,rfl⟩
def isNum(a:Int):Bool:=decide (0≤a∧a≤30)
theorem isNum_iff(a:Int):isNum a=true↔0≤a∧a≤30:=by unfold isNum;simp
section
variable {P : Program} {ops : Array Oper} {md : Region.Mode} {C : World → Prop}
end
section
variable {P : Program} {ops : Array Oper} {md : Region.Mode} {D : World → Prop}
def endN(R:Act→World→Prop):Exit→Act→World→Prop:=fun ex a w=>ex=.normal∧R a w
theorem letsOut_endN{R:Act→World→Prop}:¬LetsOut (endN R):=fun⟨_,_,h,_⟩=>by cases h
theorem upon_ends{o:Oper}{a a':Act}{K K':Act→World→Prop}{R:Act→World→Prop}{Q:Exit→Act→World→Prop}{r:Result Next}(hv:∀v w,K (a.put o.dst v) w→K' (a'.put o.dst v) w)
 (hd:∀d w,K ({ a with defers:=d::a.defers }.put o.dst undef) w→K' ({ a' with defers:=d::a'.defers }.put o.dst undef) w) (h:o.upon P a K (endN R) r):o.upon P a' K' Q r:=by
 cases r with
 |ok n w' =>
  cases n with
  |value v=>exact hv v w' h
  |skip=>exact hv undef w' h
  |defer d=>exact hd d w' h
  |enter f args =>
   refine Calls.mono (P:=P) h ?_;intro e w'' he;cases e with
   |returned v=>exact hv v w'' he
   |panicked c=>exact absurd he.1 (by intro e;cases e)
   |outgrown=>exact absurd he letsOut_endN
  |row row args=>exact Rows.mono (P:=P) h fun v w'' he=>hv v w'' he
  |_=>exact h
 |halt x w' =>
  cases x with
  |panic v=>exact absurd h.1 (by intro e;cases e)
  |_=>exact h
def StillIn(P:Program)(ops:Array Oper)(D:World→Prop)(o:Oper)(v:Value)(a:Act):Prop :=
 (Region.wanted o (yielded ops a.tmps)=true∧∀w,D w→(execOp a.eval o).run P w=.ok (.value v) w∨((execOp a.eval o).run P w=.ok .skip w∧v=undef)) ∨
 (Region.wanted o (yielded ops a.tmps)=false∧v=undef)
theorem StillIn.of_same{o:Oper}{v:Value}{a a':Act}(hy:StillIn P ops D o v a)(he:execOp a'.eval o=execOp a.eval o)
 (hw:Region.wanted o (yielded ops a'.tmps)=Region.wanted o (yielded ops a.tmps)):StillIn P ops D o v a':=by
 unfold StillIn at *
 rw[he,hw]
 exact hy
theorem StillIn.wpOp{i:Nat}{o:Oper}{v:Value}{a:Act}{w:World}{Q:Exit→Act→World→Prop}{K:Act→World→Prop}(hi:ops[i]?=some o)(hD:D w)(hy:StillIn P ops D o v a)(h:K (a.put o.dst v) w):wpOp P ops Q i K a w:=by
 unfold Go.wpOp;simp only[hi];rcases hy with⟨hw,hv⟩|⟨hw,rfl⟩
 ·simp only[hw,if_true]
  refine Or.inl ?_;unfold Oper.wp;rcases hv w hD with e|⟨e,rfl⟩;·rw[e];exact h
  rw[e];exact h
 simp only[hw,Bool.false_eq_true,if_false];exact h
def anyM(P:Program)(md:Region.Mode)(ops:Array Oper)(D:World→Prop)(R:Act→World→Prop):Nat→Array Bool→Act→World→Prop
 |0,seen,a,w=>Region.ready md ops seen=[]∧R a w
 |f+1,seen,a,w=>(Region.ready md ops seen=[]→R a w)∧∀i∈Region.ready md ops seen,wpOp P ops (endN R) i (fun a' w'=>D w'∧anyM P md ops D R f (seen.setIfInBounds i true) a' w') a w
theorem wpOp_ends{i:Nat}{a:Act}{w:World}{K K':Act→World→Prop}{R:Act→World→Prop}{Q:Exit→Act→World→Prop}(h:∀a w,K a w→K' a w)(hh:wpOp P ops (endN R) i K a w):wpOp P ops Q i K' a w:=by
 unfold wpOp at *;split;·rename_i ho;simp only[ho]at hh;exact h _ _ hh
 rename_i o ho;simp only[ho]at hh;split
 ·rename_i hw
  simp only[hw,if_true]at hh;rcases hh with hh|hh;·exact Or.inl (upon_ends (fun v w=>h _ w) (fun d w=>h _ w) hh)
  exact absurd hh.2 letsOut_endN
 rename_i hw;simp only[hw]at hh;exact h _ _ hh
theorem any_of_anyM{R:Act→World→Prop}{Q:Exit→Act→World→Prop}(hR:∀a w,R a w→Q .normal a w)(f:Nat):∀(seen:Array Bool) (a:Act) (w:World),anyM P md ops D R f seen a w→wpAny P md ops Q f seen a w:=by
 induction f with
 |zero=>intro seen a w h;exact⟨h.1,hR _ _ h.2⟩
 |succ f ih=>intro seen a w h;exact⟨fun h0=>hR _ _ (h.1 h0),fun i hi=>wpOp_ends (fun a' w' h'=>ih _ a' w' h'.2) (h.2 i hi)⟩
theorem wpOp_put{j:Nat}{oi oj:Oper}{v:Value}{R:Act→World→Prop}(hj:ops[j]?=some oj)(hap:oi.apart ops oj=true)
 (hsi:∀cs b,oi.op≠.select cs b) (hsj:∀cs b,oj.op≠.select cs b) {K:Act→World→Prop} {a:Act} {w:World}
 (hy:StillIn P ops D oi v a) (h:wpOp P ops (endN R) j K (a.put oi.dst v) w) :
 wpOp P ops (endN R) j (fun a' w'=>StillIn P ops D oi v a'∧K (a'.put oi.dst v) w') a w:=by
 obtain⟨h1,h2,h3⟩:=Oper.apart_spec hap
 have keep:∀(a:Act),StillIn P ops D oi v a→∀u,StillIn P ops D oi v (a.put oj.dst u):=fun a hy u =>
  hy.of_same (execOp_put oi hsi a oj.dst u h3) (wanted_put oi a oj.dst u h3)
 have keepd:∀d,StillIn P ops D oi v { a with defers:=d::a.defers }:=fun d=>hy.of_same rfl rfl
 unfold wpOp at *
 simp only[hj]at *
 rw[wanted_put oj a oi.dst v h1]at h
 split
 ·rename_i hw
  simp only[hw,if_true]at h;rcases h with h|h
  ·refine Or.inl ?_
   unfold Oper.wp at *;rw[execOp_put oj hsj a oi.dst v h1]at h;refine upon_ends (fun u w' hk=>⟨keep a hy u,?_⟩) (fun d w' hk=>⟨keep _ (keepd d) _,?_⟩) h;·rw[←Act.put_comm a v u h2];exact hk
   rw[←Act.put_comm _ v undef h2];exact(by
    have e:({ (a.put oi.dst v)with defers:=d::(a.put oi.dst v).defers }:Act)=({ a with defers:=d::a.defers }:Act).put oi.dst v:=by
     cases oi.dst<;>simp[Act.put]
    rw[e]at hk;exact hk)
  exact absurd h.2 letsOut_endN
 ·rename_i hw
  simp only[hw]at h;exact⟨keep a hy _,by rw[←Act.put_comm a v undef h2];exact h⟩
theorem anyM_first{R:Act→World→Prop}{i:Nat}{oi:Oper}{v:Value}(hi:ops[i]?=some oi)(hsel:∀(j:Nat) (o:Oper) cs b,ops[j]?=some o→o.op≠.select cs b)(f:Nat):
 ∀(seen:Array Bool) (a:Act) (w:World),D w →
  (∀j oj,ops[j]?=some oj→j≠i→seen.getD j true=false→(∀e∈oj.after,Region.binds md e=true→e.on≠i)→oi.apart ops oj=true) →
  i∈Region.ready md ops seen→StillIn P ops D oi v a →
  anyM P md ops D R f (seen.setIfInBounds i true) (a.put oi.dst v) w→anyM P md ops D R (f+1) seen a w:=by
 induction f with
 |zero =>
  intro seen a w hD _ hr hy H;refine⟨fun h=>(by rw[h]at hr;cases hr),fun j hj=>?_⟩;by_cases hji:j=i;·subst hji;exact hy.wpOp hi hD ⟨hD,H⟩
  have:=ready_mono hj hji;rw[H.1]at this;cases this
 |succ f ih =>
  intro seen a w hD hfree hr hy H;refine⟨fun h=>(by rw[h]at hr;cases hr),fun j hj=>?_⟩;by_cases hji:j=i;·subst hji;exact hy.wpOp hi hD ⟨hD,H⟩
  have h1:=H.2 j (ready_mono hj hji);obtain⟨hjun,oj,hoj,hall⟩:=mem_ready.1 hj;have hun:=(mem_ready.1 hr).1;have hnot:∀e∈oj.after,Region.binds md e=true→e.on≠i:=by
   intro e he hb heq;have h2:=hall e he hb;rw[heq,getD_both hun]at h2;cases h2
  have h2:=wpOp_put hoj (hfree j oj hoj hji hjun hnot) (fun cs b=>hsel i oi cs b hi) (fun cs b=>hsel j oj cs b hoj) hy h1;refine wpOp_mono (fun a' w' h3=>⟨h3.2.1,ih (seen.setIfInBounds j true) a' w' h3.2.1 ?_ (ready_mono hr (Ne.symm hji)) h3.1 ?_⟩) h2
  ·intro k ok hk hki hunk hno
   refine hfree k ok hk hki ?_ hno;by_cases hjk:j=k
   ·subst hjk
    exact hjun
   rw[getD_set_ne true hjk]at hunk;exact hunk
  rw[Array.setIfInBounds_comm _ _ hji];exact h3.2.2
def walkF(P:Program)(ops:Array Oper)(D:World→Prop)(R:Act→World→Prop):List (Nat×Bool)→Act→World→Prop
 |[],a,w=>R a w
 |(i,true)::r,a,w=>∃o v,ops[i]?=some o∧StillIn P ops D o v a∧walkF P ops D R r (a.put o.dst v) w
 |(i,false)::r,a,w=>wpOp P ops (endN R) i (fun a' w'=>D w'∧walkF P ops D R r a' w') a w
def ordB(md:Region.Mode)(ops:Array Oper):List (Nat×Bool)→Array Bool→Bool
 |[],seen=>(Region.ready md ops seen).isEmpty
 |(i,true)::r,seen=>(Region.ready md ops seen).contains i&&Region.free md ops seen i&&ordB md ops r (seen.setIfInBounds i true)
 |(i,false)::r,seen=>(Region.ready md ops seen==[i])&&ordB md ops r (seen.setIfInBounds i true)
theorem anyM_of_walk{R:Act→World→Prop}(hs:Region.noSelect ops=true):∀(l:List (Nat×Bool)) (seen:Array Bool) (a:Act) (w:World),D w →
 ordB md ops l seen=true→walkF P ops D R l a w→anyM P md ops D R l.length seen a w
 |[],_,_,_,_,hB,h=>⟨by simpa[ordB]using hB,h⟩
 |(i,true)::r,seen,a,w,hD,hB,h=>by
  simp only[ordB,Bool.and_eq_true]at hB;obtain⟨⟨hr,hf⟩,hB'⟩:=hB;obtain⟨o,v,ho,hy,hK⟩:=h;exact anyM_first ho (Region.noSelect_spec hs) r.length seen a w hD (Region.free_spec ho hf) (by simpa using hr) hy (anyM_of_walk hs r _ _ w hD hB' hK)
 |(i,false)::r,seen,a,w,hD,hB,h=>by
  simp only[ordB,Bool.and_eq_true,beq_iff_eq]at hB;obtain⟨hr,hB'⟩:=hB;refine⟨fun h0=>(by rw[h0]at hr;cases hr),fun j hj=>?_⟩;rw[hr]at hj;obtain rfl:j=i:=by simpa using hj
  exact wpOp_mono (fun a' w' h'=>⟨h'.1,anyM_of_walk hs r _ a' w' h'.1 hB' h'.2⟩) h
def plainB(o:Oper):Bool :=
 match o.op with
 |.move _ | .assign _ | .pick _ _ _ | .build _ _ | .load _ _ | .binOp _ _ _ _ _ | .unOp _ _ _ | .convert _ _ _ | .slice _ _ _ _ _ | .fieldAddr _ _ _ | .field _ _ _ | .indexAddr _ _ _ | .index _ _ _ | .lookup _ _ _ _ | .extract _ _=>true
 |.call ⟨.builtin .len,_,_⟩=>true
 |_=>false
theorem value_run(s:Sem Value)(w w':World)(f:FuncId)(args:Array Value):(do pure (Next.value (←s)):Sem Next).run P w≠.ok (.enter f args) w':=by
 rw[Sem.run_bind];cases s.run P w with
 |ok v w1=>simp only[Result.andThen,Sem.run_pure];intro h;injection h with h1;cases h1
 |halt x w1=>simp only[Result.andThen];intro h;cases h
theorem plain_run{o:Oper}{ρ:Operand→Value}(h:plainB o=true)(w w':World)(f:FuncId)(args:Array Value):(execOp ρ o).run P w≠.ok (.enter f args) w':=by
 obtain⟨dst,op,ty,pos,after,guard⟩:=o;unfold plainB at h;split at h;·rename_i x;simp only at *;subst_vars;simp only[execOp,Sem.run_pure];intro h;injection h with h1;cases h1
 ·rename_i x;simp only at *;subst_vars;simp only[execOp,Sem.run_pure];intro h;injection h with h1;cases h1
 ·rename_i c a b e
  simp only at e;subst e;simp only[execOp];rw[Sem.run_bind];cases (asBool (ρ c)).run P w with
  |ok v w1=>simp only[Result.andThen,Sem.run_pure];intro h;injection h with h1;cases h1
  |halt x w1=>simp only[Result.andThen];intro h;cases h
 all_goals first
  |(cases h;done)
  |(rename_i e;simp only at e;subst e;simp only[execOp,resolve,invoke,builtin,pure_bind];exact value_run _ w w' f args)
structure Of(D:World→Prop) where
 val:World
 is:D val
def inD(D:World→Prop):World→Prop:=fun w=>∃u:Of D,w=u.val
theorem still_of_yields{o:Oper}{v:Value}{a:Act}(hp:plainB o=true)(h:YieldsIn P ops (inD D) o v a):StillIn P ops D o v a:=by
 rcases h with⟨hw,h⟩|h
 ·refine Or.inl ⟨hw,fun w hD=>?_⟩
  have h1:=h w ⟨⟨w,hD⟩,rfl⟩;unfold Oper.quietAt at h1;have h2:=fun w' f args=>plain_run (P:=P) (ρ:=a.eval) hp w w' f args;generalize (execOp a.eval o).run P w=r at *;cases r with
  |ok n w' =>
   cases n with
   |value u=>obtain⟨rfl,rfl⟩:=h1;exact Or.inl rfl
   |skip=>obtain⟨rfl,rfl⟩:=h1;exact Or.inr ⟨rfl,rfl⟩
   |enter f args=>exact absurd rfl (h2 w' f args)
   |_=>exact h1.elim
  |halt x w'=>exact h1.elim
 exact Or.inr h
def pickO(l:List Oper):List Nat→List Oper
 |[]=>[]
 |i::r=>match l[i]? with
  |some o=>o::pickO l r
  |none=>pickO l r
def mixO(P:Program)(l:List Oper)(D:World→Prop)(R:Act→World→Prop):List (List Nat×Nat)→List Nat→Act→World→Prop
 |[],last,a,w=>wpQuiet P l.toArray (fun w'=>∃u:Of D,w'=u.val) (fun a'=>R a' w) (pickO l last) a
 |(q,c)::r,last,a,w=>wpQuiet P l.toArray (fun w'=>∃u:Of D,w'=u.val) (fun a'=>wpList P l.toArray (endN fun a'' w''=>D w''∧mixO P l D R r last a'' w'') (pickO l [c]) a' w) (pickO l q) a
def flatO(s:List (List Nat×Nat))(last:List Nat):List (Nat×Bool) :=
 match s with
 |[]=>last.map (·,true)
 |(q,c)::r=>q.map (·,true)++(c,false)::flatO r last
def fitB(l:List Oper)(s:List (List Nat×Nat))(last:List Nat):Bool :=
 s.all (fun p=>p.1.all (fun i=>match l[i]? with|some o=>plainB o|none=>false)&&(l[p.2]?).isSome)&&last.all (fun i=>match l[i]? with|some o=>plainB o|none=>false)
theorem walk_quiet{l:List Oper}{R G:Act→World→Prop}{rest:List (Nat×Bool)}{w:World}(hG:∀a,G a w→walkF P l.toArray D R rest a w):∀(q:List Nat) (a:Act),(q.all (fun i=>match l[i]? with|some o=>plainB o|none=>false))=true →
 wpQuiet P l.toArray (fun w'=>∃u:Of D,w'=u.val) (fun a'=>G a' w) (pickO l q) a→walkF P l.toArray D R (q.map (·,true)++rest) a w
 |[],a,_,h=>hG a h
 |i::q,a,hq,h=>by
  simp only[List.all_cons,Bool.and_eq_true]at hq;obtain⟨h1,h2⟩:=hq;cases ho:l[i]? with
  |none=>simp[ho]at h1
  |some o =>
   simp only[ho]at h1;simp only[pickO,ho]at h;have h0:l.toArray[i]?=some o:=by simpa using ho
   have hst:qOp P l.toArray (fun w'=>∃u:Of D,w'=u.val) i (wpQuiet P l.toArray (fun w'=>∃u:Of D,w'=u.val) (fun a'=>G a' w) (pickO l q)) a:=by unfold qOp;simp only[h0];exact h
   obtain⟨v,hy,hK⟩:=yieldsIn_of_qOp h0 hst;exact⟨o,v,h0,still_of_yields h1 hy,walk_quiet hG q _ h2 hK⟩
theorem walk_of_mix{l:List Oper}{R:Act→World→Prop}(last:List Nat):∀(s:List (List Nat×Nat)) (a:Act) (w:World),fitB l s last=true→mixO P l D R s last a w→walkF P l.toArray D R (flatO s last) a w
 |[],a,w,hf,h=>by
  have h2:last.all (fun i=>match l[i]? with|some o=>plainB o|none=>false)=true:=by simpa[fitB]using hf
  have:=walk_quiet (P:=P) (D:=D) (R:=R) (G:=R) (rest:=[]) (fun a h=>h) last a h2 h;simpa[flatO]using this
 |(q,c)::r,a,w,hf,h=>by
  simp only[fitB,List.all_cons,Bool.and_eq_true]at hf;obtain⟨⟨⟨h1,h2⟩,h3⟩,h4⟩:=hf;obtain⟨o,ho⟩:=Option.isSome_iff_exists.1 h2;refine walk_quiet (fun a' ha'=>?_) q a h1 h;have h0:l.toArray[c]?=some o:=by simpa using ho
  simp only[pickO,ho,wpList]at ha';show wpOp P l.toArray (endN R) c _ a' w;unfold wpOp;simp only[h0];have hk:∀a'' w'',endN (fun a'' w''=>D w''∧mixO P l D R r last a'' w'') .normal a'' w''→D w''∧walkF P l.toArray D R (flatO r last) a'' w'':=fun a'' w'' hh=>⟨hh.2.1,walk_of_mix last r a'' w'' (by simp only[fitB,Bool.and_eq_true];exact⟨h3,h4⟩) hh.2.2⟩;split
  ·rename_i hw
   simp only[hw,if_true]at ha';rcases ha' with ha'|ha';·exact Or.inl (upon_ends (fun v w1 hh=>hk _ _ hh) (fun d w1 hh=>hk _ _ hh) ha')
   exact absurd ha'.2 letsOut_endN
  rename_i hw;simp only[hw]at ha';exact hk _ _ ha'
theorem region_mixed{id:Nat}{Q:Exit→Act→World→Prop}{a:Act}{w:World}{l:List Oper}(D:World→Prop)(s:List (List Nat×Nat))(last:List Nat)(hm:P.follows .mixedOrders=true)
 (hB:(Region.noSelect l.toArray&&fitB l s last&&decide ((flatO s last).length=l.length)&&ordB .any l.toArray (flatO s last) (Array.replicate l.length false))=true) (hD:D w.drew)
 (h:mixO P l D (fun a' w'=>Q .normal a' w') s last a w.drew):(Code.region id l.toArray true).wp P Q a w:=by
 simp only[Bool.and_eq_true,decide_eq_true_eq]at hB
 obtain⟨⟨⟨hsel,hf⟩,hlen⟩,hord⟩:=hB
 refine wp_region_any hm ?_
 have h1:=anyM_of_walk (md:=.any) hsel (flatO s last) _ a w.drew hD hord (walk_of_mix last s a w.drew hf h)
 rw[hlen]at h1
 have h2:=any_of_anyM (Q:=Q) (fun _ _ h=>h) _ _ _ _ h1
 simpa using h2
theorem mixO_cons{l lq lc:List Oper}{R:Act→World→Prop}{q:List Nat}{c:Nat}{r:List (List Nat×Nat)}{last:List Nat}{a:Act}{w:World}(h:wpQuiet P l.toArray (fun w'=>∃u:Of D,w'=u.val) (fun a'=>∀K:Act→World→Prop,(∀a'' w'',D w''→mixO P l D R r last a'' w''→K a'' w'')→wpList P l.toArray (endN K) lc a' w) lq a)
 (hq:pickO l q=lq:=by simp only[pickO,List.getElem?_cons_zero,List.getElem?_cons_succ];exact rfl) (hc:pickO l [c]=lc:=by simp only[pickO,List.getElem?_cons_zero,List.getElem?_cons_succ];exact rfl):mixO P l D R ((q,c)::r) last a w:=by
 subst hq hc
 have key:∀(q:List Oper) (a:Act) (G G':Act→Prop),(∀a,G a→G' a)→wpQuiet P l.toArray (fun w'=>∃u:Of D,w'=u.val) G q a→wpQuiet P l.toArray (fun w'=>∃u:Of D,w'=u.val) G' q a:=by
  intro q;induction q with
  |nil=>intro a G G' hG h;exact hG a h
  |cons o q ih =>
   intro a G G' hG h;simp only[wpQuiet]at *;split
   ·rename_i hw
    simp only[hw,if_true]at h;exact Oper.quiet_mono (fun a' h'=>ih a' G G' hG h') h
   rename_i hw;simp only[hw]at h;exact ih _ G G' hG h
 exact key _ _ _ _ (fun a' h'=>h' _ (fun a'' w'' h1 h2=>⟨h1,h2⟩)) h
theorem mixO_nil{l lq:List Oper}{R:Act→World→Prop}{last:List Nat}{a:Act}{w:World}(h:wpQuiet P l.toArray (fun w'=>∃u:Of D,w'=u.val) (fun a'=>R a' w) lq a)
 (hq:pickO l last=lq:=by simp only[pickO,List.getElem?_cons_zero,List.getElem?_cons_succ];exact rfl):mixO P l D R [] last a w:=by
 subst hq
 exact h
end
def numsB(n:Nat)(X:Nat→Int):Bool:=decide (∀j,j<n→isNum (X j)=true)
def oneE(nd of sz N:Int)(L:Nat)(X:Nat→Int):Int :=
 if planOk nd of sz=true then(if 0≤N∧N<of then(if(L:Int)=rowsN nd sz then(if numsB L X=true then 0 else 2)else 3)else 4)else 2
def sameB(N1 N2:Int)(n m:Nat)(X Y:Nat→Int):Bool:=decide (N1=N2)&&eqB n m X Y
def numsFrom(X:Nat→Int)(n k:Nat):Bool:=decide (∀j,j<n→k≤j→isNum (X j)=true)
theorem numsFrom_zero(X:Nat→Int)(n:Nat):numsFrom X n 0=numsB n X:=by
 unfold numsFrom numsB;rw[decide_eq_decide];exact⟨fun h j hj=>h j hj (Nat.zero_le _),fun h j hj _=>h j hj⟩
theorem numsFrom_bad{X:Nat→Int}{n k:Nat}{b:Bool}(hk:k<n)(h:numsFrom X n k=b)(hb:isNum (X k)=false):b=false:=by
 rw[←h];refine decide_eq_false fun h1=>?_;have:=h1 k hk (Nat.le_refl _);rw[hb]at this;cases this
theorem numsFrom_next{X:Nat→Int}{n k:Nat}{b:Bool}(h:numsFrom X n k=b)(hb:isNum (X k)=true):numsFrom X n (k+1)=b:=by
 rw[←h];unfold numsFrom;rw[decide_eq_decide];constructor
 ·intro h1 j hjn hj
  by_cases e:j=k;·rw[e];exact hb
  exact h1 j hjn (by omega)
 intro h1 j hjn hj;exact h1 j hjn (by omega)
theorem numsFrom_end{X:Nat→Int}{n:Nat}{b:Bool}(h:numsFrom X n n=b):b=true:=by
 rw[←h];exact decide_eq_true fun j h1 h2=>by omega
theorem shLong(nd of sz:Int)(w:World):Calls Tryz.prog 112 #[planV nd of sz] w fun e w'=>e=.returned (.int .i64 (longP nd of sz))∧Below w.heap.size w w':=by
 have hbx:=below_alloc w (.cells #[.int .i64 nd,.int .i64 of,.int .i64 sz] 59);have HC:=hid (shCheck nd of sz (w.alloc (.cells #[.int .i64 nd,.int .i64 of,.int .i64 sz] 59)));have HBx:=hid hbx;clear hbx;unfold longP;by_cases hp:planOk nd of sz=true
 ·have e:chkP nd of sz=0:=by unfold chkP;rw[if_pos hp]
  rw[if_pos hp];rw[e]at HC;obtain⟨hnd,hof,hsz⟩:=planOk_spec hp;obtain⟨r,hr⟩:∃r:Int,(sz+nd-1)/nd=r:=⟨_,rfl⟩;have hr0:0≤r∧r≤27:=by
   rw[←hr];rcases(show nd=1∨nd=2∨nd=3∨nd=4 by omega)with rfl|rfl|rfl|rfl<;>omega
  have hR:((rowsN nd sz:Nat):Int)=r:=by unfold rowsN;omega
  rw[hR];have ht:(sz+nd-1).tdiv nd=r:=by rw[Int.tdiv_eq_ediv_of_nonneg (by omega)];exact hr
  clear hp e hr hR;unfold planV;go_enter Tryz.func112,Tryz.ntmps112;go_wp2_with fail
  refine HC.out.mono ?_;rintro e w1 ⟨rfl,hb1⟩;have p0:w1.cell? ⟨w.heap.size,0,none⟩=some (.int .i64 nd):=by rw[hb1.cell (by simp)];exact cell_at (heap_alloc_new _ _) rfl
  have p2:w1.cell? ⟨w.heap.size,2,none⟩=some (.int .i64 sz):=by rw[hb1.cell (by simp)];exact cell_at (heap_alloc_new _ _) rfl
  have HB1:=hid (HBx.out.trans (hb1.mono HBx.out.size));clear hb1;go_wp2;go_ret;exact⟨rfl,HB1.out⟩
 have e:chkP nd of sz=2:=by unfold chkP;rw[if_neg hp]
 rw[if_neg hp];rw[e]at HC;clear hp e;unfold planV;go_enter Tryz.func112,Tryz.ntmps112;go_wp2_with(go_at_call 110;go_must(refine HC.out.mono ?_;rintro e w1 ⟨rfl,hb1⟩;have HB1:=hid (HBx.out.trans (hb1.mono HBx.out.size));clear hb1))
 go_ret;exact⟨rfl,HB1.out⟩
def numE(n:Nat)(X:Nat→Int)(many:Int):Int:=if(n:Int)=many then(if numsB n X=true then 0 else 2)else 3
theorem shNumbers(v:Value)(n:Nat)(X:Nat→Int)(many:Int)(w:World)(h:IntSl w w.heap.size v n X):
 Calls Tryz.prog 111 #[v,.int .i64 many] w fun e w'=>e=.returned (.int .i64 (numE n X many))∧w'=w:=by
 obtain⟨a1,c1,rfl,⟨hcap,hbig⟩,hx⟩:=h
 obtain⟨ans,hans⟩:∃a,numE n X many=a:=⟨_,rfl⟩
 rw[hans]
 unfold numE at hans
 by_cases hm:(n:Int)=many
 ·rw[if_pos hm]at hans
  subst hm;have HA:=hid hans;clear hans;go_enter Tryz.func111,Tryz.ntmps111;go_wp2;go_loop [14] (fun i=>∃k:Nat,k≤n∧i=.int .i64 k∧Hid (numsFrom X n k=numsB n X)) (fun i=>n-(intOf i).toNat)
  case atStart=>exact⟨0,Nat.zero_le _,rfl,numsFrom_zero X n⟩
  case round =>
   obtain⟨k,hk,rfl,HF⟩:=hrel;by_cases hlt:k<n
   ·have hki:(k:Int)<(n:Int):=by omega
    have hod:∃bo oo,a1=some ⟨bo,oo,none⟩∧w.cell? ⟨bo,oo+k,none⟩=some (.int .i64 (X k)):=by
     rcases hx with h0|⟨bo,oo,rfl,hb,hx⟩;·omega
     exact⟨bo,oo,rfl,hx k hlt⟩
    obtain⟨bo,oo,rfl,god⟩:=hod;by_cases hn:0≤X k∧X k≤30
    ·have hn2:isNum (X k)=true:=(isNum_iff _).2 hn
     go_wp2_with(go_at_call 144;go_must(refine(check_ok _ hn _).mono ?_;rintro e wq ⟨rfl,hwq⟩;subst wq))
     go_round
     case rel=>exact⟨k+1,by omega,by go_num,numsFrom_next HF.out hn2⟩
     case measure=>simp only[intOf];omega
    have hn2:isNum (X k)=false:=decide_eq_false hn;have hnb:=numsFrom_bad hlt HF.out hn2;have hA:=HA.out;rw[hnb,if_neg (by decide)]at hA;subst hA;clear hnb;go_wp2_with(go_at_call 144;go_must(refine(check_bad _ hn _).mono ?_;rintro e wq ⟨rfl,hwq⟩;subst wq))
    go_ret;exact⟨rfl,rfl⟩
   have hke:k=n:=by omega
   subst hke;have hnb:=numsFrom_end HF.out;have hA:=HA.out;rw[hnb,if_pos rfl]at hA;subst hA;clear HF hnb;go_wp2;go_ret;exact⟨rfl,rfl⟩
 ·rw[if_neg hm]at hans
  subst hans;have hmb:((n:Int) != many)=true:=by simpa using hm
  clear hm;go_enter Tryz.func111,Tryz.ntmps111;go_wp2;go_ret;exact⟨rfl,rfl⟩
theorem shOne(nd of sz N:Int)(V:Value)(L:Nat)(X:Nat→Int)(w:World)(h:IntSl w w.heap.size V L X):
 Calls Tryz.prog 164 #[planV nd of sz,shareV N V] w fun e w'=>e=.returned (.int .i64 (oneE nd of sz N L X))∧Below w.heap.size w w':=by
 obtain⟨W,hW⟩:∃W,(w.alloc (.cells #[.int .i64 nd,.int .i64 of,.int .i64 sz] 59)).alloc (.cells #[.int .i64 N,V] 81)=W:=⟨_,rfl⟩
 have hb:Below w.heap.size w W:=by rw[←hW];exact((Below.refl w.heap.size w).alloc (Nat.le_refl _) _).alloc (by simp) _
 have p0:W.cell? ⟨w.heap.size,0,none⟩=some (.int .i64 nd):=by rw[←hW];exact cell_at (heap_two_old w _ _) rfl
 have p1:W.cell? ⟨w.heap.size,1,none⟩=some (.int .i64 of):=by rw[←hW];exact cell_at (heap_two_old w _ _) rfl
 have p2:W.cell? ⟨w.heap.size,2,none⟩=some (.int .i64 sz):=by rw[←hW];exact cell_at (heap_two_old w _ _) rfl
 have s0:W.cell? ⟨w.heap.size+1,0,none⟩=some (.int .i64 N):=by rw[←hW];exact cell_at (heap_two_new w _ _) rfl
 have s1:W.cell? ⟨w.heap.size+1,1,none⟩=some V:=by rw[←hW];exact cell_at (heap_two_new w _ _) rfl
 have KP:Hid (∀w',Below W.heap.size W w'→(w'.cell? ⟨w.heap.size,0,none⟩=some (.int .i64 nd)∧w'.cell? ⟨w.heap.size,1,none⟩=some (.int .i64 of)∧w'.cell? ⟨w.heap.size,2,none⟩=some (.int .i64 sz))∧w'.cell? ⟨w.heap.size+1,0,none⟩=some (.int .i64 N)∧w'.cell? ⟨w.heap.size+1,1,none⟩=some V):=fun w' hb' =>
  ⟨⟨by rw[hb'.cell (cell_lt p0)];exact p0,by rw[hb'.cell (cell_lt p1)];exact p1,by rw[hb'.cell (cell_lt p2)];exact p2⟩,by rw[hb'.cell (cell_lt s0)];exact s0,by rw[hb'.cell (cell_lt s1)];exact s1⟩
 have HI:=hid (h.up hb)
 obtain⟨a1,c1,hv,⟨hcap,hbig⟩,_⟩:=h
 subst hv
 have HC:=hid (shCheck nd of sz W)
 have HRo:=hid (shLong nd of sz)
 unfold planV shareV
 obtain⟨ans,hans⟩:∃a,oneE nd of sz N L X=a:=⟨_,rfl⟩
 rw[hans]
 unfold oneE at hans
 by_cases hp:planOk nd of sz=true
 ·have e:chkP nd of sz=0:=by unfold chkP;rw[if_pos hp]
  have e2:longP nd of sz=rowsN nd sz:=by unfold longP;rw[if_pos hp]
  rw[if_pos hp]at hans;rw[e]at HC;simp only[e2]at HRo;have hrw:=rowsN_bd (planOk_spec hp).1 (planOk_spec hp).2.2;have hRb:rowsN nd sz≤24:=hrw.2.2.2.1;generalize rowsN nd sz=R at *;have HBW:=hid hb;have HPl:=hid (planOk_spec hp);clear hp e e2 hrw hb;by_cases hN:0≤N∧N<of
  ·rw[if_pos hN]at hans
   have HA:Hid (numE L X (R:Int)=ans):=hans;clear hans;go_enter Tryz.func164,Tryz.ntmps164;go_wp2_with(go_at_call 110;go_must(refine HC.out.mono ?_;rintro e w1 ⟨rfl,hb1⟩;obtain⟨⟨p0,p1,p2⟩,s0,s1⟩:=KP.out w1 hb1;have HB1:=hid hb1;clear hb1))
   have hne:Nonempty (Of (Below W.heap.size W)):=⟨⟨W,Below.refl _ _⟩⟩;have F0:∀u:Of (Below W.heap.size W),u.val.cell? ⟨w.heap.size,0,none⟩=some (.int .i64 nd):=fun u=>(KP.out u.val u.is).1.1;have F1:∀u:Of (Below W.heap.size W),u.val.cell? ⟨w.heap.size,1,none⟩=some (.int .i64 of):=fun u=>(KP.out u.val u.is).1.2.1;have F2:∀u:Of (Below W.heap.size W),u.val.cell? ⟨w.heap.size,2,none⟩=some (.int .i64 sz):=fun u=>(KP.out u.val u.is).1.2.2;have F4:∀u:Of (Below W.heap.size W),u.val.cell? ⟨w.heap.size+1,1,none⟩=some (.slice a1 L c1):=fun u=>(KP.out u.val u.is).2.2;have HD1:Hid (Below W.heap.size W w1.drew):=HB1.out.trans ⟨rfl,rfl,rfl,Nat.le_refl _,fun _ _=>rfl⟩;refine region_mixed (Below W.heap.size W) [([0,1,2],3),([],4)] [5] (by kernel_rfl) (by kernel_rfl) HD1.out ?_;refine mixO_cons ?_;repeat(go_big_quiet_step (fail))
   refine wpQuiet_nil ?_;intro K hK;go_wp2_with fail
   refine Calls.mono (HRo.out _) ?_;rintro e w2 ⟨rfl,hb2⟩;have HB2:Hid (Below W.heap.size W w2):=HD1.out.trans (hb2.mono HD1.out.size);clear hb2;go_wp2;refine⟨rfl,hK _ _ HB2.out ?_⟩;clear hK K;refine mixO_cons (lq:=[]) ?_ rfl;refine wpQuiet_nil ?_;intro K hK;have HN:=hid (shNumbers _ L X (R:Int) w2 (HI.out.up HB2.out));rw[HA.out]at HN;go_wp2_with fail
   refine Calls.mono HN.out ?_;rintro e w3 ⟨rfl,hw3⟩;subst w3;go_wp2;refine⟨rfl,hK _ _ HB2.out ?_⟩;clear hK K;refine mixO_nil ?_;repeat(go_big_quiet_step (fail))
   refine wpQuiet_nil ?_;go_wp2;go_ret;exact⟨rfl,HBW.out.trans (HB2.out.mono HBW.out.size)⟩
  rw[if_neg hN]at hans;subst hans;by_cases hN0:N<0
  ·clear hN
   go_enter Tryz.func164,Tryz.ntmps164;go_wp2_with(go_at_call 110;go_must(refine HC.out.mono ?_;rintro e w1 ⟨rfl,hb1⟩;obtain⟨⟨p0,p1,p2⟩,s0,s1⟩:=KP.out w1 hb1;have HB1:=hid hb1;clear hb1))
   go_ret;exact⟨rfl,HBW.out.trans (HB1.out.mono HBW.out.size)⟩
  have hN1:of≤N:=by omega
  clear hN;go_enter Tryz.func164,Tryz.ntmps164;go_wp2_with(go_at_call 110;go_must(refine HC.out.mono ?_;rintro e w1 ⟨rfl,hb1⟩;obtain⟨⟨p0,p1,p2⟩,s0,s1⟩:=KP.out w1 hb1;have HB1:=hid hb1;clear hb1))
  go_ret;exact⟨rfl,HBW.out.trans (HB1.out.mono HBW.out.size)⟩
 ·have e:chkP nd of sz=2:=by unfold chkP;rw[if_neg hp]
  rw[if_neg hp]at hans;subst hans;rw[e]at HC;have HBW:=hid hb;clear hp e hb;go_enter Tryz.func164,Tryz.ntmps164;go_wp2_with(go_at_call 110;go_must(refine HC.out.mono ?_;rintro e w1 ⟨rfl,hb1⟩;have HB1:=hid hb1;clear hb1))
  go_ret;exact⟨rfl,HBW.out.trans (HB1.out.mono HBW.out.size)⟩
theorem shSame(N1 N2:Int)(V1 V2:Value)(n m:Nat)(X Y:Nat→Int)(w:World)(h1:IntSl w w.heap.size V1 n X)(h2:IntSl w w.heap.size V2 m Y):
 Calls Tryz.prog 67 #[shareV N1 V1,shareV N2 V2] w fun e w'=>e=.returned (.bool (sameB N1 N2 n m X Y))∧Below w.heap.size w w':=by
 have hb:=((Below.refl w.heap.size w).alloc (Nat.le_refl _) (.cells #[.int .i64 N1,V1] 81)).alloc (by simp) (.cells #[.int .i64 N2,V2] 81)
 have HE:=hid (equal_isl (h1.up hb) (h2.up hb))
 have HB:=hid hb
 obtain⟨a1,c1,rfl,_,_⟩:=h1
 obtain⟨a2,c2,rfl,_,_⟩:=h2
 clear hb
 unfold shareV sameB
 by_cases hn:N1=N2
 ·subst hn
  rw[decide_eq_true rfl,Bool.true_and];go_enter Tryz.func67,Tryz.ntmps67;go_wp2_with(go_at_call 32;go_must(refine HE.out.mono ?_;rintro e w1 ⟨rfl,q,hq⟩;have HQ:=hid hq;clear hq))
  go_ret;refine⟨rfl,?_⟩;rw[HQ.out];exact HB.out.trans ⟨rfl,rfl,rfl,Nat.le_refl _,fun _ _=>rfl⟩
 ·rw[decide_eq_false hn,Bool.false_and]
  have he:(N1==N2)=false:=by simpa using hn
  clear hn;go_enter Tryz.func67,Tryz.ntmps67;go_wp2;go_ret;exact⟨rfl,HB.out⟩
end Go.Proofs.YtajmnlhfnhbleaaGreat
