/- Several texts of one proof, in their order. -/
import Derived.Test.YtajmnlhfnhbleaaGreatSSum5
namespace Go.Proofs.YtajmnlhfnhbleaaGreat
open Go.RowKit
set_option linter.unusedVariables false
theorem prod_bd{a b:Int}(ha:0≤a∧a≤30)(hb:0≤b∧b≤30):0≤a*b∧a*b≤900:=by
 obtain⟨a0,a1⟩:=ha;obtain⟨b0,b1⟩:=hb;refine⟨Int.mul_nonneg a0 b0,?_⟩;have h1:a*b≤30*b:=Int.mul_le_mul_of_nonneg_right a1 b0;omega
theorem times_any(a b:Int)(ha:0≤a∧a≤30)(hb:0≤b∧b≤30)(w:World):
 Calls Tryz.prog 213 #[.int .i64 a,.int .i64 b] w fun e w'=>e=.returned (.int .i64 (a*b%31))∧w'=w:=by
 have hab:=prod_bd ha hb
 go_enter Tryz.func213,Tryz.ntmps213
 go_wp2
 go_ret
 exact⟨rfl,rfl⟩
theorem both_ok(a b:Int)(ha:0≤a∧a≤30)(hb:0≤b∧b≤30)(w:World):
 Calls Tryz.prog 123 #[.int .i64 a,.int .i64 b] w fun e w'=>e=.returned (.int .i64 0)∧w'=w:=by
 go_enter Tryz.func123,Tryz.ntmps123
 go_wp2_with(go_at_call 144;go_must(refine(check_ok _ (by omega) _).mono ?_;rintro e w' ⟨rfl,rfl⟩))
 go_ret
 exact⟨rfl,rfl⟩
theorem add_ok(a b:Int)(ha:0≤a∧a≤30)(hb:0≤b∧b≤30)(w:World):
 Calls Tryz.prog 85 #[.int .i64 a,.int .i64 b] w fun e w'=>e=.returned (.tuple #[.int .i64 ((a+b)%31),.int .i64 0])∧w'=w:=by
 go_enter Tryz.func85,Tryz.ntmps85
 go_wp2_with(go_at_call 123;go_must(refine(both_ok _ _ (by omega) (by omega) _).mono ?_;rintro e w' ⟨rfl,rfl⟩))
 go_ret2
 exact⟨rfl,rfl⟩
theorem mul_ok(a b:Int)(ha:0≤a∧a≤30)(hb:0≤b∧b≤30)(w:World):
 Calls Tryz.prog 187 #[.int .i64 a,.int .i64 b] w fun e w'=>e=.returned (.tuple #[.int .i64 (a*b%31),.int .i64 0])∧w'=w:=by
 go_enter Tryz.func187,Tryz.ntmps187
 go_wp2_with(first
  |(go_at_call 123;go_must(refine(both_ok _ _ (by omega) (by omega) _).mono ?_;rintro e w' ⟨rfl,rfl⟩))
  |(go_at_call 213;go_must(refine(times_any _ _ (by omega) (by omega) _).mono ?_;rintro e w' ⟨rfl,rfl⟩)))
 go_ret2
 exact⟨rfl,rfl⟩
def pw(b:Int):Nat→Int
 |0=>1
 |k+1=>pw b k*b%31
theorem pw_bd(b:Int)(k:Nat):0≤pw b k∧pw b k≤30:=by
 cases k with
 |zero=>simp only[pw];omega
 |succ k=>simp only[pw];omega
theorem inverse_any(b:Int)(hb:0≤b∧b≤30)(w:World):
 Calls Tryz.prog 223 #[.int .i64 b] w fun e w'=>e=.returned (.int .i64 (pw b 29))∧w'=w:=by
 go_enter Tryz.func223,Tryz.ntmps223
 go_wp2
 go_loop [3,4] (fun r i=>∃k:Nat,k≤29∧r=.int .i64 (pw b k)∧i=.int .i64 k) (fun _ i=>29-(intOf i).toNat)
 case atStart=>exact⟨0,by omega,rfl,rfl⟩
 case round =>
  obtain⟨k,hk,rfl,rfl⟩:=hrel;have hp:=pw_bd b k;go_wp2_with(go_at_call 213;go_must(refine(times_any _ _ hp hb _).mono ?_;rintro e w' ⟨rfl,rfl⟩))
  ·have hlt:k<29:=by omega
   go_round
   case rel=>exact⟨k+1,by omega,rfl,by go_num⟩
   case measure=>simp only[intOf];omega
  have hge:k=29:=by omega
  subst hge;go_ret;exact⟨rfl,rfl⟩
def dv(a b:Int):Int:=a*pw b 29%31
theorem div_ok(a b:Int)(ha:0≤a∧a≤30)(hb:1≤b∧b≤30)(w:World):
 Calls Tryz.prog 214 #[.int .i64 a,.int .i64 b] w fun e w'=>e=.returned (.tuple #[.int .i64 (dv a b),.int .i64 0])∧w'=w:=by
 have hp:=pw_bd b 29
 go_enter Tryz.func214,Tryz.ntmps214
 go_wp2_with(first
  |(go_at_call 123;go_must(refine(both_ok _ _ (by omega) (by omega) _).mono ?_;rintro e w' ⟨rfl,rfl⟩))
  |(go_at_call 223;go_must(refine(inverse_any _ (by omega) _).mono ?_;rintro e w' ⟨rfl,rfl⟩))
  |(go_at_call 213;go_must(refine(times_any _ _ (by omega) hp _).mono ?_;rintro e w' ⟨rfl,rfl⟩)))
 go_ret2
 exact⟨rfl,rfl⟩
theorem inv_all:∀k:Fin 31,k.val≠0→(pw (k.val:Int) 29*(k.val:Int))%31=1:=by decide +kernel
theorem inv_mul(b:Int)(hb:1≤b∧b≤30):(pw b 29*b)%31=1:=by
 have h:=inv_all ⟨b.toNat,by omega⟩ (by show b.toNat≠0;omega);have e:((b.toNat:Nat):Int)=b:=by omega
 simp only[e]at h;exact h
theorem dv_bd(a b:Int):0≤dv a b∧dv a b≤30:=by unfold dv;omega
theorem dv_mul(a b:Int)(ha:0≤a∧a≤30)(hb:1≤b∧b≤30):dv a b*b%31=a:=by
 unfold dv;rw[Int.mul_emod,Int.emod_emod,←Int.mul_emod,Int.mul_assoc,Int.mul_emod,inv_mul b hb];omega
theorem cancel(x y d:Int)(hx:0≤x∧x≤30)(hy:0≤y∧y≤30)(hd:1≤d∧d≤30)(h:x*d%31=y*d%31):x=y:=by
 have key:∀z:Int,0≤z∧z≤30→(z*d%31)*pw d 29%31=z:=by
  intro z hz;rw[Int.mul_emod,Int.emod_emod,←Int.mul_emod,Int.mul_assoc,Int.mul_comm d,Int.mul_emod,inv_mul d hd];omega
 rw[←key x hx,←key y hy,h]
theorem quotient_any(a b:Int)(ha:0≤a∧a≤30)(hb:1≤b∧b≤30)(w:World):
 Calls Tryz.prog 162 #[.int .i64 a,.int .i64 b] w fun e w'=>e=.returned (.int .i64 (dv a b))∧w'=w:=by
 have hbd:=dv_bd a b
 have hdm:=dv_mul a b ha hb
 generalize dv a b=q at *
 go_enter Tryz.func162,Tryz.ntmps162
 go_wp2
 go_loop [6] (fun i=>∃k:Nat,(k:Int)≤q∧i=.int .i64 k) (fun i=>31-(intOf i).toNat)
 case atStart=>exact⟨0,by omega,rfl⟩
 case round =>
  obtain⟨k,hk,rfl⟩:=hrel;have hp:=prod_bd (a:=(k:Int)) (b:=b) ⟨by omega,by omega⟩ ⟨by omega,by omega⟩;by_cases he:(k:Int)=q
  ·subst he
   have hm:((k:Int)*b%31==a)=true:=by rw[hdm];simp
   clear hdm hk;go_wp2;go_ret;exact⟨rfl,rfl⟩
  have hm:((k:Int)*b%31==a)=false:=by
   simp only[beq_eq_false_iff_ne,ne_eq];intro h;exact he (cancel _ _ b ⟨by omega,by omega⟩ hbd hb (by rw[h,hdm]))
  clear hdm;go_wp2;go_round
  case rel=>exact⟨k+1,by omega,by go_num⟩
  case measure=>simp only[intOf];omega
end Go.Proofs.YtajmnlhfnhbleaaGreat
namespace Go.Proofs.YtajmnlhfnhbleaaGreat.CurveMath
set_option linter.unusedVariables false
abbrev F:=Fin 31
def inv(a:F):F:=a^29
theorem inv_all:∀a:F,a≠0→inv a*a=1:=by decide +kernel
theorem inv_zero:inv 0=0:=by decide +kernel
theorem mul_eq_zero{a b:F}(h:a*b=0):a=0∨b=0:=by
 by_cases ha:a=0;·exact Or.inl ha
 right;have:=inv_all a ha;grind
theorem sub_ne{a b:F}(h:a≠b):a-b≠0:=by
 intro h0;apply h;grind
def eval:List F→F→F
 |[],_=>0
 |a::p,t=>a+t*eval p t
def Deg(n:Nat)(f:F→F):Prop:=∃p:List F,p.length≤n∧∀t,f t=eval p t
theorem Deg.mono{n m:Nat}{f:F→F}(h:Deg n f)(hnm:n≤m):Deg m f:=by
 obtain⟨p,hp,he⟩:=h;exact⟨p,Nat.le_trans hp hnm,he⟩
theorem Deg.congr{n:Nat}{f g:F→F}(h:Deg n f)(e:∀t,g t=f t):Deg n g:=by
 obtain⟨p,hp,he⟩:=h;exact⟨p,hp,fun t=>by rw[e,he]⟩
theorem Deg.const(a:F):Deg 1 (fun _=>a):=⟨[a],by simp,fun t=>by simp only[eval];grind⟩
theorem Deg.zero(n:Nat):Deg n (fun _=>0):=⟨[],by simp,fun t=>rfl⟩
theorem eval_smul(c:F)(p:List F)(t:F):eval (p.map (c * ·)) t=c*eval p t:=by
 induction p with
 |nil=>simp only[List.map_nil,eval];grind
 |cons a p ih=>simp only[List.map_cons,eval,ih];grind
theorem Deg.smul{n:Nat}{f:F→F}(c:F)(h:Deg n f):Deg n (fun t=>c*f t):=by
 obtain⟨p,hp,he⟩:=h;exact⟨p.map (c * ·),by simpa using hp,fun t=>by simp only[eval_smul,he]⟩
def addP:List F→List F→List F
 |[],q=>q
 |a::p,[]=>a::p
 |a::p,b::q=>(a+b)::addP p q
theorem eval_addP(p q:List F)(t:F):eval (addP p q) t=eval p t+eval q t:=by
 induction p generalizing q with
 |nil=>simp only[addP,eval];grind
 |cons a p ih =>
  cases q with
  |nil=>simp only[addP,eval];grind
  |cons b q=>simp only[addP,eval,ih];grind
theorem len_addP(p q:List F)(n:Nat)(hp:p.length≤n)(hq:q.length≤n):(addP p q).length≤n:=by
 induction p generalizing q n with
 |nil=>simpa only[addP]using hq
 |cons a p ih =>
  cases q with
  |nil=>simpa only[addP]using hp
  |cons b q =>
   simp only[addP,List.length_cons]at hp hq ⊢;obtain⟨m,rfl⟩:∃m,n=m+1:=⟨n-1,by omega⟩;have:=ih q m (by omega) (by omega);omega
theorem Deg.add{n:Nat}{f g:F→F}(hf:Deg n f)(hg:Deg n g):Deg n (fun t=>f t+g t):=by
 obtain⟨p,hp,he⟩:=hf;obtain⟨q,hq,he2⟩:=hg;exact⟨addP p q,len_addP p q n hp hq,fun t=>by simp only[eval_addP,he,he2]⟩
theorem Deg.sub{n:Nat}{f g:F→F}(hf:Deg n f)(hg:Deg n g):Deg n (fun t=>f t-g t) :=
 (hf.add (hg.smul (-1))).congr fun t=>by grind
theorem Deg.mulLin{n:Nat}{f:F→F}(r:F)(h:Deg n f):Deg (n+1) (fun t=>(t-r)*f t):=by
 obtain⟨p,hp,he⟩:=h;have h1:Deg (n+1) (fun t=>t*f t):=⟨0::p,by simp;omega,fun t=>by simp only[eval,he];grind⟩;have h2:Deg (n+1) (fun t=>f t):=Deg.mono ⟨p,hp,he⟩ (by omega);exact(h1.sub (h2.smul r)).congr fun t=>by grind
theorem split(p:List F)(r:F):∃q:List F,q.length≤p.length-1∧∀t,eval p t=(t-r)*eval q t+eval p r:=by
 induction p with
 |nil=>exact⟨[],by simp,fun t=>by simp only[eval];grind⟩
 |cons a p ih =>
  cases p with
  |nil=>exact⟨[],by simp,fun t=>by simp only[eval];grind⟩
  |cons b p' =>
   obtain⟨q,hq,he⟩:=ih;refine⟨eval (b::p') r::q,by simp only[List.length_cons]at hq ⊢;omega,fun t=>?_⟩;have h1:eval (a::b::p') t=a+t*eval (b::p') t:=rfl;have h2:eval (a::b::p') r=a+r*eval (b::p') r:=rfl;have h3:eval (eval (b::p') r::q) t=eval (b::p') r+t*eval q t:=rfl;rw[h1,h2,h3,he t];generalize eval (b::p') r=e;generalize eval q t=u;grind
def Inj(n:Nat)(x:Nat→F):Prop:=∀i j,i<n→j<n→x i=x j→i=j
theorem roots(n:Nat)(x:Nat→F):∀(p:List F),p.length≤n→Inj n x→(∀i,i<n→eval p (x i)=0)→∀t,eval p t=0:=by
 induction n with
 |zero =>
  intro p hp _ _ t;have:p=[]:=List.length_eq_zero_iff.1 (by omega);subst this;rfl
 |succ n ih =>
  intro p hp hx h0 t;obtain⟨q,hq,he⟩:=split p (x n);have hn:=h0 n (by omega);have hq0:∀t,eval q t=0:=by
   apply ih q (by omega) (fun i j hi hj=>hx i j (by omega) (by omega));intro i hi;have h1:=h0 i (by omega);rw[he (x i),hn]at h1;have hne:x i-x n≠0:=sub_ne (fun e=>by have:=hx i n (by omega) (by omega) e;omega);have h2:(x i-x n)*eval q (x i)=0:=by grind
   exact(mul_eq_zero h2).resolve_left hne
  rw[he t,hn,hq0 t];grind
theorem Deg.uniq{n:Nat}{f g:F→F}{x:Nat→F}(hf:Deg n f)(hg:Deg n g)(hx:Inj n x)(h:∀i,i<n→f (x i)=g (x i)):∀t,f t=g t:=by
 obtain⟨p,hp,he⟩:=hf.sub hg;have:=roots n x p hp hx (fun i hi=>by rw[←he];simp only[h i hi];grind);intro t;have h1:=he t;rw[this t]at h1;grind
def prodLin(x:Nat→F)(m:Nat):Nat→F→F
 |0,_=>1
 |k+1,t=>(t-x (m+k))*prodLin x m k t
def Lead(n:Nat)(a:F)(f:F→F):Prop:=Deg n (fun t=>f t-a*t^n)
theorem Lead.deg{n:Nat}{a:F}{f:F→F}(h:Lead n a f):Deg (n+1) f:=by
 have h1:∀n:Nat,Deg (n+1) (fun t=>t^n):=by
  intro n;induction n with
  |zero=>exact(Deg.const 1).congr fun t=>by grind
  |succ n ih =>
   have:=ih.mulLin 0;exact this.congr fun t=>by grind
 exact((h.mono (Nat.le_succ n)).add ((h1 n).smul a)).congr fun t=>by grind
theorem Lead.const(a:F):Lead 0 a (fun _=>a):=(Deg.zero 0).congr fun t=>by grind
theorem Lead.mulLin{n:Nat}{a:F}{f:F→F}(r:F)(h:Lead n a f):Lead (n+1) a (fun t=>(t-r)*f t):=by
 have h1:=Deg.mulLin r h;have h2:Deg (n+1) (fun t=>r*(a*t^n)):=by
  have h3:∀n:Nat,Deg (n+1) (fun t=>t^n):=by
   intro n;induction n with
   |zero=>exact(Deg.const 1).congr fun t=>by grind
   |succ n ih =>
    have:=ih.mulLin 0;exact this.congr fun t=>by grind
  exact((h3 n).smul (r*a)).congr fun t=>by grind
 exact(h1.sub h2).congr fun t=>by grind
theorem Lead.smul{n:Nat}{a:F}{f:F→F}(c:F)(h:Lead n a f):Lead n (c*a) (fun t=>c*f t) :=
 (Deg.smul c h).congr fun t=>by grind
theorem Lead.sub{n:Nat}{a b:F}{f g:F→F}(hf:Lead n a f)(hg:Lead n b g):Lead n (a-b) (fun t=>f t-g t) :=
 (Deg.sub hf hg).congr fun t=>by grind
theorem Lead.of_deg{n:Nat}{f:F→F}(h:Deg n f):Lead n 0 f:=h.congr fun t=>by grind
theorem lead_prodLin(x:Nat→F)(m:Nat)(k:Nat):Lead k 1 (prodLin x m k):=by
 induction k with
 |zero=>exact(Lead.const 1).congr fun t=>by simp only[prodLin]
 |succ k ih=>exact(Lead.mulLin (x (m+k)) ih).congr fun t=>by simp only[prodLin]
theorem prodLin_zero(x:Nat→F)(m k i:Nat)(hi:i<k):prodLin x m k (x (m+i))=0:=by
 induction k with
 |zero=>omega
 |succ k ih =>
  simp only[prodLin];by_cases h:i=k;·subst h;grind
  rw[ih (by omega)];grind
theorem Lead.product{n:Nat}{a:F}{f:F→F}{x:Nat→F}{m:Nat}(h:Lead n a f)(hx:Inj n (fun i=>x (m+i)))(h0:∀i,i<n→f (x (m+i))=0):∀t,f t=a*prodLin x m n t:=by
 have h1:Deg n (fun t=>f t-a*prodLin x m n t):=by
  have h2:=Lead.sub h (Lead.smul a (lead_prodLin x m n));exact Deg.congr h2 fun t=>by grind
 have h3:=Deg.uniq h1 (Deg.zero n) hx (fun i hi=>by
  show f (x (m+i))-a*prodLin x m n (x (m+i))=0;rw[h0 i hi,prodLin_zero x m n i hi];grind)
 intro t;have:=h3 t;grind
def dd(x y:Nat→F):Nat→Nat→F
 |i,0=>y i
 |i,k+1=>(dd x y i k-dd x y (i-1) k)*inv (x i-x (i-(k+1)))
def nev(x y:Nat→F):Nat→Nat→F→F
 |i,0,_=>y i
 |i,k+1,t=>((t-x (i-(k+1)))*nev x y i k t-(t-x i)*nev x y (i-1) k t)*inv (x i-x (i-(k+1)))
theorem lead_nev(x y:Nat→F)(k:Nat):∀i,Lead k (dd x y i k) (nev x y i k):=by
 induction k with
 |zero=>intro i;exact(Lead.const (y i)).congr fun t=>by simp only[nev,dd]
 |succ k ih =>
  intro i;have h:=Lead.smul (inv (x i-x (i-(k+1)))) (Lead.sub (Lead.mulLin (x (i-(k+1))) (ih i)) (Lead.mulLin (x i) (ih (i-1))));exact Deg.congr h fun t=>by simp only[nev,dd];grind
theorem nev_at(x y:Nat→F)(n:Nat)(hx:Inj n x)(k:Nat):∀i j,k≤i→i<n→i-k≤j→j≤i→nev x y i k (x j)=y j:=by
 induction k with
 |zero =>
  intro i j _ _ h1 h2;have:i=j:=by omega
  subst this;rfl
 |succ k ih =>
  intro i j hk hi h1 h2;have hne:x i-x (i-(k+1))≠0:=sub_ne (fun e=>by have:=hx i (i-(k+1)) (by omega) (by omega) e;omega);have hinv:=inv_all _ hne;simp only[nev];by_cases ha:j=i
  ·subst ha
   rw[ih j j (by omega) (by omega) (by omega) (by omega)];grind
  by_cases hb:j=i-(k+1)
  ·rw[hb]at *
   rw[ih (i-1) (i-(k+1)) (by omega) (by omega) (by omega) (by omega)];grind
  rw[ih i j (by omega) (by omega) (by omega) (by omega),ih (i-1) j (by omega) (by omega) (by omega) (by omega)];grind
def newt(x:Nat→F)(c:Nat→F):Nat→F→F
 |0,_=>0
 |n+1,t=>newt x c n t+c n*prodLin x 0 n t
theorem newt_nev(x y:Nat→F)(n:Nat)(hx:Inj (n+1) x):∀t,newt x (fun i=>dd x y i i) (n+1) t=nev x y n n t:=by
 induction n with
 |zero=>intro t;simp only[newt,prodLin,dd,nev];grind
 |succ n ih =>
  intro t;have ih':=ih (fun i j hi hj=>hx i j (by omega) (by omega)) t;have e:newt x (fun i=>dd x y i i) (n+1+1) t=newt x (fun i=>dd x y i i) (n+1) t+dd x y (n+1) (n+1)*prodLin x 0 (n+1) t:=rfl;rw[e,ih'];have h1:=lead_nev x y (n+1) (n+1);have h2:Lead (n+1) 0 (nev x y n n):=Lead.of_deg (lead_nev x y n n).deg;have h3:=Lead.product (x:=x) (m:=0) (Lead.sub h1 h2) (fun i j hi hj e=>hx i j (by omega) (by omega) (by simpa using e)) (fun i hi=>by
   simp only[Nat.zero_add];rw[nev_at x y (n+1+1) hx (n+1) (n+1) i (by omega) (by omega) (by omega) (by omega)];rw[nev_at x y (n+1+1) hx n n i (by omega) (by omega) (by omega) (by omega)];grind) t
  grind
theorem newt_deg(x y:Nat→F)(n:Nat)(hx:Inj n x):Deg n (newt x (fun i=>dd x y i i) n):=by
 cases n with
 |zero=>exact(Deg.zero 0).congr fun t=>rfl
 |succ n=>exact(lead_nev x y n n).deg.congr fun t=>newt_nev x y n hx t
theorem newt_at(x y:Nat→F)(n:Nat)(hx:Inj n x)(j:Nat)(hj:j<n):newt x (fun i=>dd x y i i) n (x j)=y j:=by
 cases n with
 |zero=>omega
 |succ n=>rw[newt_nev x y n hx,nev_at x y (n+1) hx n n j (by omega) (by omega) (by omega) (by omega)]
def horn(x c:Nat→F)(t:F)(n:Nat):Nat→F
 |0=>0
 |k+1=>horn x c t n k*(t-x (n-(k+1)))+c (n-(k+1))
theorem horn_newt(x c:Nat→F)(t:F)(n:Nat):∀k,k≤n→horn x c t n k*prodLin x 0 (n-k) t+newt x c (n-k) t=newt x c n t:=by
 intro k;induction k with
 |zero=>intro _;simp only[horn,Nat.sub_zero];grind
 |succ k ih =>
  intro hk;have ih':=ih (by omega);obtain⟨m,hm⟩:∃m,n-k=m+1:=⟨n-k-1,by omega⟩;have hm2:n-(k+1)=m:=by omega
  rw[hm]at ih';have e1:prodLin x 0 (m+1) t=(t-x (0+m))*prodLin x 0 m t:=rfl;have e2:newt x c (m+1) t=newt x c m t+c m*prodLin x 0 m t:=rfl;rw[e1,e2,Nat.zero_add]at ih';simp only[horn,hm2];rw[←ih'];grind
theorem horn_all(x c:Nat→F)(t:F)(n:Nat):horn x c t n n=newt x c n t:=by
 have:=horn_newt x c t n n (Nat.le_refl n);simp only[Nat.sub_self,prodLin,newt]at this;grind
def toF(a:Int):F:=Fin.ofNat 31 (a%31).toNat
theorem toF_val(a:Int):((toF a).val:Int)=a%31:=by
 have h1:0≤a%31:=by omega
 have h2:a%31<31:=by omega
 show(((a%31).toNat%31:Nat):Int)=a%31;omega
theorem toF_inj{a b:Int}(h:toF a=toF b):a%31=b%31:=by
 rw[←toF_val a,←toF_val b,h]
theorem toF_eq{a b:Int}(h:a%31=b%31):toF a=toF b:=by
 unfold toF;rw[h]
theorem toF_num{a b:Int}(ha:0≤a∧a≤30)(hb:0≤b∧b≤30)(h:toF a=toF b):a=b:=by
 have:=toF_inj h;omega
theorem toF_mod(a:Int):toF (a%31)=toF a:=toF_eq (by omega)
theorem toF_add(a b:Int):toF (a+b)=toF a+toF b:=by
 apply Fin.ext;have h1:=toF_val a;have h2:=toF_val b;have h3:=toF_val (a+b);rw[Fin.val_add];omega
theorem toF_mul(a b:Int):toF (a*b)=toF a*toF b:=by
 apply Fin.ext;have h1:=toF_val a;have h2:=toF_val b;have h3:=toF_val (a*b);rw[Fin.val_mul];have h4:(((toF a).val*(toF b).val%31:Nat):Int)=a*b%31:=by
  rw[Int.natCast_emod,Int.natCast_mul,h1,h2,Int.mul_emod a b 31];rfl
 omega
theorem toF_sub(a b:Int):toF (a-b)=toF a-toF b:=by
 have h:=toF_add (a-b) b;rw[show a-b+b=a by omega]at h;grind
theorem toF_zero:toF 0=0:=by decide +kernel
theorem toF_one:toF 1=1:=by decide +kernel
theorem toF_p:toF 31=0:=by decide +kernel
def lb(x:Nat→F)(i:Nat)(t:F):Nat→F
 |0=>1
 |k+1=>if k=i then lb x i t k else lb x i t k*((t-x k)*inv (x i-x k))
theorem lb_deg(x:Nat→F)(i:Nat)(k:Nat):Deg (if i<k then k else k+1) (fun t=>lb x i t k):=by
 induction k with
 |zero=>exact((Deg.const 1).congr fun t=>by simp only[lb]).mono (by simp)
 |succ k ih =>
  by_cases h:k=i
  ·subst h
   rw[if_pos (by omega)];rw[if_neg (by omega)]at ih;exact ih.congr fun t=>by simp[lb]
  have h1:=(ih.mulLin (x k)).smul (inv (x i-x k));refine Deg.congr (h1.mono ?_) fun t=>by simp only[lb,if_neg h];grind
  by_cases h2:i<k;·rw[if_pos h2,if_pos (by omega)];omega
  rw[if_neg h2,if_neg (by omega)];omega
theorem lb_other(x:Nat→F)(i j:Nat)(k:Nat)(hj:j<k)(hij:j≠i):lb x i (x j) k=0:=by
 induction k with
 |zero=>omega
 |succ k ih =>
  simp only[lb];by_cases h:k=i;·rw[if_pos h];exact ih (by omega)
  rw[if_neg h];by_cases h2:j=k;·subst h2;grind
  rw[ih (by omega)];grind
theorem lb_own(x:Nat→F)(n:Nat)(hx:Inj n x)(i:Nat)(hi:i<n)(k:Nat)(hk:k≤n):lb x i (x i) k=1:=by
 induction k with
 |zero=>rfl
 |succ k ih =>
  simp only[lb];by_cases h:k=i;·rw[if_pos h];exact ih (by omega)
  rw[if_neg h,ih (by omega)];have hne:x i-x k≠0:=sub_ne (fun e=>by have:=hx i k hi (by omega) e;omega);have:=inv_all _ hne;grind
def lag(x y:Nat→F)(n:Nat)(t:F):Nat→F
 |0=>0
 |m+1=>lag x y n t m+y m*lb x m t n
theorem lag_deg(x y:Nat→F)(n:Nat)(m:Nat)(hm:m≤n):Deg n (fun t=>lag x y n t m):=by
 induction m with
 |zero=>exact(Deg.zero n).congr fun t=>by simp only[lag]
 |succ m ih =>
  have h1:=lb_deg x m n;rw[if_pos (by omega)]at h1;exact((ih (by omega)).add (h1.smul (y m))).congr fun t=>by simp only[lag]
theorem lag_at_low(x y:Nat→F)(n:Nat)(hx:Inj n x)(j:Nat)(hj:j<n)(m:Nat)(hm:m≤j):lag x y n (x j) m=0:=by
 induction m with
 |zero=>rfl
 |succ m ih =>
  simp only[lag];rw[ih (by omega),lb_other x m j n hj (by omega)];grind
theorem lag_at_high(x y:Nat→F)(n:Nat)(hx:Inj n x)(j:Nat)(hj:j<n)(m:Nat)(hm:j<m):lag x y n (x j) m=y j:=by
 induction m with
 |zero=>omega
 |succ m ih =>
  simp only[lag];by_cases h:j=m
  ·subst h
   rw[lag_at_low x y n hx j hj j (Nat.le_refl _),lb_own x n hx j hj n (Nat.le_refl _)];grind
  rw[ih (by omega),lb_other x m j n hj h];grind
theorem lag_at(x y:Nat→F)(n:Nat)(hx:Inj n x)(j:Nat)(hj:j<n):lag x y n (x j) n=y j:=lag_at_high x y n hx j hj n hj
theorem lag_newt(x y:Nat→F)(n:Nat)(hx:Inj n x)(t:F):lag x y n t n=newt x (fun i=>dd x y i i) n t :=
 Deg.uniq (lag_deg x y n n (Nat.le_refl _)) (newt_deg x y n hx) hx (fun i hi=>by rw[newt_at x y n hx i hi];exact lag_at x y n hx i hi) t
end Go.Proofs.YtajmnlhfnhbleaaGreat.CurveMath
namespace Go.Proofs.YtajmnlhfnhbleaaGreat
open Go.RowKit CurveMath
set_option linter.unusedVariables false
set_option maxHeartbeats 1000000
def scan(X Y:Nat→Int):Nat→Nat→Int
 |0,_=>0
 |m+1,k=>if(isNum (X k)&&isNum (Y k))=false then 2 else if hasB X k (X k)=true then 5 else scan X Y m (k+1)
def chk(nx ny:Nat)(X Y:Nat→Int):Int:=if nx≠ny then 3 else if 1≤nx∧nx≤8 then scan X Y nx 0 else 1
theorem less_any(a b:Int)(ha:0≤a∧a≤30)(hb:0≤b∧b≤30)(w:World):
 Calls Tryz.prog 163 #[.int .i64 a,.int .i64 b] w fun e w'=>e=.returned (.int .i64 ((a+31-b)%31))∧w'=w:=by
 go_enter Tryz.func163,Tryz.ntmps163
 go_wp2
 go_ret
 exact⟨rfl,rfl⟩
theorem scan_bad{X Y:Nat→Int}{n k:Nat}{e:Int}(hk:k<n)(h:scan X Y (n-k) k=e)(hb:(isNum (X k)&&isNum (Y k))=false):e=2:=by
 rw[show n-k=(n-k-1)+1 by omega]at h;simp only[scan]at h;rw[if_pos hb]at h;exact h.symm
theorem scan_dup{X Y:Nat→Int}{n k:Nat}{e:Int}(hk:k<n)(h:scan X Y (n-k) k=e)(hb:(isNum (X k)&&isNum (Y k))=true)(hd:hasB X k (X k)=true):e=5:=by
 rw[show n-k=(n-k-1)+1 by omega]at h;simp only[scan]at h;rw[if_neg (by rw[hb];simp),if_pos hd]at h;exact h.symm
theorem scan_next{X Y:Nat→Int}{n k:Nat}{e:Int}(hk:k<n)(h:scan X Y (n-k) k=e)(hb:(isNum (X k)&&isNum (Y k))=true)(hd:hasB X k (X k)=false):scan X Y (n-(k+1)) (k+1)=e:=by
 rw[show n-k=(n-(k+1))+1 by omega]at h;simp only[scan]at h;rw[if_neg (by rw[hb];simp),if_neg (by rw[hd];simp)]at h;exact h
def crvF(n:Nat)(X Y:Nat→Int)(t:Int):F:=newt (fun i=>toF (X i)) (fun i=>dd (fun i=>toF (X i)) (fun i=>toF (Y i)) i i) n (toF t)
def crv(n:Nat)(X Y:Nat→Int)(t:Int):Int:=((crvF n X Y t).val:Int)
theorem crv_num(n:Nat)(X Y:Nat→Int)(t:Int):0≤crv n X Y t∧crv n X Y t≤30:=by
 unfold crv;have:=(crvF n X Y t).isLt;omega
theorem toF_crv(n:Nat)(X Y:Nat→Int)(t:Int):toF (crv n X Y t)=crvF n X Y t:=by
 apply Fin.ext;have h:=toF_val (crv n X Y t);have h2:=crv_num n X Y t;have h3:crv n X Y t=((crvF n X Y t).val:Int):=rfl;omega
theorem crv_of(n:Nat)(X Y:Nat→Int)(t v:Int)(hv:0≤v∧v≤30)(h:toF v=crvF n X Y t):v=crv n X Y t :=
 toF_num hv (crv_num n X Y t) (by rw[h,toF_crv])
theorem pw_toF(b:Int)(k:Nat):toF (pw b k)=toF b^k:=by
 induction k with
 |zero=>simp only[pw,toF_one];grind
 |succ k ih=>simp only[pw,toF_mod,toF_mul,ih];grind
theorem toF_dv(a b:Int):toF (dv a b)=toF a*inv (toF b):=by
 unfold dv inv;rw[toF_mod,toF_mul,pw_toF]
theorem toF_less(a b:Int):toF ((a+31-b)%31)=toF a-toF b:=by
 rw[toF_mod,toF_sub,toF_add,toF_p];grind
def State(X Y C:Nat→Int)(n k i':Nat):Prop:=∀j,j<n→(0≤C j∧C j≤30)∧toF (C j)=dd (fun i=>toF (X i)) (fun i=>toF (Y i)) j (if i'≤j then min j k else min j (k-1))
theorem State.start{X Y:Nat→Int}{n:Nat}(hy:∀j,j<n→0≤Y j∧Y j≤30):State X Y Y n 1 n:=by
 intro j hj;refine⟨hy j hj,?_⟩;rw[if_neg (by omega),show min j (1-1)=0 by omega];rfl
theorem State.step{X Y C:Nat→Int}{n k i:Nat}(h:State X Y C n k (i+1))(hk:1≤k)(hki:k≤i)(hi:i<n):
 State X Y (fun j=>if j=i then dv ((C i+31-C (i-1))%31) ((X i+31-X (i-k))%31)else C j) n k i:=by
 intro j hj
 by_cases hji:j=i
 ·subst hji
  simp only[if_true];refine⟨dv_bd _ _,?_⟩;rw[toF_dv,toF_less,toF_less];have h1:=(h j hj).2;have h2:=(h (j-1) (by omega)).2;rw[if_neg (by omega),show min j (k-1)=k-1 by omega]at h1;rw[if_neg (by omega),show min (j-1) (k-1)=k-1 by omega]at h2;rw[h1,h2,if_pos (Nat.le_refl j),show min j k=(k-1)+1 by omega];simp only[dd];rw[show k-1+1=k by omega]
 ·simp only[if_neg hji]
  have h1:=h j hj;refine⟨h1.1,?_⟩;rw[h1.2];by_cases h2:i+1≤j;·rw[if_pos h2,if_pos (by omega)]
  rw[if_neg h2,if_neg (by omega)]
theorem State.next{X Y C:Nat→Int}{n k:Nat}(h:State X Y C n k k)(hk:1≤k):State X Y C n (k+1) n:=by
 intro j hj;have h1:=h j hj;refine⟨h1.1,?_⟩;rw[h1.2,if_neg (by omega:¬n≤j)];by_cases h2:k≤j;·rw[if_pos h2];rfl
 rw[if_neg h2,show min j (k-1)=j by omega,show min j (k+1-1)=j by omega]
theorem clone_any(b off n c:Nat)(Y:Nat→Int)(hn:1≤n)(hbig:n*8≤140737488351232)(w:World)
 (hc:∀j,j<n→w.cell? ⟨b,off+j,none⟩=some (.int .i64 (Y j))) :
 Calls Tryz.prog 61 #[.slice (some ⟨b,off,none⟩) n c] w fun e w'=>∃g cap,e=.returned (.slice (some ⟨g,0,none⟩) n cap)∧n≤cap∧Row w w' g n Y:=by
 refine(Tryz.slices_Clone_int b off n c ((List.range n).map Y) w (by simp) (by omega) (fun j hj=>?_)).mono ?_
 ·have hj':j<n:=by simpa using hj
  rw[hc j hj'];simp[hj']
 ·rintro e w' ⟨v',rfl,ho,_,hb⟩
  obtain⟨g,cap,hv,hcap,hr⟩:=Row.of_owns (C:=Y) hn ho hb (fun j hj=>by simp[hj]);exact⟨g,cap,by rw[hv],hcap,hr⟩
theorem less_pos{a b:Int}(ha:0≤a∧a≤30)(hb:0≤b∧b≤30)(h:a≠b):1≤(a+31-b)%31∧(a+31-b)%31≤30:=by omega
theorem valueAt_any(b1 o1 c1 b2 o2 c2 n:Nat)(X Y:Nat→Int)(t:Int)(w:World)(hn:1≤n∧n≤8)
 (hX:∀j,j<n→0≤X j∧X j≤30) (hY:∀j,j<n→0≤Y j∧Y j≤30) (ht:0≤t∧t≤30)
 (hinj:∀i j,i<n→j<n→X i=X j→i=j) (hb1:b1<w.heap.size)
 (hx:∀j,j<n→w.cell? ⟨b1,o1+j,none⟩=some (.int .i64 (X j)))
 (hy:∀j,j<n→w.cell? ⟨b2,o2+j,none⟩=some (.int .i64 (Y j))) :
 Calls Tryz.prog 132 #[.slice (some ⟨b1,o1,none⟩) n c1,.slice (some ⟨b2,o2,none⟩) n c2,.int .i64 t] w fun e w'=>e=.returned (.int .i64 (crv n X Y t))∧Below w.heap.size w w':=by
 have HX:Hid (∀j,j<n→w.cell? ⟨b1,o1+j,none⟩=some (.int .i64 (X j))):=hx
 have HN:Hid (∀j,j<n→0≤X j∧X j≤30):=hX
 have HS:Hid (State X Y Y n 1 n):=State.start hY
 have HI:Hid (∀i j,i<n→j<n→X i=X j→i=j):=hinj
 have HC:Hid (Calls Tryz.prog 61 #[.slice (some ⟨b2,o2,none⟩) n c2] w fun e w'=>∃g cap,e=.returned (.slice (some ⟨g,0,none⟩) n cap)∧n≤cap∧Row w w' g n Y):=clone_any b2 o2 n c2 Y hn.1 (by omega) w hy
 clear hx hX hY hinj hy
 go_enter Tryz.func132,Tryz.ntmps132
 go_wp2_with(go_at_call 61;go_must(refine HC.out.mono ?_;rintro e w1 ⟨g,cap,rfl,hcap,hrow⟩;have HR:Hid (Row w w1 g n Y):=hrow;clear hrow))
 go_loopw [8] (fun kv wr=>∃(k:Nat) (C:Nat→Int),1≤k∧k≤n∧kv=.int .i64 k∧Hid (Row w wr g n C)∧Hid (State X Y C n k n)) (fun kv _=>n-(intOf kv).toNat)
 case atStart=>exact⟨1,Y,by omega,by omega,rfl,HR,HS⟩
 case round =>
  obtain⟨k,C,hk1,hkn,rfl,HR2,HS2⟩:=hrel;by_cases hlt:k<n
  ·go_wp2
   go_loopw [9] (fun iv wq=>∃(i':Nat) (C:Nat→Int),k≤i'∧i'≤n∧iv=.int .i64 ((i':Int)-1)∧Hid (Row w wq g n C)∧Hid (State X Y C n k i')) (fun iv _=>(intOf iv+1).toNat)
   case atStart=>exact⟨n,C,by omega,by omega,rfl,HR2,HS2⟩
   case round =>
    obtain⟨i',D,hki,hin,rfl,HR3,HS3⟩:=hrel;by_cases hlt2:k<i'
    ·obtain⟨i,rfl⟩:∃i,i'=i+1:=⟨i'-1,by omega⟩
     have ez:(((i+1:Nat):Int)-1)=(i:Int):=by omega
     rw[ez];clear ez;have hi1:(k:Int)≤(i:Int):=by omega
     have hi2:(i:Int)<(n:Int):=by omega
     have g1:=HR3.out.cell i (by omega);have g2:=HR3.out.cell (i-1) (by omega);have g3:=HR3.out.free i (by omega);have g4:wr.cell? ⟨b1,o1+i,none⟩=some (.int .i64 (X i)):=by rw[HR3.out.below.cell hb1];exact HX.out i (by omega)
     have g5:wr.cell? ⟨b1,o1+(i-k),none⟩=some (.int .i64 (X (i-k))):=by rw[HR3.out.below.cell hb1];exact HX.out (i-k) (by omega)
     have n1:=(HS3.out i (by omega)).1;have n2:=(HS3.out (i-1) (by omega)).1;have n3:=HN.out i (by omega);have n4:=HN.out (i-k) (by omega);have n5:=less_pos n3 n4 (fun e=>by have:=HI.out i (i-k) (by omega) (by omega) e;omega);go_wp2;refine region_quiet_tail 25 (by kernel_rfl) (by kernel_rfl) ?_;simp only[List.take_succ_cons,List.take_zero,List.drop_succ_cons,List.drop_zero];repeat(go_big_quiet_step ((first
      |(go_at_call 163;exact Calls.quiet_of_same (less_any _ _ (by first|exact n1|exact n3) (by first|exact n2|exact n4) _))
      |(go_at_call 162;exact Calls.quiet_of_same (quotient_any _ _ (by omega) n5 _)))))
     refine wpQuiet_nil ?_;intro _ hw1;obtain⟨nq,hw2⟩:=hw1;subst hw2;go_wp2;go_roundw
     case rel=>exact⟨i,_,by omega,by omega,by go_num,(HR3.out.set i (by omega) _).drewN nq,HS3.out.step hk1 (by omega) (by omega)⟩
     case measure=>simp only[intOf];omega
    have he:i'=k:=by omega
    subst he;go_wp2;go_roundw
    case rel=>exact⟨i'+1,D,by omega,by omega,by go_num,HR3,HS3.out.next hk1⟩
    case measure=>simp only[intOf];omega
  have he:k=n:=by omega
  subst he;go_wp2;have HF:Hid (∀j,j<k→(0≤C j∧C j≤30)∧toF (C j)=dd (fun i=>toF (X i)) (fun i=>toF (Y i)) j j):=fun j hj=>by
   have h:=HS2.out j hj;rw[if_neg (by omega),show min j (k-1)=j by omega]at h;exact h
  go_loopw [10,11] (fun vv iv wq=>∃(i':Nat) (v:Int),i'≤k∧iv=.int .i64 ((i':Int)-1)∧vv=.int .i64 v∧(0≤v∧v≤30)∧Hid (Row w wq g k C)∧Hid (toF v=horn (fun i=>toF (X i)) (fun i=>dd (fun i=>toF (X i)) (fun i=>toF (Y i)) i i) (toF t) k (k-i'))) (fun _ iv _=>(intOf iv+1).toNat)
  case atStart=>exact⟨k,0,Nat.le_refl _,rfl,rfl,by omega,HR2,by show _=_;rw[Nat.sub_self];exact toF_zero⟩
  case round =>
   obtain⟨i',v,hik,rfl,rfl,hv,HR3,HV⟩:=hrel;by_cases hpos:0<i'
   ·obtain⟨i,rfl⟩:∃i,i'=i+1:=⟨i'-1,by omega⟩
    have ez:(((i+1:Nat):Int)-1)=(i:Int):=by omega
    rw[ez];clear ez;have hi2:(i:Int)<(k:Int):=by omega
    have g1:=HR3.out.cell i (by omega);have g4:wr.cell? ⟨b1,o1+i,none⟩=some (.int .i64 (X i)):=by rw[HR3.out.below.cell hb1];exact HX.out i (by omega)
    have n1:=(HF.out i (by omega)).1;have n3:=HN.out i (by omega);have n6:0≤(t+31-X i)%31∧(t+31-X i)%31≤30:=by omega
    have n7:=prod_bd hv n6;go_wp2;go_quiet ((go_at_call 163;exact Calls.quiet_of_same (less_any _ _ ht n3 _)));go_wp2;go_roundw
    case rel =>
     refine⟨i,_,by omega,by go_num,rfl,by omega,HR3.out.drewN nq,?_⟩;show _=_;rw[show k-i=(k-(i+1))+1 by omega];simp only[horn];rw[show k-(k-(i+1)+1)=i by omega,toF_mod,toF_add,toF_mul,toF_less,HV.out,(HF.out i (by omega)).2]
    case measure=>simp only[intOf];omega
   have he:i'=0:=by omega
   subst he;go_wp2;go_ret;refine⟨?_,HR3.out.below⟩;have h1:=HV.out;rw[Nat.sub_zero,horn_all]at h1;rw[crv_of k X Y t v hv h1];rfl
def atE(nx ny:Nat)(X Y:Nat→Int)(t:Int):Int:=if chk nx ny X Y=0 then(if isNum t=true then 0 else 2)else chk nx ny X Y
def atV(nx ny:Nat)(X Y:Nat→Int)(t:Int):Int:=if atE nx ny X Y t=0 then crv nx X Y t else 0
def CheckSpec:Prop:=∀(v1 v2:Value) (n1 n2:Nat) (X Y:Nat→Int) (w:World),IntSl w w.heap.size v1 n1 X→IntSl w w.heap.size v2 n2 Y →
 Calls Tryz.prog 167 #[v1,v2] w fun e w'=>e=.returned (.int .i64 (chk n1 n2 X Y))∧Below w.heap.size w w'
def AtSpec:Prop:=∀(v1 v2:Value) (n1 n2:Nat) (X Y:Nat→Int) (t:Int) (w:World),IntSl w w.heap.size v1 n1 X→IntSl w w.heap.size v2 n2 Y →
 Calls Tryz.prog 146 #[v1,v2,.int .i64 t] w fun e w'=>e=.returned (.tuple #[.int .i64 (atV n1 n2 X Y t),.int .i64 (atE n1 n2 X Y t)])∧Below w.heap.size w w'
theorem scan_ok(X Y:Nat→Int)(m:Nat):∀k,scan X Y m k=0→∀j,k≤j→j<k+m→(isNum (X j)=true∧isNum (Y j)=true∧hasB X j (X j)=false):=by
 induction m with
 |zero=>intro k _ j h1 h2;omega
 |succ m ih =>
  intro k h j h1 h2;simp only[scan]at h;by_cases hb:(isNum (X k)&&isNum (Y k))=false;·rw[if_pos hb]at h;omega
  rw[if_neg hb]at h;by_cases hd:hasB X k (X k)=true;·rw[if_pos hd]at h;omega
  rw[if_neg hd]at h;by_cases hjk:j=k
  ·subst hjk
   have hb':(isNum (X j)&&isNum (Y j))=true:=by simpa using hb
   rw[Bool.and_eq_true]at hb';exact⟨hb'.1,hb'.2,by simpa using hd⟩
  exact ih (k+1) h j (by omega) (by omega)
theorem scan_mk(X Y:Nat→Int)(m:Nat):∀k,(∀j,k≤j→j<k+m→(isNum (X j)=true∧isNum (Y j)=true∧hasB X j (X j)=false))→scan X Y m k=0:=by
 induction m with
 |zero=>intro k _;rfl
 |succ m ih =>
  intro k h;obtain⟨h1,h2,h3⟩:=h k (by omega) (by omega);simp only[scan];rw[if_neg (by rw[h1,h2];simp),if_neg (by rw[h3];simp)];exact ih (k+1) (fun j hj1 hj2=>h j (by omega) (by omega))
structure Good(n m:Nat)(X Y:Nat→Int):Prop where
 same:n=m
 len:1≤n∧n≤8
 xs:∀j,j<n→0≤X j∧X j≤30
 ys:∀j,j<n→0≤Y j∧Y j≤30
 inj:∀i j,i<n→j<n→X i=X j→i=j
theorem chk_ok{n m:Nat}{X Y:Nat→Int}(h:chk n m X Y=0):Good n m X Y:=by
 unfold chk at h;by_cases h1:n=m
 ·rw[if_neg (by omega)]at h
  by_cases h2:1≤n∧n≤8
  ·rw[if_pos h2]at h
   have h3:=scan_ok X Y n 0 h;have key:∀i j,i<j→j<n→X i≠X j:=fun i j hij hj e=>by
    have h4:=(h3 j (by omega) (by omega)).2.2;have h5:hasB X j (X j)=true:=(hasB_iff X j (X j)).2 ⟨i,hij,e⟩;rw[h5]at h4;cases h4
   refine⟨h1,h2,fun j hj=>(isNum_iff _).1 (h3 j (by omega) (by omega)).1,fun j hj=>(isNum_iff _).1 (h3 j (by omega) (by omega)).2.1,fun i j hi hj e=>?_⟩;rcases Nat.lt_trichotomy i j with hlt|heq|hgt;·exact absurd e (key i j hlt hj)
   ·exact heq
   exact absurd e.symm (key j i hgt hi)
  rw[if_neg h2]at h;omega
 rw[if_pos h1]at h;omega
theorem chk_mk{n m:Nat}{X Y:Nat→Int}(h:Good n m X Y):chk n m X Y=0:=by
 unfold chk;rw[if_neg (by have:=h.same;omega),if_pos h.len];refine scan_mk X Y n 0 fun j _ hj=>⟨(isNum_iff _).2 (h.xs j (by omega)),(isNum_iff _).2 (h.ys j (by omega)),?_⟩;by_cases hb:hasB X j (X j)=true
 ·obtain⟨i,hi,e⟩:=(hasB_iff X j (X j)).1 hb
  have:=h.inj i j (by omega) (by omega) e;omega
 simpa using hb
theorem Good.injF{n m:Nat}{X Y:Nat→Int}(h:Good n m X Y):Inj n (fun i=>toF (X i)):=fun i j hi hj e=>h.inj i j hi hj (toF_num (h.xs i hi) (h.xs j hj) e)
theorem atE_ok{n m:Nat}{X Y:Nat→Int}{t:Int}(h:chk n m X Y=0)(ht:isNum t=true):atE n m X Y t=0∧atV n m X Y t=crv n X Y t:=by
 have e:atE n m X Y t=0:=by unfold atE;rw[if_pos h,if_pos ht]
 exact⟨e,by unfold atV;rw[if_pos e]⟩
theorem valueAt_good(v1 v2:Value)(n:Nat)(X Y:Nat→Int)(t:Int)(w:World)(h1:IntSl w w.heap.size v1 n X)(h2:IntSl w w.heap.size v2 n Y)(hg:Good n n X Y)(ht:0≤t∧t≤30):
 Calls Tryz.prog 132 #[v1,v2,.int .i64 t] w fun e w'=>e=.returned (.int .i64 (crv n X Y t))∧Below w.heap.size w w':=by
 obtain⟨a1,c1,rfl,⟨hc1,hr1⟩,hx⟩:=h1
 obtain⟨a2,c2,rfl,⟨hc2,hr2⟩,hy⟩:=h2
 have hl:=hg.len
 rcases hx with h0|⟨b1,o1,rfl,hb1,hx⟩
 ·omega
 rcases hy with h0|⟨b2,o2,rfl,_,hy⟩
 ·omega
 exact valueAt_any b1 o1 c1 b2 o2 c2 n X Y t w hg.len hg.xs hg.ys ht hg.inj hb1 hx hy
theorem crvF_uniq{n m:Nat}{X Y:Nat→Int}(h:Good n m X Y)(f:F→F)(hf:Deg n f)(hp:∀j,j<n→f (toF (X j))=toF (Y j))(t:Int):crvF n X Y t=f (toF t):=by
 unfold crvF;exact Deg.uniq (newt_deg _ _ n h.injF) hf h.injF (fun i hi=>by rw[newt_at _ _ n h.injF i hi];exact(hp i hi).symm) (toF t)
theorem crv_uniq{n m:Nat}{X Y:Nat→Int}(h:Good n m X Y)(f:F→F)(hf:Deg n f)(hp:∀j,j<n→f (toF (X j))=toF (Y j))(t v:Int)(hv:0≤v∧v≤30)(e:toF v=f (toF t)):crv n X Y t=v :=
 (crv_of n X Y t v hv (by rw[crvF_uniq h f hf hp t];exact e)).symm
theorem at_up(hA:AtSpec){w0:World}{v1 v2:Value}{n1 n2:Nat}{X Y:Nat→Int}(h1:IntSl w0 w0.heap.size v1 n1 X)(h2:IntSl w0 w0.heap.size v2 n2 Y)(hg:chk n1 n2 X Y=0)(t:Int)(ht:0≤t∧t≤30)(w':World)(hb:Below w0.heap.size w0 w'):
 Calls Tryz.prog 146 #[v1,v2,.int .i64 t] w' fun e w''=>e=.returned (.tuple #[.int .i64 (crv n1 X Y t),.int .i64 0])∧Below w0.heap.size w0 w'':=by
 obtain⟨e1,e2⟩:=atE_ok (t:=t) hg ((isNum_iff t).2 ht)
 have h:=hA _ _ n1 n2 X Y t w' (h1.up hb) (h2.up hb)
 rw[e1,e2]at h
 exact h.mono fun e w'' ⟨he,hb2⟩=>⟨he,hb.trans (hb2.mono hb.size)⟩
theorem clone_isl{w:World}{v:Value}{n:Nat}{X:Nat→Int}(h:IntSl w w.heap.size v n X)(hn:1≤n):
 Calls Tryz.prog 61 #[v] w fun e w'=>∃g cap,e=.returned (.slice (some ⟨g,0,none⟩) n cap)∧n≤cap∧Row w w' g n X:=by
 obtain⟨ad,cap,rfl,⟨hc,hr⟩,hx⟩:=h
 rcases hx with h0|⟨b,off,rfl,_,hx⟩
 ·omega
 ·exact clone_any b off n cap X hn hr w hx
def ShSl(w:World)(B:Nat)(v:Value)(n:Nat)(N:Nat→Int)(V:Nat→Value)(L:Nat→Nat)(X:Nat→Nat→Int):Prop :=
 ∃(ad:Option Addr) (cap:Nat),v=.slice ad n cap∧(n≤cap∧n*32≤140737488351232)∧(n=0∨∃b off,ad=some ⟨b,off,none⟩∧b<B∧∀j,j<n →
  w.cell? ⟨b,off+j*2,none⟩=some (.int .i64 (N j))∧w.cell? ⟨b,off+j*2+1,none⟩=some (V j)∧IntSl w B (V j) (L j) (X j))
theorem ShSl.below{w w':World}{B:Nat}{v:Value}{n:Nat}{N:Nat→Int}{V:Nat→Value}{L:Nat→Nat}{X:Nat→Nat→Int}(h:ShSl w B v n N V L X)(hb:Below B w w'):ShSl w' B v n N V L X:=by
 obtain⟨ad,cap,h1,h0,h2⟩:=h;refine⟨ad,cap,h1,h0,?_⟩;rcases h2 with h2|⟨b,off,h3,h4,h5⟩;·exact Or.inl h2
 refine Or.inr ⟨b,off,h3,h4,fun j hj=>?_⟩;obtain⟨g1,g2,g3⟩:=h5 j hj;exact⟨by rw[hb.cell h4];exact g1,by rw[hb.cell h4];exact g2,g3.below hb⟩
theorem ShSl.mono{w:World}{B B':Nat}{v:Value}{n:Nat}{N:Nat→Int}{V:Nat→Value}{L:Nat→Nat}{X:Nat→Nat→Int}(h:ShSl w B v n N V L X)(hb:B≤B'):ShSl w B' v n N V L X:=by
 obtain⟨ad,cap,h1,h0,h2⟩:=h;refine⟨ad,cap,h1,h0,?_⟩;rcases h2 with h2|⟨b,off,h3,h4,h5⟩;·exact Or.inl h2
 exact Or.inr ⟨b,off,h3,by omega,fun j hj=>⟨(h5 j hj).1,(h5 j hj).2.1,(h5 j hj).2.2.mono hb⟩⟩
theorem ShSl.up{w w':World}{v:Value}{n:Nat}{N:Nat→Int}{V:Nat→Value}{L:Nat→Nat}{X:Nat→Nat→Int}(h:ShSl w w.heap.size v n N V L X)(hb:Below w.heap.size w w'):ShSl w' w'.heap.size v n N V L X :=
 (h.below hb).mono hb.size
def cellS(N:Nat→Int)(V:Nat→Value)(i:Nat):Value:=if i%2=0 then .int .i64 (N (i/2))else V (i/2)
def flatS(n:Nat)(N:Nat→Int)(V:Nat→Value):List Value:=(List.range (n*2)).map (cellS N V)
theorem flatS_len(n:Nat)(N:Nat→Int)(V:Nat→Value):(flatS n N V).length=n*2:=by simp[flatS]
theorem flatS_get(n:Nat)(N:Nat→Int)(V:Nat→Value)(i:Nat):(flatS n N V)[i]?=if i<n*2 then some (cellS N V i)else none:=by
 unfold flatS;by_cases h:i<n*2;·simp[h]
 simp[h]
theorem flatS_succ(n:Nat)(N:Nat→Int)(V:Nat→Value):flatS (n+1) N V=flatS n N V++[.int .i64 (N n),V n]:=by
 apply List.ext_getElem?;intro i;rw[List.getElem?_append,flatS_len,flatS_get,flatS_get];by_cases h1:i<n*2;·rw[if_pos (by omega),if_pos h1,if_pos h1]
 rw[if_neg h1];by_cases h2:i=n*2
 ·subst h2
  rw[if_pos (by omega),Nat.sub_self];unfold cellS;rw[if_pos (by omega),show n*2/2=n by omega];rfl
 by_cases h3:i=n*2+1
 ·subst h3
  rw[if_pos (by omega),show n*2+1-n*2=1 by omega];unfold cellS;rw[if_neg (by omega),show(n*2+1)/2=n by omega];rfl
 rw[if_neg (by omega)];rw[List.getElem?_eq_none (by simp;omega)]
theorem flatS_one{n:Nat}{N:Nat→Int}{V:Nat→Value}(hV:∀j,j<n→(V j).oneCell'=true):∀u∈flatS n N V,u.oneCell'=true:=by
 intro u hu;obtain⟨i,hi,rfl⟩:=List.mem_map.1 hu;have hi':=List.mem_range.1 hi;unfold cellS;split;·rfl
 exact hV _ (by omega)
def OwnS(w0 wr:World)(v:Value)(n:Nat)(N:Nat→Int)(V:Nat→Value):Prop:=wr.ownsRow w0.heap.size 81 2 v n (flatS n N V)∧Below w0.heap.size w0 wr
theorem OwnS.nil(w:World)(N:Nat→Int)(V:Nat→Value):OwnS w w (.slice none 0 0) 0 N V:=⟨World.ownsRow_nil _ _ _ _,Below.refl _ _⟩
theorem OwnS.at{w0 wr:World}{v:Value}{n:Nat}{N:Nat→Int}{V:Nat→Value}(h:OwnS w0 wr v n N V)(hn:1≤n):∃g cap cur,v=.slice (some ⟨g,0,none⟩) n cap∧w0.heap.size≤g∧wr.heap[g]?=some (.cells cur 81 (0,0))∧n≤cap∧cap≤maxLen∧cur.size=cap*2 ∧
 ∀j,j<n→wr.cell? ⟨g,j*2,none⟩=some (.int .i64 (N j))∧wr.cell? ⟨g,j*2+1,none⟩=some (V j):=by
 obtain⟨⟨hl,h2⟩,hb⟩:=h
 rcases h2 with⟨_,h0⟩|⟨g,cap,cur,hv,hg,hh,hc1,hc2,hsz,hcur⟩
 ·omega
 ·refine⟨g,cap,cur,hv,hg,hh,hc1,hc2,hsz,fun j hj=>?_⟩
  have key:∀i,i<n*2→wr.cell? ⟨g,i,none⟩=some (cellS N V i):=fun i hi=>by
   have h3:=flatS_get n N V i;rw[if_pos hi,←hcur,List.getElem?_take,if_pos hi]at h3;exact cell_at hh (by simpa using h3)
  refine⟨?_,?_⟩
  ·rw[key (j*2) (by omega)]
   unfold cellS;rw[if_pos (by omega),show j*2/2=j by omega]
  rw[key (j*2+1) (by omega)];unfold cellS;rw[if_neg (by omega),show(j*2+1)/2=j by omega]
theorem OwnS.shl{w0 wr:World}{v:Value}{n:Nat}{N:Nat→Int}{V:Nat→Value}{L:Nat→Nat}{X:Nat→Nat→Int}(h:OwnS w0 wr v n N V)(hr:n*32≤140737488351232)(hi:∀j,j<n→IntSl wr wr.heap.size (V j) (L j) (X j)):ShSl wr wr.heap.size v n N V L X:=by
 by_cases h0:n=0
 ·subst h0
  rcases h.1.2 with⟨rfl,_⟩|⟨g,cap,cur,rfl,_,_,hc,_⟩;·exact⟨none,0,rfl,⟨Nat.le_refl _,by omega⟩,Or.inl rfl⟩
  exact⟨_,cap,rfl,⟨hc,by omega⟩,Or.inl rfl⟩
 obtain⟨g,cap,cur,rfl,hg,hh,hc,_,_,hcell⟩:=h.at (by omega);refine⟨_,cap,rfl,⟨hc,hr⟩,Or.inr ⟨g,0,rfl,cell_lt (hcell 0 (by omega)).1,fun j hj=>?_⟩⟩;obtain⟨c1,c2⟩:=hcell j hj;rw[Nat.zero_add];exact⟨c1,c2,hi j hj⟩
theorem Tryz.infoShare:(Tryz.prog.info? 81).map (fun i=>(i.zero,i.size,i.bytes))=some (some (.agg #[.int .i64 0,.slice none 0 0]),2,32):=by kernel_rfl
theorem slice_one{w:World}{B:Nat}{v:Value}{n:Nat}{X:Nat→Int}(h:IntSl w B v n X):v.oneCell'=true:=by
 obtain⟨ad,cap,rfl,_⟩:=h;rfl
end Go.Proofs.YtajmnlhfnhbleaaGreat
