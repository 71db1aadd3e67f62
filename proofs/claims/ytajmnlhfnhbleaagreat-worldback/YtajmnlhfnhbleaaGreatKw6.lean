/- Several texts of one proof, in their order. -/
import Derived.Test.YtajmnlhfnhbleaaGreatKw5
namespace Go.Proofs.YtajmnlhfnhbleaaGreat.CurveMath
set_option linter.unusedVariables false
abbrev F:=Fin 31
def inv(a:F):F:=a^29
theorem inv_all:∀a:F,a≠0→inv a*a=1:=by decide +kernel
theorem inv_zero:inv 0=0:=by decide +kernel
theorem mul_eq_zero{a b:F}(h:a*b=0):a=0∨b=0:=by
 by_cases ha:a=0;·exact Or.inl ha
 right;have:=inv_all a ha;grind
theorem sub_ne{a b:F}(h:a≠b):a-b≠0:=by
 intro h0;apply h;grind
def eval:List F→F→F
 |[],_=>0
 |a::p,t=>a+t*eval p t
def Deg(n:Nat)(f:F→F):Prop:=∃p:List F,p.length≤n∧∀t,f t=eval p t
theorem Deg.mono{n m:Nat}{f:F→F}(h:Deg n f)(hnm:n≤m):Deg m f:=by
 obtain⟨p,hp,he⟩:=h;exact⟨p,Nat.le_trans hp hnm,he⟩
theorem Deg.congr{n:Nat}{f g:F→F}(h:Deg n f)(e:∀t,g t=f t):Deg n g:=by
 obtain⟨p,hp,he⟩:=h;exact⟨p,hp,fun t=>by rw[e,he]⟩
theorem Deg.const(a:F):Deg 1 (fun _=>a):=⟨[a],by simp,fun t=>by simp only[eval];grind⟩
theorem Deg.zero(n:Nat):Deg n (fun _=>0):=⟨[],by simp,fun t=>rfl⟩
theorem eval_smul(c:F)(p:List F)(t:F):eval (p.map (c * ·)) t=c*eval p t:=by
 induction p with
 |nil=>simp only[List.map_nil,eval];grind
 |cons a p ih=>simp only[List.map_cons,eval,ih];grind
theorem Deg.smul{n:Nat}{f:F→F}(c:F)(h:Deg n f):Deg n (fun t=>c*f t):=by
 obtain⟨p,hp,he⟩:=h;exact⟨p.map (c * ·),by simpa using hp,fun t=>by simp only[eval_smul,he]⟩
def addP:List F→List F→List F
 |[],q=>q
 |a::p,[]=>a::p
 |a::p,b::q=>(a+b)::addP p q
theorem eval_addP(p q:List F)(t:F):eval (addP p q) t=eval p t+eval q t:=by
 induction p generalizing q with
 |nil=>simp only[addP,eval];grind
 |cons a p ih =>
  cases q with
  |nil=>simp only[addP,eval];grind
  |cons b q=>simp only[addP,eval,ih];grind
theorem len_addP(p q:List F)(n:Nat)(hp:p.length≤n)(hq:q.length≤n):(addP p q).length≤n:=by
 induction p generalizing q n with
 |nil=>simpa only[addP]using hq
 |cons a p ih =>
  cases q with
  |nil=>simpa only[addP]using hp
  |cons b q =>
   simp only[addP,List.length_cons]at hp hq ⊢;obtain⟨m,rfl⟩:∃m,n=m+1:=⟨n-1,by omega⟩;have:=ih q m (by omega) (by omega);omega
theorem Deg.add{n:Nat}{f g:F→F}(hf:Deg n f)(hg:Deg n g):Deg n (fun t=>f t+g t):=by
 obtain⟨p,hp,he⟩:=hf;obtain⟨q,hq,he2⟩:=hg;exact⟨addP p q,len_addP p q n hp hq,fun t=>by simp only[eval_addP,he,he2]⟩
theorem Deg.sub{n:Nat}{f g:F→F}(hf:Deg n f)(hg:Deg n g):Deg n (fun t=>f t-g t) :=
 (hf.add (hg.smul (-1))).congr fun t=>by grind
theorem Deg.mulLin{n:Nat}{f:F→F}(r:F)(h:Deg n f):Deg (n+1) (fun t=>(t-r)*f t):=by
 obtain⟨p,hp,he⟩:=h;have h1:Deg (n+1) (fun t=>t*f t):=⟨0::p,by simp;omega,fun t=>by simp only[eval,he];grind⟩;have h2:Deg (n+1) (fun t=>f t):=Deg.mono ⟨p,hp,he⟩ (by omega);exact(h1.sub (h2.smul r)).congr fun t=>by grind
theorem split(p:List F)(r:F):∃q:List F,q.length≤p.length-1∧∀t,eval p t=(t-r)*eval q t+eval p r:=by
 induction p with
 |nil=>exact⟨[],by simp,fun t=>by simp only[eval];grind⟩
 |cons a p ih =>
  cases p with
  |nil=>exact⟨[],by simp,fun t=>by simp only[eval];grind⟩
  |cons b p' =>
   obtain⟨q,hq,he⟩:=ih;refine⟨eval (b::p') r::q,by simp only[List.length_cons]at hq ⊢;omega,fun t=>?_⟩;have h1:eval (a::b::p') t=a+t*eval (b::p') t:=rfl;have h2:eval (a::b::p') r=a+r*eval (b::p') r:=rfl;have h3:eval (eval (b::p') r::q) t=eval (b::p') r+t*eval q t:=rfl;rw[h1,h2,h3,he t];generalize eval (b::p') r=e;generalize eval q t=u;grind
def Inj(n:Nat)(x:Nat→F):Prop:=∀i j,i<n→j<n→x i=x j→i=j
theorem roots(n:Nat)(x:Nat→F):∀(p:List F),p.length≤n→Inj n x→(∀i,i<n→eval p (x i)=0)→∀t,eval p t=0:=by
 induction n with
 |zero =>
  intro p hp _ _ t;have:p=[]:=List.length_eq_zero_iff.1 (by omega);subst this;rfl
 |succ n ih =>
  intro p hp hx h0 t;obtain⟨q,hq,he⟩:=split p (x n);have hn:=h0 n (by omega);have hq0:∀t,eval q t=0:=by
   apply ih q (by omega) (fun i j hi hj=>hx i j (by omega) (by omega));intro i hi;have h1:=h0 i (by omega);rw[he (x i),hn]at h1;have hne:x i-x n≠0:=sub_ne (fun e=>by have:=hx i n (by omega) (by omega) e;omega);have h2:(x i-x n)*eval q (x i)=0:=by grind
   exact(mul_eq_zero h2).resolve_left hne
  rw[he t,hn,hq0 t];grind
theorem Deg.uniq{n:Nat}{f g:F→F}{x:Nat→F}(hf:Deg n f)(hg:Deg n g)(hx:Inj n x)(h:∀i,i<n→f (x i)=g (x i)):∀t,f t=g t:=by
 obtain⟨p,hp,he⟩:=hf.sub hg;have:=roots n x p hp hx (fun i hi=>by rw[←he];simp only[h i hi];grind);intro t;have h1:=he t;rw[this t]at h1;grind
def prodLin(x:Nat→F)(m:Nat):Nat→F→F
 |0,_=>1
 |k+1,t=>(t-x (m+k))*prodLin x m k t
def Lead(n:Nat)(a:F)(f:F→F):Prop:=Deg n (fun t=>f t-a*t^n)
theorem Lead.deg{n:Nat}{a:F}{f:F→F}(h:Lead n a f):Deg (n+1) f:=by
 have h1:∀n:Nat,Deg (n+1) (fun t=>t^n):=by
  intro n;induction n with
  |zero=>exact(Deg.const 1).congr fun t=>by grind
  |succ n ih =>
   have:=ih.mulLin 0;exact this.congr fun t=>by grind
 exact((h.mono (Nat.le_succ n)).add ((h1 n).smul a)).congr fun t=>by grind
theorem Lead.const(a:F):Lead 0 a (fun _=>a):=(Deg.zero 0).congr fun t=>by grind
theorem Lead.mulLin{n:Nat}{a:F}{f:F→F}(r:F)(h:Lead n a f):Lead (n+1) a (fun t=>(t-r)*f t):=by
 have h1:=Deg.mulLin r h;have h2:Deg (n+1) (fun t=>r*(a*t^n)):=by
  have h3:∀n:Nat,Deg (n+1) (fun t=>t^n):=by
   intro n;induction n with
   |zero=>exact(Deg.const 1).congr fun t=>by grind
   |succ n ih =>
    have:=ih.mulLin 0;exact this.congr fun t=>by grind
  exact((h3 n).smul (r*a)).congr fun t=>by grind
 exact(h1.sub h2).congr fun t=>by grind
theorem Lead.smul{n:Nat}{a:F}{f:F→F}(c:F)(h:Lead n a f):Lead n (c*a) (fun t=>c*f t) :=
 (Deg.smul c h).congr fun t=>by grind
theorem Lead.sub{n:Nat}{a b:F}{f g:F→F}(hf:Lead n a f)(hg:Lead n b g):Lead n (a-b) (fun t=>f t-g t) :=
 (Deg.sub hf hg).congr fun t=>by grind
theorem Lead.of_deg{n:Nat}{f:F→F}(h:Deg n f):Lead n 0 f:=h.congr fun t=>by grind
theorem lead_prodLin(x:Nat→F)(m:Nat)(k:Nat):Lead k 1 (prodLin x m k):=by
 induction k with
 |zero=>exact(Lead.const 1).congr fun t=>by simp only[prodLin]
 |succ k ih=>exact(Lead.mulLin (x (m+k)) ih).congr fun t=>by simp only[prodLin]
theorem prodLin_zero(x:Nat→F)(m k i:Nat)(hi:i<k):prodLin x m k (x (m+i))=0:=by
 induction k with
 |zero=>omega
 |succ k ih =>
  simp only[prodLin];by_cases h:i=k;·subst h;grind
  rw[ih (by omega)];grind
theorem Lead.product{n:Nat}{a:F}{f:F→F}{x:Nat→F}{m:Nat}(h:Lead n a f)(hx:Inj n (fun i=>x (m+i)))(h0:∀i,i<n→f (x (m+i))=0):∀t,f t=a*prodLin x m n t:=by
 have h1:Deg n (fun t=>f t-a*prodLin x m n t):=by
  have h2:=Lead.sub h (Lead.smul a (lead_prodLin x m n));exact Deg.congr h2 fun t=>by grind
 have h3:=Deg.uniq h1 (Deg.zero n) hx (fun i hi=>by
  show f (x (m+i))-a*prodLin x m n (x (m+i))=0;rw[h0 i hi,prodLin_zero x m n i hi];grind)
 intro t;have:=h3 t;grind
def dd(x y:Nat→F):Nat→Nat→F
 |i,0=>y i
 |i,k+1=>(dd x y i k-dd x y (i-1) k)*inv (x i-x (i-(k+1)))
def nev(x y:Nat→F):Nat→Nat→F→F
 |i,0,_=>y i
 |i,k+1,t=>((t-x (i-(k+1)))*nev x y i k t-(t-x i)*nev x y (i-1) k t)*inv (x i-x (i-(k+1)))
theorem lead_nev(x y:Nat→F)(k:Nat):∀i,Lead k (dd x y i k) (nev x y i k):=by
 induction k with
 |zero=>intro i;exact(Lead.const (y i)).congr fun t=>by simp only[nev,dd]
 |succ k ih =>
  intro i;have h:=Lead.smul (inv (x i-x (i-(k+1)))) (Lead.sub (Lead.mulLin (x (i-(k+1))) (ih i)) (Lead.mulLin (x i) (ih (i-1))));exact Deg.congr h fun t=>by simp only[nev,dd];grind
theorem nev_at(x y:Nat→F)(n:Nat)(hx:Inj n x)(k:Nat):∀i j,k≤i→i<n→i-k≤j→j≤i→nev x y i k (x j)=y j:=by
 induction k with
 |zero =>
  intro i j _ _ h1 h2;have:i=j:=by omega
  subst this;rfl
 |succ k ih =>
  intro i j hk hi h1 h2;have hne:x i-x (i-(k+1))≠0:=sub_ne (fun e=>by have:=hx i (i-(k+1)) (by omega) (by omega) e;omega);have hinv:=inv_all _ hne;simp only[nev];by_cases ha:j=i
  ·subst ha
   rw[ih j j (by omega) (by omega) (by omega) (by omega)];grind
  by_cases hb:j=i-(k+1)
  ·rw[hb]at *
   rw[ih (i-1) (i-(k+1)) (by omega) (by omega) (by omega) (by omega)];grind
  rw[ih i j (by omega) (by omega) (by omega) (by omega),ih (i-1) j (by omega) (by omega) (by omega) (by omega)];grind
def newt(x:Nat→F)(c:Nat→F):Nat→F→F
 |0,_=>0
 |n+1,t=>newt x c n t+c n*prodLin x 0 n t
theorem newt_nev(x y:Nat→F)(n:Nat)(hx:Inj (n+1) x):∀t,newt x (fun i=>dd x y i i) (n+1) t=nev x y n n t:=by
 induction n with
 |zero=>intro t;simp only[newt,prodLin,dd,nev];grind
 |succ n ih =>
  intro t;have ih':=ih (fun i j hi hj=>hx i j (by omega) (by omega)) t;have e:newt x (fun i=>dd x y i i) (n+1+1) t=newt x (fun i=>dd x y i i) (n+1) t+dd x y (n+1) (n+1)*prodLin x 0 (n+1) t:=rfl;rw[e,ih'];have h1:=lead_nev x y (n+1) (n+1);have h2:Lead (n+1) 0 (nev x y n n):=Lead.of_deg (lead_nev x y n n).deg;have h3:=Lead.product (x:=x) (m:=0) (Lead.sub h1 h2) (fun i j hi hj e=>hx i j (by omega) (by omega) (by simpa using e)) (fun i hi=>by
   simp only[Nat.zero_add];rw[nev_at x y (n+1+1) hx (n+1) (n+1) i (by omega) (by omega) (by omega) (by omega)];rw[nev_at x y (n+1+1) hx n n i (by omega) (by omega) (by omega) (by omega)];grind) t
  grind
theorem newt_deg(x y:Nat→F)(n:Nat)(hx:Inj n x):Deg n (newt x (fun i=>dd x y i i) n):=by
 cases n with
 |zero=>exact(Deg.zero 0).congr fun t=>rfl
 |succ n=>exact(lead_nev x y n n).deg.congr fun t=>newt_nev x y n hx t
theorem newt_at(x y:Nat→F)(n:Nat)(hx:Inj n x)(j:Nat)(hj:j<n):newt x (fun i=>dd x y i i) n (x j)=y j:=by
 cases n with
 |zero=>omega
 |succ n=>rw[newt_nev x y n hx,nev_at x y (n+1) hx n n j (by omega) (by omega) (by omega) (by omega)]
def toF(a:Int):F:=Fin.ofNat 31 (a%31).toNat
theorem toF_val(a:Int):((toF a).val:Int)=a%31:=by
 have h1:0≤a%31:=by omega
 have h2:a%31<31:=by omega
 show(((a%31).toNat%31:Nat):Int)=a%31;omega
theorem toF_inj{a b:Int}(h:toF a=toF b):a%31=b%31:=by
 rw[←toF_val a,←toF_val b,h]
theorem toF_eq{a b:Int}(h:a%31=b%31):toF a=toF b:=by
 unfold toF;rw[h]
theorem toF_num{a b:Int}(ha:0≤a∧a≤30)(hb:0≤b∧b≤30)(h:toF a=toF b):a=b:=by
 have:=toF_inj h;omega
theorem toF_mod(a:Int):toF (a%31)=toF a:=toF_eq (by omega)
theorem toF_add(a b:Int):toF (a+b)=toF a+toF b:=by
 apply Fin.ext;have h1:=toF_val a;have h2:=toF_val b;have h3:=toF_val (a+b);rw[Fin.val_add];omega
theorem toF_mul(a b:Int):toF (a*b)=toF a*toF b:=by
 apply Fin.ext;have h1:=toF_val a;have h2:=toF_val b;have h3:=toF_val (a*b);rw[Fin.val_mul];have h4:(((toF a).val*(toF b).val%31:Nat):Int)=a*b%31:=by
  rw[Int.natCast_emod,Int.natCast_mul,h1,h2,Int.mul_emod a b 31];rfl
 omega
theorem toF_sub(a b:Int):toF (a-b)=toF a-toF b:=by
 have h:=toF_add (a-b) b;rw[show a-b+b=a by omega]at h;grind
theorem toF_zero:toF 0=0:=by decide +kernel
theorem toF_one:toF 1=1:=by decide +kernel
theorem toF_p:toF 31=0:=by decide +kernel
def lb(x:Nat→F)(i:Nat)(t:F):Nat→F
 |0=>1
 |k+1=>if k=i then lb x i t k else lb x i t k*((t-x k)*inv (x i-x k))
theorem lb_deg(x:Nat→F)(i:Nat)(k:Nat):Deg (if i<k then k else k+1) (fun t=>lb x i t k):=by
 induction k with
 |zero=>exact((Deg.const 1).congr fun t=>by simp only[lb]).mono (by simp)
 |succ k ih =>
  by_cases h:k=i
  ·subst h
   rw[if_pos (by omega)];rw[if_neg (by omega)]at ih;exact ih.congr fun t=>by simp[lb]
  have h1:=(ih.mulLin (x k)).smul (inv (x i-x k));refine Deg.congr (h1.mono ?_) fun t=>by simp only[lb,if_neg h];grind
  by_cases h2:i<k;·rw[if_pos h2,if_pos (by omega)];omega
  rw[if_neg h2,if_neg (by omega)];omega
theorem lb_other(x:Nat→F)(i j:Nat)(k:Nat)(hj:j<k)(hij:j≠i):lb x i (x j) k=0:=by
 induction k with
 |zero=>omega
 |succ k ih =>
  simp only[lb];by_cases h:k=i;·rw[if_pos h];exact ih (by omega)
  rw[if_neg h];by_cases h2:j=k;·subst h2;grind
  rw[ih (by omega)];grind
theorem lb_own(x:Nat→F)(n:Nat)(hx:Inj n x)(i:Nat)(hi:i<n)(k:Nat)(hk:k≤n):lb x i (x i) k=1:=by
 induction k with
 |zero=>rfl
 |succ k ih =>
  simp only[lb];by_cases h:k=i;·rw[if_pos h];exact ih (by omega)
  rw[if_neg h,ih (by omega)];have hne:x i-x k≠0:=sub_ne (fun e=>by have:=hx i k hi (by omega) e;omega);have:=inv_all _ hne;grind
def lag(x y:Nat→F)(n:Nat)(t:F):Nat→F
 |0=>0
 |m+1=>lag x y n t m+y m*lb x m t n
theorem lag_deg(x y:Nat→F)(n:Nat)(m:Nat)(hm:m≤n):Deg n (fun t=>lag x y n t m):=by
 induction m with
 |zero=>exact(Deg.zero n).congr fun t=>by simp only[lag]
 |succ m ih =>
  have h1:=lb_deg x m n;rw[if_pos (by omega)]at h1;exact((ih (by omega)).add (h1.smul (y m))).congr fun t=>by simp only[lag]
theorem lag_at_low(x y:Nat→F)(n:Nat)(hx:Inj n x)(j:Nat)(hj:j<n)(m:Nat)(hm:m≤j):lag x y n (x j) m=0:=by
 induction m with
 |zero=>rfl
 |succ m ih =>
  simp only[lag];rw[ih (by omega),lb_other x m j n hj (by omega)];grind
theorem lag_at_high(x y:Nat→F)(n:Nat)(hx:Inj n x)(j:Nat)(hj:j<n)(m:Nat)(hm:j<m):lag x y n (x j) m=y j:=by
 induction m with
 |zero=>omega
 |succ m ih =>
  simp only[lag];by_cases h:j=m
  ·subst h
   rw[lag_at_low x y n hx j hj j (Nat.le_refl _),lb_own x n hx j hj n (Nat.le_refl _)];grind
  rw[ih (by omega),lb_other x m j n hj h];grind
theorem lag_at(x y:Nat→F)(n:Nat)(hx:Inj n x)(j:Nat)(hj:j<n):lag x y n (x j) n=y j:=lag_at_high x y n hx j hj n hj
theorem lag_newt(x y:Nat→F)(n:Nat)(hx:Inj n x)(t:F):lag x y n t n=newt x (fun i=>dd x y i i) n t :=
 Deg.uniq (lag_deg x y n n (Nat.le_refl _)) (newt_deg x y n hx) hx (fun i hi=>by rw[newt_at x y n hx i hi];exact lag_at x y n hx i hi) t
end Go.Proofs.YtajmnlhfnhbleaaGreat.CurveMath
namespace Go.Proofs.YtajmnlhfnhbleaaGreat
open Go.RowKit CurveMath
set_option linter.unusedVariables false
def scan(X Y:Nat→Int):Nat→Nat→Int
 |0,_=>0
 |m+1,k=>if(isNum (X k)&&isNum (Y k))=false then 2 else if hasB X k (X k)=true then 5 else scan X Y m (k+1)
def chk(nx ny:Nat)(X Y:Nat→Int):Int:=if nx≠ny then 3 else if 1≤nx∧nx≤8 then scan X Y nx 0 else 1
theorem scan_bad{X Y:Nat→Int}{n k:Nat}{e:Int}(hk:k<n)(h:scan X Y (n-k) k=e)(hb:(isNum (X k)&&isNum (Y k))=false):e=2:=by
 rw[show n-k=(n-k-1)+1 by omega]at h;simp only[scan]at h;rw[if_pos hb]at h;exact h.symm
theorem scan_dup{X Y:Nat→Int}{n k:Nat}{e:Int}(hk:k<n)(h:scan X Y (n-k) k=e)(hb:(isNum (X k)&&isNum (Y k))=true)(hd:hasB X k (X k)=true):e=5:=by
 rw[show n-k=(n-k-1)+1 by omega]at h;simp only[scan]at h;rw[if_neg (by rw[hb];simp),if_pos hd]at h;exact h.symm
theorem scan_next{X Y:Nat→Int}{n k:Nat}{e:Int}(hk:k<n)(h:scan X Y (n-k) k=e)(hb:(isNum (X k)&&isNum (Y k))=true)(hd:hasB X k (X k)=false):scan X Y (n-(k+1)) (k+1)=e:=by
 rw[show n-k=(n-(k+1))+1 by omega]at h;simp only[scan]at h;rw[if_neg (by rw[hb];simp),if_neg (by rw[hd];simp)]at h;exact h
def crvF(n:Nat)(X Y:Nat→Int)(t:Int):F:=newt (fun i=>toF (X i)) (fun i=>dd (fun i=>toF (X i)) (fun i=>toF (Y i)) i i) n (toF t)
def crv(n:Nat)(X Y:Nat→Int)(t:Int):Int:=((crvF n X Y t).val:Int)
theorem crv_num(n:Nat)(X Y:Nat→Int)(t:Int):0≤crv n X Y t∧crv n X Y t≤30:=by
 unfold crv;have:=(crvF n X Y t).isLt;omega
theorem toF_crv(n:Nat)(X Y:Nat→Int)(t:Int):toF (crv n X Y t)=crvF n X Y t:=by
 apply Fin.ext;have h:=toF_val (crv n X Y t);have h2:=crv_num n X Y t;have h3:crv n X Y t=((crvF n X Y t).val:Int):=rfl;omega
theorem crv_of(n:Nat)(X Y:Nat→Int)(t v:Int)(hv:0≤v∧v≤30)(h:toF v=crvF n X Y t):v=crv n X Y t :=
 toF_num hv (crv_num n X Y t) (by rw[h,toF_crv])
theorem pw_toF(b:Int)(k:Nat):toF (pw b k)=toF b^k:=by
 induction k with
 |zero=>simp only[pw,toF_one];grind
 |succ k ih=>simp only[pw,toF_mod,toF_mul,ih];grind
theorem toF_dv(a b:Int):toF (dv a b)=toF a*inv (toF b):=by
 unfold dv inv;rw[toF_mod,toF_mul,pw_toF]
theorem toF_less(a b:Int):toF ((a+31-b)%31)=toF a-toF b:=by
 rw[toF_mod,toF_sub,toF_add,toF_p];grind
def State(X Y C:Nat→Int)(n k i':Nat):Prop:=∀j,j<n→(0≤C j∧C j≤30)∧toF (C j)=dd (fun i=>toF (X i)) (fun i=>toF (Y i)) j (if i'≤j then min j k else min j (k-1))
theorem State.start{X Y:Nat→Int}{n:Nat}(hy:∀j,j<n→0≤Y j∧Y j≤30):State X Y Y n 1 n:=by
 intro j hj;refine⟨hy j hj,?_⟩;rw[if_neg (by omega),show min j (1-1)=0 by omega];rfl
theorem State.step{X Y C:Nat→Int}{n k i:Nat}(h:State X Y C n k (i+1))(hk:1≤k)(hki:k≤i)(hi:i<n):
 State X Y (fun j=>if j=i then dv ((C i+31-C (i-1))%31) ((X i+31-X (i-k))%31)else C j) n k i:=by
 intro j hj
 by_cases hji:j=i
 ·subst hji
  simp only[if_true];refine⟨dv_bd _ _,?_⟩;rw[toF_dv,toF_less,toF_less];have h1:=(h j hj).2;have h2:=(h (j-1) (by omega)).2;rw[if_neg (by omega),show min j (k-1)=k-1 by omega]at h1;rw[if_neg (by omega),show min (j-1) (k-1)=k-1 by omega]at h2;rw[h1,h2,if_pos (Nat.le_refl j),show min j k=(k-1)+1 by omega];simp only[dd];rw[show k-1+1=k by omega]
 ·simp only[if_neg hji]
  have h1:=h j hj;refine⟨h1.1,?_⟩;rw[h1.2];by_cases h2:i+1≤j;·rw[if_pos h2,if_pos (by omega)]
  rw[if_neg h2,if_neg (by omega)]
theorem State.next{X Y C:Nat→Int}{n k:Nat}(h:State X Y C n k k)(hk:1≤k):State X Y C n (k+1) n:=by
 intro j hj;have h1:=h j hj;refine⟨h1.1,?_⟩;rw[h1.2,if_neg (by omega:¬n≤j)];by_cases h2:k≤j;·rw[if_pos h2];rfl
 rw[if_neg h2,show min j (k-1)=j by omega,show min j (k+1-1)=j by omega]
def atE(nx ny:Nat)(X Y:Nat→Int)(t:Int):Int:=if chk nx ny X Y=0 then(if isNum t=true then 0 else 2)else chk nx ny X Y
def atV(nx ny:Nat)(X Y:Nat→Int)(t:Int):Int:=if atE nx ny X Y t=0 then crv nx X Y t else 0
def CheckSpec:Prop:=∀(v1 v2:Value) (n1 n2:Nat) (X Y:Nat→Int) (w:World),IntSl w w.heap.size v1 n1 X→IntSl w w.heap.size v2 n2 Y →
 Calls Tryz.prog 167 #[v1,v2] w fun e w'=>e=.returned (.int .i64 (chk n1 n2 X Y))∧Below w.heap.size w w'
def AtSpec:Prop:=∀(v1 v2:Value) (n1 n2:Nat) (X Y:Nat→Int) (t:Int) (w:World),IntSl w w.heap.size v1 n1 X→IntSl w w.heap.size v2 n2 Y →
 Calls Tryz.prog 146 #[v1,v2,.int .i64 t] w fun e w'=>e=.returned (.tuple #[.int .i64 (atV n1 n2 X Y t),.int .i64 (atE n1 n2 X Y t)])∧Below w.heap.size w w'
theorem scan_ok(X Y:Nat→Int)(m:Nat):∀k,scan X Y m k=0→∀j,k≤j→j<k+m→(isNum (X j)=true∧isNum (Y j)=true∧hasB X j (X j)=false):=by
 induction m with
 |zero=>intro k _ j h1 h2;omega
 |succ m ih =>
  intro k h j h1 h2;simp only[scan]at h;by_cases hb:(isNum (X k)&&isNum (Y k))=false;·rw[if_pos hb]at h;omega
  rw[if_neg hb]at h;by_cases hd:hasB X k (X k)=true;·rw[if_pos hd]at h;omega
  rw[if_neg hd]at h;by_cases hjk:j=k
  ·subst hjk
   have hb':(isNum (X j)&&isNum (Y j))=true:=by simpa using hb
   rw[Bool.and_eq_true]at hb';exact⟨hb'.1,hb'.2,by simpa using hd⟩
  exact ih (k+1) h j (by omega) (by omega)
theorem scan_mk(X Y:Nat→Int)(m:Nat):∀k,(∀j,k≤j→j<k+m→(isNum (X j)=true∧isNum (Y j)=true∧hasB X j (X j)=false))→scan X Y m k=0:=by
 induction m with
 |zero=>intro k _;rfl
 |succ m ih =>
  intro k h;obtain⟨h1,h2,h3⟩:=h k (by omega) (by omega);simp only[scan];rw[if_neg (by rw[h1,h2];simp),if_neg (by rw[h3];simp)];exact ih (k+1) (fun j hj1 hj2=>h j (by omega) (by omega))
structure Good(n m:Nat)(X Y:Nat→Int):Prop where
 same:n=m
 len:1≤n∧n≤8
 xs:∀j,j<n→0≤X j∧X j≤30
 ys:∀j,j<n→0≤Y j∧Y j≤30
 inj:∀i j,i<n→j<n→X i=X j→i=j
theorem chk_ok{n m:Nat}{X Y:Nat→Int}(h:chk n m X Y=0):Good n m X Y:=by
 unfold chk at h;by_cases h1:n=m
 ·rw[if_neg (by omega)]at h
  by_cases h2:1≤n∧n≤8
  ·rw[if_pos h2]at h
   have h3:=scan_ok X Y n 0 h;have key:∀i j,i<j→j<n→X i≠X j:=fun i j hij hj e=>by
    have h4:=(h3 j (by omega) (by omega)).2.2;have h5:hasB X j (X j)=true:=(hasB_iff X j (X j)).2 ⟨i,hij,e⟩;rw[h5]at h4;cases h4
   refine⟨h1,h2,fun j hj=>(isNum_iff _).1 (h3 j (by omega) (by omega)).1,fun j hj=>(isNum_iff _).1 (h3 j (by omega) (by omega)).2.1,fun i j hi hj e=>?_⟩;rcases Nat.lt_trichotomy i j with hlt|heq|hgt;·exact absurd e (key i j hlt hj)
   ·exact heq
   exact absurd e.symm (key j i hgt hi)
  rw[if_neg h2]at h;omega
 rw[if_pos h1]at h;omega
theorem chk_mk{n m:Nat}{X Y:Nat→Int}(h:Good n m X Y):chk n m X Y=0:=by
 unfold chk;rw[if_neg (by have:=h.same;omega),if_pos h.len];refine scan_mk X Y n 0 fun j _ hj=>⟨(isNum_iff _).2 (h.xs j (by omega)),(isNum_iff _).2 (h.ys j (by omega)),?_⟩;by_cases hb:hasB X j (X j)=true
 ·obtain⟨i,hi,e⟩:=(hasB_iff X j (X j)).1 hb
  have:=h.inj i j (by omega) (by omega) e;omega
 simpa using hb
theorem Good.injF{n m:Nat}{X Y:Nat→Int}(h:Good n m X Y):Inj n (fun i=>toF (X i)):=fun i j hi hj e=>h.inj i j hi hj (toF_num (h.xs i hi) (h.xs j hj) e)
theorem atE_ok{n m:Nat}{X Y:Nat→Int}{t:Int}(h:chk n m X Y=0)(ht:isNum t=true):atE n m X Y t=0∧atV n m X Y t=crv n X Y t:=by
 have e:atE n m X Y t=0:=by unfold atE;rw[if_pos h,if_pos ht]
 exact⟨e,by unfold atV;rw[if_pos e]⟩
theorem crvF_uniq{n m:Nat}{X Y:Nat→Int}(h:Good n m X Y)(f:F→F)(hf:Deg n f)(hp:∀j,j<n→f (toF (X j))=toF (Y j))(t:Int):crvF n X Y t=f (toF t):=by
 unfold crvF;exact Deg.uniq (newt_deg _ _ n h.injF) hf h.injF (fun i hi=>by rw[newt_at _ _ n h.injF i hi];exact(hp i hi).symm) (toF t)
theorem crv_uniq{n m:Nat}{X Y:Nat→Int}(h:Good n m X Y)(f:F→F)(hf:Deg n f)(hp:∀j,j<n→f (toF (X j))=toF (Y j))(t v:Int)(hv:0≤v∧v≤30)(e:toF v=f (toF t)):crv n X Y t=v :=
 (crv_of n X Y t v hv (by rw[crvF_uniq h f hf hp t];exact e)).symm
theorem at_up(hA:AtSpec){w0:World}{v1 v2:Value}{n1 n2:Nat}{X Y:Nat→Int}(h1:IntSl w0 w0.heap.size v1 n1 X)(h2:IntSl w0 w0.heap.size v2 n2 Y)(hg:chk n1 n2 X Y=0)(t:Int)(ht:0≤t∧t≤30)(w':World)(hb:Below w0.heap.size w0 w'):
 Calls Tryz.prog 146 #[v1,v2,.int .i64 t] w' fun e w''=>e=.returned (.tuple #[.int .i64 (crv n1 X Y t),.int .i64 0])∧Below w0.heap.size w0 w'':=by
 obtain⟨e1,e2⟩:=atE_ok (t:=t) hg ((isNum_iff t).2 ht)
 have h:=hA _ _ n1 n2 X Y t w' (h1.up hb) (h2.up hb)
 rw[e1,e2]at h
 exact h.mono fun e w'' ⟨he,hb2⟩=>⟨he,hb.trans (hb2.mono hb.size)⟩
def ShSl(w:World)(B:Nat)(v:Value)(n:Nat)(N:Nat→Int)(V:Nat→Value)(L:Nat→Nat)(X:Nat→Nat→Int):Prop :=
 ∃(ad:Option Addr) (cap:Nat),v=.slice ad n cap∧(n≤cap∧n*32≤140737488351232)∧(n=0∨∃b off,ad=some ⟨b,off,none⟩∧b<B∧∀j,j<n →
  w.cell? ⟨b,off+j*2,none⟩=some (.int .i64 (N j))∧w.cell? ⟨b,off+j*2+1,none⟩=some (V j)∧IntSl w B (V j) (L j) (X j))
theorem ShSl.below{w w':World}{B:Nat}{v:Value}{n:Nat}{N:Nat→Int}{V:Nat→Value}{L:Nat→Nat}{X:Nat→Nat→Int}(h:ShSl w B v n N V L X)(hb:Below B w w'):ShSl w' B v n N V L X:=by
 obtain⟨ad,cap,h1,h0,h2⟩:=h;refine⟨ad,cap,h1,h0,?_⟩;rcases h2 with h2|⟨b,off,h3,h4,h5⟩;·exact Or.inl h2
 refine Or.inr ⟨b,off,h3,h4,fun j hj=>?_⟩;obtain⟨g1,g2,g3⟩:=h5 j hj;exact⟨by rw[hb.cell h4];exact g1,by rw[hb.cell h4];exact g2,g3.below hb⟩
theorem ShSl.mono{w:World}{B B':Nat}{v:Value}{n:Nat}{N:Nat→Int}{V:Nat→Value}{L:Nat→Nat}{X:Nat→Nat→Int}(h:ShSl w B v n N V L X)(hb:B≤B'):ShSl w B' v n N V L X:=by
 obtain⟨ad,cap,h1,h0,h2⟩:=h;refine⟨ad,cap,h1,h0,?_⟩;rcases h2 with h2|⟨b,off,h3,h4,h5⟩;·exact Or.inl h2
 exact Or.inr ⟨b,off,h3,by omega,fun j hj=>⟨(h5 j hj).1,(h5 j hj).2.1,(h5 j hj).2.2.mono hb⟩⟩
theorem ShSl.up{w w':World}{v:Value}{n:Nat}{N:Nat→Int}{V:Nat→Value}{L:Nat→Nat}{X:Nat→Nat→Int}(h:ShSl w w.heap.size v n N V L X)(hb:Below w.heap.size w w'):ShSl w' w'.heap.size v n N V L X :=
 (h.below hb).mono hb.size
def cellS(N:Nat→Int)(V:Nat→Value)(i:Nat):Value:=if i%2=0 then .int .i64 (N (i/2))else V (i/2)
def flatS(n:Nat)(N:Nat→Int)(V:Nat→Value):List Value:=(List.range (n*2)).map (cellS N V)
theorem flatS_len(n:Nat)(N:Nat→Int)(V:Nat→Value):(flatS n N V).length=n*2:=by simp[flatS]
theorem flatS_get(n:Nat)(N:Nat→Int)(V:Nat→Value)(i:Nat):(flatS n N V)[i]?=if i<n*2 then some (cellS N V i)else none:=by
 unfold flatS;by_cases h:i<n*2;·simp[h]
 simp[h]
def without{α:Type}(k:Nat)(f:Nat→α)(j:Nat):α:=if j<k then f j else f (j+1)
theorem flatS_succ(n:Nat)(N:Nat→Int)(V:Nat→Value):flatS (n+1) N V=flatS n N V++[.int .i64 (N n),V n]:=by
 apply List.ext_getElem?;intro i;rw[List.getElem?_append,flatS_len,flatS_get,flatS_get];by_cases h1:i<n*2;·rw[if_pos (by omega),if_pos h1,if_pos h1]
 rw[if_neg h1];by_cases h2:i=n*2
 ·subst h2
  rw[if_pos (by omega),Nat.sub_self];unfold cellS;rw[if_pos (by omega),show n*2/2=n by omega];rfl
 by_cases h3:i=n*2+1
 ·subst h3
  rw[if_pos (by omega),show n*2+1-n*2=1 by omega];unfold cellS;rw[if_neg (by omega),show(n*2+1)/2=n by omega];rfl
 rw[if_neg (by omega)];rw[List.getElem?_eq_none (by simp;omega)]
theorem flatS_one{n:Nat}{N:Nat→Int}{V:Nat→Value}(hV:∀j,j<n→(V j).oneCell'=true):∀u∈flatS n N V,u.oneCell'=true:=by
 intro u hu;obtain⟨i,hi,rfl⟩:=List.mem_map.1 hu;have hi':=List.mem_range.1 hi;unfold cellS;split;·rfl
 exact hV _ (by omega)
def OwnS(w0 wr:World)(v:Value)(n:Nat)(N:Nat→Int)(V:Nat→Value):Prop:=wr.ownsRow w0.heap.size 81 2 v n (flatS n N V)∧Below w0.heap.size w0 wr
theorem OwnS.nil(w:World)(N:Nat→Int)(V:Nat→Value):OwnS w w (.slice none 0 0) 0 N V:=⟨World.ownsRow_nil _ _ _ _,Below.refl _ _⟩
theorem OwnS.at{w0 wr:World}{v:Value}{n:Nat}{N:Nat→Int}{V:Nat→Value}(h:OwnS w0 wr v n N V)(hn:1≤n):∃g cap cur,v=.slice (some ⟨g,0,none⟩) n cap∧w0.heap.size≤g∧wr.heap[g]?=some (.cells cur 81 (0,0))∧n≤cap∧cap≤maxLen∧cur.size=cap*2 ∧
 ∀j,j<n→wr.cell? ⟨g,j*2,none⟩=some (.int .i64 (N j))∧wr.cell? ⟨g,j*2+1,none⟩=some (V j):=by
 obtain⟨⟨hl,h2⟩,hb⟩:=h
 rcases h2 with⟨_,h0⟩|⟨g,cap,cur,hv,hg,hh,hc1,hc2,hsz,hcur⟩
 ·omega
 ·refine⟨g,cap,cur,hv,hg,hh,hc1,hc2,hsz,fun j hj=>?_⟩
  have key:∀i,i<n*2→wr.cell? ⟨g,i,none⟩=some (cellS N V i):=fun i hi=>by
   have h3:=flatS_get n N V i;rw[if_pos hi,←hcur,List.getElem?_take,if_pos hi]at h3;exact cell_at hh (by simpa using h3)
  refine⟨?_,?_⟩
  ·rw[key (j*2) (by omega)]
   unfold cellS;rw[if_pos (by omega),show j*2/2=j by omega]
  rw[key (j*2+1) (by omega)];unfold cellS;rw[if_neg (by omega),show(j*2+1)/2=j by omega]
theorem OwnS.shl{w0 wr:World}{v:Value}{n:Nat}{N:Nat→Int}{V:Nat→Value}{L:Nat→Nat}{X:Nat→Nat→Int}(h:OwnS w0 wr v n N V)(hr:n*32≤140737488351232)(hi:∀j,j<n→IntSl wr wr.heap.size (V j) (L j) (X j)):ShSl wr wr.heap.size v n N V L X:=by
 by_cases h0:n=0
 ·subst h0
  rcases h.1.2 with⟨rfl,_⟩|⟨g,cap,cur,rfl,_,_,hc,_⟩;·exact⟨none,0,rfl,⟨Nat.le_refl _,by omega⟩,Or.inl rfl⟩
  exact⟨_,cap,rfl,⟨hc,by omega⟩,Or.inl rfl⟩
 obtain⟨g,cap,cur,rfl,hg,hh,hc,_,_,hcell⟩:=h.at (by omega);refine⟨_,cap,rfl,⟨hc,hr⟩,Or.inr ⟨g,0,rfl,cell_lt (hcell 0 (by omega)).1,fun j hj=>?_⟩⟩;obtain⟨c1,c2⟩:=hcell j hj;rw[Nat.zero_add];exact⟨c1,c2,hi j hj⟩
theorem Tryz.infoShare:(Tryz.prog.info? 81).map (fun i=>(i.zero,i.size,i.bytes))=some (some (.agg #[.int .i64 0,.slice none 0 0]),2,32):=by kernel_rfl
theorem slice_one{w:World}{B:Nat}{v:Value}{n:Nat}{X:Nat→Int}(h:IntSl w B v n X):v.oneCell'=true:=by
 obtain⟨ad,cap,rfl,_⟩:=h;rfl
end Go.Proofs.YtajmnlhfnhbleaaGreat
