/-
  Plain mathematics of rows of limbs (base ten to the nine), no program text: 'limbs n' is the one row of limbs without a nought behind that is worth n; 'val' what a row is worth; 'nv' what a row counts as (0 if it is no natural).
-/
namespace Go.Proofs.YtoenjbkmiphhoaaGreatDoor.M
set_option linter.unusedSimpArgs false
set_option linter.unusedVariables false
def val:List Nat→Nat
 | []=>0
 | x::r=>x+1000000000*val r
def limbs (n:Nat): List Nat:=if n=0 then[] else n%1000000000::limbs (n/1000000000)
termination_by n
decreasing_by omega
def small (l:List Nat): Bool:=l.all fun x=>decide (x<1000000000)
def isNat (l:List Nat): Bool:=small l&&(l.getLast? != some 0)
def nv (l:List Nat): Nat:=if isNat l=true then val l else 0
def nat (l:List Nat): List Nat:=if isNat l=true then l else[]
theorem limbs_zero:limbs 0=[]:=by rw[limbs];rfl
theorem limbs_pos {n:Nat}(h:n≠0): limbs n=n%1000000000::limbs (n/1000000000):=by rw[limbs,if_neg h]
theorem small_iff {l:List Nat}: small l=true↔∀x∈l,x<1000000000:=by simp[small]
theorem small_cons {x:Nat}{l:List Nat}: small (x::l)=true↔x<1000000000∧small l=true:=by simp[small]
theorem small_take {l:List Nat}(h:small l=true)(k:Nat): small (l.take k)=true:=by
 rw[small_iff] at *;exact fun x hx=>h x (List.mem_of_mem_take hx)
theorem small_append {l m:List Nat}: small (l++m)=true↔small l=true∧small m=true:=by simp[small]
theorem limbs_small (n:Nat): small (limbs n)=true:=by
 induction n using Nat.strongRecOn with
 | _ n ih=>
  by_cases h:n=0
  ·subst h;rw[limbs_zero];rfl
  ·rw[limbs_pos h,small_cons];exact⟨by omega,ih _ (by omega)⟩
theorem val_limbs (n:Nat): val (limbs n)=n:=by
 induction n using Nat.strongRecOn with
 | _ n ih=>
  by_cases h:n=0
  ·subst h;rw[limbs_zero];rfl
  ·rw[limbs_pos h,val,ih _ (by omega)];omega
theorem limbs_ne {n:Nat}(h:n≠0): limbs n≠[]:=by rw[limbs_pos h];simp
theorem limbs_last (n:Nat): (limbs n).getLast?≠some 0:=by
 induction n using Nat.strongRecOn with
 | _ n ih=>
  by_cases h:n=0
  ·subst h;rw[limbs_zero];simp
  ·rw[limbs_pos h]
   by_cases h1:n/1000000000=0
   ·rw[h1,limbs_zero];simp;omega
   ·rw[List.getLast?_cons_of_ne_nil (limbs_ne h1)];exact ih _ (by omega)
theorem isNat_limbs (n:Nat): isNat (limbs n)=true:=by
 have h1:=limbs_small n;have h2:=limbs_last n;simp[isNat,h1,h2]
theorem nv_limbs (n:Nat): nv (limbs n)=n:=by rw[nv,if_pos (isNat_limbs n),val_limbs]
theorem val_append (l m:List Nat): val (l++m)=val l+1000000000^l.length*val m:=by
 induction l with
 | nil=>simp[val]
 | cons x r ih=>simp only[List.cons_append,val,ih,List.length_cons,Nat.pow_succ];rw[Nat.mul_add,←Nat.mul_assoc,Nat.mul_comm (1000000000^r.length) 1000000000];omega
theorem val_lt {l:List Nat}(h:small l=true): val l<1000000000^l.length:=by
 induction l with
 | nil=>simp[val]
 | cons x r ih=>
  rw[small_cons] at h;have:=ih h.2;simp only[val,List.length_cons,Nat.pow_succ];omega
theorem last_cons {x:Nat}{r:List Nat}(h:r≠[]): (x::r).getLast?=r.getLast?:=List.getLast?_cons_of_ne_nil h
theorem val_pos {l:List Nat}(hn:l≠[])(hl:l.getLast?≠some 0): 0<val l:=by
 induction l with
 | nil=>exact absurd rfl hn
 | cons x r ih=>
  by_cases h:r=[]
  ·subst h;simp at hl;simp[val];omega
  ·rw[last_cons h] at hl;have:=ih h hl;simp only[val];omega
theorem limbs_val {l:List Nat}(hs:small l=true)(hl:l.getLast?≠some 0): limbs (val l)=l:=by
 induction l with
 | nil=>exact limbs_zero
 | cons x r ih=>
  rw[small_cons] at hs;have hx:=hs.1
  by_cases h:r=[]
  ·subst h;simp at hl;simp only[val];rw[limbs_pos (by omega)];rw[show (x+1000000000*0)%1000000000=x by omega,show (x+1000000000*0)/1000000000=0 by omega,limbs_zero]
  ·rw[last_cons h] at hl;have hp:=val_pos h hl;simp only[val];rw[limbs_pos (by omega),show (x+1000000000*val r)%1000000000=x by omega,show (x+1000000000*val r)/1000000000=val r by omega,ih hs.2 hl]
theorem isNat_iff {l:List Nat}: isNat l=true↔small l=true∧l.getLast?≠some 0:=by simp[isNat]
theorem limbs_nv (l:List Nat): limbs (nv l)=nat l:=by
 unfold nv nat
 split
 ·next h=>rw[isNat_iff] at h;exact limbs_val h.1 h.2
 ·exact limbs_zero
theorem isNat_nat (l:List Nat): isNat (nat l)=true:=by rw[←limbs_nv];exact isNat_limbs _
theorem val_nat (l:List Nat): val (nat l)=nv l:=by rw[←limbs_nv,val_limbs]
theorem small_nat (l:List Nat): small (nat l)=true:=by rw[←limbs_nv];exact limbs_small _
theorem nat_length (l:List Nat): (nat l).length≤l.length:=by unfold nat;split<;>simp
theorem limbs_eq_nil {n:Nat}: limbs n=[]↔n=0:=by
 constructor
 ·intro h;have:=val_limbs n;rw[h] at this;exact this.symm
 ·rintro rfl;exact limbs_zero
theorem limbs_length_le {n k:Nat}(h:n<1000000000^k): (limbs n).length≤k:=by
 induction k generalizing n with
 | zero => have : n = 0 := by simpa using h
           subst this;rw[limbs_zero];simp
 | succ k ih=>
  by_cases h0:n=0
  ·subst h0;rw[limbs_zero];simp
  ·rw[limbs_pos h0,List.length_cons];have:n/1000000000<1000000000^k:=by rw[Nat.div_lt_iff_lt_mul (by omega)];rwa [Nat.pow_succ] at h
   have:=ih this;omega
theorem nv_lt (l:List Nat): nv l<1000000000^l.length:=by
 have h:=val_lt (small_nat l);rw[val_nat] at h;exact Nat.lt_of_lt_of_le h (Nat.pow_le_pow_right (by omega) (nat_length l))
theorem limbs_len_lt (n:Nat): n<1000000000^(limbs n).length:=by
 have h:=val_lt (limbs_small n);rwa [val_limbs] at h
/- noughts behind are taken away, one by one -/
theorem small_snoc {l:List Nat}{k x:Nat}(h:l[k]?=some x)(hs:small (l.take k)=true)(hx:x<1000000000): small (l.take (k+1))=true:=by
 rw[List.take_add_one,h,small_append];exact⟨hs,by simp[small,hx]⟩
theorem isNat_big {l:List Nat}{k x:Nat}(h:l[k]?=some x)(hx:1000000000≤x): isNat l=false:=by
 rw[Bool.eq_false_iff];intro hc;have:=small_iff.1 (isNat_iff.1 hc).1 x (List.mem_of_getElem? h);omega
theorem isNat_end {l:List Nat}{x:Nat}(hs:small l=true)(h:l[l.length-1]?=some x): isNat l=decide (x≠0):=by
 rw[isNat,hs,List.getLast?_eq_getElem?,h]
 by_cases hx:x=0<;>simp[hx]
/- comparing -/
theorem val_lt_of_length {l m:List Nat}(hl:small l=true)(hm:m.getLast?≠some 0)(h:l.length<m.length): val l<val m:=by
 have h1:=val_lt hl;have h2:1000000000^l.length≤val m:=by
  clear h1 hl;generalize l.length=k at *
  induction m generalizing k with
  | nil=>simp at h
  | cons x r ih=>
   by_cases hr:r=[]
   ·subst hr;simp at h hm;subst h;simp[val];omega
   ·rw[last_cons hr] at hm;rcases k with _|k
    ·have:=val_pos hr hm;simp only[val];omega
    ·have:=ih hm k (by simpa using h);simp only[val,Nat.pow_succ];omega
 omega
theorem drop_cons {l:List Nat}{i:Nat}(h:i<l.length): l.drop i=l[i]::l.drop (i+1):=List.drop_eq_getElem_cons h
theorem val_split (l:List Nat)(i:Nat)(h:i<l.length): val l=val (l.take i)+1000000000^i*(l[i]+1000000000*val (l.drop (i+1))):=by
 have:=val_append (l.take i) (l.drop i);rw[List.take_append_drop,drop_cons h,List.length_take,Nat.min_eq_left (by omega)] at this;simpa [val] using this
theorem val_lt_at {l m:List Nat}(hl:small l=true){i:Nat}(h1:i<l.length)(h2:i<m.length)(hd:l.drop (i+1)=m.drop (i+1))(h:l[i]<m[i]): val l<val m:=by
 rw[val_split l i h1,val_split m i h2,hd];have ht:=val_lt (small_take hl i);rw[List.length_take,Nat.min_eq_left (by omega)] at ht;have:1000000000^i*(l[i]+1+1000000000*val (m.drop (i+1)))≤1000000000^i*(m[i]+1000000000*val (m.drop (i+1))):=Nat.mul_le_mul_left _ (by omega);rw[show l[i]+1+1000000000*val (m.drop (i+1))=l[i]+1000000000*val (m.drop (i+1))+1 by omega,Nat.mul_add,Nat.mul_one] at this;omega
theorem drop_at {l:List Nat}{k x:Nat}(h:l[k]?=some x): l.drop k=x::l.drop (k+1):=by
 obtain⟨hlt,he⟩:=List.getElem?_eq_some_iff.1 h;rw[List.drop_eq_getElem_cons hlt,he]
theorem drop_same {l m:List Nat}{k x:Nat}(hl:l[k]?=some x)(hm:m[k]?=some x)(h:l.drop (k+1)=m.drop (k+1)): l.drop k=m.drop k:=by
 rw[drop_at hl,drop_at hm,h]
theorem val_lt_at' {l m:List Nat}(hs:small l=true){i x y:Nat}(h1:l[i]?=some x)(h2:m[i]?=some y)(hd:l.drop (i+1)=m.drop (i+1))(h:x<y): val l<val m:=by
 obtain⟨a1,b1⟩:=List.getElem?_eq_some_iff.1 h1;obtain⟨a2,b2⟩:=List.getElem?_eq_some_iff.1 h2;exact val_lt_at hs a1 a2 hd (by rw[b1,b2];exact h)
def cmp (a b:Nat): Int:=if a<b then -1 else if b<a then 1 else 0
theorem cmp_zero {a b:Nat}: cmp a b=0↔a=b:=by unfold cmp;split<;>(try split)<;>omega
theorem cmp_self (a:Nat): cmp a a=0:=cmp_zero.2 rfl
theorem cmp_lt {a b:Nat}(h:a<b): cmp a b=-1:=if_pos h
theorem cmp_gt {a b:Nat}(h:b<a): cmp a b=1:=by unfold cmp;rw[if_neg (by omega),if_pos h]
theorem cmp_nonpos {a b:Nat}(h:a≤b): cmp a b≤0:=by unfold cmp;split<;>(try split)<;>omega
theorem cmp_range (a b:Nat): -1≤cmp a b∧cmp a b≤1:=by unfold cmp;split<;>(try split)<;>omega
theorem cmp_at {l m:List Nat}(hl:small l=true)(hm:small m=true){i x y:Nat}(h1:l[i]?=some x)(h2:m[i]?=some y)(hd:l.drop (i+1)=m.drop (i+1))(hne:x≠y): cmp x y=cmp (val l) (val m):=by
 rcases Nat.lt_or_ge x y with h|h
 ·rw[cmp_lt h,cmp_lt (val_lt_at' hl h1 h2 hd h)]
 ·have h:y<x:=by omega
  rw[cmp_gt h,cmp_gt (val_lt_at' hm h2 h1 hd.symm h)]
theorem cmp_len {l m:List Nat}(hl:isNat l=true)(hm:isNat m=true)(hne:l.length≠m.length): cmp l.length m.length=cmp (val l) (val m):=by
 rw[isNat_iff] at hl hm;rcases Nat.lt_or_ge l.length m.length with h|h
 ·rw[cmp_lt h,cmp_lt (val_lt_of_length hl.1 hm.2 h)]
 ·have h:m.length<l.length:=by omega
  rw[cmp_gt h,cmp_gt (val_lt_of_length hm.1 hl.2 h)]
/- sums of many rows, place by place -/
/- one row less another, place by place -/
theorem val_take {l:List Nat}{k x:Nat}(h:l[k]?=some x): val (l.take (k+1))=val (l.take k)+1000000000^k*x:=by
 obtain⟨hlt,_⟩:=List.getElem?_eq_some_iff.1 h;rw[List.take_add_one,h,val_append,List.length_take,Nat.min_eq_left (by omega)];simp[val]
/- products, limb by limb -/
/- by one limb -/
/- a limb less a number: what is left, what is borrowed -/
set_option linter.unusedSimpArgs false
set_option linter.unusedVariables false
def isZ (g:Bool)(l:List Nat): Bool:=isNat l&&(!g||!l.isEmpty)
def zv (g:Bool)(l:List Nat): Int:=if isZ g l=true then (if g=true then -(val l:Int) else (val l:Int)) else 0
theorem isZ_of (Z:Int): isZ (decide (Z<0)) (limbs Z.natAbs)=true:=by
 unfold isZ;rw[isNat_limbs,Bool.true_and]
 by_cases h:Z<0
 ·have:limbs Z.natAbs≠[]:=limbs_ne (by omega);simp[h,this]
 ·simp[h]
theorem zv_of (Z:Int): zv (decide (Z<0)) (limbs Z.natAbs)=Z:=by
 unfold zv;rw[if_pos (isZ_of Z),val_limbs]
 by_cases h:Z<0
 ·rw[if_pos (by simpa using h)];omega
 ·rw[if_neg (by simpa using h)];omega
theorem zv_off {g:Bool}{l:List Nat}(h:isZ g l=false): zv g l=0:=by unfold zv;rw[if_neg (by simp[h])]
theorem isZ_nat {g:Bool}{l:List Nat}(h:isZ g l=true): isNat l=true:=by
 unfold isZ at h;simp only[Bool.and_eq_true] at h;exact h.1
theorem isZ_pos {l:List Nat}(h:isZ true l=true): 0<val l:=by
 have h1:=isNat_iff.1 (isZ_nat h);unfold isZ at h;refine val_pos ?_ h1.2;rintro rfl;simp at h
theorem zv_neg {l:List Nat}(h:isZ true l=true): zv true l=-(val l:Int):=by unfold zv;rw[if_pos h];rfl
theorem zv_pos {l:List Nat}(h:isZ false l=true): zv false l=(val l:Int):=by unfold zv;rw[if_pos h];rfl
theorem zv_abs {g:Bool}{l:List Nat}(h:isZ g l=true): (zv g l).natAbs=val l:=by
 cases g
 ·rw[zv_pos h];omega
 ·rw[zv_neg h];omega
theorem zv_lt {g:Bool}{l:List Nat}(h:isZ g l=true): decide (zv g l<0)=g:=by
 cases g
 ·rw[zv_pos h];simp
 ·rw[zv_neg h];have:=isZ_pos h;simp;omega
theorem limbs_zv {g:Bool}{l:List Nat}(h:isZ g l=true): limbs (zv g l).natAbs=l:=by
 rw[zv_abs h];have:=isNat_iff.1 (isZ_nat h);exact limbs_val this.1 this.2
theorem isZ_empty {g:Bool}{l:List Nat}(h:isNat l=true): isZ g l=(!g||!l.isEmpty):=by unfold isZ;rw[h];rfl
/- a side and a size -/
theorem side_mul {s:Int}{n:Nat}(h:n≠0→s=1∨s=-1): n≠0→(s*(n:Int)).sign=s∧(s*(n:Int)).natAbs=n:=by
 intro hn;rcases h hn with rfl|rfl
 ·rw[Int.one_mul];exact⟨Int.sign_eq_one_of_pos (by omega),by omega⟩
 ·rw[show (-1:Int)*(n:Int)=-(n:Int) by omega];exact⟨Int.sign_eq_neg_one_of_neg (by omega),by omega⟩
theorem sign_cases (Z:Int): (Z<0∧Z.sign=-1)∨(Z=0∧Z.sign=0)∨(0<Z∧Z.sign=1):=by
 rcases (by omega:Z<0∨Z=0∨0<Z) with h|h|h
 ·exact .inl ⟨h,Int.sign_eq_neg_one_of_neg h⟩
 ·exact .inr (.inl ⟨h,by rw[h];rfl⟩)
 ·exact .inr (.inr ⟨h,Int.sign_eq_one_of_pos h⟩)
theorem sign_neg (Z:Int): Z.sign<0↔Z<0:=by rcases sign_cases Z with⟨h,e⟩|⟨h,e⟩|⟨h,e⟩<;>rw[e]<;>omega
/- the order -/
def zcmp (a b:Int): Int:=(a-b).sign
theorem zcmp_eq {a b:Int}: zcmp a b=0↔a=b:=by unfold zcmp;rw[Int.sign_eq_zero_iff_zero];omega
theorem zcmp_lt {a b:Int}(h:a<b): zcmp a b=-1:=by unfold zcmp;exact Int.sign_eq_neg_one_of_neg (by omega)
theorem zcmp_gt {a b:Int}(h:b<a): zcmp a b=1:=by unfold zcmp;exact Int.sign_eq_one_of_pos (by omega)
theorem zcmp_same {a b:Int}(h:a=b): zcmp a b=0:=zcmp_eq.2 h
theorem zcmp_cast (a b:Nat): zcmp (a:Int) (b:Int)=cmp a b:=by
 unfold cmp
 split
 ·next h=>exact zcmp_lt (by omega)
 ·split
  ·next h=>exact zcmp_gt (by omega)
  ·exact zcmp_same (by omega)
theorem zcmp_sides {a b:Int}(h:a.sign=b.sign): zcmp a b=a.sign*cmp a.natAbs b.natAbs:=by
 rcases sign_cases a with⟨ha,ea⟩|⟨ha,ea⟩|⟨ha,ea⟩<;>rcases sign_cases b with⟨hb,eb⟩|⟨hb,eb⟩|⟨hb,eb⟩<;>rw[ea,eb] at h<;>try (exact absurd h (by decide))
 ·rw[ea,←zcmp_cast];unfold zcmp;rw[show ((a.natAbs:Int)-(b.natAbs:Int))=-(a-b) by omega,Int.sign_neg];omega
 ·rw[ea,ha,hb];rfl
 ·rw[ea,←zcmp_cast,Int.one_mul];congr 1<;>omega
theorem zcmp_unlike {a b:Int}(h:a.sign≠b.sign): zcmp a b=zcmp a.sign b.sign:=by
 rcases sign_cases a with⟨ha,ea⟩|⟨ha,ea⟩|⟨ha,ea⟩<;>rcases sign_cases b with⟨hb,eb⟩|⟨hb,eb⟩|⟨hb,eb⟩<;>rw[ea,eb] at h ⊢<;>first|(exact absurd rfl h)|(first|(rw[zcmp_lt (by omega)];rfl)|(rw[zcmp_gt (by omega)];rfl))
/- sums by sizes -/
theorem sign_sq (Z:Int): Z.sign*Z.sign=(Z.natAbs:Int).sign:=by
 rcases sign_cases Z with⟨h,e⟩|⟨h,e⟩|⟨h,e⟩<;>rw[e]
 ·rw[Int.sign_eq_one_of_pos (by omega)];rfl
 ·subst h;rfl
 ·rw[Int.sign_eq_one_of_pos (by omega)];rfl
/- dividing -/
end Go.Proofs.YtoenjbkmiphhoaaGreatDoor.M
