/-
  Mathematics of layer 8: classes of bytes, words of a text, a text of words.
-/
import Derived.Test.YtoenjbkmiphhoaaGreatDoorA03
import Derived.Test.YtoenjbkmiphhoaaGreatDoorA02
import Derived.Test.YtoenjbkmiphhoaaGreatDoorA09
import Derived.Test.YtoenjbkmiphhoaaGreatDoorA05
import Derived.KernelRfl
import GoSem.Claim
import Derived.Test.YtoenjbkmiphhoaaGreatDoorRows
import Derived.Test.YtoenjbkmiphhoaaGreatDoorShelf
import Derived.WalkKit
import Derived.Handy
import Derived.Laws.OwnMore
import Derived.Deep.Draws
import Derived.Deep.QuietTactic
import Derived.BigQuiet
import Derived.Outline
import Derived.Deep.Cut
import Derived.Deep.CutBlock
import Derived.Deep.LoopGhost
import Derived.Deep.RegionWith
import Derived.Deep.Slices
import Derived.Lib.FrozenHead
import Derived.Lib.OthersKept
import Derived.Lib.UnsafeStr
import Derived.Lib.Strings
import Derived.Lib.Bytealg
namespace Go.Proofs.YtoenjbkmiphhoaaGreatDoor.Q
set_option linter.unusedSimpArgs false
set_option linter.unusedVariables false
namespace M
theorem all_bytes (p:UInt8→Bool)(h:(List.range 256).all (fun n=>p (UInt8.ofNat n))=true)(b:UInt8): p b=true:=by
 have:=List.all_eq_true.1 h b.toNat (List.mem_range.2 b.toNat_lt);simpa using this
def cDig:List UInt8:=[48,49,50,51,52,53,54,55,56,57]
def cLet:List UInt8:=[97,98,99,100,101,102,103,104,105,106,107,108,109,110,111,112,113,114,115,116,117,118,119,120,121,122,65,66,67,68,69,70,71,72,73,74,75,76,77,78,79,80,81,82,83,84,85,86,87,88,89,90]
def cMark:List UInt8:=[126,33,64,36,37,94,38,42,95,45,43,61,60,62,46,63,47]
def cBlank:List UInt8:=[32,9,10,13]
def among (cs:List (List UInt8))(b:UInt8): Bool:=cs.any fun c=>c.contains b
def dig (b:UInt8): Bool:=among [cDig] b
def blank (b:UInt8): Bool:=among [cBlank] b
def sym (b:UInt8): Bool:=among [cLet,cDig,cMark] b
abbrev Tok:=Int×List UInt8
def isSym (l:List UInt8): Bool:=!l.isEmpty&&(decide (l.length≤20)&&(l.all sym&&!dig (l.headD 48)))
def isNum (l:List UInt8): Bool:=match l with
 | []=>false
 | b::r=>if b=48 then r.isEmpty else (b::r).all dig
def skipS:Bool→List UInt8→List UInt8
 | _,[]=>[]
 | false,b::r=>if blank b=true then skipS false r else if b=59 then skipS true r else b::r
 | true,b::r=>if b=10 then skipS false r else skipS true r
def skip (l:List UInt8): List UInt8:=skipS false l
def first:List UInt8→Option (Tok×Nat)
 | []=>none
 | b::r=>if b=40 then some ((1,[]),1) else if b=41 then some ((2,[]),1)
  else if b=58 then (if isSym (r.takeWhile sym)=true then some ((5,r.takeWhile sym),1+(r.takeWhile sym).length) else none)
  else if isSym ((b::r).takeWhile sym)=true then some ((4,(b::r).takeWhile sym),((b::r).takeWhile sym).length)
  else if isNum ((b::r).takeWhile sym)=true then some ((3,(b::r).takeWhile sym),((b::r).takeWhile sym).length) else none
def scanF:Nat→List UInt8→List Tok×Option Nat
 | 0,_=>([],none)
 | n+1,l=>match skip l with
  | []=>([],none)
  | b::r=>match first (b::r) with
   | none=>([],some (r.length+1))
   | some (t,k)=>(t::(scanF n ((b::r).drop k)).1,(scanF n ((b::r).drop k)).2)
def scan (l:List UInt8): List Tok×Option Nat:=scanF (l.length+1) l
def word (t:Tok): List UInt8:=if t.1=1 then[40] else if t.1=2 then[41] else if t.1=5 then 58::t.2 else t.2
def print:List Tok→List UInt8
 | []=>[]
 | t::r=>word t++(r.map fun x=>32::word x).flatten
theorem dig_iff (b:UInt8): dig b=(decide (48≤b.toNat)&&decide (b.toNat≤57)):=by
 have:=all_bytes (fun b=>dig b==(decide (48≤b.toNat)&&decide (b.toNat≤57))) (by decide +kernel) b;simpa using this
theorem dig_sym {b:UInt8}(h:dig b=true): sym b=true:=by
 have:=all_bytes (fun b=>!dig b||sym b) (by decide +kernel) b;simpa [h] using this
def sign (b:UInt8): Bool:=(dig b||(decide (97≤b.toNat)&&decide (b.toNat≤122)))||(decide (65≤b.toNat)&&decide (b.toNat≤90))||cMark.contains b
theorem sign_sym (b:UInt8): sign b=sym b:=by
 have:=all_bytes (fun b=>sign b==sym b) (by decide +kernel) b;simpa using this
theorem skipS_len:∀(q:Bool) (l:List UInt8),(skipS q l).length≤l.length
 | q,[]=>by cases q<;>simp[skipS]
 | false,b::r=>by
  have h1:=skipS_len false r;have h2:=skipS_len true r;unfold skipS
  split
  ·simp;omega
  ·split
   ·simp;omega
   ·simp
 | true,b::r=>by
  have h1:=skipS_len false r;have h2:=skipS_len true r;unfold skipS
  split<;>(simp;omega)
theorem skipS_drop:∀(q:Bool) (l:List UInt8),skipS q l=l.drop (l.length-(skipS q l).length)
 | q,[]=>by cases q<;>simp[skipS]
 | false,b::r=>by
  have h1:=skipS_drop false r;have h2:=skipS_drop true r;have l1:=skipS_len false r;have l2:=skipS_len true r;unfold skipS
  split
  ·rw[List.length_cons,show r.length+1-(skipS false r).length=(r.length-(skipS false r).length)+1 by omega,List.drop_succ_cons];exact h1
  ·split
   ·rw[List.length_cons,show r.length+1-(skipS true r).length=(r.length-(skipS true r).length)+1 by omega,List.drop_succ_cons];exact h2
   ·simp
 | true,b::r=>by
  have h1:=skipS_drop false r;have h2:=skipS_drop true r;have l1:=skipS_len false r;have l2:=skipS_len true r;unfold skipS
  split
  ·rw[List.length_cons,show r.length+1-(skipS false r).length=(r.length-(skipS false r).length)+1 by omega,List.drop_succ_cons];exact h1
  ·rw[List.length_cons,show r.length+1-(skipS true r).length=(r.length-(skipS true r).length)+1 by omega,List.drop_succ_cons];exact h2
theorem skip_len (l:List UInt8): (skip l).length≤l.length:=skipS_len _ _
theorem skip_drop (l:List UInt8): skip l=l.drop (l.length-(skip l).length):=skipS_drop _ _
theorem skip_nil:skip []=[]:=rfl
theorem skip_word {b:UInt8}(h:blank b=false)(h2:b≠59)(r:List UInt8): skip (b::r)=b::r:=by unfold skip;rw[skipS,if_neg (by rw[h];decide),if_neg h2]
theorem skip_head {l r:List UInt8}{b:UInt8}(h:skip l=b::r): blank b=false∧b≠59:=by
 have key:∀(q:Bool) (l:List UInt8),skipS q l=b::r→blank b=false∧b≠59:=by
  intro q l
  induction l generalizing q with
  | nil=>intro h;cases q<;>simp[skipS] at h
  | cons c s ih=>
   intro h;cases q
   ·rw[skipS] at h
    split at h
    ·exact ih _ h
    ·split at h
     ·exact ih _ h
     ·rename_i h1 h2
      injection h with h3 h4;subst h3;exact⟨by simpa using h1,h2⟩
   ·rw[skipS] at h
    split at h<;>exact ih _ h
 exact key false l h
theorem skip_idem (l:List UInt8): skip (skip l)=skip l:=by
 cases h:skip l with
 | nil=>rfl
 | cons b r=>exact skip_word (skip_head h).1 (skip_head h).2 r
theorem takeWhile_len (p:UInt8→Bool): ∀(l:List UInt8),(l.takeWhile p).length≤l.length
 | []=>Nat.le_refl _
 | b::r=>by rw[List.takeWhile_cons];split;simpa using takeWhile_len p r;simp
theorem isSym_ne {l:List UInt8}(h:isSym l=true): 1≤l.length∧l.length≤20:=by
 unfold isSym at h;simp only[Bool.and_eq_true,decide_eq_true_eq] at h;have h0:=h.1;refine⟨?_,h.2.1⟩;cases l
 ·simp at h0
 ·simp
theorem isNum_ne {l:List UInt8}(h:isNum l=true): 1≤l.length:=by
 cases l
 ·simp[isNum] at h
 ·simp
theorem first_len {l:List UInt8}{t:Tok}{k:Nat}(h:first l=some (t,k)): 1≤k∧k≤l.length:=by
 cases l with
 | nil=>simp[first] at h
 | cons b r=>
  rw[first] at h
  split at h
  ·simp at h;obtain⟨_,rfl⟩:=h;simp
  ·split at h
   ·simp at h;obtain⟨_,rfl⟩:=h;simp
   ·split at h
    ·split at h
     ·simp at h;obtain⟨_,rfl⟩:=h;have:=takeWhile_len sym r;simp;omega
     ·cases h
    ·split at h
     ·rename_i hs
      simp only[Option.some.injEq,Prod.mk.injEq] at h;obtain⟨_,rfl⟩:=h;exact⟨(isSym_ne hs).1,takeWhile_len _ _⟩
     ·split at h
      ·rename_i hs
       simp only[Option.some.injEq,Prod.mk.injEq] at h;obtain⟨_,rfl⟩:=h;exact⟨isNum_ne hs,takeWhile_len _ _⟩
      ·cases h
theorem scanF_eq:∀(n m:Nat) (l:List UInt8),l.length<n→l.length<m→scanF n l=scanF m l
 | 0,_,_,h,_=>absurd h (Nat.not_lt_zero _)
 | _+1,0,_,_,h=>absurd h (Nat.not_lt_zero _)
 | n+1,m+1,l,hn,hm=>by
  rw[scanF,scanF]
  split
  ·rfl
  ·rename_i b r hs
   split
   ·rfl
   ·rename_i t k hf
    have h1:=skip_len l;have h2:=first_len hf;rw[hs] at h1;have h3:((b::r).drop k).length<n:=by rw[List.length_drop];omega
    have h4:((b::r).drop k).length<m:=by rw[List.length_drop];omega
    rw[scanF_eq n m _ h3 h4]
theorem scan_nil {l:List UInt8}(h:skip l=[]): scan l=([],none):=by unfold scan;rw[scanF,h]
theorem scan_bad {l r:List UInt8}{b:UInt8}(h:skip l=b::r)(hf:first (b::r)=none): scan l=([],some (r.length+1)):=by
 unfold scan;rw[scanF,h];simp only[hf]
theorem scan_tok {l r:List UInt8}{b:UInt8}{t:Tok}{k:Nat}(h:skip l=b::r)(hf:first (b::r)=some (t,k)): scan l=(t::(scan ((b::r).drop k)).1,(scan ((b::r).drop k)).2):=by
 have h1:=skip_len l;have h2:=first_len hf;rw[h] at h1;have e:scanF l.length ((b::r).drop k)=scan ((b::r).drop k):=scanF_eq _ _ _ (by rw[List.length_drop];omega) (by omega)
 conv=>lhs;unfold scan
 rw[scanF,h];simp only[hf];rw[e]
theorem scan_skip (l:List UInt8): scan (skip l)=scan l:=by
 rcases h:skip l with _|⟨b,r⟩
 ·rw[scan_nil h];rfl
 ·have hs:skip (b::r)=b::r:=by rw[←h];exact skip_idem l
  rcases hf:first (b::r) with _|⟨t,k⟩
  ·rw[scan_bad h hf,scan_bad hs hf]
  ·rw[scan_tok h hf,scan_tok hs hf]
end M
open Go.RowKit
theorem _root_.Go.Proofs.YtoenjbkmiphhoaaGreatDoor.Ext.drewN' {w w':World}(h:Ext w w')(n:Nat): Ext w (w'.drewN n):=⟨h.os,h.tape,h.output,h.size,h.block⟩
theorem idx_str (t:TypeId)(ht:Tryz.prog.underlying t=some .string)(l:List UInt8)(i:Nat)(b:UInt8){z:Int}(hz:z=(i:Int))(hb:l[i]?=some b)(w:World):
 (Instr.index t (str l) (.int .i64 z)).run Tryz.prog w=.ok (.int .u8 (b.toNat:Int)) w:=by
 subst hz;obtain⟨hlt,he⟩:=List.getElem?_eq_some_iff.1 hb;have hs:i<(⟨l.toArray⟩:ByteArray).size:=by rw[Lib.size_eq];simpa using hlt
 rw[run_index_string w t _ .i64 _ ht,dif_pos ⟨by omega,by omega⟩];have e:((i:Int)).toNat=i:=by omega
 simp only[e];subst he;rfl
def Txts (w:World)(g:Nat)(cs:List (List UInt8)): Prop:=∀k x,cs[k]?=some x→w.cell? ⟨g,k,none⟩=some (str x)
theorem Txts.new1 (w:World)(a:List UInt8)(T:TypeId): Txts (w.alloc (.cells #[str a] T)) w.heap.size [a]:=by
 intro k x hx;rcases k with _|k
 ·simp at hx;subst hx;rw[World.cell?_alloc_new];rfl
 ·simp at hx
theorem Txts.new3 (w:World)(a b c:List UInt8)(T:TypeId): Txts (w.alloc (.cells #[str a,str b,str c] T)) w.heap.size [a,b,c]:=by
 intro k x hx;rcases k with _|_|_|k
 ·simp at hx;subst hx;rw[World.cell?_alloc_new];rfl
 ·simp at hx;subst hx;rw[World.cell?_alloc_new];rfl
 ·simp at hx;subst hx;rw[World.cell?_alloc_new];rfl
 ·simp at hx
theorem indexByte_has (l:List UInt8)(b:UInt8): (0≤Lib.indexByte l b)↔l.contains b=true:=by
 induction l with
 | nil=>simp[Lib.indexByte]
 | cons x r ih=>
  have hge:=Lib.indexByte_ge r b;unfold Lib.indexByte
  by_cases h:x=b
  ·subst h;simp
  ·have h':(x==b)=false:=by simpa using h
   have h2:(b==x)=false:=by simpa using fun e=>h e.symm
   simp only[h',Bool.false_eq_true,if_false,List.contains_cons,h2,Bool.false_or];rw[←ih]
   split
   ·rename_i h3
    have h3':Lib.indexByte r b=-1:=by simpa using h3
    omega
   ·rename_i h3
    have h3':Lib.indexByte r b≠-1:=by simpa using h3
    omega
theorem idxByte_n (l:List UInt8)(b:UInt8)(w:World){z:Int}(hz:Lib.indexByte l b=z): Calls Tryz.prog 240 #[str l,.int .u8 (b.toNat:Int)] w fun e w'=>e=.returned (.int .i64 z)∧w=w':=by
 have h:=Tryz.strings_IndexByte ⟨l.toArray⟩ (b.toNat:Int) w;have e:((b.toNat:Int)).toNat.toUInt8=b:=by simp
 rw[e] at h;subst hz;exact h.mono fun e w' ⟨h1,h2⟩=>⟨h1,h2.symm⟩
set_option maxHeartbeats 1000000 in
theorem among_n (b:UInt8)(g:Nat)(cs:List (List UInt8))(w:World)(hc:Txts w g cs){n:Nat}(hn:n=cs.length)(hn9:n≤1000):
 Calls Tryz.prog 223 #[.int .u8 (b.toNat:Int),.slice (some ⟨g,0,none⟩) n n] w fun e w'=>e=.returned (.bool (M.among cs b))∧w=w':=by
 have HC:=hid hc;have HN:=hid hn;clear hc hn;go_enter Tryz.func223,Tryz.ntmps223
 go_wp2;go_loop [9] (fun i=>∃k:Nat,k≤n∧i=.int .i64 (k:Int)∧Hid (M.among (cs.take k) b=false)) (fun i=>n-(intOf i).toNat)
 case atStart=>exact⟨0,Nat.zero_le _,rfl,rfl⟩
 case round=>
  obtain⟨k,hk,rfl,ht⟩:=hrel;rcases Nat.lt_or_ge k n with hlt|hge
  ·obtain⟨c,hc⟩:∃c,cs[k]?=some c:=⟨_,List.getElem?_eq_getElem (by rw[←HN.out];exact hlt)⟩;have hcell:=HC.out k c hc;obtain⟨z,hz⟩:∃z,Lib.indexByte c b=z:=⟨_,rfl⟩;have hzc:=indexByte_has c b;have hge1:=Lib.indexByte_ge c b;rw[hz] at hzc hge1;have HK:=hid hc;have HZ:=hid hz;have hlt':(k:Int)<(n:Int):=by omega
   have hstep:M.among (cs.take (k+1)) b=(M.among (cs.take k) b||c.contains b):=by
    rw[List.take_add_one,HK.out];simp[M.among]
   have HS:=hid hstep;clear hc hz hstep;rcases hb:c.contains b with _|_
   ·have hz0:decide (0≤z)=false:=by
     rw[decide_eq_false_iff_not,hzc,hb];simp
    have HB:=hid hb
    have hz1 : z = -1 := by have : ¬ 0 ≤ z := by simpa using hz0
                            omega
    subst hz1;clear hb hzc hz0 hge1;go_wp2_with (go_at_call 240;refine(idxByte_n c b _ HZ.out).mono ?_;rintro e w' ⟨rfl,rfl⟩)
    go_round
    case rel=>exact⟨k+1,by omega,by simp,by show _=_;rw[HS.out,ht.out,HB.out];rfl⟩
    case measure=>simp[intOf];omega
   ·have hz0:0≤z:=hzc.2 hb;have HB:=hid hb;have HM:=hid (show M.among cs b=true by unfold M.among;exact List.any_eq_true.2 ⟨c,List.mem_of_getElem? HK.out,HB.out⟩);clear hb hzc;go_wp2_with (go_at_call 240;refine(idxByte_n c b _ HZ.out).mono ?_;rintro e w' ⟨rfl,rfl⟩)
    go_ret;rw[HM.out];exact⟨rfl,rfl⟩
  ·obtain rfl:k=n:=by omega
   have HM:=hid (show M.among cs b=false by have:=ht.out;rw[HN.out,List.take_length] at this;exact this);clear ht;go_wp2;go_ret;rw[HM.out];exact⟨rfl,rfl⟩
namespace M
theorem takeWhile_at {p:UInt8→Bool}{l:List UInt8}{k:Nat}(hk:k≤l.length)(ha:(l.take k).all p=true)(he:k=l.length∨∃b,l[k]?=some b∧p b=false): (l.takeWhile p).length=k∧l.takeWhile p=l.take k:=by
 have key:l.takeWhile p=l.take k:=by
  induction l generalizing k with
  | nil=>simp
  | cons b r ih=>
   cases k with
   | zero=>
    rcases he with he|⟨c,h1,h2⟩
    ·simp at he
    ·simp at h1;subst h1;simp[h2]
   | succ k=>
    rw[List.take_succ_cons,List.all_cons,Bool.and_eq_true] at ha;rw[List.takeWhile_cons,if_pos ha.1,List.take_succ_cons,ih (by simpa using hk) ha.2 (by simpa using he)]
 exact⟨by rw[key,List.length_take];omega,key⟩
theorem all_snoc {p:UInt8→Bool}{l:List UInt8}{k:Nat}{b:UInt8}(h:l[k]?=some b)(ht:(l.take k).all p=true)(hb:p b=true): (l.take (k+1)).all p=true:=by
 rw[List.take_add_one,h,List.all_append,ht];simp[hb]
end M
set_option maxHeartbeats 1000000 in
theorem row_n (s:List UInt8)(g:Nat)(cs:List (List UInt8))(w:World)(hc:Txts w g cs){n:Nat}(hn:n=cs.length)(hn9:n≤1000)(hs:s.length≤1000000000000){m:Nat}(hm:(s.takeWhile (M.among cs)).length=m):
 Calls Tryz.prog 239 #[str s,.slice (some ⟨g,0,none⟩) n n] w fun e w'=>e=.returned (.int .i64 (m:Int))∧w=w':=by
 have HC:=hid hc;have HN:=hid hn;have HM:=hid hm;obtain⟨L,hL⟩:∃L,L=s.length:=⟨_,rfl⟩;have hL9:L≤1000000000000:=by omega
 have HL:=hid hL;have hsz:(s.length:Int)=(L:Int):=by rw[hL]
 clear hc hn hm hL hs;go_enter Tryz.func239,Tryz.ntmps239
 go_wp2;go_loop [5] (fun i=>∃k:Nat,k≤L∧i=.int .i64 (k:Int)∧Hid ((s.take k).all (M.among cs)=true)) (fun i=>L-(intOf i).toNat)
 case atStart=>exact⟨0,Nat.zero_le _,rfl,rfl⟩
 case round=>
  obtain⟨k,hk,rfl,ht⟩:=hrel;rcases Nat.lt_or_ge k L with hlt|hge
  ·obtain⟨c,hc⟩:∃c,s[k]?=some c:=⟨_,List.getElem?_eq_getElem (by rw[←HL.out];exact hlt)⟩;have HK:=hid hc;have hidx:=idx_str 9 Tryz.underlying9 s k c rfl hc;have hlt':(k:Int)<(L:Int):=by omega
   obtain⟨q,hq⟩:∃q,M.among cs c=q:=⟨_,rfl⟩;have HQ:=hid hq;clear hc hq;have H1:Calls Tryz.prog 223 #[.int .u8 (c.toNat:Int),.slice (some ⟨g,0,none⟩) n n] w fun e w'=>e=.returned (.bool q)∧w=w':=by
    have:=among_n c g cs w HC.out HN.out hn9;rw[HQ.out] at this;exact this
   have HA:=hid H1;clear H1;cases q
   ·go_wp2_with (go_at_call 223;refine HA.out.mono ?_;rintro e w' ⟨rfl,rfl⟩)
    go_ret;obtain rfl:k=m:=by
     rw[←HM.out];exact(M.takeWhile_at (by rw[←HL.out];exact hk) ht.out (.inr ⟨c,HK.out,HQ.out⟩)).1.symm
    exact⟨rfl,rfl⟩
   ·go_wp2_with (go_at_call 223;refine HA.out.mono ?_;rintro e w' ⟨rfl,rfl⟩)
    go_round
    case rel=>exact⟨k+1,by omega,by simp,M.all_snoc HK.out ht.out HQ.out⟩
    case measure=>simp[intOf];omega
  ·obtain rfl:k=L:=by omega
   go_wp2;go_ret;obtain rfl:k=m:=by
    rw[←HM.out];exact(M.takeWhile_at (by rw[←HL.out];exact Nat.le_refl _) ht.out (.inl HL.out)).1.symm
   exact⟨rfl,rfl⟩
def GivesI (w:World)(z:Int)(e:Ending)(w':World): Prop:=e=.returned (.int .i64 z)∧Ext w w'
theorem symbolic_n (s:List UInt8)(hs:s.length≤1000000000000){m:Nat}(hm:(s.takeWhile M.sym).length=m)(w:World): Calls Tryz.prog 222 #[str s] w (GivesI w (m:Int)):=by
 have HM:=hid hm;clear hm;go_enter Tryz.func222,Tryz.ntmps222
 go_wp2_with fail
 refine(row_n s _ [M.cLet,M.cDig,M.cMark] _ (Txts.new3 w M.cLet M.cDig M.cMark 9) rfl (by simp) hs HM.out).mono ?_;rintro e w' ⟨rfl,rfl⟩;go_wp2;go_ret;exact⟨rfl,Ext.alloc _ _⟩
set_option maxHeartbeats 1000000 in
theorem symbol_n (s:List UInt8)(hs:s.length≤1000000000000)(w:World): Calls Tryz.prog 186 #[str s] w (GivesB w (M.isSym s)):=by
 rcases s with _|⟨b,r⟩
 ·go_enter Tryz.func186,Tryz.ntmps186
  go_wp2;go_ret;exact⟨rfl,Ext.refl _⟩
 ·obtain⟨n,hn⟩:∃n,n=(b::r).length:=⟨_,rfl⟩;have hnr:((r.length:Int)+1)=(n:Int):=by rw[hn];simp
  have hnr2:r.length+1=n:=by rw[hn];simp
  have hn1:1≤n:=by omega
  have hn2:n≤1000000000000:=by rw[hn];exact hs
  have hg:∀h:0<(⟨(b::r).toArray⟩:ByteArray).size,(⟨(b::r).toArray⟩:ByteArray)[0]'h=b:=fun _=>rfl;have HS:=hid hs;have HN:=hid hn;clear hn hs;rcases Nat.lt_or_ge 20 n with h20|h20
  ·have HR:=hid (show M.isSym (b::r)=false by unfold M.isSym;rw[←HN.out];simp;omega);have hq:decide ((n:Int)≤20)=false:=by simp;omega
   go_enter Tryz.func186,Tryz.ntmps186
   go_wp2;go_ret;rw[HR.out];exact⟨rfl,Ext.refl _⟩
  ·obtain⟨m,hm⟩:∃m,((b::r).takeWhile M.sym).length=m:=⟨_,rfl⟩;have hmn:m≤n:=by rw[←hm,HN.out];exact M.takeWhile_len _ _
   have H1:=hid (symbolic_n (b::r) HS.out hm);have HM:=hid hm;clear hm;have hq:(n:Int)≤20:=by omega
   rcases Nat.lt_or_ge m n with hlt|hge
   ·have HR:=hid (show M.isSym (b::r)=false by
     unfold M.isSym;have:(b::r).all M.sym=false:=by
      rw[Bool.eq_false_iff];intro ha;have h2:(b::r).takeWhile M.sym=b::r:=by
       have:=M.takeWhile_at (p:=M.sym) (l:=b::r) (k:=(b::r).length) (Nat.le_refl _) (by rw[List.take_length];exact ha) (.inl rfl);rw[this.2,List.take_length]
      have h3:=HM.out;rw[h2,←HN.out] at h3;omega
     rw[this];simp)
    have hq2:((m:Int)==(n:Int))=false:=by simp;omega
    go_enter Tryz.func186,Tryz.ntmps186
    go_wp2_with (go_at_call 222;refine(H1.out _).mono ?_;rintro e w' ⟨rfl,hb⟩;have E:=hid hb;clear hb)
    go_ret;rw[HR.out];exact⟨rfl,E.out⟩
   ·obtain rfl:m=n:=by omega
    obtain⟨q,hq3⟩:∃q,M.dig b=q:=⟨_,rfl⟩;have HR:=hid (show M.isSym (b::r)=!q by
     unfold M.isSym;have ha:(b::r).all M.sym=true:=by
      have h3:=HM.out;rw[HN.out] at h3;have h4:=List.takeWhile_append_dropWhile (p:=M.sym) (l:=b::r);have h5:(b::r).dropWhile M.sym=[]:=by
       have:=congrArg List.length h4;rw[List.length_append,h3] at this;exact List.eq_nil_of_length_eq_zero (by omega)
      rw[h5,List.append_nil] at h4;rw[List.all_eq_true];intro x hx;rw[←h4] at hx;exact List.all_eq_true.1 (List.all_takeWhile) x hx
     rw[ha,←HN.out,List.headD_cons,hq3];simp[h20])
    have HQ:=hid hq3;clear hq3;go_enter Tryz.func186,Tryz.ntmps186
    go_wp2_with (go_at_call 222;refine(H1.out _).mono ?_;rintro e w' ⟨rfl,hb⟩;have E:=hid hb;clear hb)
    refine(among_n b _ [M.cDig] _ (Txts.new1 _ M.cDig 9) rfl (by simp)).mono ?_;rintro e w2 ⟨rfl,rfl⟩;rw[show M.among [M.cDig] b=q from HQ.out];go_wp2;go_ret;rw[HR.out];exact⟨rfl,E.out.alloc' _⟩
end Go.Proofs.YtoenjbkmiphhoaaGreatDoor.Q
