/-
  Contracts of package lex: what lies ahead of a word; a word's token; what is printed of one.
-/
import Derived.Test.YtoenjbkmiphhoaaGreatDoorA12
namespace Go.Proofs.YtoenjbkmiphhoaaGreatDoor.Q
set_option linter.unusedSimpArgs false
set_option linter.unusedVariables false
open Go.RowKit
namespace M
end M
theorem clone_n (l:List UInt8)(hl:l.length≤1000000000000)(w:World): Calls Tryz.prog 98 #[str l] w (GivesT w l):=by
 have hc:=fun w=>Tryz.stringslite_Clone ⟨l.toArray⟩ w (by rw[Lib.size_eq];simp;omega);have HC:=hid hc;clear hc;go_enter Tryz.func98,Tryz.ntmps98
 go_wp2_with fail
 refine(HC.out _).mono ?_;rintro e w' ⟨rfl,hb⟩;have E:=hid hb;clear hb;go_wp2;go_ret;exact⟨rfl,E.out⟩
namespace M
end M
namespace M
def WordsAt (s:List UInt8)(ts:List Tok)(k:Nat): Prop:=scan s=(ts++(scan (s.drop k)).1,(scan (s.drop k)).2)∧k≤s.length∧ts.length≤k
def Gapped (s:List UInt8)(k:Nat): Prop:=skip (s.drop k)=s.drop k
theorem WordsAt.zero (s:List UInt8): WordsAt s [] 0:=⟨by simp,by simp,by simp⟩
theorem WordsAt.gap {s:List UInt8}{ts:List Tok}{k:Nat}(h:WordsAt s ts k){u:List UInt8}(hu:s.drop k=u): WordsAt s ts (k+(u.length-(skip u).length))∧Gapped s (k+(u.length-(skip u).length)):=by
 have e:s.drop (k+(u.length-(skip u).length))=skip u:=by rw[←List.drop_drop,hu,←skip_drop]
 obtain⟨h1,h2,h3⟩:=h;have hul:u.length=s.length-k:=by rw[←hu,List.length_drop]
 refine⟨⟨?_,by omega,by omega⟩,?_⟩
 ·rw[e,scan_skip,←hu];exact h1
 ·unfold Gapped;rw[e];exact skip_idem u
theorem WordsAt.done {s:List UInt8}{ts:List Tok}{k:Nat}(h:WordsAt s ts k)(hk:k=s.length): scan s=(ts,none):=by
 obtain⟨h1,_,_⟩:=h;rw[h1,hk,List.drop_length,scan_nil skip_nil];simp
theorem WordsAt.bad {s:List UInt8}{ts:List Tok}{k:Nat}{b:UInt8}{r:List UInt8}(h:WordsAt s ts k)(hd:s.drop k=b::r)(hs:skip (b::r)=b::r)(hf:first (b::r)=none): (scan s).2=some (s.length-k):=by
 obtain⟨h1,h2,_⟩:=h;have hl:r.length+1=s.length-k:=by rw[←List.length_cons (a:=b),←hd,List.length_drop]
 rw[h1,hd,scan_bad hs hf,hl]
def cells (ts:List Tok): List Value:=(ts.map fun t=>[Value.int .i64 t.1,str t.2]).flatten
end M
def TList (w:World)(v:Value)(ts:List M.Tok): Prop:=∃A n c,v=.slice A n c∧n=ts.length∧n≤c∧c≤maxLen ∧
 (ts≠[]→∃ad,A=some ad∧ad.block<w.heap.size∧∀k t,ts[k]?=some t→w.cell? (ad.add (k*2))=some (.int .i64 t.1)∧w.cell? ((ad.add (k*2)).add 1)=some (str t.2))
theorem TList.nil (w:World): TList w (.slice none 0 0) []:=⟨none,0,0,rfl,rfl,Nat.le_refl _,Nat.zero_le _,fun h=>absurd rfl h⟩
theorem TList.up {w w':World}{v:Value}{ts:List M.Tok}(h:TList w v ts)(e:Ext w w'): TList w' v ts:=by
 obtain⟨A,n,c,h1,h2,h3,h4,h5⟩:=h;refine⟨A,n,c,h1,h2,h3,h4,fun hne=>?_⟩;obtain⟨ad,ha,hb,hc⟩:=h5 hne;exact⟨ad,ha,Nat.lt_of_lt_of_le hb e.size,fun k t hk=>⟨e.cell (hc k t hk).1,e.cell (hc k t hk).2⟩⟩
theorem TList.shape {w:World}{v:Value}{ts:List M.Tok}(h:TList w v ts): ∃A c,v=.slice A ts.length c:=by
 obtain⟨A,n,c,h1,h2,_⟩:=h;exact⟨A,c,by rw[h1,h2]⟩
theorem TList.get {w:World}{A:Option Addr}{n c:Nat}{ts:List M.Tok}(h:TList w (.slice A n c) ts){k:Nat}(hk:k<ts.length):
 ∃ad t,A=some ad∧ts[k]?=some t∧w.cell? (ad.add (k*2))=some (.int .i64 t.1)∧w.cell? ⟨(ad.add (k*2)).block,(ad.add (k*2)).off+1,none⟩=some (str t.2):=by
 obtain⟨A',n',c',e,h2,h3,h4,h5⟩:=h;injection e with e1 e2 e3;obtain⟨ad,ha,hb,hc⟩:=h5 (by intro e;subst e;simp at hk);have hk':=List.getElem?_eq_getElem hk;obtain⟨c0,c1⟩:=hc k _ hk';exact⟨ad,_,by rw[e1,ha],hk',c0,c1⟩
abbrev TB:TypeId:=167
abbrev T8:TypeId:=5
def Bld (B b:Nat)(l:List UInt8)(w:World): Prop:=Lib.IsBuilderF TB T8 B b (Lib.byteCells l) w
theorem Bld.new (w:World): Bld w.heap.size w.heap.size [] (w.alloc (.cells #[.pointer none,.slice none 0 0] TB)):=
 .inl ⟨Nat.le_refl _,_,heap_alloc_new w _,World.ownsRowF_nil _ _ _ _,by simp[Value.ownBlock]⟩
theorem Bld.lt {B b:Nat}{l:List UInt8}{w:World}(h:Bld B b l w): b<w.heap.size:=by
 rcases h with⟨_,v,hb,_⟩|⟨_,v,hb,_⟩<;>exact(Array.getElem?_eq_some_iff.1 hb).1
theorem Bld.alloc {B b:Nat}{l:List UInt8}{w:World}(h:Bld B b l w)(o:Obj): Bld B b l (w.alloc o):=by
 have key:∀p,Lib.BuilderAtF TB T8 B b p (Lib.byteCells l) w→Lib.BuilderAtF TB T8 B b p (Lib.byteCells l) (w.alloc o):=by
  rintro p ⟨hB,v,hb,hown,hne⟩;have hlt:b<w.heap.size:=(Array.getElem?_eq_some_iff.1 hb).1;exact⟨hB,v,(Below.heap_alloc w o b hlt).trans hb,hown.kept (World.grownBy_alloc w o none) (by cases v.ownBlock<;>simp),hne⟩
 exact h.imp (key _) (key _)
theorem Bld.up {B b:Nat}{l:List UInt8}{w w':World}(h:Bld B b l w)(hE:Ext w w'): Bld B b l w':=by
 have key:∀p,Lib.BuilderAtF TB T8 B b p (Lib.byteCells l) w→Lib.BuilderAtF TB T8 B b p (Lib.byteCells l) w':=by
  rintro p ⟨hB,v,hb,hown,hne⟩;have hlt:b<w.heap.size:=(Array.getElem?_eq_some_iff.1 hb).1;exact⟨hB,v,(hE.block b hlt).trans hb,hown.kept (row:=none) ⟨hE.os,hE.tape,hE.output,hE.size,fun k hk _=>hE.block k hk⟩ (by cases v.ownBlock<;>simp),hne⟩
 exact h.imp (key _) (key _)
namespace M
end M
set_option linter.unusedSimpArgs false
set_option linter.unusedVariables false
open Go.RowKit
theorem rDigit_n (b:UInt8)(w:World): Calls Tryz.prog 90 #[.int .u8 (b.toNat:Int)] w fun e w'=>e=.returned (.bool (M.dig b))∧w=w':=by
 have hd:=M.dig_iff b;rcases (by omega:b.toNat<48∨57<b.toNat∨(48≤b.toNat∧b.toNat≤57)) with h|h|h
 ·have HR:=hid (show M.dig b=false by rw[hd];simp;omega);have h1:decide (48≤(b.toNat:Int))=false:=by simp;omega
  clear hd;go_enter Tryz.func90,Tryz.ntmps90
  go_wp2;go_ret;rw[HR.out];exact⟨rfl,rfl⟩
 ·have HR:=hid (show M.dig b=false by rw[hd];simp;omega);have h1:(48≤(b.toNat:Int)):=by omega
  have h2:decide ((b.toNat:Int)≤57)=false:=by simp;omega
  clear hd;go_enter Tryz.func90,Tryz.ntmps90
  go_wp2;go_ret;rw[HR.out];exact⟨rfl,rfl⟩
 ·have HR:=hid (show M.dig b=true by rw[hd];simp;omega);have h1:(48≤(b.toNat:Int)):=by omega
  have h2:((b.toNat:Int)≤57):=by omega
  clear hd;go_enter Tryz.func90,Tryz.ntmps90
  go_wp2;go_ret;rw[HR.out];exact⟨rfl,rfl⟩
set_option maxHeartbeats 1000000 in
theorem rSign_no (b:UInt8)(w:World)(h1:M.dig b=false)(h2:¬(97≤b.toNat∧b.toNat≤122))(h3:¬(65≤b.toNat∧b.toNat≤90)): Calls Tryz.prog 89 #[.int .u8 (b.toNat:Int)] w fun e w'=>e=.returned (.bool (M.sym b))∧w=w':=by
 have HR:=hid (show M.sym b=M.cMark.contains b by
  rw[←M.sign_sym];unfold M.sign;rw[h1];have e1:(decide (97≤b.toNat)&&decide (b.toNat≤122))=false:=by rw[Bool.eq_false_iff];simp only[ne_eq,Bool.and_eq_true,decide_eq_true_eq];exact h2
  have e2:(decide (65≤b.toNat)&&decide (b.toNat≤90))=false:=by rw[Bool.eq_false_iff];simp only[ne_eq,Bool.and_eq_true,decide_eq_true_eq];exact h3
  rw[e1,e2];rfl)
 have HD:=hid (show ∀w,Calls Tryz.prog 90 #[.int .u8 (b.toNat:Int)] w fun e w'=>e=.returned (.bool false)∧w=w' from fun w=>h1▸rDigit_n b w);have f2:∃q,decide (97≤(b.toNat:Int))=q∧(q=true→decide ((b.toNat:Int)≤122)=false):=⟨_,rfl,fun h=>by simp at h ⊢;omega⟩;have f3:∃q,decide (65≤(b.toNat:Int))=q∧(q=true→decide ((b.toNat:Int)≤90)=false):=⟨_,rfl,fun h=>by simp at h ⊢;omega⟩;obtain⟨q2,g2,k2⟩:=f2;obtain⟨q3,g3,k3⟩:=f3;clear h1 h2 h3;cases q2<;>cases q3
 all_goals
  first|(have k2':=k2 rfl)|skip
  first|(have k3':=k3 rfl)|skip
  clear k2 k3;go_enter Tryz.func89,Tryz.ntmps89
  go_wp2_with (go_at_call 90;refine(HD.out _).mono ?_;rintro e w' ⟨rfl,rfl⟩)
  go_loop [3] (fun i=>∃k:Nat,k≤17∧i=.int .i64 (k:Int)∧Hid ((M.cMark.take k).contains b=false)) (fun i=>17-(intOf i).toNat)
  case atStart=>exact⟨0,Nat.zero_le _,rfl,rfl⟩
  case round=>
   obtain⟨k,hk,rfl,ht⟩:=hrel;rcases Nat.lt_or_ge k 17 with hlt|hge
   ·obtain⟨c,hc⟩:∃c,M.cMark[k]?=some c:=⟨_,List.getElem?_eq_getElem (show k<M.cMark.length from hlt)⟩;have hidx:∀w,(Instr.index 9 (.string ⟨#[126,33,64,36,37,94,38,42,95,45,43,61,60,62,46,63,47]⟩) (.int .i64 (k:Int))).run Tryz.prog w=.ok (.int .u8 (c.toNat:Int)) w:=idx_str 9 Tryz.underlying9 M.cMark k c rfl hc;have HK:=hid hc;have hlt':(k:Int)<17:=by omega
    have hst:(M.cMark.take (k+1)).contains b=((M.cMark.take k).contains b||b==c):=by
     rw[List.take_add_one,hc,Bool.eq_iff_iff];simp[or_comm]
    have HS:=hid hst;clear hc hst
    by_cases hbc:c=b
    ·subst hbc;have HM:=hid (show M.cMark.contains c=true by simpa using List.mem_of_getElem? HK.out);go_wp2;go_ret;rw[HR.out,HM.out];exact⟨rfl,rfl⟩
    ·have hq:((c.toNat:Int)==(b.toNat:Int))=false:=by
      simp;intro e;exact hbc (UInt8.toNat_inj.1 (by omega))
     have HQ:=hid (show (b==c)=false by simpa using fun e:b=c=>hbc e.symm);clear hbc;go_wp2;go_round
     case rel=>exact⟨k+1,by omega,by simp,by show _=_;rw[HS.out,ht.out,HQ.out];rfl⟩
     case measure=>simp[intOf];omega
   ·obtain rfl:k=17:=by omega
    have HM:=hid (show M.cMark.contains b=false from ht.out);clear ht;go_wp2;go_ret;rw[HR.out,HM.out];exact⟨rfl,rfl⟩
theorem rSign_n (b:UInt8)(w:World): Calls Tryz.prog 89 #[.int .u8 (b.toNat:Int)] w fun e w'=>e=.returned (.bool (M.sym b))∧w=w':=by
 rcases h1:M.dig b with _|_
 ·by_cases h2:97≤b.toNat∧b.toNat≤122
  ·have HR:=hid (show M.sym b=true by rw[←M.sign_sym];unfold M.sign;simp[h2.1,h2.2]);have HD:=hid (show ∀w,Calls Tryz.prog 90 #[.int .u8 (b.toNat:Int)] w fun e w'=>e=.returned (.bool false)∧w=w' from fun w=>h1▸rDigit_n b w);have e1:97≤(b.toNat:Int):=by omega
   have e2:(b.toNat:Int)≤122:=by omega
   clear h1 h2;go_enter Tryz.func89,Tryz.ntmps89
   go_wp2_with (go_at_call 90;refine(HD.out _).mono ?_;rintro e w' ⟨rfl,rfl⟩)
   go_ret;rw[HR.out];exact⟨rfl,rfl⟩
  ·by_cases h3:65≤b.toNat∧b.toNat≤90
   ·have HR:=hid (show M.sym b=true by rw[←M.sign_sym];unfold M.sign;simp[h3.1,h3.2]);have HD:=hid (show ∀w,Calls Tryz.prog 90 #[.int .u8 (b.toNat:Int)] w fun e w'=>e=.returned (.bool false)∧w=w' from fun w=>h1▸rDigit_n b w);have e1:decide (97≤(b.toNat:Int))=false:=by simp;omega
    have e3:65≤(b.toNat:Int):=by omega
    have e4:(b.toNat:Int)≤90:=by omega
    clear h1 h2 h3;go_enter Tryz.func89,Tryz.ntmps89
    go_wp2_with (go_at_call 90;refine(HD.out _).mono ?_;rintro e w' ⟨rfl,rfl⟩)
    go_ret;rw[HR.out];exact⟨rfl,rfl⟩
   ·exact rSign_no b w h1 h2 h3
 ·have HR:=hid (M.dig_sym h1);have HD:=hid (show ∀w,Calls Tryz.prog 90 #[.int .u8 (b.toNat:Int)] w fun e w'=>e=.returned (.bool true)∧w=w' from fun w=>h1▸rDigit_n b w);clear h1;go_enter Tryz.func89,Tryz.ntmps89
  go_wp2_with (go_at_call 90;refine(HD.out _).mono ?_;rintro e w' ⟨rfl,rfl⟩)
  go_ret;rw[HR.out];exact⟨rfl,rfl⟩
theorem rSymbol_end (b:UInt8)(r:List UInt8)(ha:(b::r).all M.sym=true)(hl:(b::r).length≤20): M.isSym (b::r)=!M.dig b:=by
 unfold M.isSym;rw[ha,List.headD_cons,decide_eq_true hl];simp
set_option maxHeartbeats 2000000 in
theorem rSymbol_n (s:List UInt8)(hs:s.length≤1000000000000)(w:World): Calls Tryz.prog 58 #[str s] w fun e w'=>e=.returned (.bool (M.isSym s))∧w=w':=by
 obtain⟨L,hL⟩:∃L,L=s.length:=⟨_,rfl⟩;have hL9:L≤1000000000000:=by omega
 have HL:=hid hL;have hsz:(s.length:Int)=(L:Int):=by rw[hL]
 clear hL hs;go_enter Tryz.func58,Tryz.ntmps58
 go_wp2;go_loop [3] (fun i=>∃k:Nat,k≤L∧i=.int .i64 (k:Int)∧Hid ((s.take k).all M.sym=true)) (fun i=>L-(intOf i).toNat)
 case atStart=>exact⟨0,Nat.zero_le _,rfl,rfl⟩
 case round=>
  obtain⟨k,hk,rfl,ht⟩:=hrel;rcases Nat.lt_or_ge k L with hlt|hge
  ·obtain⟨c,hc⟩:∃c,s[k]?=some c:=⟨_,List.getElem?_eq_getElem (by rw[←HL.out];exact hlt)⟩;have HK:=hid hc;have hidx:=idx_str 9 Tryz.underlying9 s k c rfl hc;have hlt':(k:Int)<(L:Int):=by omega
   obtain⟨q,hq⟩:∃q,M.sym c=q:=⟨_,rfl⟩;have HQ:=hid hq;have HA:=hid (show ∀w,Calls Tryz.prog 89 #[.int .u8 (c.toNat:Int)] w fun e w'=>e=.returned (.bool q)∧w=w' from fun w=>hq▸rSign_n c w);clear hc hq;cases q
   ·have HR:=hid (show M.isSym s=false by
     unfold M.isSym;have:s.all M.sym=false:=List.all_eq_false.2 ⟨c,List.mem_of_getElem? HK.out,by rw[HQ.out];decide⟩;rw[this];simp)
    go_wp2_with (go_at_call 89;refine(HA.out _).mono ?_;rintro e w' ⟨rfl,rfl⟩)
    go_ret;rw[HR.out];exact⟨rfl,rfl⟩
   ·go_wp2_with (go_at_call 89;refine(HA.out _).mono ?_;rintro e w' ⟨rfl,rfl⟩)
    go_round
    case rel=>exact⟨k+1,by omega,by simp,M.all_snoc HK.out ht.out HQ.out⟩
    case measure=>simp[intOf];omega
  ·obtain rfl:k=L:=by omega
   rcases s with _|⟨b,r⟩
   ·obtain rfl:k=0:=HL.out;go_wp2;go_ret;exact⟨rfl,rfl⟩
   ·have hall:=ht.out;rw[HL.out,List.take_length] at hall;have HA:=hid hall;have hg:∀h:0<(⟨(b::r).toArray⟩:ByteArray).size,(⟨(b::r).toArray⟩:ByteArray)[0]'h=b:=fun _=>rfl;have hk1:1≤k:=by rw[HL.out];simp
    have hk1':1≤(k:Int):=by omega
    have hkr:((r.length:Int)+1)=(k:Int):=by rw[HL.out];simp
    clear hall hsz;rcases Nat.lt_or_ge 20 k with h20|h20
    ·have HR:=hid (show M.isSym (b::r)=false by unfold M.isSym;rw[←HL.out];simp;omega);have hq:decide ((k:Int)≤20)=false:=by simp;omega
     go_wp2;go_ret;rw[HR.out];exact⟨rfl,rfl⟩
    ·have HR:=hid (rSymbol_end b r HA.out (by rw[←HL.out];exact h20));have hq:(k:Int)≤20:=by omega
     go_wp2_with (go_at_call 90;refine(rDigit_n b _).mono ?_;rintro e w' ⟨rfl,rfl⟩)
     go_ret;rw[HR.out];exact⟨rfl,rfl⟩
end Go.Proofs.YtoenjbkmiphhoaaGreatDoor.Q
