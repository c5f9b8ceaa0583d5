/-
  Contracts of package term: sorts, what a name stands for.
-/
import Derived.Test.YtoenjbkmiphhoaaGreatDoorA19
namespace Go.Proofs.YtoenjbkmiphhoaaGreatDoor.Q
set_option linter.unusedSimpArgs false
set_option linter.unusedVariables false
open Go.RowKit
theorem kclone_n (l:List UInt8)(hl:l.length≤1000000000000)(w:World): Calls Tryz.prog 98 #[str l] w (fun e w'=>e=.returned (str l)∧Ext w w'):=by
 have hc:=fun w=>Tryz.stringslite_Clone ⟨l.toArray⟩ w (by rw[Lib.size_eq];simp;omega);have HC:=@hid _ @hc;clear hc hl;go_enter Tryz.func98,Tryz.ntmps98
 go_wp2_with (go_at_call 139;refine(HC.out _).mono ?_;rintro e w2 ⟨rfl,hb⟩;have E:=hid hb;clear hb)
 go_ret;exact⟨rfl,E.out⟩
def M.noS (x:Int): Bool:=!decide (x=1∨x=2)
theorem noSort_n (x:Int)(w:World): Calls Tryz.prog 188 #[.int .i64 x] w (GivesB w (M.noS x)):=by
 by_cases h1:x=1
 ·subst h1;go_enter Tryz.func188,Tryz.ntmps188
  go_wp2;go_ret;exact⟨rfl,Ext.refl _⟩
 ·have hb:(x != 1)=true:=by simpa using h1
  obtain⟨q,hq⟩:∃q,(x != 2)=q:=⟨_,rfl⟩;have hr:M.noS x=q:=by
   unfold M.noS;rw[←hq]
   by_cases h2:x=2<;>simp[h1,h2]
  rw[hr];clear hr h1;go_enter Tryz.func188,Tryz.ntmps188
  go_wp2;go_ret;exact⟨rfl,Ext.refl _⟩
abbrev noSortFun:Value:=.func (.func 188) #[] #[]
theorem indexI_n {v:Value}{l:List Int}{w:World}(h:Ints w l v): Calls Tryz.prog 224 #[v,noSortFun] w (fun e w'=>∃z:Int,e=.returned (.int .i64 z)∧Hid (decide (0≤z)=l.any M.noS)∧Ext w w'):=by
 obtain⟨A,c,rfl⟩:=h.shape;obtain⟨hl1,hl2,hl3⟩:=h.le;obtain⟨n,hn⟩:∃n,l.length=n:=⟨_,rfl⟩;rw[hn] at h hl2 ⊢;have HR:=hid h;have HN:=hid hn;have hb:n≤9223372036854775807:=by omega
 clear h hn hl1;go_enter Tryz.func224,Tryz.ntmps224
 go_wp2_with fail
 go_loopw[8] (fun i wr=>∃k:Nat,k≤n∧i=.int .i64 k∧Hid ((l.take k).any M.noS=false∧Ext w wr)) (fun i _=>n-(intOf i).toNat)
 case atStart=>exact⟨0,Nat.zero_le _,rfl,by simp,Ext.refl _⟩
 case round=>
  obtain⟨k,hk,rfl,hR⟩:=hrel;have E:=hid hR.out.2;have HS:=hid hR.out.1;clear hR;rcases Nat.lt_or_ge k n with hlt|hge
  ·have hlt':(k:Int)<(n:Int):=by omega
   obtain⟨ad,x,rfl,hX,hcell⟩:=(HR.out.up E.out).get hlt;have HX:=hid hX;have HC:=hid (fun w'=>noSort_n x w');obtain⟨q,hq⟩:∃q,M.noS x=q:=⟨_,rfl⟩;rw[hq] at HC;have HQ:=hid hq;clear hX hq;cases q
   ·go_wp2_with (go_at_call 188;refine(HC.out _).mono ?_;rintro e w' ⟨rfl,hb⟩;replace E:=hid (E.out.trans hb);clear hb)
    go_roundw
    case rel=>exact⟨k+1,by omega,by simp,by rw[List.take_add_one,HX.out,List.any_append,HS.out];simp[HQ.out],E.out⟩
    case measure=>simp[intOf];omega
   ·go_wp2_with (go_at_call 188;refine(HC.out _).mono ?_;rintro e w' ⟨rfl,hb⟩;replace E:=hid (E.out.trans hb);clear hb)
    go_ret;refine⟨_,rfl,?_,E.out⟩;show decide (0≤(k:Int))=l.any M.noS;rw[decide_eq_true (by omega),eq_comm,List.any_eq_true];exact⟨x,List.mem_of_getElem? HX.out,HQ.out⟩
  ·obtain rfl:k=n:=by omega
   go_wp2;go_ret;refine⟨_,rfl,?_,E.out⟩;have h1:=HS.out;rw[←HN.out,List.take_length] at h1;show decide ((0:Int)≤-1)=l.any M.noS;rw[h1];rfl
theorem containsI_n {v:Value}{l:List Int}{w:World}(h:Ints w l v): Calls Tryz.prog 187 #[v,noSortFun] w (GivesB w (l.any M.noS)):=by
 obtain⟨A,c,rfl⟩:=h.shape;obtain⟨n,hn⟩:∃n,l.length=n:=⟨_,rfl⟩;have HC:=hid (indexI_n h);obtain⟨q,hq⟩:∃q,l.any M.noS=q:=⟨_,rfl⟩;rw[hq] at HC ⊢;rw[hn] at HC ⊢;clear h hn hq;go_enter Tryz.func187,Tryz.ntmps187
 go_wp2_with fail
 refine HC.out.mono ?_;rintro e w' ⟨z,rfl,hz,hb⟩;have HZ:=hid hz.out;have E:=hid hb;clear hz hb;go_wp2;go_ret;exact⟨ret_bool HZ.out,E.out⟩
theorem M.ksig_eq (s:M.Sg): M.ksig s=(M.isSym s.name&&(decide (s.args.length≤3)&&(!s.args.any M.noS&&!M.noS s.ret))):=by
 have h1:(s.args.all fun a=>decide (a=1∨a=2))=!s.args.any M.noS:=by
  rw[List.any_eq_not_all_not,Bool.not_not];congr 1
  funext x
  unfold M.noS;simp
 have h2:decide (s.ret=1∨s.ret=2)=!M.noS s.ret:=by unfold M.noS;simp
 unfold M.ksig;rw[h1,h2];cases s.args.any M.noS<;>cases M.isSym s.name<;>cases decide (s.args.length≤3)<;>cases M.noS s.ret<;>rfl
set_option maxHeartbeats 4000000 in
theorem isSig_t {s:M.Sg}{v:Value}{w:World}(h:IsSg w s v)(hl:s.name.length≤1000000000000): Calls Tryz.prog 152 #[v] w (GivesB w (M.ksig s)):=by
 rw[M.ksig_eq];obtain⟨nm,ag,rt⟩:=s;obtain⟨A,c,rfl,hi⟩:=h;replace hi:Ints w ag (.slice A ag.length c):=hi;show Calls Tryz.prog 152 #[sgv nm A ag.length c rt] w (GivesB w (M.isSym nm&&(decide (ag.length≤3)&&(!ag.any M.noS&&!M.noS rt))));replace hl:nm.length≤1000000000000:=hl;obtain⟨hl1,hl2,hl3⟩:=hi.le;have HC:=hid (show ∀w',Ext w w'→Calls Tryz.prog 187 #[.slice A ag.length c,noSortFun] w' (GivesB w' (ag.any M.noS)) from fun w' e=>containsI_n (hi.up e));have HS:=hid (fun w'=>symbol_n nm hl w');have HB:=hid (Box.new w #[str nm,.slice A ag.length c,.int .i64 rt] 62);have HR:=hid (fun w'=>noSort_n rt w');obtain⟨n,hn⟩:∃n,ag.length=n:=⟨_,rfl⟩;rw[hn] at HC hl2 HB ⊢;obtain⟨q1,hq1⟩:∃q,M.isSym nm=q:=⟨_,rfl⟩;obtain⟨q2,hq2⟩:∃q,ag.any M.noS=q:=⟨_,rfl⟩;obtain⟨q3,hq3⟩:∃q,M.noS rt=q:=⟨_,rfl⟩;rw[hq1] at HS ⊢;rw[hq2] at HC ⊢;rw[hq3] at HR ⊢;clear hi hl hn hq1 hq2 hq3 hl1;have hd3:decide (n≤3)=decide ((n:Int)≤3):=by rw[decide_eq_decide];omega
 cases q1
 ·go_enter Tryz.func152,Tryz.ntmps152
  go_wp2_with fail
  refine(HS.out _).mono ?_;rintro e w1 ⟨rfl,hb⟩;go_wp2;go_ret;exact⟨rfl,(Ext.alloc w _).trans hb⟩
 rw[Bool.true_and,hd3];clear hd3
 by_cases h3:(n:Int)≤3
 case neg=>
  have hq:decide ((n:Int)≤3)=false:=by simpa using h3
  rw[hq,Bool.false_and];clear h3;go_enter Tryz.func152,Tryz.ntmps152
  go_wp2_with fail
  refine(HS.out _).mono ?_;rintro e w1 ⟨rfl,hb⟩;obtain⟨a0,a1,a2⟩:=box3b (HB.out.up hb);have E:=hid ((Ext.alloc w _).trans hb);clear hb;go_wp2;go_ret;exact⟨rfl,E.out⟩
 rw[decide_eq_true h3,Bool.true_and];cases q2
 case true=>
  go_enter Tryz.func152,Tryz.ntmps152
  go_wp2_with fail
  refine(HS.out _).mono ?_;rintro e w1 ⟨rfl,hb⟩;obtain⟨a0,a1,a2⟩:=box3b (HB.out.up hb);have E:=hid ((Ext.alloc w _).trans hb);clear hb;go_wp2_with fail
  refine(HC.out _ E.out).mono ?_;rintro e w2 ⟨rfl,hb⟩;replace E:=hid (E.out.trans hb);clear hb;go_wp2;go_ret;exact⟨rfl,E.out⟩
 case false=>
  go_enter Tryz.func152,Tryz.ntmps152
  go_wp2_with fail
  refine(HS.out _).mono ?_;rintro e w1 ⟨rfl,hb⟩;obtain⟨a0,a1,a2⟩:=box3b (HB.out.up hb);have E1:=hid hb;have E:=hid ((Ext.alloc w _).trans hb);clear hb;go_wp2_with fail
  refine(HC.out _ E.out).mono ?_;rintro e w2 ⟨rfl,hb⟩;replace E:=hid (E.out.trans hb);obtain⟨b0,b1,b2⟩:=box3b ((HB.out.up E1.out).up hb);clear hb;go_wp2_with fail
  refine(HR.out _).mono ?_;rintro e w3 ⟨rfl,hb⟩;replace E:=hid (E.out.trans hb);clear hb;go_wp2;go_ret;exact⟨rfl,E.out⟩
theorem wpList_appI {base:Nat}{w:World}{ops:Array Oper}{rest:List Oper}{o:Oper}{a:Act}{Q:Exit→Act→World→Prop}(hgd:o.guard=none)(s x:Operand)
 (ho:o.op=.call { callee:=.builtin .append,args:=#[s,x],argTypes:=#[60,60] }) {v:Value} {l:List Int} {y:Int} {gL:Nat} {tL:TypeId}
 (hs:a.eval s=v) (hx:a.eval x=.slice (some ⟨gL,0,none⟩) 1 1) (h:OwnI base w v l) (hL:Box w gL #[.int .i64 y] tL) (hlen:l.length+1≤1000000000) (hbase:base≤w.heap.size)
 (hq:∀v' w',OwnI base w' v' (l++[y])→Below base w w'→wpList Tryz.prog ops Q rest (a.put o.dst v') w'):wpList Tryz.prog ops Q (o::rest) a w:=by
 obtain⟨v',w',hr,h2,h3,-⟩:=appI_run h hL hlen hbase o.type;refine wpList_plain hgd fun K hK=>?_;unfold Oper.wp execOp;simp only[ho,resolve,invoke,builtin,Sem.run_bind,Sem.run_pure,Result.andThen_ok,List.map_toArray,List.map_cons,List.map_nil,hs,hx,hr];exact hK _ _ (hq v' w' h2 h3)
def GivesIs (w:World)(l:List Int)(e:Ending)(w':World): Prop:=∃v,e=.returned v∧OwnI w.heap.size w' v l∧Ext w w'
set_option maxHeartbeats 4000000 in
theorem sorts_n {ks:List M.Tm}{v:Value}{w:World}(h:Tms w ks v)(hlen:ks.length≤1000000): Calls Tryz.prog 208 #[v] w (GivesIs w (ks.map M.Tm.sort)):=by
 obtain⟨A,c,rfl⟩:=h.shape;obtain⟨hl1,hl2,hl3⟩:=h.le;obtain⟨n,hn⟩:∃n,ks.length=n:=⟨_,rfl⟩;rw[hn] at h hl2 hlen ⊢;have HK:=hid h;have HN:=hid hn;clear h hn hl1;go_enter Tryz.func208,Tryz.ntmps208
 go_wp2_with fail
 go_loopw[3,8] (fun x i wr=>∃k:Nat,k≤n∧i=.int .i64 k∧Hid (OwnI w.heap.size wr x ((ks.take k).map M.Tm.sort)∧Ext w wr)) (fun _ i _=>n-(intOf i).toNat)
 case atStart=>exact⟨0,Nat.zero_le _,rfl,OwnI.nil _ _,Ext.refl _⟩
 case round=>
  obtain⟨k,hk,rfl,hR⟩:=hrel;have E:=hid hR.out.2;obtain⟨L,hL⟩:∃L,(ks.take k).map M.Tm.sort=L:=⟨_,rfl⟩;have hO:=hR.out.1;rw[hL] at hO;have HL:=hid hL;have HLK:=hid (show L.length=k by rw[←HL.out,List.length_map,List.length_take,HN.out];omega);obtain⟨IA,ic,rfl,hi1,hi2⟩:=kshape hO;obtain⟨m,hm⟩:∃m,L.length=m:=⟨_,rfl⟩;rw[hm] at hO hi1 ⊢;have HO:=hid hO;clear hR hL hO;rcases Nat.lt_or_ge k n with hlt|hge
  ·have hlt':(k:Int)<(n:Int):=by omega
   obtain⟨ad,u,N',nn',nc',B,d,rfl,hu,⟨c0,c1,c2,c3,c4,c5⟩,hv⟩:=(HK.out.up E.out).get hlt;have HU:=hid hu;have hlen9:=hid (show L.length+1≤1000000000 by have:=HLK.out;omega);clear hu hv;go_wp2_with (at_builtin;refine wpList_appI rfl (.tmp 12) (.tmp 15) rfl (base:=w.heap.size) (l:=L) (y:=u.sort) (gL:=wr.heap.size+1) (tL:=3) rfl rfl ?own ?box hlen9.out ?base ?_)
   case own=>exact(HO.out.frame fun b _ hb=>(Ext.alloc wr _).block b hb).frame fun b _ hb=>(Ext.alloc (wr.alloc _) _).block b hb
   case box=>exact Box.at_ (w:=wr.alloc _) _ _ (by simp)
   case base=>have:=E.out.size;simp;omega
   intro v' w5 hO5 hB5;have HO5:=hid hO5;have E5:=hid (show Ext w w5 from Below.trans (B:=w.heap.size) ((E.out.alloc' _).alloc' _) hB5);clear hO5 hB5;go_wp2_with fail
   go_roundw
   case rel=>exact⟨k+1,by omega,by simp,by rw[List.take_add_one,HU.out,List.map_append,HL.out];exact HO5.out,E5.out⟩
   case measure=>simp[intOf];omega
  ·obtain rfl:k=n:=by omega
   go_wp2;go_ret;refine⟨_,rfl,?_,E.out⟩;have h1:=HL.out;rw[←HN.out,List.take_length] at h1;rw[h1];have h2:=HO.out;rw[←h1] at h2 ⊢;exact h2
theorem Ints.sub {w w':World}{l:List Int}{v:Value}(h:Ints w l v)(e:Sub w w'): Ints w' l v:=by
 obtain⟨A,n,c,h1,h2,h3,h4,h5⟩:=h;refine⟨A,n,c,h1,h2,h3,h4,fun hne=>?_⟩;obtain⟨ad,ha,hb,hc⟩:=h5 hne;exact⟨ad,ha,Nat.lt_of_lt_of_le hb e.1,fun i x hx=>e.2 _ _ (hc i x hx)⟩
theorem OwnI.ghost {base:Nat}{w:World}{v:Value}{l:List Int}(h:OwnI base w v l){p:Nat→Prop}[DecidablePred p](hp:∀b,base≤b→b<w.heap.size→p b): Ints (gp p w) l v:=by
 have hh:=h;obtain⟨hl,h3⟩:=h;rcases h3 with⟨rfl,h0⟩|⟨b,cap,cur,rfl,hb,hc,hc1,hm,_,_⟩
 ·obtain rfl:l=[]:=List.eq_nil_of_length_eq_zero h0;exact⟨none,0,0,rfl,rfl,Nat.le_refl _,Nat.zero_le _,fun h=>absurd rfl h⟩
 ·have hlt:=(Array.getElem?_eq_some_iff.1 hc).1;refine⟨_,_,_,rfl,rfl,hc1,hm,fun hn=>⟨_,rfl,by rw[gp_size];exact hlt,fun k x hk=>gp_cell.2 ⟨by rw[addr_block];exact hp b hb hlt,?_⟩⟩⟩;exact World.ownsRow.cells hh (g:=b) rfl _ _ (by rw[List.getElem?_map,hk];rfl)
def GivesSgN (w:World)(s:M.Sg)(e:Ending)(w':World): Prop:=∃A c,e=.returned (sgv s.name A s.args.length c s.ret)∧Ints (gp (fun b=>w.heap.size≤b) w') s.args (.slice A s.args.length c)∧Ext w w'
set_option maxHeartbeats 4000000 in
theorem sigN_n {t:M.Tm}{v:Value}{w:World}(h:IsTm w t v)(hlen:t.kids.length≤1000000)(hnm:t.name.length≤1000000000000): Calls Tryz.prog 170 #[v] w (GivesSgN w (M.sigOf t)):=by
 obtain⟨op,g,ls,nm,so,ks⟩:=t;obtain⟨N,nn,nc,A,c,rfl,hn,hk⟩:=h;replace hk:Tms w ks (.slice A ks.length c):=hk;replace hlen:ks.length≤1000000:=hlen;replace hnm:nm.length≤1000000000000:=hnm;show Calls Tryz.prog 170 #[kv op g N nn nc nm so A ks.length c] w (GivesSgN w ⟨nm,ks.map M.Tm.sort,so⟩);have HS:=hid (show ∀w',Ext w w'→Calls Tryz.prog 208 #[.slice A ks.length c] w' (GivesIs w' (ks.map M.Tm.sort)) from fun w' e=>sorts_n (hk.up e) hlen);have HC:=hid (fun w'=>kclone_n nm hnm w');obtain⟨n,hn'⟩:∃n,ks.length=n:=⟨_,rfl⟩;rw[hn'] at HS ⊢;clear hk hn hlen hnm hn';have HB:=hid (show Box ((w.alloc (.cells #[.int .i64 op,.bool g,.slice N nn nc,str nm,.int .i64 so,.slice A n c] 27)).alloc (.cells #[.string ⟨#[]⟩,.slice none 0 0,.int .i64 0] 62)) w.heap.size #[.int .i64 op,.bool g,.slice N nn nc,str nm,.int .i64 so,.slice A n c] 27 from(Box.new w _ _).alloc _);have HG:=hid (show Box ((w.alloc (.cells #[.int .i64 op,.bool g,.slice N nn nc,str nm,.int .i64 so,.slice A n c] 27)).alloc (.cells #[.string ⟨#[]⟩,.slice none 0 0,.int .i64 0] 62)) (w.heap.size+1) #[.string ⟨#[]⟩,.slice none 0 0,.int .i64 0] 62 from Box.at_ (w:=w.alloc (.cells #[.int .i64 op,.bool g,.slice N nn nc,str nm,.int .i64 so,.slice A n c] 27)) _ _ (by simp));go_enter Tryz.func170,Tryz.ntmps170
 go_wp2_with fail
 refine wp_region_D [(0,0),(1,0),(3,0),(4,0),(6,0),(7,0),(2,1),(5,1),(8,0),(9,4)] fun wd hb=>?_;have E:=hid ((alloc_two w _ _).trans hb);replace HB:=hid (HB.out.up hb);replace HG:=hid (HG.out.up hb);clear hb;refine WE.p 3 (.pointer (some ⟨w.heap.size,3,none⟩)) ?_;simp only[pX];refine WE.q 4 (str nm) rfl (fun w' hk=>by have ce:=(HB.out.up hk).k 3;go_simp) ?_;simp only[pX];refine WE.p 6 (.pointer (some ⟨w.heap.size,5,none⟩)) ?_;simp only[pX];refine WE.q 7 (.slice A n c) rfl (fun w' hk=>by have ce:=(HB.out.up hk).k 5;go_simp) ?_;simp only[pX];refine WE.p 9 (.pointer (some ⟨w.heap.size,4,none⟩)) ?_;simp only[pX];refine WE.q 10 (.int .i64 so) rfl (fun w' hk=>by have ce:=(HB.out.up hk).k 4;go_simp) ?_;simp only[pX];refine WE.c 5 ((HC.out _).mono ?_);rintro e w1 ⟨rfl,hb⟩;replace E:=hid (E.out.trans hb);replace HG:=hid (HG.out.up hb);have HG1:=hid HG.out;refine⟨_,rfl,hb,?_⟩;clear hb;simp only[pX];refine WE.c 8 ((HS.out _ E.out).mono ?_);rintro e w2 ⟨v2,rfl,hi,hb⟩;replace HG:=hid (HG.out.up hb);have hge:w.heap.size+2≤w1.heap.size:=by have:=E.out.size;have:=HG1.out.lt;omega
 replace E:=hid (E.out.trans hb);refine⟨_,rfl,hb,?_⟩;clear hb;simp only[pX];obtain⟨IA,ic,rfl,hs1,hs2⟩:=kshape hi;obtain⟨m,hm⟩:∃m,(ks.map M.Tm.sort).length=m:=⟨_,rfl⟩;rw[hm] at hs1 ⊢;have HI:=hid hi;have HM:=hid hm;have HI2:=hid (show OwnI w1.heap.size w2 (.slice IA m ic) (ks.map M.Tm.sort) by rw[←HM.out];exact HI.out);clear hm hi;refine WE.p 11 (.agg #[str nm,.slice IA m ic,.int .i64 so]) ?_;simp only[pX];obtain⟨f0,f1,f2⟩:=free3 HG.out;obtain⟨a0,a1,a2⟩:=box3b HG.out;have hz:=HG.out.lt;refine WE.store (w':=((w2.setCell ⟨w.heap.size+1,0,none⟩ (str nm)).setCell ⟨w.heap.size+1,1,none⟩ (.slice IA m ic)).setCell ⟨w.heap.size+1,2,none⟩ (.int .i64 so)) rfl rfl (by rfl) (by go_simp) (by simp) ?_;refine WE.done ?_;go_wp2_with fail
 refine bodyPost_ret (v:=sgv nm IA m ic so) (by simp[results,Tryz.results170,go_sem,a0,a1,a2,hz]) rfl ?_;refine⟨IA,ic,by rw[HM.out],?_,?_⟩
 ·rw[HM.out];exact OwnI.ghost (HI2.out.frame (w':=((w2.setCell ⟨w.heap.size+1,0,none⟩ (str nm)).setCell ⟨w.heap.size+1,1,none⟩ (.slice IA m ic)).setCell ⟨w.heap.size+1,2,none⟩ (.int .i64 so)) fun b hb1 hb2=>((Below.heap_setCell _ _ _ _ (show b≠w.heap.size+1 by omega)).trans (Below.heap_setCell _ _ _ _ (show b≠w.heap.size+1 by omega))).trans (Below.heap_setCell _ _ _ _ (show b≠w.heap.size+1 by omega))) fun b hb1 hb2=>by omega
 ·exact((E.out.set' (by show w.heap.size≤w.heap.size+1;omega) _).set' (by show w.heap.size≤w.heap.size+1;omega) _).set' (by show w.heap.size≤w.heap.size+1;omega) _
theorem sig_n {t:M.Tm}{v:Value}{w:World}(h:IsTm w t v)(hlen:t.kids.length≤1000000)(hnm:t.name.length≤1000000000000): Calls Tryz.prog 170 #[v] w (GivesSg w (M.sigOf t)):=
 (sigN_n h hlen hnm).mono fun e w' ⟨A,c,h1,h2,h3⟩=>⟨A,c,h1,h2.sub (gp_sub _ _),h3⟩
end Go.Proofs.YtoenjbkmiphhoaaGreatDoor.Q
