/-
  Package own: Term, Terms.
-/
import Derived.Test.YtoenjbkmiphhoaaGreatDoorS26
namespace Go.Proofs.YtoenjbkmiphhoaaGreatDoor.Q
set_option linter.unusedSimpArgs false
set_option linter.unusedVariables false
open Go.RowKit
theorem OwnG.terms {B:Nat}{w:World}{v:Value}{l:List M.Tm}(h:OwnG TC 6 27 B w v l): Tms (gp (fun b=>B≤b) w) l v:=
 OwnL.terms h gp_beside (by rw[gp_size];exact Nat.le_refl _) fun a u ⟨g,hg,ha⟩ hc=>gp_cell.2 ⟨by rw[ha];exact(h.lt g hg).1,hc⟩
set_option maxHeartbeats 8000000 in
theorem ownTs_n {l:List M.Tm}{v:Value}{w:World}(h:Tms w l v)(hlen:l.length≤100000)
 (ih:∀(k:Nat) (t:M.Tm),l[k]?=some t→∀u w',IsTm w' t u→Calls Tryz.prog 63 #[u] w' (GivesTN w' t)):Calls Tryz.prog 99 #[v] w (GivesG TC 6 27 w l):=by
 obtain⟨A,c,rfl⟩:=h.shape
 obtain⟨-,hl2,hl3⟩:=h.le
 obtain⟨n,hn⟩:∃n,l.length=n:=⟨_,rfl⟩
 rw[hn] at h hl2 hlen ⊢
 have HK:=hid h
 have HN:=hid hn
 have HI:=hid ih
 clear h hn ih
 go_enter Tryz.func99,Tryz.ntmps99
 go_wp2_with fail
 go_loopw[3,8] (fun x i wr=>∃k:Nat,k≤n∧i=.int .i64 k∧Hid (OwnG TC 6 27 w.heap.size wr x (l.take k)∧Ext w wr)) (fun _ i _=>n-(intOf i).toNat)
 case atStart=>exact⟨0,Nat.zero_le _,rfl,OwnG.nil _ _ _,Ext.refl _⟩
 case round=>
  obtain⟨k,hk,rfl,hR⟩:=hrel
  have E:=hid hR.out.2
  obtain⟨L,hL⟩:∃L,l.take k=L:=⟨_,rfl⟩
  have hO:=hR.out.1
  rw[hL] at hO
  have HL:=hid hL
  obtain⟨ln,hln⟩:∃n,L.length=n:=⟨_,rfl⟩
  have HLK:=hid (show ln=k by rw[←hln,←hL,List.length_take,HN.out];omega)
  obtain⟨IA,ic,rfl,-,-⟩:=hO.shape
  rw[hln] at hO ⊢
  have HLN:=hid hln
  have HO:=hid hO
  clear hR hL hO hln
  rcases Nat.lt_or_ge k n with hlt|hge
  ·have hlt':(k:Int)<(n:Int):=by omega
   obtain⟨ad,t,N,nn,nc,B,d,rfl,ht,⟨c0,c1,c2,c3,c4,c5⟩,hit⟩:=(HK.out.up E.out).get hlt
   have HU:=hid ht
   have HC:=hid (fun w' (e:Ext wr w')=>HI.out k t ht _ w' (hit.up e))
   obtain⟨o1,ho1⟩:∃o,t.op=o:=⟨_,rfl⟩
   obtain⟨o2,ho2⟩:∃o,t.g=o:=⟨_,rfl⟩
   obtain⟨o3,ho3⟩:∃o,t.name=o:=⟨_,rfl⟩
   obtain⟨o4,ho4⟩:∃o,t.sort=o:=⟨_,rfl⟩
   obtain⟨o5,ho5⟩:∃o,t.kids.length=o:=⟨_,rfl⟩
   rw[ho1] at c0 HC
   rw[ho2] at c1 HC
   rw[ho3] at c3 HC
   rw[ho4] at c4 HC
   rw[ho5] at c5 HC
   have HOO:=hid (And.intro ho1 (And.intro ho2 (And.intro ho3 (And.intro ho4 ho5))))
   have EB:=hid (Ext.alloc wr (.cells #[.int .i64 o1,.bool o2,.slice N nn nc,str o3,.int .i64 o4,.slice B o5 d] 27))
   obtain⟨⟨b0,b1,b2,b3,b4,b5⟩,-,-⟩:=boxF6 (Box.new wr #[.int .i64 o1,.bool o2,.slice N nn nc,str o3,.int .i64 o4,.slice B o5 d] 27)
   clear ht hit ho1 ho2 ho3 ho4 ho5
   go_wp2_with fail
   refine(HC.out _ EB.out).mono ?_
   rintro e w3 ⟨v3,rfl,hv3,hb⟩
   obtain⟨N3,n3,c3',A3,d3,rfl,hn3,hk3⟩:=hv3
   have HT3:=hid (show TC (gp (fun b=>wr.heap.size≤b) w3) t [.int .i64 o1,.bool o2,.slice N3 n3 c3',str o3,.int .i64 o4,.slice A3 o5 d3] from by
    obtain⟨e1,e2,e3,e4,e5⟩:=HOO.out
    rw[←e1,←e2,←e3,←e4,←e5]
    exact⟨_,_,_,_,_,_,rfl,hn3.sub (gpv_mono (Nat.le_refl _) fun q _ h=>⟨by have:(wr.alloc (.cells #[.int .i64 o1,.bool o2,.slice N nn nc,str o3,.int .i64 o4,.slice B o5 d] 27)).heap.size≤q:=h;simp at this;omega,rfl⟩),hk3.sub (gpv_mono (Nat.le_refl _) fun q _ h=>⟨by have:(wr.alloc (.cells #[.int .i64 o1,.bool o2,.slice N nn nc,str o3,.int .i64 o4,.slice B o5 d] 27)).heap.size≤q:=h;simp at this;omega,rfl⟩)⟩)
   have E3:=hid (EB.out.trans hb)
   obtain⟨e1,e2,e3,e4,e5⟩:=HOO.out
   rw[e1,e2,e3,e4,e5]
   clear hb hn3 hk3 e1 e2 e3 e4 e5 c0 c1 c2 c3 c4 c5 b0 b1 b2 b3 b4 b5 HC HOO
   go_wp2_with (at_builtin;refine wpList_appG tck ttk rfl (.tmp 12) (.tmp 15) rfl (B:=w.heap.size) (l:=L) (m:=[t]) (A:=some ⟨w3.heap.size,0,none⟩) (n:=1) (c:=1) rfl rfl ?own ?src ?len ?base ?_)
   case own=>exact OwnG.up tck (HO.out.up tck E3.out) (Ext.alloc w3 _)
   case src=>exact lsrc_one (us:=[.int .i64 o1,.bool o2,.slice N3 n3 c3',str o3,.int .i64 o4,.slice A3 o5 d3]) (tck.sub HT3.out ((gp_extV (Ext.alloc w3 _)).trans (beside_new HO.out E.out.size (Nat.le_refl _)))) (Box.new w3 _ _)
   case len=>rw[HLN.out];have:=HLK.out;simp;omega
   case base=>have:=E.out.size;have:=E3.out.size;simp;omega
   intro v' w5 hO5 hB5
   have HO5:=hid hO5
   have E5:=hid (show Ext w w5 from Below.trans (B:=w.heap.size) ((E.out.trans E3.out).trans (Ext.alloc w3 _)) hB5)
   clear hO5 hB5
   go_wp2_with fail
   go_roundw
   case rel=>exact⟨k+1,by omega,by simp,by rw[List.take_add_one,HU.out,HL.out];exact HO5.out,E5.out⟩
   case measure=>simp[intOf];omega
  ·obtain rfl:k=n:=by omega
   go_wp2
   go_ret
   refine⟨_,rfl,?_,E.out⟩
   have h1:=HL.out
   rw[←HN.out,List.take_length] at h1
   rw[h1]
   exact HO.out
set_option maxHeartbeats 8000000 in
theorem ownT_n:∀(F:Nat) {t:M.Tm} {v:Value} {w:World},M.kcnt t<F→M.kcnt t≤100000→M.kfew t=true→IsTm w t v→Calls Tryz.prog 63 #[v] w (GivesTN w t)
 | 0,_,_,_,hF,_,_,_=>absurd hF (Nat.not_lt_zero _)
 | F+1,t,v,w,hF,hc,hf,ht=>by
  obtain⟨op,g,ls,nm,so,ks⟩:=t
  obtain⟨N,nn,nc,A,c,rfl,hn,hks⟩:=ht
  replace hn:LNum w (.slice N nn nc) ls:=hn
  replace hks:Tms w ks (.slice A ks.length c):=hks
  show Calls Tryz.prog 63 #[kv op g N nn nc nm so A ks.length c] w _
  have hcnt:M.kcnt (.mk op g ls nm so ks)=1+M.kcnts ks:=by rw[M.kcnt]
  rw[hcnt] at hF hc
  have hkl:=M.kcnts_len ks
  obtain⟨hf1,hf2,hf3⟩:=M.kfew_parts hf
  replace hf1:nm.length≤30:=hf1
  replace hf2:ls.length≤40:=hf2
  replace hf3:M.kfews ks=true:=hf3
  obtain⟨kn,hkn⟩:∃n,ks.length=n:=⟨_,rfl⟩
  have HT:=hid (show ∀w',Ext w w'→Calls Tryz.prog 99 #[.slice A kn c] w' (GivesG TC 6 27 w' ks) from fun w' e=>
   hkn▸ownTs_n (hks.up e) (by omega) fun k u hu uv w2 hi=>ownT_n F (by have:=M.kcnts_at hu;omega) (by have:=M.kcnts_at hu;omega) (M.kfews_at hf3 hu) hi)
  have HI:=hid (show ∀w',Ext w w'→Calls Tryz.prog 97 #[.agg #[.bool g,.slice N nn nc]] w' (GivesIN w' g ls) from fun w' e=>ownI_v (LNum.up hn e) (by omega))
  have HC:=hid (fun w'=>kclone_n nm (show nm.length≤1000000000000 by omega) w')
  have HKN:=hid hkn
  rw[hkn]
  have HB0:=hid (show Box ((w.alloc (.cells #[.int .i64 op,.bool g,.slice N nn nc,str nm,.int .i64 so,.slice A kn c] 27)).alloc (.cells zero6 27)) w.heap.size #[.int .i64 op,.bool g,.slice N nn nc,str nm,.int .i64 so,.slice A kn c] 27 from(Box.new w _ _).alloc _)
  have HB1:=hid (show Box ((w.alloc (.cells #[.int .i64 op,.bool g,.slice N nn nc,str nm,.int .i64 so,.slice A kn c] 27)).alloc (.cells zero6 27)) (w.heap.size+1) zero6 27 from Box.at_ (w:=w.alloc (.cells #[.int .i64 op,.bool g,.slice N nn nc,str nm,.int .i64 so,.slice A kn c] 27)) _ _ (by simp))
  have E0:=hid (alloc_two w (.cells #[.int .i64 op,.bool g,.slice N nn nc,str nm,.int .i64 so,.slice A kn c] 27) (.cells zero6 27))
  clear hF hc hf hn hks hcnt hkl hf1 hf2 hf3 hkn
  go_enter Tryz.func63,Tryz.ntmps63
  go_upto_region 1 with (fail)
  refine vwp_at (fun W=>Box W w.heap.size #[.int .i64 op,.bool g,.slice N nn nc,str nm,.int .i64 so,.slice A kn c] 27∧Box W (w.heap.size+1) zero6 27∧Ext w W) ⟨HB0.out,HB1.out,E0.out⟩ ?_
  clear HB0 HB1 E0
  intro W ⟨hb0,hb1,he⟩
  obtain⟨g0,hg0⟩:∃g,w.heap.size=g:=⟨_,rfl⟩
  have HG:=hid hg0
  rw[hg0] at hb0 hb1 ⊢
  have HB0:=hid hb0
  have HB1:=hid hb1
  have E:=hid he
  clear hb0 hb1 he hg0
  refine wp_region_D [(0,0),(1,0),(2,0),(3,0),(5,0),(6,0),(8,0),(9,0),(10,0),(11,0),(4,1),(7,1),(12,1),(13,0),(14,4)] fun wd hb=>?_
  replace E:=hid (E.out.trans hb)
  replace HB0:=hid (HB0.out.up hb)
  replace HB1:=hid (HB1.out.up hb)
  have HSZ:=hid HB1.out.lt
  clear hb
  refine WE.p 3 (.pointer (some ⟨g0,0,none⟩)) ?_
  simp only[pX]
  refine WE.q 4 (.int .i64 op) rfl (fun w' hk=>by have ce:=(HB0.out.up hk).k 0;go_simp) ?_
  simp only[pX]
  refine WE.p 5 (.pointer (some ⟨g0,1,none⟩)) ?_
  simp only[pX]
  refine WE.q 6 (.agg #[.bool g,.slice N nn nc]) rfl (fun w' hk=>by have c1:=(HB0.out.up hk).k 1;have c2:=(HB0.out.up hk).k 2;go_simp) ?_
  simp only[pX]
  refine WE.p 8 (.pointer (some ⟨g0,3,none⟩)) ?_
  simp only[pX]
  refine WE.q 9 (str nm) rfl (fun w' hk=>by have ce:=(HB0.out.up hk).k 3;go_simp) ?_
  simp only[pX]
  refine WE.p 11 (.pointer (some ⟨g0,4,none⟩)) ?_
  simp only[pX]
  refine WE.q 12 (.int .i64 so) rfl (fun w' hk=>by have ce:=(HB0.out.up hk).k 4;go_simp) ?_
  simp only[pX]
  refine WE.p 13 (.pointer (some ⟨g0,5,none⟩)) ?_
  simp only[pX]
  refine WE.q 14 (.slice A kn c) rfl (fun w' hk=>by have ce:=(HB0.out.up hk).k 5;go_simp) ?_
  simp only[pX]
  refine WE.c 7 ((HI.out _ E.out).mono ?_)
  rintro e w4 ⟨N1,nn1,nc1,rfl,hn1,hb⟩
  refine⟨_,rfl,hb,?_⟩
  replace E:=hid (E.out.trans hb)
  replace HB1:=hid (HB1.out.up hb)
  have HNW:=hid (show LNum (gp (fun b=>g0+2≤b) w4) (.slice N1 nn1 nc1) ls from hn1.sub (gpv_mono (Nat.le_refl _) fun b _ hp=>⟨by have h1:=HSZ.out;have h2:wd.heap.size≤b:=hp;show g0+2≤b;omega,rfl⟩))
  clear hb hn1 HI HB0
  simp only[pX]
  refine WE.c 10 ((HC.out _).mono ?_)
  rintro e w5 ⟨rfl,hb⟩
  refine⟨_,rfl,hb,?_⟩
  replace E:=hid (E.out.trans hb)
  replace HB1:=hid (HB1.out.up hb)
  replace HSZ:=hid HB1.out.lt
  replace HNW:=hid (HNW.out.sub (gp_extV hb))
  clear hb HC
  simp only[pX]
  refine WE.c 15 ((HT.out _ E.out).mono ?_)
  rintro e w6 ⟨v6,rfl,hO6,hb⟩
  refine⟨_,rfl,hb,?_⟩
  replace E:=hid (E.out.trans hb)
  replace HB1:=hid (HB1.out.up hb)
  replace HNW:=hid (HNW.out.sub (gp_extV hb))
  have HKW:=hid (show Tms (gp (fun b=>g0+2≤b) w6) ks v6 from(OwnG.terms hO6).sub (gpv_mono (Nat.le_refl _) fun b _ hp=>⟨by have h1:=HSZ.out;have h2:w5.heap.size≤b:=hp;show g0+2≤b;omega,rfl⟩))
  obtain⟨A1,c1,rfl⟩:=HKW.out.shape
  rw[HKN.out] at HKW ⊢
  clear hb hO6 HT HSZ
  simp only[pX]
  refine WE.p 16 (kv op g N1 nn1 nc1 nm so A1 kn c1) ?_
  simp only[pX]
  obtain⟨⟨r0,r1,r2,r3,r4,r5⟩,⟨f0,f1,f2,f3,f4,f5⟩,hz⟩:=boxF6 HB1.out
  refine WE.store (w':=put6 w6 (g0+1) (.int .i64 op) (.bool g) (.slice N1 nn1 nc1) (str nm) (.int .i64 so) (.slice A1 kn c1)) rfl rfl (by rfl) (by go_simp) (by simp) ?_
  refine WE.done ?_
  have hP:=put6_ext (x0:=.int .i64 op) (x1:=.bool g) (x2:=.slice N1 nn1 nc1) (x3:=str nm) (x4:=.int .i64 so) (x5:=.slice A1 kn c1) E.out (show w.heap.size≤g0+1 by rw[HG.out];omega)
  have hS:Sub (gp (fun b=>g0+2≤b) w6) (gp (fun b=>w.heap.size≤b) (put6 w6 (g0+1) (.int .i64 op) (.bool g) (.slice N1 nn1 nc1) (str nm) (.int .i64 so) (.slice A1 kn c1))):=
   gpv_mono (by simp) fun b hb hp=>⟨by rw[HG.out];have:g0+2≤b:=hp;show g0≤b;omega,put6_kept.2 b hb (by have:g0+2≤b:=hp;simp;omega)⟩
  have hB2:Box (put6 w6 (g0+1) (.int .i64 op) (.bool g) (.slice N1 nn1 nc1) (str nm) (.int .i64 so) (.slice A1 kn c1)) (g0+1) #[.int .i64 op,.bool g,.slice N1 nn1 nc1,str nm,.int .i64 so,.slice A1 kn c1] 27:=(((((HB1.out.setAt 0 _).setAt 1 _).setAt 2 _).setAt 3 _).setAt 4 _).setAt 5 _
  have HP:=hid (And.intro hP (And.intro (HNW.out.sub hS) (HKW.out.sub hS)))
  obtain⟨W3,hW3⟩:∃W3,W3=put6 w6 (g0+1) (.int .i64 op) (.bool g) (.slice N1 nn1 nc1) (str nm) (.int .i64 so) (.slice A1 kn c1):=⟨_,rfl⟩
  rw[←hW3] at HP hB2 ⊢
  clear hW3 r0 r1 r2 r3 r4 r5 f0 f1 f2 f3 f4 f5 hz hP hS
  obtain⟨⟨r0,r1,r2,r3,r4,r5⟩,-,hz⟩:=boxF6 hB2
  go_wp2_with fail
  refine bodyPost_ret (v:=kv op g N1 nn1 nc1 nm so A1 kn c1) (by simp[results,Tryz.results63,go_sem,r0,r1,r2,r3,r4,r5,hz]) rfl ?_
  exact⟨_,rfl,⟨N1,nn1,nc1,A1,c1,by rw[←HKN.out];rfl,HP.out.2.1,by rw[←HKN.out] at HP;exact HP.out.2.2⟩,HP.out.1⟩
end Go.Proofs.YtoenjbkmiphhoaaGreatDoor.Q
