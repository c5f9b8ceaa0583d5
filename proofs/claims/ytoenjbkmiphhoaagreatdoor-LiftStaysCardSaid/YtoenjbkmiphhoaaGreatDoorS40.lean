/-
  Package lift: size.
-/
import Derived.Test.YtoenjbkmiphhoaaGreatDoorS39
namespace Go.Proofs.YtoenjbkmiphhoaaGreatDoor.Q
set_option linter.unusedSimpArgs false
set_option linter.unusedVariables false
open Go.RowKit
set_option maxHeartbeats 32000000 in
set_option maxRecDepth 20000 in
theorem size_l {W:World}{g:Nat}{hv cv:Value}{xs:List Value}{st:M.LS}{w:World}{t:M.Tm}{v:Value}(h:LSt W g hv cv xs st w)(ht:IsTm (gp (qt g (hv::cv::xs)) w) t v)(hk:t.kids.length=1)(hf:M.kfews t.kids=true)
 (hnx:-9000000000000000000≤st.next∧st.next≤9000000000000000000) (hlen:st.held.length≤800000∧st.cons.length≤800000) :
 Calls Tryz.prog 95 #[.pointer (some ⟨g,0,none⟩),v] w (GivesL W g hv cv xs (M.frT st.next 2) (M.sizeL t st) w):=by
 have HQ:=hid ht
 obtain⟨N,nn,nc,A,c,rfl,hn,hks⟩:=ht
 rw[hk] at hks ⊢
 obtain⟨ad,jN,jn,jm,jA,jd,rfl,⟨kj0,kj1,kj2,kj3,kj4,kj5⟩,hkj⟩:=hks.at0 (by omega)
 obtain⟨tj,htj⟩:∃n,M.kat t.kids 0=n:=⟨_,rfl⟩
 have HNj:=hid htj
 have HFj:=hid (show M.kfew tj=true from by rw[←htj];exact kfews_kat hf (by omega))
 rw[htj] at kj0 kj1 kj3 kj4 kj5 hkj
 obtain⟨j1,hj1⟩:∃o,tj.op=o:=⟨_,rfl⟩
 obtain⟨j2,hj2⟩:∃o,tj.g=o:=⟨_,rfl⟩
 obtain⟨j3,hj3⟩:∃o,tj.name=o:=⟨_,rfl⟩
 obtain⟨j4,hj4⟩:∃o,tj.sort=o:=⟨_,rfl⟩
 obtain⟨j5,hj5⟩:∃o,tj.kids.length=o:=⟨_,rfl⟩
 rw[hj1] at kj0 hkj
 rw[hj2] at kj1 hkj
 rw[hj3] at kj3 hkj
 rw[hj4] at kj4 hkj
 rw[hj5] at kj5 hkj
 have HKj:=hid (And.intro kj0 (And.intro kj1 (And.intro kj2 (And.intro kj3 (And.intro kj4 kj5)))))
 have HKTj:=hid hkj
 obtain⟨o1,ho1⟩:∃o,t.op=o:=⟨_,rfl⟩
 obtain⟨o2,ho2⟩:∃o,t.g=o:=⟨_,rfl⟩
 obtain⟨o3,ho3⟩:∃o,t.name=o:=⟨_,rfl⟩
 obtain⟨o4,ho4⟩:∃o,t.sort=o:=⟨_,rfl⟩
 rw[ho1,ho2,ho3,ho4,hk] at HQ
 rw[ho1,ho2,ho3,ho4]
 have HNX:=hid hnx
 have HLEN:=hid hlen
 have HL:=hid h
 have HB0:=hid (show Box ((w.alloc (.cells #[.int .i64 o1,.bool o2,.slice N nn nc,str o3,.int .i64 o4,.slice (some ad) 1 c] 27)).alloc (.cells zero6 27)) w.heap.size #[.int .i64 o1,.bool o2,.slice N nn nc,str o3,.int .i64 o4,.slice (some ad) 1 c] 27 from(Box.new w _ _).alloc _)
 have HB1:=hid (show Box ((w.alloc (.cells #[.int .i64 o1,.bool o2,.slice N nn nc,str o3,.int .i64 o4,.slice (some ad) 1 c] 27)).alloc (.cells zero6 27)) (w.heap.size+1) zero6 27 from Box.at_ (w:=w.alloc (.cells #[.int .i64 o1,.bool o2,.slice N nn nc,str o3,.int .i64 o4,.slice (some ad) 1 c] 27)) _ _ (by simp))
 have E0:=hid (alloc_two w (.cells #[.int .i64 o1,.bool o2,.slice N nn nc,str o3,.int .i64 o4,.slice (some ad) 1 c] 27) (.cells zero6 27))
 clear h hn hks hnx hlen ho1 ho2 ho3 ho4 hf hk kj0 kj1 kj2 kj3 kj4 kj5 hkj htj hj1 hj2 hj3 hj4 hj5
 go_enter Tryz.func95,Tryz.ntmps95
 go_upto_region 1 with (fail)
 refine vwp_at (fun W'=>Box W' w.heap.size #[.int .i64 o1,.bool o2,.slice N nn nc,str o3,.int .i64 o4,.slice (some ad) 1 c] 27∧Box W' (w.heap.size+1) zero6 27∧Ext w W'∧W'.heap.size=w.heap.size+2) ⟨HB0.out,HB1.out,E0.out,by simp⟩ ?_
 clear HB0 HB1 E0
 intro W1 ⟨hb0,hb1,he,hsz⟩
 obtain⟨g0,hg0⟩:∃g,w.heap.size=g:=⟨_,rfl⟩
 have HG:=hid hg0
 rw[hg0] at hb0 hb1 hsz ⊢
 have HB0:=hid hb0
 have HB1:=hid hb1
 have E:=hid he
 have HSZ0:=hid hsz
 clear hb0 hb1 he hg0 hsz
 have HSB:=hid (show w.heap.size≤W1.heap.size from E.out.size)
 obtain⟨xs1,hxs1⟩:∃l,fence g0 W1.heap.size++xs=l:=⟨_,rfl⟩
 have HXS:=hid hxs1
 have HLF:=hid (show LSt W g hv cv xs1 st W1 from hxs1▸HL.out.fence E.out (B:=g0) (N:=W1.heap.size) (Nat.le_of_eq HG.out) (Nat.le_refl _))
 have HFS:=hid (show Sub (gp (qt g (hv::cv::xs)) w) (gp (qt g (hv::cv::xs1)) W1) from hxs1▸fence_sub (vs:=[hv,cv]) (xs:=xs) E.out (Nat.le_of_eq HG.out))
 clear hxs1
 have HX:=hid (show ∀x∈bls g [hv,cv],x<W1.heap.size from fun x hx=>Nat.lt_of_lt_of_le (hx_bls HL.out x hx) E.out.size)
 refine wp_region_M (Kept (bls g [hv,cv])) (KeptB W1.heap.size (bls g [hv,cv])) (relB _ HX.out) (fun _ k=>.pointer (some ⟨k,0,none⟩))
  [(0,0),(1,0),(3,5),(4,5),(5,5),(6,5),(2,2),(7,2),(8,2),(9,3),(10,3),(11,3),(12,4),(13,4),(14,4)] 27 zero6 (fun wd hb=>?_) (by
   intro j hj
   simp[pend] at hj
   rcases hj with rfl|rfl|rfl<;>exact⟨_,rfl,rfl,fun a w=>by go_simp⟩)
 have EW:=hid (E.out.trans hb)
 have HBd:=hid (HB0.out.up hb)
 have HNB:=hid (show g0∉bls g [hv,cv] from bls_not.2 (HL.out.low.new (Nat.le_of_eq HG.out) |> fun q=>⟨q.1,fun v hv2=>q.2 v (by simp at hv2;rcases hv2 with rfl|rfl<;>simp)⟩))
 refine WM.p 8 (.pointer (some ⟨g,0,none⟩)) ?_
 simp only[pX]
 refine WM.q 9 (kv o1 o2 N nn nc o3 o4 (some ad) 1 c) rfl (fun w' hk=>by obtain⟨⟨x0,x1,x2,x3,x4,x5⟩,-,-⟩:=boxF6 (HBd.out.kept hk HNB.out);go_simp) ?_
 simp only[pX]
 refine WM.y 11 (.pointer (some ⟨g0,5,none⟩)) ?_ (hy:=fun w' hk=>by go_simp)
 simp only[pX]
 refine WM.y 12 (.slice (some ad) 1 c) ?_ (hy:=fun w' hk=>by have x5:=(HBd.out.keptX hk HB0.out.lt HNB.out).k 5;go_simp)
 simp only[pX]
 refine WM.y 13 (.pointer (some ad)) ?_ (hy:=fun w' hk=>by go_simp)
 simp only[pX]
 refine WM.y 14 (kv j1 j2 jN jn jm j3 j4 jA j5 jd) ?_ (hy:=fun w' hk=>by
  have x0:=quiet_cell HKj.out.1 EW.out HSB.out hk
  have x1:=quiet_cell HKj.out.2.1 EW.out HSB.out hk
  have x2:=quiet_cell HKj.out.2.2.1 EW.out HSB.out hk
  have x3:=quiet_cell HKj.out.2.2.2.1 EW.out HSB.out hk
  have x4:=quiet_cell HKj.out.2.2.2.2.1 EW.out HSB.out hk
  have x5:=quiet_cell HKj.out.2.2.2.2.2 EW.out HSB.out hk
  go_simp)
 simp only[pX]
 clear HBd HNB HKj
 refine WM.callR (d:=some 10) (f:=135) (args:=#[.pointer (some ⟨g,0,none⟩),kv o1 o2 N nn nc o3 o4 (some ad) 1 c]) rfl rfl (by rfl) (fun w=>by go_simp) (fun w1 hE=>?_)
 have hE1:=EW.out.trans hE
 have hE2:=hb.trans hE
 refine(constant_l (HLF.out.fence hE2 (B:=W1.heap.size) (N:=w1.heap.size) (Nat.le_refl _) (Nat.le_refl _)) ((HQ.out.sub HFS.out).sub (fence_sub (vs:=[hv,cv]) (xs:=xs1) hE2 (Nat.le_refl _))) HNX.out (by have:=HLEN.out.2;omega)).mono ?_
 rintro e w9 ⟨u,cv',rfl,hs9,hu9,ht9⟩
 refine⟨_,rfl,ht9.kept,?_⟩
 have H9:=hid hs9
 have HT9:=hid (show Turn W.heap.size g [hv,cv] w [hv,cv'] w9 from(Turn.ext HL.out.ext.size hE1).trans ht9)
 have HN9j:=hid (show IsTm (gp (qt g (hv::cv'::(fence W1.heap.size w1.heap.size++xs1))) w9) tj (kv j1 j2 jN jn jm j3 j4 jA j5 jd) from((HKTj.out.sub HFS.out).sub (fence_sub (vs:=[hv,cv]) (xs:=xs1) hE2 (Nat.le_refl _))).sub (ht9.sub (fence W1.heap.size w1.heap.size++xs1)))
 have HQF:=hid (show ∀k,w.heap.size≤k→k<w1.heap.size→qt g [hv,cv'] k from fun k h1 h2=>(ht9.2 k h2 (HL.out.low.new h1 |> fun q=>⟨q.1,fun v hv2=>q.2 v (by simp at hv2;rcases hv2 with rfl|rfl<;>simp)⟩)).1)
 have HR9:=hid (show Box w9 (g0+1) zero6 27 from(HB1.out.up hE2).kept ht9.kept (bls_not.2 (HL.out.low.new (k:=g0+1) (by have:=HG.out;omega) |> fun q=>⟨q.1,fun v hv2=>q.2 v (by simp at hv2;rcases hv2 with rfl|rfl<;>simp)⟩)))
 have HSZ:=hid (show W1.heap.size≤w1.heap.size∧w1.heap.size≤w9.heap.size∧g0+1<W1.heap.size∧g<w.heap.size from⟨hE2.size,ht9.size,HB1.out.lt,HL.out.low.1.2⟩)
 obtain⟨tv,htv⟩:∃V0,M.frT st.next 2=V0:=⟨_,rfl⟩
 rw[htv] at hu9
 have HV0:=hid htv
 have HVB:=hid (show tv.ls=[]∧tv.kids=[]∧M.kfew tv=true from by rw[←htv];exact⟨rfl,rfl,M.frT_few (by have:=HNX.out;omega)⟩)
 have HFv:=hid HVB.out.2.2
 obtain⟨v1,v2,vN,vn,vm,v3,v4,vA,v5,vd,rfl⟩:=hu9.kvs
 have HUv:=hid (show ∀w',IsTm w' tv (kv v1 v2 vN vn vm v3 v4 vA v5 vd) from fun w'=>hu9.any HVB.out.1 HVB.out.2.1)
 clear hs9 ht9 hu9 hE1 hE2 htv
 simp only[pX]
 refine WM.callR (d:=some 15) (f:=39) (args:=#[.int .i64 0]) rfl rfl (by rfl) (fun w=>by go_simp) (fun w2 hE2=>?_)
 refine(of_z (n:=0) (by decide) (by decide) _).mono ?_
 rintro e w3 ⟨z1,rfl,hz1,hx3⟩
 refine⟨_,rfl,hx3.kept _,?_⟩
 have HZ1:=hid (show Worth w3 z1 0 3 from hz1.worth)
 have E3:=hid (hE2.trans hx3)
 obtain⟨yA,yn,yc,rfl,-,-⟩:=hz1
 obtain⟨zb,hzb⟩:∃b,decide ((0:Int)<0)=b:=⟨_,rfl⟩
 rw[hzb] at HZ1 ⊢
 clear hx3 hE2 hzb
 simp only[pX]
 refine WM.callR (d:=some 16) (f:=136) (args:=#[.agg #[.bool zb,.slice yA yn yc]]) rfl rfl (by rfl) (fun w=>by go_simp) (fun w4 hE4=>?_)
 refine(num_t (worth_up HZ1.out hE4) (by decide)).mono ?_
 rintro e w5 ⟨u5,rfl,hu5,hx5⟩
 refine⟨_,rfl,hx5.kept _,?_⟩
 have E5:=hid ((E3.out.trans hE4).trans hx5)
 obtain⟨tz,htz⟩:∃z,M.knumT 0=z:=⟨_,rfl⟩
 rw[htz] at hu5
 have HZ0:=hid htz
 have HZB:=hid (show tz.ls=[]∧tz.kids=[]∧M.kfew tz=true from by rw[←htz];exact⟨by decide +kernel,rfl,M.knum0_few⟩)
 have HFz:=hid HZB.out.2.2
 obtain⟨z1,z2,zN,zn,zm,z3,z4,zA,z5,zd,rfl⟩:=hu5.kvs
 have HUz:=hid (show ∀w',IsTm w' tz (kv z1 z2 zN zn zm z3 z4 zA z5 zd) from fun w'=>hu5.any HZB.out.1 HZB.out.2.1)
 clear hu5 hE4 hx5 htz E3 HZ1
 simp only[pX]
 refine WM.var (d:=some 5) rfl (fun gv wv0 he0 hbv hBv hGv=>?_)
 have Hv:=hid (show W1.heap.size≤gv∧¬(w1.heap.size≤gv∧gv<w9.heap.size) from⟨hBv,fun h=>hGv (.inl (.inl (.inr h)))⟩)
 replace hbv:Box wv0 gv zero6 27:=hbv
 simp only[pX]
 refine WM.var (d:=some 6) rfl (fun gj wv1 he1 hbj hBj hGj=>?_)
 have Hj:=hid (show W1.heap.size≤gj∧¬(w1.heap.size≤gj∧gj<w9.heap.size)∧gj≠gv from⟨hBj,fun h=>hGj (.inr (.inl (.inl (.inr h)))),fun h=>hGj (.inl h)⟩)
 replace hbj:Box wv1 gj zero6 27:=hbj
 simp only[pX]
 refine WM.var (d:=some 7) rfl (fun gz wv2 he2 hbz hBz hGz=>?_)
 have Hz:=hid (show W1.heap.size≤gz∧¬(w1.heap.size≤gz∧gz<w9.heap.size)∧gz≠gv∧gz≠gj from⟨hBz,fun h=>hGz (.inr (.inr (.inl (.inl (.inr h))))),fun h=>hGz (.inr (.inl h)),fun h=>hGz (.inl h)⟩)
 replace hbz:Box wv2 gz zero6 27:=hbz
 simp only[pX]
 have HBv:=hid (hbv.up (he1.trans he2))
 have HBj:=hid (hbj.up he2)
 have HBz:=hid (hbz)
 have E8:=hid (E5.out.trans ((he0.trans he1).trans he2))
 clear he0 he1 he2 hbv hBv hGv hbj hBj hGj hbz hBz hGz E5
 obtain⟨⟨r0,r1,r2,r3,r4,r5⟩,⟨f0,f1,f2,f3,f4,f5⟩,hz⟩:=boxF6 HBv.out
 refine WM.store (w':=put6 wv2 gv (.int .i64 v1) (.bool v2) (.slice vN vn vm) (str v3) (.int .i64 v4) (.slice vA v5 vd)) rfl rfl (by rfl) (by go_simp) (put6_keptB Hv.out.1) ?_
 clear r0 r1 r2 r3 r4 r5 f0 f1 f2 f3 f4 f5 hz
 obtain⟨ws0,hw⟩:∃x,put6 wv2 gv (.int .i64 v1) (.bool v2) (.slice vN vn vm) (str v3) (.int .i64 v4) (.slice vA v5 vd)=x:=⟨_,rfl⟩
 replace HBv:=hid (show Box ws0 gv #[.int .i64 v1,.bool v2,.slice vN vn vm,str v3,.int .i64 v4,.slice vA v5 vd] 27 from hw▸(((((HBv.out.setAt 0 _).setAt 1 _).setAt 2 _).setAt 3 _).setAt 4 _).setAt 5 _)
 have HS0:=hid (show Kept [gv] wv2 ws0 from hw▸put6_kept)
 rw[hw]
 clear hw
 replace HBj:=hid (HBj.out.kept HS0.out (by simpa using Hj.out.2.2))
 replace HBz:=hid (HBz.out.kept HS0.out (by simpa using Hz.out.2.2.1))
 obtain⟨⟨r0,r1,r2,r3,r4,r5⟩,⟨f0,f1,f2,f3,f4,f5⟩,hz⟩:=boxF6 HBj.out
 refine WM.store (w':=put6 ws0 gj (.int .i64 j1) (.bool j2) (.slice jN jn jm) (str j3) (.int .i64 j4) (.slice jA j5 jd)) rfl rfl (by rfl) (by go_simp) (put6_keptB Hj.out.1) ?_
 clear r0 r1 r2 r3 r4 r5 f0 f1 f2 f3 f4 f5 hz
 obtain⟨ws1,hw⟩:∃x,put6 ws0 gj (.int .i64 j1) (.bool j2) (.slice jN jn jm) (str j3) (.int .i64 j4) (.slice jA j5 jd)=x:=⟨_,rfl⟩
 replace HBj:=hid (show Box ws1 gj #[.int .i64 j1,.bool j2,.slice jN jn jm,str j3,.int .i64 j4,.slice jA j5 jd] 27 from hw▸(((((HBj.out.setAt 0 _).setAt 1 _).setAt 2 _).setAt 3 _).setAt 4 _).setAt 5 _)
 have HS1:=hid (show Kept [gj] ws0 ws1 from hw▸put6_kept)
 rw[hw]
 clear hw
 replace HBv:=hid (HBv.out.kept HS1.out (by simpa using Ne.symm Hj.out.2.2))
 replace HBz:=hid (HBz.out.kept HS1.out (by simpa using Hz.out.2.2.2))
 obtain⟨⟨r0,r1,r2,r3,r4,r5⟩,⟨f0,f1,f2,f3,f4,f5⟩,hz⟩:=boxF6 HBz.out
 refine WM.store (w':=put6 ws1 gz (.int .i64 z1) (.bool z2) (.slice zN zn zm) (str z3) (.int .i64 z4) (.slice zA z5 zd)) rfl rfl (by rfl) (by go_simp) (put6_keptB Hz.out.1) ?_
 clear r0 r1 r2 r3 r4 r5 f0 f1 f2 f3 f4 f5 hz
 obtain⟨ws2,hw⟩:∃x,put6 ws1 gz (.int .i64 z1) (.bool z2) (.slice zN zn zm) (str z3) (.int .i64 z4) (.slice zA z5 zd)=x:=⟨_,rfl⟩
 replace HBz:=hid (show Box ws2 gz #[.int .i64 z1,.bool z2,.slice zN zn zm,str z3,.int .i64 z4,.slice zA z5 zd] 27 from hw▸(((((HBz.out.setAt 0 _).setAt 1 _).setAt 2 _).setAt 3 _).setAt 4 _).setAt 5 _)
 have HS2:=hid (show Kept [gz] ws1 ws2 from hw▸put6_kept)
 rw[hw]
 clear hw
 replace HBv:=hid (HBv.out.kept HS2.out (by simpa using Ne.symm Hz.out.2.2.1))
 replace HBj:=hid (HBj.out.kept HS2.out (by simpa using Ne.symm Hz.out.2.2.2))
 refine WM.done ?_
 have HK:=hid (show Kept [gv,gj,gz] wv2 ws2 from(((HS0.out.more (by simp)).trans (HS1.out.more (by simp))).trans (HS2.out.more (by simp))))
 have HOLD:=hid (show ∀k,k<w9.heap.size→¬(W1.heap.size≤k∧k<w1.heap.size)→ws2.heap[k]?=w9.heap[k]? from fun k hk hk2=>(HK.out.2 k (Nat.lt_of_lt_of_le hk E8.out.size) (by
  have hv:=Hv.out
  have hj:=Hj.out
  have hz:=Hz.out
  simp
  omega)).trans (E8.out.block k hk))
 have HBE:=hid (show Below 0 w9 ws2 from(Below.mono E8.out (Nat.zero_le _)).trans HK.out.1)
 have HS:=hid (show LSt W g hv cv' xs1 (M.lfNew t st) ws2 from H9.out.unfence HBE.out HOLD.out (Nat.le_trans HL.out.ext.size HSB.out) fun k h1 h2=>HQF.out k (Nat.le_trans HSB.out h1) h2)
 have HSUB:=hid (show Sub (gp (qt g (hv::cv'::(fence W1.heap.size w1.heap.size++xs1))) w9) (gp (qt g (hv::cv'::xs1)) ws2) from fence_out (vs:=[hv,cv']) (xs:=xs1) HBE.out.size fun k h1 _ h3=>HOLD.out k h1 h3)
 have HTj:=hid (show IsTm (gp (qt g (hv::cv'::xs1)) ws2) tj (kv j1 j2 jN jn jm j3 j4 jA j5 jd) from HN9j.out.sub HSUB.out)
 have HTv:=hid (HUv.out (gp (qt g (hv::cv'::xs1)) ws2))
 have HTz:=hid (HUz.out (gp (qt g (hv::cv'::xs1)) ws2))
 have HTc:=hid (show Turn W.heap.size g [hv,cv] w [hv,cv'] ws2 from⟨Below.trans HT9.out.1 ⟨HBE.out.os,HBE.out.tape,HBE.out.output,HBE.out.size,fun k hk=>HOLD.out k (Nat.lt_of_lt_of_le hk H9.out.ext.size) (by have:=HL.out.ext.size;have:=HSB.out;omega)⟩,fun k hk hq=>by
  obtain⟨a1,a2⟩:=HT9.out.2 k hk hq
  exact⟨a1,(HOLD.out k (Nat.lt_of_lt_of_le hk HT9.out.size) (by have:=HSB.out;omega)).trans a2⟩⟩)
 have HR:=hid (show Box ws2 (g0+1) zero6 27 from(HOLD.out (g0+1) HR9.out.lt (by have:=HSZ.out;omega)).trans HR9.out)
 have HQr:=hid (show qt g [hv,cv'] (g0+1) from HQF.out _ (by have:=HG.out;omega) (by have:=HSZ.out;omega))
 have hqb:∀k,W1.heap.size≤k→¬(w1.heap.size≤k∧k<w9.heap.size)→qt g (hv::cv'::xs1) k:=fun k h1 h2=>by
  by_cases h3:k<w1.heap.size
  ·obtain⟨a1,a2⟩:=HQF.out k (Nat.le_trans HSB.out h1) h3
   refine⟨a1,fun v hv2=>?_⟩
   simp only[List.mem_cons] at hv2
   rcases hv2 with rfl|rfl|hv2
   ·exact a2 _ (by simp)
   ·exact a2 _ (by simp)
   ·exact(HLF.out.low.new h1).2 v (by simp[hv2])
  ·have h4:=H9.out.low.new (k:=k) (by omega)
   exact⟨h4.1,fun v hv2=>h4.2 v (by simp only[List.mem_cons,List.mem_append] at hv2 ⊢;rcases hv2 with h|h|h<;>simp[h])⟩
 have HQv:=hid (hqb gv Hv.out.1 Hv.out.2)
 have HQj:=hid (hqb gj Hj.out.1 Hj.out.2.1)
 have HQz:=hid (hqb gz Hz.out.1 Hz.out.2.1)
 have HGE:=hid (show g0=w.heap.size∧W1.heap.size=g0+2∧W.heap.size≤w.heap.size∧W1.heap.size≤w9.heap.size from⟨HG.out.symm,HSZ0.out,HL.out.ext.size,Nat.le_trans HSZ.out.1 HSZ.out.2.1⟩)
 have HQ2:=hid (show qt g [hv,cv'] g0 from HQF.out _ (Nat.le_of_eq HG.out) (by have:=HSZ.out;omega))
 clear hqb
 obtain⟨s0,hs0⟩:∃s,M.lfNew t st=s:=⟨_,rfl⟩
 have HS0q:=hid hs0
 have HLN:=hid (show s0.held.length≤800000 from by rw[←hs0];exact HLEN.out.1)
 rw[hs0] at HS
 have HBG:=hid HS.out.low.1.1
 have HWE:=hid HS.out.ext.size
 clear hs0 HOLD HBE HSUB HT9 HR9 H9 HQF E8 HL HLF HFS HB0 HB1 EW HX E HK HSZ HSB HG HSZ0 HNX HLEN HVB HQ Hv Hj Hz HS0 HS1 HS2 HN9j HKTj HZB
 -- region 2
 go_upto_region 2 with (fail)
 have HX:=hid (hx_bls HS.out)
 have HQX:=hid (show ∀k,qt g (hv::cv'::xs1) k→k∉bls g [hv,cv'] from fun k hq=>bls_not.2 ⟨hq.1,fun v hv2=>hq.2 v (by simp at hv2;rcases hv2 with rfl|rfl<;>simp)⟩)
 refine wp_region_M (Kept (bls g [hv,cv'])) (KeptB ws2.heap.size (bls g [hv,cv'])) (relB _ HX.out) (fun _ k=>.pointer (some ⟨k,0,none⟩))
  [(0,0),(1,0),(2,0),(3,0),(6,0),(7,0),(8,0),(4,8),(5,9),(9,10),(10,1),(11,1),(12,1)] 27 zero6 (fun wd hb=>?_) (by
   intro j hj
   simp[pend] at hj)
 have HDv:=hid (HBv.out.up hb)
 have HDj:=hid (HBj.out.up hb)
 have HDz:=hid (HBz.out.up hb)
 refine WM.p 17 (.pointer (some ⟨g,0,none⟩)) ?_
 simp only[pX]
 refine WM.p 18 (.pointer (some ⟨g,0,none⟩)) ?_
 simp only[pX]
 refine WM.q 19 (kv j1 j2 jN jn jm j3 j4 jA j5 jd) rfl (fun w' hk=>by obtain⟨⟨x0,x1,x2,x3,x4,x5⟩,-,-⟩:=boxF6 (HDj.out.kept hk (HQX.out _ HQj.out));go_simp) ?_
 simp only[pX]
 refine WM.q 20 (kv z1 z2 zN zn zm z3 z4 zA z5 zd) rfl (fun w' hk=>by obtain⟨⟨x0,x1,x2,x3,x4,x5⟩,-,-⟩:=boxF6 (HDz.out.kept hk (HQX.out _ HQz.out));go_simp) ?_
 simp only[pX]
 refine WM.p 23 (.pointer (some ⟨g,0,none⟩)) ?_
 simp only[pX]
 refine WM.q 24 (kv v1 v2 vN vn vm v3 v4 vA v5 vd) rfl (fun w' hk=>by obtain⟨⟨x0,x1,x2,x3,x4,x5⟩,-,-⟩:=boxF6 (HDv.out.kept hk (HQX.out _ HQv.out));go_simp) ?_
 simp only[pX]
 refine WM.q 25 (kv j1 j2 jN jn jm j3 j4 jA j5 jd) rfl (fun w' hk=>by obtain⟨⟨x0,x1,x2,x3,x4,x5⟩,-,-⟩:=boxF6 (HDj.out.kept hk (HQX.out _ HQj.out));go_simp) ?_
 simp only[pX]
 clear HDv HDj HDz
 refine WM.three (di:=21) (dc:=22) (dm:=26) (vi:=fun k=>.slice (some ⟨k,0,none⟩) 2 2) (vm:=fun k=>.slice (some ⟨k,0,none⟩) 2 2) (Ti:=27) (Tm:=27)
  (ci:=#[.int .i64 j1,.bool j2,.slice jN jn jm,str j3,.int .i64 j4,.slice jA j5 jd,.int .i64 z1,.bool z2,.slice zN zn zm,str z3,.int .i64 z4,.slice zA z5 zd])
  (cm:=#[.int .i64 v1,.bool v2,.slice vN vn vm,str v3,.int .i64 v4,.slice vA v5 vd,.int .i64 j1,.bool j2,.slice jN jn jm,str j3,.int .i64 j4,.slice jA j5 jd])
  (f:=138) (args:=fun k=>#[.pointer (some ⟨g,0,none⟩),.int .i64 20,.slice (some ⟨k,0,none⟩) 2 2])
  (F:=fun u gi w'=>LSt W g hv cv' xs1 (M.lfOf 20 [tj,tz] s0) w'∧IsTm (gp (qt g (hv::cv'::xs1)) w') (M.ofT 20 [tj,tz] s0.ref).1 u∧Kept [g] ws2 w')
  (relB _ HX.out) hb.size rfl rfl rfl rfl rfl rfl rfl rfl rfl ⟨by decide,by decide⟩
  (fun w=>by go_simp) (fun v w=>by go_simp) (fun w=>by go_simp) (fun v w=>by go_simp) (fun v u w=>by go_simp) (fun k w=>by go_simp) (fun k v w=>by go_simp) ?call2 ?stable2 ?tail2
 case call2=>
  intro w1' gi he hbx _
  have e1:=hb.trans he
  refine(of_l (HS.out.up e1) (tms_two ((HTj.out.qk (e1.kept _)).sub (gp_sub _ _)) ((HTz.out.qk (e1.kept _)).sub (gp_sub _ _)) hbx) (by simp only[M.kfews,HFj.out,HFz.out,Bool.and_true,Bool.true_and])).mono ?_
  rintro e w' ⟨u,rfl,hs,hu,hk⟩
  exact⟨u,rfl,hk.more (by intro k hk;simp at hk;subst hk;simp[bls]),hs,hu,(e1.kept _).trans hk⟩
 case stable2=>
  intro u gi w1' w2' he ⟨hs,hu,hk⟩
  exact⟨hs.up he,hu.sub (gp_extV he),hk.trans (he.kept _)⟩
 case tail2=>
  intro u gi gm w2t ⟨hs,hu,hk⟩ hbx hgm
  simp only[pX]
  have HKC:=hid hk
  have HBM:=hid hbx
  replace HTv:=hid (HTv.out.qk hk)
  replace HTj:=hid (HTj.out.qk hk)
  replace HTz:=hid (HTz.out.qk hk)
  obtain⟨a1,a2,aN,an,am,a3,a4,aA,a5,ad,rfl⟩:=hu.kvs
  obtain⟨ta,hta⟩:∃y,(M.ofT 20 [tj,tz] s0.ref).1=y:=⟨_,rfl⟩
  have HFa:=hid (show M.kfew ta=true from hta▸M.ofT_few (by simp only[M.kfews,HFj.out,HFz.out,Bool.and_true,Bool.true_and]))
  have HYa:=hid hta
  obtain⟨s1x,hns⟩:∃s,M.lfOf 20 [tj,tz] s0=s:=⟨_,rfl⟩
  have HYs1x:=hid hns
  have HLs1x:=hid (show s1x.held=s0.held from hns▸rfl)
  rw[hns] at hs
  rw[hta] at hu
  replace HS:=hid hs
  have HTa:=hid hu
  clear hs hu hk hbx hgm hta hns
  refine WM.call (d:=some 27) (f:=138) (args:=#[.pointer (some ⟨g,0,none⟩),.int .i64 10,.slice (some ⟨gm,0,none⟩) 2 2]) rfl rfl (by rfl) (by go_simp) ?_
  refine(of_l HS.out (tms_two ((HTv.out).sub (gp_sub _ _)) ((HTj.out).sub (gp_sub _ _)) HBM.out) (by simp only[M.kfews,HFv.out,HFj.out,Bool.and_true,Bool.true_and])).mono ?_
  rintro e w2_10 ⟨u,rfl,hs,hu,hk⟩
  refine⟨_,rfl,hk.more (by intro k hk;simp at hk;subst hk;simp[bls]),?_⟩
  replace HKC:=hid (HKC.out.trans hk)
  replace HTv:=hid (HTv.out.qk hk)
  replace HTj:=hid (HTj.out.qk hk)
  replace HTz:=hid (HTz.out.qk hk)
  replace HTa:=hid (HTa.out.qk hk)
  obtain⟨b1,b2,bN,bn,bm,b3,b4,bA,b5,bd,rfl⟩:=hu.kvs
  obtain⟨tb,htb⟩:∃y,(M.ofT 10 [tv,tj] s1x.ref).1=y:=⟨_,rfl⟩
  have HFb:=hid (show M.kfew tb=true from htb▸M.ofT_few (by simp only[M.kfews,HFv.out,HFj.out,Bool.and_true,Bool.true_and]))
  have HYb:=hid htb
  obtain⟨s2x,hns⟩:∃s,M.lfOf 10 [tv,tj] s1x=s:=⟨_,rfl⟩
  have HYs2x:=hid hns
  have HLs2x:=hid (show s2x.held=s1x.held from hns▸rfl)
  rw[hns] at hs
  rw[htb] at hu
  replace HS:=hid hs
  have HTb:=hid hu
  clear hs hu hk htb hns
  simp only[pX]
  refine WM.act (d:=some 28) (v:=.slice (some ⟨w2_10.heap.size,0,none⟩) 2 2) (w':=w2_10.alloc (.cells #[.int .i64 a1,.bool a2,.slice aN an am,str a3,.int .i64 a4,.slice aA a5 ad,.int .i64 b1,.bool b2,.slice bN bn bm,str b3,.int .i64 b4,.slice bA b5 bd] 27)) rfl rfl (by rfl) (by go_simp) ((Ext.alloc _ _).kept _) ?_
  replace HBM:=hid (Box.new w2_10 #[.int .i64 a1,.bool a2,.slice aN an am,str a3,.int .i64 a4,.slice aA a5 ad,.int .i64 b1,.bool b2,.slice bN bn bm,str b3,.int .i64 b4,.slice bA b5 bd] 27)
  have hx:Ext w2_10 (w2_10.alloc (.cells #[.int .i64 a1,.bool a2,.slice aN an am,str a3,.int .i64 a4,.slice aA a5 ad,.int .i64 b1,.bool b2,.slice bN bn bm,str b3,.int .i64 b4,.slice bA b5 bd] 27)):=Ext.alloc _ _
  obtain⟨gm11,hgm⟩:∃k,w2_10.heap.size=k:=⟨_,rfl⟩
  obtain⟨w2_11,hnw⟩:∃x,w2_10.alloc (.cells #[.int .i64 a1,.bool a2,.slice aN an am,str a3,.int .i64 a4,.slice aA a5 ad,.int .i64 b1,.bool b2,.slice bN bn bm,str b3,.int .i64 b4,.slice bA b5 bd] 27)=x:=⟨_,rfl⟩
  rw[hnw] at HBM hx
  rw[hgm] at HBM
  rw[hnw,hgm]
  clear hnw hgm
  replace HS:=hid (HS.out.up hx)
  replace HKC:=hid (HKC.out.trans (hx.kept _))
  replace HTv:=hid (HTv.out.qk (hx.kept [g]))
  replace HTj:=hid (HTj.out.qk (hx.kept [g]))
  replace HTz:=hid (HTz.out.qk (hx.kept [g]))
  replace HTa:=hid (HTa.out.qk (hx.kept [g]))
  replace HTb:=hid (HTb.out.qk (hx.kept [g]))
  clear hx
  simp only[pX]
  refine WM.call (d:=some 29) (f:=137) (args:=#[.pointer (some ⟨g,0,none⟩),.slice (some ⟨gm11,0,none⟩) 2 2]) rfl rfl (by rfl) (by go_simp) ?_
  refine(hold_l HS.out (tms_two ((HTa.out).sub (gp_sub _ _)) ((HTb.out).sub (gp_sub _ _)) HBM.out) (by simp only[M.kfews,HFa.out,HFb.out,Bool.and_true,Bool.true_and]) (by rw[HLs2x.out];rw[HLs1x.out];have:=HLN.out;omega)).mono ?_
  rintro e we0 ⟨hv0,rfl,hs,ht⟩
  refine⟨_,rfl,ht.kept,?_⟩
  have htr:Turn W.heap.size g [hv,cv'] ws2 [hv0,cv'] we0:=(HKC.out.turn HBG.out HWE.out).trans ht
  replace HTv:=hid (HTv.out.sub (ht.sub xs1))
  replace HTj:=hid (HTj.out.sub (ht.sub xs1))
  replace HTz:=hid (HTz.out.sub (ht.sub xs1))
  have hq:=htr.qx HBv.out HQv.out
  replace HBv:=hid hq.1
  replace HQv:=hid hq.2
  have hq:=htr.qx HBj.out HQj.out
  replace HBj:=hid hq.1
  replace HQj:=hid hq.2
  have hq:=htr.qx HBz.out HQz.out
  replace HBz:=hid hq.1
  replace HQz:=hid hq.2
  replace HQ2:=hid (htr.2 g0 (by have:=HR.out.lt;omega) HQ2.out).1
  have hq:=htr.box HR.out HQr.out
  replace HR:=hid hq.1
  replace HQr:=hid hq.2
  replace HTc:=hid (HTc.out.trans htr)
  replace HWE:=hid (Nat.le_trans HWE.out htr.size)
  obtain⟨e0,hns⟩:∃s,M.lfHold [ta,tb] s2x=s:=⟨_,rfl⟩
  replace HLN:=hid (show e0.held.length≤800001 from by rw[←hns];show (s2x.held++[_]).length≤_;rw[List.length_append];rw[HLs2x.out];rw[HLs1x.out];have:=HLN.out;simp;omega)
  have HE0:=hid (show M.szA tv tj s0=e0 from by unfold M.szA;rw[HZ0.out,HYa.out,HYs1x.out,HYb.out,HYs2x.out];exact hns)
  rw[hns] at hs
  replace HS:=hid hs
  clear hs ht htr hq hns HX HQX HBM HKC HYa HYs1x HLs1x HYb HYs2x HLs2x HTa HFa HTb HFb
  simp only[pX]
  refine WM.done ?_
  -- region 3
  go_upto_region 3 with (fail)
  have HX:=hid (hx_bls HS.out)
  have HQX:=hid (show ∀k,qt g (hv0::cv'::xs1) k→k∉bls g [hv0,cv'] from fun k hq=>bls_not.2 ⟨hq.1,fun v hv2=>hq.2 v (by simp at hv2;rcases hv2 with rfl|rfl<;>simp)⟩)
  refine wp_region_M (Kept (bls g [hv0,cv'])) (KeptB we0.heap.size (bls g [hv0,cv'])) (relB _ HX.out) (fun _ k=>.pointer (some ⟨k,0,none⟩))
   [(0,0),(1,0),(2,0),(3,0),(6,0),(7,0),(8,0),(9,0),(4,8),(5,9),(10,10),(11,1),(12,1),(13,1),(14,1),(15,1)] 27 zero6 (fun wd hb=>?_) (by
    intro j hj
    simp[pend] at hj)
  have HDv:=hid (HBv.out.up hb)
  have HDj:=hid (HBj.out.up hb)
  have HDz:=hid (HBz.out.up hb)
  refine WM.p 30 (.pointer (some ⟨g,0,none⟩)) ?_
  simp only[pX]
  refine WM.p 31 (.pointer (some ⟨g,0,none⟩)) ?_
  simp only[pX]
  refine WM.q 32 (kv j1 j2 jN jn jm j3 j4 jA j5 jd) rfl (fun w' hk=>by obtain⟨⟨x0,x1,x2,x3,x4,x5⟩,-,-⟩:=boxF6 (HDj.out.kept hk (HQX.out _ HQj.out));go_simp) ?_
  simp only[pX]
  refine WM.q 33 (kv z1 z2 zN zn zm z3 z4 zA z5 zd) rfl (fun w' hk=>by obtain⟨⟨x0,x1,x2,x3,x4,x5⟩,-,-⟩:=boxF6 (HDz.out.kept hk (HQX.out _ HQz.out));go_simp) ?_
  simp only[pX]
  refine WM.p 36 (.pointer (some ⟨g,0,none⟩)) ?_
  simp only[pX]
  refine WM.q 37 (kv v1 v2 vN vn vm v3 v4 vA v5 vd) rfl (fun w' hk=>by obtain⟨⟨x0,x1,x2,x3,x4,x5⟩,-,-⟩:=boxF6 (HDv.out.kept hk (HQX.out _ HQv.out));go_simp) ?_
  simp only[pX]
  refine WM.p 38 (.pointer (some ⟨g,0,none⟩)) ?_
  simp only[pX]
  refine WM.q 39 (kv j1 j2 jN jn jm j3 j4 jA j5 jd) rfl (fun w' hk=>by obtain⟨⟨x0,x1,x2,x3,x4,x5⟩,-,-⟩:=boxF6 (HDj.out.kept hk (HQX.out _ HQj.out));go_simp) ?_
  simp only[pX]
  clear HDv HDj HDz
  refine WM.three (di:=34) (dc:=35) (dm:=40) (vi:=fun k=>.slice (some ⟨k,0,none⟩) 2 2) (vm:=fun k=>.slice (some ⟨k,0,none⟩) 1 1) (Ti:=27) (Tm:=27)
   (ci:=#[.int .i64 j1,.bool j2,.slice jN jn jm,str j3,.int .i64 j4,.slice jA j5 jd,.int .i64 z1,.bool z2,.slice zN zn zm,str z3,.int .i64 z4,.slice zA z5 zd])
   (cm:=#[.int .i64 j1,.bool j2,.slice jN jn jm,str j3,.int .i64 j4,.slice jA j5 jd])
   (f:=138) (args:=fun k=>#[.pointer (some ⟨g,0,none⟩),.int .i64 21,.slice (some ⟨k,0,none⟩) 2 2])
   (F:=fun u gi w'=>LSt W g hv0 cv' xs1 (M.lfOf 21 [tj,tz] e0) w'∧IsTm (gp (qt g (hv0::cv'::xs1)) w') (M.ofT 21 [tj,tz] e0.ref).1 u∧Kept [g] we0 w')
   (relB _ HX.out) hb.size rfl rfl rfl rfl rfl rfl rfl rfl rfl ⟨by decide,by decide⟩
   (fun w=>by go_simp) (fun v w=>by go_simp) (fun w=>by go_simp) (fun v w=>by go_simp) (fun v u w=>by go_simp) (fun k w=>by go_simp) (fun k v w=>by go_simp) ?call3 ?stable3 ?tail3
  case call3=>
   intro w1' gi he hbx _
   have e1:=hb.trans he
   refine(of_l (HS.out.up e1) (tms_two ((HTj.out.qk (e1.kept _)).sub (gp_sub _ _)) ((HTz.out.qk (e1.kept _)).sub (gp_sub _ _)) hbx) (by simp only[M.kfews,HFj.out,HFz.out,Bool.and_true,Bool.true_and])).mono ?_
   rintro e w' ⟨u,rfl,hs,hu,hk⟩
   exact⟨u,rfl,hk.more (by intro k hk;simp at hk;subst hk;simp[bls]),hs,hu,(e1.kept _).trans hk⟩
  case stable3=>
   intro u gi w1' w2' he ⟨hs,hu,hk⟩
   exact⟨hs.up he,hu.sub (gp_extV he),hk.trans (he.kept _)⟩
  case tail3=>
   intro u gi gm w3t ⟨hs,hu,hk⟩ hbx hgm
   simp only[pX]
   have HKC:=hid hk
   have HBM:=hid hbx
   replace HTv:=hid (HTv.out.qk hk)
   replace HTj:=hid (HTj.out.qk hk)
   replace HTz:=hid (HTz.out.qk hk)
   obtain⟨a1,a2,aN,an,am,a3,a4,aA,a5,ad,rfl⟩:=hu.kvs
   obtain⟨ta,hta⟩:∃y,(M.ofT 21 [tj,tz] e0.ref).1=y:=⟨_,rfl⟩
   have HFa:=hid (show M.kfew ta=true from hta▸M.ofT_few (by simp only[M.kfews,HFj.out,HFz.out,Bool.and_true,Bool.true_and]))
   have HYa:=hid hta
   obtain⟨s3x,hns⟩:∃s,M.lfOf 21 [tj,tz] e0=s:=⟨_,rfl⟩
   have HYs3x:=hid hns
   have HLs3x:=hid (show s3x.held=e0.held from hns▸rfl)
   rw[hns] at hs
   rw[hta] at hu
   replace HS:=hid hs
   have HTa:=hid hu
   clear hs hu hk hbx hgm hta hns
   refine WM.call (d:=some 41) (f:=138) (args:=#[.pointer (some ⟨g,0,none⟩),.int .i64 14,.slice (some ⟨gm,0,none⟩) 1 1]) rfl rfl (by rfl) (by go_simp) ?_
   refine(of_l HS.out (tms_one ((HTj.out).sub (gp_sub _ _)) HBM.out) (by simp only[M.kfews,HFj.out,Bool.and_true,Bool.true_and])).mono ?_
   rintro e w3_11 ⟨u,rfl,hs,hu,hk⟩
   refine⟨_,rfl,hk.more (by intro k hk;simp at hk;subst hk;simp[bls]),?_⟩
   replace HKC:=hid (HKC.out.trans hk)
   replace HTv:=hid (HTv.out.qk hk)
   replace HTj:=hid (HTj.out.qk hk)
   replace HTz:=hid (HTz.out.qk hk)
   replace HTa:=hid (HTa.out.qk hk)
   obtain⟨b1,b2,bN,bn,bm,b3,b4,bA,b5,bd,rfl⟩:=hu.kvs
   obtain⟨tb,htb⟩:∃y,(M.ofT 14 [tj] s3x.ref).1=y:=⟨_,rfl⟩
   have HFb:=hid (show M.kfew tb=true from htb▸M.ofT_few (by simp only[M.kfews,HFj.out,Bool.and_true,Bool.true_and]))
   have HYb:=hid htb
   obtain⟨s4x,hns⟩:∃s,M.lfOf 14 [tj] s3x=s:=⟨_,rfl⟩
   have HYs4x:=hid hns
   have HLs4x:=hid (show s4x.held=s3x.held from hns▸rfl)
   rw[hns] at hs
   rw[htb] at hu
   replace HS:=hid hs
   have HTb:=hid hu
   clear hs hu hk htb hns
   simp only[pX]
   refine WM.act (d:=some 42) (v:=.slice (some ⟨w3_11.heap.size,0,none⟩) 2 2) (w':=w3_11.alloc (.cells #[.int .i64 v1,.bool v2,.slice vN vn vm,str v3,.int .i64 v4,.slice vA v5 vd,.int .i64 b1,.bool b2,.slice bN bn bm,str b3,.int .i64 b4,.slice bA b5 bd] 27)) rfl rfl (by rfl) (by go_simp) ((Ext.alloc _ _).kept _) ?_
   replace HBM:=hid (Box.new w3_11 #[.int .i64 v1,.bool v2,.slice vN vn vm,str v3,.int .i64 v4,.slice vA v5 vd,.int .i64 b1,.bool b2,.slice bN bn bm,str b3,.int .i64 b4,.slice bA b5 bd] 27)
   have hx:Ext w3_11 (w3_11.alloc (.cells #[.int .i64 v1,.bool v2,.slice vN vn vm,str v3,.int .i64 v4,.slice vA v5 vd,.int .i64 b1,.bool b2,.slice bN bn bm,str b3,.int .i64 b4,.slice bA b5 bd] 27)):=Ext.alloc _ _
   obtain⟨gm12,hgm⟩:∃k,w3_11.heap.size=k:=⟨_,rfl⟩
   obtain⟨w3_12,hnw⟩:∃x,w3_11.alloc (.cells #[.int .i64 v1,.bool v2,.slice vN vn vm,str v3,.int .i64 v4,.slice vA v5 vd,.int .i64 b1,.bool b2,.slice bN bn bm,str b3,.int .i64 b4,.slice bA b5 bd] 27)=x:=⟨_,rfl⟩
   rw[hnw] at HBM hx
   rw[hgm] at HBM
   rw[hnw,hgm]
   clear hnw hgm
   replace HS:=hid (HS.out.up hx)
   replace HKC:=hid (HKC.out.trans (hx.kept _))
   replace HTv:=hid (HTv.out.qk (hx.kept [g]))
   replace HTj:=hid (HTj.out.qk (hx.kept [g]))
   replace HTz:=hid (HTz.out.qk (hx.kept [g]))
   replace HTa:=hid (HTa.out.qk (hx.kept [g]))
   replace HTb:=hid (HTb.out.qk (hx.kept [g]))
   clear hx
   simp only[pX]
   refine WM.call (d:=some 43) (f:=138) (args:=#[.pointer (some ⟨g,0,none⟩),.int .i64 10,.slice (some ⟨gm12,0,none⟩) 2 2]) rfl rfl (by rfl) (by go_simp) ?_
   refine(of_l HS.out (tms_two ((HTv.out).sub (gp_sub _ _)) ((HTb.out).sub (gp_sub _ _)) HBM.out) (by simp only[M.kfews,HFv.out,HFb.out,Bool.and_true,Bool.true_and])).mono ?_
   rintro e w3_13 ⟨u,rfl,hs,hu,hk⟩
   refine⟨_,rfl,hk.more (by intro k hk;simp at hk;subst hk;simp[bls]),?_⟩
   replace HKC:=hid (HKC.out.trans hk)
   replace HTv:=hid (HTv.out.qk hk)
   replace HTj:=hid (HTj.out.qk hk)
   replace HTz:=hid (HTz.out.qk hk)
   replace HTa:=hid (HTa.out.qk hk)
   replace HTb:=hid (HTb.out.qk hk)
   obtain⟨f1,f2,fN,fn,fm,f3,f4,fA,f5,fd,rfl⟩:=hu.kvs
   obtain⟨tf,htf⟩:∃y,(M.ofT 10 [tv,tb] s4x.ref).1=y:=⟨_,rfl⟩
   have HFf:=hid (show M.kfew tf=true from htf▸M.ofT_few (by simp only[M.kfews,HFv.out,HFb.out,Bool.and_true,Bool.true_and]))
   have HYf:=hid htf
   obtain⟨s5x,hns⟩:∃s,M.lfOf 10 [tv,tb] s4x=s:=⟨_,rfl⟩
   have HYs5x:=hid hns
   have HLs5x:=hid (show s5x.held=s4x.held from hns▸rfl)
   rw[hns] at hs
   rw[htf] at hu
   replace HS:=hid hs
   have HTf:=hid hu
   clear hs hu hk htf hns
   simp only[pX]
   refine WM.act (d:=some 44) (v:=.slice (some ⟨w3_13.heap.size,0,none⟩) 2 2) (w':=w3_13.alloc (.cells #[.int .i64 a1,.bool a2,.slice aN an am,str a3,.int .i64 a4,.slice aA a5 ad,.int .i64 f1,.bool f2,.slice fN fn fm,str f3,.int .i64 f4,.slice fA f5 fd] 27)) rfl rfl (by rfl) (by go_simp) ((Ext.alloc _ _).kept _) ?_
   replace HBM:=hid (Box.new w3_13 #[.int .i64 a1,.bool a2,.slice aN an am,str a3,.int .i64 a4,.slice aA a5 ad,.int .i64 f1,.bool f2,.slice fN fn fm,str f3,.int .i64 f4,.slice fA f5 fd] 27)
   have hx:Ext w3_13 (w3_13.alloc (.cells #[.int .i64 a1,.bool a2,.slice aN an am,str a3,.int .i64 a4,.slice aA a5 ad,.int .i64 f1,.bool f2,.slice fN fn fm,str f3,.int .i64 f4,.slice fA f5 fd] 27)):=Ext.alloc _ _
   obtain⟨gm14,hgm⟩:∃k,w3_13.heap.size=k:=⟨_,rfl⟩
   obtain⟨w3_14,hnw⟩:∃x,w3_13.alloc (.cells #[.int .i64 a1,.bool a2,.slice aN an am,str a3,.int .i64 a4,.slice aA a5 ad,.int .i64 f1,.bool f2,.slice fN fn fm,str f3,.int .i64 f4,.slice fA f5 fd] 27)=x:=⟨_,rfl⟩
   rw[hnw] at HBM hx
   rw[hgm] at HBM
   rw[hnw,hgm]
   clear hnw hgm
   replace HS:=hid (HS.out.up hx)
   replace HKC:=hid (HKC.out.trans (hx.kept _))
   replace HTv:=hid (HTv.out.qk (hx.kept [g]))
   replace HTj:=hid (HTj.out.qk (hx.kept [g]))
   replace HTz:=hid (HTz.out.qk (hx.kept [g]))
   replace HTa:=hid (HTa.out.qk (hx.kept [g]))
   replace HTb:=hid (HTb.out.qk (hx.kept [g]))
   replace HTf:=hid (HTf.out.qk (hx.kept [g]))
   clear hx
   simp only[pX]
   refine WM.call (d:=some 45) (f:=137) (args:=#[.pointer (some ⟨g,0,none⟩),.slice (some ⟨gm14,0,none⟩) 2 2]) rfl rfl (by rfl) (by go_simp) ?_
   refine(hold_l HS.out (tms_two ((HTa.out).sub (gp_sub _ _)) ((HTf.out).sub (gp_sub _ _)) HBM.out) (by simp only[M.kfews,HFa.out,HFf.out,Bool.and_true,Bool.true_and]) (by rw[HLs5x.out];rw[HLs4x.out];rw[HLs3x.out];have:=HLN.out;omega)).mono ?_
   rintro e we1 ⟨hv1,rfl,hs,ht⟩
   refine⟨_,rfl,ht.kept,?_⟩
   have htr:Turn W.heap.size g [hv0,cv'] we0 [hv1,cv'] we1:=(HKC.out.turn HBG.out HWE.out).trans ht
   replace HTv:=hid (HTv.out.sub (ht.sub xs1))
   replace HTj:=hid (HTj.out.sub (ht.sub xs1))
   replace HTz:=hid (HTz.out.sub (ht.sub xs1))
   have hq:=htr.qx HBv.out HQv.out
   replace HBv:=hid hq.1
   replace HQv:=hid hq.2
   have hq:=htr.qx HBj.out HQj.out
   replace HBj:=hid hq.1
   replace HQj:=hid hq.2
   have hq:=htr.qx HBz.out HQz.out
   replace HBz:=hid hq.1
   replace HQz:=hid hq.2
   replace HQ2:=hid (htr.2 g0 (by have:=HR.out.lt;omega) HQ2.out).1
   have hq:=htr.box HR.out HQr.out
   replace HR:=hid hq.1
   replace HQr:=hid hq.2
   replace HTc:=hid (HTc.out.trans htr)
   replace HWE:=hid (Nat.le_trans HWE.out htr.size)
   obtain⟨e1,hns⟩:∃s,M.lfHold [ta,tf] s5x=s:=⟨_,rfl⟩
   replace HLN:=hid (show e1.held.length≤800002 from by rw[←hns];show (s5x.held++[_]).length≤_;rw[List.length_append];rw[HLs5x.out];rw[HLs4x.out];rw[HLs3x.out];have:=HLN.out;simp;omega)
   have HE1:=hid (show M.szB tv tj e0=e1 from by unfold M.szB;rw[HZ0.out,HYa.out,HYs3x.out,HYb.out,HYs4x.out,HYf.out,HYs5x.out];exact hns)
   rw[hns] at hs
   replace HS:=hid hs
   clear hs ht htr hq hns HX HQX HBM HKC HYa HYs3x HLs3x HYb HYs4x HLs4x HYf HYs5x HLs5x HTa HFa HTb HFb HTf HFf
   simp only[pX]
   refine WM.done ?_
   obtain⟨⟨r0,r1,r2,r3,r4,r5⟩,⟨q0,q1,q2,q3,q4,q5⟩,hz⟩:=boxF6 HR.out
   obtain⟨⟨b0,b1,b2,b3,b4,b5⟩,-,-⟩:=boxF6 HBv.out
   go_wp2_with fail
   refine bodyPost_ret (v:=kv v1 v2 vN vn vm v3 v4 vA v5 vd) (by simp[results,Tryz.results95,go_sem,r0,r1,r2,r3,r4,r5,hz]) rfl ?_
   obtain⟨wf,hwf⟩:∃x,put6 we1 (g0+1) (.int .i64 v1) (.bool v2) (.slice vN vn vm) (str v3) (.int .i64 v4) (.slice vA v5 vd)=x:=⟨_,rfl⟩
   have hk6:Kept [g0+1] we1 wf:=hwf▸put6_kept
   show GivesL W g hv cv xs _ _ w _ (put6 we1 (g0+1) (.int .i64 v1) (.bool v2) (.slice vN vn vm) (str v3) (.int .i64 v4) (.slice vA v5 vd))
   rw[hwf]
   have hge:=HGE.out
   have hs9:LSt W g hv1 cv' xs (M.sizeL t st) wf:=by
    have h1:=HS.out
    rw[←HXS.out] at h1
    rw[show M.sizeL t st=e1 from by unfold M.sizeL;rw[HV0.out,HNj.out,HS0q.out,HE0.out,HE1.out]]
    exact h1.unfence hk6.1 (fun k hk hk2=>hk6.2 k hk (by simp;omega)) (by omega) fun k h1 h2=>by
     rcases (show k=g0∨k=g0+1 by omega) with rfl|rfl
     ·exact HQ2.out
     ·exact HQr.out
   refine⟨_,hv1,cv',rfl,hs9,?_,?_⟩
   ·rw[HV0.out];exact HUv.out _
   ·exact⟨Below.trans HTc.out.1 (hk6.below (X:=[g0+1]) HWE.out (by intro x hx;simp at hx;omega)),fun k hk hq=>by
     obtain⟨a1,a2⟩:=HTc.out.2 k hk hq
     exact⟨a1,(hk6.2 k (Nat.lt_of_lt_of_le hk HTc.out.size) (by simp;omega)).trans a2⟩⟩
end Go.Proofs.YtoenjbkmiphhoaaGreatDoor.Q
