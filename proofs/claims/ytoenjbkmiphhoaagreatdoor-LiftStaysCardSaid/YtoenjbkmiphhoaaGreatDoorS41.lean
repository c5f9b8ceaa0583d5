/-
  Package lift: chosen.
-/
import Derived.Test.YtoenjbkmiphhoaaGreatDoorS39
namespace Go.Proofs.YtoenjbkmiphhoaaGreatDoor.Q
set_option linter.unusedSimpArgs false
set_option linter.unusedVariables false
open Go.RowKit
set_option maxHeartbeats 32000000 in
set_option maxRecDepth 20000 in
theorem chosen_l {W:World}{g:Nat}{hv cv:Value}{xs:List Value}{st:M.LS}{w:World}{t:M.Tm}{v:Value}(h:LSt W g hv cv xs st w)(ht:IsTm (gp (qt g (hv::cv::xs)) w) t v)(hk:t.kids.length=3)(hf:M.kfews t.kids=true)
 (hnx:-9000000000000000000≤st.next∧st.next≤9000000000000000000) (hlen:st.held.length≤800000∧st.cons.length≤800000) :
 Calls Tryz.prog 96 #[.pointer (some ⟨g,0,none⟩),v] w (GivesL W g hv cv xs (M.frT st.next 2) (M.chosenL t st) w):=by
 have HQ:=hid ht
 obtain⟨N,nn,nc,A,c,rfl,hn,hks⟩:=ht
 rw[hk] at hks ⊢
 obtain⟨ad,jN,jn,jm,jA,jd,rfl,⟨kj0,kj1,kj2,kj3,kj4,kj5⟩,hkj⟩:=hks.at0 (by omega)
 obtain⟨yN,yn,ym,yA,yd,⟨ky0,ky1,ky2,ky3,ky4,ky5⟩,hky⟩:=hks.at1 (k:=1) (m:=6) (by decide) (by decide) (by decide)
 obtain⟨qN,qn,qm,qA,qd,⟨kq0,kq1,kq2,kq3,kq4,kq5⟩,hkq⟩:=hks.at1 (k:=2) (m:=12) (by decide) (by decide) (by decide)
 obtain⟨tj,htj⟩:∃n,M.kat t.kids 0=n:=⟨_,rfl⟩
 have HNj:=hid htj
 have HFj:=hid (show M.kfew tj=true from by rw[←htj];exact kfews_kat hf (by omega))
 rw[htj] at kj0 kj1 kj3 kj4 kj5 hkj
 obtain⟨j1,hj1⟩:∃o,tj.op=o:=⟨_,rfl⟩
 obtain⟨j2,hj2⟩:∃o,tj.g=o:=⟨_,rfl⟩
 obtain⟨j3,hj3⟩:∃o,tj.name=o:=⟨_,rfl⟩
 obtain⟨j4,hj4⟩:∃o,tj.sort=o:=⟨_,rfl⟩
 obtain⟨j5,hj5⟩:∃o,tj.kids.length=o:=⟨_,rfl⟩
 rw[hj1] at kj0 hkj
 rw[hj2] at kj1 hkj
 rw[hj3] at kj3 hkj
 rw[hj4] at kj4 hkj
 rw[hj5] at kj5 hkj
 have HKj:=hid (And.intro kj0 (And.intro kj1 (And.intro kj2 (And.intro kj3 (And.intro kj4 kj5)))))
 have HKTj:=hid hkj
 obtain⟨ty,hty⟩:∃n,M.kat t.kids 1=n:=⟨_,rfl⟩
 have HNy:=hid hty
 have HFy:=hid (show M.kfew ty=true from by rw[←hty];exact kfews_kat hf (by omega))
 rw[hty] at ky0 ky1 ky3 ky4 ky5 hky
 obtain⟨y1,hy1⟩:∃o,ty.op=o:=⟨_,rfl⟩
 obtain⟨y2,hy2⟩:∃o,ty.g=o:=⟨_,rfl⟩
 obtain⟨y3,hy3⟩:∃o,ty.name=o:=⟨_,rfl⟩
 obtain⟨y4,hy4⟩:∃o,ty.sort=o:=⟨_,rfl⟩
 obtain⟨y5,hy5⟩:∃o,ty.kids.length=o:=⟨_,rfl⟩
 rw[hy1] at ky0 hky
 rw[hy2] at ky1 hky
 rw[hy3] at ky3 hky
 rw[hy4] at ky4 hky
 rw[hy5] at ky5 hky
 have HKy:=hid (And.intro ky0 (And.intro ky1 (And.intro ky2 (And.intro ky3 (And.intro ky4 ky5)))))
 have HKTy:=hid hky
 obtain⟨tq,htq⟩:∃n,M.kat t.kids 2=n:=⟨_,rfl⟩
 have HNq:=hid htq
 have HFq:=hid (show M.kfew tq=true from by rw[←htq];exact kfews_kat hf (by omega))
 rw[htq] at kq0 kq1 kq3 kq4 kq5 hkq
 obtain⟨q1,hq1⟩:∃o,tq.op=o:=⟨_,rfl⟩
 obtain⟨q2,hq2⟩:∃o,tq.g=o:=⟨_,rfl⟩
 obtain⟨q3,hq3⟩:∃o,tq.name=o:=⟨_,rfl⟩
 obtain⟨q4,hq4⟩:∃o,tq.sort=o:=⟨_,rfl⟩
 obtain⟨q5,hq5⟩:∃o,tq.kids.length=o:=⟨_,rfl⟩
 rw[hq1] at kq0 hkq
 rw[hq2] at kq1 hkq
 rw[hq3] at kq3 hkq
 rw[hq4] at kq4 hkq
 rw[hq5] at kq5 hkq
 have HKq:=hid (And.intro kq0 (And.intro kq1 (And.intro kq2 (And.intro kq3 (And.intro kq4 kq5)))))
 have HKTq:=hid hkq
 obtain⟨o1,ho1⟩:∃o,t.op=o:=⟨_,rfl⟩
 obtain⟨o2,ho2⟩:∃o,t.g=o:=⟨_,rfl⟩
 obtain⟨o3,ho3⟩:∃o,t.name=o:=⟨_,rfl⟩
 obtain⟨o4,ho4⟩:∃o,t.sort=o:=⟨_,rfl⟩
 rw[ho1,ho2,ho3,ho4,hk] at HQ
 rw[ho1,ho2,ho3,ho4]
 have HNX:=hid hnx
 have HLEN:=hid hlen
 have HL:=hid h
 have HB0:=hid (show Box ((w.alloc (.cells #[.int .i64 o1,.bool o2,.slice N nn nc,str o3,.int .i64 o4,.slice (some ad) 3 c] 27)).alloc (.cells zero6 27)) w.heap.size #[.int .i64 o1,.bool o2,.slice N nn nc,str o3,.int .i64 o4,.slice (some ad) 3 c] 27 from(Box.new w _ _).alloc _)
 have HB1:=hid (show Box ((w.alloc (.cells #[.int .i64 o1,.bool o2,.slice N nn nc,str o3,.int .i64 o4,.slice (some ad) 3 c] 27)).alloc (.cells zero6 27)) (w.heap.size+1) zero6 27 from Box.at_ (w:=w.alloc (.cells #[.int .i64 o1,.bool o2,.slice N nn nc,str o3,.int .i64 o4,.slice (some ad) 3 c] 27)) _ _ (by simp))
 have E0:=hid (alloc_two w (.cells #[.int .i64 o1,.bool o2,.slice N nn nc,str o3,.int .i64 o4,.slice (some ad) 3 c] 27) (.cells zero6 27))
 clear h hn hks hnx hlen ho1 ho2 ho3 ho4 hf hk kj0 kj1 kj2 kj3 kj4 kj5 hkj htj hj1 hj2 hj3 hj4 hj5 ky0 ky1 ky2 ky3 ky4 ky5 hky hty hy1 hy2 hy3 hy4 hy5 kq0 kq1 kq2 kq3 kq4 kq5 hkq htq hq1 hq2 hq3 hq4 hq5
 go_enter Tryz.func96,Tryz.ntmps96
 go_upto_region 1 with (fail)
 refine vwp_at (fun W'=>Box W' w.heap.size #[.int .i64 o1,.bool o2,.slice N nn nc,str o3,.int .i64 o4,.slice (some ad) 3 c] 27∧Box W' (w.heap.size+1) zero6 27∧Ext w W'∧W'.heap.size=w.heap.size+2) ⟨HB0.out,HB1.out,E0.out,by simp⟩ ?_
 clear HB0 HB1 E0
 intro W1 ⟨hb0,hb1,he,hsz⟩
 obtain⟨g0,hg0⟩:∃g,w.heap.size=g:=⟨_,rfl⟩
 have HG:=hid hg0
 rw[hg0] at hb0 hb1 hsz ⊢
 have HB0:=hid hb0
 have HB1:=hid hb1
 have E:=hid he
 have HSZ0:=hid hsz
 clear hb0 hb1 he hg0 hsz
 have HSB:=hid (show w.heap.size≤W1.heap.size from E.out.size)
 obtain⟨xs1,hxs1⟩:∃l,fence g0 W1.heap.size++xs=l:=⟨_,rfl⟩
 have HXS:=hid hxs1
 have HLF:=hid (show LSt W g hv cv xs1 st W1 from hxs1▸HL.out.fence E.out (B:=g0) (N:=W1.heap.size) (Nat.le_of_eq HG.out) (Nat.le_refl _))
 have HFS:=hid (show Sub (gp (qt g (hv::cv::xs)) w) (gp (qt g (hv::cv::xs1)) W1) from hxs1▸fence_sub (vs:=[hv,cv]) (xs:=xs) E.out (Nat.le_of_eq HG.out))
 clear hxs1
 have HX:=hid (show ∀x∈bls g [hv,cv],x<W1.heap.size from fun x hx=>Nat.lt_of_lt_of_le (hx_bls HL.out x hx) E.out.size)
 refine wp_region_M (Kept (bls g [hv,cv])) (KeptB W1.heap.size (bls g [hv,cv])) (relB _ HX.out) (fun _ k=>.pointer (some ⟨k,0,none⟩))
  [(0,0),(1,0),(3,5),(4,5),(5,5),(6,5),(7,5),(8,5),(9,5),(10,5),(11,5),(12,5),(13,5),(14,5),(2,2),(15,3),(16,3),(17,3),(18,3),(19,4),(20,4),(21,4),(22,4)] 27 zero6 (fun wd hb=>?_) (by
   intro j hj
   simp[pend] at hj
   rcases hj with rfl|rfl|rfl|rfl<;>exact⟨_,rfl,rfl,fun a w=>by go_simp⟩)
 have EW:=hid (E.out.trans hb)
 have HBd:=hid (HB0.out.up hb)
 have HNB:=hid (show g0∉bls g [hv,cv] from bls_not.2 (HL.out.low.new (Nat.le_of_eq HG.out) |> fun q=>⟨q.1,fun v hv2=>q.2 v (by simp at hv2;rcases hv2 with rfl|rfl<;>simp)⟩))
 refine WM.p 9 (.pointer (some ⟨g,0,none⟩)) ?_
 simp only[pX]
 refine WM.q 10 (kv o1 o2 N nn nc o3 o4 (some ad) 3 c) rfl (fun w' hk=>by obtain⟨⟨x0,x1,x2,x3,x4,x5⟩,-,-⟩:=boxF6 (HBd.out.kept hk HNB.out);go_simp) ?_
 simp only[pX]
 refine WM.y 12 (.pointer (some ⟨g0,5,none⟩)) ?_ (hy:=fun w' hk=>by go_simp)
 simp only[pX]
 refine WM.y 13 (.slice (some ad) 3 c) ?_ (hy:=fun w' hk=>by have x5:=(HBd.out.keptX hk HB0.out.lt HNB.out).k 5;go_simp)
 simp only[pX]
 refine WM.y 14 (.pointer (some ad)) ?_ (hy:=fun w' hk=>by go_simp)
 simp only[pX]
 refine WM.y 15 (kv j1 j2 jN jn jm j3 j4 jA j5 jd) ?_ (hy:=fun w' hk=>by
  have x0:=quiet_cell HKj.out.1 EW.out HSB.out hk
  have x1:=quiet_cell HKj.out.2.1 EW.out HSB.out hk
  have x2:=quiet_cell HKj.out.2.2.1 EW.out HSB.out hk
  have x3:=quiet_cell HKj.out.2.2.2.1 EW.out HSB.out hk
  have x4:=quiet_cell HKj.out.2.2.2.2.1 EW.out HSB.out hk
  have x5:=quiet_cell HKj.out.2.2.2.2.2 EW.out HSB.out hk
  go_simp)
 simp only[pX]
 refine WM.y 16 (.pointer (some ⟨g0,5,none⟩)) ?_ (hy:=fun w' hk=>by go_simp)
 simp only[pX]
 refine WM.y 17 (.slice (some ad) 3 c) ?_ (hy:=fun w' hk=>by have x5:=(HBd.out.keptX hk HB0.out.lt HNB.out).k 5;go_simp)
 simp only[pX]
 refine WM.y 18 (.pointer (some ⟨ad.block,ad.off+6,none⟩)) ?_ (hy:=fun w' hk=>by go_simp)
 simp only[pX]
 refine WM.y 19 (kv y1 y2 yN yn ym y3 y4 yA y5 yd) ?_ (hy:=fun w' hk=>by
  have x0:=quiet_cell HKy.out.1 EW.out HSB.out hk
  have x1:=quiet_cell HKy.out.2.1 EW.out HSB.out hk
  have x2:=quiet_cell HKy.out.2.2.1 EW.out HSB.out hk
  have x3:=quiet_cell HKy.out.2.2.2.1 EW.out HSB.out hk
  have x4:=quiet_cell HKy.out.2.2.2.2.1 EW.out HSB.out hk
  have x5:=quiet_cell HKy.out.2.2.2.2.2 EW.out HSB.out hk
  go_simp)
 simp only[pX]
 refine WM.y 20 (.pointer (some ⟨g0,5,none⟩)) ?_ (hy:=fun w' hk=>by go_simp)
 simp only[pX]
 refine WM.y 21 (.slice (some ad) 3 c) ?_ (hy:=fun w' hk=>by have x5:=(HBd.out.keptX hk HB0.out.lt HNB.out).k 5;go_simp)
 simp only[pX]
 refine WM.y 22 (.pointer (some ⟨ad.block,ad.off+12,none⟩)) ?_ (hy:=fun w' hk=>by go_simp)
 simp only[pX]
 refine WM.y 23 (kv q1 q2 qN qn qm q3 q4 qA q5 qd) ?_ (hy:=fun w' hk=>by
  have x0:=quiet_cell HKq.out.1 EW.out HSB.out hk
  have x1:=quiet_cell HKq.out.2.1 EW.out HSB.out hk
  have x2:=quiet_cell HKq.out.2.2.1 EW.out HSB.out hk
  have x3:=quiet_cell HKq.out.2.2.2.1 EW.out HSB.out hk
  have x4:=quiet_cell HKq.out.2.2.2.2.1 EW.out HSB.out hk
  have x5:=quiet_cell HKq.out.2.2.2.2.2 EW.out HSB.out hk
  go_simp)
 simp only[pX]
 clear HBd HNB HKj HKy HKq
 refine WM.callR (d:=some 11) (f:=135) (args:=#[.pointer (some ⟨g,0,none⟩),kv o1 o2 N nn nc o3 o4 (some ad) 3 c]) rfl rfl (by rfl) (fun w=>by go_simp) (fun w1 hE=>?_)
 have hE1:=EW.out.trans hE
 have hE2:=hb.trans hE
 refine(constant_l (HLF.out.fence hE2 (B:=W1.heap.size) (N:=w1.heap.size) (Nat.le_refl _) (Nat.le_refl _)) ((HQ.out.sub HFS.out).sub (fence_sub (vs:=[hv,cv]) (xs:=xs1) hE2 (Nat.le_refl _))) HNX.out (by have:=HLEN.out.2;omega)).mono ?_
 rintro e w9 ⟨u,cv',rfl,hs9,hu9,ht9⟩
 refine⟨_,rfl,ht9.kept,?_⟩
 have H9:=hid hs9
 have HT9:=hid (show Turn W.heap.size g [hv,cv] w [hv,cv'] w9 from(Turn.ext HL.out.ext.size hE1).trans ht9)
 have HN9j:=hid (show IsTm (gp (qt g (hv::cv'::(fence W1.heap.size w1.heap.size++xs1))) w9) tj (kv j1 j2 jN jn jm j3 j4 jA j5 jd) from((HKTj.out.sub HFS.out).sub (fence_sub (vs:=[hv,cv]) (xs:=xs1) hE2 (Nat.le_refl _))).sub (ht9.sub (fence W1.heap.size w1.heap.size++xs1)))
 have HN9y:=hid (show IsTm (gp (qt g (hv::cv'::(fence W1.heap.size w1.heap.size++xs1))) w9) ty (kv y1 y2 yN yn ym y3 y4 yA y5 yd) from((HKTy.out.sub HFS.out).sub (fence_sub (vs:=[hv,cv]) (xs:=xs1) hE2 (Nat.le_refl _))).sub (ht9.sub (fence W1.heap.size w1.heap.size++xs1)))
 have HN9q:=hid (show IsTm (gp (qt g (hv::cv'::(fence W1.heap.size w1.heap.size++xs1))) w9) tq (kv q1 q2 qN qn qm q3 q4 qA q5 qd) from((HKTq.out.sub HFS.out).sub (fence_sub (vs:=[hv,cv]) (xs:=xs1) hE2 (Nat.le_refl _))).sub (ht9.sub (fence W1.heap.size w1.heap.size++xs1)))
 have HQF:=hid (show ∀k,w.heap.size≤k→k<w1.heap.size→qt g [hv,cv'] k from fun k h1 h2=>(ht9.2 k h2 (HL.out.low.new h1 |> fun q=>⟨q.1,fun v hv2=>q.2 v (by simp at hv2;rcases hv2 with rfl|rfl<;>simp)⟩)).1)
 have HR9:=hid (show Box w9 (g0+1) zero6 27 from(HB1.out.up hE2).kept ht9.kept (bls_not.2 (HL.out.low.new (k:=g0+1) (by have:=HG.out;omega) |> fun q=>⟨q.1,fun v hv2=>q.2 v (by simp at hv2;rcases hv2 with rfl|rfl<;>simp)⟩)))
 have HSZ:=hid (show W1.heap.size≤w1.heap.size∧w1.heap.size≤w9.heap.size∧g0+1<W1.heap.size∧g<w.heap.size from⟨hE2.size,ht9.size,HB1.out.lt,HL.out.low.1.2⟩)
 obtain⟨tv,htv⟩:∃V0,M.frT st.next 2=V0:=⟨_,rfl⟩
 rw[htv] at hu9
 have HV0:=hid htv
 have HVB:=hid (show tv.ls=[]∧tv.kids=[]∧M.kfew tv=true from by rw[←htv];exact⟨rfl,rfl,M.frT_few (by have:=HNX.out;omega)⟩)
 have HFv:=hid HVB.out.2.2
 obtain⟨v1,v2,vN,vn,vm,v3,v4,vA,v5,vd,rfl⟩:=hu9.kvs
 have HUv:=hid (show ∀w',IsTm w' tv (kv v1 v2 vN vn vm v3 v4 vA v5 vd) from fun w'=>hu9.any HVB.out.1 HVB.out.2.1)
 clear hs9 ht9 hu9 hE1 hE2 htv
 simp only[pX]
 refine WM.var (d:=some 5) rfl (fun gv wv0 he0 hbv hBv hGv=>?_)
 have Hv:=hid (show W1.heap.size≤gv∧¬(w1.heap.size≤gv∧gv<w9.heap.size) from⟨hBv,fun h=>hGv (.inr h)⟩)
 replace hbv:Box wv0 gv zero6 27:=hbv
 simp only[pX]
 refine WM.var (d:=some 6) rfl (fun gj wv1 he1 hbj hBj hGj=>?_)
 have Hj:=hid (show W1.heap.size≤gj∧¬(w1.heap.size≤gj∧gj<w9.heap.size)∧gj≠gv from⟨hBj,fun h=>hGj (.inr (.inr h)),fun h=>hGj (.inl h)⟩)
 replace hbj:Box wv1 gj zero6 27:=hbj
 simp only[pX]
 refine WM.var (d:=some 7) rfl (fun gy wv2 he2 hby hBy hGy=>?_)
 have Hy:=hid (show W1.heap.size≤gy∧¬(w1.heap.size≤gy∧gy<w9.heap.size)∧gy≠gv∧gy≠gj from⟨hBy,fun h=>hGy (.inr (.inr (.inr h))),fun h=>hGy (.inr (.inl h)),fun h=>hGy (.inl h)⟩)
 replace hby:Box wv2 gy zero6 27:=hby
 simp only[pX]
 refine WM.var (d:=some 8) rfl (fun gq wv3 he3 hbq hBq hGq=>?_)
 have Hq:=hid (show W1.heap.size≤gq∧¬(w1.heap.size≤gq∧gq<w9.heap.size)∧gq≠gv∧gq≠gj∧gq≠gy from⟨hBq,fun h=>hGq (.inr (.inr (.inr (.inr h)))),fun h=>hGq (.inr (.inr (.inl h))),fun h=>hGq (.inr (.inl h)),fun h=>hGq (.inl h)⟩)
 replace hbq:Box wv3 gq zero6 27:=hbq
 simp only[pX]
 have HBv:=hid (hbv.up ((he1.trans he2).trans he3))
 have HBj:=hid (hbj.up (he2.trans he3))
 have HBy:=hid (hby.up he3)
 have HBq:=hid (hbq)
 have E8:=hid ((((he0.trans he1).trans he2).trans he3))
 clear he0 he1 he2 he3 hbv hBv hGv hbj hBj hGj hby hBy hGy hbq hBq hGq
 obtain⟨⟨r0,r1,r2,r3,r4,r5⟩,⟨f0,f1,f2,f3,f4,f5⟩,hz⟩:=boxF6 HBv.out
 refine WM.store (w':=put6 wv3 gv (.int .i64 v1) (.bool v2) (.slice vN vn vm) (str v3) (.int .i64 v4) (.slice vA v5 vd)) rfl rfl (by rfl) (by go_simp) (put6_keptB Hv.out.1) ?_
 clear r0 r1 r2 r3 r4 r5 f0 f1 f2 f3 f4 f5 hz
 obtain⟨ws0,hw⟩:∃x,put6 wv3 gv (.int .i64 v1) (.bool v2) (.slice vN vn vm) (str v3) (.int .i64 v4) (.slice vA v5 vd)=x:=⟨_,rfl⟩
 replace HBv:=hid (show Box ws0 gv #[.int .i64 v1,.bool v2,.slice vN vn vm,str v3,.int .i64 v4,.slice vA v5 vd] 27 from hw▸(((((HBv.out.setAt 0 _).setAt 1 _).setAt 2 _).setAt 3 _).setAt 4 _).setAt 5 _)
 have HS0:=hid (show Kept [gv] wv3 ws0 from hw▸put6_kept)
 rw[hw]
 clear hw
 replace HBj:=hid (HBj.out.kept HS0.out (by simpa using Hj.out.2.2))
 replace HBy:=hid (HBy.out.kept HS0.out (by simpa using Hy.out.2.2.1))
 replace HBq:=hid (HBq.out.kept HS0.out (by simpa using Hq.out.2.2.1))
 obtain⟨⟨r0,r1,r2,r3,r4,r5⟩,⟨f0,f1,f2,f3,f4,f5⟩,hz⟩:=boxF6 HBj.out
 refine WM.store (w':=put6 ws0 gj (.int .i64 j1) (.bool j2) (.slice jN jn jm) (str j3) (.int .i64 j4) (.slice jA j5 jd)) rfl rfl (by rfl) (by go_simp) (put6_keptB Hj.out.1) ?_
 clear r0 r1 r2 r3 r4 r5 f0 f1 f2 f3 f4 f5 hz
 obtain⟨ws1,hw⟩:∃x,put6 ws0 gj (.int .i64 j1) (.bool j2) (.slice jN jn jm) (str j3) (.int .i64 j4) (.slice jA j5 jd)=x:=⟨_,rfl⟩
 replace HBj:=hid (show Box ws1 gj #[.int .i64 j1,.bool j2,.slice jN jn jm,str j3,.int .i64 j4,.slice jA j5 jd] 27 from hw▸(((((HBj.out.setAt 0 _).setAt 1 _).setAt 2 _).setAt 3 _).setAt 4 _).setAt 5 _)
 have HS1:=hid (show Kept [gj] ws0 ws1 from hw▸put6_kept)
 rw[hw]
 clear hw
 replace HBv:=hid (HBv.out.kept HS1.out (by simpa using Ne.symm Hj.out.2.2))
 replace HBy:=hid (HBy.out.kept HS1.out (by simpa using Hy.out.2.2.2))
 replace HBq:=hid (HBq.out.kept HS1.out (by simpa using Hq.out.2.2.2.1))
 obtain⟨⟨r0,r1,r2,r3,r4,r5⟩,⟨f0,f1,f2,f3,f4,f5⟩,hz⟩:=boxF6 HBy.out
 refine WM.store (w':=put6 ws1 gy (.int .i64 y1) (.bool y2) (.slice yN yn ym) (str y3) (.int .i64 y4) (.slice yA y5 yd)) rfl rfl (by rfl) (by go_simp) (put6_keptB Hy.out.1) ?_
 clear r0 r1 r2 r3 r4 r5 f0 f1 f2 f3 f4 f5 hz
 obtain⟨ws2,hw⟩:∃x,put6 ws1 gy (.int .i64 y1) (.bool y2) (.slice yN yn ym) (str y3) (.int .i64 y4) (.slice yA y5 yd)=x:=⟨_,rfl⟩
 replace HBy:=hid (show Box ws2 gy #[.int .i64 y1,.bool y2,.slice yN yn ym,str y3,.int .i64 y4,.slice yA y5 yd] 27 from hw▸(((((HBy.out.setAt 0 _).setAt 1 _).setAt 2 _).setAt 3 _).setAt 4 _).setAt 5 _)
 have HS2:=hid (show Kept [gy] ws1 ws2 from hw▸put6_kept)
 rw[hw]
 clear hw
 replace HBv:=hid (HBv.out.kept HS2.out (by simpa using Ne.symm Hy.out.2.2.1))
 replace HBj:=hid (HBj.out.kept HS2.out (by simpa using Ne.symm Hy.out.2.2.2))
 replace HBq:=hid (HBq.out.kept HS2.out (by simpa using Hq.out.2.2.2.2))
 obtain⟨⟨r0,r1,r2,r3,r4,r5⟩,⟨f0,f1,f2,f3,f4,f5⟩,hz⟩:=boxF6 HBq.out
 refine WM.store (w':=put6 ws2 gq (.int .i64 q1) (.bool q2) (.slice qN qn qm) (str q3) (.int .i64 q4) (.slice qA q5 qd)) rfl rfl (by rfl) (by go_simp) (put6_keptB Hq.out.1) ?_
 clear r0 r1 r2 r3 r4 r5 f0 f1 f2 f3 f4 f5 hz
 obtain⟨ws3,hw⟩:∃x,put6 ws2 gq (.int .i64 q1) (.bool q2) (.slice qN qn qm) (str q3) (.int .i64 q4) (.slice qA q5 qd)=x:=⟨_,rfl⟩
 replace HBq:=hid (show Box ws3 gq #[.int .i64 q1,.bool q2,.slice qN qn qm,str q3,.int .i64 q4,.slice qA q5 qd] 27 from hw▸(((((HBq.out.setAt 0 _).setAt 1 _).setAt 2 _).setAt 3 _).setAt 4 _).setAt 5 _)
 have HS3:=hid (show Kept [gq] ws2 ws3 from hw▸put6_kept)
 rw[hw]
 clear hw
 replace HBv:=hid (HBv.out.kept HS3.out (by simpa using Ne.symm Hq.out.2.2.1))
 replace HBj:=hid (HBj.out.kept HS3.out (by simpa using Ne.symm Hq.out.2.2.2.1))
 replace HBy:=hid (HBy.out.kept HS3.out (by simpa using Ne.symm Hq.out.2.2.2.2))
 refine WM.done ?_
 have HK:=hid (show Kept [gv,gj,gy,gq] wv3 ws3 from((((HS0.out.more (by simp)).trans (HS1.out.more (by simp))).trans (HS2.out.more (by simp))).trans (HS3.out.more (by simp))))
 have HOLD:=hid (show ∀k,k<w9.heap.size→¬(W1.heap.size≤k∧k<w1.heap.size)→ws3.heap[k]?=w9.heap[k]? from fun k hk hk2=>(HK.out.2 k (Nat.lt_of_lt_of_le hk E8.out.size) (by
  have hv:=Hv.out
  have hj:=Hj.out
  have hy:=Hy.out
  have hq:=Hq.out
  simp
  omega)).trans (E8.out.block k hk))
 have HBE:=hid (show Below 0 w9 ws3 from(Below.mono E8.out (Nat.zero_le _)).trans HK.out.1)
 have HS:=hid (show LSt W g hv cv' xs1 (M.lfNew t st) ws3 from H9.out.unfence HBE.out HOLD.out (Nat.le_trans HL.out.ext.size HSB.out) fun k h1 h2=>HQF.out k (Nat.le_trans HSB.out h1) h2)
 have HSUB:=hid (show Sub (gp (qt g (hv::cv'::(fence W1.heap.size w1.heap.size++xs1))) w9) (gp (qt g (hv::cv'::xs1)) ws3) from fence_out (vs:=[hv,cv']) (xs:=xs1) HBE.out.size fun k h1 _ h3=>HOLD.out k h1 h3)
 have HTj:=hid (show IsTm (gp (qt g (hv::cv'::xs1)) ws3) tj (kv j1 j2 jN jn jm j3 j4 jA j5 jd) from HN9j.out.sub HSUB.out)
 have HTy:=hid (show IsTm (gp (qt g (hv::cv'::xs1)) ws3) ty (kv y1 y2 yN yn ym y3 y4 yA y5 yd) from HN9y.out.sub HSUB.out)
 have HTq:=hid (show IsTm (gp (qt g (hv::cv'::xs1)) ws3) tq (kv q1 q2 qN qn qm q3 q4 qA q5 qd) from HN9q.out.sub HSUB.out)
 have HTv:=hid (HUv.out (gp (qt g (hv::cv'::xs1)) ws3))
 have HTc:=hid (show Turn W.heap.size g [hv,cv] w [hv,cv'] ws3 from⟨Below.trans HT9.out.1 ⟨HBE.out.os,HBE.out.tape,HBE.out.output,HBE.out.size,fun k hk=>HOLD.out k (Nat.lt_of_lt_of_le hk H9.out.ext.size) (by have:=HL.out.ext.size;have:=HSB.out;omega)⟩,fun k hk hq=>by
  obtain⟨a1,a2⟩:=HT9.out.2 k hk hq
  exact⟨a1,(HOLD.out k (Nat.lt_of_lt_of_le hk HT9.out.size) (by have:=HSB.out;omega)).trans a2⟩⟩)
 have HR:=hid (show Box ws3 (g0+1) zero6 27 from(HOLD.out (g0+1) HR9.out.lt (by have:=HSZ.out;omega)).trans HR9.out)
 have HQr:=hid (show qt g [hv,cv'] (g0+1) from HQF.out _ (by have:=HG.out;omega) (by have:=HSZ.out;omega))
 have hqb:∀k,W1.heap.size≤k→¬(w1.heap.size≤k∧k<w9.heap.size)→qt g (hv::cv'::xs1) k:=fun k h1 h2=>by
  by_cases h3:k<w1.heap.size
  ·obtain⟨a1,a2⟩:=HQF.out k (Nat.le_trans HSB.out h1) h3
   refine⟨a1,fun v hv2=>?_⟩
   simp only[List.mem_cons] at hv2
   rcases hv2 with rfl|rfl|hv2
   ·exact a2 _ (by simp)
   ·exact a2 _ (by simp)
   ·exact(HLF.out.low.new h1).2 v (by simp[hv2])
  ·have h4:=H9.out.low.new (k:=k) (by omega)
   exact⟨h4.1,fun v hv2=>h4.2 v (by simp only[List.mem_cons,List.mem_append] at hv2 ⊢;rcases hv2 with h|h|h<;>simp[h])⟩
 have HQv:=hid (hqb gv Hv.out.1 Hv.out.2)
 have HQj:=hid (hqb gj Hj.out.1 Hj.out.2.1)
 have HQy:=hid (hqb gy Hy.out.1 Hy.out.2.1)
 have HQq:=hid (hqb gq Hq.out.1 Hq.out.2.1)
 have HGE:=hid (show g0=w.heap.size∧W1.heap.size=g0+2∧W.heap.size≤w.heap.size∧W1.heap.size≤w9.heap.size from⟨HG.out.symm,HSZ0.out,HL.out.ext.size,Nat.le_trans HSZ.out.1 HSZ.out.2.1⟩)
 have HQ2:=hid (show qt g [hv,cv'] g0 from HQF.out _ (Nat.le_of_eq HG.out) (by have:=HSZ.out;omega))
 clear hqb
 obtain⟨s0,hs0⟩:∃s,M.lfNew t st=s:=⟨_,rfl⟩
 have HS0q:=hid hs0
 have HLN:=hid (show s0.held.length≤800000 from by rw[←hs0];exact HLEN.out.1)
 rw[hs0] at HS
 have HBG:=hid HS.out.low.1.1
 have HWE:=hid HS.out.ext.size
 clear hs0 HOLD HBE HSUB HT9 HR9 H9 HQF E8 HL HLF HFS HB0 HB1 EW HX E HK HSZ HSB HG HSZ0 HNX HLEN HVB HQ Hv Hj Hy Hq HS0 HS1 HS2 HS3 HN9j HKTj HN9y HKTy HN9q HKTq 
 -- region 2
 go_upto_region 2 with (fail)
 have HX:=hid (hx_bls HS.out)
 have HQX:=hid (show ∀k,qt g (hv::cv'::xs1) k→k∉bls g [hv,cv'] from fun k hq=>bls_not.2 ⟨hq.1,fun v hv2=>hq.2 v (by simp at hv2;rcases hv2 with rfl|rfl<;>simp)⟩)
 refine wp_region_M (Kept (bls g [hv,cv'])) (KeptB ws3.heap.size (bls g [hv,cv'])) (relB _ HX.out) (fun _ k=>.pointer (some ⟨k,0,none⟩))
  [(0,0),(1,0),(2,0),(5,0),(6,0),(7,0),(3,8),(4,9),(8,10),(9,1),(10,1),(11,1)] 27 zero6 (fun wd hb=>?_) (by
   intro j hj
   simp[pend] at hj)
 have HDv:=hid (HBv.out.up hb)
 have HDj:=hid (HBj.out.up hb)
 have HDy:=hid (HBy.out.up hb)
 have HDq:=hid (HBq.out.up hb)
 refine WM.p 24 (.pointer (some ⟨g,0,none⟩)) ?_
 simp only[pX]
 refine WM.p 25 (.pointer (some ⟨g,0,none⟩)) ?_
 simp only[pX]
 refine WM.q 26 (kv j1 j2 jN jn jm j3 j4 jA j5 jd) rfl (fun w' hk=>by obtain⟨⟨x0,x1,x2,x3,x4,x5⟩,-,-⟩:=boxF6 (HDj.out.kept hk (HQX.out _ HQj.out));go_simp) ?_
 simp only[pX]
 refine WM.p 29 (.pointer (some ⟨g,0,none⟩)) ?_
 simp only[pX]
 refine WM.q 30 (kv v1 v2 vN vn vm v3 v4 vA v5 vd) rfl (fun w' hk=>by obtain⟨⟨x0,x1,x2,x3,x4,x5⟩,-,-⟩:=boxF6 (HDv.out.kept hk (HQX.out _ HQv.out));go_simp) ?_
 simp only[pX]
 refine WM.q 31 (kv y1 y2 yN yn ym y3 y4 yA y5 yd) rfl (fun w' hk=>by obtain⟨⟨x0,x1,x2,x3,x4,x5⟩,-,-⟩:=boxF6 (HDy.out.kept hk (HQX.out _ HQy.out));go_simp) ?_
 simp only[pX]
 clear HDv HDj HDy HDq
 refine WM.three (di:=27) (dc:=28) (dm:=32) (vi:=fun k=>.slice (some ⟨k,0,none⟩) 1 1) (vm:=fun k=>.slice (some ⟨k,0,none⟩) 2 2) (Ti:=27) (Tm:=27)
  (ci:=#[.int .i64 j1,.bool j2,.slice jN jn jm,str j3,.int .i64 j4,.slice jA j5 jd])
  (cm:=#[.int .i64 v1,.bool v2,.slice vN vn vm,str v3,.int .i64 v4,.slice vA v5 vd,.int .i64 y1,.bool y2,.slice yN yn ym,str y3,.int .i64 y4,.slice yA y5 yd])
  (f:=138) (args:=fun k=>#[.pointer (some ⟨g,0,none⟩),.int .i64 5,.slice (some ⟨k,0,none⟩) 1 1])
  (F:=fun u gi w'=>LSt W g hv cv' xs1 (M.lfOf 5 [tj] s0) w'∧IsTm (gp (qt g (hv::cv'::xs1)) w') (M.ofT 5 [tj] s0.ref).1 u∧Kept [g] ws3 w')
  (relB _ HX.out) hb.size rfl rfl rfl rfl rfl rfl rfl rfl rfl ⟨by decide,by decide⟩
  (fun w=>by go_simp) (fun v w=>by go_simp) (fun w=>by go_simp) (fun v w=>by go_simp) (fun v u w=>by go_simp) (fun k w=>by go_simp) (fun k v w=>by go_simp) ?call2 ?stable2 ?tail2
 case call2=>
  intro w1' gi he hbx _
  have e1:=hb.trans he
  refine(of_l (HS.out.up e1) (tms_one ((HTj.out.qk (e1.kept _)).sub (gp_sub _ _)) hbx) (by simp only[M.kfews,HFj.out,Bool.and_true,Bool.true_and])).mono ?_
  rintro e w' ⟨u,rfl,hs,hu,hk⟩
  exact⟨u,rfl,hk.more (by intro k hk;simp at hk;subst hk;simp[bls]),hs,hu,(e1.kept _).trans hk⟩
 case stable2=>
  intro u gi w1' w2' he ⟨hs,hu,hk⟩
  exact⟨hs.up he,hu.sub (gp_extV he),hk.trans (he.kept _)⟩
 case tail2=>
  intro u gi gm w2t ⟨hs,hu,hk⟩ hbx hgm
  simp only[pX]
  have HKC:=hid hk
  have HBM:=hid hbx
  replace HTv:=hid (HTv.out.qk hk)
  replace HTj:=hid (HTj.out.qk hk)
  replace HTy:=hid (HTy.out.qk hk)
  replace HTq:=hid (HTq.out.qk hk)
  obtain⟨a1,a2,aN,an,am,a3,a4,aA,a5,ad,rfl⟩:=hu.kvs
  obtain⟨ta,hta⟩:∃y,(M.ofT 5 [tj] s0.ref).1=y:=⟨_,rfl⟩
  have HFa:=hid (show M.kfew ta=true from hta▸M.ofT_few (by simp only[M.kfews,HFj.out,Bool.and_true,Bool.true_and]))
  have HYa:=hid hta
  obtain⟨s1x,hns⟩:∃s,M.lfOf 5 [tj] s0=s:=⟨_,rfl⟩
  have HYs1x:=hid hns
  have HLs1x:=hid (show s1x.held=s0.held from hns▸rfl)
  rw[hns] at hs
  rw[hta] at hu
  replace HS:=hid hs
  have HTa:=hid hu
  clear hs hu hk hbx hgm hta hns
  refine WM.call (d:=some 33) (f:=138) (args:=#[.pointer (some ⟨g,0,none⟩),.int .i64 10,.slice (some ⟨gm,0,none⟩) 2 2]) rfl rfl (by rfl) (by go_simp) ?_
  refine(of_l HS.out (tms_two ((HTv.out).sub (gp_sub _ _)) ((HTy.out).sub (gp_sub _ _)) HBM.out) (by simp only[M.kfews,HFv.out,HFy.out,Bool.and_true,Bool.true_and])).mono ?_
  rintro e w2_9 ⟨u,rfl,hs,hu,hk⟩
  refine⟨_,rfl,hk.more (by intro k hk;simp at hk;subst hk;simp[bls]),?_⟩
  replace HKC:=hid (HKC.out.trans hk)
  replace HTv:=hid (HTv.out.qk hk)
  replace HTj:=hid (HTj.out.qk hk)
  replace HTy:=hid (HTy.out.qk hk)
  replace HTq:=hid (HTq.out.qk hk)
  replace HTa:=hid (HTa.out.qk hk)
  obtain⟨b1,b2,bN,bn,bm,b3,b4,bA,b5,bd,rfl⟩:=hu.kvs
  obtain⟨tb,htb⟩:∃y,(M.ofT 10 [tv,ty] s1x.ref).1=y:=⟨_,rfl⟩
  have HFb:=hid (show M.kfew tb=true from htb▸M.ofT_few (by simp only[M.kfews,HFv.out,HFy.out,Bool.and_true,Bool.true_and]))
  have HYb:=hid htb
  obtain⟨s2x,hns⟩:∃s,M.lfOf 10 [tv,ty] s1x=s:=⟨_,rfl⟩
  have HYs2x:=hid hns
  have HLs2x:=hid (show s2x.held=s1x.held from hns▸rfl)
  rw[hns] at hs
  rw[htb] at hu
  replace HS:=hid hs
  have HTb:=hid hu
  clear hs hu hk htb hns
  simp only[pX]
  refine WM.act (d:=some 34) (v:=.slice (some ⟨w2_9.heap.size,0,none⟩) 2 2) (w':=w2_9.alloc (.cells #[.int .i64 a1,.bool a2,.slice aN an am,str a3,.int .i64 a4,.slice aA a5 ad,.int .i64 b1,.bool b2,.slice bN bn bm,str b3,.int .i64 b4,.slice bA b5 bd] 27)) rfl rfl (by rfl) (by go_simp) ((Ext.alloc _ _).kept _) ?_
  replace HBM:=hid (Box.new w2_9 #[.int .i64 a1,.bool a2,.slice aN an am,str a3,.int .i64 a4,.slice aA a5 ad,.int .i64 b1,.bool b2,.slice bN bn bm,str b3,.int .i64 b4,.slice bA b5 bd] 27)
  have hx:Ext w2_9 (w2_9.alloc (.cells #[.int .i64 a1,.bool a2,.slice aN an am,str a3,.int .i64 a4,.slice aA a5 ad,.int .i64 b1,.bool b2,.slice bN bn bm,str b3,.int .i64 b4,.slice bA b5 bd] 27)):=Ext.alloc _ _
  obtain⟨gm10,hgm⟩:∃k,w2_9.heap.size=k:=⟨_,rfl⟩
  obtain⟨w2_10,hnw⟩:∃x,w2_9.alloc (.cells #[.int .i64 a1,.bool a2,.slice aN an am,str a3,.int .i64 a4,.slice aA a5 ad,.int .i64 b1,.bool b2,.slice bN bn bm,str b3,.int .i64 b4,.slice bA b5 bd] 27)=x:=⟨_,rfl⟩
  rw[hnw] at HBM hx
  rw[hgm] at HBM
  rw[hnw,hgm]
  clear hnw hgm
  replace HS:=hid (HS.out.up hx)
  replace HKC:=hid (HKC.out.trans (hx.kept _))
  replace HTv:=hid (HTv.out.qk (hx.kept [g]))
  replace HTj:=hid (HTj.out.qk (hx.kept [g]))
  replace HTy:=hid (HTy.out.qk (hx.kept [g]))
  replace HTq:=hid (HTq.out.qk (hx.kept [g]))
  replace HTa:=hid (HTa.out.qk (hx.kept [g]))
  replace HTb:=hid (HTb.out.qk (hx.kept [g]))
  clear hx
  simp only[pX]
  refine WM.call (d:=some 35) (f:=137) (args:=#[.pointer (some ⟨g,0,none⟩),.slice (some ⟨gm10,0,none⟩) 2 2]) rfl rfl (by rfl) (by go_simp) ?_
  refine(hold_l HS.out (tms_two ((HTa.out).sub (gp_sub _ _)) ((HTb.out).sub (gp_sub _ _)) HBM.out) (by simp only[M.kfews,HFa.out,HFb.out,Bool.and_true,Bool.true_and]) (by rw[HLs2x.out];rw[HLs1x.out];have:=HLN.out;omega)).mono ?_
  rintro e we0 ⟨hv0,rfl,hs,ht⟩
  refine⟨_,rfl,ht.kept,?_⟩
  have htr:Turn W.heap.size g [hv,cv'] ws3 [hv0,cv'] we0:=(HKC.out.turn HBG.out HWE.out).trans ht
  replace HTv:=hid (HTv.out.sub (ht.sub xs1))
  replace HTj:=hid (HTj.out.sub (ht.sub xs1))
  replace HTy:=hid (HTy.out.sub (ht.sub xs1))
  replace HTq:=hid (HTq.out.sub (ht.sub xs1))
  have hq:=htr.qx HBv.out HQv.out
  replace HBv:=hid hq.1
  replace HQv:=hid hq.2
  have hq:=htr.qx HBj.out HQj.out
  replace HBj:=hid hq.1
  replace HQj:=hid hq.2
  have hq:=htr.qx HBy.out HQy.out
  replace HBy:=hid hq.1
  replace HQy:=hid hq.2
  have hq:=htr.qx HBq.out HQq.out
  replace HBq:=hid hq.1
  replace HQq:=hid hq.2
  replace HQ2:=hid (htr.2 g0 (by have:=HR.out.lt;omega) HQ2.out).1
  have hq:=htr.box HR.out HQr.out
  replace HR:=hid hq.1
  replace HQr:=hid hq.2
  replace HTc:=hid (HTc.out.trans htr)
  replace HWE:=hid (Nat.le_trans HWE.out htr.size)
  obtain⟨e0,hns⟩:∃s,M.lfHold [ta,tb] s2x=s:=⟨_,rfl⟩
  replace HLN:=hid (show e0.held.length≤800001 from by rw[←hns];show (s2x.held++[_]).length≤_;rw[List.length_append];rw[HLs2x.out];rw[HLs1x.out];have:=HLN.out;simp;omega)
  have HE0:=hid (show M.chA tv tj ty s0=e0 from by unfold M.chA;rw[HYa.out,HYs1x.out,HYb.out,HYs2x.out];exact hns)
  rw[hns] at hs
  replace HS:=hid hs
  clear hs ht htr hq hns HX HQX HBM HKC HYa HYs1x HLs1x HYb HYs2x HLs2x HTa HFa HTb HFb
  simp only[pX]
  refine WM.done ?_
  -- region 3
  go_upto_region 3 with (fail)
  have HX:=hid (hx_bls HS.out)
  have HQX:=hid (show ∀k,qt g (hv0::cv'::xs1) k→k∉bls g [hv0,cv'] from fun k hq=>bls_not.2 ⟨hq.1,fun v hv2=>hq.2 v (by simp at hv2;rcases hv2 with rfl|rfl<;>simp)⟩)
  refine wp_region_M (Kept (bls g [hv0,cv'])) (KeptB we0.heap.size (bls g [hv0,cv'])) (relB _ HX.out) (fun _ k=>.pointer (some ⟨k,0,none⟩))
   [(0,0),(1,0),(2,0),(3,0),(4,0),(5,1),(6,1),(7,1),(8,1)] 27 zero6 (fun wd hb=>?_) (by
    intro j hj
    simp[pend] at hj)
  have HDv:=hid (HBv.out.up hb)
  have HDj:=hid (HBj.out.up hb)
  have HDy:=hid (HBy.out.up hb)
  have HDq:=hid (HBq.out.up hb)
  refine WM.p 36 (.pointer (some ⟨g,0,none⟩)) ?_
  simp only[pX]
  refine WM.q 37 (kv j1 j2 jN jn jm j3 j4 jA j5 jd) rfl (fun w' hk=>by obtain⟨⟨x0,x1,x2,x3,x4,x5⟩,-,-⟩:=boxF6 (HDj.out.kept hk (HQX.out _ HQj.out));go_simp) ?_
  simp only[pX]
  refine WM.p 38 (.pointer (some ⟨g,0,none⟩)) ?_
  simp only[pX]
  refine WM.q 39 (kv v1 v2 vN vn vm v3 v4 vA v5 vd) rfl (fun w' hk=>by obtain⟨⟨x0,x1,x2,x3,x4,x5⟩,-,-⟩:=boxF6 (HDv.out.kept hk (HQX.out _ HQv.out));go_simp) ?_
  simp only[pX]
  refine WM.q 40 (kv q1 q2 qN qn qm q3 q4 qA q5 qd) rfl (fun w' hk=>by obtain⟨⟨x0,x1,x2,x3,x4,x5⟩,-,-⟩:=boxF6 (HDq.out.kept hk (HQX.out _ HQq.out));go_simp) ?_
  simp only[pX]
  clear HDv HDj HDy HDq
  have HKC:=hid (show Kept [g] we0 wd from hb.kept _)
  replace HS:=hid (HS.out.up hb)
  replace HTv:=hid (HTv.out.qk (hb.kept [g]))
  replace HTj:=hid (HTj.out.qk (hb.kept [g]))
  replace HTy:=hid (HTy.out.qk (hb.kept [g]))
  replace HTq:=hid (HTq.out.qk (hb.kept [g]))
  refine WM.act (d:=some 41) (v:=.slice (some ⟨wd.heap.size,0,none⟩) 2 2) (w':=wd.alloc (.cells #[.int .i64 v1,.bool v2,.slice vN vn vm,str v3,.int .i64 v4,.slice vA v5 vd,.int .i64 q1,.bool q2,.slice qN qn qm,str q3,.int .i64 q4,.slice qA q5 qd] 27)) rfl rfl (by rfl) (by go_simp) ((Ext.alloc _ _).kept _) ?_
  have HBM:=hid (Box.new wd #[.int .i64 v1,.bool v2,.slice vN vn vm,str v3,.int .i64 v4,.slice vA v5 vd,.int .i64 q1,.bool q2,.slice qN qn qm,str q3,.int .i64 q4,.slice qA q5 qd] 27)
  have hx:Ext wd (wd.alloc (.cells #[.int .i64 v1,.bool v2,.slice vN vn vm,str v3,.int .i64 v4,.slice vA v5 vd,.int .i64 q1,.bool q2,.slice qN qn qm,str q3,.int .i64 q4,.slice qA q5 qd] 27)):=Ext.alloc _ _
  obtain⟨gm5,hgm⟩:∃k,wd.heap.size=k:=⟨_,rfl⟩
  obtain⟨w3_5,hnw⟩:∃x,wd.alloc (.cells #[.int .i64 v1,.bool v2,.slice vN vn vm,str v3,.int .i64 v4,.slice vA v5 vd,.int .i64 q1,.bool q2,.slice qN qn qm,str q3,.int .i64 q4,.slice qA q5 qd] 27)=x:=⟨_,rfl⟩
  rw[hnw] at HBM hx
  rw[hgm] at HBM
  rw[hnw,hgm]
  clear hnw hgm
  replace HS:=hid (HS.out.up hx)
  replace HKC:=hid (HKC.out.trans (hx.kept _))
  replace HTv:=hid (HTv.out.qk (hx.kept [g]))
  replace HTj:=hid (HTj.out.qk (hx.kept [g]))
  replace HTy:=hid (HTy.out.qk (hx.kept [g]))
  replace HTq:=hid (HTq.out.qk (hx.kept [g]))
  clear hx
  simp only[pX]
  refine WM.call (d:=some 42) (f:=138) (args:=#[.pointer (some ⟨g,0,none⟩),.int .i64 10,.slice (some ⟨gm5,0,none⟩) 2 2]) rfl rfl (by rfl) (by go_simp) ?_
  refine(of_l HS.out (tms_two ((HTv.out).sub (gp_sub _ _)) ((HTq.out).sub (gp_sub _ _)) HBM.out) (by simp only[M.kfews,HFv.out,HFq.out,Bool.and_true,Bool.true_and])).mono ?_
  rintro e w3_6 ⟨u,rfl,hs,hu,hk⟩
  refine⟨_,rfl,hk.more (by intro k hk;simp at hk;subst hk;simp[bls]),?_⟩
  replace HKC:=hid (HKC.out.trans hk)
  replace HTv:=hid (HTv.out.qk hk)
  replace HTj:=hid (HTj.out.qk hk)
  replace HTy:=hid (HTy.out.qk hk)
  replace HTq:=hid (HTq.out.qk hk)
  obtain⟨b1,b2,bN,bn,bm,b3,b4,bA,b5,bd,rfl⟩:=hu.kvs
  obtain⟨tb,htb⟩:∃y,(M.ofT 10 [tv,tq] e0.ref).1=y:=⟨_,rfl⟩
  have HFb:=hid (show M.kfew tb=true from htb▸M.ofT_few (by simp only[M.kfews,HFv.out,HFq.out,Bool.and_true,Bool.true_and]))
  have HYb:=hid htb
  obtain⟨s3x,hns⟩:∃s,M.lfOf 10 [tv,tq] e0=s:=⟨_,rfl⟩
  have HYs3x:=hid hns
  have HLs3x:=hid (show s3x.held=e0.held from hns▸rfl)
  rw[hns] at hs
  rw[htb] at hu
  replace HS:=hid hs
  have HTb:=hid hu
  clear hs hu hk htb hns
  simp only[pX]
  refine WM.act (d:=some 43) (v:=.slice (some ⟨w3_6.heap.size,0,none⟩) 2 2) (w':=w3_6.alloc (.cells #[.int .i64 j1,.bool j2,.slice jN jn jm,str j3,.int .i64 j4,.slice jA j5 jd,.int .i64 b1,.bool b2,.slice bN bn bm,str b3,.int .i64 b4,.slice bA b5 bd] 27)) rfl rfl (by rfl) (by go_simp) ((Ext.alloc _ _).kept _) ?_
  replace HBM:=hid (Box.new w3_6 #[.int .i64 j1,.bool j2,.slice jN jn jm,str j3,.int .i64 j4,.slice jA j5 jd,.int .i64 b1,.bool b2,.slice bN bn bm,str b3,.int .i64 b4,.slice bA b5 bd] 27)
  have hx:Ext w3_6 (w3_6.alloc (.cells #[.int .i64 j1,.bool j2,.slice jN jn jm,str j3,.int .i64 j4,.slice jA j5 jd,.int .i64 b1,.bool b2,.slice bN bn bm,str b3,.int .i64 b4,.slice bA b5 bd] 27)):=Ext.alloc _ _
  obtain⟨gm7,hgm⟩:∃k,w3_6.heap.size=k:=⟨_,rfl⟩
  obtain⟨w3_7,hnw⟩:∃x,w3_6.alloc (.cells #[.int .i64 j1,.bool j2,.slice jN jn jm,str j3,.int .i64 j4,.slice jA j5 jd,.int .i64 b1,.bool b2,.slice bN bn bm,str b3,.int .i64 b4,.slice bA b5 bd] 27)=x:=⟨_,rfl⟩
  rw[hnw] at HBM hx
  rw[hgm] at HBM
  rw[hnw,hgm]
  clear hnw hgm
  replace HS:=hid (HS.out.up hx)
  replace HKC:=hid (HKC.out.trans (hx.kept _))
  replace HTv:=hid (HTv.out.qk (hx.kept [g]))
  replace HTj:=hid (HTj.out.qk (hx.kept [g]))
  replace HTy:=hid (HTy.out.qk (hx.kept [g]))
  replace HTq:=hid (HTq.out.qk (hx.kept [g]))
  replace HTb:=hid (HTb.out.qk (hx.kept [g]))
  clear hx
  simp only[pX]
  refine WM.call (d:=some 44) (f:=137) (args:=#[.pointer (some ⟨g,0,none⟩),.slice (some ⟨gm7,0,none⟩) 2 2]) rfl rfl (by rfl) (by go_simp) ?_
  refine(hold_l HS.out (tms_two ((HTj.out).sub (gp_sub _ _)) ((HTb.out).sub (gp_sub _ _)) HBM.out) (by simp only[M.kfews,HFj.out,HFb.out,Bool.and_true,Bool.true_and]) (by rw[HLs3x.out];have:=HLN.out;omega)).mono ?_
  rintro e we1 ⟨hv1,rfl,hs,ht⟩
  refine⟨_,rfl,ht.kept,?_⟩
  have htr:Turn W.heap.size g [hv0,cv'] we0 [hv1,cv'] we1:=(HKC.out.turn HBG.out HWE.out).trans ht
  replace HTv:=hid (HTv.out.sub (ht.sub xs1))
  replace HTj:=hid (HTj.out.sub (ht.sub xs1))
  replace HTy:=hid (HTy.out.sub (ht.sub xs1))
  replace HTq:=hid (HTq.out.sub (ht.sub xs1))
  have hq:=htr.qx HBv.out HQv.out
  replace HBv:=hid hq.1
  replace HQv:=hid hq.2
  have hq:=htr.qx HBj.out HQj.out
  replace HBj:=hid hq.1
  replace HQj:=hid hq.2
  have hq:=htr.qx HBy.out HQy.out
  replace HBy:=hid hq.1
  replace HQy:=hid hq.2
  have hq:=htr.qx HBq.out HQq.out
  replace HBq:=hid hq.1
  replace HQq:=hid hq.2
  replace HQ2:=hid (htr.2 g0 (by have:=HR.out.lt;omega) HQ2.out).1
  have hq:=htr.box HR.out HQr.out
  replace HR:=hid hq.1
  replace HQr:=hid hq.2
  replace HTc:=hid (HTc.out.trans htr)
  replace HWE:=hid (Nat.le_trans HWE.out htr.size)
  obtain⟨e1,hns⟩:∃s,M.lfHold [tj,tb] s3x=s:=⟨_,rfl⟩
  replace HLN:=hid (show e1.held.length≤800002 from by rw[←hns];show (s3x.held++[_]).length≤_;rw[List.length_append];rw[HLs3x.out];have:=HLN.out;simp;omega)
  have HE1:=hid (show M.chB tv tj tq e0=e1 from by unfold M.chB;rw[HYb.out,HYs3x.out];exact hns)
  rw[hns] at hs
  replace HS:=hid hs
  clear hs ht htr hq hns HX HQX HBM HKC HYb HYs3x HLs3x HTb HFb
  simp only[pX]
  refine WM.done ?_
  obtain⟨⟨r0,r1,r2,r3,r4,r5⟩,⟨q0,q1,q2,q3,q4,q5⟩,hz⟩:=boxF6 HR.out
  obtain⟨⟨b0,b1,b2,b3,b4,b5⟩,-,-⟩:=boxF6 HBv.out
  go_wp2_with fail
  refine bodyPost_ret (v:=kv v1 v2 vN vn vm v3 v4 vA v5 vd) (by simp[results,Tryz.results96,go_sem,r0,r1,r2,r3,r4,r5,hz]) rfl ?_
  obtain⟨wf,hwf⟩:∃x,put6 we1 (g0+1) (.int .i64 v1) (.bool v2) (.slice vN vn vm) (str v3) (.int .i64 v4) (.slice vA v5 vd)=x:=⟨_,rfl⟩
  have hk6:Kept [g0+1] we1 wf:=hwf▸put6_kept
  show GivesL W g hv cv xs _ _ w _ (put6 we1 (g0+1) (.int .i64 v1) (.bool v2) (.slice vN vn vm) (str v3) (.int .i64 v4) (.slice vA v5 vd))
  rw[hwf]
  have hge:=HGE.out
  have hs9:LSt W g hv1 cv' xs (M.chosenL t st) wf:=by
   have h1:=HS.out
   rw[←HXS.out] at h1
   rw[show M.chosenL t st=e1 from by unfold M.chosenL;rw[HV0.out,HNj.out,HNy.out,HNq.out,HS0q.out,HE0.out,HE1.out]]
   exact h1.unfence hk6.1 (fun k hk hk2=>hk6.2 k hk (by simp;omega)) (by omega) fun k h1 h2=>by
    rcases (show k=g0∨k=g0+1 by omega) with rfl|rfl
    ·exact HQ2.out
    ·exact HQr.out
  refine⟨_,hv1,cv',rfl,hs9,?_,?_⟩
  ·rw[HV0.out];exact HUv.out _
  ·exact⟨Below.trans HTc.out.1 (hk6.below (X:=[g0+1]) HWE.out (by intro x hx;simp at hx;omega)),fun k hk hq=>by
    obtain⟨a1,a2⟩:=HTc.out.2 k hk hq
    exact⟨a1,(hk6.2 k (Nat.lt_of_lt_of_le hk HTc.out.size) (by simp;omega)).trans a2⟩⟩
end Go.Proofs.YtoenjbkmiphhoaaGreatDoor.Q
