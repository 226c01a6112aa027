/-
 WHAT Drop OF A COMMIT DOES, AS IT IS WRITTEN. No conditions beyond those that each theorem states.
-/
import Derived.Test.YtgghaodcfgbjlaaGreatCmB
import Derived.Test.YtgghaodcfgbjlaaGreatAttG
import Derived.Laws.StructEq
set_option maxRecDepth 100000
namespace Go.Proofs.YtgghaodcfgbjlaaGreat.Commit
open Go.ChangeShapes Go.WideShapes Go.ChangeAt Go.RowKit Mem Go.Proofs.YtgghaodcfgbjlaaGreat.Attempt
def RetDrop (w:World) (r:Com × Wd) (e:Ending) (w' :World):Prop:=
 ∃y z,e=.returned (.tuple #[.agg (cvl r.1 y).toArray,.agg (wvl r.2 z).toArray])∧y.fl= []∧(∀w'',Only (fun k=>k<w.heap.size) w' w'' →TRd w'' r.1.t y∧WRd w'' r.2 z)∧Below w.heap.size w w'
theorem drop_end {b0:Nat} {w wN wE:World} {g g4 g5:Nat} {c:Com} {W:Wd} {y:TL} {z:WL} (hM:Mv b0 wN g c W y z) (hb:Below w.heap.size w wN) (h4:w.heap.size≤g4) (h5:w.heap.size≤g5) (l4:g4<b0) (l5:g5<b0) (hfl:y.fl= [])
  (hO:Only (fun k=>k=g4∨k=g5) wN wE):RetDrop w (c,W) (.returned (.tuple #[.agg (cvl c y).toArray,.agg (wvl W z).toArray])) wE:=
 ⟨y,z,rfl,hfl,fun w'' h=>hM.lists w'' ((hO.sub (S2:=fun k=>k=g∨k<b0) (fun k _ e=>.inr (by omega))).trans h (fun k _ e=>.inr (by omega))),hb.trans (hO.below hb.size (fun k hk e=>by omega))⟩
theorem drop_no (c:Com) (W:Wd) (h:rightW W=false):dropC c W=(c,W):=by unfold dropC;rw[h];rfl
theorem drop_out (c:Com) (W:Wd) (h:rightW W=true) (h1:0≤c.ph) (h2:c.ph≤2):dropC c W=outC c W 8:=by unfold dropC;rw[if_pos h,if_pos ⟨h1,h2⟩]
theorem drop_all (c:Com) (W:Wd) (h:rightW W=true) (h1:¬(0≤c.ph∧c.ph≤2)):dropC c W=(allC c W).1:=by unfold dropC;rw[if_pos h,if_neg h1]
set_option maxHeartbeats 8000000 in
theorem drop_c (c:Com) (W:Wd) (x:TL) (z:WL) (w:World) (h:TRd w c.t x) (hs:Short c.t x) (hw:WRd w W z) (hf:Few W) (hx:x.fl= []):
  Calls Tryz.prog 36 #[.agg (cvl c x).toArray,.agg (wvl W z).toArray] w (RetDrop w (dropC c W)):=by
 obtain ⟨t,p,v,er⟩:=c
 obtain ⟨h_,r_,k⟩:=W
 obtain ⟨PQ,hPQ⟩:∃PQ,RetDrop w (dropC ⟨t,p,v,er⟩ ⟨h_,r_,k⟩)=PQ:=⟨_,rfl⟩
 have HPQ:=Lh hPQ
 rw[hPQ]
 clear hPQ
 have HT:=Lh h
 have HS:=Lh hs
 have HW:=Lh hw
 have HF:=Lh hf
 have HX:=Lh hx
 clear h hs hw hf hx
 show Calls Tryz.prog 36 #[.agg (aC t x p v er),.agg (aW z h_ r_ k)] w PQ
 have HB1:Hid (Below w.heap.size w ((((w.alloc (.cells (aC t x p v er) 69)).alloc (.cells (aW z h_ r_ k) 63)).alloc (.cells z14 69)).alloc (.cells z3 63))):=Lh (bl_alloc (bl_alloc (bl_alloc (bl_alloc (Below.refl _ _) _) _) _) _)
 have HSZ:Hid (((((w.alloc (.cells (aC t x p v er) 69)).alloc (.cells (aW z h_ r_ k) 63)).alloc (.cells z14 69)).alloc (.cells z3 63)).heap.size=w.heap.size+4):=Lh (by simp only[World.size_alloc])
 have KC:Hid (Blk ((((w.alloc (.cells (aC t x p v er) 69)).alloc (.cells (aW z h_ r_ k) 63)).alloc (.cells z14 69)).alloc (.cells z3 63)) w.heap.size 69 (aC t x p v er)):=Lh ((((Blk.new w _ _).alloc _).alloc _).alloc _)
 have KW:Hid (Blk ((((w.alloc (.cells (aC t x p v er) 69)).alloc (.cells (aW z h_ r_ k) 63)).alloc (.cells z14 69)).alloc (.cells z3 63)) (w.heap.size+1) 63 (aW z h_ r_ k)):=Lh (by have:=((Blk.new (w.alloc (.cells (aC t x p v er) 69)) 63 (aW z h_ r_ k)).alloc (.cells z14 69)).alloc (.cells z3 63);simpa only[World.size_alloc] using this)
 have K4:Hid (Blk ((((w.alloc (.cells (aC t x p v er) 69)).alloc (.cells (aW z h_ r_ k) 63)).alloc (.cells z14 69)).alloc (.cells z3 63)) (w.heap.size+1+1) 69 z14):=Lh (by have:=(Blk.new ((w.alloc (.cells (aC t x p v er) 69)).alloc (.cells (aW z h_ r_ k) 63)) 69 z14).alloc (.cells z3 63);simpa only[World.size_alloc] using this)
 have K5:Hid (Blk ((((w.alloc (.cells (aC t x p v er) 69)).alloc (.cells (aW z h_ r_ k) 63)).alloc (.cells z14 69)).alloc (.cells z3 63)) (w.heap.size+1+1+1) 63 z3):=Lh (by have:=Blk.new (((w.alloc (.cells (aC t x p v er) 69)).alloc (.cells (aW z h_ r_ k) 63)).alloc (.cells z14 69)) 63 z3;simpa only[World.size_alloc] using this)
 have a0:=KC.out.cell 0 _ rfl
 have a1:=KC.out.cell 1 _ rfl
 have a2:=KC.out.cell 2 _ rfl
 have a3:=KC.out.cell 3 _ rfl
 have a4:=KC.out.cell 4 _ rfl
 have a5:=KC.out.cell 5 _ rfl
 have a6:=KC.out.cell 6 _ rfl
 have a7:=KC.out.cell 7 _ rfl
 have a8:=KC.out.cell 8 _ rfl
 have a9:=KC.out.cell 9 _ rfl
 have a10:=KC.out.cell 10 _ rfl
 have a11:=KC.out.cell 11 _ rfl
 have a12:=KC.out.cell 12 _ rfl
 have a13:=KC.out.cell 13 _ rfl
 have b0:=KW.out.cell 0 _ rfl
 have b1:=KW.out.cell 1 _ rfl
 have b2:=KW.out.cell 2 _ rfl
 have HC:Hid (∀W:World,Below w.heap.size w W→Calls Tryz.prog 83 #[.agg (aC t x p v er),.agg (aW z h_ r_ k)] W (RetMv W ⟨t,p,v,er⟩ ⟨h_,r_,k⟩ x)):=Lh (fun W hW=>new_c ⟨t,p,v,er⟩ ⟨h_,r_,k⟩ x z W (HT.out.below hW) HS.out ⟨HW.out.1.below hW,HW.out.2.below hW⟩ HF.out HX.out)
 have HAL:Hid (∀W:World,Below w.heap.size w W→Calls Tryz.prog 40 #[.agg (aC t x p v er),.agg (aW z h_ r_ k)] W (RetStep W (allC ⟨t,p,v,er⟩ ⟨h_,r_,k⟩))):=Lh (fun W hW=>all_c ⟨t,p,v,er⟩ ⟨h_,r_,k⟩ x z W (HT.out.below hW) HS.out ⟨HW.out.1.below hW,HW.out.2.below hW⟩ HF.out HX.out)
 obtain ⟨rb,hrb⟩:∃rb,rightW ⟨h_,r_,k⟩=rb:=⟨_,rfl⟩
 have HRB:=Lh hrb
 clear hrb
 have HR:Hid (∀W:World,Below w.heap.size w W→Calls Tryz.prog 29 #[.agg (aW z h_ r_ k)] W (RetB W rb)):=Lh (fun W hW=>right_c ⟨h_,r_,k⟩ z W rb ⟨HW.out.1.below hW,HW.out.2.below hW⟩ HF.out HRB.out)
 go_enter Tryz.func36,Tryz.ntmps36
 go_wp2_with fail
 clear a0 a1 a2 a3 a4 a5 a6 a7 a8 a9 a10 a11 a12 a13 b0 b1 b2
 generalize (((w.alloc (.cells (aC t x p v er) 69)).alloc (.cells (aW z h_ r_ k) 63)).alloc (.cells z14 69)).alloc (.cells z3 63)=W1 at *
 refine (HC.out _ HB1.out).mono ?_
 rintro e_ w1 ⟨g,y,z1,rfl,hm,hfl,hb⟩
 generalize (Value.agg (aC t x p v er))=vx0
 generalize (Value.agg (aW z h_ r_ k))=vw0
 have HM:=Lh hm
 have HFL:Hid (y.fl= []):=Lh (hfl.trans HX.out)
 have HNE:Hid (w.heap.size+4≤g∧W1.heap.size=w.heap.size+4):=Lh ⟨by have:=hm.old;rw[HSZ.out]at this;exact this,HSZ.out⟩
 have HBB:=Lh (bl_trans HB1.out hb)
 replace KC:=Lh (KC.out.below hb)
 replace KW:=Lh (KW.out.below hb)
 replace K4:=Lh (K4.out.below hb)
 replace K5:=Lh (K5.out.below hb)
 clear hm hfl hb
 cases rb with
 | false=>
  have HNo:=Lh (drop_no ⟨t,p,v,er⟩ _ HRB.out)
  have kw0:=KW.out.cell 0 _ rfl
  have kw1:=KW.out.cell 1 _ rfl
  have kw2:=KW.out.cell 2 _ rfl
  go_wp2_with (refine (HR.out _ HBB.out).mono ?_;rintro e6 w6 ⟨rfl,b6⟩)
  clear kw0 kw1 kw2
  replace HM:=Lh (mv_bl HM.out b6)
  replace HBB:=Lh (bl_trans HBB.out b6)
  replace KC:=Lh (KC.out.below b6)
  replace KW:=Lh (KW.out.below b6)
  replace K4:=Lh (K4.out.below b6)
  replace K5:=Lh (K5.out.below b6)
  clear b6
  have HM:=Lh (mv_bl HM.out (Below.refl _ w6).drew)
  have HBB:=Lh (HBB.out.drew)
  have K4:=Lh (K4.out.below (Below.refl _ w6).drew)
  have K5:=Lh (K5.out.below (Below.refl _ w6).drew)
  have HBm:Hid (Blk w6.drew g 167 #[.int .i64 t.who,.int .i64 t.snap,.int .i64 t.pc,.slice y.R t.regs.length y.rc,.slice y.P t.path.length y.pc,.slice y.D t.reads.length y.dc,.slice y.L t.log.list.length y.lc,.slice y.M t.log.marks.length y.mc,.slice y.F y.fl.length y.fc,.int .i64 t.kind,.int .i64 t.why,.int .i64 p,.int .i64 v,.int .i64 er,.slice z1.H h_.length z1.hc,.slice z1.R r_.length z1.rc,.int .i64 k]):=Lh HM.out.blk
  obtain ⟨SB,hSB⟩:∃SB:World→Prop,∀W,SB W↔Blk W g 167 #[.int .i64 t.who,.int .i64 t.snap,.int .i64 t.pc,.slice y.R t.regs.length y.rc,.slice y.P t.path.length y.pc,.slice y.D t.reads.length y.dc,.slice y.L t.log.list.length y.lc,.slice y.M t.log.marks.length y.mc,.slice y.F y.fl.length y.fc,.int .i64 t.kind,.int .i64 t.why,.int .i64 p,.int .i64 v,.int .i64 er,.slice z1.H h_.length z1.hc,.slice z1.R r_.length z1.rc,.int .i64 k]:=⟨_,fun _=>Iff.rfl⟩
  have HSB:=Lh hSB
  clear hSB
  obtain ⟨vy,hvy⟩:∃vq_:Value,vq_=.agg (aC t y p v er):=⟨_,rfl⟩
  have HVY:=Lh hvy
  clear hvy
  obtain ⟨vz,hvz⟩:∃vq_:Value,vq_=.agg (aW z1 h_ r_ k):=⟨_,rfl⟩
  have HVZ:=Lh hvz
  clear hvz
  have f0:SB w6.drew:=(HSB.out _).2 HBm.out
  refine wp_region_held_drew (S:=SB) (by kernel_rfl) f0 (fun hH0=>?_)
  clear f0
  generalize w6.drew=wd at *
  have HON0:Hid (Only (fun k=>k=w.heap.size+1+1∨k=w.heap.size+1+1+1) wd wd):=Lh (Only.refl _ _)
  refine tk 0 (.pointer (some ⟨g,0,none⟩)) rfl hH0 ?_
  try go_simp
  refine tk 1 (.pointer (some ⟨g,0,none⟩)) rfl hH0 ?_
  try go_simp
  refine tk 2 (.pointer (some ⟨g,0,none⟩)) rfl hH0 ?_
  try go_simp
  refine tk 3 vy rfl hH0 ?_ (hy:=Or.inl ⟨by kernel_rfl,fun W hS=>by rw[HVY.out];have hSS:=(HSB.out W).1 hS;have q0:=hSS.cell 0 _ rfl;have q1:=hSS.cell 1 _ rfl;have q2:=hSS.cell 2 _ rfl;have q3:=hSS.cell 3 _ rfl;have q4:=hSS.cell 4 _ rfl;have q5:=hSS.cell 5 _ rfl;have q6:=hSS.cell 6 _ rfl;have q7:=hSS.cell 7 _ rfl;have q8:=hSS.cell 8 _ rfl;have q9:=hSS.cell 9 _ rfl;have q10:=hSS.cell 10 _ rfl;have q11:=hSS.cell 11 _ rfl;have q12:=hSS.cell 12 _ rfl;have q13:=hSS.cell 13 _ rfl;go_simp⟩)
  try go_simp
  refine tk 4 (.pointer (some ⟨g,0,none⟩)) rfl hH0 ?_
  try go_simp
  refine tk 5 (.pointer (some ⟨g,0,none⟩)) rfl hH0 ?_
  try go_simp
  refine tk 6 (.pointer (some ⟨g,14,none⟩)) rfl hH0 ?_
  try go_simp
  refine tk 7 vz rfl hH0 ?_ (hy:=Or.inl ⟨by kernel_rfl,fun W hS=>by rw[HVZ.out];have hSS:=(HSB.out W).1 hS;have q14:=hSS.cell 14 _ rfl;have q15:=hSS.cell 15 _ rfl;have q16:=hSS.cell 16 _ rfl;go_simp⟩)
  try go_simp
  refine take_store 8 rfl (by kernel_rfl) (by kernel_rfl) 69 (.tmp 4) (.tmp 19) rfl (w.heap.size+1+1) _ rfl HVY.out _ _ K4.out (by kernel_rfl) rfl (by simp[Value.oneCell']) (fun wn kb ON=>?_)
  replace K4:=Lh kb
  replace K5:=Lh (ON.blk K5.out (by have:=HNE.out;omega))
  replace HBm:=Lh (ON.blk HBm.out (by have:=HNE.out;omega))
  replace HON0:=Lh (HON0.out.trans ON (fun k _ e=>.inl e))
  clear ON kb
  refine ⟨(HSB.out _).2 HBm.out,?_⟩
  try go_simp
  refine take_store 9 rfl (by kernel_rfl) (by kernel_rfl) 63 (.tmp 5) (.tmp 23) rfl (w.heap.size+1+1+1) _ rfl HVZ.out _ _ K5.out (by kernel_rfl) rfl (by simp[Value.oneCell']) (fun wm kb ON=>?_)
  replace K5:=Lh kb
  replace K4:=Lh (ON.blk K4.out (by have:=HNE.out;omega))
  replace HBm:=Lh (ON.blk HBm.out (by have:=HNE.out;omega))
  replace HON0:=Lh (HON0.out.trans ON (fun k _ e=>.inr e))
  clear ON kb
  refine ⟨(HSB.out _).2 HBm.out,?_⟩
  try go_simp
  refine wpAnyH_done (by kernel_rfl) ?_ _
  try go_simp
  go_wp2_with fail
  have fr0:=K4.out.cell 0 _ rfl
  have fr1:=K4.out.cell 1 _ rfl
  have fr2:=K4.out.cell 2 _ rfl
  have fr3:=K4.out.cell 3 _ rfl
  have fr4:=K4.out.cell 4 _ rfl
  have fr5:=K4.out.cell 5 _ rfl
  have fr6:=K4.out.cell 6 _ rfl
  have fr7:=K4.out.cell 7 _ rfl
  have fr8:=K4.out.cell 8 _ rfl
  have fr9:=K4.out.cell 9 _ rfl
  have fr10:=K4.out.cell 10 _ rfl
  have fr11:=K4.out.cell 11 _ rfl
  have fr12:=K4.out.cell 12 _ rfl
  have fr13:=K4.out.cell 13 _ rfl
  have fu0:=K5.out.cell 0 _ rfl
  have fu1:=K5.out.cell 1 _ rfl
  have fu2:=K5.out.cell 2 _ rfl
  refine bodyPost_ret (v:=.tuple #[.agg (aC t y p v er),.agg (aW z1 h_ r_ k)]) (by simp[results,Tryz.results36,go_sem,fr0,fr1,fr2,fr3,fr4,fr5,fr6,fr7,fr8,fr9,fr10,fr11,fr12,fr13,fu0,fu1,fu2]) rfl ?_
  rw[←HPQ.out]
  rw[HNo.out]
  exact drop_end HM.out HBB.out (by omega) (by omega) (by have:=HNE.out;omega) (by have:=HNE.out;omega) HFL.out HON0.out
 | true =>
  by_cases h1:0≤p∧p≤2
  ·obtain ⟨h1,h2⟩:=h1
   rcases (by omega:p=0∨p=1∨p=2) with rfl | rfl | rfl
   ·have HNo:=Lh (drop_out ⟨t,0,v,er⟩ _ HRB.out h1 h2)
    have kw0:=KW.out.cell 0 _ rfl
    have kw1:=KW.out.cell 1 _ rfl
    have kw2:=KW.out.cell 2 _ rfl
    have kc11:∀W,Below w1.heap.size w1 W→W.cell? ⟨w.heap.size,11,none⟩=some (.int .i64 0):=fun W hW=>(KC.out.below hW).cell 11 _ rfl
    have HKC:=Lh kc11
    clear kc11
    go_wp2_with (refine (HR.out _ HBB.out).mono ?_;rintro e6 w6 ⟨rfl,b6⟩;have kc:=HKC.out _ b6)
    clear kc kw0 kw1 kw2
    replace HM:=Lh (mv_bl HM.out b6)
    replace HBB:=Lh (bl_trans HBB.out b6)
    replace KC:=Lh (KC.out.below b6)
    replace KW:=Lh (KW.out.below b6)
    replace K4:=Lh (K4.out.below b6)
    replace K5:=Lh (K5.out.below b6)
    clear b6
    refine (give_m W1.heap.size g ⟨t,0,v,er⟩ ⟨h_,r_,k⟩ y z1 8 w6 HM.out HF.out).mono ?_
    rintro e8 w8 ⟨z3,rfl,hm3,ho3⟩
    replace HNo:Hid (dropC ⟨t,0,v,er⟩ ⟨h_,r_,k⟩=(⟨t,6,0,8⟩,⟨h_,Stripe.letS r_ t.who,k⟩)):=HNo
    replace HM:Hid (Mv W1.heap.size w8 g ⟨t,6,0,8⟩ ⟨h_,Stripe.letS r_ t.who,k⟩ y z3):=Lh hm3
    generalize Stripe.letS r_ t.who=r2 at *
    replace HBB:=Lh (HBB.out.trans (ho3.below HBB.out.size (fun k hk e=>by have:=HNE.out;omega)))
    replace K4:=Lh (ho3.blk K4.out (by have:=HNE.out;omega))
    replace K5:=Lh (ho3.blk K5.out (by have:=HNE.out;omega))
    clear hm3 ho3
    go_wp2_with fail
    have HM:=Lh (mv_bl HM.out (Below.refl _ w8).drew)
    have HBB:=Lh (HBB.out.drew)
    have K4:=Lh (K4.out.below (Below.refl _ w8).drew)
    have K5:=Lh (K5.out.below (Below.refl _ w8).drew)
    have HBm:Hid (Blk w8.drew g 167 #[.int .i64 t.who,.int .i64 t.snap,.int .i64 t.pc,.slice y.R t.regs.length y.rc,.slice y.P t.path.length y.pc,.slice y.D t.reads.length y.dc,.slice y.L t.log.list.length y.lc,.slice y.M t.log.marks.length y.mc,.slice y.F y.fl.length y.fc,.int .i64 t.kind,.int .i64 t.why,.int .i64 6,.int .i64 0,.int .i64 8,.slice z3.H h_.length z3.hc,.slice z3.R r2.length z3.rc,.int .i64 k]):=Lh HM.out.blk
    obtain ⟨SB,hSB⟩:∃SB:World→Prop,∀W,SB W↔Blk W g 167 #[.int .i64 t.who,.int .i64 t.snap,.int .i64 t.pc,.slice y.R t.regs.length y.rc,.slice y.P t.path.length y.pc,.slice y.D t.reads.length y.dc,.slice y.L t.log.list.length y.lc,.slice y.M t.log.marks.length y.mc,.slice y.F y.fl.length y.fc,.int .i64 t.kind,.int .i64 t.why,.int .i64 6,.int .i64 0,.int .i64 8,.slice z3.H h_.length z3.hc,.slice z3.R r2.length z3.rc,.int .i64 k]:=⟨_,fun _=>Iff.rfl⟩
    have HSB:=Lh hSB
    clear hSB
    obtain ⟨vy,hvy⟩:∃vq_:Value,vq_=.agg (aC t y 6 0 8):=⟨_,rfl⟩
    have HVY:=Lh hvy
    clear hvy
    obtain ⟨vz,hvz⟩:∃vq_:Value,vq_=.agg (aW z3 h_ r2 k):=⟨_,rfl⟩
    have HVZ:=Lh hvz
    clear hvz
    have f0:SB w8.drew:=(HSB.out _).2 HBm.out
    refine wp_region_held_drew (S:=SB) (by kernel_rfl) f0 (fun hH0=>?_)
    clear f0
    generalize w8.drew=wd at *
    have HON0:Hid (Only (fun k=>k=w.heap.size+1+1∨k=w.heap.size+1+1+1) wd wd):=Lh (Only.refl _ _)
    refine tk 0 (.pointer (some ⟨g,0,none⟩)) rfl hH0 ?_
    try go_simp
    refine tk 1 (.pointer (some ⟨g,0,none⟩)) rfl hH0 ?_
    try go_simp
    refine tk 2 (.pointer (some ⟨g,0,none⟩)) rfl hH0 ?_
    try go_simp
    refine tk 3 vy rfl hH0 ?_ (hy:=Or.inl ⟨by kernel_rfl,fun W hS=>by rw[HVY.out];have hSS:=(HSB.out W).1 hS;have q0:=hSS.cell 0 _ rfl;have q1:=hSS.cell 1 _ rfl;have q2:=hSS.cell 2 _ rfl;have q3:=hSS.cell 3 _ rfl;have q4:=hSS.cell 4 _ rfl;have q5:=hSS.cell 5 _ rfl;have q6:=hSS.cell 6 _ rfl;have q7:=hSS.cell 7 _ rfl;have q8:=hSS.cell 8 _ rfl;have q9:=hSS.cell 9 _ rfl;have q10:=hSS.cell 10 _ rfl;have q11:=hSS.cell 11 _ rfl;have q12:=hSS.cell 12 _ rfl;have q13:=hSS.cell 13 _ rfl;go_simp⟩)
    try go_simp
    refine tk 4 (.pointer (some ⟨g,0,none⟩)) rfl hH0 ?_
    try go_simp
    refine tk 5 (.pointer (some ⟨g,0,none⟩)) rfl hH0 ?_
    try go_simp
    refine tk 6 (.pointer (some ⟨g,14,none⟩)) rfl hH0 ?_
    try go_simp
    refine tk 7 vz rfl hH0 ?_ (hy:=Or.inl ⟨by kernel_rfl,fun W hS=>by rw[HVZ.out];have hSS:=(HSB.out W).1 hS;have q14:=hSS.cell 14 _ rfl;have q15:=hSS.cell 15 _ rfl;have q16:=hSS.cell 16 _ rfl;go_simp⟩)
    try go_simp
    refine take_store 8 rfl (by kernel_rfl) (by kernel_rfl) 69 (.tmp 4) (.tmp 35) rfl (w.heap.size+1+1) _ rfl HVY.out _ _ K4.out (by kernel_rfl) rfl (by simp[Value.oneCell']) (fun wn kb ON=>?_)
    replace K4:=Lh kb
    replace K5:=Lh (ON.blk K5.out (by have:=HNE.out;omega))
    replace HBm:=Lh (ON.blk HBm.out (by have:=HNE.out;omega))
    replace HON0:=Lh (HON0.out.trans ON (fun k _ e=>.inl e))
    clear ON kb
    refine ⟨(HSB.out _).2 HBm.out,?_⟩
    try go_simp
    refine take_store 9 rfl (by kernel_rfl) (by kernel_rfl) 63 (.tmp 5) (.tmp 39) rfl (w.heap.size+1+1+1) _ rfl HVZ.out _ _ K5.out (by kernel_rfl) rfl (by simp[Value.oneCell']) (fun wm kb ON=>?_)
    replace K5:=Lh kb
    replace K4:=Lh (ON.blk K4.out (by have:=HNE.out;omega))
    replace HBm:=Lh (ON.blk HBm.out (by have:=HNE.out;omega))
    replace HON0:=Lh (HON0.out.trans ON (fun k _ e=>.inr e))
    clear ON kb
    refine ⟨(HSB.out _).2 HBm.out,?_⟩
    try go_simp
    refine wpAnyH_done (by kernel_rfl) ?_ _
    try go_simp
    go_wp2_with fail
    have fr0:=K4.out.cell 0 _ rfl
    have fr1:=K4.out.cell 1 _ rfl
    have fr2:=K4.out.cell 2 _ rfl
    have fr3:=K4.out.cell 3 _ rfl
    have fr4:=K4.out.cell 4 _ rfl
    have fr5:=K4.out.cell 5 _ rfl
    have fr6:=K4.out.cell 6 _ rfl
    have fr7:=K4.out.cell 7 _ rfl
    have fr8:=K4.out.cell 8 _ rfl
    have fr9:=K4.out.cell 9 _ rfl
    have fr10:=K4.out.cell 10 _ rfl
    have fr11:=K4.out.cell 11 _ rfl
    have fr12:=K4.out.cell 12 _ rfl
    have fr13:=K4.out.cell 13 _ rfl
    have fu0:=K5.out.cell 0 _ rfl
    have fu1:=K5.out.cell 1 _ rfl
    have fu2:=K5.out.cell 2 _ rfl
    refine bodyPost_ret (v:=.tuple #[.agg (aC t y 6 0 8),.agg (aW z3 h_ r2 k)]) (by simp[results,Tryz.results36,go_sem,fr0,fr1,fr2,fr3,fr4,fr5,fr6,fr7,fr8,fr9,fr10,fr11,fr12,fr13,fu0,fu1,fu2]) rfl ?_
    rw[←HPQ.out]
    rw[HNo.out]
    exact drop_end HM.out HBB.out (by omega) (by omega) (by have:=HNE.out;omega) (by have:=HNE.out;omega) HFL.out HON0.out
   ·have HNo:=Lh (drop_out ⟨t,1,v,er⟩ _ HRB.out h1 h2)
    have kw0:=KW.out.cell 0 _ rfl
    have kw1:=KW.out.cell 1 _ rfl
    have kw2:=KW.out.cell 2 _ rfl
    have kc11:∀W,Below w1.heap.size w1 W→W.cell? ⟨w.heap.size,11,none⟩=some (.int .i64 1):=fun W hW=>(KC.out.below hW).cell 11 _ rfl
    have HKC:=Lh kc11
    clear kc11
    go_wp2_with (refine (HR.out _ HBB.out).mono ?_;rintro e6 w6 ⟨rfl,b6⟩;have kc:=HKC.out _ b6)
    clear kc kw0 kw1 kw2
    replace HM:=Lh (mv_bl HM.out b6)
    replace HBB:=Lh (bl_trans HBB.out b6)
    replace KC:=Lh (KC.out.below b6)
    replace KW:=Lh (KW.out.below b6)
    replace K4:=Lh (K4.out.below b6)
    replace K5:=Lh (K5.out.below b6)
    clear b6
    refine (give_m W1.heap.size g ⟨t,1,v,er⟩ ⟨h_,r_,k⟩ y z1 8 w6 HM.out HF.out).mono ?_
    rintro e8 w8 ⟨z3,rfl,hm3,ho3⟩
    replace HNo:Hid (dropC ⟨t,1,v,er⟩ ⟨h_,r_,k⟩=(⟨t,6,0,8⟩,⟨h_,Stripe.letS r_ t.who,k⟩)):=HNo
    replace HM:Hid (Mv W1.heap.size w8 g ⟨t,6,0,8⟩ ⟨h_,Stripe.letS r_ t.who,k⟩ y z3):=Lh hm3
    generalize Stripe.letS r_ t.who=r2 at *
    replace HBB:=Lh (HBB.out.trans (ho3.below HBB.out.size (fun k hk e=>by have:=HNE.out;omega)))
    replace K4:=Lh (ho3.blk K4.out (by have:=HNE.out;omega))
    replace K5:=Lh (ho3.blk K5.out (by have:=HNE.out;omega))
    clear hm3 ho3
    go_wp2_with fail
    have HM:=Lh (mv_bl HM.out (Below.refl _ w8).drew)
    have HBB:=Lh (HBB.out.drew)
    have K4:=Lh (K4.out.below (Below.refl _ w8).drew)
    have K5:=Lh (K5.out.below (Below.refl _ w8).drew)
    have HBm:Hid (Blk w8.drew g 167 #[.int .i64 t.who,.int .i64 t.snap,.int .i64 t.pc,.slice y.R t.regs.length y.rc,.slice y.P t.path.length y.pc,.slice y.D t.reads.length y.dc,.slice y.L t.log.list.length y.lc,.slice y.M t.log.marks.length y.mc,.slice y.F y.fl.length y.fc,.int .i64 t.kind,.int .i64 t.why,.int .i64 6,.int .i64 0,.int .i64 8,.slice z3.H h_.length z3.hc,.slice z3.R r2.length z3.rc,.int .i64 k]):=Lh HM.out.blk
    obtain ⟨SB,hSB⟩:∃SB:World→Prop,∀W,SB W↔Blk W g 167 #[.int .i64 t.who,.int .i64 t.snap,.int .i64 t.pc,.slice y.R t.regs.length y.rc,.slice y.P t.path.length y.pc,.slice y.D t.reads.length y.dc,.slice y.L t.log.list.length y.lc,.slice y.M t.log.marks.length y.mc,.slice y.F y.fl.length y.fc,.int .i64 t.kind,.int .i64 t.why,.int .i64 6,.int .i64 0,.int .i64 8,.slice z3.H h_.length z3.hc,.slice z3.R r2.length z3.rc,.int .i64 k]:=⟨_,fun _=>Iff.rfl⟩
    have HSB:=Lh hSB
    clear hSB
    obtain ⟨vy,hvy⟩:∃vq_:Value,vq_=.agg (aC t y 6 0 8):=⟨_,rfl⟩
    have HVY:=Lh hvy
    clear hvy
    obtain ⟨vz,hvz⟩:∃vq_:Value,vq_=.agg (aW z3 h_ r2 k):=⟨_,rfl⟩
    have HVZ:=Lh hvz
    clear hvz
    have f0:SB w8.drew:=(HSB.out _).2 HBm.out
    refine wp_region_held_drew (S:=SB) (by kernel_rfl) f0 (fun hH0=>?_)
    clear f0
    generalize w8.drew=wd at *
    have HON0:Hid (Only (fun k=>k=w.heap.size+1+1∨k=w.heap.size+1+1+1) wd wd):=Lh (Only.refl _ _)
    refine tk 0 (.pointer (some ⟨g,0,none⟩)) rfl hH0 ?_
    try go_simp
    refine tk 1 (.pointer (some ⟨g,0,none⟩)) rfl hH0 ?_
    try go_simp
    refine tk 2 (.pointer (some ⟨g,0,none⟩)) rfl hH0 ?_
    try go_simp
    refine tk 3 vy rfl hH0 ?_ (hy:=Or.inl ⟨by kernel_rfl,fun W hS=>by rw[HVY.out];have hSS:=(HSB.out W).1 hS;have q0:=hSS.cell 0 _ rfl;have q1:=hSS.cell 1 _ rfl;have q2:=hSS.cell 2 _ rfl;have q3:=hSS.cell 3 _ rfl;have q4:=hSS.cell 4 _ rfl;have q5:=hSS.cell 5 _ rfl;have q6:=hSS.cell 6 _ rfl;have q7:=hSS.cell 7 _ rfl;have q8:=hSS.cell 8 _ rfl;have q9:=hSS.cell 9 _ rfl;have q10:=hSS.cell 10 _ rfl;have q11:=hSS.cell 11 _ rfl;have q12:=hSS.cell 12 _ rfl;have q13:=hSS.cell 13 _ rfl;go_simp⟩)
    try go_simp
    refine tk 4 (.pointer (some ⟨g,0,none⟩)) rfl hH0 ?_
    try go_simp
    refine tk 5 (.pointer (some ⟨g,0,none⟩)) rfl hH0 ?_
    try go_simp
    refine tk 6 (.pointer (some ⟨g,14,none⟩)) rfl hH0 ?_
    try go_simp
    refine tk 7 vz rfl hH0 ?_ (hy:=Or.inl ⟨by kernel_rfl,fun W hS=>by rw[HVZ.out];have hSS:=(HSB.out W).1 hS;have q14:=hSS.cell 14 _ rfl;have q15:=hSS.cell 15 _ rfl;have q16:=hSS.cell 16 _ rfl;go_simp⟩)
    try go_simp
    refine take_store 8 rfl (by kernel_rfl) (by kernel_rfl) 69 (.tmp 4) (.tmp 35) rfl (w.heap.size+1+1) _ rfl HVY.out _ _ K4.out (by kernel_rfl) rfl (by simp[Value.oneCell']) (fun wn kb ON=>?_)
    replace K4:=Lh kb
    replace K5:=Lh (ON.blk K5.out (by have:=HNE.out;omega))
    replace HBm:=Lh (ON.blk HBm.out (by have:=HNE.out;omega))
    replace HON0:=Lh (HON0.out.trans ON (fun k _ e=>.inl e))
    clear ON kb
    refine ⟨(HSB.out _).2 HBm.out,?_⟩
    try go_simp
    refine take_store 9 rfl (by kernel_rfl) (by kernel_rfl) 63 (.tmp 5) (.tmp 39) rfl (w.heap.size+1+1+1) _ rfl HVZ.out _ _ K5.out (by kernel_rfl) rfl (by simp[Value.oneCell']) (fun wm kb ON=>?_)
    replace K5:=Lh kb
    replace K4:=Lh (ON.blk K4.out (by have:=HNE.out;omega))
    replace HBm:=Lh (ON.blk HBm.out (by have:=HNE.out;omega))
    replace HON0:=Lh (HON0.out.trans ON (fun k _ e=>.inr e))
    clear ON kb
    refine ⟨(HSB.out _).2 HBm.out,?_⟩
    try go_simp
    refine wpAnyH_done (by kernel_rfl) ?_ _
    try go_simp
    go_wp2_with fail
    have fr0:=K4.out.cell 0 _ rfl
    have fr1:=K4.out.cell 1 _ rfl
    have fr2:=K4.out.cell 2 _ rfl
    have fr3:=K4.out.cell 3 _ rfl
    have fr4:=K4.out.cell 4 _ rfl
    have fr5:=K4.out.cell 5 _ rfl
    have fr6:=K4.out.cell 6 _ rfl
    have fr7:=K4.out.cell 7 _ rfl
    have fr8:=K4.out.cell 8 _ rfl
    have fr9:=K4.out.cell 9 _ rfl
    have fr10:=K4.out.cell 10 _ rfl
    have fr11:=K4.out.cell 11 _ rfl
    have fr12:=K4.out.cell 12 _ rfl
    have fr13:=K4.out.cell 13 _ rfl
    have fu0:=K5.out.cell 0 _ rfl
    have fu1:=K5.out.cell 1 _ rfl
    have fu2:=K5.out.cell 2 _ rfl
    refine bodyPost_ret (v:=.tuple #[.agg (aC t y 6 0 8),.agg (aW z3 h_ r2 k)]) (by simp[results,Tryz.results36,go_sem,fr0,fr1,fr2,fr3,fr4,fr5,fr6,fr7,fr8,fr9,fr10,fr11,fr12,fr13,fu0,fu1,fu2]) rfl ?_
    rw[←HPQ.out]
    rw[HNo.out]
    exact drop_end HM.out HBB.out (by omega) (by omega) (by have:=HNE.out;omega) (by have:=HNE.out;omega) HFL.out HON0.out
   ·have HNo:=Lh (drop_out ⟨t,2,v,er⟩ _ HRB.out h1 h2)
    have kw0:=KW.out.cell 0 _ rfl
    have kw1:=KW.out.cell 1 _ rfl
    have kw2:=KW.out.cell 2 _ rfl
    have kc11:∀W,Below w1.heap.size w1 W→W.cell? ⟨w.heap.size,11,none⟩=some (.int .i64 2):=fun W hW=>(KC.out.below hW).cell 11 _ rfl
    have HKC:=Lh kc11
    clear kc11
    go_wp2_with (refine (HR.out _ HBB.out).mono ?_;rintro e6 w6 ⟨rfl,b6⟩;have kc:=HKC.out _ b6)
    clear kc kw0 kw1 kw2
    replace HM:=Lh (mv_bl HM.out b6)
    replace HBB:=Lh (bl_trans HBB.out b6)
    replace KC:=Lh (KC.out.below b6)
    replace KW:=Lh (KW.out.below b6)
    replace K4:=Lh (K4.out.below b6)
    replace K5:=Lh (K5.out.below b6)
    clear b6
    refine (give_m W1.heap.size g ⟨t,2,v,er⟩ ⟨h_,r_,k⟩ y z1 8 w6 HM.out HF.out).mono ?_
    rintro e8 w8 ⟨z3,rfl,hm3,ho3⟩
    replace HNo:Hid (dropC ⟨t,2,v,er⟩ ⟨h_,r_,k⟩=(⟨t,6,0,8⟩,⟨h_,Stripe.letS r_ t.who,k⟩)):=HNo
    replace HM:Hid (Mv W1.heap.size w8 g ⟨t,6,0,8⟩ ⟨h_,Stripe.letS r_ t.who,k⟩ y z3):=Lh hm3
    generalize Stripe.letS r_ t.who=r2 at *
    replace HBB:=Lh (HBB.out.trans (ho3.below HBB.out.size (fun k hk e=>by have:=HNE.out;omega)))
    replace K4:=Lh (ho3.blk K4.out (by have:=HNE.out;omega))
    replace K5:=Lh (ho3.blk K5.out (by have:=HNE.out;omega))
    clear hm3 ho3
    go_wp2_with fail
    have HM:=Lh (mv_bl HM.out (Below.refl _ w8).drew)
    have HBB:=Lh (HBB.out.drew)
    have K4:=Lh (K4.out.below (Below.refl _ w8).drew)
    have K5:=Lh (K5.out.below (Below.refl _ w8).drew)
    have HBm:Hid (Blk w8.drew g 167 #[.int .i64 t.who,.int .i64 t.snap,.int .i64 t.pc,.slice y.R t.regs.length y.rc,.slice y.P t.path.length y.pc,.slice y.D t.reads.length y.dc,.slice y.L t.log.list.length y.lc,.slice y.M t.log.marks.length y.mc,.slice y.F y.fl.length y.fc,.int .i64 t.kind,.int .i64 t.why,.int .i64 6,.int .i64 0,.int .i64 8,.slice z3.H h_.length z3.hc,.slice z3.R r2.length z3.rc,.int .i64 k]):=Lh HM.out.blk
    obtain ⟨SB,hSB⟩:∃SB:World→Prop,∀W,SB W↔Blk W g 167 #[.int .i64 t.who,.int .i64 t.snap,.int .i64 t.pc,.slice y.R t.regs.length y.rc,.slice y.P t.path.length y.pc,.slice y.D t.reads.length y.dc,.slice y.L t.log.list.length y.lc,.slice y.M t.log.marks.length y.mc,.slice y.F y.fl.length y.fc,.int .i64 t.kind,.int .i64 t.why,.int .i64 6,.int .i64 0,.int .i64 8,.slice z3.H h_.length z3.hc,.slice z3.R r2.length z3.rc,.int .i64 k]:=⟨_,fun _=>Iff.rfl⟩
    have HSB:=Lh hSB
    clear hSB
    obtain ⟨vy,hvy⟩:∃vq_:Value,vq_=.agg (aC t y 6 0 8):=⟨_,rfl⟩
    have HVY:=Lh hvy
    clear hvy
    obtain ⟨vz,hvz⟩:∃vq_:Value,vq_=.agg (aW z3 h_ r2 k):=⟨_,rfl⟩
    have HVZ:=Lh hvz
    clear hvz
    have f0:SB w8.drew:=(HSB.out _).2 HBm.out
    refine wp_region_held_drew (S:=SB) (by kernel_rfl) f0 (fun hH0=>?_)
    clear f0
    generalize w8.drew=wd at *
    have HON0:Hid (Only (fun k=>k=w.heap.size+1+1∨k=w.heap.size+1+1+1) wd wd):=Lh (Only.refl _ _)
    refine tk 0 (.pointer (some ⟨g,0,none⟩)) rfl hH0 ?_
    try go_simp
    refine tk 1 (.pointer (some ⟨g,0,none⟩)) rfl hH0 ?_
    try go_simp
    refine tk 2 (.pointer (some ⟨g,0,none⟩)) rfl hH0 ?_
    try go_simp
    refine tk 3 vy rfl hH0 ?_ (hy:=Or.inl ⟨by kernel_rfl,fun W hS=>by rw[HVY.out];have hSS:=(HSB.out W).1 hS;have q0:=hSS.cell 0 _ rfl;have q1:=hSS.cell 1 _ rfl;have q2:=hSS.cell 2 _ rfl;have q3:=hSS.cell 3 _ rfl;have q4:=hSS.cell 4 _ rfl;have q5:=hSS.cell 5 _ rfl;have q6:=hSS.cell 6 _ rfl;have q7:=hSS.cell 7 _ rfl;have q8:=hSS.cell 8 _ rfl;have q9:=hSS.cell 9 _ rfl;have q10:=hSS.cell 10 _ rfl;have q11:=hSS.cell 11 _ rfl;have q12:=hSS.cell 12 _ rfl;have q13:=hSS.cell 13 _ rfl;go_simp⟩)
    try go_simp
    refine tk 4 (.pointer (some ⟨g,0,none⟩)) rfl hH0 ?_
    try go_simp
    refine tk 5 (.pointer (some ⟨g,0,none⟩)) rfl hH0 ?_
    try go_simp
    refine tk 6 (.pointer (some ⟨g,14,none⟩)) rfl hH0 ?_
    try go_simp
    refine tk 7 vz rfl hH0 ?_ (hy:=Or.inl ⟨by kernel_rfl,fun W hS=>by rw[HVZ.out];have hSS:=(HSB.out W).1 hS;have q14:=hSS.cell 14 _ rfl;have q15:=hSS.cell 15 _ rfl;have q16:=hSS.cell 16 _ rfl;go_simp⟩)
    try go_simp
    refine take_store 8 rfl (by kernel_rfl) (by kernel_rfl) 69 (.tmp 4) (.tmp 35) rfl (w.heap.size+1+1) _ rfl HVY.out _ _ K4.out (by kernel_rfl) rfl (by simp[Value.oneCell']) (fun wn kb ON=>?_)
    replace K4:=Lh kb
    replace K5:=Lh (ON.blk K5.out (by have:=HNE.out;omega))
    replace HBm:=Lh (ON.blk HBm.out (by have:=HNE.out;omega))
    replace HON0:=Lh (HON0.out.trans ON (fun k _ e=>.inl e))
    clear ON kb
    refine ⟨(HSB.out _).2 HBm.out,?_⟩
    try go_simp
    refine take_store 9 rfl (by kernel_rfl) (by kernel_rfl) 63 (.tmp 5) (.tmp 39) rfl (w.heap.size+1+1+1) _ rfl HVZ.out _ _ K5.out (by kernel_rfl) rfl (by simp[Value.oneCell']) (fun wm kb ON=>?_)
    replace K5:=Lh kb
    replace K4:=Lh (ON.blk K4.out (by have:=HNE.out;omega))
    replace HBm:=Lh (ON.blk HBm.out (by have:=HNE.out;omega))
    replace HON0:=Lh (HON0.out.trans ON (fun k _ e=>.inr e))
    clear ON kb
    refine ⟨(HSB.out _).2 HBm.out,?_⟩
    try go_simp
    refine wpAnyH_done (by kernel_rfl) ?_ _
    try go_simp
    go_wp2_with fail
    have fr0:=K4.out.cell 0 _ rfl
    have fr1:=K4.out.cell 1 _ rfl
    have fr2:=K4.out.cell 2 _ rfl
    have fr3:=K4.out.cell 3 _ rfl
    have fr4:=K4.out.cell 4 _ rfl
    have fr5:=K4.out.cell 5 _ rfl
    have fr6:=K4.out.cell 6 _ rfl
    have fr7:=K4.out.cell 7 _ rfl
    have fr8:=K4.out.cell 8 _ rfl
    have fr9:=K4.out.cell 9 _ rfl
    have fr10:=K4.out.cell 10 _ rfl
    have fr11:=K4.out.cell 11 _ rfl
    have fr12:=K4.out.cell 12 _ rfl
    have fr13:=K4.out.cell 13 _ rfl
    have fu0:=K5.out.cell 0 _ rfl
    have fu1:=K5.out.cell 1 _ rfl
    have fu2:=K5.out.cell 2 _ rfl
    refine bodyPost_ret (v:=.tuple #[.agg (aC t y 6 0 8),.agg (aW z3 h_ r2 k)]) (by simp[results,Tryz.results36,go_sem,fr0,fr1,fr2,fr3,fr4,fr5,fr6,fr7,fr8,fr9,fr10,fr11,fr12,fr13,fu0,fu1,fu2]) rfl ?_
    rw[←HPQ.out]
    rw[HNo.out]
    exact drop_end HM.out HBB.out (by omega) (by omega) (by have:=HNE.out;omega) (by have:=HNE.out;omega) HFL.out HON0.out
  ·have HNo:=Lh (drop_all ⟨t,p,v,er⟩ _ HRB.out h1)
   have kw0:=KW.out.cell 0 _ rfl
   have kw1:=KW.out.cell 1 _ rfl
   have kw2:=KW.out.cell 2 _ rfl
   have kc11:∀W,Below w1.heap.size w1 W→W.cell? ⟨w.heap.size,11,none⟩=some (.int .i64 p):=fun W hW=>(KC.out.below hW).cell 11 _ rfl
   have HKC:=Lh kc11
   clear kc11
   have b0:(p==0)=false:=beq_eq_false_iff_ne.2 (by omega)
   have b1:(p==1)=false:=beq_eq_false_iff_ne.2 (by omega)
   have b2:(p==2)=false:=beq_eq_false_iff_ne.2 (by omega)
   have n0:¬p=0:=by omega
   have n1:¬p=1:=by omega
   have n2:¬p=2:=by omega
   have HKC2:Hid (∀W,Below w1.heap.size w1 W→Blk W w.heap.size 69 (aC t x p v er)∧Blk W (w.heap.size+1) 63 (aW z h_ r_ k)):=Lh (fun W hW=>⟨KC.out.below hW,KW.out.below hW⟩)
   go_wp2_with (refine (HR.out _ HBB.out).mono ?_;rintro e6 w6 ⟨rfl,b6⟩;have kc:=HKC.out _ b6;have B6:=Lh b6;obtain ⟨kC,kD⟩:=HKC2.out _ b6;have a0:=kC.cell 0 _ rfl;have a1:=kC.cell 1 _ rfl;have a2:=kC.cell 2 _ rfl;have a3:=kC.cell 3 _ rfl;have a4:=kC.cell 4 _ rfl;have a5:=kC.cell 5 _ rfl;have a6:=kC.cell 6 _ rfl;have a7:=kC.cell 7 _ rfl;have a8:=kC.cell 8 _ rfl;have a9:=kC.cell 9 _ rfl;have a10:=kC.cell 10 _ rfl;have a11:=kC.cell 11 _ rfl;have a12:=kC.cell 12 _ rfl;have a13:=kC.cell 13 _ rfl;have c0:=kD.cell 0 _ rfl;have c1:=kD.cell 1 _ rfl;have c2:=kD.cell 2 _ rfl;clear kC kD b6 a11)
   clear kc kw0 kw1 kw2 b0 b1 b2 n0 n1 n2 a0 a1 a2 a3 a4 a5 a6 a7 a8 a9 a10 a12 a13 c0 c1 c2
   replace HM:=Lh (mv_bl HM.out B6.out)
   replace HBB:=Lh (bl_trans HBB.out B6.out)
   replace KC:=Lh (KC.out.below B6.out)
   replace KW:=Lh (KW.out.below B6.out)
   replace K4:=Lh (K4.out.below B6.out)
   replace K5:=Lh (K5.out.below B6.out)
   obtain ⟨r9,hr9⟩:∃r9,allC ⟨t,p,v,er⟩ ⟨h_,r_,k⟩=r9:=⟨_,rfl⟩
   have HA9:=HAL.out w6 HBB.out
   rw[hr9]at HA9 HNo
   clear hr9
   obtain ⟨⟨⟨t2,p2,v2,e2⟩,⟨h2,r2,k2⟩⟩,er9⟩:=r9
   refine HA9.mono ?_
   clear HA9
   rintro e9 w9 ⟨y2,z2,he9,hf2,hl2,b9⟩
   have he8:e9=.returned (.tuple #[.agg (aC t2 y2 p2 v2 e2),.agg (aW z2 h2 r2 k2),.int .i64 er9]):=he9
   clear he9
   subst he8
   have HFL2:Hid (y2.fl= []):=Lh hf2
   have HL2:Hid (∀w'',Only (fun k=>k<w6.heap.size) w9 w'' →TRd w'' t2 y2∧WRd w'' ⟨h2,r2,k2⟩ z2):=Lh hl2
   have HN6:Hid (w.heap.size+4≤w6.heap.size):=Lh (by have:=K5.out.lt;omega)
   replace HBB:=Lh (bl_trans HBB.out b9)
   replace K4:=Lh (K4.out.below b9)
   replace K5:=Lh (K5.out.below b9)
   have HN9:Hid (w6.heap.size≤w9.heap.size):=Lh b9.size
   clear hf2 hl2 b9
   have Ka:Hid (Blk ((w9.alloc (.cells z14 69)).alloc (.cells z3 63)) w9.heap.size 69 z14):=Lh ((Blk.new w9 _ _).alloc _)
   have Kb0:Hid (Blk ((w9.alloc (.cells z14 69)).alloc (.cells z3 63)) (w9.heap.size+1) 63 z3):=Lh (by have:=Blk.new (w9.alloc (.cells z14 69)) 63 z3;simpa only[World.size_alloc] using this)
   have Kb:Hid (Blk (((w9.alloc (.cells z14 69)).alloc (.cells z3 63)).setRow w9.heap.size (aC t2 y2 p2 v2 e2)) (w9.heap.size+1) 63 z3):=Lh ((row_only _ w9.heap.size _).blk Kb0.out (by omega))
   have HON9:Hid (Only (fun k=>k=w9.heap.size∨k=w9.heap.size+1) w9 ((((w9.alloc (.cells z14 69)).alloc (.cells z3 63)).setRow w9.heap.size (aC t2 y2 p2 v2 e2)).setRow (w9.heap.size+1) (aW z2 h2 r2 k2))):=Lh (((((Only.refl (fun k=>k=w9.heap.size∨k=w9.heap.size+1) w9).alloc _).alloc _).trans (row_only _ w9.heap.size _) (fun k _ e=>.inl e)).trans (row_only _ (w9.heap.size+1) _) (fun k _ e=>.inr e))
   have Kc:Hid (Blk ((((w9.alloc (.cells z14 69)).alloc (.cells z3 63)).setRow w9.heap.size (aC t2 y2 p2 v2 e2)).setRow (w9.heap.size+1) (aW z2 h2 r2 k2)) w9.heap.size 69 (aC t2 y2 p2 v2 e2)):=Lh ((row_only _ (w9.heap.size+1) _).blk (row_blk Ka.out) (by omega))
   have Kd:Hid (Blk ((((w9.alloc (.cells z14 69)).alloc (.cells z3 63)).setRow w9.heap.size (aC t2 y2 p2 v2 e2)).setRow (w9.heap.size+1) (aW z2 h2 r2 k2)) (w9.heap.size+1) 63 (aW z2 h2 r2 k2)):=Lh (row_blk Kb.out)
   go_wp2_with (first | (refine wpList_store_row rfl 69 _ _ rfl w9.heap.size (aC t2 y2 p2 v2 e2) rfl rfl 69 _ Ka.out (by kernel_rfl) rfl (by simp[Value.oneCell']) ?_) | (refine wpList_store_row rfl 63 _ _ rfl (w9.heap.size+1) (aW z2 h2 r2 k2) rfl rfl 63 _ Kb.out (by kernel_rfl) rfl (by simp[Value.oneCell']) ?_))
   replace K4:=Lh (HON9.out.blk K4.out (by have:=HN6.out;have:=HN9.out;omega))
   replace K5:=Lh (HON9.out.blk K5.out (by have:=HN6.out;have:=HN9.out;omega))
   replace HBB:=Lh (HBB.out.trans (HON9.out.below HBB.out.size (fun k hk e=>by have:=HN6.out;have:=HN9.out;omega)))
   generalize ((((w9.alloc (.cells z14 69)).alloc (.cells z3 63)).setRow w9.heap.size (aC t2 y2 p2 v2 e2)).setRow (w9.heap.size+1) (aW z2 h2 r2 k2))=wZ at *
   have HON0:=Lh (HON9.out.bl (Below.refl _ wZ).drew)
   replace HBB:=Lh (HBB.out.drew)
   replace K4:=Lh (K4.out.below (Below.refl _ wZ).drew)
   replace K5:=Lh (K5.out.below (Below.refl _ wZ).drew)
   replace Kc:=Lh (Kc.out.below (Below.refl _ wZ).drew)
   replace Kd:=Lh (Kd.out.below (Below.refl _ wZ).drew)
   obtain ⟨SB,hSB⟩:∃SB:World→Prop,∀W,SB W↔(Blk W w9.heap.size 69 (aC t2 y2 p2 v2 e2)∧Blk W (w9.heap.size+1) 63 (aW z2 h2 r2 k2)):=⟨_,fun _=>Iff.rfl⟩
   have HSB:=Lh hSB
   clear hSB
   obtain ⟨vy,hvy⟩:∃vq_:Value,vq_=.agg (aC t2 y2 p2 v2 e2):=⟨_,rfl⟩
   have HVY:=Lh hvy
   clear hvy
   obtain ⟨vz,hvz⟩:∃vq_:Value,vq_=.agg (aW z2 h2 r2 k2):=⟨_,rfl⟩
   have HVZ:=Lh hvz
   clear hvz
   have f0:SB wZ.drew:=(HSB.out _).2 ⟨Kc.out,Kd.out⟩
   refine wp_region_held_drew (S:=SB) (by kernel_rfl) f0 (fun hH0=>?_)
   clear f0
   generalize wZ.drew=wd at *
   refine tk 0 vy rfl hH0 ?_ (hy:=Or.inl ⟨by kernel_rfl,fun W hS=>by rw[HVY.out];have hSS:=((HSB.out W).1 hS).1;have q0:=hSS.cell 0 _ rfl;have q1:=hSS.cell 1 _ rfl;have q2:=hSS.cell 2 _ rfl;have q3:=hSS.cell 3 _ rfl;have q4:=hSS.cell 4 _ rfl;have q5:=hSS.cell 5 _ rfl;have q6:=hSS.cell 6 _ rfl;have q7:=hSS.cell 7 _ rfl;have q8:=hSS.cell 8 _ rfl;have q9:=hSS.cell 9 _ rfl;have q10:=hSS.cell 10 _ rfl;have q11:=hSS.cell 11 _ rfl;have q12:=hSS.cell 12 _ rfl;have q13:=hSS.cell 13 _ rfl;go_simp⟩)
   try go_simp
   refine tk 1 vz rfl hH0 ?_ (hy:=Or.inl ⟨by kernel_rfl,fun W hS=>by rw[HVZ.out];have hSS:=((HSB.out W).1 hS).2;have q0:=hSS.cell 0 _ rfl;have q1:=hSS.cell 1 _ rfl;have q2:=hSS.cell 2 _ rfl;go_simp⟩)
   try go_simp
   have HOX:Hid (Only (fun k=>k=w.heap.size+1+1∨k=w.heap.size+1+1+1) wd wd):=Lh (Only.refl _ _)
   refine take_store 2 rfl (by kernel_rfl) (by kernel_rfl) 69 (.tmp 4) (.tmp 47) rfl (w.heap.size+1+1) _ rfl HVY.out _ _ K4.out (by kernel_rfl) rfl (by simp[Value.oneCell']) (fun wn kb ON=>?_)
   replace K4:=Lh kb
   replace K5:=Lh (ON.blk K5.out (by have:=HN6.out;have:=HN9.out;omega))
   replace Kc:=Lh (ON.blk Kc.out (by have:=HN6.out;have:=HN9.out;omega))
   replace Kd:=Lh (ON.blk Kd.out (by have:=HN6.out;have:=HN9.out;omega))
   replace HOX:=Lh (HOX.out.trans ON (fun k _ e=>.inl e))
   clear ON kb
   refine ⟨(HSB.out _).2 ⟨Kc.out,Kd.out⟩,?_⟩
   try go_simp
   refine take_store 3 rfl (by kernel_rfl) (by kernel_rfl) 63 (.tmp 5) (.tmp 48) rfl (w.heap.size+1+1+1) _ rfl HVZ.out _ _ K5.out (by kernel_rfl) rfl (by simp[Value.oneCell']) (fun wm kb ON=>?_)
   replace K5:=Lh kb
   replace K4:=Lh (ON.blk K4.out (by have:=HN6.out;have:=HN9.out;omega))
   replace Kc:=Lh (ON.blk Kc.out (by have:=HN6.out;have:=HN9.out;omega))
   replace Kd:=Lh (ON.blk Kd.out (by have:=HN6.out;have:=HN9.out;omega))
   replace HOX:=Lh (HOX.out.trans ON (fun k _ e=>.inr e))
   clear ON kb
   refine ⟨(HSB.out _).2 ⟨Kc.out,Kd.out⟩,?_⟩
   try go_simp
   refine wpAnyH_done (by kernel_rfl) ?_ _
   try go_simp
   go_wp2_with fail
   have fr0:=K4.out.cell 0 _ rfl
   have fr1:=K4.out.cell 1 _ rfl
   have fr2:=K4.out.cell 2 _ rfl
   have fr3:=K4.out.cell 3 _ rfl
   have fr4:=K4.out.cell 4 _ rfl
   have fr5:=K4.out.cell 5 _ rfl
   have fr6:=K4.out.cell 6 _ rfl
   have fr7:=K4.out.cell 7 _ rfl
   have fr8:=K4.out.cell 8 _ rfl
   have fr9:=K4.out.cell 9 _ rfl
   have fr10:=K4.out.cell 10 _ rfl
   have fr11:=K4.out.cell 11 _ rfl
   have fr12:=K4.out.cell 12 _ rfl
   have fr13:=K4.out.cell 13 _ rfl
   have fu0:=K5.out.cell 0 _ rfl
   have fu1:=K5.out.cell 1 _ rfl
   have fu2:=K5.out.cell 2 _ rfl
   refine bodyPost_ret (v:=.tuple #[.agg (aC t2 y2 p2 v2 e2),.agg (aW z2 h2 r2 k2)]) (by simp[results,Tryz.results36,go_sem,fr0,fr1,fr2,fr3,fr4,fr5,fr6,fr7,fr8,fr9,fr10,fr11,fr12,fr13,fu0,fu1,fu2]) rfl ?_
   rw[←HPQ.out,HNo.out]
   exact ⟨y2,z2,rfl,HFL2.out,fun w'' ho=>HL2.out w'' (((HON0.out.sub (S2:=fun k=>k<w6.heap.size) (fun k hk e=>by omega)).trans HOX.out (fun k hk e=>by have:=HN6.out;omega)).trans ho (fun k hk e=>by have:=HN6.out;omega)),HBB.out.trans (HOX.out.below HBB.out.size (fun k hk e=>by omega))⟩
def RetBegin (w:World) (r:Com × Bool) (e:Ending) (w' :World):Prop:=
 ∃y,e=.returned (.tuple #[.agg (cvl r.1 y).toArray,.int .i64 (if r.2=true then 0 else 1)])∧y.fl= []∧(∀w'',Only (fun k=>k<w.heap.size) w' w'' →TRd w'' r.1.t y)∧Below w.heap.size w w'
def tlz:TL:=⟨none,0,none,0,none,0,none,0,none,0,none,0,[]⟩
theorem none_rd (W:World):TRd W none_ tlz:=⟨Rd.none_,Rd.none_,Rd.none_,Nat.le_refl _,⟨Rd.none_,Rd.none_,Nat.le_refl _,Nat.le_refl _⟩,Rd.none_,fun _ h=>(nomatch h),rfl⟩
theorem begin_no (t:Try) (h:¬t.kind=1):beginC t=(⟨none_,0,0,0⟩,false):=by unfold beginC;rw[if_neg h]
theorem begin_in (t:Try) (h:t.kind=1) (hl:Writes.lastS t.log= []):beginC t=(⟨t,5,t.snap,0⟩,true):=by unfold beginC;rw[if_pos h,if_pos (show lastC ⟨t,0,0,0⟩= [] from hl)]
theorem begin_lock (t:Try) (h:t.kind=1) (hl:¬Writes.lastS t.log= []):beginC t=(⟨t,0,0,0⟩,true):=by unfold beginC;rw[if_pos h,if_neg (show¬lastC ⟨t,0,0,0⟩= [] from hl)]
set_option maxHeartbeats 4000000 in
theorem begin_c (t:Try) (x:TL) (w:World) (h:TRd w t x) (hs:Short t x) (hx:t.kind=1→x.fl= []):
  Calls Tryz.prog 27 #[.agg (tvl t x).toArray] w (RetBegin w (beginC t)):=by
 obtain ⟨PQ,hPQ⟩:∃PQ,RetBegin w (beginC t)=PQ:=⟨_,rfl⟩
 have HPQ:=Lh hPQ
 rw[hPQ]
 clear hPQ
 have HT:=Lh h
 have HS:=Lh hs
 have HX:=Lh hx
 clear h hs hx
 obtain ⟨kd,hkd⟩:∃kd,t.kind=kd:=⟨_,rfl⟩
 have HKD:=Lh hkd
 show Calls Tryz.prog 27 #[.agg (aT t x)] w PQ
 have HB1:Hid (Below w.heap.size w ((w.alloc (.cells (aT t x) 34)).alloc (.cells z14 69))):=Lh (bl_alloc (bl_alloc (Below.refl _ _) _) _)
 have HSZ:Hid (((w.alloc (.cells (aT t x) 34)).alloc (.cells z14 69)).heap.size=w.heap.size+2):=Lh (by simp only[World.size_alloc])
 have K1:Hid (Blk ((w.alloc (.cells (aT t x) 34)).alloc (.cells z14 69)) w.heap.size 34 (aT t x)):=Lh ((Blk.new w _ _).alloc _)
 have K2:Hid (Blk ((w.alloc (.cells (aT t x) 34)).alloc (.cells z14 69)) (w.heap.size+1) 69 z14):=Lh (by have:=Blk.new (w.alloc (.cells (aT t x) 34)) 69 z14;simpa only[World.size_alloc] using this)
 have a9:=K1.out.cell 9 _ rfl
 by_cases h1:kd=1
 ·subst h1
  have HX0:Hid (x.fl= []):=Lh (HX.out hkd)
  obtain ⟨ls,hls⟩:∃ls,Writes.lastS t.log=ls:=⟨_,rfl⟩
  obtain ⟨q,hq⟩:∃q,ls.length=q:=⟨_,rfl⟩
  have HLS:=Lh hls
  have HQ:=Lh hq
  have HLC:Hid (∀W:World,Below w.heap.size w W→Calls Tryz.prog 78 #[.agg #[.slice x.L t.log.list.length x.lc,.slice x.M t.log.marks.length x.mc]] W (fun e w' =>∃(E:Option Addr) (f:Nat),e=.returned (.slice E q f)∧Own W w' 97 2 (.slice E q f) q (Heap.ws ls))):=Lh (fun W hW=>last_w t.log x.L x.M t.log.list.length x.lc t.log.marks.length x.mc W ls q (HT.out.log.below hW) HS.out.n4 HS.out.n5 hls hq)
  have HCT:Hid (Calls Tryz.prog 81 #[.agg (aT t x)] ((w.alloc (.cells (aT t x) 34)).alloc (.cells z14 69)) (fun e w' =>∃y:TL,e=.returned (.agg (aT t y))∧Lays ((w.alloc (.cells (aT t x) 34)).alloc (.cells z14 69)) w' t x y∧y.fl=x.fl∧Below ((w.alloc (.cells (aT t x) 34)).alloc (.cells z14 69)).heap.size ((w.alloc (.cells (aT t x) 34)).alloc (.cells z14 69)) w')):=Lh ((clone_try t x ((w.alloc (.cells (aT t x) 34)).alloc (.cells z14 69)) (HT.out.below HB1.out) HS.out.n1 HS.out.n2 HS.out.n3 HS.out.n4 HS.out.n5 HS.out.n6).mono (fun e w' ⟨y,h1,h2,h3,h4⟩=>⟨y,h1,h2,h3,h4⟩))
  clear hls hq
  have a0:=K1.out.cell 0 _ rfl
  have a1:=K1.out.cell 1 _ rfl
  have a2:=K1.out.cell 2 _ rfl
  have a3:=K1.out.cell 3 _ rfl
  have a4:=K1.out.cell 4 _ rfl
  have a5:=K1.out.cell 5 _ rfl
  have a6:=K1.out.cell 6 _ rfl
  have a7:=K1.out.cell 7 _ rfl
  have a8:=K1.out.cell 8 _ rfl
  have a10:=K1.out.cell 10 _ rfl
  have hb1:(t.kind !=1)=false:=by rw[hkd];rfl
  clear hkd
  go_enter Tryz.func27,Tryz.ntmps27
  go_wp2_with fail
  refine HCT.out.mono ?_
  rintro e_ w2 ⟨y,rfl,ty,efl,b_⟩
  clear HCT a0 a1 a2 a3 a4 a5 a6 a7 a8 a9 a10
  generalize ((w.alloc (.cells (aT t x) 34)).alloc (.cells z14 69))=W1 at *
  have TY:=Lh ty
  have EF:Hid (y.fl= []):=Lh (efl.trans HX0.out)
  replace HB1:=Lh (bl_trans HB1.out b_)
  replace K1:=Lh (K1.out.below b_)
  replace K2:=Lh (K2.out.below b_)
  have HS2:Hid (W1.heap.size≤w2.heap.size):=Lh b_.size
  clear ty efl b_
  have K4z:Hid (Blk (w2.alloc (.cells z14 69)) w2.heap.size 69 z14):=Lh (Blk.new w2 _ _)
  have K4:Hid (Blk ((w2.alloc (.cells z14 69)).setRow w2.heap.size (aC t y 0 0 0)) w2.heap.size 69 (aC t y 0 0 0)):=Lh (row_blk K4z.out)
  have ON3:Hid (Only (fun k=>k=w2.heap.size) w2 ((w2.alloc (.cells z14 69)).setRow w2.heap.size (aC t y 0 0 0))):=Lh (((Only.refl (fun k=>k=w2.heap.size) w2).alloc _).trans (row_only _ w2.heap.size _) (fun k _ e=>e))
  have HN2:Hid (w.heap.size+2≤w2.heap.size∧W1.heap.size=w.heap.size+2):=Lh ⟨by have h1:=HS2.out;have h2:=HSZ.out;omega,HSZ.out⟩
  have HB3:Hid (Below w.heap.size w ((w2.alloc (.cells z14 69)).setRow w2.heap.size (aC t y 0 0 0))):=Lh (HB1.out.trans (ON3.out.below HB1.out.size (fun k hk e=>by have:=HN2.out;omega)))
  have K13:Hid (Blk ((w2.alloc (.cells z14 69)).setRow w2.heap.size (aC t y 0 0 0)) w.heap.size 34 (aT t x)):=Lh (ON3.out.blk K1.out (by have:=HN2.out;omega))
  have K23:Hid (Blk ((w2.alloc (.cells z14 69)).setRow w2.heap.size (aC t y 0 0 0)) (w.heap.size+1) 69 z14):=Lh (ON3.out.blk K2.out (by have:=HN2.out;omega))
  have a6:=K13.out.cell 6 _ rfl
  have a7:=K13.out.cell 7 _ rfl
  go_wp2_with (refine wpList_store_row rfl 69 _ _ rfl w2.heap.size (aC t y 0 0 0) rfl rfl 69 _ K4z.out (by kernel_rfl) rfl (by simp[Value.oneCell']) ?_)
  clear K4z a6 a7
  generalize ((w2.alloc (.cells z14 69)).setRow w2.heap.size (aC t y 0 0 0))=w3 at *
  refine (HLC.out w3 HB3.out).mono ?_
  rintro e5 w5 ⟨E,fe,rfl,hol⟩
  replace HB3:=Lh (bl_trans HB3.out hol.2)
  replace K13:=Lh (K13.out.below hol.2)
  replace K23:=Lh (K23.out.below hol.2)
  replace K4:=Lh (K4.out.below hol.2)
  replace ON3:Hid (Only (fun k=>k=w2.heap.size) w2 w5):=Lh (ON3.out.bl hol.2)
  clear hol
  by_cases h0:q=0
  ·subst h0
   have HNo:=Lh (begin_in t HKD.out (by rw[HLS.out];exact List.eq_nil_of_length_eq_zero HQ.out))
   have s1:=K13.out.cell 1 _ rfl
   have s11:=K4.out.cell 11 _ rfl
   have s12:=K4.out.cell 12 _ rfl
   have f11:=K4.out.frozen 11
   have f12:=K4.out.frozen 12
   go_wp2_with fail
   have K4f:Hid (Blk ((w5.setCell ⟨w2.heap.size,11,none⟩ (.int .i64 5)).setCell ⟨w2.heap.size,12,none⟩ (.int .i64 t.snap)).drew w2.heap.size 69 #[.int .i64 t.who,.int .i64 t.snap,.int .i64 t.pc,.slice y.R t.regs.length y.rc,.slice y.P t.path.length y.pc,.slice y.D t.reads.length y.dc,.slice y.L t.log.list.length y.lc,.slice y.M t.log.marks.length y.mc,.slice y.F y.fl.length y.fc,.int .i64 t.kind,.int .i64 t.why,.int .i64 5,.int .i64 t.snap,.int .i64 0]):=Lh (((K4.out.set_ 11 (.int .i64 5)).set_ 12 (.int .i64 t.snap)).below (Below.refl _ _).drew)
   have ONf:Hid (Only (fun k=>k=w2.heap.size) w2 ((w5.setCell ⟨w2.heap.size,11,none⟩ (.int .i64 5)).setCell ⟨w2.heap.size,12,none⟩ (.int .i64 t.snap)).drew):=Lh (((ON3.out.put w2.heap.size 11 _ rfl).put w2.heap.size 12 _ rfl).bl (Below.refl _ _).drew)
   have HBf:Hid (Below w.heap.size w ((w5.setCell ⟨w2.heap.size,11,none⟩ (.int .i64 5)).setCell ⟨w2.heap.size,12,none⟩ (.int .i64 t.snap)).drew):=Lh (bl_set (bl_set HB3.out (p:=⟨w2.heap.size,11,none⟩) (show w.heap.size≤w2.heap.size by have:=HN2.out;omega) _) (p:=⟨w2.heap.size,12,none⟩) (show w.heap.size≤w2.heap.size by have:=HN2.out;omega) _).drew
   have K2f:Hid (Blk ((w5.setCell ⟨w2.heap.size,11,none⟩ (.int .i64 5)).setCell ⟨w2.heap.size,12,none⟩ (.int .i64 t.snap)).drew (w.heap.size+1) 69 z14):=Lh (((K23.out.beside (show w2.heap.size≠w.heap.size+1 by have:=HN2.out;omega) 11 _).beside (show w2.heap.size≠w.heap.size+1 by have:=HN2.out;omega) 12 _).below (Below.refl _ _).drew)
   go_region
   clear s1 s11 s12 f11 f12
   generalize ((w5.setCell ⟨w2.heap.size,11,none⟩ (.int .i64 5)).setCell ⟨w2.heap.size,12,none⟩ (.int .i64 t.snap)).drew=wF at *
   have KE:Hid (Blk (wF.setRow (w.heap.size+1) #[.int .i64 t.who,.int .i64 t.snap,.int .i64 t.pc,.slice y.R t.regs.length y.rc,.slice y.P t.path.length y.pc,.slice y.D t.reads.length y.dc,.slice y.L t.log.list.length y.lc,.slice y.M t.log.marks.length y.mc,.slice y.F y.fl.length y.fc,.int .i64 t.kind,.int .i64 t.why,.int .i64 5,.int .i64 t.snap,.int .i64 0]) (w.heap.size+1) 69 #[.int .i64 t.who,.int .i64 t.snap,.int .i64 t.pc,.slice y.R t.regs.length y.rc,.slice y.P t.path.length y.pc,.slice y.D t.reads.length y.dc,.slice y.L t.log.list.length y.lc,.slice y.M t.log.marks.length y.mc,.slice y.F y.fl.length y.fc,.int .i64 t.kind,.int .i64 t.why,.int .i64 5,.int .i64 t.snap,.int .i64 0]):=Lh (row_blk K2f.out)
   have HBE:Hid (Below w.heap.size w (wF.setRow (w.heap.size+1) #[.int .i64 t.who,.int .i64 t.snap,.int .i64 t.pc,.slice y.R t.regs.length y.rc,.slice y.P t.path.length y.pc,.slice y.D t.reads.length y.dc,.slice y.L t.log.list.length y.lc,.slice y.M t.log.marks.length y.mc,.slice y.F y.fl.length y.fc,.int .i64 t.kind,.int .i64 t.why,.int .i64 5,.int .i64 t.snap,.int .i64 0])):=Lh (HBf.out.trans ((row_only wF (w.heap.size+1) _).below HBf.out.size (fun k hk e=>by omega)))
   have ONE:Hid (Only (fun k=>k=w2.heap.size∨k=w.heap.size+1) w2 (wF.setRow (w.heap.size+1) #[.int .i64 t.who,.int .i64 t.snap,.int .i64 t.pc,.slice y.R t.regs.length y.rc,.slice y.P t.path.length y.pc,.slice y.D t.reads.length y.dc,.slice y.L t.log.list.length y.lc,.slice y.M t.log.marks.length y.mc,.slice y.F y.fl.length y.fc,.int .i64 t.kind,.int .i64 t.why,.int .i64 5,.int .i64 t.snap,.int .i64 0])):=Lh ((ONf.out.sub (fun _ _ e=>.inl e)).trans (row_only wF (w.heap.size+1) _) (fun k _ e=>.inr e))
   have a0:=K4f.out.cell 0 _ rfl
   have a1:=K4f.out.cell 1 _ rfl
   have a2:=K4f.out.cell 2 _ rfl
   have a3:=K4f.out.cell 3 _ rfl
   have a4:=K4f.out.cell 4 _ rfl
   have a5:=K4f.out.cell 5 _ rfl
   have a6:=K4f.out.cell 6 _ rfl
   have a7:=K4f.out.cell 7 _ rfl
   have a8:=K4f.out.cell 8 _ rfl
   have a9:=K4f.out.cell 9 _ rfl
   have a10:=K4f.out.cell 10 _ rfl
   have a11:=K4f.out.cell 11 _ rfl
   have a12:=K4f.out.cell 12 _ rfl
   have a13:=K4f.out.cell 13 _ rfl
   go_wp2_with (refine wpList_store_row rfl 69 _ _ rfl (w.heap.size+1) #[.int .i64 t.who,.int .i64 t.snap,.int .i64 t.pc,.slice y.R t.regs.length y.rc,.slice y.P t.path.length y.pc,.slice y.D t.reads.length y.dc,.slice y.L t.log.list.length y.lc,.slice y.M t.log.marks.length y.mc,.slice y.F y.fl.length y.fc,.int .i64 t.kind,.int .i64 t.why,.int .i64 5,.int .i64 t.snap,.int .i64 0] rfl rfl 69 _ K2f.out (by kernel_rfl) rfl (by simp[Value.oneCell']) ?_)
   clear a0 a1 a2 a3 a4 a5 a6 a7 a8 a9 a10 a11 a12 a13
   generalize (wF.setRow (w.heap.size+1) #[.int .i64 t.who,.int .i64 t.snap,.int .i64 t.pc,.slice y.R t.regs.length y.rc,.slice y.P t.path.length y.pc,.slice y.D t.reads.length y.dc,.slice y.L t.log.list.length y.lc,.slice y.M t.log.marks.length y.mc,.slice y.F y.fl.length y.fc,.int .i64 t.kind,.int .i64 t.why,.int .i64 5,.int .i64 t.snap,.int .i64 0])=wE at *
   have fr0:=KE.out.cell 0 _ rfl
   have fr1:=KE.out.cell 1 _ rfl
   have fr2:=KE.out.cell 2 _ rfl
   have fr3:=KE.out.cell 3 _ rfl
   have fr4:=KE.out.cell 4 _ rfl
   have fr5:=KE.out.cell 5 _ rfl
   have fr6:=KE.out.cell 6 _ rfl
   have fr7:=KE.out.cell 7 _ rfl
   have fr8:=KE.out.cell 8 _ rfl
   have fr9:=KE.out.cell 9 _ rfl
   have fr10:=KE.out.cell 10 _ rfl
   have fr11:=KE.out.cell 11 _ rfl
   have fr12:=KE.out.cell 12 _ rfl
   have fr13:=KE.out.cell 13 _ rfl
   refine bodyPost_ret (v:=.tuple #[.agg #[.int .i64 t.who,.int .i64 t.snap,.int .i64 t.pc,.slice y.R t.regs.length y.rc,.slice y.P t.path.length y.pc,.slice y.D t.reads.length y.dc,.slice y.L t.log.list.length y.lc,.slice y.M t.log.marks.length y.mc,.slice y.F y.fl.length y.fc,.int .i64 t.kind,.int .i64 t.why,.int .i64 5,.int .i64 t.snap,.int .i64 0],.int .i64 0]) (by simp[results,Tryz.results27,go_sem,fr0,fr1,fr2,fr3,fr4,fr5,fr6,fr7,fr8,fr9,fr10,fr11,fr12,fr13]) rfl ?_
   rw[←HPQ.out,HNo.out]
   exact ⟨y,rfl,EF.out,fun w'' ho=>TY.out (fun k=>k<w.heap.size+2) w'' ((ONE.out.sub (S2:=fun k=>k<w.heap.size+2) (fun k hk e=>by have:=HN2.out;omega)).trans ho (fun k _ e=>by omega)) (fun k hk=>by have:=HN2.out;omega) (fun r hr=>by have e:x.fl= []:=HX0.out;rw[e]at hr;cases hr),HBE.out⟩
  ·have HNo:=Lh (begin_lock t HKD.out (by rw[HLS.out];intro e;rw[e]at HQ;exact h0 HQ.out.symm))
   have hq0:((q:Int)==0)=false:=beq_eq_false_iff_ne.2 (by omega)
   have hq1:¬(q:Int)=0:=by omega
   have K4f:=K4
   have ONf:=ON3
   have HBf:=HB3
   have K2f:=K23
   clear K4 ON3 HB3 K23
   have KE:Hid (Blk (w5.setRow (w.heap.size+1) (aC t y 0 0 0)) (w.heap.size+1) 69 (aC t y 0 0 0)):=Lh (row_blk K2f.out)
   have HBE:Hid (Below w.heap.size w (w5.setRow (w.heap.size+1) (aC t y 0 0 0))):=Lh (HBf.out.trans ((row_only w5 (w.heap.size+1) _).below HBf.out.size (fun k hk e=>by omega)))
   have ONE:Hid (Only (fun k=>k=w2.heap.size∨k=w.heap.size+1) w2 (w5.setRow (w.heap.size+1) (aC t y 0 0 0))):=Lh ((ONf.out.sub (fun _ _ e=>.inl e)).trans (row_only w5 (w.heap.size+1) _) (fun k _ e=>.inr e))
   have a0:=K4f.out.cell 0 _ rfl
   have a1:=K4f.out.cell 1 _ rfl
   have a2:=K4f.out.cell 2 _ rfl
   have a3:=K4f.out.cell 3 _ rfl
   have a4:=K4f.out.cell 4 _ rfl
   have a5:=K4f.out.cell 5 _ rfl
   have a6:=K4f.out.cell 6 _ rfl
   have a7:=K4f.out.cell 7 _ rfl
   have a8:=K4f.out.cell 8 _ rfl
   have a9:=K4f.out.cell 9 _ rfl
   have a10:=K4f.out.cell 10 _ rfl
   have a11:=K4f.out.cell 11 _ rfl
   have a12:=K4f.out.cell 12 _ rfl
   have a13:=K4f.out.cell 13 _ rfl
   go_wp2_with (refine wpList_store_row rfl 69 _ _ rfl (w.heap.size+1) (aC t y 0 0 0) rfl rfl 69 _ K2f.out (by kernel_rfl) rfl (by simp[Value.oneCell']) ?_)
   clear a0 a1 a2 a3 a4 a5 a6 a7 a8 a9 a10 a11 a12 a13
   generalize (w5.setRow (w.heap.size+1) (aC t y 0 0 0))=wE at *
   have fr0:=KE.out.cell 0 _ rfl
   have fr1:=KE.out.cell 1 _ rfl
   have fr2:=KE.out.cell 2 _ rfl
   have fr3:=KE.out.cell 3 _ rfl
   have fr4:=KE.out.cell 4 _ rfl
   have fr5:=KE.out.cell 5 _ rfl
   have fr6:=KE.out.cell 6 _ rfl
   have fr7:=KE.out.cell 7 _ rfl
   have fr8:=KE.out.cell 8 _ rfl
   have fr9:=KE.out.cell 9 _ rfl
   have fr10:=KE.out.cell 10 _ rfl
   have fr11:=KE.out.cell 11 _ rfl
   have fr12:=KE.out.cell 12 _ rfl
   have fr13:=KE.out.cell 13 _ rfl
   refine bodyPost_ret (v:=.tuple #[.agg (aC t y 0 0 0),.int .i64 0]) (by simp[results,Tryz.results27,go_sem,fr0,fr1,fr2,fr3,fr4,fr5,fr6,fr7,fr8,fr9,fr10,fr11,fr12,fr13]) rfl ?_
   rw[←HPQ.out,HNo.out]
   exact ⟨y,rfl,EF.out,fun w'' ho=>TY.out (fun k=>k<w.heap.size+2) w'' ((ONE.out.sub (S2:=fun k=>k<w.heap.size+2) (fun k hk e=>by have:=HN2.out;omega)).trans ho (fun k _ e=>by omega)) (fun k hk=>by have:=HN2.out;omega) (fun r hr=>by have e:x.fl= []:=HX0.out;rw[e]at hr;cases hr),HBE.out⟩
 ·have HNo:=Lh (begin_no t (by rw[hkd];exact h1))
  have KE:Hid (Blk (((w.alloc (.cells (aT t x) 34)).alloc (.cells z14 69)).setRow (w.heap.size+1) z14) (w.heap.size+1) 69 z14):=Lh (row_blk K2.out)
  have HBE:Hid (Below w.heap.size w (((w.alloc (.cells (aT t x) 34)).alloc (.cells z14 69)).setRow (w.heap.size+1) z14)):=Lh (HB1.out.trans ((row_only ((w.alloc (.cells (aT t x) 34)).alloc (.cells z14 69)) (w.heap.size+1) _).below HB1.out.size (fun k hk e=>by omega)))
  have hb1:(t.kind !=1)=true:=bne_iff_ne.2 (by rw[hkd];exact h1)
  clear hkd
  go_enter Tryz.func27,Tryz.ntmps27
  go_wp2_with (refine wpList_store_row rfl 69 _ _ rfl (w.heap.size+1) z14 rfl rfl 69 _ K2.out (by kernel_rfl) rfl (by simp[Value.oneCell']) ?_)
  have fr0:=KE.out.cell 0 _ rfl
  have fr1:=KE.out.cell 1 _ rfl
  have fr2:=KE.out.cell 2 _ rfl
  have fr3:=KE.out.cell 3 _ rfl
  have fr4:=KE.out.cell 4 _ rfl
  have fr5:=KE.out.cell 5 _ rfl
  have fr6:=KE.out.cell 6 _ rfl
  have fr7:=KE.out.cell 7 _ rfl
  have fr8:=KE.out.cell 8 _ rfl
  have fr9:=KE.out.cell 9 _ rfl
  have fr10:=KE.out.cell 10 _ rfl
  have fr11:=KE.out.cell 11 _ rfl
  have fr12:=KE.out.cell 12 _ rfl
  have fr13:=KE.out.cell 13 _ rfl
  refine bodyPost_ret (v:=.tuple #[.agg z14,.int .i64 1]) (by simp[results,Tryz.results27,go_sem,fr0,fr1,fr2,fr3,fr4,fr5,fr6,fr7,fr8,fr9,fr10,fr11,fr12,fr13]) rfl ?_
  rw[←HPQ.out,HNo.out]
  exact ⟨tlz,rfl,rfl,fun w'' _=>none_rd w'',HBE.out⟩
end Go.Proofs.YtgghaodcfgbjlaaGreat.Commit
namespace Go.Proofs.YtgghaodcfgbjlaaGreat.Commit
open Go.ChangeShapes Go.WideShapes Go.ChangeAt Go.RowKit Mem Go.Proofs.YtgghaodcfgbjlaaGreat.Attempt Go.Proofs.YtgghaodcfgbjlaaGreat.Code
theorem own_turn {w0 w w' :World} {e K n m d:Nat} {B:Option Addr} {xs:List Value} (h:Own w0 w e K (.slice B n d) m xs) (ho:Only (fun k=>k<w0.heap.size) w w'):Rd w' K B m xs:=own_only h (fun _ hk=>hk) ho
theorem town_turn {w0 w w' :World} {t:Try} {x:TL} (h:TOwn w0 w t x) (ho:Only (fun k=>k<w0.heap.size) w w'):TRd w' t x:=by
 have h2:=own_rd_any (h.own.mem 2 rfl)
 have h3:=own_rd_any (h.own.mem 3 rfl)
 have h4:=own_rd_any (h.own.mem 4 rfl)
 exact ⟨own_turn (h.own.mem 0 rfl) ho,own_turn (h.own.mem 1 rfl) ho,own_turn (h.own.mem 2 rfl) ho,h2.2,⟨own_turn (h.own.mem 3 rfl) ho,own_turn (h.own.mem 4 rfl) ho,h3.2,h4.2⟩,own_turn (h.own.mem 5 rfl) ho,fun r hm=>own_turn (h.own.1 _ (ros_mem hm)) ho,h.raw⟩
def awH:List Heap.Cell:= [⟨true,5⟩]
def awC (g:Nat):List Raw:= [⟨⟨1,1,0,[]⟩,none,0,0⟩,⟨⟨3,0,0,[⟨1,7⟩]⟩,some ⟨g,0,none⟩,1,1⟩]
def awS:List Step:= [⟨1,1,0,[]⟩,⟨3,0,0,[⟨1,7⟩]⟩]
theorem aw_terms {w:World} {g:Nat} (h:Rd w 2 (some ⟨g,0,none⟩) 1 (Term.ops [⟨1,7⟩])):Terms w (awC g):=by
 intro r hr
 unfold awC at hr
 simp only[List.mem_cons,List.not_mem_nil,or_false]at hr
 rcases hr with rfl | rfl
 ·exact ⟨Rd.none_,Nat.le_refl _,by show 0≤9223372036854775807;omega⟩
 ·exact ⟨h,Nat.le_refl _,by show 1≤9223372036854775807;omega⟩
theorem aw_lim (g:Nat):Lim (awC g):=by
 intro r hr
 unfold awC at hr
 simp only[List.mem_cons,List.not_mem_nil,or_false]at hr
 rcases hr with rfl | rfl
 ·show 0≤1000000;omega
 ·show 1≤1000000;omega
def awT:Try:=⟨4,3,0,[0,0,0,0,0,0,0,0],[],[],⟨[],[]⟩,[],0,0⟩
def awU:Try:=⟨4,3,2,[0,5,0,0,0,0,0,0],[],[⟨0,2,5⟩],⟨[⟨0,7⟩],[]⟩,[],1,0⟩
theorem aw_begin:beginS awS 4 3=(awT,true):=by decide+kernel
theorem aw_run:runS awS awH [⟨2,0⟩] awT=(awU,2,true):=by decide+kernel
theorem aw_c1:beginC awT=(⟨none_,0,0,0⟩,false):=by kernel_rfl
theorem aw_c2:beginC awU=(⟨awU,0,0,0⟩,true):=by kernel_rfl
theorem aw_all1:allC ⟨awU,0,0,0⟩ ⟨awH,[⟨2,0⟩],3⟩=((⟨awU,5,4,0⟩,⟨[⟨true,7⟩],[⟨4,0⟩],4⟩),0):=by kernel_rfl
theorem aw_all2:allC ⟨awU,0,0,0⟩ ⟨awH,[⟨2,1⟩],3⟩=((⟨awU,6,0,7⟩,⟨awH,[⟨2,1⟩],3⟩),0):=by kernel_rfl
theorem aw_step:stepC ⟨awU,5,4,0⟩ ⟨[⟨true,7⟩],[⟨4,0⟩],4⟩=((⟨awU,5,4,0⟩,⟨[⟨true,7⟩],[⟨4,0⟩],4⟩),1):=by kernel_rfl
theorem aw_drop:dropC ⟨awU,0,0,0⟩ ⟨awH,[⟨2,0⟩],3⟩=(⟨awU,6,0,8⟩,⟨awH,[⟨2,0⟩],3⟩):=by kernel_rfl
theorem aw_right:rightW ⟨[⟨true,7⟩],[⟨4,0⟩],4⟩=true:=by decide+kernel
theorem fl_nil {w:World} {t:Try} {x:TL} (h:TRd w t x) (hf:t.frames= []):x.fl= []:=List.map_eq_nil_iff.1 (by rw[h.raw,hf];rfl)
theorem aw_short1 {w:World} {x:TL} (h:TRd w awT x):Short awT x:=⟨by decide,by decide,by decide,by decide,by decide,by rw[fl_nil h rfl];decide⟩
theorem aw_short2 {w:World} {x:TL} (h:TRd w awU x):Short awU x:=⟨by decide,by decide,by decide,by decide,by decide,by rw[fl_nil h rfl];decide⟩
set_option maxHeartbeats 8000000 in
theorem awake_any (w:World):Calls Tryz.prog 25 #[] w (RetB w true):=by
 obtain ⟨v0,hv0⟩:∃v0,v0=((w.alloc (.cells #[.bool true,.int .i64 5] 117)).alloc (.cells #[.int .i64 2,.int .i64 0] 92)):=⟨_,rfl⟩
 have hb0:Below w.heap.size w v0:=by rw[hv0];exact bl_alloc (bl_alloc (Below.refl _ _) _) _
 have BB:=Lh hb0
 have HSZ:Hid (v0.heap.size=w.heap.size+2):=Lh (by rw[hv0];simp only[World.size_alloc])
 have HH:Hid (Rd v0 2 (some ⟨w.heap.size,0,none⟩) 1 (Heap.cs awH)):=Lh (by rw[hv0];exact (Rd.built w 2 1 (Heap.cs awH) _ rfl).alloc _)
 have HR:Hid (Rd v0 2 (some ⟨w.heap.size+1,0,none⟩) 1 (Stripe.rs [⟨2,0⟩])):=Lh (by rw[hv0];exact Rd.builtAt _ 2 1 (Stripe.rs [⟨2,0⟩]) _ rfl (by simp))
 clear hb0
 have HI0:Hid (Inv awS awT):=Lh (begin_inv aw_begin)
 go_enter Tryz.func25,Tryz.ntmps25
 have Z0:Hid (Blk (((w.alloc (.cells #[.bool true,.int .i64 5] 117)).alloc (.cells #[.int .i64 2,.int .i64 0] 92)).alloc (.cells z3 63)) (w.heap.size+1+1) 63 z3):=Lh (by have:=Blk.new ((w.alloc (.cells #[.bool true,.int .i64 5] 117)).alloc (.cells #[.int .i64 2,.int .i64 0] 92)) 63 z3;simpa only[World.size_alloc] using this)
 have KW:Hid (Blk ((((w.alloc (.cells #[.bool true,.int .i64 5] 117)).alloc (.cells #[.int .i64 2,.int .i64 0] 92)).alloc (.cells z3 63)).setRow (w.heap.size+1+1) #[.slice (some ⟨w.heap.size,0,none⟩) 1 1,.slice (some ⟨w.heap.size+1,0,none⟩) 1 1,.int .i64 3]) (w.heap.size+1+1) 63 #[.slice (some ⟨w.heap.size,0,none⟩) 1 1,.slice (some ⟨w.heap.size+1,0,none⟩) 1 1,.int .i64 3]):=Lh (row_blk Z0.out)
 have bst:Hid (Below v0.heap.size v0 ((((w.alloc (.cells #[.bool true,.int .i64 5] 117)).alloc (.cells #[.int .i64 2,.int .i64 0] 92)).alloc (.cells z3 63)).setRow (w.heap.size+1+1) #[.slice (some ⟨w.heap.size,0,none⟩) 1 1,.slice (some ⟨w.heap.size+1,0,none⟩) 1 1,.int .i64 3])):=Lh (by subst hv0;exact Only.below (S:=fun k=>w.heap.size+2≤k) (((Only.refl (fun k=>w.heap.size+2≤k) _).alloc _).trans (row_only _ (w.heap.size+1+1) _) (fun k _ e=>by omega)) (by simp only[World.size_alloc];omega) (fun k hk e=>by simp only[World.size_alloc]at hk;omega))
 go_wp2_with (refine wpList_store_row rfl 63 _ _ rfl (w.heap.size+1+1) #[.slice (some ⟨w.heap.size,0,none⟩) 1 1,.slice (some ⟨w.heap.size+1,0,none⟩) 1 1,.int .i64 3] rfl rfl 63 _ Z0.out (by kernel_rfl) rfl (by simp[Value.oneCell']) ?_;generalize ((((w.alloc (.cells #[.bool true,.int .i64 5] 117)).alloc (.cells #[.int .i64 2,.int .i64 0] 92)).alloc (.cells z3 63)).setRow (w.heap.size+1+1) #[.slice (some ⟨w.heap.size,0,none⟩) 1 1,.slice (some ⟨w.heap.size+1,0,none⟩) 1 1,.int .i64 3])=v1 at *)
 replace HH:=Lh (HH.out.below bst.out)
 replace HR:=Lh (HR.out.below bst.out)
 replace BB:=Lh (bl_trans BB.out bst.out)
 clear bst Z0
 have HC:Hid (At ((v1.alloc (.cells #[.int .i64 1,.int .i64 7] 115)).alloc (.cells #[.int .i64 1,.int .i64 1,.int .i64 0,.slice none 0 0,.int .i64 3,.int .i64 0,.int .i64 0,.slice (some ⟨v1.heap.size,0,none⟩) 1 1] 113)) (some ⟨v1.heap.size+1,0,none⟩) 2 (awC v1.heap.size)):=Lh ⟨Rd.builtAt _ 4 2 (rs (awC v1.heap.size)) _ rfl (by simp),aw_terms ((Rd.built v1 2 1 (Term.ops [⟨1,7⟩]) _ rfl).alloc _)⟩
 have bst:Hid (Below v1.heap.size v1 ((v1.alloc (.cells #[.int .i64 1,.int .i64 7] 115)).alloc (.cells #[.int .i64 1,.int .i64 1,.int .i64 0,.slice none 0 0,.int .i64 3,.int .i64 0,.int .i64 0,.slice (some ⟨v1.heap.size,0,none⟩) 1 1] 113))):=Lh (bl_alloc (bl_alloc (Below.refl _ _) _) _)
 replace HH:=Lh (HH.out.below bst.out)
 replace HR:=Lh (HR.out.below bst.out)
 replace KW:=Lh (KW.out.below bst.out)
 replace BB:=Lh (bl_trans BB.out bst.out)
 clear bst
 generalize ((v1.alloc (.cells #[.int .i64 1,.int .i64 7] 115)).alloc (.cells #[.int .i64 1,.int .i64 1,.int .i64 0,.slice none 0 0,.int .i64 3,.int .i64 0,.int .i64 0,.slice (some ⟨v1.heap.size,0,none⟩) 1 1] 113))=v2 at *
 generalize hgK:v1.heap.size=gK at *
 clear hgK
 have hB:Calls Tryz.prog 13 #[.slice (some ⟨gK+1,0,none⟩) 2 2,.int .i64 4,.int .i64 3] v2 (fun e w' =>∃y:TL,e=.returned (.tuple #[.agg #[.int .i64 4,.int .i64 3,.int .i64 0,.slice y.R 8 y.rc,.slice y.P 0 y.pc,.slice y.D 0 y.dc,.slice y.L 0 y.lc,.slice y.M 0 y.mc,.slice y.F y.fl.length y.fc,.int .i64 0,.int .i64 0],.int .i64 0])∧TOwn v2 w' awT y∧Below v2.heap.size v2 w'):=(Attempt.begin_c (awC gK) _ 2 2 4 3 v2 awT true HC.out (by decide) (aw_lim _) (by decide) aw_begin).mono (fun e w' ⟨y,h1,h2,_,h4⟩=>⟨y,h1,h2,h4⟩)
 refine (hB).mono ?_
 rintro e v3 ⟨y1,rfl,ho1,b_⟩
 replace HH:=Lh (HH.out.below b_)
 replace HR:=Lh (HR.out.below b_)
 replace KW:=Lh (KW.out.below b_)
 replace HC:=Lh (HC.out.below b_)
 replace BB:=Lh (bl_trans BB.out b_)
 clear hB
 have O1:=Lh ho1.rd
 clear ho1
 have HG3a:Hid (w.heap.size+1+1<v3.heap.size):=Lh KW.out.lt
 have Z0:Hid (Blk (v3.alloc (.cells z11 34)) v3.heap.size 34 z11):=Lh (Blk.new v3 34 z11)
 have Y0:Hid (Blk (v3.alloc (.cells z11 34)) v3.heap.size 34 z11):=Lh (Z0.out)
 have K3:Hid (Blk ((v3.alloc (.cells z11 34)).setRow v3.heap.size #[.int .i64 4,.int .i64 3,.int .i64 0,.slice y1.R 8 y1.rc,.slice y1.P 0 y1.pc,.slice y1.D 0 y1.dc,.slice y1.L 0 y1.lc,.slice y1.M 0 y1.mc,.slice y1.F y1.fl.length y1.fc,.int .i64 0,.int .i64 0]) v3.heap.size 34 #[.int .i64 4,.int .i64 3,.int .i64 0,.slice y1.R 8 y1.rc,.slice y1.P 0 y1.pc,.slice y1.D 0 y1.dc,.slice y1.L 0 y1.lc,.slice y1.M 0 y1.mc,.slice y1.F y1.fl.length y1.fc,.int .i64 0,.int .i64 0]):=Lh (row_blk Y0.out)
 have bst:Hid (Below v3.heap.size v3 ((v3.alloc (.cells z11 34)).setRow v3.heap.size #[.int .i64 4,.int .i64 3,.int .i64 0,.slice y1.R 8 y1.rc,.slice y1.P 0 y1.pc,.slice y1.D 0 y1.dc,.slice y1.L 0 y1.lc,.slice y1.M 0 y1.mc,.slice y1.F y1.fl.length y1.fc,.int .i64 0,.int .i64 0])):=Lh (Only.below (S:=fun k=>v3.heap.size≤k) (((Only.refl (fun k=>v3.heap.size≤k) v3).alloc _).trans (row_only _ v3.heap.size _) (fun k _ e=>by omega)) (Nat.le_refl _) (fun k hk e=>by omega))
 go_wp2_with (first | (refine wpList_store_row rfl 34 _ _ rfl v3.heap.size #[.int .i64 4,.int .i64 3,.int .i64 0,.slice y1.R 8 y1.rc,.slice y1.P 0 y1.pc,.slice y1.D 0 y1.dc,.slice y1.L 0 y1.lc,.slice y1.M 0 y1.mc,.slice y1.F y1.fl.length y1.fc,.int .i64 0,.int .i64 0] rfl rfl 34 _ Y0.out (by kernel_rfl) rfl (by simp[Value.oneCell']) ?_;(clear Z0 Y0);(replace HH:=Lh (HH.out.below bst.out));(replace HR:=Lh (HR.out.below bst.out));(replace KW:=Lh (KW.out.below bst.out));(replace HC:=Lh (HC.out.below bst.out));(replace O1:=Lh (O1.out.below bst.out));(replace BB:=Lh (bl_trans BB.out bst.out));(clear bst);(generalize ((v3.alloc (.cells z11 34)).setRow v3.heap.size #[.int .i64 4,.int .i64 3,.int .i64 0,.slice y1.R 8 y1.rc,.slice y1.P 0 y1.pc,.slice y1.D 0 y1.dc,.slice y1.L 0 y1.lc,.slice y1.M 0 y1.mc,.slice y1.F y1.fl.length y1.fc,.int .i64 0,.int .i64 0])=v4 at *);(generalize hg3:v3.heap.size=g3 at *);(clear hg3);(have a0:=K3.out.cell 0 _ rfl);(have a1:=K3.out.cell 1 _ rfl);(have a2:=K3.out.cell 2 _ rfl);(have a3:=K3.out.cell 3 _ rfl);(have a4:=K3.out.cell 4 _ rfl);(have a5:=K3.out.cell 5 _ rfl);(have a6:=K3.out.cell 6 _ rfl);(have a7:=K3.out.cell 7 _ rfl);(have a8:=K3.out.cell 8 _ rfl);(have a9:=K3.out.cell 9 _ rfl);(have a10:=K3.out.cell 10 _ rfl)))
 clear a0 a1 a2 a3 a4 a5 a6 a7 a8 a9 a10
 have hB:Calls Tryz.prog 27 #[.agg #[.int .i64 4,.int .i64 3,.int .i64 0,.slice y1.R 8 y1.rc,.slice y1.P 0 y1.pc,.slice y1.D 0 y1.dc,.slice y1.L 0 y1.lc,.slice y1.M 0 y1.mc,.slice y1.F y1.fl.length y1.fc,.int .i64 0,.int .i64 0]] v4 (fun e w' =>∃y:TL,e=.returned (.tuple #[.agg #[.int .i64 0,.int .i64 0,.int .i64 0,.slice y.R 0 y.rc,.slice y.P 0 y.pc,.slice y.D 0 y.dc,.slice y.L 0 y.lc,.slice y.M 0 y.mc,.slice y.F y.fl.length y.fc,.int .i64 0,.int .i64 0,.int .i64 0,.int .i64 0,.int .i64 0],.int .i64 1])∧Below v4.heap.size v4 w'):=by
  have h:=begin_c awT y1 v4 O1.out (aw_short1 O1.out) (fun h=>absurd h (by decide))
  rw[aw_c1]at h
  exact h.mono (fun e w' ⟨y,h1,_,_,h4⟩=>⟨y,h1,h4⟩)
 refine (hB).mono ?_
 rintro e v5 ⟨y2,rfl,b_⟩
 replace HH:=Lh (HH.out.below b_)
 replace HR:=Lh (HR.out.below b_)
 replace KW:=Lh (KW.out.below b_)
 replace HC:=Lh (HC.out.below b_)
 replace O1:=Lh (O1.out.below b_)
 replace K3:=Lh (K3.out.below b_)
 replace BB:=Lh (bl_trans BB.out b_)
 clear hB
 have Z0:Hid (Blk (v5.alloc (.cells z14 69)) v5.heap.size 69 z14):=Lh (Blk.new v5 69 z14)
 have Y0:Hid (Blk (v5.alloc (.cells z14 69)) v5.heap.size 69 z14):=Lh (Z0.out)
 have K5:Hid (Blk ((v5.alloc (.cells z14 69)).setRow v5.heap.size #[.int .i64 0,.int .i64 0,.int .i64 0,.slice y2.R 0 y2.rc,.slice y2.P 0 y2.pc,.slice y2.D 0 y2.dc,.slice y2.L 0 y2.lc,.slice y2.M 0 y2.mc,.slice y2.F y2.fl.length y2.fc,.int .i64 0,.int .i64 0,.int .i64 0,.int .i64 0,.int .i64 0]) v5.heap.size 69 #[.int .i64 0,.int .i64 0,.int .i64 0,.slice y2.R 0 y2.rc,.slice y2.P 0 y2.pc,.slice y2.D 0 y2.dc,.slice y2.L 0 y2.lc,.slice y2.M 0 y2.mc,.slice y2.F y2.fl.length y2.fc,.int .i64 0,.int .i64 0,.int .i64 0,.int .i64 0,.int .i64 0]):=Lh (row_blk Y0.out)
 have bst:Hid (Below v5.heap.size v5 ((v5.alloc (.cells z14 69)).setRow v5.heap.size #[.int .i64 0,.int .i64 0,.int .i64 0,.slice y2.R 0 y2.rc,.slice y2.P 0 y2.pc,.slice y2.D 0 y2.dc,.slice y2.L 0 y2.lc,.slice y2.M 0 y2.mc,.slice y2.F y2.fl.length y2.fc,.int .i64 0,.int .i64 0,.int .i64 0,.int .i64 0,.int .i64 0])):=Lh (Only.below (S:=fun k=>v5.heap.size≤k) (((Only.refl (fun k=>v5.heap.size≤k) v5).alloc _).trans (row_only _ v5.heap.size _) (fun k _ e=>by omega)) (Nat.le_refl _) (fun k hk e=>by omega))
 go_wp2_with (first | (refine wpList_store_row rfl 69 _ _ rfl v5.heap.size #[.int .i64 0,.int .i64 0,.int .i64 0,.slice y2.R 0 y2.rc,.slice y2.P 0 y2.pc,.slice y2.D 0 y2.dc,.slice y2.L 0 y2.lc,.slice y2.M 0 y2.mc,.slice y2.F y2.fl.length y2.fc,.int .i64 0,.int .i64 0,.int .i64 0,.int .i64 0,.int .i64 0] rfl rfl 69 _ Y0.out (by kernel_rfl) rfl (by simp[Value.oneCell']) ?_;(clear Z0 Y0);(replace HH:=Lh (HH.out.below bst.out));(replace HR:=Lh (HR.out.below bst.out));(replace KW:=Lh (KW.out.below bst.out));(replace HC:=Lh (HC.out.below bst.out));(replace O1:=Lh (O1.out.below bst.out));(replace K3:=Lh (K3.out.below bst.out));(replace BB:=Lh (bl_trans BB.out bst.out));(clear bst);(generalize ((v5.alloc (.cells z14 69)).setRow v5.heap.size #[.int .i64 0,.int .i64 0,.int .i64 0,.slice y2.R 0 y2.rc,.slice y2.P 0 y2.pc,.slice y2.D 0 y2.dc,.slice y2.L 0 y2.lc,.slice y2.M 0 y2.mc,.slice y2.F y2.fl.length y2.fc,.int .i64 0,.int .i64 0,.int .i64 0,.int .i64 0,.int .i64 0])=v6 at *);(have a0:=K3.out.cell 0 _ rfl);(have a1:=K3.out.cell 1 _ rfl);(have a2:=K3.out.cell 2 _ rfl);(have a3:=K3.out.cell 3 _ rfl);(have a4:=K3.out.cell 4 _ rfl);(have a5:=K3.out.cell 5 _ rfl);(have a6:=K3.out.cell 6 _ rfl);(have a7:=K3.out.cell 7 _ rfl);(have a8:=K3.out.cell 8 _ rfl);(have a9:=K3.out.cell 9 _ rfl);(have a10:=K3.out.cell 10 _ rfl);(have b0:=KW.out.cell 0 _ rfl);(have b1:=KW.out.cell 1 _ rfl)))
 clear a0 a1 a2 a3 a4 a5 a6 a7 a8 a9 a10 b0 b1
 clear K5
 have hB:Calls Tryz.prog 48 #[.agg #[.int .i64 4,.int .i64 3,.int .i64 0,.slice y1.R 8 y1.rc,.slice y1.P 0 y1.pc,.slice y1.D 0 y1.dc,.slice y1.L 0 y1.lc,.slice y1.M 0 y1.mc,.slice y1.F y1.fl.length y1.fc,.int .i64 0,.int .i64 0],.slice (some ⟨gK+1,0,none⟩) 2 2,.slice (some ⟨w.heap.size,0,none⟩) 1 1,.slice (some ⟨w.heap.size+1,0,none⟩) 1 1] v6 (fun e w' =>∃z:TL,e=.returned (.tuple #[.agg #[.int .i64 4,.int .i64 3,.int .i64 2,.slice z.R 8 z.rc,.slice z.P 0 z.pc,.slice z.D 1 z.dc,.slice z.L 1 z.lc,.slice z.M 0 z.mc,.slice z.F z.fl.length z.fc,.int .i64 1,.int .i64 0],.int .i64 2,.int .i64 0])∧TOwn v6 w' awU z∧Below v6.heap.size v6 w'):=(run_c (awC gK) _ 2 2 awH _ 1 1 [⟨2,0⟩] _ 1 1 awT y1 v6 (SPre.mk_ HC.out (by decide) (aw_lim _) (by decide) HH.out (by decide) HR.out (by decide) O1.out HI0.out) (awU,2,true) aw_run).mono (fun e w' ⟨y,h1,h2,_,h4⟩=>⟨y,h1,h2,h4⟩)
 have HG3:Hid (g3<v6.heap.size):=Lh K3.out.lt
 refine (hB).mono ?_
 rintro e v7 ⟨z1,rfl,ho2,b_⟩
 replace HH:=Lh (HH.out.below b_)
 replace HR:=Lh (HR.out.below b_)
 replace KW:=Lh (KW.out.below b_)
 replace HC:=Lh (HC.out.below b_)
 replace O1:=Lh (O1.out.below b_)
 replace K3:=Lh (K3.out.below b_)
 replace BB:=Lh (bl_trans BB.out b_)
 clear hB HC O1
 go_wp2_with (refine wpList_store_row rfl 34 _ _ rfl g3 #[.int .i64 4,.int .i64 3,.int .i64 2,.slice z1.R 8 z1.rc,.slice z1.P 0 z1.pc,.slice z1.D 1 z1.dc,.slice z1.L 1 z1.lc,.slice z1.M 0 z1.mc,.slice z1.F z1.fl.length z1.fc,.int .i64 1,.int .i64 0] rfl rfl 34 _ K3.out (by kernel_rfl) rfl (by simp[Value.oneCell']) ?_;have ON3:=row_only v7 g3 #[.int .i64 4,.int .i64 3,.int .i64 2,.slice z1.R 8 z1.rc,.slice z1.P 0 z1.pc,.slice z1.D 1 z1.dc,.slice z1.L 1 z1.lc,.slice z1.M 0 z1.mc,.slice z1.F z1.fl.length z1.fc,.int .i64 1,.int .i64 0];have O2:Hid (TRd (v7.setRow g3 #[.int .i64 4,.int .i64 3,.int .i64 2,.slice z1.R 8 z1.rc,.slice z1.P 0 z1.pc,.slice z1.D 1 z1.dc,.slice z1.L 1 z1.lc,.slice z1.M 0 z1.mc,.slice z1.F z1.fl.length z1.fc,.int .i64 1,.int .i64 0]) awU z1):=Lh (town_turn ho2 (ON3.sub (fun k _ e=>by have:=HG3.out;omega)));clear ho2;replace K3:Hid (Blk (v7.setRow g3 #[.int .i64 4,.int .i64 3,.int .i64 2,.slice z1.R 8 z1.rc,.slice z1.P 0 z1.pc,.slice z1.D 1 z1.dc,.slice z1.L 1 z1.lc,.slice z1.M 0 z1.mc,.slice z1.F z1.fl.length z1.fc,.int .i64 1,.int .i64 0]) g3 34 #[.int .i64 4,.int .i64 3,.int .i64 2,.slice z1.R 8 z1.rc,.slice z1.P 0 z1.pc,.slice z1.D 1 z1.dc,.slice z1.L 1 z1.lc,.slice z1.M 0 z1.mc,.slice z1.F z1.fl.length z1.fc,.int .i64 1,.int .i64 0]):=Lh (row_blk K3.out);replace KW:=Lh (ON3.blk KW.out (by have:=HG3a.out;omega));replace HH:=Lh (rd_only HH.out ON3 (fun b off e _ hb=>by cases e;have:=HG3a.out;omega));replace HR:=Lh (rd_only HR.out ON3 (fun b off e _ hb=>by cases e;have:=HG3a.out;omega));replace BB:=Lh (BB.out.trans (ON3.below BB.out.size (fun k hk e=>by have:=HG3a.out;omega)));clear ON3;generalize (v7.setRow g3 #[.int .i64 4,.int .i64 3,.int .i64 2,.slice z1.R 8 z1.rc,.slice z1.P 0 z1.pc,.slice z1.D 1 z1.dc,.slice z1.L 1 z1.lc,.slice z1.M 0 z1.mc,.slice z1.F z1.fl.length z1.fc,.int .i64 1,.int .i64 0])=v8 at *;have a0:=K3.out.cell 0 _ rfl;have a1:=K3.out.cell 1 _ rfl;have a2:=K3.out.cell 2 _ rfl;have a3:=K3.out.cell 3 _ rfl;have a4:=K3.out.cell 4 _ rfl;have a5:=K3.out.cell 5 _ rfl;have a6:=K3.out.cell 6 _ rfl;have a7:=K3.out.cell 7 _ rfl;have a8:=K3.out.cell 8 _ rfl;have a9:=K3.out.cell 9 _ rfl;have a10:=K3.out.cell 10 _ rfl)
 clear a0 a1 a2 a3 a4 a5 a6 a7 a8 a9 a10
 have hB:Calls Tryz.prog 27 #[.agg #[.int .i64 4,.int .i64 3,.int .i64 2,.slice z1.R 8 z1.rc,.slice z1.P 0 z1.pc,.slice z1.D 1 z1.dc,.slice z1.L 1 z1.lc,.slice z1.M 0 z1.mc,.slice z1.F z1.fl.length z1.fc,.int .i64 1,.int .i64 0]] v8 (fun e w' =>∃y:TL,e=.returned (.tuple #[.agg #[.int .i64 4,.int .i64 3,.int .i64 2,.slice y.R 8 y.rc,.slice y.P 0 y.pc,.slice y.D 1 y.dc,.slice y.L 1 y.lc,.slice y.M 0 y.mc,.slice y.F y.fl.length y.fc,.int .i64 1,.int .i64 0,.int .i64 0,.int .i64 0,.int .i64 0],.int .i64 0])∧TRd w' awU y∧Below v8.heap.size v8 w'):=by
  have h:=begin_c awU z1 v8 O2.out (aw_short2 O2.out) (fun _=>fl_nil O2.out rfl)
  rw[aw_c2]at h
  exact h.mono (fun e w' ⟨y,h1,_,h3,h4⟩=>⟨y,h1,h3 _ (Only.refl _ _),h4⟩)
 refine (hB).mono ?_
 rintro e v9 ⟨c1,rfl,hT,b_⟩
 replace HH:=Lh (HH.out.below b_)
 replace HR:=Lh (HR.out.below b_)
 replace KW:=Lh (KW.out.below b_)
 replace K3:=Lh (K3.out.below b_)
 replace O2:=Lh (O2.out.below b_)
 replace BB:=Lh (bl_trans BB.out b_)
 have O3:=Lh hT
 clear hB hT O2 K3
 have Z0:Hid (Blk (v9.alloc (.cells z14 69)) v9.heap.size 69 z14):=Lh (Blk.new v9 69 z14)
 have Y0:Hid (Blk (v9.alloc (.cells z14 69)) v9.heap.size 69 z14):=Lh (Z0.out)
 have K7:Hid (Blk ((v9.alloc (.cells z14 69)).setRow v9.heap.size #[.int .i64 4,.int .i64 3,.int .i64 2,.slice c1.R 8 c1.rc,.slice c1.P 0 c1.pc,.slice c1.D 1 c1.dc,.slice c1.L 1 c1.lc,.slice c1.M 0 c1.mc,.slice c1.F c1.fl.length c1.fc,.int .i64 1,.int .i64 0,.int .i64 0,.int .i64 0,.int .i64 0]) v9.heap.size 69 #[.int .i64 4,.int .i64 3,.int .i64 2,.slice c1.R 8 c1.rc,.slice c1.P 0 c1.pc,.slice c1.D 1 c1.dc,.slice c1.L 1 c1.lc,.slice c1.M 0 c1.mc,.slice c1.F c1.fl.length c1.fc,.int .i64 1,.int .i64 0,.int .i64 0,.int .i64 0,.int .i64 0]):=Lh (row_blk Y0.out)
 have bst:Hid (Below v9.heap.size v9 ((v9.alloc (.cells z14 69)).setRow v9.heap.size #[.int .i64 4,.int .i64 3,.int .i64 2,.slice c1.R 8 c1.rc,.slice c1.P 0 c1.pc,.slice c1.D 1 c1.dc,.slice c1.L 1 c1.lc,.slice c1.M 0 c1.mc,.slice c1.F c1.fl.length c1.fc,.int .i64 1,.int .i64 0,.int .i64 0,.int .i64 0,.int .i64 0])):=Lh (Only.below (S:=fun k=>v9.heap.size≤k) (((Only.refl (fun k=>v9.heap.size≤k) v9).alloc _).trans (row_only _ v9.heap.size _) (fun k _ e=>by omega)) (Nat.le_refl _) (fun k hk e=>by omega))
 go_wp2_with (first | (refine wpList_store_row rfl 69 _ _ rfl v9.heap.size #[.int .i64 4,.int .i64 3,.int .i64 2,.slice c1.R 8 c1.rc,.slice c1.P 0 c1.pc,.slice c1.D 1 c1.dc,.slice c1.L 1 c1.lc,.slice c1.M 0 c1.mc,.slice c1.F c1.fl.length c1.fc,.int .i64 1,.int .i64 0,.int .i64 0,.int .i64 0,.int .i64 0] rfl rfl 69 _ Y0.out (by kernel_rfl) rfl (by simp[Value.oneCell']) ?_;(clear Z0 Y0);(replace HH:=Lh (HH.out.below bst.out));(replace HR:=Lh (HR.out.below bst.out));(replace KW:=Lh (KW.out.below bst.out));(replace O3:=Lh (O3.out.below bst.out));(replace BB:=Lh (bl_trans BB.out bst.out));(clear bst);(generalize ((v9.alloc (.cells z14 69)).setRow v9.heap.size #[.int .i64 4,.int .i64 3,.int .i64 2,.slice c1.R 8 c1.rc,.slice c1.P 0 c1.pc,.slice c1.D 1 c1.dc,.slice c1.L 1 c1.lc,.slice c1.M 0 c1.mc,.slice c1.F c1.fl.length c1.fc,.int .i64 1,.int .i64 0,.int .i64 0,.int .i64 0,.int .i64 0])=v10 at *);(have a0:=K7.out.cell 0 _ rfl);(have a1:=K7.out.cell 1 _ rfl);(have a2:=K7.out.cell 2 _ rfl);(have a3:=K7.out.cell 3 _ rfl);(have a4:=K7.out.cell 4 _ rfl);(have a5:=K7.out.cell 5 _ rfl);(have a6:=K7.out.cell 6 _ rfl);(have a7:=K7.out.cell 7 _ rfl);(have a8:=K7.out.cell 8 _ rfl);(have a9:=K7.out.cell 9 _ rfl);(have a10:=K7.out.cell 10 _ rfl);(have a11:=K7.out.cell 11 _ rfl);(have a12:=K7.out.cell 12 _ rfl);(have a13:=K7.out.cell 13 _ rfl);(have b0:=KW.out.cell 0 _ rfl);(have b1:=KW.out.cell 1 _ rfl);(have b2:=KW.out.cell 2 _ rfl)))
 clear a0 a1 a2 a3 a4 a5 a6 a7 a8 a9 a10 a11 a12 a13 b0 b1 b2
 have hB:Calls Tryz.prog 40 #[.agg #[.int .i64 4,.int .i64 3,.int .i64 2,.slice c1.R 8 c1.rc,.slice c1.P 0 c1.pc,.slice c1.D 1 c1.dc,.slice c1.L 1 c1.lc,.slice c1.M 0 c1.mc,.slice c1.F c1.fl.length c1.fc,.int .i64 1,.int .i64 0,.int .i64 0,.int .i64 0,.int .i64 0],.agg #[.slice (some ⟨w.heap.size,0,none⟩) 1 1,.slice (some ⟨w.heap.size+1,0,none⟩) 1 1,.int .i64 3]] v10 (fun e w' =>∃(y:TL) (H:Option Addr) (hc:Nat) (R:Option Addr) (rc:Nat),e=.returned (.tuple #[.agg #[.int .i64 4,.int .i64 3,.int .i64 2,.slice y.R 8 y.rc,.slice y.P 0 y.pc,.slice y.D 1 y.dc,.slice y.L 1 y.lc,.slice y.M 0 y.mc,.slice y.F y.fl.length y.fc,.int .i64 1,.int .i64 0,.int .i64 5,.int .i64 4,.int .i64 0],.agg #[.slice H 1 hc,.slice R 1 rc,.int .i64 4],.int .i64 0])∧TRd w' awU y∧WRd w' ⟨[⟨true,7⟩],[⟨4,0⟩],4⟩ ⟨H,hc,R,rc⟩∧Below v10.heap.size v10 w'):=by
  have h:=all_c ⟨awU,0,0,0⟩ ⟨awH,[⟨2,0⟩],3⟩ c1 ⟨some ⟨w.heap.size,0,none⟩,1,some ⟨w.heap.size+1,0,none⟩,1⟩ v10 O3.out (aw_short2 O3.out) ⟨HH.out,HR.out⟩ ⟨by decide,by decide⟩ (fl_nil O3.out rfl)
  rw[aw_all1]at h
  exact h.mono (fun e w' ⟨y,⟨H,hc,R,rc⟩,h1,_,h3,h4⟩=>⟨y,H,hc,R,rc,h1,(h3 _ (Only.refl _ _)).1,(h3 _ (Only.refl _ _)).2,h4⟩)
 refine (hB).mono ?_
 rintro e v11 ⟨d1,H1,hc1,R1,rc1,rfl,hT,hW,b_⟩
 replace HH:=Lh (HH.out.below b_)
 replace HR:=Lh (HR.out.below b_)
 replace KW:=Lh (KW.out.below b_)
 replace O3:=Lh (O3.out.below b_)
 replace K7:=Lh (K7.out.below b_)
 replace BB:=Lh (bl_trans BB.out b_)
 obtain ⟨bh,oh,eh,-⟩:=hW.1.2 (by decide)
 subst eh
 obtain ⟨br,or_,er,-⟩:=hW.2.2 (by decide)
 subst er
 have O9:=Lh hT
 have HW1:=Lh hW
 clear hB hT hW
 have Z0:Hid (Blk ((v11.alloc (.cells z14 69)).alloc (.cells z3 63)) v11.heap.size 69 z14):=Lh ((Blk.new v11 69 z14).alloc (.cells z3 63))
 have Z1:Hid (Blk ((v11.alloc (.cells z14 69)).alloc (.cells z3 63)) (v11.heap.size+1) 63 z3):=Lh (by have:=Blk.new (v11.alloc (.cells z14 69)) 63 z3;simpa only[World.size_alloc] using this)
 have Y0:Hid (Blk ((v11.alloc (.cells z14 69)).alloc (.cells z3 63)) v11.heap.size 69 z14):=Lh (Z0.out)
 have Y1:Hid (Blk (((v11.alloc (.cells z14 69)).alloc (.cells z3 63)).setRow v11.heap.size #[.int .i64 4,.int .i64 3,.int .i64 2,.slice d1.R 8 d1.rc,.slice d1.P 0 d1.pc,.slice d1.D 1 d1.dc,.slice d1.L 1 d1.lc,.slice d1.M 0 d1.mc,.slice d1.F d1.fl.length d1.fc,.int .i64 1,.int .i64 0,.int .i64 5,.int .i64 4,.int .i64 0]) (v11.heap.size+1) 63 z3):=Lh ((row_only _ v11.heap.size _).blk Z1.out (by omega))
 have K9:Hid (Blk ((((v11.alloc (.cells z14 69)).alloc (.cells z3 63)).setRow v11.heap.size #[.int .i64 4,.int .i64 3,.int .i64 2,.slice d1.R 8 d1.rc,.slice d1.P 0 d1.pc,.slice d1.D 1 d1.dc,.slice d1.L 1 d1.lc,.slice d1.M 0 d1.mc,.slice d1.F d1.fl.length d1.fc,.int .i64 1,.int .i64 0,.int .i64 5,.int .i64 4,.int .i64 0]).setRow (v11.heap.size+1) #[.slice (some ⟨bh,oh,none⟩) 1 hc1,.slice (some ⟨br,or_,none⟩) 1 rc1,.int .i64 4]) v11.heap.size 69 #[.int .i64 4,.int .i64 3,.int .i64 2,.slice d1.R 8 d1.rc,.slice d1.P 0 d1.pc,.slice d1.D 1 d1.dc,.slice d1.L 1 d1.lc,.slice d1.M 0 d1.mc,.slice d1.F d1.fl.length d1.fc,.int .i64 1,.int .i64 0,.int .i64 5,.int .i64 4,.int .i64 0]):=Lh ((row_only _ (v11.heap.size+1) _).blk (row_blk Y0.out) (by omega))
 have K10:Hid (Blk ((((v11.alloc (.cells z14 69)).alloc (.cells z3 63)).setRow v11.heap.size #[.int .i64 4,.int .i64 3,.int .i64 2,.slice d1.R 8 d1.rc,.slice d1.P 0 d1.pc,.slice d1.D 1 d1.dc,.slice d1.L 1 d1.lc,.slice d1.M 0 d1.mc,.slice d1.F d1.fl.length d1.fc,.int .i64 1,.int .i64 0,.int .i64 5,.int .i64 4,.int .i64 0]).setRow (v11.heap.size+1) #[.slice (some ⟨bh,oh,none⟩) 1 hc1,.slice (some ⟨br,or_,none⟩) 1 rc1,.int .i64 4]) (v11.heap.size+1) 63 #[.slice (some ⟨bh,oh,none⟩) 1 hc1,.slice (some ⟨br,or_,none⟩) 1 rc1,.int .i64 4]):=Lh (row_blk Y1.out)
 have bst:Hid (Below v11.heap.size v11 ((((v11.alloc (.cells z14 69)).alloc (.cells z3 63)).setRow v11.heap.size #[.int .i64 4,.int .i64 3,.int .i64 2,.slice d1.R 8 d1.rc,.slice d1.P 0 d1.pc,.slice d1.D 1 d1.dc,.slice d1.L 1 d1.lc,.slice d1.M 0 d1.mc,.slice d1.F d1.fl.length d1.fc,.int .i64 1,.int .i64 0,.int .i64 5,.int .i64 4,.int .i64 0]).setRow (v11.heap.size+1) #[.slice (some ⟨bh,oh,none⟩) 1 hc1,.slice (some ⟨br,or_,none⟩) 1 rc1,.int .i64 4])):=Lh (Only.below (S:=fun k=>v11.heap.size≤k) (((((Only.refl (fun k=>v11.heap.size≤k) v11).alloc _).alloc _).trans (row_only _ v11.heap.size _) (fun k _ e=>by omega)).trans (row_only _ (v11.heap.size+1) _) (fun k _ e=>by omega)) (Nat.le_refl _) (fun k hk e=>by omega))
 go_wp2_with (first | (refine wpList_store_row rfl 69 _ _ rfl v11.heap.size #[.int .i64 4,.int .i64 3,.int .i64 2,.slice d1.R 8 d1.rc,.slice d1.P 0 d1.pc,.slice d1.D 1 d1.dc,.slice d1.L 1 d1.lc,.slice d1.M 0 d1.mc,.slice d1.F d1.fl.length d1.fc,.int .i64 1,.int .i64 0,.int .i64 5,.int .i64 4,.int .i64 0] rfl rfl 69 _ Y0.out (by kernel_rfl) rfl (by simp[Value.oneCell']) ?_) | (refine wpList_store_row rfl 63 _ _ rfl (v11.heap.size+1) #[.slice (some ⟨bh,oh,none⟩) 1 hc1,.slice (some ⟨br,or_,none⟩) 1 rc1,.int .i64 4] rfl rfl 63 _ Y1.out (by kernel_rfl) rfl (by simp[Value.oneCell']) ?_;(clear Z0 Y0 Z1 Y1);(replace HH:=Lh (HH.out.below bst.out));(replace HR:=Lh (HR.out.below bst.out));(replace KW:=Lh (KW.out.below bst.out));(replace O3:=Lh (O3.out.below bst.out));(replace K7:=Lh (K7.out.below bst.out));(replace O9:=Lh (O9.out.below bst.out));(replace HW1:=Lh (HW1.out.below bst.out));(replace BB:=Lh (bl_trans BB.out bst.out));(clear bst);(generalize ((((v11.alloc (.cells z14 69)).alloc (.cells z3 63)).setRow v11.heap.size #[.int .i64 4,.int .i64 3,.int .i64 2,.slice d1.R 8 d1.rc,.slice d1.P 0 d1.pc,.slice d1.D 1 d1.dc,.slice d1.L 1 d1.lc,.slice d1.M 0 d1.mc,.slice d1.F d1.fl.length d1.fc,.int .i64 1,.int .i64 0,.int .i64 5,.int .i64 4,.int .i64 0]).setRow (v11.heap.size+1) #[.slice (some ⟨bh,oh,none⟩) 1 hc1,.slice (some ⟨br,or_,none⟩) 1 rc1,.int .i64 4])=v12 at *);(have X0:Hid (Blk ((v12.alloc (.cells #[.int .i64 2,.int .i64 1] 92)).alloc (.cells z3 63)) (v12.heap.size+1) 63 z3):=Lh (by have:=Blk.new (v12.alloc (.cells #[.int .i64 2,.int .i64 1] 92)) 63 z3;simpa only[World.size_alloc] using this));(have K12:Hid (Blk (((v12.alloc (.cells #[.int .i64 2,.int .i64 1] 92)).alloc (.cells z3 63)).setRow (v12.heap.size+1) #[.slice (some ⟨w.heap.size,0,none⟩) 1 1,.slice (some ⟨v12.heap.size,0,none⟩) 1 1,.int .i64 3]) (v12.heap.size+1) 63 #[.slice (some ⟨w.heap.size,0,none⟩) 1 1,.slice (some ⟨v12.heap.size,0,none⟩) 1 1,.int .i64 3]):=Lh (row_blk X0.out));(have HR2:Hid (Rd (((v12.alloc (.cells #[.int .i64 2,.int .i64 1] 92)).alloc (.cells z3 63)).setRow (v12.heap.size+1) #[.slice (some ⟨w.heap.size,0,none⟩) 1 1,.slice (some ⟨v12.heap.size,0,none⟩) 1 1,.int .i64 3]) 2 (some ⟨v12.heap.size,0,none⟩) 1 (Stripe.rs [⟨2,1⟩])):=Lh (rd_only ((Rd.built v12 2 1 (Stripe.rs [⟨2,1⟩]) _ rfl).alloc _) (row_only _ (v12.heap.size+1) _) (fun b off e _ hb=>by cases e;omega)));(have bs2:Hid (Below v12.heap.size v12 (((v12.alloc (.cells #[.int .i64 2,.int .i64 1] 92)).alloc (.cells z3 63)).setRow (v12.heap.size+1) #[.slice (some ⟨w.heap.size,0,none⟩) 1 1,.slice (some ⟨v12.heap.size,0,none⟩) 1 1,.int .i64 3])):=Lh (Only.below (S:=fun k=>v12.heap.size≤k) ((((Only.refl (fun k=>v12.heap.size≤k) v12).alloc _).alloc _).trans (row_only _ (v12.heap.size+1) _) (fun k _ e=>by omega)) (Nat.le_refl _) (fun k hk e=>by omega)));(have kb0:=KW.out.cell 0 _ rfl)) | (refine wpList_store_row rfl 63 _ _ rfl (v12.heap.size+1) #[.slice (some ⟨w.heap.size,0,none⟩) 1 1,.slice (some ⟨v12.heap.size,0,none⟩) 1 1,.int .i64 3] rfl rfl 63 _ X0.out (by kernel_rfl) rfl (by simp[Value.oneCell']) ?_;clear X0 kb0;replace HH:=Lh (HH.out.below bs2.out);replace HR:=Lh (HR.out.below bs2.out);replace KW:=Lh (KW.out.below bs2.out);replace O3:=Lh (O3.out.below bs2.out);replace K7:=Lh (K7.out.below bs2.out);replace O9:=Lh (O9.out.below bs2.out);replace HW1:=Lh (HW1.out.below bs2.out);replace K9:=Lh (K9.out.below bs2.out);replace K10:=Lh (K10.out.below bs2.out);replace BB:=Lh (bl_trans BB.out bs2.out);clear bs2;generalize (((v12.alloc (.cells #[.int .i64 2,.int .i64 1] 92)).alloc (.cells z3 63)).setRow (v12.heap.size+1) #[.slice (some ⟨w.heap.size,0,none⟩) 1 1,.slice (some ⟨v12.heap.size,0,none⟩) 1 1,.int .i64 3])=v13 at *;have a0:=K7.out.cell 0 _ rfl;have a1:=K7.out.cell 1 _ rfl;have a2:=K7.out.cell 2 _ rfl;have a3:=K7.out.cell 3 _ rfl;have a4:=K7.out.cell 4 _ rfl;have a5:=K7.out.cell 5 _ rfl;have a6:=K7.out.cell 6 _ rfl;have a7:=K7.out.cell 7 _ rfl;have a8:=K7.out.cell 8 _ rfl;have a9:=K7.out.cell 9 _ rfl;have a10:=K7.out.cell 10 _ rfl;have a11:=K7.out.cell 11 _ rfl;have a12:=K7.out.cell 12 _ rfl;have a13:=K7.out.cell 13 _ rfl;have b0:=K12.out.cell 0 _ rfl;have b1:=K12.out.cell 1 _ rfl;have b2:=K12.out.cell 2 _ rfl))
 clear a0 a1 a2 a3 a4 a5 a6 a7 a8 a9 a10 a11 a12 a13 b0 b1 b2
 have hB:Calls Tryz.prog 40 #[.agg #[.int .i64 4,.int .i64 3,.int .i64 2,.slice c1.R 8 c1.rc,.slice c1.P 0 c1.pc,.slice c1.D 1 c1.dc,.slice c1.L 1 c1.lc,.slice c1.M 0 c1.mc,.slice c1.F c1.fl.length c1.fc,.int .i64 1,.int .i64 0,.int .i64 0,.int .i64 0,.int .i64 0],.agg #[.slice (some ⟨w.heap.size,0,none⟩) 1 1,.slice (some ⟨v12.heap.size,0,none⟩) 1 1,.int .i64 3]] v13 (fun e w' =>∃(y:TL) (H:Option Addr) (hc:Nat) (R:Option Addr) (rc:Nat),e=.returned (.tuple #[.agg #[.int .i64 4,.int .i64 3,.int .i64 2,.slice y.R 8 y.rc,.slice y.P 0 y.pc,.slice y.D 1 y.dc,.slice y.L 1 y.lc,.slice y.M 0 y.mc,.slice y.F y.fl.length y.fc,.int .i64 1,.int .i64 0,.int .i64 6,.int .i64 0,.int .i64 7],.agg #[.slice H 1 hc,.slice R 1 rc,.int .i64 3],.int .i64 0])∧TRd w' awU y∧WRd w' ⟨awH,[⟨2,1⟩],3⟩ ⟨H,hc,R,rc⟩∧Below v13.heap.size v13 w'):=by
  have h:=all_c ⟨awU,0,0,0⟩ ⟨awH,[⟨2,1⟩],3⟩ c1 ⟨some ⟨w.heap.size,0,none⟩,1,some ⟨v12.heap.size,0,none⟩,1⟩ v13 O3.out (aw_short2 O3.out) ⟨HH.out,HR2.out⟩ ⟨by decide,by decide⟩ (fl_nil O3.out rfl)
  rw[aw_all2]at h
  exact h.mono (fun e w' ⟨y,⟨H,hc,R,rc⟩,h1,_,h3,h4⟩=>⟨y,H,hc,R,rc,h1,(h3 _ (Only.refl _ _)).1,(h3 _ (Only.refl _ _)).2,h4⟩)
 refine (hB).mono ?_
 rintro e v14 ⟨x1,H2,hc2,R2,rc2,rfl,hT,hW,b_⟩
 replace HH:=Lh (HH.out.below b_)
 replace HR:=Lh (HR.out.below b_)
 replace KW:=Lh (KW.out.below b_)
 replace O3:=Lh (O3.out.below b_)
 replace K7:=Lh (K7.out.below b_)
 replace O9:=Lh (O9.out.below b_)
 replace HW1:=Lh (HW1.out.below b_)
 replace K9:=Lh (K9.out.below b_)
 replace K10:=Lh (K10.out.below b_)
 replace K12:=Lh (K12.out.below b_)
 replace HR2:=Lh (HR2.out.below b_)
 replace BB:=Lh (bl_trans BB.out b_)
 obtain ⟨bx,ox,ex,-⟩:=hW.1.2 (by decide)
 subst ex
 have HW2:=Lh hW
 clear hB hT hW
 have Z0:Hid (Blk ((v14.alloc (.cells z14 69)).alloc (.cells z3 63)) v14.heap.size 69 z14):=Lh ((Blk.new v14 69 z14).alloc (.cells z3 63))
 have Z1:Hid (Blk ((v14.alloc (.cells z14 69)).alloc (.cells z3 63)) (v14.heap.size+1) 63 z3):=Lh (by have:=Blk.new (v14.alloc (.cells z14 69)) 63 z3;simpa only[World.size_alloc] using this)
 have Y0:Hid (Blk ((v14.alloc (.cells z14 69)).alloc (.cells z3 63)) v14.heap.size 69 z14):=Lh (Z0.out)
 have Y1:Hid (Blk (((v14.alloc (.cells z14 69)).alloc (.cells z3 63)).setRow v14.heap.size #[.int .i64 4,.int .i64 3,.int .i64 2,.slice x1.R 8 x1.rc,.slice x1.P 0 x1.pc,.slice x1.D 1 x1.dc,.slice x1.L 1 x1.lc,.slice x1.M 0 x1.mc,.slice x1.F x1.fl.length x1.fc,.int .i64 1,.int .i64 0,.int .i64 6,.int .i64 0,.int .i64 7]) (v14.heap.size+1) 63 z3):=Lh ((row_only _ v14.heap.size _).blk Z1.out (by omega))
 have K13:Hid (Blk ((((v14.alloc (.cells z14 69)).alloc (.cells z3 63)).setRow v14.heap.size #[.int .i64 4,.int .i64 3,.int .i64 2,.slice x1.R 8 x1.rc,.slice x1.P 0 x1.pc,.slice x1.D 1 x1.dc,.slice x1.L 1 x1.lc,.slice x1.M 0 x1.mc,.slice x1.F x1.fl.length x1.fc,.int .i64 1,.int .i64 0,.int .i64 6,.int .i64 0,.int .i64 7]).setRow (v14.heap.size+1) #[.slice (some ⟨bx,ox,none⟩) 1 hc2,.slice R2 1 rc2,.int .i64 3]) v14.heap.size 69 #[.int .i64 4,.int .i64 3,.int .i64 2,.slice x1.R 8 x1.rc,.slice x1.P 0 x1.pc,.slice x1.D 1 x1.dc,.slice x1.L 1 x1.lc,.slice x1.M 0 x1.mc,.slice x1.F x1.fl.length x1.fc,.int .i64 1,.int .i64 0,.int .i64 6,.int .i64 0,.int .i64 7]):=Lh ((row_only _ (v14.heap.size+1) _).blk (row_blk Y0.out) (by omega))
 have K14:Hid (Blk ((((v14.alloc (.cells z14 69)).alloc (.cells z3 63)).setRow v14.heap.size #[.int .i64 4,.int .i64 3,.int .i64 2,.slice x1.R 8 x1.rc,.slice x1.P 0 x1.pc,.slice x1.D 1 x1.dc,.slice x1.L 1 x1.lc,.slice x1.M 0 x1.mc,.slice x1.F x1.fl.length x1.fc,.int .i64 1,.int .i64 0,.int .i64 6,.int .i64 0,.int .i64 7]).setRow (v14.heap.size+1) #[.slice (some ⟨bx,ox,none⟩) 1 hc2,.slice R2 1 rc2,.int .i64 3]) (v14.heap.size+1) 63 #[.slice (some ⟨bx,ox,none⟩) 1 hc2,.slice R2 1 rc2,.int .i64 3]):=Lh (row_blk Y1.out)
 have bst:Hid (Below v14.heap.size v14 ((((v14.alloc (.cells z14 69)).alloc (.cells z3 63)).setRow v14.heap.size #[.int .i64 4,.int .i64 3,.int .i64 2,.slice x1.R 8 x1.rc,.slice x1.P 0 x1.pc,.slice x1.D 1 x1.dc,.slice x1.L 1 x1.lc,.slice x1.M 0 x1.mc,.slice x1.F x1.fl.length x1.fc,.int .i64 1,.int .i64 0,.int .i64 6,.int .i64 0,.int .i64 7]).setRow (v14.heap.size+1) #[.slice (some ⟨bx,ox,none⟩) 1 hc2,.slice R2 1 rc2,.int .i64 3])):=Lh (Only.below (S:=fun k=>v14.heap.size≤k) (((((Only.refl (fun k=>v14.heap.size≤k) v14).alloc _).alloc _).trans (row_only _ v14.heap.size _) (fun k _ e=>by omega)).trans (row_only _ (v14.heap.size+1) _) (fun k _ e=>by omega)) (Nat.le_refl _) (fun k hk e=>by omega))
 go_wp2_with (first | (refine wpList_store_row rfl 69 _ _ rfl v14.heap.size #[.int .i64 4,.int .i64 3,.int .i64 2,.slice x1.R 8 x1.rc,.slice x1.P 0 x1.pc,.slice x1.D 1 x1.dc,.slice x1.L 1 x1.lc,.slice x1.M 0 x1.mc,.slice x1.F x1.fl.length x1.fc,.int .i64 1,.int .i64 0,.int .i64 6,.int .i64 0,.int .i64 7] rfl rfl 69 _ Y0.out (by kernel_rfl) rfl (by simp[Value.oneCell']) ?_) | (refine wpList_store_row rfl 63 _ _ rfl (v14.heap.size+1) #[.slice (some ⟨bx,ox,none⟩) 1 hc2,.slice R2 1 rc2,.int .i64 3] rfl rfl 63 _ Y1.out (by kernel_rfl) rfl (by simp[Value.oneCell']) ?_;(clear Z0 Y0 Z1 Y1);(replace HH:=Lh (HH.out.below bst.out));(replace HR:=Lh (HR.out.below bst.out));(replace KW:=Lh (KW.out.below bst.out));(replace O3:=Lh (O3.out.below bst.out));(replace K7:=Lh (K7.out.below bst.out));(replace O9:=Lh (O9.out.below bst.out));(replace HW1:=Lh (HW1.out.below bst.out));(replace K9:=Lh (K9.out.below bst.out));(replace K10:=Lh (K10.out.below bst.out));(replace K12:=Lh (K12.out.below bst.out));(replace HR2:=Lh (HR2.out.below bst.out));(replace HW2:=Lh (HW2.out.below bst.out));(replace BB:=Lh (bl_trans BB.out bst.out));(clear bst);(generalize ((((v14.alloc (.cells z14 69)).alloc (.cells z3 63)).setRow v14.heap.size #[.int .i64 4,.int .i64 3,.int .i64 2,.slice x1.R 8 x1.rc,.slice x1.P 0 x1.pc,.slice x1.D 1 x1.dc,.slice x1.L 1 x1.lc,.slice x1.M 0 x1.mc,.slice x1.F x1.fl.length x1.fc,.int .i64 1,.int .i64 0,.int .i64 6,.int .i64 0,.int .i64 7]).setRow (v14.heap.size+1) #[.slice (some ⟨bx,ox,none⟩) 1 hc2,.slice R2 1 rc2,.int .i64 3])=v15 at *);(have a0:=K9.out.cell 0 _ rfl);(have a1:=K9.out.cell 1 _ rfl);(have a2:=K9.out.cell 2 _ rfl);(have a3:=K9.out.cell 3 _ rfl);(have a4:=K9.out.cell 4 _ rfl);(have a5:=K9.out.cell 5 _ rfl);(have a6:=K9.out.cell 6 _ rfl);(have a7:=K9.out.cell 7 _ rfl);(have a8:=K9.out.cell 8 _ rfl);(have a9:=K9.out.cell 9 _ rfl);(have a10:=K9.out.cell 10 _ rfl);(have a11:=K9.out.cell 11 _ rfl);(have a12:=K9.out.cell 12 _ rfl);(have a13:=K9.out.cell 13 _ rfl);(have b0:=K10.out.cell 0 _ rfl);(have b1:=K10.out.cell 1 _ rfl);(have b2:=K10.out.cell 2 _ rfl)))
 clear a0 a1 a2 a3 a4 a5 a6 a7 a8 a9 a10 a11 a12 a13 b0 b1 b2
 have hB:Calls Tryz.prog 34 #[.agg #[.int .i64 4,.int .i64 3,.int .i64 2,.slice d1.R 8 d1.rc,.slice d1.P 0 d1.pc,.slice d1.D 1 d1.dc,.slice d1.L 1 d1.lc,.slice d1.M 0 d1.mc,.slice d1.F d1.fl.length d1.fc,.int .i64 1,.int .i64 0,.int .i64 5,.int .i64 4,.int .i64 0],.agg #[.slice (some ⟨bh,oh,none⟩) 1 hc1,.slice (some ⟨br,or_,none⟩) 1 rc1,.int .i64 4]] v15 (fun e w' =>∃(y:TL) (H:Option Addr) (hc:Nat) (R:Option Addr) (rc:Nat),e=.returned (.tuple #[.agg #[.int .i64 4,.int .i64 3,.int .i64 2,.slice y.R 8 y.rc,.slice y.P 0 y.pc,.slice y.D 1 y.dc,.slice y.L 1 y.lc,.slice y.M 0 y.mc,.slice y.F y.fl.length y.fc,.int .i64 1,.int .i64 0,.int .i64 5,.int .i64 4,.int .i64 0],.agg #[.slice H 1 hc,.slice R 1 rc,.int .i64 4],.int .i64 1])∧TRd w' awU y∧WRd w' ⟨[⟨true,7⟩],[⟨4,0⟩],4⟩ ⟨H,hc,R,rc⟩∧Below v15.heap.size v15 w'):=by
  have h:=step_c ⟨awU,5,4,0⟩ ⟨[⟨true,7⟩],[⟨4,0⟩],4⟩ d1 ⟨some ⟨bh,oh,none⟩,hc1,some ⟨br,or_,none⟩,rc1⟩ v15 O9.out (aw_short2 O9.out) HW1.out ⟨by decide,by decide⟩ (fl_nil O9.out rfl)
  rw[aw_step]at h
  exact h.mono (fun e w' ⟨y,⟨H,hc,R,rc⟩,h1,_,h3,h4⟩=>⟨y,H,hc,R,rc,h1,(h3 _ (Only.refl _ _)).1,(h3 _ (Only.refl _ _)).2,h4⟩)
 refine (hB).mono ?_
 rintro e v16 ⟨s1,H3,hc3,R3,rc3,rfl,-,-,b_⟩
 replace HH:=Lh (HH.out.below b_)
 replace HR:=Lh (HR.out.below b_)
 replace KW:=Lh (KW.out.below b_)
 replace O3:=Lh (O3.out.below b_)
 replace K7:=Lh (K7.out.below b_)
 replace O9:=Lh (O9.out.below b_)
 replace HW1:=Lh (HW1.out.below b_)
 replace K9:=Lh (K9.out.below b_)
 replace K10:=Lh (K10.out.below b_)
 replace K12:=Lh (K12.out.below b_)
 replace HR2:=Lh (HR2.out.below b_)
 replace HW2:=Lh (HW2.out.below b_)
 replace K13:=Lh (K13.out.below b_)
 replace K14:=Lh (K14.out.below b_)
 replace BB:=Lh (bl_trans BB.out b_)
 clear hB
 have Z0:Hid (Blk ((v16.alloc (.cells z14 69)).alloc (.cells z3 63)) v16.heap.size 69 z14):=Lh ((Blk.new v16 69 z14).alloc (.cells z3 63))
 have Z1:Hid (Blk ((v16.alloc (.cells z14 69)).alloc (.cells z3 63)) (v16.heap.size+1) 63 z3):=Lh (by have:=Blk.new (v16.alloc (.cells z14 69)) 63 z3;simpa only[World.size_alloc] using this)
 have Y0:Hid (Blk ((v16.alloc (.cells z14 69)).alloc (.cells z3 63)) v16.heap.size 69 z14):=Lh (Z0.out)
 have Y1:Hid (Blk (((v16.alloc (.cells z14 69)).alloc (.cells z3 63)).setRow v16.heap.size #[.int .i64 4,.int .i64 3,.int .i64 2,.slice s1.R 8 s1.rc,.slice s1.P 0 s1.pc,.slice s1.D 1 s1.dc,.slice s1.L 1 s1.lc,.slice s1.M 0 s1.mc,.slice s1.F s1.fl.length s1.fc,.int .i64 1,.int .i64 0,.int .i64 5,.int .i64 4,.int .i64 0]) (v16.heap.size+1) 63 z3):=Lh ((row_only _ v16.heap.size _).blk Z1.out (by omega))
 have K16:Hid (Blk ((((v16.alloc (.cells z14 69)).alloc (.cells z3 63)).setRow v16.heap.size #[.int .i64 4,.int .i64 3,.int .i64 2,.slice s1.R 8 s1.rc,.slice s1.P 0 s1.pc,.slice s1.D 1 s1.dc,.slice s1.L 1 s1.lc,.slice s1.M 0 s1.mc,.slice s1.F s1.fl.length s1.fc,.int .i64 1,.int .i64 0,.int .i64 5,.int .i64 4,.int .i64 0]).setRow (v16.heap.size+1) #[.slice H3 1 hc3,.slice R3 1 rc3,.int .i64 4]) v16.heap.size 69 #[.int .i64 4,.int .i64 3,.int .i64 2,.slice s1.R 8 s1.rc,.slice s1.P 0 s1.pc,.slice s1.D 1 s1.dc,.slice s1.L 1 s1.lc,.slice s1.M 0 s1.mc,.slice s1.F s1.fl.length s1.fc,.int .i64 1,.int .i64 0,.int .i64 5,.int .i64 4,.int .i64 0]):=Lh ((row_only _ (v16.heap.size+1) _).blk (row_blk Y0.out) (by omega))
 have K17:Hid (Blk ((((v16.alloc (.cells z14 69)).alloc (.cells z3 63)).setRow v16.heap.size #[.int .i64 4,.int .i64 3,.int .i64 2,.slice s1.R 8 s1.rc,.slice s1.P 0 s1.pc,.slice s1.D 1 s1.dc,.slice s1.L 1 s1.lc,.slice s1.M 0 s1.mc,.slice s1.F s1.fl.length s1.fc,.int .i64 1,.int .i64 0,.int .i64 5,.int .i64 4,.int .i64 0]).setRow (v16.heap.size+1) #[.slice H3 1 hc3,.slice R3 1 rc3,.int .i64 4]) (v16.heap.size+1) 63 #[.slice H3 1 hc3,.slice R3 1 rc3,.int .i64 4]):=Lh (row_blk Y1.out)
 have bst:Hid (Below v16.heap.size v16 ((((v16.alloc (.cells z14 69)).alloc (.cells z3 63)).setRow v16.heap.size #[.int .i64 4,.int .i64 3,.int .i64 2,.slice s1.R 8 s1.rc,.slice s1.P 0 s1.pc,.slice s1.D 1 s1.dc,.slice s1.L 1 s1.lc,.slice s1.M 0 s1.mc,.slice s1.F s1.fl.length s1.fc,.int .i64 1,.int .i64 0,.int .i64 5,.int .i64 4,.int .i64 0]).setRow (v16.heap.size+1) #[.slice H3 1 hc3,.slice R3 1 rc3,.int .i64 4])):=Lh (Only.below (S:=fun k=>v16.heap.size≤k) (((((Only.refl (fun k=>v16.heap.size≤k) v16).alloc _).alloc _).trans (row_only _ v16.heap.size _) (fun k _ e=>by omega)).trans (row_only _ (v16.heap.size+1) _) (fun k _ e=>by omega)) (Nat.le_refl _) (fun k hk e=>by omega))
 go_wp2_with (first | (refine wpList_store_row rfl 69 _ _ rfl v16.heap.size #[.int .i64 4,.int .i64 3,.int .i64 2,.slice s1.R 8 s1.rc,.slice s1.P 0 s1.pc,.slice s1.D 1 s1.dc,.slice s1.L 1 s1.lc,.slice s1.M 0 s1.mc,.slice s1.F s1.fl.length s1.fc,.int .i64 1,.int .i64 0,.int .i64 5,.int .i64 4,.int .i64 0] rfl rfl 69 _ Y0.out (by kernel_rfl) rfl (by simp[Value.oneCell']) ?_) | (refine wpList_store_row rfl 63 _ _ rfl (v16.heap.size+1) #[.slice H3 1 hc3,.slice R3 1 rc3,.int .i64 4] rfl rfl 63 _ Y1.out (by kernel_rfl) rfl (by simp[Value.oneCell']) ?_;(clear Z0 Y0 Z1 Y1);(replace HH:=Lh (HH.out.below bst.out));(replace HR:=Lh (HR.out.below bst.out));(replace KW:=Lh (KW.out.below bst.out));(replace O3:=Lh (O3.out.below bst.out));(replace K7:=Lh (K7.out.below bst.out));(replace O9:=Lh (O9.out.below bst.out));(replace HW1:=Lh (HW1.out.below bst.out));(replace K9:=Lh (K9.out.below bst.out));(replace K10:=Lh (K10.out.below bst.out));(replace K12:=Lh (K12.out.below bst.out));(replace HR2:=Lh (HR2.out.below bst.out));(replace HW2:=Lh (HW2.out.below bst.out));(replace K13:=Lh (K13.out.below bst.out));(replace K14:=Lh (K14.out.below bst.out));(replace BB:=Lh (bl_trans BB.out bst.out));(clear bst);(generalize ((((v16.alloc (.cells z14 69)).alloc (.cells z3 63)).setRow v16.heap.size #[.int .i64 4,.int .i64 3,.int .i64 2,.slice s1.R 8 s1.rc,.slice s1.P 0 s1.pc,.slice s1.D 1 s1.dc,.slice s1.L 1 s1.lc,.slice s1.M 0 s1.mc,.slice s1.F s1.fl.length s1.fc,.int .i64 1,.int .i64 0,.int .i64 5,.int .i64 4,.int .i64 0]).setRow (v16.heap.size+1) #[.slice H3 1 hc3,.slice R3 1 rc3,.int .i64 4])=v17 at *);(have a0:=K7.out.cell 0 _ rfl);(have a1:=K7.out.cell 1 _ rfl);(have a2:=K7.out.cell 2 _ rfl);(have a3:=K7.out.cell 3 _ rfl);(have a4:=K7.out.cell 4 _ rfl);(have a5:=K7.out.cell 5 _ rfl);(have a6:=K7.out.cell 6 _ rfl);(have a7:=K7.out.cell 7 _ rfl);(have a8:=K7.out.cell 8 _ rfl);(have a9:=K7.out.cell 9 _ rfl);(have a10:=K7.out.cell 10 _ rfl);(have a11:=K7.out.cell 11 _ rfl);(have a12:=K7.out.cell 12 _ rfl);(have a13:=K7.out.cell 13 _ rfl);(have b0:=KW.out.cell 0 _ rfl);(have b1:=KW.out.cell 1 _ rfl);(have b2:=KW.out.cell 2 _ rfl)))
 clear a0 a1 a2 a3 a4 a5 a6 a7 a8 a9 a10 a11 a12 a13 b0 b1 b2
 clear K16 K17
 have hB:Calls Tryz.prog 36 #[.agg #[.int .i64 4,.int .i64 3,.int .i64 2,.slice c1.R 8 c1.rc,.slice c1.P 0 c1.pc,.slice c1.D 1 c1.dc,.slice c1.L 1 c1.lc,.slice c1.M 0 c1.mc,.slice c1.F c1.fl.length c1.fc,.int .i64 1,.int .i64 0,.int .i64 0,.int .i64 0,.int .i64 0],.agg #[.slice (some ⟨w.heap.size,0,none⟩) 1 1,.slice (some ⟨w.heap.size+1,0,none⟩) 1 1,.int .i64 3]] v17 (fun e w' =>∃(y:TL) (H:Option Addr) (hc:Nat) (R:Option Addr) (rc:Nat),e=.returned (.tuple #[.agg #[.int .i64 4,.int .i64 3,.int .i64 2,.slice y.R 8 y.rc,.slice y.P 0 y.pc,.slice y.D 1 y.dc,.slice y.L 1 y.lc,.slice y.M 0 y.mc,.slice y.F y.fl.length y.fc,.int .i64 1,.int .i64 0,.int .i64 6,.int .i64 0,.int .i64 8],.agg #[.slice H 1 hc,.slice R 1 rc,.int .i64 3]])∧TRd w' awU y∧WRd w' ⟨awH,[⟨2,0⟩],3⟩ ⟨H,hc,R,rc⟩∧Below v17.heap.size v17 w'):=by
  have h:=drop_c ⟨awU,0,0,0⟩ ⟨awH,[⟨2,0⟩],3⟩ c1 ⟨some ⟨w.heap.size,0,none⟩,1,some ⟨w.heap.size+1,0,none⟩,1⟩ v17 O3.out (aw_short2 O3.out) ⟨HH.out,HR.out⟩ ⟨by decide,by decide⟩ (fl_nil O3.out rfl)
  rw[aw_drop]at h
  exact h.mono (fun e w' ⟨y,⟨H,hc,R,rc⟩,h1,_,h3,h4⟩=>⟨y,H,hc,R,rc,h1,(h3 _ (Only.refl _ _)).1,(h3 _ (Only.refl _ _)).2,h4⟩)
 refine (hB).mono ?_
 rintro e v18 ⟨p1,H4,hc4,R4,rc4,rfl,-,-,b_⟩
 replace HH:=Lh (HH.out.below b_)
 replace HR:=Lh (HR.out.below b_)
 replace KW:=Lh (KW.out.below b_)
 replace O3:=Lh (O3.out.below b_)
 replace K7:=Lh (K7.out.below b_)
 replace O9:=Lh (O9.out.below b_)
 replace HW1:=Lh (HW1.out.below b_)
 replace K9:=Lh (K9.out.below b_)
 replace K10:=Lh (K10.out.below b_)
 replace K12:=Lh (K12.out.below b_)
 replace HR2:=Lh (HR2.out.below b_)
 replace HW2:=Lh (HW2.out.below b_)
 replace K13:=Lh (K13.out.below b_)
 replace K14:=Lh (K14.out.below b_)
 replace BB:=Lh (bl_trans BB.out b_)
 clear hB
 have Z0:Hid (Blk ((v18.alloc (.cells z14 69)).alloc (.cells z3 63)) v18.heap.size 69 z14):=Lh ((Blk.new v18 69 z14).alloc (.cells z3 63))
 have Z1:Hid (Blk ((v18.alloc (.cells z14 69)).alloc (.cells z3 63)) (v18.heap.size+1) 63 z3):=Lh (by have:=Blk.new (v18.alloc (.cells z14 69)) 63 z3;simpa only[World.size_alloc] using this)
 have Y0:Hid (Blk ((v18.alloc (.cells z14 69)).alloc (.cells z3 63)) v18.heap.size 69 z14):=Lh (Z0.out)
 have Y1:Hid (Blk (((v18.alloc (.cells z14 69)).alloc (.cells z3 63)).setRow v18.heap.size #[.int .i64 4,.int .i64 3,.int .i64 2,.slice p1.R 8 p1.rc,.slice p1.P 0 p1.pc,.slice p1.D 1 p1.dc,.slice p1.L 1 p1.lc,.slice p1.M 0 p1.mc,.slice p1.F p1.fl.length p1.fc,.int .i64 1,.int .i64 0,.int .i64 6,.int .i64 0,.int .i64 8]) (v18.heap.size+1) 63 z3):=Lh ((row_only _ v18.heap.size _).blk Z1.out (by omega))
 have K19:Hid (Blk ((((v18.alloc (.cells z14 69)).alloc (.cells z3 63)).setRow v18.heap.size #[.int .i64 4,.int .i64 3,.int .i64 2,.slice p1.R 8 p1.rc,.slice p1.P 0 p1.pc,.slice p1.D 1 p1.dc,.slice p1.L 1 p1.lc,.slice p1.M 0 p1.mc,.slice p1.F p1.fl.length p1.fc,.int .i64 1,.int .i64 0,.int .i64 6,.int .i64 0,.int .i64 8]).setRow (v18.heap.size+1) #[.slice H4 1 hc4,.slice R4 1 rc4,.int .i64 3]) v18.heap.size 69 #[.int .i64 4,.int .i64 3,.int .i64 2,.slice p1.R 8 p1.rc,.slice p1.P 0 p1.pc,.slice p1.D 1 p1.dc,.slice p1.L 1 p1.lc,.slice p1.M 0 p1.mc,.slice p1.F p1.fl.length p1.fc,.int .i64 1,.int .i64 0,.int .i64 6,.int .i64 0,.int .i64 8]):=Lh ((row_only _ (v18.heap.size+1) _).blk (row_blk Y0.out) (by omega))
 have K20:Hid (Blk ((((v18.alloc (.cells z14 69)).alloc (.cells z3 63)).setRow v18.heap.size #[.int .i64 4,.int .i64 3,.int .i64 2,.slice p1.R 8 p1.rc,.slice p1.P 0 p1.pc,.slice p1.D 1 p1.dc,.slice p1.L 1 p1.lc,.slice p1.M 0 p1.mc,.slice p1.F p1.fl.length p1.fc,.int .i64 1,.int .i64 0,.int .i64 6,.int .i64 0,.int .i64 8]).setRow (v18.heap.size+1) #[.slice H4 1 hc4,.slice R4 1 rc4,.int .i64 3]) (v18.heap.size+1) 63 #[.slice H4 1 hc4,.slice R4 1 rc4,.int .i64 3]):=Lh (row_blk Y1.out)
 have bst:Hid (Below v18.heap.size v18 ((((v18.alloc (.cells z14 69)).alloc (.cells z3 63)).setRow v18.heap.size #[.int .i64 4,.int .i64 3,.int .i64 2,.slice p1.R 8 p1.rc,.slice p1.P 0 p1.pc,.slice p1.D 1 p1.dc,.slice p1.L 1 p1.lc,.slice p1.M 0 p1.mc,.slice p1.F p1.fl.length p1.fc,.int .i64 1,.int .i64 0,.int .i64 6,.int .i64 0,.int .i64 8]).setRow (v18.heap.size+1) #[.slice H4 1 hc4,.slice R4 1 rc4,.int .i64 3])):=Lh (Only.below (S:=fun k=>v18.heap.size≤k) (((((Only.refl (fun k=>v18.heap.size≤k) v18).alloc _).alloc _).trans (row_only _ v18.heap.size _) (fun k _ e=>by omega)).trans (row_only _ (v18.heap.size+1) _) (fun k _ e=>by omega)) (Nat.le_refl _) (fun k hk e=>by omega))
 go_wp2_with (first | (refine wpList_store_row rfl 69 _ _ rfl v18.heap.size #[.int .i64 4,.int .i64 3,.int .i64 2,.slice p1.R 8 p1.rc,.slice p1.P 0 p1.pc,.slice p1.D 1 p1.dc,.slice p1.L 1 p1.lc,.slice p1.M 0 p1.mc,.slice p1.F p1.fl.length p1.fc,.int .i64 1,.int .i64 0,.int .i64 6,.int .i64 0,.int .i64 8] rfl rfl 69 _ Y0.out (by kernel_rfl) rfl (by simp[Value.oneCell']) ?_) | (refine wpList_store_row rfl 63 _ _ rfl (v18.heap.size+1) #[.slice H4 1 hc4,.slice R4 1 rc4,.int .i64 3] rfl rfl 63 _ Y1.out (by kernel_rfl) rfl (by simp[Value.oneCell']) ?_;(clear Z0 Y0 Z1 Y1);(replace HH:=Lh (HH.out.below bst.out));(replace HR:=Lh (HR.out.below bst.out));(replace KW:=Lh (KW.out.below bst.out));(replace O3:=Lh (O3.out.below bst.out));(replace K7:=Lh (K7.out.below bst.out));(replace O9:=Lh (O9.out.below bst.out));(replace HW1:=Lh (HW1.out.below bst.out));(replace K9:=Lh (K9.out.below bst.out));(replace K10:=Lh (K10.out.below bst.out));(replace K12:=Lh (K12.out.below bst.out));(replace HR2:=Lh (HR2.out.below bst.out));(replace HW2:=Lh (HW2.out.below bst.out));(replace K13:=Lh (K13.out.below bst.out));(replace K14:=Lh (K14.out.below bst.out));(replace BB:=Lh (bl_trans BB.out bst.out));(clear bst);(generalize ((((v18.alloc (.cells z14 69)).alloc (.cells z3 63)).setRow v18.heap.size #[.int .i64 4,.int .i64 3,.int .i64 2,.slice p1.R 8 p1.rc,.slice p1.P 0 p1.pc,.slice p1.D 1 p1.dc,.slice p1.L 1 p1.lc,.slice p1.M 0 p1.mc,.slice p1.F p1.fl.length p1.fc,.int .i64 1,.int .i64 0,.int .i64 6,.int .i64 0,.int .i64 8]).setRow (v18.heap.size+1) #[.slice H4 1 hc4,.slice R4 1 rc4,.int .i64 3])=v19 at *);(have z11:=K9.out.cell 11 _ rfl);(have z12:=K9.out.cell 12 _ rfl);(have y0:=K10.out.cell 0 _ rfl);(have y1:=K10.out.cell 1 _ rfl);(have y2:=K10.out.cell 2 _ rfl);(have x11:=K13.out.cell 11 _ rfl);(have x13:=K13.out.cell 13 _ rfl);(have u0:=K14.out.cell 0 _ rfl);(have t13:=K19.out.cell 13 _ rfl);(have q1:=K20.out.cell 1 _ rfl);(have e1:v19.cell? ⟨bh,oh+1,none⟩=some (.int .i64 7):=by (obtain ⟨b,off,e,hc⟩:=HW1.out.1.2 (by decide);cases e;exact hc 1 _ rfl));(have e2:v19.cell? ⟨br,or_,none⟩=some (.int .i64 4):=by (obtain ⟨b,off,e,hc⟩:=HW1.out.2.2 (by decide);cases e;exact hc 0 _ rfl));(have e3:v19.cell? ⟨br,or_+1,none⟩=some (.int .i64 0):=by (obtain ⟨b,off,e,hc⟩:=HW1.out.2.2 (by decide);cases e;exact hc 1 _ rfl));(have e4:v19.cell? ⟨bx,ox+1,none⟩=some (.int .i64 5):=by (obtain ⟨b,off,e,hc⟩:=HW2.out.1.2 (by decide);cases e;exact hc 1 _ rfl))) | (refine (right_c ⟨[⟨true,7⟩],[⟨4,0⟩],4⟩ ⟨some ⟨bh,oh,none⟩,hc1,some ⟨br,or_,none⟩,rc1⟩ v19 true HW1.out ⟨by decide,by decide⟩ aw_right).mono ?_;rintro e v99 ⟨rfl,b99⟩))
 go_ret
 exact ⟨rfl,bl_trans BB.out b99⟩
end Go.Proofs.YtgghaodcfgbjlaaGreat.Commit
