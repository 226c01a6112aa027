/-
 WHAT Step OF A COMMIT DOES, AS IT IS WRITTEN. No conditions beyond those that each theorem states.
-/
import Derived.Test.YtgghaodcfgbjlaaGreatCmA
import Derived.Deep.RegionHeld3
import Derived.Deep.Cut
import Derived.Deep.CutRange
set_option maxRecDepth 100000
namespace Go.Proofs.YtgghaodcfgbjlaaGreat.Commit
open Go.ChangeShapes Go.WideShapes Go.ChangeAt Go.RowKit Mem Go.Proofs.YtgghaodcfgbjlaaGreat.Attempt
theorem store_row2 {P:Program} {o:Oper} {a:Act} {w:World} {K:Act→World→Prop} {Q:Exit→Act→World→Prop} (ty:TypeId) (x y:Operand) (ho:o.op=.store ty x y) (g:Nat) (cells:Array Value) (hx:a.eval x=.pointer (some ⟨g,0,none⟩)) (hy:a.eval y=.agg cells)
  (t:TypeId) (old:Array Value) (hg:Blk w g t old) (hi:(P.info? ty).map (·.size)=some cells.size) (hold:old.size=cells.size) (h1:cells.all (·.oneCell')=true) (h:∀wn,Blk wn g t cells→Only (fun k=>k=g) w wn→K (a.put o.dst undef) wn):o.wp P a w K Q:=
 wp_store_row ty x y ho g cells hx hy t old hg hi hold h1 (h _ (row_blk hg) (row_only _ _ _))
theorem take_store {P:Program} {ops:Array Oper} {Q:Exit→Act→World→Prop} {md:Region.Mode} {S:World→Prop} {fuel:Nat} {listed:Array Bool} {a:Act} {w:World} (i:Nat) {o:Oper} (ho:ops[i]?=some o) (hr:Region.ready md ops listed= [i]) (hwt:Region.wanted o (yielded ops a.tmps)=true)
  (ty:TypeId) (x y:Operand) (hop:o.op=.store ty x y) (g:Nat) (cells:Array Value) (hx:a.eval x=.pointer (some ⟨g,0,none⟩)) (hy:a.eval y=.agg cells)
  (t:TypeId) (old:Array Value) (hg:Blk w g t old) (hi:(P.info? ty).map (·.size)=some cells.size) (hold:old.size=cells.size) (h1:cells.all (·.oneCell')=true)
  (h:∀wn,Blk wn g t cells→Only (fun k=>k=g) w wn→S wn∧wpAnyH P md ops Q S fuel (listed.setIfInBounds i true) (a.put o.dst undef) wn):wpAnyH P md ops Q S (fuel+1) listed a w:=
 wpAnyH_ready hr (by simp) (AllReadyH.cons ho (fun K' hK=>by
  rw[if_pos hwt]
  exact store_row2 ty x y hop g cells hx hy t old hg hi hold h1 (fun wn kb ON=>hK.out _ _ (h wn kb ON).1 (fun _=>(h wn kb ON).2))) AllReadyH.nil)
theorem mv_bl {b0:Nat} {w w' :World} {g:Nat} {c:Com} {W:Wd} {y:TL} {z:WL} (h:Mv b0 w g c W y z) (hb:Below w.heap.size w w'):Mv b0 w' g c W y z:=
 ⟨h.blk.below hb,h.old,fun w'' ho=>h.lists w'' (((Only.refl (fun k=>k=g∨k<b0) w).bl hb).trans ho (fun _ _ e=>e))⟩
theorem mv_phase {b0:Nat} {w:World} {g:Nat} {t:Try} {p v er q:Int} {W:Wd} {y:TL} {z:WL} (h:Mv b0 w g ⟨t,p,v,er⟩ W y z):Mv b0 (w.setCell ⟨g,11,none⟩ (.int .i64 q)) g ⟨t,q,v,er⟩ W y z:=
 ⟨h.blk.set_ 11 (.int .i64 q),h.old,fun w'' ho=>h.lists w'' ((Only.set_ (S:=fun k=>k=g∨k<b0) g 11 _ (.inl rfl)).trans ho (fun _ _ e=>e))⟩
theorem look_any {w:World} {b:Nat} {es:Array MapEntry} {ck:Nat} (hm:MapAt w b es ck) (hl:Look es) (p:Int) (fo:Bool) (hfo:phaseB p=fo):∃fv,(Instr.lookup 164 (.map (some b)) (.int .i64 p) true).run Tryz.prog w=.ok (.tuple #[fv,.bool fo]) w∧(fo=true→fv=.func (.func (meth p)) #[] #[]):=by
 obtain ⟨K,E,i0,hu,hk,hi,hz⟩:=und_doing
 cases fo with
 | true=>
  unfold phaseB at hfo
  rw[decide_eq_true_eq]at hfo
  obtain ⟨i,h1⟩:=hl.1 p hfo.1 hfo.2
  exact ⟨_,run_look_ok hu hk hm p _ i h1,fun _=>rfl⟩
 | false=>
  unfold phaseB at hfo
  rw[decide_eq_false_iff_not]at hfo
  exact ⟨_,run_look_no hu hk hi hz hm p (hl.2 p hfo),fun h=>by cases h⟩
set_option maxHeartbeats 4000000 in
theorem step_c (c:Com) (W:Wd) (x:TL) (z:WL) (w:World) (h:TRd w c.t x) (hs:Short c.t x) (hw:WRd w W z) (hf:Few W) (hx:x.fl= []):
    Calls Tryz.prog 34 #[.agg (cvl c x).toArray,.agg (wvl W z).toArray] w (RetStep w (stepC c W)):=by
  obtain ⟨t,p,v,er⟩:=c
  obtain ⟨h_,r_,k⟩:=W
  obtain ⟨PQ,hPQ⟩:∃PQ,RetStep w (stepC ⟨t,p,v,er⟩ ⟨h_,r_,k⟩)=PQ:=⟨_,rfl⟩
  have HPQ:=Lh hPQ
  rw[hPQ]
  clear hPQ
  have HT:=Lh h
  have HS:=Lh hs
  have HW:=Lh hw
  have HF:=Lh hf
  have HX:=Lh hx
  clear h hs hw hf hx
  show Calls Tryz.prog 34 #[.agg (aC t x p v er),.agg (aW z h_ r_ k)] w PQ
  have HB1:Hid (Below w.heap.size w ((((w.alloc (.cells (aC t x p v er) 69)).alloc (.cells (aW z h_ r_ k) 63)).alloc (.cells z14 69)).alloc (.cells z3 63))):=Lh (bl_alloc (bl_alloc (bl_alloc (bl_alloc (Below.refl _ _) _) _) _) _)
  have HSZ:Hid (((((w.alloc (.cells (aC t x p v er) 69)).alloc (.cells (aW z h_ r_ k) 63)).alloc (.cells z14 69)).alloc (.cells z3 63)).heap.size=w.heap.size+4):=Lh (by simp only[World.size_alloc])
  have KC:Hid (Blk ((((w.alloc (.cells (aC t x p v er) 69)).alloc (.cells (aW z h_ r_ k) 63)).alloc (.cells z14 69)).alloc (.cells z3 63)) w.heap.size 69 (aC t x p v er)):=Lh ((((Blk.new w _ _).alloc _).alloc _).alloc _)
  have KW:Hid (Blk ((((w.alloc (.cells (aC t x p v er) 69)).alloc (.cells (aW z h_ r_ k) 63)).alloc (.cells z14 69)).alloc (.cells z3 63)) (w.heap.size+1) 63 (aW z h_ r_ k)):=Lh (by have:=((Blk.new (w.alloc (.cells (aC t x p v er) 69)) 63 (aW z h_ r_ k)).alloc (.cells z14 69)).alloc (.cells z3 63);simpa only[World.size_alloc] using this)
  have K4:Hid (Blk ((((w.alloc (.cells (aC t x p v er) 69)).alloc (.cells (aW z h_ r_ k) 63)).alloc (.cells z14 69)).alloc (.cells z3 63)) (w.heap.size+1+1) 69 z14):=Lh (by have:=(Blk.new ((w.alloc (.cells (aC t x p v er) 69)).alloc (.cells (aW z h_ r_ k) 63)) 69 z14).alloc (.cells z3 63);simpa only[World.size_alloc] using this)
  have K5:Hid (Blk ((((w.alloc (.cells (aC t x p v er) 69)).alloc (.cells (aW z h_ r_ k) 63)).alloc (.cells z14 69)).alloc (.cells z3 63)) (w.heap.size+1+1+1) 63 z3):=Lh (by have:=Blk.new (((w.alloc (.cells (aC t x p v er) 69)).alloc (.cells (aW z h_ r_ k) 63)).alloc (.cells z14 69)) 63 z3;simpa only[World.size_alloc] using this)
  have a0:=KC.out.cell 0 _ rfl
  have a1:=KC.out.cell 1 _ rfl
  have a2:=KC.out.cell 2 _ rfl
  have a3:=KC.out.cell 3 _ rfl
  have a4:=KC.out.cell 4 _ rfl
  have a5:=KC.out.cell 5 _ rfl
  have a6:=KC.out.cell 6 _ rfl
  have a7:=KC.out.cell 7 _ rfl
  have a8:=KC.out.cell 8 _ rfl
  have a9:=KC.out.cell 9 _ rfl
  have a10:=KC.out.cell 10 _ rfl
  have a11:=KC.out.cell 11 _ rfl
  have a12:=KC.out.cell 12 _ rfl
  have a13:=KC.out.cell 13 _ rfl
  have b0:=KW.out.cell 0 _ rfl
  have b1:=KW.out.cell 1 _ rfl
  have b2:=KW.out.cell 2 _ rfl
  have HC:Hid (Calls Tryz.prog 83 #[.agg (aC t x p v er),.agg (aW z h_ r_ k)] ((((w.alloc (.cells (aC t x p v er) 69)).alloc (.cells (aW z h_ r_ k) 63)).alloc (.cells z14 69)).alloc (.cells z3 63)) (RetMv ((((w.alloc (.cells (aC t x p v er) 69)).alloc (.cells (aW z h_ r_ k) 63)).alloc (.cells z14 69)).alloc (.cells z3 63)) ⟨t,p,v,er⟩ ⟨h_,r_,k⟩ x)):=Lh (new_c ⟨t,p,v,er⟩ ⟨h_,r_,k⟩ x z ((((w.alloc (.cells (aC t x p v er) 69)).alloc (.cells (aW z h_ r_ k) 63)).alloc (.cells z14 69)).alloc (.cells z3 63)) (HT.out.below HB1.out) HS.out ⟨HW.out.1.below HB1.out,HW.out.2.below HB1.out⟩ HF.out HX.out)
  obtain ⟨rb,hrb⟩:∃rb,rightW ⟨h_,r_,k⟩=rb:=⟨_,rfl⟩
  obtain ⟨fo,hfo⟩:∃fo,phaseB p=fo:=⟨_,rfl⟩
  have HRB:=Lh hrb
  have HFO:=Lh hfo
  clear hrb hfo
  have HR:Hid (∀W:World,Below w.heap.size w W→Calls Tryz.prog 29 #[.agg (aW z h_ r_ k)] W (RetB W rb)):=Lh (fun W hW=>right_c ⟨h_,r_,k⟩ z W rb ⟨HW.out.1.below hW,HW.out.2.below hW⟩ HF.out HRB.out)
  go_enter Tryz.func34,Tryz.ntmps34
  go_wp2_with fail
  clear a0 a1 a2 a3 a4 a5 a6 a7 a8 a9 a10 a11 a12 a13 b0 b1 b2
  generalize (((w.alloc (.cells (aC t x p v er) 69)).alloc (.cells (aW z h_ r_ k) 63)).alloc (.cells z14 69)).alloc (.cells z3 63)=W1 at *
  refine HC.out.mono ?_
  rintro e_ w1 ⟨g,y,z1,rfl,hm,hfl,hb⟩
  generalize (Value.agg (aC t x p v er))=vx0
  generalize (Value.agg (aW z h_ r_ k))=vw0
  have HM:=Lh hm
  have HFL:Hid (y.fl= []):=Lh (hfl.trans HX.out)
  have HNE:Hid (w.heap.size+4≤g∧W1.heap.size=w.heap.size+4):=Lh ⟨by have:=hm.old;rw[HSZ.out]at this;exact this,HSZ.out⟩
  have HBB:=Lh (bl_trans HB1.out hb)
  replace KC:=Lh (KC.out.below hb)
  replace KW:=Lh (KW.out.below hb)
  replace K4:=Lh (K4.out.below hb)
  replace K5:=Lh (K5.out.below hb)
  clear hm hfl hb HC
  have c11:=KC.out.cell 11 _ rfl
  go_wp2_with fail
  go_region_held3 (fun w' =>w'.cell? ⟨w.heap.size,11,none⟩=some (.int .i64 p)) (first | exact c11 | exact a0 | go_keep)
    ((go_at_call 84
      refine (doings_c _).mono ?_
      rintro e w5 ⟨bm,es,c5,rfl,hm5,hl5,b5⟩
      obtain ⟨fv,hlook,hfv⟩:=look_any hm5 hl5 p fo HFO.out
      have HFV:=Lh hfv
      have BA:=Lh (bl_trans (Below.refl w1.heap.size w1).drew b5)
      have a0:=(KC.out.below BA.out).cell 11 _ rfl
      clear b5 hm5 hl5 hfv))
  clear c11 a0 hlook
  replace HM:=Lh (mv_bl HM.out BA.out)
  replace HBB:=Lh (bl_trans HBB.out BA.out)
  replace KC:=Lh (KC.out.below BA.out)
  replace KW:=Lh (KW.out.below BA.out)
  replace K4:=Lh (K4.out.below BA.out)
  replace K5:=Lh (K5.out.below BA.out)
  clear BA
  cases rb with
  | false=>
    have HNo:Hid (stepC ⟨t,p,v,er⟩ ⟨h_,r_,k⟩=((⟨t,p,v,er⟩,⟨h_,r_,k⟩),1)):=Lh (by unfold stepC;rw[if_neg (by rw[HRB.out];simp)])
    have kw0:=KW.out.cell 0 _ rfl
    have kw1:=KW.out.cell 1 _ rfl
    have kw2:=KW.out.cell 2 _ rfl
    go_wp2_with (refine (HR.out _ HBB.out).mono ?_;rintro e6 w6 ⟨rfl,b6⟩)
    clear kw0 kw1 kw2
    replace HM:=Lh (mv_bl HM.out b6)
    replace HBB:=Lh (bl_trans HBB.out b6)
    replace KC:=Lh (KC.out.below b6)
    replace KW:=Lh (KW.out.below b6)
    replace K4:=Lh (K4.out.below b6)
    replace K5:=Lh (K5.out.below b6)
    clear b6
    have HM:=Lh (mv_bl HM.out (Below.refl _ w6).drew)
    have HBB:=Lh (HBB.out.drew)
    have K4:=Lh (K4.out.below (Below.refl _ w6).drew)
    have K5:=Lh (K5.out.below (Below.refl _ w6).drew)
    have HBm:Hid (Blk w6.drew g 167 #[.int .i64 t.who,.int .i64 t.snap,.int .i64 t.pc,.slice y.R t.regs.length y.rc,.slice y.P t.path.length y.pc,.slice y.D t.reads.length y.dc,.slice y.L t.log.list.length y.lc,.slice y.M t.log.marks.length y.mc,.slice y.F y.fl.length y.fc,.int .i64 t.kind,.int .i64 t.why,.int .i64 p,.int .i64 v,.int .i64 er,.slice z1.H h_.length z1.hc,.slice z1.R r_.length z1.rc,.int .i64 k]):=Lh HM.out.blk
    obtain ⟨SB,hSB⟩:∃SB:World→Prop,∀W,SB W↔Blk W g 167 #[.int .i64 t.who,.int .i64 t.snap,.int .i64 t.pc,.slice y.R t.regs.length y.rc,.slice y.P t.path.length y.pc,.slice y.D t.reads.length y.dc,.slice y.L t.log.list.length y.lc,.slice y.M t.log.marks.length y.mc,.slice y.F y.fl.length y.fc,.int .i64 t.kind,.int .i64 t.why,.int .i64 p,.int .i64 v,.int .i64 er,.slice z1.H h_.length z1.hc,.slice z1.R r_.length z1.rc,.int .i64 k]:=⟨_,fun _=>Iff.rfl⟩
    have HSB:=Lh hSB
    clear hSB
    obtain ⟨vy,hvy⟩:∃vq_:Value,vq_=.agg (aC t y p v er):=⟨_,rfl⟩
    have HVY:=Lh hvy
    clear hvy
    obtain ⟨vz,hvz⟩:∃vq_:Value,vq_=.agg (aW z1 h_ r_ k):=⟨_,rfl⟩
    have HVZ:=Lh hvz
    clear hvz
    have f0:SB w6.drew:=(HSB.out _).2 HBm.out
    refine wp_region_held_drew (S:=SB) (by kernel_rfl) f0 (fun hH0=>?_)
    clear f0
    generalize w6.drew=wd at *
    have HON0:Hid (Only (fun k=>k=w.heap.size+1+1∨k=w.heap.size+1+1+1) wd wd):=Lh (Only.refl _ _)
    refine tk 0 (.pointer (some ⟨g,0,none⟩)) rfl hH0 ?_
    try go_simp
    refine tk 1 (.pointer (some ⟨g,0,none⟩)) rfl hH0 ?_
    try go_simp
    refine tk 2 (.pointer (some ⟨g,0,none⟩)) rfl hH0 ?_
    try go_simp
    refine tk 3 vy rfl hH0 ?_ (hy:=Or.inl ⟨by kernel_rfl,fun W hS=>by rw[HVY.out];have hSS:=(HSB.out W).1 hS;have q0:=hSS.cell 0 _ rfl;have q1:=hSS.cell 1 _ rfl;have q2:=hSS.cell 2 _ rfl;have q3:=hSS.cell 3 _ rfl;have q4:=hSS.cell 4 _ rfl;have q5:=hSS.cell 5 _ rfl;have q6:=hSS.cell 6 _ rfl;have q7:=hSS.cell 7 _ rfl;have q8:=hSS.cell 8 _ rfl;have q9:=hSS.cell 9 _ rfl;have q10:=hSS.cell 10 _ rfl;have q11:=hSS.cell 11 _ rfl;have q12:=hSS.cell 12 _ rfl;have q13:=hSS.cell 13 _ rfl;go_simp⟩)
    try go_simp
    refine tk 4 (.pointer (some ⟨g,0,none⟩)) rfl hH0 ?_
    try go_simp
    refine tk 5 (.pointer (some ⟨g,0,none⟩)) rfl hH0 ?_
    try go_simp
    refine tk 6 (.pointer (some ⟨g,14,none⟩)) rfl hH0 ?_
    try go_simp
    refine tk 7 vz rfl hH0 ?_ (hy:=Or.inl ⟨by kernel_rfl,fun W hS=>by rw[HVZ.out];have hSS:=(HSB.out W).1 hS;have q14:=hSS.cell 14 _ rfl;have q15:=hSS.cell 15 _ rfl;have q16:=hSS.cell 16 _ rfl;go_simp⟩)
    try go_simp
    refine take_store 8 rfl (by kernel_rfl) (by kernel_rfl) 69 (.tmp 4) (.tmp 31) rfl (w.heap.size+1+1) _ rfl HVY.out _ _ K4.out (by kernel_rfl) rfl (by simp[Value.oneCell']) (fun wn kb ON=>?_)
    replace K4:=Lh kb
    replace K5:=Lh (ON.blk K5.out (by have:=HNE.out;omega))
    replace HBm:=Lh (ON.blk HBm.out (by have:=HNE.out;omega))
    replace HON0:=Lh (HON0.out.trans ON (fun k _ e=>.inl e))
    clear ON kb
    refine ⟨(HSB.out _).2 HBm.out,?_⟩
    try go_simp
    refine take_store 9 rfl (by kernel_rfl) (by kernel_rfl) 63 (.tmp 5) (.tmp 35) rfl (w.heap.size+1+1+1) _ rfl HVZ.out _ _ K5.out (by kernel_rfl) rfl (by simp[Value.oneCell']) (fun wm kb ON=>?_)
    replace K5:=Lh kb
    replace K4:=Lh (ON.blk K4.out (by have:=HNE.out;omega))
    replace HBm:=Lh (ON.blk HBm.out (by have:=HNE.out;omega))
    replace HON0:=Lh (HON0.out.trans ON (fun k _ e=>.inr e))
    clear ON kb
    refine ⟨(HSB.out _).2 HBm.out,?_⟩
    try go_simp
    refine rdy 10 rfl (fun KK0 hK=>?_)
    go_simp
    refine hK.out _ _ ((HSB.out _).2 HBm.out) (fun _=>?_)
    clear hK KK0
    refine wpAnyH_done (by kernel_rfl) ?_ _
    try go_simp
    go_wp2_with fail
    have fr0:=K4.out.cell 0 _ rfl
    have fr1:=K4.out.cell 1 _ rfl
    have fr2:=K4.out.cell 2 _ rfl
    have fr3:=K4.out.cell 3 _ rfl
    have fr4:=K4.out.cell 4 _ rfl
    have fr5:=K4.out.cell 5 _ rfl
    have fr6:=K4.out.cell 6 _ rfl
    have fr7:=K4.out.cell 7 _ rfl
    have fr8:=K4.out.cell 8 _ rfl
    have fr9:=K4.out.cell 9 _ rfl
    have fr10:=K4.out.cell 10 _ rfl
    have fr11:=K4.out.cell 11 _ rfl
    have fr12:=K4.out.cell 12 _ rfl
    have fr13:=K4.out.cell 13 _ rfl
    have fu0:=K5.out.cell 0 _ rfl
    have fu1:=K5.out.cell 1 _ rfl
    have fu2:=K5.out.cell 2 _ rfl
    refine bodyPost_ret (v:=.tuple #[.agg (aC t y p v er),.agg (aW z1 h_ r_ k),.int .i64 1]) (by simp[results,Tryz.results34,go_sem,fr0,fr1,fr2,fr3,fr4,fr5,fr6,fr7,fr8,fr9,fr10,fr11,fr12,fr13,fu0,fu1,fu2]) rfl ?_
    rw[←HPQ.out]
    rw[HNo.out]
    exact step_end HM.out HBB.out (by omega) (by omega) (by have:=HNE.out;omega) (by have:=HNE.out;omega) HFL.out HON0.out
  | true =>
    cases fo with
    | false=>
      have HNo:Hid (stepC ⟨t,p,v,er⟩ ⟨h_,r_,k⟩=((⟨t,p,v,er⟩,⟨h_,r_,k⟩),1)):=Lh (by unfold stepC;rw[if_neg (by rw[HRB.out];show¬((true && phaseB p)=true);rw[HFO.out];simp)])
      have kw0:=KW.out.cell 0 _ rfl
      have kw1:=KW.out.cell 1 _ rfl
      have kw2:=KW.out.cell 2 _ rfl
      go_wp2_with (refine (HR.out _ HBB.out).mono ?_;rintro e6 w6 ⟨rfl,b6⟩)
      clear kw0 kw1 kw2
      replace HM:=Lh (mv_bl HM.out b6)
      replace HBB:=Lh (bl_trans HBB.out b6)
      replace KC:=Lh (KC.out.below b6)
      replace KW:=Lh (KW.out.below b6)
      replace K4:=Lh (K4.out.below b6)
      replace K5:=Lh (K5.out.below b6)
      clear b6
      have HM:=Lh (mv_bl HM.out (Below.refl _ w6).drew)
      have HBB:=Lh (HBB.out.drew)
      have K4:=Lh (K4.out.below (Below.refl _ w6).drew)
      have K5:=Lh (K5.out.below (Below.refl _ w6).drew)
      have HBm:Hid (Blk w6.drew g 167 #[.int .i64 t.who,.int .i64 t.snap,.int .i64 t.pc,.slice y.R t.regs.length y.rc,.slice y.P t.path.length y.pc,.slice y.D t.reads.length y.dc,.slice y.L t.log.list.length y.lc,.slice y.M t.log.marks.length y.mc,.slice y.F y.fl.length y.fc,.int .i64 t.kind,.int .i64 t.why,.int .i64 p,.int .i64 v,.int .i64 er,.slice z1.H h_.length z1.hc,.slice z1.R r_.length z1.rc,.int .i64 k]):=Lh HM.out.blk
      obtain ⟨SB,hSB⟩:∃SB:World→Prop,∀W,SB W↔Blk W g 167 #[.int .i64 t.who,.int .i64 t.snap,.int .i64 t.pc,.slice y.R t.regs.length y.rc,.slice y.P t.path.length y.pc,.slice y.D t.reads.length y.dc,.slice y.L t.log.list.length y.lc,.slice y.M t.log.marks.length y.mc,.slice y.F y.fl.length y.fc,.int .i64 t.kind,.int .i64 t.why,.int .i64 p,.int .i64 v,.int .i64 er,.slice z1.H h_.length z1.hc,.slice z1.R r_.length z1.rc,.int .i64 k]:=⟨_,fun _=>Iff.rfl⟩
      have HSB:=Lh hSB
      clear hSB
      obtain ⟨vy,hvy⟩:∃vq_:Value,vq_=.agg (aC t y p v er):=⟨_,rfl⟩
      have HVY:=Lh hvy
      clear hvy
      obtain ⟨vz,hvz⟩:∃vq_:Value,vq_=.agg (aW z1 h_ r_ k):=⟨_,rfl⟩
      have HVZ:=Lh hvz
      clear hvz
      have f0:SB w6.drew:=(HSB.out _).2 HBm.out
      refine wp_region_held_drew (S:=SB) (by kernel_rfl) f0 (fun hH0=>?_)
      clear f0
      generalize w6.drew=wd at *
      have HON0:Hid (Only (fun k=>k=w.heap.size+1+1∨k=w.heap.size+1+1+1) wd wd):=Lh (Only.refl _ _)
      refine tk 0 (.pointer (some ⟨g,0,none⟩)) rfl hH0 ?_
      try go_simp
      refine tk 1 (.pointer (some ⟨g,0,none⟩)) rfl hH0 ?_
      try go_simp
      refine tk 2 (.pointer (some ⟨g,0,none⟩)) rfl hH0 ?_
      try go_simp
      refine tk 3 vy rfl hH0 ?_ (hy:=Or.inl ⟨by kernel_rfl,fun W hS=>by rw[HVY.out];have hSS:=(HSB.out W).1 hS;have q0:=hSS.cell 0 _ rfl;have q1:=hSS.cell 1 _ rfl;have q2:=hSS.cell 2 _ rfl;have q3:=hSS.cell 3 _ rfl;have q4:=hSS.cell 4 _ rfl;have q5:=hSS.cell 5 _ rfl;have q6:=hSS.cell 6 _ rfl;have q7:=hSS.cell 7 _ rfl;have q8:=hSS.cell 8 _ rfl;have q9:=hSS.cell 9 _ rfl;have q10:=hSS.cell 10 _ rfl;have q11:=hSS.cell 11 _ rfl;have q12:=hSS.cell 12 _ rfl;have q13:=hSS.cell 13 _ rfl;go_simp⟩)
      try go_simp
      refine tk 4 (.pointer (some ⟨g,0,none⟩)) rfl hH0 ?_
      try go_simp
      refine tk 5 (.pointer (some ⟨g,0,none⟩)) rfl hH0 ?_
      try go_simp
      refine tk 6 (.pointer (some ⟨g,14,none⟩)) rfl hH0 ?_
      try go_simp
      refine tk 7 vz rfl hH0 ?_ (hy:=Or.inl ⟨by kernel_rfl,fun W hS=>by rw[HVZ.out];have hSS:=(HSB.out W).1 hS;have q14:=hSS.cell 14 _ rfl;have q15:=hSS.cell 15 _ rfl;have q16:=hSS.cell 16 _ rfl;go_simp⟩)
      try go_simp
      refine take_store 8 rfl (by kernel_rfl) (by kernel_rfl) 69 (.tmp 4) (.tmp 31) rfl (w.heap.size+1+1) _ rfl HVY.out _ _ K4.out (by kernel_rfl) rfl (by simp[Value.oneCell']) (fun wn kb ON=>?_)
      replace K4:=Lh kb
      replace K5:=Lh (ON.blk K5.out (by have:=HNE.out;omega))
      replace HBm:=Lh (ON.blk HBm.out (by have:=HNE.out;omega))
      replace HON0:=Lh (HON0.out.trans ON (fun k _ e=>.inl e))
      clear ON kb
      refine ⟨(HSB.out _).2 HBm.out,?_⟩
      try go_simp
      refine take_store 9 rfl (by kernel_rfl) (by kernel_rfl) 63 (.tmp 5) (.tmp 35) rfl (w.heap.size+1+1+1) _ rfl HVZ.out _ _ K5.out (by kernel_rfl) rfl (by simp[Value.oneCell']) (fun wm kb ON=>?_)
      replace K5:=Lh kb
      replace K4:=Lh (ON.blk K4.out (by have:=HNE.out;omega))
      replace HBm:=Lh (ON.blk HBm.out (by have:=HNE.out;omega))
      replace HON0:=Lh (HON0.out.trans ON (fun k _ e=>.inr e))
      clear ON kb
      refine ⟨(HSB.out _).2 HBm.out,?_⟩
      try go_simp
      refine rdy 10 rfl (fun KK0 hK=>?_)
      go_simp
      refine hK.out _ _ ((HSB.out _).2 HBm.out) (fun _=>?_)
      clear hK KK0
      refine wpAnyH_done (by kernel_rfl) ?_ _
      try go_simp
      go_wp2_with fail
      have fr0:=K4.out.cell 0 _ rfl
      have fr1:=K4.out.cell 1 _ rfl
      have fr2:=K4.out.cell 2 _ rfl
      have fr3:=K4.out.cell 3 _ rfl
      have fr4:=K4.out.cell 4 _ rfl
      have fr5:=K4.out.cell 5 _ rfl
      have fr6:=K4.out.cell 6 _ rfl
      have fr7:=K4.out.cell 7 _ rfl
      have fr8:=K4.out.cell 8 _ rfl
      have fr9:=K4.out.cell 9 _ rfl
      have fr10:=K4.out.cell 10 _ rfl
      have fr11:=K4.out.cell 11 _ rfl
      have fr12:=K4.out.cell 12 _ rfl
      have fr13:=K4.out.cell 13 _ rfl
      have fu0:=K5.out.cell 0 _ rfl
      have fu1:=K5.out.cell 1 _ rfl
      have fu2:=K5.out.cell 2 _ rfl
      refine bodyPost_ret (v:=.tuple #[.agg (aC t y p v er),.agg (aW z1 h_ r_ k),.int .i64 1]) (by simp[results,Tryz.results34,go_sem,fr0,fr1,fr2,fr3,fr4,fr5,fr6,fr7,fr8,fr9,fr10,fr11,fr12,fr13,fu0,fu1,fu2]) rfl ?_
      rw[←HPQ.out]
      rw[HNo.out]
      exact step_end HM.out HBB.out (by omega) (by omega) (by have:=HNE.out;omega) (by have:=HNE.out;omega) HFL.out HON0.out
    | true =>
      replace HFV:Hid (fv=.func (.func (meth p)) #[] #[]):=Lh (HFV.out rfl)
      have kw0:=KW.out.cell 0 _ rfl
      have kw1:=KW.out.cell 1 _ rfl
      have kw2:=KW.out.cell 2 _ rfl
      have HP:Hid (0≤p∧p≤4):=Lh (by have h:=HFO.out;unfold phaseB at h;rwa [decide_eq_true_eq]at h)
      rw[HFV.out]
      have HCM:=Lh (call_meth p HP.out.1 HP.out.2)
      have hcm:∀args W,(callFunc (meth p) args).run Tryz.prog W=.ok (.enter (meth p) args) W:=HCM.out
      have HYes:Hid (stepC ⟨t,p,v,er⟩ ⟨h_,r_,k⟩=(goC ⟨t,p,v,er⟩ ⟨h_,r_,k⟩,0)):=Lh (by unfold stepC;rw[if_pos (by rw[HRB.out];exact HFO.out)])
      have HSY:Hid (Short t y):=Lh ⟨HS.out.n1,HS.out.n2,HS.out.n3,HS.out.n4,HS.out.n5,by rw[HFL.out];decide⟩
      go_wp2_with (refine (HR.out _ HBB.out).mono ?_;rintro e6 w6 ⟨rfl,b6⟩)
      clear kw0 kw1 kw2
      replace HM:=Lh (mv_bl HM.out b6)
      replace HBB:=Lh (bl_trans HBB.out b6)
      replace KC:=Lh (KC.out.below b6)
      replace KW:=Lh (KW.out.below b6)
      replace K4:=Lh (K4.out.below b6)
      replace K5:=Lh (K5.out.below b6)
      clear b6
      refine (do_m W1.heap.size g ⟨t,p,v,er⟩ ⟨h_,r_,k⟩ y z1 w6 HM.out HSY.out HF.out HP.out.1 HP.out.2).mono ?_
      rintro e7 w7 ⟨z2,rfl,hm2,ho2⟩
      obtain ⟨rr,hrr⟩:∃rr,doC ⟨t,p,v,er⟩ ⟨h_,r_,k⟩=rr:=⟨_,rfl⟩
      have HDT:=Lh (do_t ⟨t,p,v,er⟩ ⟨h_,r_,k⟩)
      have HDL:=Lh (do_len ⟨t,p,v,er⟩ ⟨h_,r_,k⟩)
      have HRR:=Lh hrr
      rw[hrr]at hm2 HDT HDL ⊢
      clear hrr
      obtain ⟨⟨t1,p1,v1,e1⟩,⟨h1,r1,k1⟩,f1⟩:=rr
      simp only at hm2 HDT HDL ⊢
      have hp1:p1=p:=HDT.out.2.1
      have hp2:0≤p1∧p1≤4:=by have:=HP.out;omega
      have HP1:=Lh hp1
      clear hp1
      obtain ⟨hq1,hq2⟩:=hp2
      replace HM:=Lh hm2
      replace HBB:=Lh (HBB.out.trans (ho2.below HBB.out.size (fun k hk e=>by have:=HNE.out;omega)))
      replace K4:=Lh (ho2.blk K4.out (by have:=HNE.out;omega))
      replace K5:=Lh (ho2.blk K5.out (by have:=HNE.out;omega))
      clear hm2 ho2 KC KW hcm
      by_cases h0:f1=0
      · subst h0
        have HGo:Hid (goC ⟨t,p,v,er⟩ ⟨h_,r_,k⟩=(⟨t1,p1+1,v1,e1⟩,⟨h1,r1,k1⟩)):=Lh (by unfold goC;rw[HRR.out];rfl)
        have k11:=HM.out.blk.cell 11 (.int .i64 p1) rfl
        have f11:=HM.out.blk.frozen 11
        go_wp2_with fail
        clear k11 f11
        replace HM:=Lh (mv_phase (q:=p1+1) HM.out)
        replace HBB:=Lh (bl_set HBB.out (p:=⟨g,11,none⟩) (show w.heap.size≤g by have:=HNE.out;omega) (.int .i64 (p1+1)))
        replace K4:=Lh (K4.out.beside (show g≠w.heap.size+1+1 by have:=HNE.out;omega) 11 (.int .i64 (p1+1)))
        replace K5:=Lh (K5.out.beside (show g≠w.heap.size+1+1+1 by have:=HNE.out;omega) 11 (.int .i64 (p1+1)))
        generalize (w7.setCell ⟨g,11,none⟩ (.int .i64 (p1+1)))=w8 at *
        have HM:=Lh (mv_bl HM.out (Below.refl _ w8).drew)
        have HBB:=Lh (HBB.out.drew)
        have K4:=Lh (K4.out.below (Below.refl _ w8).drew)
        have K5:=Lh (K5.out.below (Below.refl _ w8).drew)
        have HBm:Hid (Blk w8.drew g 167 #[.int .i64 t1.who,.int .i64 t1.snap,.int .i64 t1.pc,.slice y.R t1.regs.length y.rc,.slice y.P t1.path.length y.pc,.slice y.D t1.reads.length y.dc,.slice y.L t1.log.list.length y.lc,.slice y.M t1.log.marks.length y.mc,.slice y.F y.fl.length y.fc,.int .i64 t1.kind,.int .i64 t1.why,.int .i64 (p1+1),.int .i64 v1,.int .i64 e1,.slice z2.H h1.length z2.hc,.slice z2.R r1.length z2.rc,.int .i64 k1]):=Lh HM.out.blk
        obtain ⟨SB,hSB⟩:∃SB:World→Prop,∀W,SB W↔Blk W g 167 #[.int .i64 t1.who,.int .i64 t1.snap,.int .i64 t1.pc,.slice y.R t1.regs.length y.rc,.slice y.P t1.path.length y.pc,.slice y.D t1.reads.length y.dc,.slice y.L t1.log.list.length y.lc,.slice y.M t1.log.marks.length y.mc,.slice y.F y.fl.length y.fc,.int .i64 t1.kind,.int .i64 t1.why,.int .i64 (p1+1),.int .i64 v1,.int .i64 e1,.slice z2.H h1.length z2.hc,.slice z2.R r1.length z2.rc,.int .i64 k1]:=⟨_,fun _=>Iff.rfl⟩
        have HSB:=Lh hSB
        clear hSB
        obtain ⟨vy,hvy⟩:∃vq_:Value,vq_=.agg #[.int .i64 t1.who,.int .i64 t1.snap,.int .i64 t1.pc,.slice y.R t1.regs.length y.rc,.slice y.P t1.path.length y.pc,.slice y.D t1.reads.length y.dc,.slice y.L t1.log.list.length y.lc,.slice y.M t1.log.marks.length y.mc,.slice y.F y.fl.length y.fc,.int .i64 t1.kind,.int .i64 t1.why,.int .i64 (p1+1),.int .i64 v1,.int .i64 e1]:=⟨_,rfl⟩
        have HVY:=Lh hvy
        clear hvy
        obtain ⟨vz,hvz⟩:∃vq_:Value,vq_=.agg (aW z2 h1 r1 k1):=⟨_,rfl⟩
        have HVZ:=Lh hvz
        clear hvz
        have f0:SB w8.drew:=(HSB.out _).2 HBm.out
        refine wp_region_held_drew (S:=SB) (by kernel_rfl) f0 (fun hH0=>?_)
        clear f0
        generalize w8.drew=wd at *
        have HON0:Hid (Only (fun k=>k=w.heap.size+1+1∨k=w.heap.size+1+1+1) wd wd):=Lh (Only.refl _ _)
        refine tk 0 (.pointer (some ⟨g,0,none⟩)) rfl hH0 ?_
        try go_simp
        refine tk 1 (.pointer (some ⟨g,0,none⟩)) rfl hH0 ?_
        try go_simp
        refine tk 2 (.pointer (some ⟨g,0,none⟩)) rfl hH0 ?_
        try go_simp
        refine tk 3 vy rfl hH0 ?_ (hy:=Or.inl ⟨by kernel_rfl,fun W hS=>by rw[HVY.out];have hSS:=(HSB.out W).1 hS;have q0:=hSS.cell 0 _ rfl;have q1:=hSS.cell 1 _ rfl;have q2:=hSS.cell 2 _ rfl;have q3:=hSS.cell 3 _ rfl;have q4:=hSS.cell 4 _ rfl;have q5:=hSS.cell 5 _ rfl;have q6:=hSS.cell 6 _ rfl;have q7:=hSS.cell 7 _ rfl;have q8:=hSS.cell 8 _ rfl;have q9:=hSS.cell 9 _ rfl;have q10:=hSS.cell 10 _ rfl;have q11:=hSS.cell 11 _ rfl;have q12:=hSS.cell 12 _ rfl;have q13:=hSS.cell 13 _ rfl;go_simp⟩)
        try go_simp
        refine tk 4 (.pointer (some ⟨g,0,none⟩)) rfl hH0 ?_
        try go_simp
        refine tk 5 (.pointer (some ⟨g,0,none⟩)) rfl hH0 ?_
        try go_simp
        refine tk 6 (.pointer (some ⟨g,14,none⟩)) rfl hH0 ?_
        try go_simp
        refine tk 7 vz rfl hH0 ?_ (hy:=Or.inl ⟨by kernel_rfl,fun W hS=>by rw[HVZ.out];have hSS:=(HSB.out W).1 hS;have q14:=hSS.cell 14 _ rfl;have q15:=hSS.cell 15 _ rfl;have q16:=hSS.cell 16 _ rfl;go_simp⟩)
        try go_simp
        refine take_store 8 rfl (by kernel_rfl) (by kernel_rfl) 69 (.tmp 4) (.tmp 56) rfl (w.heap.size+1+1) _ rfl HVY.out _ _ K4.out (by kernel_rfl) rfl (by simp[Value.oneCell']) (fun wn kb ON=>?_)
        replace K4:=Lh kb
        replace K5:=Lh (ON.blk K5.out (by have:=HNE.out;omega))
        replace HBm:=Lh (ON.blk HBm.out (by have:=HNE.out;omega))
        replace HON0:=Lh (HON0.out.trans ON (fun k _ e=>.inl e))
        clear ON kb
        refine ⟨(HSB.out _).2 HBm.out,?_⟩
        try go_simp
        refine take_store 9 rfl (by kernel_rfl) (by kernel_rfl) 63 (.tmp 5) (.tmp 60) rfl (w.heap.size+1+1+1) _ rfl HVZ.out _ _ K5.out (by kernel_rfl) rfl (by simp[Value.oneCell']) (fun wm kb ON=>?_)
        replace K5:=Lh kb
        replace K4:=Lh (ON.blk K4.out (by have:=HNE.out;omega))
        replace HBm:=Lh (ON.blk HBm.out (by have:=HNE.out;omega))
        replace HON0:=Lh (HON0.out.trans ON (fun k _ e=>.inr e))
        clear ON kb
        refine ⟨(HSB.out _).2 HBm.out,?_⟩
        try go_simp
        refine rdy 10 rfl (fun KK0 hK=>?_)
        go_simp
        refine hK.out _ _ ((HSB.out _).2 HBm.out) (fun _=>?_)
        clear hK KK0
        refine wpAnyH_done (by kernel_rfl) ?_ _
        try go_simp
        go_wp2_with fail
        have fr0:=K4.out.cell 0 _ rfl
        have fr1:=K4.out.cell 1 _ rfl
        have fr2:=K4.out.cell 2 _ rfl
        have fr3:=K4.out.cell 3 _ rfl
        have fr4:=K4.out.cell 4 _ rfl
        have fr5:=K4.out.cell 5 _ rfl
        have fr6:=K4.out.cell 6 _ rfl
        have fr7:=K4.out.cell 7 _ rfl
        have fr8:=K4.out.cell 8 _ rfl
        have fr9:=K4.out.cell 9 _ rfl
        have fr10:=K4.out.cell 10 _ rfl
        have fr11:=K4.out.cell 11 _ rfl
        have fr12:=K4.out.cell 12 _ rfl
        have fr13:=K4.out.cell 13 _ rfl
        have fu0:=K5.out.cell 0 _ rfl
        have fu1:=K5.out.cell 1 _ rfl
        have fu2:=K5.out.cell 2 _ rfl
        refine bodyPost_ret (v:=.tuple #[.agg #[.int .i64 t1.who,.int .i64 t1.snap,.int .i64 t1.pc,.slice y.R t1.regs.length y.rc,.slice y.P t1.path.length y.pc,.slice y.D t1.reads.length y.dc,.slice y.L t1.log.list.length y.lc,.slice y.M t1.log.marks.length y.mc,.slice y.F y.fl.length y.fc,.int .i64 t1.kind,.int .i64 t1.why,.int .i64 (p1+1),.int .i64 v1,.int .i64 e1],.agg (aW z2 h1 r1 k1),.int .i64 0]) (by simp[results,Tryz.results34,go_sem,fr0,fr1,fr2,fr3,fr4,fr5,fr6,fr7,fr8,fr9,fr10,fr11,fr12,fr13,fu0,fu1,fu2]) rfl ?_
        rw[←HPQ.out]
        rw[HYes.out,HGo.out]
        exact step_end HM.out HBB.out (by omega) (by omega) (by have:=HNE.out;omega) (by have:=HNE.out;omega) HFL.out HON0.out
      · have HGo:Hid (goC ⟨t,p,v,er⟩ ⟨h_,r_,k⟩=outC ⟨t1,p1,v1,e1⟩ ⟨h1,r1,k1⟩ f1):=Lh (by unfold goC;rw[HRR.out];exact if_neg h0)
        have h01:(f1==0)=false:=beq_eq_false_iff_ne.2 h0
        go_wp2_with fail
        refine (give_m W1.heap.size g ⟨t1,p1,v1,e1⟩ ⟨h1,r1,k1⟩ y z2 f1 w7 HM.out ⟨by rw[HDL.out.2];exact HF.out.1,by rw[HDL.out.1];exact HF.out.2⟩).mono ?_
        rintro e8 w8 ⟨z3,rfl,hm3,ho3⟩
        replace HGo:Hid (goC ⟨t,p,v,er⟩ ⟨h_,r_,k⟩=(⟨t1,6,0,f1⟩,⟨h1,Stripe.letS r1 t1.who,k1⟩)):=HGo
        replace HM:Hid (Mv W1.heap.size w8 g ⟨t1,6,0,f1⟩ ⟨h1,Stripe.letS r1 t1.who,k1⟩ y z3):=Lh hm3
        generalize Stripe.letS r1 t1.who=r2 at *
        replace HBB:=Lh (HBB.out.trans (ho3.below HBB.out.size (fun k hk e=>by have:=HNE.out;omega)))
        replace K4:=Lh (ho3.blk K4.out (by have:=HNE.out;omega))
        replace K5:=Lh (ho3.blk K5.out (by have:=HNE.out;omega))
        clear hm3 ho3
        go_wp2_with fail
        have HM:=Lh (mv_bl HM.out (Below.refl _ w8).drew)
        have HBB:=Lh (HBB.out.drew)
        have K4:=Lh (K4.out.below (Below.refl _ w8).drew)
        have K5:=Lh (K5.out.below (Below.refl _ w8).drew)
        have HBm:Hid (Blk w8.drew g 167 #[.int .i64 t1.who,.int .i64 t1.snap,.int .i64 t1.pc,.slice y.R t1.regs.length y.rc,.slice y.P t1.path.length y.pc,.slice y.D t1.reads.length y.dc,.slice y.L t1.log.list.length y.lc,.slice y.M t1.log.marks.length y.mc,.slice y.F y.fl.length y.fc,.int .i64 t1.kind,.int .i64 t1.why,.int .i64 6,.int .i64 0,.int .i64 f1,.slice z3.H h1.length z3.hc,.slice z3.R r2.length z3.rc,.int .i64 k1]):=Lh HM.out.blk
        obtain ⟨SB,hSB⟩:∃SB:World→Prop,∀W,SB W↔Blk W g 167 #[.int .i64 t1.who,.int .i64 t1.snap,.int .i64 t1.pc,.slice y.R t1.regs.length y.rc,.slice y.P t1.path.length y.pc,.slice y.D t1.reads.length y.dc,.slice y.L t1.log.list.length y.lc,.slice y.M t1.log.marks.length y.mc,.slice y.F y.fl.length y.fc,.int .i64 t1.kind,.int .i64 t1.why,.int .i64 6,.int .i64 0,.int .i64 f1,.slice z3.H h1.length z3.hc,.slice z3.R r2.length z3.rc,.int .i64 k1]:=⟨_,fun _=>Iff.rfl⟩
        have HSB:=Lh hSB
        clear hSB
        obtain ⟨vy,hvy⟩:∃vq_:Value,vq_=.agg (aC t1 y 6 0 f1):=⟨_,rfl⟩
        have HVY:=Lh hvy
        clear hvy
        obtain ⟨vz,hvz⟩:∃vq_:Value,vq_=.agg (aW z3 h1 r2 k1):=⟨_,rfl⟩
        have HVZ:=Lh hvz
        clear hvz
        have f0:SB w8.drew:=(HSB.out _).2 HBm.out
        refine wp_region_held_drew (S:=SB) (by kernel_rfl) f0 (fun hH0=>?_)
        clear f0
        generalize w8.drew=wd at *
        have HON0:Hid (Only (fun k=>k=w.heap.size+1+1∨k=w.heap.size+1+1+1) wd wd):=Lh (Only.refl _ _)
        refine tk 0 (.pointer (some ⟨g,0,none⟩)) rfl hH0 ?_
        try go_simp
        refine tk 1 (.pointer (some ⟨g,0,none⟩)) rfl hH0 ?_
        try go_simp
        refine tk 2 (.pointer (some ⟨g,0,none⟩)) rfl hH0 ?_
        try go_simp
        refine tk 3 vy rfl hH0 ?_ (hy:=Or.inl ⟨by kernel_rfl,fun W hS=>by rw[HVY.out];have hSS:=(HSB.out W).1 hS;have q0:=hSS.cell 0 _ rfl;have q1:=hSS.cell 1 _ rfl;have q2:=hSS.cell 2 _ rfl;have q3:=hSS.cell 3 _ rfl;have q4:=hSS.cell 4 _ rfl;have q5:=hSS.cell 5 _ rfl;have q6:=hSS.cell 6 _ rfl;have q7:=hSS.cell 7 _ rfl;have q8:=hSS.cell 8 _ rfl;have q9:=hSS.cell 9 _ rfl;have q10:=hSS.cell 10 _ rfl;have q11:=hSS.cell 11 _ rfl;have q12:=hSS.cell 12 _ rfl;have q13:=hSS.cell 13 _ rfl;go_simp⟩)
        try go_simp
        refine tk 4 (.pointer (some ⟨g,0,none⟩)) rfl hH0 ?_
        try go_simp
        refine tk 5 (.pointer (some ⟨g,0,none⟩)) rfl hH0 ?_
        try go_simp
        refine tk 6 (.pointer (some ⟨g,14,none⟩)) rfl hH0 ?_
        try go_simp
        refine tk 7 vz rfl hH0 ?_ (hy:=Or.inl ⟨by kernel_rfl,fun W hS=>by rw[HVZ.out];have hSS:=(HSB.out W).1 hS;have q14:=hSS.cell 14 _ rfl;have q15:=hSS.cell 15 _ rfl;have q16:=hSS.cell 16 _ rfl;go_simp⟩)
        try go_simp
        refine take_store 8 rfl (by kernel_rfl) (by kernel_rfl) 69 (.tmp 4) (.tmp 56) rfl (w.heap.size+1+1) _ rfl HVY.out _ _ K4.out (by kernel_rfl) rfl (by simp[Value.oneCell']) (fun wn kb ON=>?_)
        replace K4:=Lh kb
        replace K5:=Lh (ON.blk K5.out (by have:=HNE.out;omega))
        replace HBm:=Lh (ON.blk HBm.out (by have:=HNE.out;omega))
        replace HON0:=Lh (HON0.out.trans ON (fun k _ e=>.inl e))
        clear ON kb
        refine ⟨(HSB.out _).2 HBm.out,?_⟩
        try go_simp
        refine take_store 9 rfl (by kernel_rfl) (by kernel_rfl) 63 (.tmp 5) (.tmp 60) rfl (w.heap.size+1+1+1) _ rfl HVZ.out _ _ K5.out (by kernel_rfl) rfl (by simp[Value.oneCell']) (fun wm kb ON=>?_)
        replace K5:=Lh kb
        replace K4:=Lh (ON.blk K4.out (by have:=HNE.out;omega))
        replace HBm:=Lh (ON.blk HBm.out (by have:=HNE.out;omega))
        replace HON0:=Lh (HON0.out.trans ON (fun k _ e=>.inr e))
        clear ON kb
        refine ⟨(HSB.out _).2 HBm.out,?_⟩
        try go_simp
        refine rdy 10 rfl (fun KK0 hK=>?_)
        go_simp
        refine hK.out _ _ ((HSB.out _).2 HBm.out) (fun _=>?_)
        clear hK KK0
        refine wpAnyH_done (by kernel_rfl) ?_ _
        try go_simp
        go_wp2_with fail
        have fr0:=K4.out.cell 0 _ rfl
        have fr1:=K4.out.cell 1 _ rfl
        have fr2:=K4.out.cell 2 _ rfl
        have fr3:=K4.out.cell 3 _ rfl
        have fr4:=K4.out.cell 4 _ rfl
        have fr5:=K4.out.cell 5 _ rfl
        have fr6:=K4.out.cell 6 _ rfl
        have fr7:=K4.out.cell 7 _ rfl
        have fr8:=K4.out.cell 8 _ rfl
        have fr9:=K4.out.cell 9 _ rfl
        have fr10:=K4.out.cell 10 _ rfl
        have fr11:=K4.out.cell 11 _ rfl
        have fr12:=K4.out.cell 12 _ rfl
        have fr13:=K4.out.cell 13 _ rfl
        have fu0:=K5.out.cell 0 _ rfl
        have fu1:=K5.out.cell 1 _ rfl
        have fu2:=K5.out.cell 2 _ rfl
        refine bodyPost_ret (v:=.tuple #[.agg (aC t1 y 6 0 f1),.agg (aW z3 h1 r2 k1),.int .i64 0]) (by simp[results,Tryz.results34,go_sem,fr0,fr1,fr2,fr3,fr4,fr5,fr6,fr7,fr8,fr9,fr10,fr11,fr12,fr13,fu0,fu1,fu2]) rfl ?_
        rw[←HPQ.out]
        rw[HYes.out,HGo.out]
        exact step_end HM.out HBB.out (by omega) (by omega) (by have:=HNE.out;omega) (by have:=HNE.out;omega) HFL.out HON0.out
theorem step_v (c:Com) (W:Wd) (x:TL) (z:WL) (w:World) (vy vz:Value) (hvy:vy=.agg (cvl c x).toArray) (hvz:vz=.agg (wvl W z).toArray) (h:TRd w c.t x) (hs:Short c.t x) (hw:WRd w W z) (hf:Few W) (hx:x.fl= []) (r:(Com × Wd) × Int) (hr:stepC c W=r):
  Calls Tryz.prog 34 #[vy,vz] w (fun e w' =>∃(y:TL) (z2:WL) (ry rz:Value),e=.returned (.tuple #[ry,rz,.int .i64 r.2])∧ry=.agg (cvl r.1.1 y).toArray∧rz=.agg (wvl r.1.2 z2).toArray∧y.fl= []∧(∀w'',Only (fun k=>k<w.heap.size) w' w'' →TRd w'' r.1.1.t y∧WRd w'' r.1.2 z2)∧Below w.heap.size w w'):=by
 subst hvy hvz hr
 exact (step_c c W x z w h hs hw hf hx).mono (fun e w' ⟨y,z2,h1,h2,h3,h4⟩=>⟨y,z2,_,_,h1,rfl,rfl,h2,h3,h4⟩)
theorem allC_fin (c:Com) (W:Wd) (g:Nat) (c1:Com) (W1:Wd) (h:allF 6 c W=allF g c1 W1) (he:c1.ph=5∨c1.ph=6):allC c W=((c1,W1),0):=by
 rw[allF_end g c1 W1 he]at h
 unfold allC
 rw[h]
 rfl
theorem allC_no (c:Com) (W:Wd) (g:Nat) (c1:Com) (W1:Wd) (r:(Com × Wd) × Int) (h:allF 6 c W=allF (g+1) c1 W1) (he:¬(c1.ph=5∨c1.ph=6)) (hr:stepC c1 W1=r) (h0:r.2≠0):allC c W=((c,W),r.2):=by
 rw[allF_no g c1 W1 he (by rw[hr];exact h0),hr]at h
 unfold allC
 rw[h,if_neg h0]
theorem allF_go (c:Com) (W:Wd) (g:Nat) (c1:Com) (W1:Wd) (r:(Com × Wd) × Int) (h:allF 6 c W=allF (g+1) c1 W1) (he:¬(c1.ph=5∨c1.ph=6)) (hl:left c1<g+1) (hr:stepC c1 W1=r) (h0:r.2=0):
  allF 6 c W=allF g r.1.1 r.1.2∧left r.1.1<g∧r.1.1.t=c1.t∧r.1.2.r.length=W1.r.length∧r.1.2.h.length=W1.h.length:=by
 have h1:(stepC c1 W1).2=0:=by rw[hr];exact h0
 obtain ⟨_,_,_,h4⟩:=step_ok c1 W1 h1
 rw[←hr,h4]
 have h2:=left_go c1 W1 h1
 have h3:=go_t c1 W1
 have h5:=go_len c1 W1
 exact ⟨by rw[h,allF_step g c1 W1 he h1],by omega,h3.1,h5.1,h5.2⟩
set_option maxHeartbeats 8000000 in
theorem all_c (c:Com) (W:Wd) (x:TL) (z:WL) (w:World) (h:TRd w c.t x) (hs:Short c.t x) (hw:WRd w W z) (hf:Few W) (hx:x.fl= []):
  Calls Tryz.prog 40 #[.agg (cvl c x).toArray,.agg (wvl W z).toArray] w (RetStep w (allC c W)):=by
 obtain ⟨t,p,v,er⟩:=c
 obtain ⟨h_,r_,k⟩:=W
 obtain ⟨PQ,hPQ⟩:∃PQ,RetStep w (allC ⟨t,p,v,er⟩ ⟨h_,r_,k⟩)=PQ:=⟨_,rfl⟩
 have HPQ:=Lh hPQ
 rw[hPQ]
 clear hPQ
 have HT:=Lh h
 have HS:=Lh hs
 have HW:=Lh hw
 have HF:=Lh hf
 have HX:=Lh hx
 clear h hs hw hf hx
 show Calls Tryz.prog 40 #[.agg (aC t x p v er),.agg (aW z h_ r_ k)] w PQ
 have HB1:Hid (Below w.heap.size w ((((w.alloc (.cells (aC t x p v er) 69)).alloc (.cells (aW z h_ r_ k) 63)).alloc (.cells z14 69)).alloc (.cells z3 63))):=Lh (bl_alloc (bl_alloc (bl_alloc (bl_alloc (Below.refl _ _) _) _) _) _)
 have HSZ:Hid (((((w.alloc (.cells (aC t x p v er) 69)).alloc (.cells (aW z h_ r_ k) 63)).alloc (.cells z14 69)).alloc (.cells z3 63)).heap.size=w.heap.size+4):=Lh (by simp only[World.size_alloc])
 have KC:Hid (Blk ((((w.alloc (.cells (aC t x p v er) 69)).alloc (.cells (aW z h_ r_ k) 63)).alloc (.cells z14 69)).alloc (.cells z3 63)) w.heap.size 69 (aC t x p v er)):=Lh ((((Blk.new w _ _).alloc _).alloc _).alloc _)
 have KW:Hid (Blk ((((w.alloc (.cells (aC t x p v er) 69)).alloc (.cells (aW z h_ r_ k) 63)).alloc (.cells z14 69)).alloc (.cells z3 63)) (w.heap.size+1) 63 (aW z h_ r_ k)):=Lh (by have:=((Blk.new (w.alloc (.cells (aC t x p v er) 69)) 63 (aW z h_ r_ k)).alloc (.cells z14 69)).alloc (.cells z3 63);simpa only[World.size_alloc] using this)
 have K4:Hid (Blk ((((w.alloc (.cells (aC t x p v er) 69)).alloc (.cells (aW z h_ r_ k) 63)).alloc (.cells z14 69)).alloc (.cells z3 63)) (w.heap.size+1+1) 69 z14):=Lh (by have:=(Blk.new ((w.alloc (.cells (aC t x p v er) 69)).alloc (.cells (aW z h_ r_ k) 63)) 69 z14).alloc (.cells z3 63);simpa only[World.size_alloc] using this)
 have K5:Hid (Blk ((((w.alloc (.cells (aC t x p v er) 69)).alloc (.cells (aW z h_ r_ k) 63)).alloc (.cells z14 69)).alloc (.cells z3 63)) (w.heap.size+1+1+1) 63 z3):=Lh (by have:=Blk.new (((w.alloc (.cells (aC t x p v er) 69)).alloc (.cells (aW z h_ r_ k) 63)).alloc (.cells z14 69)) 63 z3;simpa only[World.size_alloc] using this)
 have a0:=KC.out.cell 0 _ rfl
 have a1:=KC.out.cell 1 _ rfl
 have a2:=KC.out.cell 2 _ rfl
 have a3:=KC.out.cell 3 _ rfl
 have a4:=KC.out.cell 4 _ rfl
 have a5:=KC.out.cell 5 _ rfl
 have a6:=KC.out.cell 6 _ rfl
 have a7:=KC.out.cell 7 _ rfl
 have a8:=KC.out.cell 8 _ rfl
 have a9:=KC.out.cell 9 _ rfl
 have a10:=KC.out.cell 10 _ rfl
 have a11:=KC.out.cell 11 _ rfl
 have a12:=KC.out.cell 12 _ rfl
 have a13:=KC.out.cell 13 _ rfl
 have b0:=KW.out.cell 0 _ rfl
 have b1:=KW.out.cell 1 _ rfl
 have b2:=KW.out.cell 2 _ rfl
 have HC:Hid (∀W:World,Below w.heap.size w W→Calls Tryz.prog 83 #[.agg (aC t x p v er),.agg (aW z h_ r_ k)] W (RetMv W ⟨t,p,v,er⟩ ⟨h_,r_,k⟩ x)):=Lh (fun W hW=>new_c ⟨t,p,v,er⟩ ⟨h_,r_,k⟩ x z W (HT.out.below hW) HS.out ⟨HW.out.1.below hW,HW.out.2.below hW⟩ HF.out HX.out)
 go_enter Tryz.func40,Tryz.ntmps40
 go_wp2_with fail
 clear a0 a1 a2 a3 a4 a5 a6 a7 a8 a9 a10 a11 a12 a13 b0 b1 b2
 generalize (((w.alloc (.cells (aC t x p v er) 69)).alloc (.cells (aW z h_ r_ k) 63)).alloc (.cells z14 69)).alloc (.cells z3 63)=W1 at *
 refine (HC.out _ HB1.out).mono ?_
 rintro e_ w1 ⟨g0,y0,z0,rfl,hm,hfl,hb⟩
 generalize (Value.agg (aC t x p v er))=vx0
 generalize (Value.agg (aW z h_ r_ k))=vw0
 have HM0:=Lh hm
 have HFL0:Hid (y0.fl= []):=Lh (hfl.trans HX.out)
 have HBB:=Lh (bl_trans HB1.out hb)
 replace KC:=Lh (KC.out.below hb)
 replace KW:=Lh (KW.out.below hb)
 replace K4:=Lh (K4.out.below hb)
 replace K5:=Lh (K5.out.below hb)
 clear hm hfl hb
 go_wp2_with fail
 go_loopg [7] 6 (fun gk pv wr=>∃(g:Nat) (c1:Com) (Wn:Wd) (y:TL) (z1:WL),pv=.pointer (some ⟨g,0,none⟩)∧Hid (Mv W1.heap.size wr g c1 Wn y z1)∧Hid (y.fl= []∧c1.t=t∧Wn.h.length=h_.length∧Wn.r.length=r_.length∧allF 6 ⟨t,p,v,er⟩ ⟨h_,r_,k⟩=allF gk c1 Wn∧left c1<gk)∧Hid (Below w.heap.size w wr)∧Hid (Blk wr w.heap.size 69 (aC t x p v er))∧Hid (Blk wr (w.heap.size+1) 63 (aW z h_ r_ k))∧Hid (Blk wr (w.heap.size+1+1) 69 z14)∧Hid (Blk wr (w.heap.size+1+1+1) 63 z3))
 case atStart=>exact ⟨g0,⟨t,p,v,er⟩,⟨h_,r_,k⟩,y0,z0,rfl,HM0,Lh ⟨HFL0.out,rfl,rfl,rfl,rfl,by have:=left_le ⟨t,p,v,er⟩;omega⟩,HBB,KC,KW,K4,K5⟩
 case round =>
  clear HM0 HFL0 HBB KC KW K4 K5
  obtain ⟨g,⟨t1,p1,v1,e1⟩,⟨h1,r1,k1⟩,y,z1,rfl,HM,HI,HBB,KC,KW,K4,K5⟩:=hrel
  have HNE:Hid (w.heap.size+4≤g∧W1.heap.size=w.heap.size+4∧W1.heap.size≤g):=Lh ⟨by have:=HM.out.old;rw[HSZ.out]at this;exact this,HSZ.out,HM.out.old⟩
  have HFL:Hid (y.fl= []):=Lh HI.out.1
  have k11:=HM.out.blk.cell 11 (.int .i64 p1) rfl
  by_cases h5:p1=5
  ·subst h5
   have HAll:=Lh (allC_fin _ _ _ _ _ HI.out.2.2.2.2.1 (by show (5:Int)=5∨(5:Int)=6;decide))
   go_wp2_with fail
   clear k11
   have HM:=Lh (mv_bl HM.out (Below.refl _ wr).drew)
   have HBB:=Lh (HBB.out.drew)
   have K4:=Lh (K4.out.below (Below.refl _ wr).drew)
   have K5:=Lh (K5.out.below (Below.refl _ wr).drew)
   have HBm:Hid (Blk wr.drew g 167 #[.int .i64 t1.who,.int .i64 t1.snap,.int .i64 t1.pc,.slice y.R t1.regs.length y.rc,.slice y.P t1.path.length y.pc,.slice y.D t1.reads.length y.dc,.slice y.L t1.log.list.length y.lc,.slice y.M t1.log.marks.length y.mc,.slice y.F y.fl.length y.fc,.int .i64 t1.kind,.int .i64 t1.why,.int .i64 5,.int .i64 v1,.int .i64 e1,.slice z1.H h1.length z1.hc,.slice z1.R r1.length z1.rc,.int .i64 k1]):=Lh HM.out.blk
   obtain ⟨SB,hSB⟩:∃SB:World→Prop,∀W,SB W↔Blk W g 167 #[.int .i64 t1.who,.int .i64 t1.snap,.int .i64 t1.pc,.slice y.R t1.regs.length y.rc,.slice y.P t1.path.length y.pc,.slice y.D t1.reads.length y.dc,.slice y.L t1.log.list.length y.lc,.slice y.M t1.log.marks.length y.mc,.slice y.F y.fl.length y.fc,.int .i64 t1.kind,.int .i64 t1.why,.int .i64 5,.int .i64 v1,.int .i64 e1,.slice z1.H h1.length z1.hc,.slice z1.R r1.length z1.rc,.int .i64 k1]:=⟨_,fun _=>Iff.rfl⟩
   have HSB:=Lh hSB
   clear hSB
   obtain ⟨vy,hvy⟩:∃vq_:Value,vq_=.agg (aC t1 y 5 v1 e1):=⟨_,rfl⟩
   have HVY:=Lh hvy
   clear hvy
   obtain ⟨vz,hvz⟩:∃vq_:Value,vq_=.agg (aW z1 h1 r1 k1):=⟨_,rfl⟩
   have HVZ:=Lh hvz
   clear hvz
   have f0:SB wr.drew:=(HSB.out _).2 HBm.out
   refine wp_region_held_drew (S:=SB) (by kernel_rfl) f0 (fun hH0=>?_)
   clear f0
   generalize wr.drew=wd at *
   have HON0:Hid (Only (fun k=>k=w.heap.size+1+1∨k=w.heap.size+1+1+1) wd wd):=Lh (Only.refl _ _)
   refine tk 0 (.pointer (some ⟨g,0,none⟩)) rfl hH0 ?_
   try go_simp
   refine tk 1 (.pointer (some ⟨g,0,none⟩)) rfl hH0 ?_
   try go_simp
   refine tk 2 (.pointer (some ⟨g,0,none⟩)) rfl hH0 ?_
   try go_simp
   refine tk 3 vy rfl hH0 ?_ (hy:=Or.inl ⟨by kernel_rfl,fun W hS=>by rw[HVY.out];have hSS:=(HSB.out W).1 hS;have q0:=hSS.cell 0 _ rfl;have q1:=hSS.cell 1 _ rfl;have q2:=hSS.cell 2 _ rfl;have q3:=hSS.cell 3 _ rfl;have q4:=hSS.cell 4 _ rfl;have q5:=hSS.cell 5 _ rfl;have q6:=hSS.cell 6 _ rfl;have q7:=hSS.cell 7 _ rfl;have q8:=hSS.cell 8 _ rfl;have q9:=hSS.cell 9 _ rfl;have q10:=hSS.cell 10 _ rfl;have q11:=hSS.cell 11 _ rfl;have q12:=hSS.cell 12 _ rfl;have q13:=hSS.cell 13 _ rfl;go_simp⟩)
   try go_simp
   refine tk 4 (.pointer (some ⟨g,0,none⟩)) rfl hH0 ?_
   try go_simp
   refine tk 5 (.pointer (some ⟨g,0,none⟩)) rfl hH0 ?_
   try go_simp
   refine tk 6 (.pointer (some ⟨g,14,none⟩)) rfl hH0 ?_
   try go_simp
   refine tk 7 vz rfl hH0 ?_ (hy:=Or.inl ⟨by kernel_rfl,fun W hS=>by rw[HVZ.out];have hSS:=(HSB.out W).1 hS;have q14:=hSS.cell 14 _ rfl;have q15:=hSS.cell 15 _ rfl;have q16:=hSS.cell 16 _ rfl;go_simp⟩)
   try go_simp
   refine take_store 8 rfl (by kernel_rfl) (by kernel_rfl) 69 (.tmp 4) (.tmp 63) rfl (w.heap.size+1+1) _ rfl HVY.out _ _ K4.out (by kernel_rfl) rfl (by simp[Value.oneCell']) (fun wn kb ON=>?_)
   replace K4:=Lh kb
   replace K5:=Lh (ON.blk K5.out (by have:=HNE.out;omega))
   replace HBm:=Lh (ON.blk HBm.out (by have:=HNE.out;omega))
   replace HON0:=Lh (HON0.out.trans ON (fun k _ e=>.inl e))
   clear ON kb
   refine ⟨(HSB.out _).2 HBm.out,?_⟩
   try go_simp
   refine take_store 9 rfl (by kernel_rfl) (by kernel_rfl) 63 (.tmp 5) (.tmp 67) rfl (w.heap.size+1+1+1) _ rfl HVZ.out _ _ K5.out (by kernel_rfl) rfl (by simp[Value.oneCell']) (fun wm kb ON=>?_)
   replace K5:=Lh kb
   replace K4:=Lh (ON.blk K4.out (by have:=HNE.out;omega))
   replace HBm:=Lh (ON.blk HBm.out (by have:=HNE.out;omega))
   replace HON0:=Lh (HON0.out.trans ON (fun k _ e=>.inr e))
   clear ON kb
   refine ⟨(HSB.out _).2 HBm.out,?_⟩
   try go_simp
   refine rdy 10 rfl (fun KK0 hK=>?_)
   go_simp
   refine hK.out _ _ ((HSB.out _).2 HBm.out) (fun _=>?_)
   clear hK KK0
   refine wpAnyH_done (by kernel_rfl) ?_ _
   try go_simp
   go_wp2_with fail
   have fr0:=K4.out.cell 0 _ rfl
   have fr1:=K4.out.cell 1 _ rfl
   have fr2:=K4.out.cell 2 _ rfl
   have fr3:=K4.out.cell 3 _ rfl
   have fr4:=K4.out.cell 4 _ rfl
   have fr5:=K4.out.cell 5 _ rfl
   have fr6:=K4.out.cell 6 _ rfl
   have fr7:=K4.out.cell 7 _ rfl
   have fr8:=K4.out.cell 8 _ rfl
   have fr9:=K4.out.cell 9 _ rfl
   have fr10:=K4.out.cell 10 _ rfl
   have fr11:=K4.out.cell 11 _ rfl
   have fr12:=K4.out.cell 12 _ rfl
   have fr13:=K4.out.cell 13 _ rfl
   have fu0:=K5.out.cell 0 _ rfl
   have fu1:=K5.out.cell 1 _ rfl
   have fu2:=K5.out.cell 2 _ rfl
   refine bodyPost_ret (v:=.tuple #[.agg (aC t1 y 5 v1 e1),.agg (aW z1 h1 r1 k1),.int .i64 0]) (by simp[results,Tryz.results40,go_sem,fr0,fr1,fr2,fr3,fr4,fr5,fr6,fr7,fr8,fr9,fr10,fr11,fr12,fr13,fu0,fu1,fu2]) rfl ?_
   rw[←HPQ.out]
   rw[HAll.out]
   exact step_end HM.out HBB.out (by omega) (by omega) (by have:=HNE.out;omega) (by have:=HNE.out;omega) HFL.out HON0.out
  ·by_cases h6:p1=6
   ·subst h6
    have HAll:=Lh (allC_fin _ _ _ _ _ HI.out.2.2.2.2.1 (by show (6:Int)=5∨(6:Int)=6;decide))
    go_wp2_with fail
    clear k11
    have HM:=Lh (mv_bl HM.out (Below.refl _ wr).drew)
    have HBB:=Lh (HBB.out.drew)
    have K4:=Lh (K4.out.below (Below.refl _ wr).drew)
    have K5:=Lh (K5.out.below (Below.refl _ wr).drew)
    have HBm:Hid (Blk wr.drew g 167 #[.int .i64 t1.who,.int .i64 t1.snap,.int .i64 t1.pc,.slice y.R t1.regs.length y.rc,.slice y.P t1.path.length y.pc,.slice y.D t1.reads.length y.dc,.slice y.L t1.log.list.length y.lc,.slice y.M t1.log.marks.length y.mc,.slice y.F y.fl.length y.fc,.int .i64 t1.kind,.int .i64 t1.why,.int .i64 6,.int .i64 v1,.int .i64 e1,.slice z1.H h1.length z1.hc,.slice z1.R r1.length z1.rc,.int .i64 k1]):=Lh HM.out.blk
    obtain ⟨SB,hSB⟩:∃SB:World→Prop,∀W,SB W↔Blk W g 167 #[.int .i64 t1.who,.int .i64 t1.snap,.int .i64 t1.pc,.slice y.R t1.regs.length y.rc,.slice y.P t1.path.length y.pc,.slice y.D t1.reads.length y.dc,.slice y.L t1.log.list.length y.lc,.slice y.M t1.log.marks.length y.mc,.slice y.F y.fl.length y.fc,.int .i64 t1.kind,.int .i64 t1.why,.int .i64 6,.int .i64 v1,.int .i64 e1,.slice z1.H h1.length z1.hc,.slice z1.R r1.length z1.rc,.int .i64 k1]:=⟨_,fun _=>Iff.rfl⟩
    have HSB:=Lh hSB
    clear hSB
    obtain ⟨vy,hvy⟩:∃vq_:Value,vq_=.agg (aC t1 y 6 v1 e1):=⟨_,rfl⟩
    have HVY:=Lh hvy
    clear hvy
    obtain ⟨vz,hvz⟩:∃vq_:Value,vq_=.agg (aW z1 h1 r1 k1):=⟨_,rfl⟩
    have HVZ:=Lh hvz
    clear hvz
    have f0:SB wr.drew:=(HSB.out _).2 HBm.out
    refine wp_region_held_drew (S:=SB) (by kernel_rfl) f0 (fun hH0=>?_)
    clear f0
    generalize wr.drew=wd at *
    have HON0:Hid (Only (fun k=>k=w.heap.size+1+1∨k=w.heap.size+1+1+1) wd wd):=Lh (Only.refl _ _)
    refine tk 0 (.pointer (some ⟨g,0,none⟩)) rfl hH0 ?_
    try go_simp
    refine tk 1 (.pointer (some ⟨g,0,none⟩)) rfl hH0 ?_
    try go_simp
    refine tk 2 (.pointer (some ⟨g,0,none⟩)) rfl hH0 ?_
    try go_simp
    refine tk 3 vy rfl hH0 ?_ (hy:=Or.inl ⟨by kernel_rfl,fun W hS=>by rw[HVY.out];have hSS:=(HSB.out W).1 hS;have q0:=hSS.cell 0 _ rfl;have q1:=hSS.cell 1 _ rfl;have q2:=hSS.cell 2 _ rfl;have q3:=hSS.cell 3 _ rfl;have q4:=hSS.cell 4 _ rfl;have q5:=hSS.cell 5 _ rfl;have q6:=hSS.cell 6 _ rfl;have q7:=hSS.cell 7 _ rfl;have q8:=hSS.cell 8 _ rfl;have q9:=hSS.cell 9 _ rfl;have q10:=hSS.cell 10 _ rfl;have q11:=hSS.cell 11 _ rfl;have q12:=hSS.cell 12 _ rfl;have q13:=hSS.cell 13 _ rfl;go_simp⟩)
    try go_simp
    refine tk 4 (.pointer (some ⟨g,0,none⟩)) rfl hH0 ?_
    try go_simp
    refine tk 5 (.pointer (some ⟨g,0,none⟩)) rfl hH0 ?_
    try go_simp
    refine tk 6 (.pointer (some ⟨g,14,none⟩)) rfl hH0 ?_
    try go_simp
    refine tk 7 vz rfl hH0 ?_ (hy:=Or.inl ⟨by kernel_rfl,fun W hS=>by rw[HVZ.out];have hSS:=(HSB.out W).1 hS;have q14:=hSS.cell 14 _ rfl;have q15:=hSS.cell 15 _ rfl;have q16:=hSS.cell 16 _ rfl;go_simp⟩)
    try go_simp
    refine take_store 8 rfl (by kernel_rfl) (by kernel_rfl) 69 (.tmp 4) (.tmp 63) rfl (w.heap.size+1+1) _ rfl HVY.out _ _ K4.out (by kernel_rfl) rfl (by simp[Value.oneCell']) (fun wn kb ON=>?_)
    replace K4:=Lh kb
    replace K5:=Lh (ON.blk K5.out (by have:=HNE.out;omega))
    replace HBm:=Lh (ON.blk HBm.out (by have:=HNE.out;omega))
    replace HON0:=Lh (HON0.out.trans ON (fun k _ e=>.inl e))
    clear ON kb
    refine ⟨(HSB.out _).2 HBm.out,?_⟩
    try go_simp
    refine take_store 9 rfl (by kernel_rfl) (by kernel_rfl) 63 (.tmp 5) (.tmp 67) rfl (w.heap.size+1+1+1) _ rfl HVZ.out _ _ K5.out (by kernel_rfl) rfl (by simp[Value.oneCell']) (fun wm kb ON=>?_)
    replace K5:=Lh kb
    replace K4:=Lh (ON.blk K4.out (by have:=HNE.out;omega))
    replace HBm:=Lh (ON.blk HBm.out (by have:=HNE.out;omega))
    replace HON0:=Lh (HON0.out.trans ON (fun k _ e=>.inr e))
    clear ON kb
    refine ⟨(HSB.out _).2 HBm.out,?_⟩
    try go_simp
    refine rdy 10 rfl (fun KK0 hK=>?_)
    go_simp
    refine hK.out _ _ ((HSB.out _).2 HBm.out) (fun _=>?_)
    clear hK KK0
    refine wpAnyH_done (by kernel_rfl) ?_ _
    try go_simp
    go_wp2_with fail
    have fr0:=K4.out.cell 0 _ rfl
    have fr1:=K4.out.cell 1 _ rfl
    have fr2:=K4.out.cell 2 _ rfl
    have fr3:=K4.out.cell 3 _ rfl
    have fr4:=K4.out.cell 4 _ rfl
    have fr5:=K4.out.cell 5 _ rfl
    have fr6:=K4.out.cell 6 _ rfl
    have fr7:=K4.out.cell 7 _ rfl
    have fr8:=K4.out.cell 8 _ rfl
    have fr9:=K4.out.cell 9 _ rfl
    have fr10:=K4.out.cell 10 _ rfl
    have fr11:=K4.out.cell 11 _ rfl
    have fr12:=K4.out.cell 12 _ rfl
    have fr13:=K4.out.cell 13 _ rfl
    have fu0:=K5.out.cell 0 _ rfl
    have fu1:=K5.out.cell 1 _ rfl
    have fu2:=K5.out.cell 2 _ rfl
    refine bodyPost_ret (v:=.tuple #[.agg (aC t1 y 6 v1 e1),.agg (aW z1 h1 r1 k1),.int .i64 0]) (by simp[results,Tryz.results40,go_sem,fr0,fr1,fr2,fr3,fr4,fr5,fr6,fr7,fr8,fr9,fr10,fr11,fr12,fr13,fu0,fu1,fu2]) rfl ?_
    rw[←HPQ.out]
    rw[HAll.out]
    exact step_end HM.out HBB.out (by omega) (by omega) (by have:=HNE.out;omega) (by have:=HNE.out;omega) HFL.out HON0.out
   ·have HEN:Hid (¬(p1=5∨p1=6)):=Lh (by omega)
    have b5:(p1 !=5)=true:=bne_iff_ne.2 h5
    have b6:(p1 !=6)=true:=bne_iff_ne.2 h6
    go_upto_region 3 with fail
    clear k11 b5 b6
    obtain ⟨m,rfl⟩:∃m,gk=m+1:=⟨gk - 1,by have:=HI.out.2.2.2.2.2;omega⟩
    obtain ⟨r9,hr9⟩:∃r9,stepC ⟨t1,p1,v1,e1⟩ ⟨h1,r1,k1⟩=r9:=⟨_,rfl⟩
    have HR9:=Lh hr9
    clear hr9
    obtain ⟨⟨⟨t2,p2,v2,e2⟩,⟨h2,r2,k2⟩⟩,er9⟩:=r9
    have HSY:Hid (Short t1 y):=Lh (by have e:t1=t:=HI.out.2.1;rw[e];exact ⟨HS.out.n1,HS.out.n2,HS.out.n3,HS.out.n4,HS.out.n5,by rw[HFL.out];decide⟩)
    have HFY:Hid (Few ⟨h1,r1,k1⟩):=Lh ⟨by have e:h1.length=h_.length:=HI.out.2.2.1;show h1.length≤1000000;rw[e];exact HF.out.1,by have e:r1.length=r_.length:=HI.out.2.2.2.1;show r1.length≤1000000;rw[e];exact HF.out.2⟩
    go_cut [8,9,10] from 15 to 59 (fun q8 q9 q10 wx=>∃(g8 g9:Nat) (y2:TL) (z2:WL),q8=.pointer (some ⟨g8,0,none⟩)∧q9=.pointer (some ⟨g9,0,none⟩)∧q10=.int .i64 er9∧Hid (Blk wx g8 69 (aC t2 y2 p2 v2 e2))∧Hid (Blk wx g9 63 (aW z2 h2 r2 k2))∧Hid (y2.fl= [])∧Hid (∀w'',Only (fun k=>k<W1.heap.size∨k=g8∨k=g9) wx w'' →TRd w'' t2 y2∧WRd w'' ⟨h2,r2,k2⟩ z2)∧Hid (Below wr.heap.size wr wx)∧Hid (wr.heap.size≤g8∧wr.heap.size≤g9∧g8≠g9))
    case first=>
     try simp only[List.append_eq,List.cons_append,List.nil_append]
     have bq:Hid (Below wr.heap.size wr wr.drew):=Lh (Below.refl _ _).drew
     have HBm:Hid (Blk wr.drew g 167 #[.int .i64 t1.who,.int .i64 t1.snap,.int .i64 t1.pc,.slice y.R t1.regs.length y.rc,.slice y.P t1.path.length y.pc,.slice y.D t1.reads.length y.dc,.slice y.L t1.log.list.length y.lc,.slice y.M t1.log.marks.length y.mc,.slice y.F y.fl.length y.fc,.int .i64 t1.kind,.int .i64 t1.why,.int .i64 p1,.int .i64 v1,.int .i64 e1,.slice z1.H h1.length z1.hc,.slice z1.R r1.length z1.rc,.int .i64 k1]):=Lh (HM.out.blk.below (Below.refl _ _).drew)
     obtain ⟨SB,hSB⟩:∃SB:World→Prop,∀W,SB W↔Blk W g 167 #[.int .i64 t1.who,.int .i64 t1.snap,.int .i64 t1.pc,.slice y.R t1.regs.length y.rc,.slice y.P t1.path.length y.pc,.slice y.D t1.reads.length y.dc,.slice y.L t1.log.list.length y.lc,.slice y.M t1.log.marks.length y.mc,.slice y.F y.fl.length y.fc,.int .i64 t1.kind,.int .i64 t1.why,.int .i64 p1,.int .i64 v1,.int .i64 e1,.slice z1.H h1.length z1.hc,.slice z1.R r1.length z1.rc,.int .i64 k1]:=⟨_,fun _=>Iff.rfl⟩
     have HSB:=Lh hSB
     clear hSB
     obtain ⟨vy,hvy⟩:∃vq_:Value,vq_=.agg (aC t1 y p1 v1 e1):=⟨_,rfl⟩
     have HVY:=Lh hvy
     clear hvy
     obtain ⟨vz,hvz⟩:∃vq_:Value,vq_=.agg (aW z1 h1 r1 k1):=⟨_,rfl⟩
     have HVZ:=Lh hvz
     clear hvz
     have f0:SB wr.drew:=(HSB.out _).2 HBm.out
     refine wp_region_held_drew (S:=SB) (by kernel_rfl) f0 (fun hH0=>?_)
     clear f0
     have hwr:wr.heap.size=wr.drew.heap.size:=rfl
     have HWS:Hid (W1.heap.size≤wr.heap.size):=Lh (by have:=HNE.out;have:=HM.out.blk.lt;omega)
     clear hwr
     generalize wr.drew=wq at *
     refine tk 0 (.pointer (some ⟨g,0,none⟩)) rfl hH0 ?_
     try go_simp
     refine tk 1 (.pointer (some ⟨g,0,none⟩)) rfl hH0 ?_
     try go_simp
     refine tk 2 (.pointer (some ⟨g,0,none⟩)) rfl hH0 ?_
     try go_simp
     refine tk 3 vy rfl hH0 ?_ (hy:=Or.inl ⟨by kernel_rfl,fun W hS=>by rw[HVY.out];have hSS:=(HSB.out W).1 hS;have q0:=hSS.cell 0 _ rfl;have q1:=hSS.cell 1 _ rfl;have q2:=hSS.cell 2 _ rfl;have q3:=hSS.cell 3 _ rfl;have q4:=hSS.cell 4 _ rfl;have q5:=hSS.cell 5 _ rfl;have q6:=hSS.cell 6 _ rfl;have q7:=hSS.cell 7 _ rfl;have q8:=hSS.cell 8 _ rfl;have q9:=hSS.cell 9 _ rfl;have q10:=hSS.cell 10 _ rfl;have q11:=hSS.cell 11 _ rfl;have q12:=hSS.cell 12 _ rfl;have q13:=hSS.cell 13 _ rfl;go_simp⟩)
     try go_simp
     refine tk 4 (.pointer (some ⟨g,0,none⟩)) rfl hH0 ?_
     try go_simp
     refine tk 5 (.pointer (some ⟨g,0,none⟩)) rfl hH0 ?_
     try go_simp
     refine tk 6 (.pointer (some ⟨g,14,none⟩)) rfl hH0 ?_
     try go_simp
     refine tk 7 vz rfl hH0 ?_ (hy:=Or.inl ⟨by kernel_rfl,fun W hS=>by rw[HVZ.out];have hSS:=(HSB.out W).1 hS;have q14:=hSS.cell 14 _ rfl;have q15:=hSS.cell 15 _ rfl;have q16:=hSS.cell 16 _ rfl;go_simp⟩)
     try go_simp
     refine wpAnyH_ready (rs:= [8,13,14]) (by kernel_rfl) (by simp) ?_
     refine AllReadyH.cons rfl (fun KK0 hK=>?_) ?_
     ·rw [if_pos (by kernel_rfl)]
      refine Step2.calls_wp _ _ _ (step_v ⟨t1,p1,v1,e1⟩ ⟨h1,r1,k1⟩ y z1 wq vy vz HVY.out HVZ.out (HM.out.lists wq (Only.of_below bq.out)).1 HSY.out (HM.out.lists wq (Only.of_below bq.out)).2 HFY.out HFL.out _ HR9.out) (Step2.run_call _ _ _ rfl rfl Tryz.func34 (by kernel_rfl) (by kernel_rfl) _ (by kernel_rfl)) ?_
      obtain ⟨nc,hnc⟩:∃n,wq.heap.size=n:=⟨_,rfl⟩
      have HNC:Hid (W1.heap.size≤nc):=Lh (by rw[←hnc];exact Nat.le_trans HWS.out bq.out.size)
      rintro e wq ⟨y2,z2,ry,rz,rfl,hry,hrz,hf2,hl2,b_⟩
      refine ⟨_,rfl,?_⟩
      rw[hnc]at hl2
      have HRY:Hid (ry=.agg (aC t2 y2 p2 v2 e2)):=Lh hry
      have HRZ:Hid (rz=.agg (aW z2 h2 r2 k2)):=Lh hrz
      have HF2:=Lh hf2
      have LST:Hid (∀w'',Only (fun k=>k<nc) wq w'' →TRd w'' t2 y2∧WRd w'' ⟨h2,r2,k2⟩ z2):=Lh hl2
      have OC:Hid (Only (fun k=>k<nc) wq wq):=Lh (Only.refl _ _)
      obtain ⟨ns,hns⟩:∃n,wq.heap.size=n:=⟨_,rfl⟩
      have HNS:Hid (wq.heap.size=ns):=Lh hns
      replace bq:=Lh (bl_trans bq.out b_)
      replace HBm:=Lh (HBm.out.below b_)
      clear hry hrz hf2 hl2 b_ hnc hns
      refine hK.out _ _ ((HSB.out _).2 HBm.out) (fun hH0=>?_)
      clear hK KK0
      try go_simp
      refine tk 9 (.tuple #[ry,rz,.int .i64 er9]) rfl hH0 ?_
      try go_simp
      refine tk 10 ry rfl hH0 ?_
      try go_simp
      refine tk 11 rz rfl hH0 ?_
      try go_simp
      refine tk 12 (.int .i64 er9) rfl hH0 ?_
      try go_simp
      refine wpAnyH_ready (rs:= [13,14]) (by kernel_rfl) (by simp) ?_
      refine AllReadyH.cons rfl (fun KK0 hK=>?_) ?_
      ·go_simp
       obtain ⟨g8,hg8⟩:∃gq,wq.heap.size=gq:=⟨_,rfl⟩
       have K8:Hid (Blk (wq.alloc (.cells z14 69)) g8 69 z14):=Lh (by rw[←hg8];exact Blk.new _ _ _)
       have Gfirst:Hid (wr.heap.size≤g8):=Lh (by rw[←hg8];exact bq.out.size)
       have H8:Hid (g8<nc∨ns≤g8):=Lh (.inr (by have h1:=OC.out.size;have h2:=HNS.out;omega))
       replace OC:=Lh (OC.out.alloc (.cells z14 69))
       replace HBm:=Lh (HBm.out.alloc (.cells z14 69))
       replace bq:=Lh (bl_alloc bq.out (.cells z14 69))
       rw[hg8]
       generalize (wq.alloc (.cells z14 69))=wq at *
       refine hK.out _ _ ((HSB.out _).2 HBm.out) (fun hH0=>?_)
       clear hK KK0
       try go_simp
       refine rdy 14 rfl (fun KK0 hK=>?_)
       go_simp
       obtain ⟨g9,hg9⟩:∃gq,wq.heap.size=gq:=⟨_,rfl⟩
       have K9:Hid (Blk (wq.alloc (.cells z3 63)) g9 63 z3):=Lh (by rw[←hg9];exact Blk.new _ _ _)
       have HGG:Hid (wr.heap.size≤g8∧wr.heap.size≤g9∧g8≠g9):=Lh (by have h1:=K8.out.lt;have h2:=bq.out.size;have h3:=Gfirst.out;omega)
       replace K8:=Lh (K8.out.alloc (.cells z3 63))
       have H9:Hid (g9<nc∨ns≤g9):=Lh (.inr (by have h1:=OC.out.size;have h2:=HNS.out;omega))
       replace OC:=Lh (OC.out.alloc (.cells z3 63))
       replace HBm:=Lh (HBm.out.alloc (.cells z3 63))
       replace bq:=Lh (bl_alloc bq.out (.cells z3 63))
       rw[hg9]
       generalize (wq.alloc (.cells z3 63))=wq at *
       refine hK.out _ _ ((HSB.out _).2 HBm.out) (fun hH0=>?_)
       clear hK KK0
       try go_simp
       have HG2:Hid (g≠g8∧g≠g9):=Lh (by have:=HM.out.blk.lt;have:=HGG.out;omega)
       refine take_store 15 rfl (by kernel_rfl) (by kernel_rfl) 69 (.tmp 8) (.tmp 39) rfl g8 (aC t2 y2 p2 v2 e2) rfl HRY.out _ _ K8.out (by kernel_rfl) rfl (by simp[Value.oneCell']) (fun wn kb ON=>?_)
       replace K8:=Lh kb
       replace K9:=Lh (ON.blk K9.out (by have:=HGG.out;omega))
       replace HBm:=Lh (ON.blk HBm.out (by have:=HG2.out;omega))
       replace OC:=Lh (OC.out.trans ON (fun k hk e=>by have h8:=H8.out;have h9:=H9.out;have hns:=HNS.out;omega))
       replace bq:=Lh (bq.out.trans (ON.below bq.out.size (fun k hk e=>by have:=HGG.out;omega)))
       clear ON kb
       refine ⟨(HSB.out _).2 HBm.out,?_⟩
       try go_simp
       refine take_store 16 rfl (by kernel_rfl) (by kernel_rfl) 63 (.tmp 9) (.tmp 40) rfl g9 (aW z2 h2 r2 k2) rfl HRZ.out _ _ K9.out (by kernel_rfl) rfl (by simp[Value.oneCell']) (fun wm kb ON=>?_)
       replace K9:=Lh kb
       replace K8:=Lh (ON.blk K8.out (by have:=HGG.out;omega))
       replace HBm:=Lh (ON.blk HBm.out (by have:=HG2.out;omega))
       replace OC:=Lh (OC.out.trans ON (fun k hk e=>by have h8:=H8.out;have h9:=H9.out;have hns:=HNS.out;omega))
       replace bq:=Lh (bq.out.trans (ON.below bq.out.size (fun k hk e=>by have:=HGG.out;omega)))
       clear ON kb
       refine ⟨(HSB.out _).2 HBm.out,?_⟩
       try go_simp
       refine rdy 17 rfl (fun KK0 hK=>?_)
       go_simp
       refine hK.out _ _ ((HSB.out _).2 HBm.out) (fun _=>?_)
       clear hK KK0
       refine wpAnyH_done (by kernel_rfl) ?_ _
       try go_simp
       go_wp2_with fail
       go_meet
       case rel=>exact ⟨g8,g9,y2,z2,rfl,rfl,rfl,K8,K9,HF2,Lh (fun w'' ho=>LST.out w'' (OC.out.trans ho (fun k hk e=>by have h8:=H8.out;have h9:=H9.out;have hn:=HNC.out;have hns:=HNS.out;omega))),bq,HGG⟩
      refine AllReadyH.cons rfl (fun KK0 hK=>?_) AllReadyH.nil
      go_simp
      obtain ⟨g9,hg9⟩:∃gq,wq.heap.size=gq:=⟨_,rfl⟩
      have K9:Hid (Blk (wq.alloc (.cells z3 63)) g9 63 z3):=Lh (by rw[←hg9];exact Blk.new _ _ _)
      have Gfirst:Hid (wr.heap.size≤g9):=Lh (by rw[←hg9];exact bq.out.size)
      have H9:Hid (g9<nc∨ns≤g9):=Lh (.inr (by have h1:=OC.out.size;have h2:=HNS.out;omega))
      replace OC:=Lh (OC.out.alloc (.cells z3 63))
      replace HBm:=Lh (HBm.out.alloc (.cells z3 63))
      replace bq:=Lh (bl_alloc bq.out (.cells z3 63))
      rw[hg9]
      generalize (wq.alloc (.cells z3 63))=wq at *
      refine hK.out _ _ ((HSB.out _).2 HBm.out) (fun hH0=>?_)
      clear hK KK0
      try go_simp
      refine rdy 13 rfl (fun KK0 hK=>?_)
      go_simp
      obtain ⟨g8,hg8⟩:∃gq,wq.heap.size=gq:=⟨_,rfl⟩
      have K8:Hid (Blk (wq.alloc (.cells z14 69)) g8 69 z14):=Lh (by rw[←hg8];exact Blk.new _ _ _)
      have HGG:Hid (wr.heap.size≤g8∧wr.heap.size≤g9∧g8≠g9):=Lh (by have h1:=K9.out.lt;have h2:=bq.out.size;have h3:=Gfirst.out;omega)
      replace K9:=Lh (K9.out.alloc (.cells z14 69))
      have H8:Hid (g8<nc∨ns≤g8):=Lh (.inr (by have h1:=OC.out.size;have h2:=HNS.out;omega))
      replace OC:=Lh (OC.out.alloc (.cells z14 69))
      replace HBm:=Lh (HBm.out.alloc (.cells z14 69))
      replace bq:=Lh (bl_alloc bq.out (.cells z14 69))
      rw[hg8]
      generalize (wq.alloc (.cells z14 69))=wq at *
      refine hK.out _ _ ((HSB.out _).2 HBm.out) (fun hH0=>?_)
      clear hK KK0
      try go_simp
      have HG2:Hid (g≠g8∧g≠g9):=Lh (by have:=HM.out.blk.lt;have:=HGG.out;omega)
      refine take_store 15 rfl (by kernel_rfl) (by kernel_rfl) 69 (.tmp 8) (.tmp 39) rfl g8 (aC t2 y2 p2 v2 e2) rfl HRY.out _ _ K8.out (by kernel_rfl) rfl (by simp[Value.oneCell']) (fun wn kb ON=>?_)
      replace K8:=Lh kb
      replace K9:=Lh (ON.blk K9.out (by have:=HGG.out;omega))
      replace HBm:=Lh (ON.blk HBm.out (by have:=HG2.out;omega))
      replace OC:=Lh (OC.out.trans ON (fun k hk e=>by have h8:=H8.out;have h9:=H9.out;have hns:=HNS.out;omega))
      replace bq:=Lh (bq.out.trans (ON.below bq.out.size (fun k hk e=>by have:=HGG.out;omega)))
      clear ON kb
      refine ⟨(HSB.out _).2 HBm.out,?_⟩
      try go_simp
      refine take_store 16 rfl (by kernel_rfl) (by kernel_rfl) 63 (.tmp 9) (.tmp 40) rfl g9 (aW z2 h2 r2 k2) rfl HRZ.out _ _ K9.out (by kernel_rfl) rfl (by simp[Value.oneCell']) (fun wm kb ON=>?_)
      replace K9:=Lh kb
      replace K8:=Lh (ON.blk K8.out (by have:=HGG.out;omega))
      replace HBm:=Lh (ON.blk HBm.out (by have:=HG2.out;omega))
      replace OC:=Lh (OC.out.trans ON (fun k hk e=>by have h8:=H8.out;have h9:=H9.out;have hns:=HNS.out;omega))
      replace bq:=Lh (bq.out.trans (ON.below bq.out.size (fun k hk e=>by have:=HGG.out;omega)))
      clear ON kb
      refine ⟨(HSB.out _).2 HBm.out,?_⟩
      try go_simp
      refine rdy 17 rfl (fun KK0 hK=>?_)
      go_simp
      refine hK.out _ _ ((HSB.out _).2 HBm.out) (fun _=>?_)
      clear hK KK0
      refine wpAnyH_done (by kernel_rfl) ?_ _
      try go_simp
      go_wp2_with fail
      go_meet
      case rel=>exact ⟨g8,g9,y2,z2,rfl,rfl,rfl,K8,K9,HF2,Lh (fun w'' ho=>LST.out w'' (OC.out.trans ho (fun k hk e=>by have h8:=H8.out;have h9:=H9.out;have hn:=HNC.out;have hns:=HNS.out;omega))),bq,HGG⟩
     refine AllReadyH.cons rfl (fun KK0 hK=>?_) ?_
     ·go_simp
      obtain ⟨g8,hg8⟩:∃gq,wq.heap.size=gq:=⟨_,rfl⟩
      have K8:Hid (Blk (wq.alloc (.cells z14 69)) g8 69 z14):=Lh (by rw[←hg8];exact Blk.new _ _ _)
      have Gfirst:Hid (wr.heap.size≤g8):=Lh (by rw[←hg8];exact bq.out.size)
      replace HBm:=Lh (HBm.out.alloc (.cells z14 69))
      replace bq:=Lh (bl_alloc bq.out (.cells z14 69))
      rw[hg8]
      generalize (wq.alloc (.cells z14 69))=wq at *
      refine hK.out _ _ ((HSB.out _).2 HBm.out) (fun hH0=>?_)
      clear hK KK0
      try go_simp
      refine wpAnyH_ready (rs:= [8,14]) (by kernel_rfl) (by simp) ?_
      refine AllReadyH.cons rfl (fun KK0 hK=>?_) ?_
      ·rw [if_pos (by kernel_rfl)]
       refine Step2.calls_wp _ _ _ (step_v ⟨t1,p1,v1,e1⟩ ⟨h1,r1,k1⟩ y z1 wq vy vz HVY.out HVZ.out (HM.out.lists wq (Only.of_below bq.out)).1 HSY.out (HM.out.lists wq (Only.of_below bq.out)).2 HFY.out HFL.out _ HR9.out) (Step2.run_call _ _ _ rfl rfl Tryz.func34 (by kernel_rfl) (by kernel_rfl) _ (by kernel_rfl)) ?_
       obtain ⟨nc,hnc⟩:∃n,wq.heap.size=n:=⟨_,rfl⟩
       have HNC:Hid (W1.heap.size≤nc):=Lh (by rw[←hnc];exact Nat.le_trans HWS.out bq.out.size)
       have l_g8:g8<nc:=by rw[←hnc];exact K8.out.lt
       rintro e wq ⟨y2,z2,ry,rz,rfl,hry,hrz,hf2,hl2,b_⟩
       refine ⟨_,rfl,?_⟩
       rw[hnc]at hl2
       have HRY:Hid (ry=.agg (aC t2 y2 p2 v2 e2)):=Lh hry
       have HRZ:Hid (rz=.agg (aW z2 h2 r2 k2)):=Lh hrz
       have HF2:=Lh hf2
       have LST:Hid (∀w'',Only (fun k=>k<nc) wq w'' →TRd w'' t2 y2∧WRd w'' ⟨h2,r2,k2⟩ z2):=Lh hl2
       have OC:Hid (Only (fun k=>k<nc) wq wq):=Lh (Only.refl _ _)
       obtain ⟨ns,hns⟩:∃n,wq.heap.size=n:=⟨_,rfl⟩
       have HNS:Hid (wq.heap.size=ns):=Lh hns
       have H8:Hid (g8<nc∨ns≤g8):=Lh (.inl l_g8)
       replace K8:=Lh (K8.out.below b_)
       clear l_g8
       replace bq:=Lh (bl_trans bq.out b_)
       replace HBm:=Lh (HBm.out.below b_)
       clear hry hrz hf2 hl2 b_ hnc hns
       refine hK.out _ _ ((HSB.out _).2 HBm.out) (fun hH0=>?_)
       clear hK KK0
       try go_simp
       refine tk 9 (.tuple #[ry,rz,.int .i64 er9]) rfl hH0 ?_
       try go_simp
       refine tk 10 ry rfl hH0 ?_
       try go_simp
       refine tk 11 rz rfl hH0 ?_
       try go_simp
       refine tk 12 (.int .i64 er9) rfl hH0 ?_
       try go_simp
       refine rdy 14 rfl (fun KK0 hK=>?_)
       go_simp
       obtain ⟨g9,hg9⟩:∃gq,wq.heap.size=gq:=⟨_,rfl⟩
       have K9:Hid (Blk (wq.alloc (.cells z3 63)) g9 63 z3):=Lh (by rw[←hg9];exact Blk.new _ _ _)
       have HGG:Hid (wr.heap.size≤g8∧wr.heap.size≤g9∧g8≠g9):=Lh (by have h1:=K8.out.lt;have h2:=bq.out.size;have h3:=Gfirst.out;omega)
       replace K8:=Lh (K8.out.alloc (.cells z3 63))
       have H9:Hid (g9<nc∨ns≤g9):=Lh (.inr (by have h1:=OC.out.size;have h2:=HNS.out;omega))
       replace OC:=Lh (OC.out.alloc (.cells z3 63))
       replace HBm:=Lh (HBm.out.alloc (.cells z3 63))
       replace bq:=Lh (bl_alloc bq.out (.cells z3 63))
       rw[hg9]
       generalize (wq.alloc (.cells z3 63))=wq at *
       refine hK.out _ _ ((HSB.out _).2 HBm.out) (fun hH0=>?_)
       clear hK KK0
       try go_simp
       have HG2:Hid (g≠g8∧g≠g9):=Lh (by have:=HM.out.blk.lt;have:=HGG.out;omega)
       refine take_store 15 rfl (by kernel_rfl) (by kernel_rfl) 69 (.tmp 8) (.tmp 39) rfl g8 (aC t2 y2 p2 v2 e2) rfl HRY.out _ _ K8.out (by kernel_rfl) rfl (by simp[Value.oneCell']) (fun wn kb ON=>?_)
       replace K8:=Lh kb
       replace K9:=Lh (ON.blk K9.out (by have:=HGG.out;omega))
       replace HBm:=Lh (ON.blk HBm.out (by have:=HG2.out;omega))
       replace OC:=Lh (OC.out.trans ON (fun k hk e=>by have h8:=H8.out;have h9:=H9.out;have hns:=HNS.out;omega))
       replace bq:=Lh (bq.out.trans (ON.below bq.out.size (fun k hk e=>by have:=HGG.out;omega)))
       clear ON kb
       refine ⟨(HSB.out _).2 HBm.out,?_⟩
       try go_simp
       refine take_store 16 rfl (by kernel_rfl) (by kernel_rfl) 63 (.tmp 9) (.tmp 40) rfl g9 (aW z2 h2 r2 k2) rfl HRZ.out _ _ K9.out (by kernel_rfl) rfl (by simp[Value.oneCell']) (fun wm kb ON=>?_)
       replace K9:=Lh kb
       replace K8:=Lh (ON.blk K8.out (by have:=HGG.out;omega))
       replace HBm:=Lh (ON.blk HBm.out (by have:=HG2.out;omega))
       replace OC:=Lh (OC.out.trans ON (fun k hk e=>by have h8:=H8.out;have h9:=H9.out;have hns:=HNS.out;omega))
       replace bq:=Lh (bq.out.trans (ON.below bq.out.size (fun k hk e=>by have:=HGG.out;omega)))
       clear ON kb
       refine ⟨(HSB.out _).2 HBm.out,?_⟩
       try go_simp
       refine rdy 17 rfl (fun KK0 hK=>?_)
       go_simp
       refine hK.out _ _ ((HSB.out _).2 HBm.out) (fun _=>?_)
       clear hK KK0
       refine wpAnyH_done (by kernel_rfl) ?_ _
       try go_simp
       go_wp2_with fail
       go_meet
       case rel=>exact ⟨g8,g9,y2,z2,rfl,rfl,rfl,K8,K9,HF2,Lh (fun w'' ho=>LST.out w'' (OC.out.trans ho (fun k hk e=>by have h8:=H8.out;have h9:=H9.out;have hn:=HNC.out;have hns:=HNS.out;omega))),bq,HGG⟩
      refine AllReadyH.cons rfl (fun KK0 hK=>?_) AllReadyH.nil
      go_simp
      obtain ⟨g9,hg9⟩:∃gq,wq.heap.size=gq:=⟨_,rfl⟩
      have K9:Hid (Blk (wq.alloc (.cells z3 63)) g9 63 z3):=Lh (by rw[←hg9];exact Blk.new _ _ _)
      have HGG:Hid (wr.heap.size≤g8∧wr.heap.size≤g9∧g8≠g9):=Lh (by have h1:=K8.out.lt;have h2:=bq.out.size;have h3:=Gfirst.out;omega)
      replace K8:=Lh (K8.out.alloc (.cells z3 63))
      replace HBm:=Lh (HBm.out.alloc (.cells z3 63))
      replace bq:=Lh (bl_alloc bq.out (.cells z3 63))
      rw[hg9]
      generalize (wq.alloc (.cells z3 63))=wq at *
      refine hK.out _ _ ((HSB.out _).2 HBm.out) (fun hH0=>?_)
      clear hK KK0
      try go_simp
      refine rdy 8 rfl (fun KK0 hK=>?_)
      rw[if_pos (by kernel_rfl)]
      refine Step2.calls_wp _ _ _ (step_v ⟨t1,p1,v1,e1⟩ ⟨h1,r1,k1⟩ y z1 wq vy vz HVY.out HVZ.out (HM.out.lists wq (Only.of_below bq.out)).1 HSY.out (HM.out.lists wq (Only.of_below bq.out)).2 HFY.out HFL.out _ HR9.out) (Step2.run_call _ _ _ rfl rfl Tryz.func34 (by kernel_rfl) (by kernel_rfl) _ (by kernel_rfl)) ?_
      obtain ⟨nc,hnc⟩:∃n,wq.heap.size=n:=⟨_,rfl⟩
      have HNC:Hid (W1.heap.size≤nc):=Lh (by rw[←hnc];exact Nat.le_trans HWS.out bq.out.size)
      have l_g8:g8<nc:=by rw[←hnc];exact K8.out.lt
      have l_g9:g9<nc:=by rw[←hnc];exact K9.out.lt
      rintro e wq ⟨y2,z2,ry,rz,rfl,hry,hrz,hf2,hl2,b_⟩
      refine ⟨_,rfl,?_⟩
      rw[hnc]at hl2
      have HRY:Hid (ry=.agg (aC t2 y2 p2 v2 e2)):=Lh hry
      have HRZ:Hid (rz=.agg (aW z2 h2 r2 k2)):=Lh hrz
      have HF2:=Lh hf2
      have LST:Hid (∀w'',Only (fun k=>k<nc) wq w'' →TRd w'' t2 y2∧WRd w'' ⟨h2,r2,k2⟩ z2):=Lh hl2
      have OC:Hid (Only (fun k=>k<nc) wq wq):=Lh (Only.refl _ _)
      obtain ⟨ns,hns⟩:∃n,wq.heap.size=n:=⟨_,rfl⟩
      have HNS:Hid (wq.heap.size=ns):=Lh hns
      have H8:Hid (g8<nc∨ns≤g8):=Lh (.inl l_g8)
      replace K8:=Lh (K8.out.below b_)
      clear l_g8
      have H9:Hid (g9<nc∨ns≤g9):=Lh (.inl l_g9)
      replace K9:=Lh (K9.out.below b_)
      clear l_g9
      replace bq:=Lh (bl_trans bq.out b_)
      replace HBm:=Lh (HBm.out.below b_)
      clear hry hrz hf2 hl2 b_ hnc hns
      refine hK.out _ _ ((HSB.out _).2 HBm.out) (fun hH0=>?_)
      clear hK KK0
      try go_simp
      refine tk 9 (.tuple #[ry,rz,.int .i64 er9]) rfl hH0 ?_
      try go_simp
      refine tk 10 ry rfl hH0 ?_
      try go_simp
      refine tk 11 rz rfl hH0 ?_
      try go_simp
      refine tk 12 (.int .i64 er9) rfl hH0 ?_
      try go_simp
      have HG2:Hid (g≠g8∧g≠g9):=Lh (by have:=HM.out.blk.lt;have:=HGG.out;omega)
      refine take_store 15 rfl (by kernel_rfl) (by kernel_rfl) 69 (.tmp 8) (.tmp 39) rfl g8 (aC t2 y2 p2 v2 e2) rfl HRY.out _ _ K8.out (by kernel_rfl) rfl (by simp[Value.oneCell']) (fun wn kb ON=>?_)
      replace K8:=Lh kb
      replace K9:=Lh (ON.blk K9.out (by have:=HGG.out;omega))
      replace HBm:=Lh (ON.blk HBm.out (by have:=HG2.out;omega))
      replace OC:=Lh (OC.out.trans ON (fun k hk e=>by have h8:=H8.out;have h9:=H9.out;have hns:=HNS.out;omega))
      replace bq:=Lh (bq.out.trans (ON.below bq.out.size (fun k hk e=>by have:=HGG.out;omega)))
      clear ON kb
      refine ⟨(HSB.out _).2 HBm.out,?_⟩
      try go_simp
      refine take_store 16 rfl (by kernel_rfl) (by kernel_rfl) 63 (.tmp 9) (.tmp 40) rfl g9 (aW z2 h2 r2 k2) rfl HRZ.out _ _ K9.out (by kernel_rfl) rfl (by simp[Value.oneCell']) (fun wm kb ON=>?_)
      replace K9:=Lh kb
      replace K8:=Lh (ON.blk K8.out (by have:=HGG.out;omega))
      replace HBm:=Lh (ON.blk HBm.out (by have:=HG2.out;omega))
      replace OC:=Lh (OC.out.trans ON (fun k hk e=>by have h8:=H8.out;have h9:=H9.out;have hns:=HNS.out;omega))
      replace bq:=Lh (bq.out.trans (ON.below bq.out.size (fun k hk e=>by have:=HGG.out;omega)))
      clear ON kb
      refine ⟨(HSB.out _).2 HBm.out,?_⟩
      try go_simp
      refine rdy 17 rfl (fun KK0 hK=>?_)
      go_simp
      refine hK.out _ _ ((HSB.out _).2 HBm.out) (fun _=>?_)
      clear hK KK0
      refine wpAnyH_done (by kernel_rfl) ?_ _
      try go_simp
      go_wp2_with fail
      go_meet
      case rel=>exact ⟨g8,g9,y2,z2,rfl,rfl,rfl,K8,K9,HF2,Lh (fun w'' ho=>LST.out w'' (OC.out.trans ho (fun k hk e=>by have h8:=H8.out;have h9:=H9.out;have hn:=HNC.out;have hns:=HNS.out;omega))),bq,HGG⟩
     refine AllReadyH.cons rfl (fun KK0 hK=>?_) AllReadyH.nil
     go_simp
     obtain ⟨g9,hg9⟩:∃gq,wq.heap.size=gq:=⟨_,rfl⟩
     have K9:Hid (Blk (wq.alloc (.cells z3 63)) g9 63 z3):=Lh (by rw[←hg9];exact Blk.new _ _ _)
     have Gfirst:Hid (wr.heap.size≤g9):=Lh (by rw[←hg9];exact bq.out.size)
     replace HBm:=Lh (HBm.out.alloc (.cells z3 63))
     replace bq:=Lh (bl_alloc bq.out (.cells z3 63))
     rw[hg9]
     generalize (wq.alloc (.cells z3 63))=wq at *
     refine hK.out _ _ ((HSB.out _).2 HBm.out) (fun hH0=>?_)
     clear hK KK0
     try go_simp
     refine wpAnyH_ready (rs:= [8,13]) (by kernel_rfl) (by simp) ?_
     refine AllReadyH.cons rfl (fun KK0 hK=>?_) ?_
     ·rw [if_pos (by kernel_rfl)]
      refine Step2.calls_wp _ _ _ (step_v ⟨t1,p1,v1,e1⟩ ⟨h1,r1,k1⟩ y z1 wq vy vz HVY.out HVZ.out (HM.out.lists wq (Only.of_below bq.out)).1 HSY.out (HM.out.lists wq (Only.of_below bq.out)).2 HFY.out HFL.out _ HR9.out) (Step2.run_call _ _ _ rfl rfl Tryz.func34 (by kernel_rfl) (by kernel_rfl) _ (by kernel_rfl)) ?_
      obtain ⟨nc,hnc⟩:∃n,wq.heap.size=n:=⟨_,rfl⟩
      have HNC:Hid (W1.heap.size≤nc):=Lh (by rw[←hnc];exact Nat.le_trans HWS.out bq.out.size)
      have l_g9:g9<nc:=by rw[←hnc];exact K9.out.lt
      rintro e wq ⟨y2,z2,ry,rz,rfl,hry,hrz,hf2,hl2,b_⟩
      refine ⟨_,rfl,?_⟩
      rw[hnc]at hl2
      have HRY:Hid (ry=.agg (aC t2 y2 p2 v2 e2)):=Lh hry
      have HRZ:Hid (rz=.agg (aW z2 h2 r2 k2)):=Lh hrz
      have HF2:=Lh hf2
      have LST:Hid (∀w'',Only (fun k=>k<nc) wq w'' →TRd w'' t2 y2∧WRd w'' ⟨h2,r2,k2⟩ z2):=Lh hl2
      have OC:Hid (Only (fun k=>k<nc) wq wq):=Lh (Only.refl _ _)
      obtain ⟨ns,hns⟩:∃n,wq.heap.size=n:=⟨_,rfl⟩
      have HNS:Hid (wq.heap.size=ns):=Lh hns
      have H9:Hid (g9<nc∨ns≤g9):=Lh (.inl l_g9)
      replace K9:=Lh (K9.out.below b_)
      clear l_g9
      replace bq:=Lh (bl_trans bq.out b_)
      replace HBm:=Lh (HBm.out.below b_)
      clear hry hrz hf2 hl2 b_ hnc hns
      refine hK.out _ _ ((HSB.out _).2 HBm.out) (fun hH0=>?_)
      clear hK KK0
      try go_simp
      refine tk 9 (.tuple #[ry,rz,.int .i64 er9]) rfl hH0 ?_
      try go_simp
      refine tk 10 ry rfl hH0 ?_
      try go_simp
      refine tk 11 rz rfl hH0 ?_
      try go_simp
      refine tk 12 (.int .i64 er9) rfl hH0 ?_
      try go_simp
      refine rdy 13 rfl (fun KK0 hK=>?_)
      go_simp
      obtain ⟨g8,hg8⟩:∃gq,wq.heap.size=gq:=⟨_,rfl⟩
      have K8:Hid (Blk (wq.alloc (.cells z14 69)) g8 69 z14):=Lh (by rw[←hg8];exact Blk.new _ _ _)
      have HGG:Hid (wr.heap.size≤g8∧wr.heap.size≤g9∧g8≠g9):=Lh (by have h1:=K9.out.lt;have h2:=bq.out.size;have h3:=Gfirst.out;omega)
      replace K9:=Lh (K9.out.alloc (.cells z14 69))
      have H8:Hid (g8<nc∨ns≤g8):=Lh (.inr (by have h1:=OC.out.size;have h2:=HNS.out;omega))
      replace OC:=Lh (OC.out.alloc (.cells z14 69))
      replace HBm:=Lh (HBm.out.alloc (.cells z14 69))
      replace bq:=Lh (bl_alloc bq.out (.cells z14 69))
      rw[hg8]
      generalize (wq.alloc (.cells z14 69))=wq at *
      refine hK.out _ _ ((HSB.out _).2 HBm.out) (fun hH0=>?_)
      clear hK KK0
      try go_simp
      have HG2:Hid (g≠g8∧g≠g9):=Lh (by have:=HM.out.blk.lt;have:=HGG.out;omega)
      refine take_store 15 rfl (by kernel_rfl) (by kernel_rfl) 69 (.tmp 8) (.tmp 39) rfl g8 (aC t2 y2 p2 v2 e2) rfl HRY.out _ _ K8.out (by kernel_rfl) rfl (by simp[Value.oneCell']) (fun wn kb ON=>?_)
      replace K8:=Lh kb
      replace K9:=Lh (ON.blk K9.out (by have:=HGG.out;omega))
      replace HBm:=Lh (ON.blk HBm.out (by have:=HG2.out;omega))
      replace OC:=Lh (OC.out.trans ON (fun k hk e=>by have h8:=H8.out;have h9:=H9.out;have hns:=HNS.out;omega))
      replace bq:=Lh (bq.out.trans (ON.below bq.out.size (fun k hk e=>by have:=HGG.out;omega)))
      clear ON kb
      refine ⟨(HSB.out _).2 HBm.out,?_⟩
      try go_simp
      refine take_store 16 rfl (by kernel_rfl) (by kernel_rfl) 63 (.tmp 9) (.tmp 40) rfl g9 (aW z2 h2 r2 k2) rfl HRZ.out _ _ K9.out (by kernel_rfl) rfl (by simp[Value.oneCell']) (fun wm kb ON=>?_)
      replace K9:=Lh kb
      replace K8:=Lh (ON.blk K8.out (by have:=HGG.out;omega))
      replace HBm:=Lh (ON.blk HBm.out (by have:=HG2.out;omega))
      replace OC:=Lh (OC.out.trans ON (fun k hk e=>by have h8:=H8.out;have h9:=H9.out;have hns:=HNS.out;omega))
      replace bq:=Lh (bq.out.trans (ON.below bq.out.size (fun k hk e=>by have:=HGG.out;omega)))
      clear ON kb
      refine ⟨(HSB.out _).2 HBm.out,?_⟩
      try go_simp
      refine rdy 17 rfl (fun KK0 hK=>?_)
      go_simp
      refine hK.out _ _ ((HSB.out _).2 HBm.out) (fun _=>?_)
      clear hK KK0
      refine wpAnyH_done (by kernel_rfl) ?_ _
      try go_simp
      go_wp2_with fail
      go_meet
      case rel=>exact ⟨g8,g9,y2,z2,rfl,rfl,rfl,K8,K9,HF2,Lh (fun w'' ho=>LST.out w'' (OC.out.trans ho (fun k hk e=>by have h8:=H8.out;have h9:=H9.out;have hn:=HNC.out;have hns:=HNS.out;omega))),bq,HGG⟩
     refine AllReadyH.cons rfl (fun KK0 hK=>?_) AllReadyH.nil
     go_simp
     obtain ⟨g8,hg8⟩:∃gq,wq.heap.size=gq:=⟨_,rfl⟩
     have K8:Hid (Blk (wq.alloc (.cells z14 69)) g8 69 z14):=Lh (by rw[←hg8];exact Blk.new _ _ _)
     have HGG:Hid (wr.heap.size≤g8∧wr.heap.size≤g9∧g8≠g9):=Lh (by have h1:=K9.out.lt;have h2:=bq.out.size;have h3:=Gfirst.out;omega)
     replace K9:=Lh (K9.out.alloc (.cells z14 69))
     replace HBm:=Lh (HBm.out.alloc (.cells z14 69))
     replace bq:=Lh (bl_alloc bq.out (.cells z14 69))
     rw[hg8]
     generalize (wq.alloc (.cells z14 69))=wq at *
     refine hK.out _ _ ((HSB.out _).2 HBm.out) (fun hH0=>?_)
     clear hK KK0
     try go_simp
     refine rdy 8 rfl (fun KK0 hK=>?_)
     rw[if_pos (by kernel_rfl)]
     refine Step2.calls_wp _ _ _ (step_v ⟨t1,p1,v1,e1⟩ ⟨h1,r1,k1⟩ y z1 wq vy vz HVY.out HVZ.out (HM.out.lists wq (Only.of_below bq.out)).1 HSY.out (HM.out.lists wq (Only.of_below bq.out)).2 HFY.out HFL.out _ HR9.out) (Step2.run_call _ _ _ rfl rfl Tryz.func34 (by kernel_rfl) (by kernel_rfl) _ (by kernel_rfl)) ?_
     obtain ⟨nc,hnc⟩:∃n,wq.heap.size=n:=⟨_,rfl⟩
     have HNC:Hid (W1.heap.size≤nc):=Lh (by rw[←hnc];exact Nat.le_trans HWS.out bq.out.size)
     have l_g8:g8<nc:=by rw[←hnc];exact K8.out.lt
     have l_g9:g9<nc:=by rw[←hnc];exact K9.out.lt
     rintro e wq ⟨y2,z2,ry,rz,rfl,hry,hrz,hf2,hl2,b_⟩
     refine ⟨_,rfl,?_⟩
     rw[hnc]at hl2
     have HRY:Hid (ry=.agg (aC t2 y2 p2 v2 e2)):=Lh hry
     have HRZ:Hid (rz=.agg (aW z2 h2 r2 k2)):=Lh hrz
     have HF2:=Lh hf2
     have LST:Hid (∀w'',Only (fun k=>k<nc) wq w'' →TRd w'' t2 y2∧WRd w'' ⟨h2,r2,k2⟩ z2):=Lh hl2
     have OC:Hid (Only (fun k=>k<nc) wq wq):=Lh (Only.refl _ _)
     obtain ⟨ns,hns⟩:∃n,wq.heap.size=n:=⟨_,rfl⟩
     have HNS:Hid (wq.heap.size=ns):=Lh hns
     have H8:Hid (g8<nc∨ns≤g8):=Lh (.inl l_g8)
     replace K8:=Lh (K8.out.below b_)
     clear l_g8
     have H9:Hid (g9<nc∨ns≤g9):=Lh (.inl l_g9)
     replace K9:=Lh (K9.out.below b_)
     clear l_g9
     replace bq:=Lh (bl_trans bq.out b_)
     replace HBm:=Lh (HBm.out.below b_)
     clear hry hrz hf2 hl2 b_ hnc hns
     refine hK.out _ _ ((HSB.out _).2 HBm.out) (fun hH0=>?_)
     clear hK KK0
     try go_simp
     refine tk 9 (.tuple #[ry,rz,.int .i64 er9]) rfl hH0 ?_
     try go_simp
     refine tk 10 ry rfl hH0 ?_
     try go_simp
     refine tk 11 rz rfl hH0 ?_
     try go_simp
     refine tk 12 (.int .i64 er9) rfl hH0 ?_
     try go_simp
     have HG2:Hid (g≠g8∧g≠g9):=Lh (by have:=HM.out.blk.lt;have:=HGG.out;omega)
     refine take_store 15 rfl (by kernel_rfl) (by kernel_rfl) 69 (.tmp 8) (.tmp 39) rfl g8 (aC t2 y2 p2 v2 e2) rfl HRY.out _ _ K8.out (by kernel_rfl) rfl (by simp[Value.oneCell']) (fun wn kb ON=>?_)
     replace K8:=Lh kb
     replace K9:=Lh (ON.blk K9.out (by have:=HGG.out;omega))
     replace HBm:=Lh (ON.blk HBm.out (by have:=HG2.out;omega))
     replace OC:=Lh (OC.out.trans ON (fun k hk e=>by have h8:=H8.out;have h9:=H9.out;have hns:=HNS.out;omega))
     replace bq:=Lh (bq.out.trans (ON.below bq.out.size (fun k hk e=>by have:=HGG.out;omega)))
     clear ON kb
     refine ⟨(HSB.out _).2 HBm.out,?_⟩
     try go_simp
     refine take_store 16 rfl (by kernel_rfl) (by kernel_rfl) 63 (.tmp 9) (.tmp 40) rfl g9 (aW z2 h2 r2 k2) rfl HRZ.out _ _ K9.out (by kernel_rfl) rfl (by simp[Value.oneCell']) (fun wm kb ON=>?_)
     replace K9:=Lh kb
     replace K8:=Lh (ON.blk K8.out (by have:=HGG.out;omega))
     replace HBm:=Lh (ON.blk HBm.out (by have:=HG2.out;omega))
     replace OC:=Lh (OC.out.trans ON (fun k hk e=>by have h8:=H8.out;have h9:=H9.out;have hns:=HNS.out;omega))
     replace bq:=Lh (bq.out.trans (ON.below bq.out.size (fun k hk e=>by have:=HGG.out;omega)))
     clear ON kb
     refine ⟨(HSB.out _).2 HBm.out,?_⟩
     try go_simp
     refine rdy 17 rfl (fun KK0 hK=>?_)
     go_simp
     refine hK.out _ _ ((HSB.out _).2 HBm.out) (fun _=>?_)
     clear hK KK0
     refine wpAnyH_done (by kernel_rfl) ?_ _
     try go_simp
     go_wp2_with fail
     go_meet
     case rel=>exact ⟨g8,g9,y2,z2,rfl,rfl,rfl,K8,K9,HF2,Lh (fun w'' ho=>LST.out w'' (OC.out.trans ho (fun k hk e=>by have h8:=H8.out;have h9:=H9.out;have hn:=HNC.out;have hns:=HNS.out;omega))),bq,HGG⟩
    case rest=>
     obtain ⟨g8,g9,y2,z2,rfl,rfl,rfl,K8,K9,HF2,LST,bq,HGG⟩:=hcut
     have HWS:Hid (W1.heap.size≤wr.heap.size):=Lh (by have:=HNE.out;have:=HM.out.blk.lt;omega)
     replace HBB:=Lh (bl_trans HBB.out bq.out)
     replace KC:=Lh (KC.out.below bq.out)
     replace KW:=Lh (KW.out.below bq.out)
     replace K4:=Lh (K4.out.below bq.out)
     replace K5:=Lh (K5.out.below bq.out)
     by_cases h0:er9=0
     ·subst h0
      have HGo:=Lh (allF_go _ _ _ _ _ _ HI.out.2.2.2.2.1 HEN.out HI.out.2.2.2.2.2 HR9.out rfl)
      have a0:=K8.out.cell 0 _ rfl
      have a1:=K8.out.cell 1 _ rfl
      have a2:=K8.out.cell 2 _ rfl
      have a3:=K8.out.cell 3 _ rfl
      have a4:=K8.out.cell 4 _ rfl
      have a5:=K8.out.cell 5 _ rfl
      have a6:=K8.out.cell 6 _ rfl
      have a7:=K8.out.cell 7 _ rfl
      have a8:=K8.out.cell 8 _ rfl
      have a9:=K8.out.cell 9 _ rfl
      have a10:=K8.out.cell 10 _ rfl
      have a11:=K8.out.cell 11 _ rfl
      have a12:=K8.out.cell 12 _ rfl
      have a13:=K8.out.cell 13 _ rfl
      have b0:=K9.out.cell 0 _ rfl
      have b1:=K9.out.cell 1 _ rfl
      have b2:=K9.out.cell 2 _ rfl
      go_wp2_with fail
      go_roundg m
      case measure=>omega
      case rel=>exact ⟨wc.heap.size,⟨t2,p2,v2,e2⟩,⟨h2,r2,k2⟩,y2,z2,rfl,Lh ⟨Blk.new wc _ _,by have:=HWS.out;have:=bq.out.size;omega,fun w'' ho=>LST.out w'' (((Only.refl (fun k=>k<W1.heap.size∨k=g8∨k=g9) wc).alloc _).trans ho (fun k hk e=>by have:=HWS.out;omega))⟩,Lh ⟨HF2.out,HGo.out.2.2.1.trans HI.out.2.1,HGo.out.2.2.2.2.trans HI.out.2.2.1,HGo.out.2.2.2.1.trans HI.out.2.2.2.1,HGo.out.1,HGo.out.2.1⟩,Lh (bl_alloc HBB.out _),Lh (KC.out.alloc _),Lh (KW.out.alloc _),Lh (K4.out.alloc _),Lh (K5.out.alloc _)⟩
     ·have HNo:=Lh (allC_no _ _ _ _ _ _ HI.out.2.2.2.2.1 HEN.out HR9.out h0)
      have a0:=KC.out.cell 0 _ rfl
      have a1:=KC.out.cell 1 _ rfl
      have a2:=KC.out.cell 2 _ rfl
      have a3:=KC.out.cell 3 _ rfl
      have a4:=KC.out.cell 4 _ rfl
      have a5:=KC.out.cell 5 _ rfl
      have a6:=KC.out.cell 6 _ rfl
      have a7:=KC.out.cell 7 _ rfl
      have a8:=KC.out.cell 8 _ rfl
      have a9:=KC.out.cell 9 _ rfl
      have a10:=KC.out.cell 10 _ rfl
      have a11:=KC.out.cell 11 _ rfl
      have a12:=KC.out.cell 12 _ rfl
      have a13:=KC.out.cell 13 _ rfl
      have b0:=KW.out.cell 0 _ rfl
      have b1:=KW.out.cell 1 _ rfl
      have b2:=KW.out.cell 2 _ rfl
      go_wp2_with fail
      refine (HC.out _ HBB.out).mono ?_
      rintro e_ w8 ⟨g,y,z1,rfl,hm,hfl,hb⟩
      clear a0 a1 a2 a3 a4 a5 a6 a7 a8 a9 a10 a11 a12 a13 b0 b1 b2
      replace HM:=Lh hm
      replace HFL:Hid (y.fl= []):=Lh (hfl.trans HX.out)
      replace HNE:Hid (w.heap.size+4≤g∧w.heap.size+4≤wc.heap.size):=Lh (by have h1:=hm.old;have h2:=HSZ.out;have h3:=HWS.out;have h4:=bq.out.size;have h5:=HNE.out;omega)
      replace HBB:=Lh (bl_trans HBB.out hb)
      replace K4:=Lh (K4.out.below hb)
      replace K5:=Lh (K5.out.below hb)
      clear hm hfl hb
      go_wp2_with fail
      have HM:=Lh (mv_bl HM.out (Below.refl _ w8).drew)
      have HBB:=Lh (HBB.out.drew)
      have K4:=Lh (K4.out.below (Below.refl _ w8).drew)
      have K5:=Lh (K5.out.below (Below.refl _ w8).drew)
      have HBm:Hid (Blk w8.drew g 167 #[.int .i64 t.who,.int .i64 t.snap,.int .i64 t.pc,.slice y.R t.regs.length y.rc,.slice y.P t.path.length y.pc,.slice y.D t.reads.length y.dc,.slice y.L t.log.list.length y.lc,.slice y.M t.log.marks.length y.mc,.slice y.F y.fl.length y.fc,.int .i64 t.kind,.int .i64 t.why,.int .i64 p,.int .i64 v,.int .i64 er,.slice z1.H h_.length z1.hc,.slice z1.R r_.length z1.rc,.int .i64 k]):=Lh HM.out.blk
      obtain ⟨SB,hSB⟩:∃SB:World→Prop,∀W,SB W↔Blk W g 167 #[.int .i64 t.who,.int .i64 t.snap,.int .i64 t.pc,.slice y.R t.regs.length y.rc,.slice y.P t.path.length y.pc,.slice y.D t.reads.length y.dc,.slice y.L t.log.list.length y.lc,.slice y.M t.log.marks.length y.mc,.slice y.F y.fl.length y.fc,.int .i64 t.kind,.int .i64 t.why,.int .i64 p,.int .i64 v,.int .i64 er,.slice z1.H h_.length z1.hc,.slice z1.R r_.length z1.rc,.int .i64 k]:=⟨_,fun _=>Iff.rfl⟩
      have HSB:=Lh hSB
      clear hSB
      obtain ⟨vy,hvy⟩:∃vq_:Value,vq_=.agg (aC t y p v er):=⟨_,rfl⟩
      have HVY:=Lh hvy
      clear hvy
      obtain ⟨vz,hvz⟩:∃vq_:Value,vq_=.agg (aW z1 h_ r_ k):=⟨_,rfl⟩
      have HVZ:=Lh hvz
      clear hvz
      have f0:SB w8.drew:=(HSB.out _).2 HBm.out
      refine wp_region_held_drew (S:=SB) (by kernel_rfl) f0 (fun hH0=>?_)
      clear f0
      generalize w8.drew=wd at *
      have HON0:Hid (Only (fun k=>k=w.heap.size+1+1∨k=w.heap.size+1+1+1) wd wd):=Lh (Only.refl _ _)
      refine tk 0 (.pointer (some ⟨g,0,none⟩)) rfl hH0 ?_
      try go_simp
      refine tk 1 (.pointer (some ⟨g,0,none⟩)) rfl hH0 ?_
      try go_simp
      refine tk 2 (.pointer (some ⟨g,0,none⟩)) rfl hH0 ?_
      try go_simp
      refine tk 3 vy rfl hH0 ?_ (hy:=Or.inl ⟨by kernel_rfl,fun W hS=>by rw[HVY.out];have hSS:=(HSB.out W).1 hS;have q0:=hSS.cell 0 _ rfl;have q1:=hSS.cell 1 _ rfl;have q2:=hSS.cell 2 _ rfl;have q3:=hSS.cell 3 _ rfl;have q4:=hSS.cell 4 _ rfl;have q5:=hSS.cell 5 _ rfl;have q6:=hSS.cell 6 _ rfl;have q7:=hSS.cell 7 _ rfl;have q8:=hSS.cell 8 _ rfl;have q9:=hSS.cell 9 _ rfl;have q10:=hSS.cell 10 _ rfl;have q11:=hSS.cell 11 _ rfl;have q12:=hSS.cell 12 _ rfl;have q13:=hSS.cell 13 _ rfl;go_simp⟩)
      try go_simp
      refine tk 4 (.pointer (some ⟨g,0,none⟩)) rfl hH0 ?_
      try go_simp
      refine tk 5 (.pointer (some ⟨g,0,none⟩)) rfl hH0 ?_
      try go_simp
      refine tk 6 (.pointer (some ⟨g,14,none⟩)) rfl hH0 ?_
      try go_simp
      refine tk 7 vz rfl hH0 ?_ (hy:=Or.inl ⟨by kernel_rfl,fun W hS=>by rw[HVZ.out];have hSS:=(HSB.out W).1 hS;have q14:=hSS.cell 14 _ rfl;have q15:=hSS.cell 15 _ rfl;have q16:=hSS.cell 16 _ rfl;go_simp⟩)
      try go_simp
      refine tk 8 (.int .i64 er9) rfl hH0 ?_
      try go_simp
      refine take_store 9 rfl (by kernel_rfl) (by kernel_rfl) 69 (.tmp 4) (.tmp 50) rfl (w.heap.size+1+1) _ rfl HVY.out _ _ K4.out (by kernel_rfl) rfl (by simp[Value.oneCell']) (fun wn kb ON=>?_)
      replace K4:=Lh kb
      replace K5:=Lh (ON.blk K5.out (by have:=HNE.out;omega))
      replace HBm:=Lh (ON.blk HBm.out (by have:=HNE.out;omega))
      replace HON0:=Lh (HON0.out.trans ON (fun k _ e=>.inl e))
      clear ON kb
      refine ⟨(HSB.out _).2 HBm.out,?_⟩
      try go_simp
      refine take_store 10 rfl (by kernel_rfl) (by kernel_rfl) 63 (.tmp 5) (.tmp 54) rfl (w.heap.size+1+1+1) _ rfl HVZ.out _ _ K5.out (by kernel_rfl) rfl (by simp[Value.oneCell']) (fun wm kb ON=>?_)
      replace K5:=Lh kb
      replace K4:=Lh (ON.blk K4.out (by have:=HNE.out;omega))
      replace HBm:=Lh (ON.blk HBm.out (by have:=HNE.out;omega))
      replace HON0:=Lh (HON0.out.trans ON (fun k _ e=>.inr e))
      clear ON kb
      refine ⟨(HSB.out _).2 HBm.out,?_⟩
      try go_simp
      refine rdy 11 rfl (fun KK0 hK=>?_)
      go_simp
      refine hK.out _ _ ((HSB.out _).2 HBm.out) (fun _=>?_)
      clear hK KK0
      refine wpAnyH_done (by kernel_rfl) ?_ _
      try go_simp
      go_wp2_with fail
      have fr0:=K4.out.cell 0 _ rfl
      have fr1:=K4.out.cell 1 _ rfl
      have fr2:=K4.out.cell 2 _ rfl
      have fr3:=K4.out.cell 3 _ rfl
      have fr4:=K4.out.cell 4 _ rfl
      have fr5:=K4.out.cell 5 _ rfl
      have fr6:=K4.out.cell 6 _ rfl
      have fr7:=K4.out.cell 7 _ rfl
      have fr8:=K4.out.cell 8 _ rfl
      have fr9:=K4.out.cell 9 _ rfl
      have fr10:=K4.out.cell 10 _ rfl
      have fr11:=K4.out.cell 11 _ rfl
      have fr12:=K4.out.cell 12 _ rfl
      have fr13:=K4.out.cell 13 _ rfl
      have fu0:=K5.out.cell 0 _ rfl
      have fu1:=K5.out.cell 1 _ rfl
      have fu2:=K5.out.cell 2 _ rfl
      refine bodyPost_ret (v:=.tuple #[.agg (aC t y p v er),.agg (aW z1 h_ r_ k),.int .i64 er9]) (by simp[results,Tryz.results40,go_sem,fr0,fr1,fr2,fr3,fr4,fr5,fr6,fr7,fr8,fr9,fr10,fr11,fr12,fr13,fu0,fu1,fu2]) rfl ?_
      rw[←HPQ.out]
      rw[HNo.out]
      exact step_end HM.out HBB.out (by omega) (by omega) (by have:=HNE.out;omega) (by have:=HNE.out;omega) HFL.out HON0.out
end Go.Proofs.YtgghaodcfgbjlaaGreat.Commit
