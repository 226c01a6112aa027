/-
 A TRY THAT IS DONE HAS NO FRAMES. No conditions beyond those that each theorem states. Nothing of the program is named here.
-/
import Derived.Test.YtgghaodcfgbjlaaGreatAttE
import Derived.Test.YtgghaodcfgbjlaaGreatCmC
import Derived.Test.YtgghaodcfgbjlaaGreatCmA
import Derived.Test.YtgghaodcfgbjlaaGreatAttG
set_option maxRecDepth 100000
namespace Go.Proofs.YtgghaodcfgbjlaaGreat.Commit
open Mem Go.Proofs.YtgghaodcfgbjlaaGreat.Attempt Go.Proofs.YtgghaodcfgbjlaaGreat.Code
theorem stop_kind (n:Nat) (t:Try) (h0:t.kind=0) (h1:(stop n t).kind=1):t.pc=n:=by
 unfold stop at h1
 split at h1
 ·assumption
 ·rw[h0]at h1;cases h1
theorem stop_frames (n:Nat) (t:Try):(stop n t).frames=t.frames:=by unfold stop;split <;> rfl
theorem settle_done (c:List Step):∀(fs:List Attempt.Frame) (q:Nat) (t:Try),Stack c q fs→t.pc≤lim c.length fs→t.kind=0→(settleF c.length fs t).kind=1→(settleF c.length fs t).frames= []:=by
 intro fs
 induction fs with
 | nil=>intro q t _ _ _ _;unfold settleF;rw[stop_frames]
 | cons f fs ih=>
  intro q t hs hp h0 h1
  obtain ⟨k1,k2,_,_,_,_,_,_,k9⟩:=hs
  unfold settleF at h1 ⊢
  split
  ·rename_i e
   rw[if_pos e]at h1
   exact ih f.long _ k9 k2 h0 h1
  ·rename_i e
   rw[if_neg e]at h1
   have h2:t.pc=c.length:=stop_kind c.length { t with frames:=f::fs } h0 h1
   have h3:=k9.lim_le
   have h4:t.pc≤f.mid:=hp
   exact absurd (by omega) e
theorem do_kind (t:Try) (s:Step) (h:List Heap.Cell) (r:List Stripe.Rec) (hk:t.kind=0):(doT t s h r).kind≠1:=by
 unfold doT loadT liveT storeT skipT retryT eitherT
 repeat' split
 all_goals simp[ended,goes,regT,reads1,logT,hk]
theorem step_done {c:List Step} {h:List Heap.Cell} {r:List Stripe.Rec} (t T:Try) (hi:Inv c t) (_:t.kind=1→t.frames= []) (hS:stepS c h r t=(T,true)):T.kind=1→T.frames= []:=by
 intro h1
 unfold stepS at hS
 split at hS
 ·rename_i s hs
  split at hS
  ·rename_i hm
   have e:moveS c.length s h r t=T:=(Prod.mk.inj hS).1
   have hk:t.kind=0:=(step_pc hi (T:=T) (by unfold stepS;rw[hs];show (if mayB h r t=true then _ else _)=_;rw[if_pos hm,e])).1
   have hb:Heap.rightB h=true∧Stripe.rightB r=true:=by
    unfold mayB at hm
    simp only[Bool.and_eq_true]at hm
    exact ⟨hm.1,hm.2.1⟩
   have hp:=(do_inv hi hk hs hb.1 hb.2).1
   unfold moveS at e
   split at e
   ·rename_i h0
    have hp:=hp h0
    rw[←e]at h1 ⊢
    exact settle_done c _ _ _ hp.stack hp.le h0 h1
   ·rw [←e]at h1
    exact absurd h1 (do_kind t s h r hk)
  ·cases (Prod.mk.inj hS).2
 ·cases (Prod.mk.inj hS).2
theorem first_done (c:List Step) (who snap:Int):(first c who snap).kind=1→(first c who snap).frames= []:=by
 intro _
 unfold first Attempt.settle settleF
 rw[stop_frames]
theorem run_done {c:List Step} {h:List Heap.Cell} {r:List Stripe.Rec} {t T:Try} {k:Nat} (hi:Inv c t) (hd:t.kind=1→t.frames= []) (hR:runS c h r t=(T,k,true)):T.kind=1→T.frames= []:=by
 unfold runS at hR
 split at hR
 ·rename_i h1
  rcases run_ind (P:=fun t=>t.kind=1→t.frames= []) (fun t T hi hp hS=>step_done t T hi hp hS) (c.length+1) t 0 hi hd (.inl (Nat.le_add_right _ _)) h1 with ⟨a,_⟩ | ⟨_,b⟩
  ·rw[hR]at a;exact a
  ·rw[b]at hR;rw[←(Prod.mk.inj hR).1];exact hd
 ·cases (Prod.mk.inj (Prod.mk.inj hR).2).2
def triedS (c:List Step) (who snap:Int) (h:List Heap.Cell) (r:List Stripe.Rec):Try × Bool:=
 if (beginS c who snap).2=true then ((runS c h r (beginS c who snap).1).1,(runS c h r (beginS c who snap).1).2.2) else ((beginS c who snap).1,false)
theorem begin_first {c:List Step} {who snap:Int} (h:(beginS c who snap).2=true):(beginS c who snap).1=first c who snap:=by
 unfold beginS at h ⊢
 split
 ·rfl
 ·rename_i h1;rw[if_neg h1]at h;cases h
theorem begin_false {c:List Step} {who snap:Int} {T:Try} (h:beginS c who snap=(T,false)):T=none_∧∀(g:List Heap.Cell) (r:List Stripe.Rec),triedS c who snap g r=(none_,false):=by
 have e:T=none_:=by
  unfold beginS at h
  split at h
  ·cases (Prod.mk.inj h).2
  ·exact (Prod.mk.inj h).1.symm
 subst e
 refine ⟨rfl,fun g r=>?_⟩
 unfold triedS
 rw[h]
 rfl
theorem tried_run {c:List Step} {who snap:Int} {T U:Try} {k:Nat} {ok:Bool} {g:List Heap.Cell} {r:List Stripe.Rec} (h:beginS c who snap=(T,true)) (hr:runS c g r T=(U,k,ok)):triedS c who snap g r=(U,ok):=by
 unfold triedS
 rw[h]
 show (if true=true then ((runS c g r T).1,(runS c g r T).2.2) else _)=_
 rw[hr]
 rfl
theorem tried_done {c:List Step} {who snap:Int} {h:List Heap.Cell} {r:List Stripe.Rec} {T:Try} (hT:triedS c who snap h r=(T,true)):T.kind=1→T.frames= []:=by
 unfold triedS at hT
 split at hT
 ·rename_i h1
  have hb:beginS c who snap=((beginS c who snap).1,true):=Prod.ext rfl h1
  have hi:=begin_inv hb
  have e2:(runS c h r (beginS c who snap).1)=(T,(runS c h r (beginS c who snap).1).2.1,true):=Prod.ext (Prod.mk.inj hT).1 (Prod.ext rfl (Prod.mk.inj hT).2)
  exact run_done hi (by rw[begin_first h1];exact first_done c who snap) e2
 ·cases (Prod.mk.inj hT).2
end Go.Proofs.YtgghaodcfgbjlaaGreat.Commit
namespace Go.Proofs.YtgghaodcfgbjlaaGreat.Commit
open Go.ChangeShapes Go.WideShapes Go.ChangeAt Go.RowKit Mem Go.Proofs.YtgghaodcfgbjlaaGreat.Attempt Go.Proofs.YtgghaodcfgbjlaaGreat.Code
def RetTried (w:World) (R:Try × Bool) (e:Ending) (w' :World):Prop:=
 ∃y,e=.returned (.tuple #[.agg (tvl R.1 y).toArray,.bool R.2])∧(∀w'',Only (fun k=>k<w.heap.size) w' w'' →TRd w'' R.1 y)∧Short R.1 y∧Below w.heap.size w w'
theorem small_short {t:Try} {x:TL} (h:Small t x):Short t x:=⟨by rw[h.regs];decide,Nat.le_trans h.path (by decide),Nat.le_trans h.reads (by decide),Nat.le_trans h.list (by decide),Nat.le_trans h.marks (by decide),Nat.le_trans h.fl (by decide)⟩
theorem none_short {w:World} {x:TL} (h:TRd w none_ x):Short none_ x:=⟨by decide,by decide,by decide,by decide,by decide,by rw[fl_nil h rfl];decide⟩
set_option maxHeartbeats 4000000 in
theorem tried_c (l:List Raw) (C:Option Addr) (n c:Nat) (who snap:Int) (W:Wd) (z:WL) (w:World) (hat:At w C n l) (hnc:n≤c) (hlim:Lim l) (hn:n≤1000000) (hw:WRd w W z) (hf:Few W) (R:Try × Bool) (hR:triedS (ss l) who snap W.h W.r=R):
  Calls Tryz.prog 26 #[.slice C n c,.int .i64 who,.int .i64 snap,.agg (wvl W z).toArray] w (RetTried w R):=by
 obtain ⟨h_,r_,k⟩:=W
 obtain ⟨PQ,hPQ⟩:∃PQ,RetTried w R=PQ:=⟨_,rfl⟩
 have HPQ:=Lh hPQ
 rw[hPQ]
 clear hPQ
 have HAt:=Lh hat
 have HNC:=Lh hnc
 have HLm:=Lh hlim
 have HN:=Lh hn
 have HW:=Lh hw
 have HF:=Lh hf
 have HR:=Lh hR
 clear hat hnc hlim hn hw hf hR
 obtain ⟨B0,hB0⟩:∃B0,beginS (ss l) who snap=B0:=⟨_,rfl⟩
 have HBG0:=Lh hB0
 clear hB0
 obtain ⟨T0,b0⟩:=B0
 show Calls Tryz.prog 26 #[.slice C n c,.int .i64 who,.int .i64 snap,.agg (aW z h_ r_ k)] w PQ
 have BB:Hid (Below w.heap.size w ((w.alloc (.cells (aW z h_ r_ k) 63)).alloc (.cells z11 34))):=Lh (bl_alloc (bl_alloc (Below.refl _ _) _) _)
 have HSZ:Hid (((w.alloc (.cells (aW z h_ r_ k) 63)).alloc (.cells z11 34)).heap.size=w.heap.size+2):=Lh (by simp only[World.size_alloc])
 have KW:Hid (Blk ((w.alloc (.cells (aW z h_ r_ k) 63)).alloc (.cells z11 34)) w.heap.size 63 (aW z h_ r_ k)):=Lh ((Blk.new w _ _).alloc _)
 have K8:Hid (Blk ((w.alloc (.cells (aW z h_ r_ k) 63)).alloc (.cells z11 34)) (w.heap.size+1) 34 z11):=Lh (by have:=Blk.new (w.alloc (.cells (aW z h_ r_ k) 63)) 34 z11;simpa only[World.size_alloc] using this)
 cases b0 with
 | false=>
  have hB:Calls Tryz.prog 13 #[.slice C n c,.int .i64 who,.int .i64 snap] ((w.alloc (.cells (aW z h_ r_ k) 63)).alloc (.cells z11 34)) (fun e w' =>∃y:TL,e=.returned (.tuple #[.agg (aT T0 y),.int .i64 1])∧TOwn ((w.alloc (.cells (aW z h_ r_ k) 63)).alloc (.cells z11 34)) w' T0 y∧Below ((w.alloc (.cells (aW z h_ r_ k) 63)).alloc (.cells z11 34)).heap.size ((w.alloc (.cells (aW z h_ r_ k) 63)).alloc (.cells z11 34)) w'):=(Attempt.begin_c l C n c who snap _ T0 false (HAt.out.below BB.out) HNC.out HLm.out HN.out HBG0.out).mono (fun e w' ⟨y,h1,h2,_,h4⟩=>⟨y,h1,h2,h4⟩)
  have HB:=Lh hB
  clear hB
  go_enter Tryz.func26,Tryz.ntmps26
  go_wp2_with fail
  generalize ((w.alloc (.cells (aW z h_ r_ k) 63)).alloc (.cells z11 34))=v1 at *
  refine HB.out.mono ?_
  rintro e v2 ⟨y,rfl,ho,b_⟩
  clear HB
  have HO:=Lh ho
  have HS1:Hid (v1.heap.size≤v2.heap.size):=Lh b_.size
  clear ho
  replace KW:=Lh (KW.out.below b_)
  replace K8:=Lh (K8.out.below b_)
  replace BB:=Lh (bl_trans BB.out b_)
  clear b_
  have HT0:Hid (T0=none_∧triedS (ss l) who snap h_ r_=(none_,false)):=Lh ⟨(begin_false HBG0.out).1,(begin_false HBG0.out).2 h_ r_⟩
  have Z0:Hid (Blk (v2.alloc (.cells z11 34)) v2.heap.size 34 z11):=Lh (Blk.new v2 34 z11)
  have Y0:Hid (Blk (v2.alloc (.cells z11 34)) v2.heap.size 34 z11):=Lh (Z0.out)
  have K10:Hid (Blk ((v2.alloc (.cells z11 34)).setRow v2.heap.size (aT T0 y)) v2.heap.size 34 (aT T0 y)):=Lh (row_blk Y0.out)
  have bst:Hid (Below v2.heap.size v2 ((v2.alloc (.cells z11 34)).setRow v2.heap.size (aT T0 y))):=Lh (Only.below (S:=fun k=>v2.heap.size≤k) (((Only.refl (fun k=>v2.heap.size≤k) v2).alloc _).trans (row_only _ v2.heap.size _) (fun k _ e=>by omega)) (Nat.le_refl _) (fun k hk e=>by omega))
  go_wp2_with (first | (refine wpList_store_row rfl 34 _ _ rfl v2.heap.size (aT T0 y) rfl rfl 34 _ Y0.out (by kernel_rfl) rfl (by simp[Value.oneCell']) ?_;(clear Z0 Y0);(replace KW:=Lh (KW.out.below bst.out));(replace K8:=Lh (K8.out.below bst.out));(replace HO:=Lh (HO.out.below bst.out));(replace BB:=Lh (bl_trans BB.out bst.out));(clear bst);(generalize ((v2.alloc (.cells z11 34)).setRow v2.heap.size (aT T0 y))=v3 at *);(have a0:=K10.out.cell 0 _ rfl);(have a1:=K10.out.cell 1 _ rfl);(have a2:=K10.out.cell 2 _ rfl);(have a3:=K10.out.cell 3 _ rfl);(have a4:=K10.out.cell 4 _ rfl);(have a5:=K10.out.cell 5 _ rfl);(have a6:=K10.out.cell 6 _ rfl);(have a7:=K10.out.cell 7 _ rfl);(have a8:=K10.out.cell 8 _ rfl);(have a9:=K10.out.cell 9 _ rfl);(have a10:=K10.out.cell 10 _ rfl)) | (refine wpList_store_row rfl 34 _ _ rfl (w.heap.size+1) (aT T0 y) rfl rfl 34 _ K8.out (by kernel_rfl) rfl (by simp[Value.oneCell']) ?_))
  clear a0 a1 a2 a3 a4 a5 a6 a7 a8 a9 a10
  have KE:Hid (Blk (v3.setRow (w.heap.size+1) (aT T0 y)) (w.heap.size+1) 34 (aT T0 y)):=Lh (row_blk K8.out)
  have ONE:=row_only v3 (w.heap.size+1) (aT T0 y)
  generalize (v3.setRow (w.heap.size+1) (aT T0 y))=wE at *
  have fr0:=KE.out.cell 0 _ rfl
  have fr1:=KE.out.cell 1 _ rfl
  have fr2:=KE.out.cell 2 _ rfl
  have fr3:=KE.out.cell 3 _ rfl
  have fr4:=KE.out.cell 4 _ rfl
  have fr5:=KE.out.cell 5 _ rfl
  have fr6:=KE.out.cell 6 _ rfl
  have fr7:=KE.out.cell 7 _ rfl
  have fr8:=KE.out.cell 8 _ rfl
  have fr9:=KE.out.cell 9 _ rfl
  have fr10:=KE.out.cell 10 _ rfl
  refine bodyPost_ret (v:=.tuple #[.agg (aT T0 y),.bool false]) (by simp[results,Tryz.results26,go_sem,fr0,fr1,fr2,fr3,fr4,fr5,fr6,fr7,fr8,fr9,fr10]) rfl ?_
  rw[←HPQ.out]
  have e0:=HT0.out.1
  subst e0
  rw[←HR.out,HT0.out.2]
  have hb:=HSZ.out
  exact ⟨y,rfl,fun w'' hw=>town_turn HO.out ((ONE.sub (S2:=fun k=>k<v1.heap.size) (fun k _ e=>by omega)).trans hw (fun k hk e=>by omega)),none_short HO.out.rd,BB.out.trans (ONE.below BB.out.size (fun k hk e=>by omega))⟩
 | true=>
  have hB:Calls Tryz.prog 13 #[.slice C n c,.int .i64 who,.int .i64 snap] ((w.alloc (.cells (aW z h_ r_ k) 63)).alloc (.cells z11 34)) (fun e w' =>∃y:TL,e=.returned (.tuple #[.agg (aT T0 y),.int .i64 0])∧TOwn ((w.alloc (.cells (aW z h_ r_ k) 63)).alloc (.cells z11 34)) w' T0 y∧Below ((w.alloc (.cells (aW z h_ r_ k) 63)).alloc (.cells z11 34)).heap.size ((w.alloc (.cells (aW z h_ r_ k) 63)).alloc (.cells z11 34)) w'):=(Attempt.begin_c l C n c who snap _ T0 true (HAt.out.below BB.out) HNC.out HLm.out HN.out HBG0.out).mono (fun e w' ⟨y,h1,h2,_,h4⟩=>⟨y,h1,h2,h4⟩)
  have HB:=Lh hB
  clear hB
  go_enter Tryz.func26,Tryz.ntmps26
  go_wp2_with fail
  generalize ((w.alloc (.cells (aW z h_ r_ k) 63)).alloc (.cells z11 34))=v1 at *
  refine HB.out.mono ?_
  rintro e v2 ⟨y,rfl,ho,b_⟩
  clear HB
  have HO:=Lh ho
  have HS1:Hid (v1.heap.size≤v2.heap.size):=Lh b_.size
  clear ho
  replace KW:=Lh (KW.out.below b_)
  replace K8:=Lh (K8.out.below b_)
  replace BB:=Lh (bl_trans BB.out b_)
  clear b_
  obtain ⟨RR,hrr⟩:∃RR,runS (ss l) h_ r_ T0=RR:=⟨_,rfl⟩
  have HRR:=Lh hrr
  clear hrr
  obtain ⟨U,k2,ok⟩:=RR
  have HI0:=Lh (begin_inv HBG0.out)
  have HI1:=Lh (run_inv HI0.out HRR.out).1
  have HTR:=Lh (tried_run HBG0.out HRR.out)
  have Z0:Hid (Blk (v2.alloc (.cells z11 34)) v2.heap.size 34 z11):=Lh (Blk.new v2 34 z11)
  have Y0:Hid (Blk (v2.alloc (.cells z11 34)) v2.heap.size 34 z11):=Lh (Z0.out)
  have K10:Hid (Blk ((v2.alloc (.cells z11 34)).setRow v2.heap.size (aT T0 y)) v2.heap.size 34 (aT T0 y)):=Lh (row_blk Y0.out)
  have bst:Hid (Below v2.heap.size v2 ((v2.alloc (.cells z11 34)).setRow v2.heap.size (aT T0 y))):=Lh (Only.below (S:=fun k=>v2.heap.size≤k) (((Only.refl (fun k=>v2.heap.size≤k) v2).alloc _).trans (row_only _ v2.heap.size _) (fun k _ e=>by omega)) (Nat.le_refl _) (fun k hk e=>by omega))
  go_wp2_with (first | (refine wpList_store_row rfl 34 _ _ rfl v2.heap.size (aT T0 y) rfl rfl 34 _ Y0.out (by kernel_rfl) rfl (by simp[Value.oneCell']) ?_;(clear Z0 Y0);(replace KW:=Lh (KW.out.below bst.out));(replace K8:=Lh (K8.out.below bst.out));(replace HO:=Lh (HO.out.below bst.out));(replace BB:=Lh (bl_trans BB.out bst.out));(clear bst);(generalize ((v2.alloc (.cells z11 34)).setRow v2.heap.size (aT T0 y))=v3 at *);(have a0:=K10.out.cell 0 _ rfl);(have a1:=K10.out.cell 1 _ rfl);(have a2:=K10.out.cell 2 _ rfl);(have a3:=K10.out.cell 3 _ rfl);(have a4:=K10.out.cell 4 _ rfl);(have a5:=K10.out.cell 5 _ rfl);(have a6:=K10.out.cell 6 _ rfl);(have a7:=K10.out.cell 7 _ rfl);(have a8:=K10.out.cell 8 _ rfl);(have a9:=K10.out.cell 9 _ rfl);(have a10:=K10.out.cell 10 _ rfl);(have b0:=KW.out.cell 0 _ rfl);(have b1:=KW.out.cell 1 _ rfl)))
  clear a0 a1 a2 a3 a4 a5 a6 a7 a8 a9 a10 b0 b1
  have HS3:Hid (w.heap.size+1<v3.heap.size):=Lh K8.out.lt
  cases ok with
  | true=>
   have hB:Calls Tryz.prog 48 #[.agg (aT T0 y),.slice C n c,.slice z.H h_.length z.hc,.slice z.R r_.length z.rc] v3 (fun e w' =>∃y2:TL,e=.returned (.tuple #[.agg (aT U y2),.int .i64 k2,.int .i64 0])∧TOwn v3 w' U y2∧Below v3.heap.size v3 w'):=(run_c l C n c h_ z.H h_.length z.hc r_ z.R r_.length z.rc T0 y v3 (SPre.mk_ (HAt.out.below BB.out) HNC.out HLm.out HN.out (HW.out.1.below BB.out) HF.out.1 (HW.out.2.below BB.out) HF.out.2 HO.out.rd HI0.out) (U,k2,true) HRR.out).mono (fun e w' ⟨y,h1,h2,_,h4⟩=>⟨y,h1,h2,h4⟩)
   refine hB.mono ?_
   rintro e v4 ⟨y2,rfl,ho2,b_⟩
   clear hB
   have HO2:=Lh ho2
   clear ho2
   replace KW:=Lh (KW.out.below b_)
   replace K8:=Lh (K8.out.below b_)
   replace HO:=Lh (HO.out.below b_)
   replace K10:=Lh (K10.out.below b_)
   replace BB:=Lh (bl_trans BB.out b_)
   clear b_
   have Z0:Hid (Blk (v4.alloc (.cells z11 34)) v4.heap.size 34 z11):=Lh (Blk.new v4 34 z11)
   have Y0:Hid (Blk (v4.alloc (.cells z11 34)) v4.heap.size 34 z11):=Lh (Z0.out)
   have K12:Hid (Blk ((v4.alloc (.cells z11 34)).setRow v4.heap.size (aT U y2)) v4.heap.size 34 (aT U y2)):=Lh (row_blk Y0.out)
   have bst:Hid (Below v4.heap.size v4 ((v4.alloc (.cells z11 34)).setRow v4.heap.size (aT U y2))):=Lh (Only.below (S:=fun k=>v4.heap.size≤k) (((Only.refl (fun k=>v4.heap.size≤k) v4).alloc _).trans (row_only _ v4.heap.size _) (fun k _ e=>by omega)) (Nat.le_refl _) (fun k hk e=>by omega))
   go_wp2_with (first | (refine wpList_store_row rfl 34 _ _ rfl v4.heap.size (aT U y2) rfl rfl 34 _ Y0.out (by kernel_rfl) rfl (by simp[Value.oneCell']) ?_;(clear Z0 Y0);(replace KW:=Lh (KW.out.below bst.out));(replace K8:=Lh (K8.out.below bst.out));(replace HO:=Lh (HO.out.below bst.out));(replace K10:=Lh (K10.out.below bst.out));(replace HO2:=Lh (HO2.out.below bst.out));(replace BB:=Lh (bl_trans BB.out bst.out));(clear bst);(generalize ((v4.alloc (.cells z11 34)).setRow v4.heap.size (aT U y2))=v5 at *);(have a0:=K12.out.cell 0 _ rfl);(have a1:=K12.out.cell 1 _ rfl);(have a2:=K12.out.cell 2 _ rfl);(have a3:=K12.out.cell 3 _ rfl);(have a4:=K12.out.cell 4 _ rfl);(have a5:=K12.out.cell 5 _ rfl);(have a6:=K12.out.cell 6 _ rfl);(have a7:=K12.out.cell 7 _ rfl);(have a8:=K12.out.cell 8 _ rfl);(have a9:=K12.out.cell 9 _ rfl);(have a10:=K12.out.cell 10 _ rfl)) | (refine wpList_store_row rfl 34 _ _ rfl (w.heap.size+1) (aT U y2) rfl rfl 34 _ K8.out (by kernel_rfl) rfl (by simp[Value.oneCell']) ?_))
   clear a0 a1 a2 a3 a4 a5 a6 a7 a8 a9 a10
   have KE:Hid (Blk (v5.setRow (w.heap.size+1) (aT U y2)) (w.heap.size+1) 34 (aT U y2)):=Lh (row_blk K8.out)
   have ONE:=row_only v5 (w.heap.size+1) (aT U y2)
   generalize (v5.setRow (w.heap.size+1) (aT U y2))=wE at *
   have fr0:=KE.out.cell 0 _ rfl
   have fr1:=KE.out.cell 1 _ rfl
   have fr2:=KE.out.cell 2 _ rfl
   have fr3:=KE.out.cell 3 _ rfl
   have fr4:=KE.out.cell 4 _ rfl
   have fr5:=KE.out.cell 5 _ rfl
   have fr6:=KE.out.cell 6 _ rfl
   have fr7:=KE.out.cell 7 _ rfl
   have fr8:=KE.out.cell 8 _ rfl
   have fr9:=KE.out.cell 9 _ rfl
   have fr10:=KE.out.cell 10 _ rfl
   refine bodyPost_ret (v:=.tuple #[.agg (aT U y2),.bool true]) (by simp[results,Tryz.results26,go_sem,fr0,fr1,fr2,fr3,fr4,fr5,fr6,fr7,fr8,fr9,fr10]) rfl ?_
   rw[←HPQ.out]
   rw[←HR.out,HTR.out]
   have hb:=HSZ.out
   have h3:=HS3.out
   exact ⟨y2,rfl,fun w'' hw=>town_turn HO2.out ((ONE.sub (S2:=fun k=>k<v3.heap.size) (fun k _ e=>by omega)).trans hw (fun k hk e=>by omega)),small_short (HI1.out.small HO2.out.rd),BB.out.trans (ONE.below BB.out.size (fun k hk e=>by omega))⟩
  | false=>
   have hB:Calls Tryz.prog 48 #[.agg (aT T0 y),.slice C n c,.slice z.H h_.length z.hc,.slice z.R r_.length z.rc] v3 (fun e w' =>∃y2:TL,e=.returned (.tuple #[.agg (aT U y2),.int .i64 k2,.int .i64 1])∧TOwn v3 w' U y2∧Below v3.heap.size v3 w'):=(run_c l C n c h_ z.H h_.length z.hc r_ z.R r_.length z.rc T0 y v3 (SPre.mk_ (HAt.out.below BB.out) HNC.out HLm.out HN.out (HW.out.1.below BB.out) HF.out.1 (HW.out.2.below BB.out) HF.out.2 HO.out.rd HI0.out) (U,k2,false) HRR.out).mono (fun e w' ⟨y,h1,h2,_,h4⟩=>⟨y,h1,h2,h4⟩)
   refine hB.mono ?_
   rintro e v4 ⟨y2,rfl,ho2,b_⟩
   clear hB
   have HO2:=Lh ho2
   clear ho2
   replace KW:=Lh (KW.out.below b_)
   replace K8:=Lh (K8.out.below b_)
   replace HO:=Lh (HO.out.below b_)
   replace K10:=Lh (K10.out.below b_)
   replace BB:=Lh (bl_trans BB.out b_)
   clear b_
   have Z0:Hid (Blk (v4.alloc (.cells z11 34)) v4.heap.size 34 z11):=Lh (Blk.new v4 34 z11)
   have Y0:Hid (Blk (v4.alloc (.cells z11 34)) v4.heap.size 34 z11):=Lh (Z0.out)
   have K12:Hid (Blk ((v4.alloc (.cells z11 34)).setRow v4.heap.size (aT U y2)) v4.heap.size 34 (aT U y2)):=Lh (row_blk Y0.out)
   have bst:Hid (Below v4.heap.size v4 ((v4.alloc (.cells z11 34)).setRow v4.heap.size (aT U y2))):=Lh (Only.below (S:=fun k=>v4.heap.size≤k) (((Only.refl (fun k=>v4.heap.size≤k) v4).alloc _).trans (row_only _ v4.heap.size _) (fun k _ e=>by omega)) (Nat.le_refl _) (fun k hk e=>by omega))
   go_wp2_with (first | (refine wpList_store_row rfl 34 _ _ rfl v4.heap.size (aT U y2) rfl rfl 34 _ Y0.out (by kernel_rfl) rfl (by simp[Value.oneCell']) ?_;(clear Z0 Y0);(replace KW:=Lh (KW.out.below bst.out));(replace K8:=Lh (K8.out.below bst.out));(replace HO:=Lh (HO.out.below bst.out));(replace K10:=Lh (K10.out.below bst.out));(replace HO2:=Lh (HO2.out.below bst.out));(replace BB:=Lh (bl_trans BB.out bst.out));(clear bst);(generalize ((v4.alloc (.cells z11 34)).setRow v4.heap.size (aT U y2))=v5 at *);(have a0:=K12.out.cell 0 _ rfl);(have a1:=K12.out.cell 1 _ rfl);(have a2:=K12.out.cell 2 _ rfl);(have a3:=K12.out.cell 3 _ rfl);(have a4:=K12.out.cell 4 _ rfl);(have a5:=K12.out.cell 5 _ rfl);(have a6:=K12.out.cell 6 _ rfl);(have a7:=K12.out.cell 7 _ rfl);(have a8:=K12.out.cell 8 _ rfl);(have a9:=K12.out.cell 9 _ rfl);(have a10:=K12.out.cell 10 _ rfl)) | (refine wpList_store_row rfl 34 _ _ rfl (w.heap.size+1) (aT U y2) rfl rfl 34 _ K8.out (by kernel_rfl) rfl (by simp[Value.oneCell']) ?_))
   clear a0 a1 a2 a3 a4 a5 a6 a7 a8 a9 a10
   have KE:Hid (Blk (v5.setRow (w.heap.size+1) (aT U y2)) (w.heap.size+1) 34 (aT U y2)):=Lh (row_blk K8.out)
   have ONE:=row_only v5 (w.heap.size+1) (aT U y2)
   generalize (v5.setRow (w.heap.size+1) (aT U y2))=wE at *
   have fr0:=KE.out.cell 0 _ rfl
   have fr1:=KE.out.cell 1 _ rfl
   have fr2:=KE.out.cell 2 _ rfl
   have fr3:=KE.out.cell 3 _ rfl
   have fr4:=KE.out.cell 4 _ rfl
   have fr5:=KE.out.cell 5 _ rfl
   have fr6:=KE.out.cell 6 _ rfl
   have fr7:=KE.out.cell 7 _ rfl
   have fr8:=KE.out.cell 8 _ rfl
   have fr9:=KE.out.cell 9 _ rfl
   have fr10:=KE.out.cell 10 _ rfl
   refine bodyPost_ret (v:=.tuple #[.agg (aT U y2),.bool false]) (by simp[results,Tryz.results26,go_sem,fr0,fr1,fr2,fr3,fr4,fr5,fr6,fr7,fr8,fr9,fr10]) rfl ?_
   rw[←HPQ.out]
   rw[←HR.out,HTR.out]
   have hb:=HSZ.out
   have h3:=HS3.out
   exact ⟨y2,rfl,fun w'' hw=>town_turn HO2.out ((ONE.sub (S2:=fun k=>k<v3.heap.size) (fun k _ e=>by omega)).trans hw (fun k hk e=>by omega)),small_short (HI1.out.small HO2.out.rd),BB.out.trans (ONE.below BB.out.size (fun k hk e=>by omega))⟩
end Go.Proofs.YtgghaodcfgbjlaaGreat.Commit
namespace Go.Proofs.YtgghaodcfgbjlaaGreat.Commit
open Go.ChangeShapes Go.WideShapes Go.ChangeAt Go.RowKit Mem Go.Proofs.YtgghaodcfgbjlaaGreat.Attempt
def smallW (W:Wd):Bool:=decide (W.h.length≤80) && decide (W.r.length≤30)
set_option maxHeartbeats 1000000 in
theorem small_c (W:Wd) (z:WL) (w:World) (b:Bool) (hb:smallW W=b):
  Calls Tryz.prog 24 #[.agg (wvl W z).toArray] w (RetB w b):=by
 obtain ⟨h_,r_,k⟩:=W
 show Calls Tryz.prog 24 #[.agg (aW z h_ r_ k)] w (RetB w b)
 have KW:Blk (w.alloc (.cells (aW z h_ r_ k) 63)) w.heap.size 63 (aW z h_ r_ k):=Blk.new w _ _
 have HB:Hid (Below w.heap.size w (w.alloc (.cells (aW z h_ r_ k) 63))):=Lh (bl_alloc (Below.refl _ _) _)
 have a0:=KW.cell 0 _ rfl
 have a1:=KW.cell 1 _ rfl
 clear KW
 unfold smallW at hb
 simp only at hb
 subst hb
 by_cases h1:(h_.length:Int)≤80
 ·have d1:decide (h_.length≤80)=true:=decide_eq_true (by omega)
  rw[d1]
  by_cases h2:(r_.length:Int)≤30
  ·have d2:decide (r_.length≤30)=true:=decide_eq_true (by omega)
   rw[d2]
   clear d1 d2
   go_enter Tryz.func24,Tryz.ntmps24
   go_wp2
   go_ret
   exact ⟨rfl,HB.out⟩
  ·have d2:decide (r_.length≤30)=false:=decide_eq_false (by omega)
   rw[d2]
   clear d1 d2
   go_enter Tryz.func24,Tryz.ntmps24
   go_wp2
   go_ret
   exact ⟨rfl,HB.out⟩
 ·have d1:decide (h_.length≤80)=false:=decide_eq_false (by omega)
  rw[d1]
  clear d1
  go_enter Tryz.func24,Tryz.ntmps24
  go_wp2
  go_ret
  exact ⟨rfl,HB.out⟩
end Go.Proofs.YtgghaodcfgbjlaaGreat.Commit
namespace Go.Proofs.YtgghaodcfgbjlaaGreat.Commit
open Mem Go.Proofs.YtgghaodcfgbjlaaGreat.Attempt
theorem may_hit (r:List Stripe.Rec) (who:Int) (l:List Int) (h:Stripe.mayAll r who l=true) (k:Nat) (x:Stripe.Rec) (hx:r[k]?=some x) (hh:Stripe.hit r.length l k=true):x.owner≤0∨x.owner=who:=by
 unfold Stripe.mayAll at h
 have h1:Stripe.may1 r.length who l k x=true:=List.all_eq_true.1 h _ (List.mem_of_getElem? (i:=k) (by rw[List.getElem?_mapIdx,hx];rfl))
 unfold Stripe.may1 at h1
 rw[hh]at h1
 simpa using h1
end Go.Proofs.YtgghaodcfgbjlaaGreat.Commit
namespace Go.Proofs.YtgghaodcfgbjlaaGreat.Commit
open Go.ChangeShapes Go.WideShapes Go.ChangeAt Go.RowKit Go.Deep Mem Go.Proofs.YtgghaodcfgbjlaaGreat.Attempt Go.Proofs.YtgghaodcfgbjlaaGreat.Code
structure CRaw where
 W:Wd
 z:WL
instance:Inhabited CRaw:=⟨⟨⟨[],[],0⟩,⟨none,0,none,0⟩⟩⟩
def cw (x:CRaw):List Value:=wvl x.W x.z
def CGood (w:World) (x:CRaw):Prop:=WRd w x.W x.z∧x.W.h.length≤9223372036854775807∧x.W.r.length≤9223372036854775807∧∀c∈x.W.h,Heap.Fits c.value
theorem CGood.below {w w' :World} {x:CRaw} (h:CGood w x) (hb:Below w.heap.size w w'):CGood w' x:=⟨h.1.below hb,h.2⟩
theorem trod_cworld {H:Type} {enc:TypeId × Value→H} {W:World} {fuel:Nat} {cs' :List Value} {x:DataW H × List MemPlace} (hl:cs'.length=3)
  (ht:DataW.trod enc Tryz.prog W 0 (fun _=>true) true fuel 63 cs' =some x):∃y:CRaw,cs' =cw y∧CGood W y:=by
 obtain ⟨xs,n',_,_,_,hxl,hf⟩:=DataW.trod_struct Tryz.underlying63 ht
 match cs',hl with
 | [c0,c1,c2],_=>
  have g0:=hf 0 _ rfl
  have g1:=hf 1 _ rfl
  have g2:=hf 2 _ rfl
  have k3:Tryz.prog.cellsOf 48=1:=by kernel_rfl
  have k4:Tryz.prog.cellsOf 49=1:=by kernel_rfl
  have k5:Tryz.prog.cellsOf 3=1:=by kernel_rfl
  match xs,hxl with
  | [y0,y1,y2],_=>
   simp[k3,k4,k5]at g0 g1 g2
   obtain ⟨A0,n0,c0,rfl⟩:=slice_cell Tryz.underlying48 g0
   obtain ⟨A1,n1,c1,rfl⟩:=slice_cell Tryz.underlying49 g1
   obtain ⟨k,e2,_,wf2⟩:=DataW.trod_int Tryz.underlying3 g2
   injection e2 with e2
   subst e2
   obtain ⟨ha,hb,h1,hr,hl0,hf0⟩:=Heap.open_cells (A:=A0) (n:=n0) (c:=c0) (d:=y0.1) (p:=y0.2) ⟨_,g0⟩
   obtain ⟨hc,hd,l1,hr1,hl1,_⟩:=Stripe.open_recs (A:=A1) (n:=n1) (c:=c1) (d:=y1.1) (p:=y1.2) ⟨_,g1⟩
   subst hl0 hl1
   exact ⟨⟨⟨h1,l1,k⟩,⟨A0,c0,A1,c1⟩⟩,rfl,⟨hr,hr1⟩,by show h1.length≤_;omega,by show l1.length≤_;omega,hf0⟩
theorem open_cworld {H:Type} {enc:TypeId × Value→H} {W:World} {r:Reach} {base:Nat} {v:Value} {d:DataW H} {p:List MemPlace} (hv:Value.okWide Tryz.prog W r base 63 v)
  (h:DataW.Trod enc Tryz.prog W 0 (fun _=>true) true 63 v d p):
  ∃x:CRaw,v=.agg (wvl x.W x.z).toArray∧CGood W x:=by
 obtain ⟨cs,rfl,hsz⟩:=okWide_struct Tryz.underlying63 hv
 have k4:Tryz.prog.cellsOf 63=3:=by kernel_rfl
 obtain ⟨fuel,hf⟩:=h
 obtain ⟨y,e,hy⟩:=trod_cworld (cs' :=cs.toList) (by rw[Array.length_toList,hsz,k4]) (by simpa [Value.cells] using hf)
 refine ⟨y,?_,hy⟩
 have:cs=(cw y).toArray:=by rw[←e]
 rw[this];rfl
end Go.Proofs.YtgghaodcfgbjlaaGreat.Commit
namespace Go.Proofs.YtgghaodcfgbjlaaGreat.Commit
open Mem Go.Proofs.YtgghaodcfgbjlaaGreat.Attempt Go.Proofs.YtgghaodcfgbjlaaGreat.Code
theorem stop_who (n:Nat) (t:Try):(stop n t).who=t.who:=by unfold stop;split <;> rfl
theorem settle_who (n:Nat):∀(fs:List Attempt.Frame) (t:Try),(settleF n fs t).who=t.who
 | [],t=>by unfold settleF;rw[stop_who]
 | f::fs,t=>by
  unfold settleF
  by_cases h:f.mid=t.pc
  ·rw[if_pos h,settle_who n fs]
  ·rw[if_neg h,stop_who]
theorem live_who (t:Try) (a b v:Int) (x:Stripe.Rec):(liveT t a b v x).who=t.who:=by
 unfold liveT
 by_cases h:(Writes.getS t.log b).2=true
 ·rw[if_pos h];rfl
 ·rw [if_neg h]
  cases Reads.findS t.reads b with
  | some y=>rfl
  | none=>
   show (if x.owner=0∧x.version≤t.snap then _ else _:Try).who=t.who
   by_cases h2:x.owner=0∧x.version≤t.snap
   ·rw[if_pos h2];rfl
   ·rw[if_neg h2];rfl
theorem load_who (t:Try) (s:Step) (h:List Heap.Cell) (r:List Stripe.Rec):(loadT t s h r).who=t.who:=by
 unfold loadT
 by_cases h1:Heap.liveAt h s.b=true
 ·rw[if_pos h1];exact live_who _ _ _ _ _
 ·rw[if_neg h1];rfl
theorem store_who (t:Try) (s:Step) (h:List Heap.Cell):(storeT t s h).who=t.who:=by
 unfold storeT
 by_cases h1:Heap.liveAt h s.a=true
 ·rw[if_pos h1];rfl
 ·rw[if_neg h1];rfl
theorem skip_who (t:Try) (s:Step) (h:List Heap.Cell):(skipT t s h).who=t.who:=by
 unfold skipT
 by_cases h1:tellT t s.t h=0
 ·rw[if_pos h1];rfl
 ·rw[if_neg h1];rfl
theorem retry_who (t:Try):(retryT t).who=t.who:=by unfold retryT;split <;> rfl
theorem do_who (t:Try) (s:Step) (h:List Heap.Cell) (r:List Stripe.Rec):(doT t s h r).who=t.who:=by
 unfold doT
 by_cases h1:s.d=1
 ·rw[if_pos h1];exact load_who t s h r
 by_cases h2:s.d=2
 ·rw[if_neg h1,if_pos h2];rfl
 by_cases h3:s.d=3
 ·rw[if_neg h1,if_neg h2,if_pos h3];exact store_who t s h
 by_cases h4:s.d=4
 ·rw[if_neg h1,if_neg h2,if_neg h3,if_pos h4];exact skip_who t s h
 by_cases h5:s.d=5
 ·rw[if_neg h1,if_neg h2,if_neg h3,if_neg h4,if_pos h5];exact retry_who t
 by_cases h6:s.d=6
 ·rw[if_neg h1,if_neg h2,if_neg h3,if_neg h4,if_neg h5,if_pos h6];rfl
 ·rw[if_neg h1,if_neg h2,if_neg h3,if_neg h4,if_neg h5,if_neg h6];rfl
theorem step_who {c:List Step} {h:List Heap.Cell} {r:List Stripe.Rec} {t T:Try} (hS:stepS c h r t=(T,true)):T.who=t.who:=by
 unfold stepS at hS
 split at hS
 ·split at hS
  ·have e:=(Prod.mk.inj hS).1
   subst e
   unfold moveS Attempt.settle
   split
   ·rw[settle_who,do_who]
   ·exact do_who _ _ _ _
  ·cases (Prod.mk.inj hS).2
 ·cases (Prod.mk.inj hS).2
theorem tried_inv {c:List Step} {who snap:Int} {h:List Heap.Cell} {r:List Stripe.Rec} {T:Try} (hT:triedS c who snap h r=(T,true)):Inv c T∧T.who=who∧Stripe.whoB who=true:=by
 unfold triedS at hT
 split at hT
 ·rename_i h1
  have hb:beginS c who snap=((beginS c who snap).1,true):=Prod.ext rfl h1
  have hi:=begin_inv hb
  have hf:=begin_first h1
  have e2:(runS c h r (beginS c who snap).1)=(T,(runS c h r (beginS c who snap).1).2.1,true):=Prod.ext (Prod.mk.inj hT).1 (Prod.ext rfl (Prod.mk.inj hT).2)
  have hw0:(beginS c who snap).1.who=who:=by rw[hf];unfold first Attempt.settle;rw[settle_who]
  refine ⟨(run_inv hi e2).1,?_,?_⟩
  ·unfold runS at e2
   split at e2
   ·rename_i h2
    rcases run_ind (P:=fun t=>t.who=who) (fun t T' _ hp hs=>by rw[step_who hs];exact hp) (c.length+1) (beginS c who snap).1 0 hi hw0 (.inl (Nat.le_add_right _ _)) h2 with ⟨a,_⟩ | ⟨_,a⟩
    ·rw[e2]at a;exact a
    ·rw[e2]at a;rw[(Prod.mk.inj a).1];exact hw0
   ·cases (Prod.mk.inj (Prod.mk.inj e2).2).2
  ·unfold beginS at h1
   split at h1
   ·rename_i h2
    unfold begB at h2
    rw[Bool.and_eq_true,Bool.and_eq_true]at h2
    exact h2.2.1
   ·cases h1
 ·cases (Prod.mk.inj hT).2
end Go.Proofs.YtgghaodcfgbjlaaGreat.Commit
namespace Go.Proofs.YtgghaodcfgbjlaaGreat.Attempt
open Go.ChangeShapes Go.WideShapes Go.ChangeAt Go.RowKit Mem Go.Proofs.YtgghaodcfgbjlaaGreat.Code
theorem settle_same (n:Nat):∀(fs:List Frame) (t:Try),(settleF n fs t).reads=t.reads∧(settleF n fs t).snap=t.snap:=by
 intro fs
 induction fs with
 | nil=>intro t;unfold settleF stop;split <;> exact ⟨rfl,rfl⟩
 | cons f fs ih=>
  intro t
  unfold settleF
  split
  ·obtain ⟨h1,h2⟩:=ih { t with pc:=f.fin,log:=(Writes.keepS t.log).1 }
   exact ⟨h1,h2⟩
  ·unfold stop;split <;> exact ⟨rfl,rfl⟩
def Reading (h:List Heap.Cell) (r:List Stripe.Rec) (t T:Try):Prop:=
 T.snap=t.snap∧(T.reads=t.reads∨∃x:Reads.Read,T.reads=t.reads++ [x]∧Heap.liveAt h x.cell=true∧x.value=Heap.valAt h x.cell∧recAt r x.cell=⟨x.version,0⟩)
theorem do_reading (t:Try) (s:Step) (h:List Heap.Cell) (r:List Stripe.Rec):Reading h r t (doT t s h r):=by
 have same:∀u:Try,u.snap=t.snap→u.reads=t.reads→Reading h r t u:=fun u h1 h2=>⟨h1,.inl h2⟩
 unfold doT
 split
 ·unfold loadT
  split
  ·rename_i hl
   unfold liveT
   split
   ·exact same _ rfl rfl
   ·split
    ·exact same _ rfl rfl
    ·split
     ·rename_i hc
      refine ⟨rfl,.inr ⟨⟨s.b,(recAt r s.b).version,Heap.valAt h s.b⟩,rfl,hl,rfl,?_⟩⟩
      show recAt r s.b=⟨(recAt r s.b).version,0⟩
      have:=hc.1
      cases hr:recAt r s.b with
      | mk v o=>rw[hr]at this;simp only at this;rw[this]
     ·exact same _ rfl rfl
  ·exact same _ rfl rfl
 split
 ·exact same _ rfl rfl
 split
 ·unfold storeT;split <;> exact same _ rfl rfl
 split
 ·unfold skipT;split <;> exact same _ rfl rfl
 split
 ·unfold retryT;split <;> exact same _ rfl rfl
 split
 ·exact same _ rfl rfl
 ·exact same _ rfl rfl
theorem step_reading {c:List Step} {h:List Heap.Cell} {r:List Stripe.Rec} {t T:Try} {ok:Bool} (hS:stepS c h r t=(T,ok)):Reading h r t T:=by
 have same:Reading h r t t:=⟨rfl,.inl rfl⟩
 unfold stepS at hS
 split at hS
 ·rename_i s hs
  split at hS
  ·injection hS with e1 _
   rw[←e1]
   unfold moveS
   split
   ·obtain ⟨h1,h2⟩:=settle_same c.length (doT t s h r).frames (doT t s h r)
    have h3:=do_reading t s h r
    unfold Reading settle at *
    rw[h1,h2];exact h3
   ·exact do_reading t s h r
  ·injection hS with e1 _;rw[←e1];exact same
 ·injection hS with e1 _;rw[←e1];exact same
theorem Reading.plain {h:List Heap.Cell} {r:List Stripe.Rec} {t T:Try} (hr:Reading h r t T):t.reads.length≤T.reads.length∧T.reads.length≤t.reads.length+1∧(∀j,j<t.reads.length→T.reads[j]?=t.reads[j]?)∧
  (t.reads.length<T.reads.length→∃x:Reads.Read,T.reads[t.reads.length]?=some x∧Heap.liveAt h x.cell=true∧x.value=Heap.valAt h x.cell∧recAt r x.cell=⟨x.version,0⟩):=by
 rcases hr.2 with e | ⟨x,e,h1,h2,h3⟩
 ·rw[e];exact ⟨Nat.le_refl _,Nat.le_succ _,fun _ _=>rfl,fun h=>absurd h (Nat.lt_irrefl _)⟩
 ·rw [e]
  refine ⟨by simp,by simp,fun j hj=>List.getElem?_append_left hj,fun _=>⟨x,by rw[List.getElem?_append_right (Nat.le_refl _),Nat.sub_self];rfl,h1,h2,h3⟩⟩
theorem begin_snap {c:List Step} {who snap:Int} {T:Try} (hB:beginS c who snap=(T,true)):T.snap=snap:=by
 unfold beginS at hB
 split at hB
 ·injection hB with e _;rw[←e];unfold first settle;exact (settle_same c.length [] _).2
 ·injection hB with _ e;cases e
end Go.Proofs.YtgghaodcfgbjlaaGreat.Attempt
