/- A TRY THAT IS DONE HAS NO FRAMES. -/
import Derived.Test.YtgghaodcfgbjlaaGreatAttE
import Derived.Test.YtgghaodcfgbjlaaGreatCmC
import Derived.Test.YtgghaodcfgbjlaaGreatAttG
import Derived.Test.YtgghaodcfgbjlaaGreatWritesC
import Derived.Test.YtgghaodcfgbjlaaGreatMemA
import Derived.Test.YtgghaodcfgbjlaaGreatReadsA
import Derived.Test.YtgghaodcfgbjlaaGreatCmA
set_option maxRecDepth 100000
namespace Go.Proofs.YtgghaodcfgbjlaaGreat.Commit
open Mem Go.Proofs.YtgghaodcfgbjlaaGreat.Attempt Go.Proofs.YtgghaodcfgbjlaaGreat.Code
theorem stop_kind (n:Nat) (t:Try) (h0:t.kind=0) (h1:(stop n t).kind=1):t.pc=n:=by
 unfold stop at h1
 split at h1
 ·assumption
 ·rw[h0]at h1;cases h1
theorem stop_frames (n:Nat) (t:Try):(stop n t).frames=t.frames:=by unfold stop;split <;> rfl
theorem settle_done (c:List Step):∀(fs:List Attempt.Frame) (q:Nat) (t:Try),Stack c q fs→t.pc≤lim c.length fs→t.kind=0→(settleF c.length fs t).kind=1→(settleF c.length fs t).frames= []:=by
 intro fs
 induction fs with
 | nil=>intro q t _ _ _ _;unfold settleF;rw[stop_frames]
 | cons f fs ih=>
  intro q t hs hp h0 h1
  obtain ⟨k1,k2,_,_,_,_,_,_,k9⟩:=hs
  unfold settleF at h1 ⊢
  split
  ·rename_i e
   rw[if_pos e]at h1
   exact ih f.long _ k9 k2 h0 h1
  ·rename_i e
   rw[if_neg e]at h1
   have h2:t.pc=c.length:=stop_kind c.length { t with frames:=f::fs } h0 h1
   have h3:=k9.lim_le
   have h4:t.pc≤f.mid:=hp
   exact absurd (by omega) e
theorem do_kind (t:Try) (s:Step) (h:List Heap.Cell) (r:List Stripe.Rec) (hk:t.kind=0):(doT t s h r).kind≠1:=by
 unfold doT loadT liveT storeT skipT retryT eitherT
 repeat' split
 all_goals simp[ended,goes,regT,reads1,logT,hk]
theorem step_done {c:List Step} {h:List Heap.Cell} {r:List Stripe.Rec} (t T:Try) (hi:Inv c t) (_:t.kind=1→t.frames= []) (hS:stepS c h r t=(T,true)):T.kind=1→T.frames= []:=by
 intro h1
 unfold stepS at hS
 split at hS
 ·rename_i s hs
  split at hS
  ·rename_i hm
   have e:moveS c.length s h r t=T:=(Prod.mk.inj hS).1
   have hk:t.kind=0:=(step_pc hi (T:=T) (by unfold stepS;rw[hs];show (if mayB h r t=true then _ else _)=_;rw[if_pos hm,e])).1
   have hb:Heap.rightB h=true∧Stripe.rightB r=true:=by
    unfold mayB at hm
    simp only[Bool.and_eq_true]at hm
    exact ⟨hm.1,hm.2.1⟩
   have hp:=(do_inv hi hk hs hb.1 hb.2).1
   unfold moveS at e
   split at e
   ·rename_i h0
    have hp:=hp h0
    rw[←e]at h1 ⊢
    exact settle_done c _ _ _ hp.stack hp.le h0 h1
   ·rw [←e]at h1
    exact absurd h1 (do_kind t s h r hk)
  ·cases (Prod.mk.inj hS).2
 ·cases (Prod.mk.inj hS).2
theorem first_done (c:List Step) (who snap:Int):(first c who snap).kind=1→(first c who snap).frames= []:=by
 intro _
 unfold first Attempt.settle settleF
 rw[stop_frames]
theorem run_done {c:List Step} {h:List Heap.Cell} {r:List Stripe.Rec} {t T:Try} {k:Nat} (hi:Inv c t) (hd:t.kind=1→t.frames= []) (hR:runS c h r t=(T,k,true)):T.kind=1→T.frames= []:=by
 unfold runS at hR
 split at hR
 ·rename_i h1
  rcases run_ind (P:=fun t=>t.kind=1→t.frames= []) (fun t T hi hp hS=>step_done t T hi hp hS) (c.length+1) t 0 hi hd (.inl (Nat.le_add_right _ _)) h1 with ⟨a,_⟩ | ⟨_,b⟩
  ·rw[hR]at a;exact a
  ·rw[b]at hR;rw[←(Prod.mk.inj hR).1];exact hd
 ·cases (Prod.mk.inj (Prod.mk.inj hR).2).2
def triedS (c:List Step) (who snap:Int) (h:List Heap.Cell) (r:List Stripe.Rec):Try × Bool:=
 if (beginS c who snap).2=true then ((runS c h r (beginS c who snap).1).1,(runS c h r (beginS c who snap).1).2.2) else ((beginS c who snap).1,false)
theorem begin_first {c:List Step} {who snap:Int} (h:(beginS c who snap).2=true):(beginS c who snap).1=first c who snap:=by
 unfold beginS at h ⊢
 split
 ·rfl
 ·rename_i h1;rw[if_neg h1]at h;cases h
theorem begin_false {c:List Step} {who snap:Int} {T:Try} (h:beginS c who snap=(T,false)):T=none_∧∀(g:List Heap.Cell) (r:List Stripe.Rec),triedS c who snap g r=(none_,false):=by
 have e:T=none_:=by
  unfold beginS at h
  split at h
  ·cases (Prod.mk.inj h).2
  ·exact (Prod.mk.inj h).1.symm
 subst e
 refine ⟨rfl,fun g r=>?_⟩
 unfold triedS
 rw[h]
 rfl
theorem tried_run {c:List Step} {who snap:Int} {T U:Try} {k:Nat} {ok:Bool} {g:List Heap.Cell} {r:List Stripe.Rec} (h:beginS c who snap=(T,true)) (hr:runS c g r T=(U,k,ok)):triedS c who snap g r=(U,ok):=by
 unfold triedS
 rw[h]
 show (if true=true then ((runS c g r T).1,(runS c g r T).2.2) else _)=_
 rw[hr]
 rfl
theorem tried_done {c:List Step} {who snap:Int} {h:List Heap.Cell} {r:List Stripe.Rec} {T:Try} (hT:triedS c who snap h r=(T,true)):T.kind=1→T.frames= []:=by
 unfold triedS at hT
 split at hT
 ·rename_i h1
  have hb:beginS c who snap=((beginS c who snap).1,true):=Prod.ext rfl h1
  have hi:=begin_inv hb
  have e2:(runS c h r (beginS c who snap).1)=(T,(runS c h r (beginS c who snap).1).2.1,true):=Prod.ext (Prod.mk.inj hT).1 (Prod.ext rfl (Prod.mk.inj hT).2)
  exact run_done hi (by rw[begin_first h1];exact first_done c who snap) e2
 ·cases (Prod.mk.inj hT).2
open Go.ChangeShapes Go.WideShapes Go.ChangeAt Go.RowKit
def RetTried (w:World) (R:Try × Bool) (e:Ending) (w' :World):Prop:=
 ∃y,e=.returned (.tuple #[.agg (tvl R.1 y).toArray,.bool R.2])∧(∀w'',Only (fun k=>k<w.heap.size) w' w'' →TRd w'' R.1 y)∧Short R.1 y∧Below w.heap.size w w'
theorem small_short {t:Try} {x:TL} (h:Small t x):Short t x:=⟨by rw[h.regs];decide,Nat.le_trans h.path (by decide),Nat.le_trans h.reads (by decide),Nat.le_trans h.list (by decide),Nat.le_trans h.marks (by decide),Nat.le_trans h.fl (by decide)⟩
theorem none_short {w:World} {x:TL} (h:TRd w none_ x):Short none_ x:=⟨by decide,by decide,by decide,by decide,by decide,by rw[fl_nil h rfl];decide⟩
set_option maxHeartbeats 4000000 in
theorem tried_c (l:List Raw) (C:Option Addr) (n c:Nat) (who snap:Int) (W:Wd) (z:WL) (w:World) (hat:At w C n l) (hnc:n≤c) (hlim:Lim l) (hn:n≤1000000) (hw:WRd w W z) (hf:Few W) (R:Try × Bool) (hR:triedS (ss l) who snap W.h W.r=R):
  Calls Tryz.prog 26 #[.slice C n c,.int .i64 who,.int .i64 snap,.agg (wvl W z).toArray] w (RetTried w R):=by
 obtain ⟨h_,r_,k⟩:=W
 obtain ⟨PQ,hPQ⟩:∃PQ,RetTried w R=PQ:=⟨_,rfl⟩
 have HPQ:=Lh hPQ
 rw[hPQ]
 clear hPQ
 have HAt:=Lh hat
 have HNC:=Lh hnc
 have HLm:=Lh hlim
 have HN:=Lh hn
 have HW:=Lh hw
 have HF:=Lh hf
 have HR:=Lh hR
 clear hat hnc hlim hn hw hf hR
 obtain ⟨B0,hB0⟩:∃B0,beginS (ss l) who snap=B0:=⟨_,rfl⟩
 have HBG0:=Lh hB0
 clear hB0
 obtain ⟨T0,b0⟩:=B0
 show Calls Tryz.prog 26 #[.slice C n c,.int .i64 who,.int .i64 snap,.agg (aW z h_ r_ k)] w PQ
 have BB:Hid (Below w.heap.size w ((w.alloc (.cells (aW z h_ r_ k) 63)).alloc (.cells z11 34))):=Lh (bl_alloc (bl_alloc (Below.refl _ _) _) _)
 have HSZ:Hid (((w.alloc (.cells (aW z h_ r_ k) 63)).alloc (.cells z11 34)).heap.size=w.heap.size+2):=Lh (by simp only[World.size_alloc])
 have KW:Hid (Blk ((w.alloc (.cells (aW z h_ r_ k) 63)).alloc (.cells z11 34)) w.heap.size 63 (aW z h_ r_ k)):=Lh ((Blk.new w _ _).alloc _)
 have K8:Hid (Blk ((w.alloc (.cells (aW z h_ r_ k) 63)).alloc (.cells z11 34)) (w.heap.size+1) 34 z11):=Lh (by have:=Blk.new (w.alloc (.cells (aW z h_ r_ k) 63)) 34 z11;simpa only[World.size_alloc] using this)
 cases b0 with
 | false=>
  have hB:Calls Tryz.prog 13 #[.slice C n c,.int .i64 who,.int .i64 snap] ((w.alloc (.cells (aW z h_ r_ k) 63)).alloc (.cells z11 34)) (fun e w' =>∃y:TL,e=.returned (.tuple #[.agg (aT T0 y),.int .i64 1])∧TOwn ((w.alloc (.cells (aW z h_ r_ k) 63)).alloc (.cells z11 34)) w' T0 y∧Below ((w.alloc (.cells (aW z h_ r_ k) 63)).alloc (.cells z11 34)).heap.size ((w.alloc (.cells (aW z h_ r_ k) 63)).alloc (.cells z11 34)) w'):=(Attempt.begin_c l C n c who snap _ T0 false (HAt.out.below BB.out) HNC.out HLm.out HN.out HBG0.out).mono (fun e w' ⟨y,h1,h2,_,h4⟩=>⟨y,h1,h2,h4⟩)
  have HB:=Lh hB
  clear hB
  go_enter Tryz.func26,Tryz.ntmps26
  go_wp2_with fail
  generalize ((w.alloc (.cells (aW z h_ r_ k) 63)).alloc (.cells z11 34))=v1 at *
  refine HB.out.mono ?_
  rintro e v2 ⟨y,rfl,ho,b_⟩
  clear HB
  have HO:=Lh ho
  have HS1:Hid (v1.heap.size≤v2.heap.size):=Lh b_.size
  clear ho
  replace KW:=Lh (KW.out.below b_)
  replace K8:=Lh (K8.out.below b_)
  replace BB:=Lh (bl_trans BB.out b_)
  clear b_
  have HT0:Hid (T0=none_∧triedS (ss l) who snap h_ r_=(none_,false)):=Lh ⟨(begin_false HBG0.out).1,(begin_false HBG0.out).2 h_ r_⟩
  have Z0:Hid (Blk (v2.alloc (.cells z11 34)) v2.heap.size 34 z11):=Lh (Blk.new v2 34 z11)
  have Y0:Hid (Blk (v2.alloc (.cells z11 34)) v2.heap.size 34 z11):=Lh (Z0.out)
  have K10:Hid (Blk ((v2.alloc (.cells z11 34)).setRow v2.heap.size (aT T0 y)) v2.heap.size 34 (aT T0 y)):=Lh (row_blk Y0.out)
  have bst:Hid (Below v2.heap.size v2 ((v2.alloc (.cells z11 34)).setRow v2.heap.size (aT T0 y))):=Lh (Only.below (S:=fun k=>v2.heap.size≤k) (((Only.refl (fun k=>v2.heap.size≤k) v2).alloc _).trans (row_only _ v2.heap.size _) (fun k _ e=>by omega)) (Nat.le_refl _) (fun k hk e=>by omega))
  go_wp2_with (first | (refine wpList_store_row rfl 34 _ _ rfl v2.heap.size (aT T0 y) rfl rfl 34 _ Y0.out (by kernel_rfl) rfl (by simp[Value.oneCell']) ?_;(clear Z0 Y0);(replace KW:=Lh (KW.out.below bst.out));(replace K8:=Lh (K8.out.below bst.out));(replace HO:=Lh (HO.out.below bst.out));(replace BB:=Lh (bl_trans BB.out bst.out));(clear bst);(generalize ((v2.alloc (.cells z11 34)).setRow v2.heap.size (aT T0 y))=v3 at *);(have a0:=K10.out.cell 0 _ rfl);(have a1:=K10.out.cell 1 _ rfl);(have a2:=K10.out.cell 2 _ rfl);(have a3:=K10.out.cell 3 _ rfl);(have a4:=K10.out.cell 4 _ rfl);(have a5:=K10.out.cell 5 _ rfl);(have a6:=K10.out.cell 6 _ rfl);(have a7:=K10.out.cell 7 _ rfl);(have a8:=K10.out.cell 8 _ rfl);(have a9:=K10.out.cell 9 _ rfl);(have a10:=K10.out.cell 10 _ rfl)) | (refine wpList_store_row rfl 34 _ _ rfl (w.heap.size+1) (aT T0 y) rfl rfl 34 _ K8.out (by kernel_rfl) rfl (by simp[Value.oneCell']) ?_))
  clear a0 a1 a2 a3 a4 a5 a6 a7 a8 a9 a10
  have KE:Hid (Blk (v3.setRow (w.heap.size+1) (aT T0 y)) (w.heap.size+1) 34 (aT T0 y)):=Lh (row_blk K8.out)
  have ONE:=row_only v3 (w.heap.size+1) (aT T0 y)
  generalize (v3.setRow (w.heap.size+1) (aT T0 y))=wE at *
  have fr0:=KE.out.cell 0 _ rfl
  have fr1:=KE.out.cell 1 _ rfl
  have fr2:=KE.out.cell 2 _ rfl
  have fr3:=KE.out.cell 3 _ rfl
  have fr4:=KE.out.cell 4 _ rfl
  have fr5:=KE.out.cell 5 _ rfl
  have fr6:=KE.out.cell 6 _ rfl
  have fr7:=KE.out.cell 7 _ rfl
  have fr8:=KE.out.cell 8 _ rfl
  have fr9:=KE.out.cell 9 _ rfl
  have fr10:=KE.out.cell 10 _ rfl
  refine bodyPost_ret (v:=.tuple #[.agg (aT T0 y),.bool false]) (by simp[results,Tryz.results26,go_sem,fr0,fr1,fr2,fr3,fr4,fr5,fr6,fr7,fr8,fr9,fr10]) rfl ?_
  rw[←HPQ.out]
  have e0:=HT0.out.1
  subst e0
  rw[←HR.out,HT0.out.2]
  have hb:=HSZ.out
  exact ⟨y,rfl,fun w'' hw=>town_turn HO.out ((ONE.sub (S2:=fun k=>k<v1.heap.size) (fun k _ e=>by omega)).trans hw (fun k hk e=>by omega)),none_short HO.out.rd,BB.out.trans (ONE.below BB.out.size (fun k hk e=>by omega))⟩
 | true=>
  have hB:Calls Tryz.prog 13 #[.slice C n c,.int .i64 who,.int .i64 snap] ((w.alloc (.cells (aW z h_ r_ k) 63)).alloc (.cells z11 34)) (fun e w' =>∃y:TL,e=.returned (.tuple #[.agg (aT T0 y),.int .i64 0])∧TOwn ((w.alloc (.cells (aW z h_ r_ k) 63)).alloc (.cells z11 34)) w' T0 y∧Below ((w.alloc (.cells (aW z h_ r_ k) 63)).alloc (.cells z11 34)).heap.size ((w.alloc (.cells (aW z h_ r_ k) 63)).alloc (.cells z11 34)) w'):=(Attempt.begin_c l C n c who snap _ T0 true (HAt.out.below BB.out) HNC.out HLm.out HN.out HBG0.out).mono (fun e w' ⟨y,h1,h2,_,h4⟩=>⟨y,h1,h2,h4⟩)
  have HB:=Lh hB
  clear hB
  go_enter Tryz.func26,Tryz.ntmps26
  go_wp2_with fail
  generalize ((w.alloc (.cells (aW z h_ r_ k) 63)).alloc (.cells z11 34))=v1 at *
  refine HB.out.mono ?_
  rintro e v2 ⟨y,rfl,ho,b_⟩
  clear HB
  have HO:=Lh ho
  have HS1:Hid (v1.heap.size≤v2.heap.size):=Lh b_.size
  clear ho
  replace KW:=Lh (KW.out.below b_)
  replace K8:=Lh (K8.out.below b_)
  replace BB:=Lh (bl_trans BB.out b_)
  clear b_
  obtain ⟨RR,hrr⟩:∃RR,runS (ss l) h_ r_ T0=RR:=⟨_,rfl⟩
  have HRR:=Lh hrr
  clear hrr
  obtain ⟨U,k2,ok⟩:=RR
  have HI0:=Lh (begin_inv HBG0.out)
  have HI1:=Lh (run_inv HI0.out HRR.out).1
  have HTR:=Lh (tried_run HBG0.out HRR.out)
  have Z0:Hid (Blk (v2.alloc (.cells z11 34)) v2.heap.size 34 z11):=Lh (Blk.new v2 34 z11)
  have Y0:Hid (Blk (v2.alloc (.cells z11 34)) v2.heap.size 34 z11):=Lh (Z0.out)
  have K10:Hid (Blk ((v2.alloc (.cells z11 34)).setRow v2.heap.size (aT T0 y)) v2.heap.size 34 (aT T0 y)):=Lh (row_blk Y0.out)
  have bst:Hid (Below v2.heap.size v2 ((v2.alloc (.cells z11 34)).setRow v2.heap.size (aT T0 y))):=Lh (Only.below (S:=fun k=>v2.heap.size≤k) (((Only.refl (fun k=>v2.heap.size≤k) v2).alloc _).trans (row_only _ v2.heap.size _) (fun k _ e=>by omega)) (Nat.le_refl _) (fun k hk e=>by omega))
  go_wp2_with (first | (refine wpList_store_row rfl 34 _ _ rfl v2.heap.size (aT T0 y) rfl rfl 34 _ Y0.out (by kernel_rfl) rfl (by simp[Value.oneCell']) ?_;(clear Z0 Y0);(replace KW:=Lh (KW.out.below bst.out));(replace K8:=Lh (K8.out.below bst.out));(replace HO:=Lh (HO.out.below bst.out));(replace BB:=Lh (bl_trans BB.out bst.out));(clear bst);(generalize ((v2.alloc (.cells z11 34)).setRow v2.heap.size (aT T0 y))=v3 at *);(have a0:=K10.out.cell 0 _ rfl);(have a1:=K10.out.cell 1 _ rfl);(have a2:=K10.out.cell 2 _ rfl);(have a3:=K10.out.cell 3 _ rfl);(have a4:=K10.out.cell 4 _ rfl);(have a5:=K10.out.cell 5 _ rfl);(have a6:=K10.out.cell 6 _ rfl);(have a7:=K10.out.cell 7 _ rfl);(have a8:=K10.out.cell 8 _ rfl);(have a9:=K10.out.cell 9 _ rfl);(have a10:=K10.out.cell 10 _ rfl);(have b0:=KW.out.cell 0 _ rfl);(have b1:=KW.out.cell 1 _ rfl)))
  clear a0 a1 a2 a3 a4 a5 a6 a7 a8 a9 a10 b0 b1
  have HS3:Hid (w.heap.size+1<v3.heap.size):=Lh K8.out.lt
  cases ok with
  | true=>
   have hB:Calls Tryz.prog 48 #[.agg (aT T0 y),.slice C n c,.slice z.H h_.length z.hc,.slice z.R r_.length z.rc] v3 (fun e w' =>∃y2:TL,e=.returned (.tuple #[.agg (aT U y2),.int .i64 k2,.int .i64 0])∧TOwn v3 w' U y2∧Below v3.heap.size v3 w'):=(run_c l C n c h_ z.H h_.length z.hc r_ z.R r_.length z.rc T0 y v3 (SPre.mk_ (HAt.out.below BB.out) HNC.out HLm.out HN.out (HW.out.1.below BB.out) HF.out.1 (HW.out.2.below BB.out) HF.out.2 HO.out.rd HI0.out) (U,k2,true) HRR.out).mono (fun e w' ⟨y,h1,h2,_,h4⟩=>⟨y,h1,h2,h4⟩)
   refine hB.mono ?_
   rintro e v4 ⟨y2,rfl,ho2,b_⟩
   clear hB
   have HO2:=Lh ho2
   clear ho2
   replace KW:=Lh (KW.out.below b_)
   replace K8:=Lh (K8.out.below b_)
   replace HO:=Lh (HO.out.below b_)
   replace K10:=Lh (K10.out.below b_)
   replace BB:=Lh (bl_trans BB.out b_)
   clear b_
   have Z0:Hid (Blk (v4.alloc (.cells z11 34)) v4.heap.size 34 z11):=Lh (Blk.new v4 34 z11)
   have Y0:Hid (Blk (v4.alloc (.cells z11 34)) v4.heap.size 34 z11):=Lh (Z0.out)
   have K12:Hid (Blk ((v4.alloc (.cells z11 34)).setRow v4.heap.size (aT U y2)) v4.heap.size 34 (aT U y2)):=Lh (row_blk Y0.out)
   have bst:Hid (Below v4.heap.size v4 ((v4.alloc (.cells z11 34)).setRow v4.heap.size (aT U y2))):=Lh (Only.below (S:=fun k=>v4.heap.size≤k) (((Only.refl (fun k=>v4.heap.size≤k) v4).alloc _).trans (row_only _ v4.heap.size _) (fun k _ e=>by omega)) (Nat.le_refl _) (fun k hk e=>by omega))
   go_wp2_with (first | (refine wpList_store_row rfl 34 _ _ rfl v4.heap.size (aT U y2) rfl rfl 34 _ Y0.out (by kernel_rfl) rfl (by simp[Value.oneCell']) ?_;(clear Z0 Y0);(replace KW:=Lh (KW.out.below bst.out));(replace K8:=Lh (K8.out.below bst.out));(replace HO:=Lh (HO.out.below bst.out));(replace K10:=Lh (K10.out.below bst.out));(replace HO2:=Lh (HO2.out.below bst.out));(replace BB:=Lh (bl_trans BB.out bst.out));(clear bst);(generalize ((v4.alloc (.cells z11 34)).setRow v4.heap.size (aT U y2))=v5 at *);(have a0:=K12.out.cell 0 _ rfl);(have a1:=K12.out.cell 1 _ rfl);(have a2:=K12.out.cell 2 _ rfl);(have a3:=K12.out.cell 3 _ rfl);(have a4:=K12.out.cell 4 _ rfl);(have a5:=K12.out.cell 5 _ rfl);(have a6:=K12.out.cell 6 _ rfl);(have a7:=K12.out.cell 7 _ rfl);(have a8:=K12.out.cell 8 _ rfl);(have a9:=K12.out.cell 9 _ rfl);(have a10:=K12.out.cell 10 _ rfl)) | (refine wpList_store_row rfl 34 _ _ rfl (w.heap.size+1) (aT U y2) rfl rfl 34 _ K8.out (by kernel_rfl) rfl (by simp[Value.oneCell']) ?_))
   clear a0 a1 a2 a3 a4 a5 a6 a7 a8 a9 a10
   have KE:Hid (Blk (v5.setRow (w.heap.size+1) (aT U y2)) (w.heap.size+1) 34 (aT U y2)):=Lh (row_blk K8.out)
   have ONE:=row_only v5 (w.heap.size+1) (aT U y2)
   generalize (v5.setRow (w.heap.size+1) (aT U y2))=wE at *
   have fr0:=KE.out.cell 0 _ rfl
   have fr1:=KE.out.cell 1 _ rfl
   have fr2:=KE.out.cell 2 _ rfl
   have fr3:=KE.out.cell 3 _ rfl
   have fr4:=KE.out.cell 4 _ rfl
   have fr5:=KE.out.cell 5 _ rfl
   have fr6:=KE.out.cell 6 _ rfl
   have fr7:=KE.out.cell 7 _ rfl
   have fr8:=KE.out.cell 8 _ rfl
   have fr9:=KE.out.cell 9 _ rfl
   have fr10:=KE.out.cell 10 _ rfl
   refine bodyPost_ret (v:=.tuple #[.agg (aT U y2),.bool true]) (by simp[results,Tryz.results26,go_sem,fr0,fr1,fr2,fr3,fr4,fr5,fr6,fr7,fr8,fr9,fr10]) rfl ?_
   rw[←HPQ.out]
   rw[←HR.out,HTR.out]
   have hb:=HSZ.out
   have h3:=HS3.out
   exact ⟨y2,rfl,fun w'' hw=>town_turn HO2.out ((ONE.sub (S2:=fun k=>k<v3.heap.size) (fun k _ e=>by omega)).trans hw (fun k hk e=>by omega)),small_short (HI1.out.small HO2.out.rd),BB.out.trans (ONE.below BB.out.size (fun k hk e=>by omega))⟩
  | false=>
   have hB:Calls Tryz.prog 48 #[.agg (aT T0 y),.slice C n c,.slice z.H h_.length z.hc,.slice z.R r_.length z.rc] v3 (fun e w' =>∃y2:TL,e=.returned (.tuple #[.agg (aT U y2),.int .i64 k2,.int .i64 1])∧TOwn v3 w' U y2∧Below v3.heap.size v3 w'):=(run_c l C n c h_ z.H h_.length z.hc r_ z.R r_.length z.rc T0 y v3 (SPre.mk_ (HAt.out.below BB.out) HNC.out HLm.out HN.out (HW.out.1.below BB.out) HF.out.1 (HW.out.2.below BB.out) HF.out.2 HO.out.rd HI0.out) (U,k2,false) HRR.out).mono (fun e w' ⟨y,h1,h2,_,h4⟩=>⟨y,h1,h2,h4⟩)
   refine hB.mono ?_
   rintro e v4 ⟨y2,rfl,ho2,b_⟩
   clear hB
   have HO2:=Lh ho2
   clear ho2
   replace KW:=Lh (KW.out.below b_)
   replace K8:=Lh (K8.out.below b_)
   replace HO:=Lh (HO.out.below b_)
   replace K10:=Lh (K10.out.below b_)
   replace BB:=Lh (bl_trans BB.out b_)
   clear b_
   have Z0:Hid (Blk (v4.alloc (.cells z11 34)) v4.heap.size 34 z11):=Lh (Blk.new v4 34 z11)
   have Y0:Hid (Blk (v4.alloc (.cells z11 34)) v4.heap.size 34 z11):=Lh (Z0.out)
   have K12:Hid (Blk ((v4.alloc (.cells z11 34)).setRow v4.heap.size (aT U y2)) v4.heap.size 34 (aT U y2)):=Lh (row_blk Y0.out)
   have bst:Hid (Below v4.heap.size v4 ((v4.alloc (.cells z11 34)).setRow v4.heap.size (aT U y2))):=Lh (Only.below (S:=fun k=>v4.heap.size≤k) (((Only.refl (fun k=>v4.heap.size≤k) v4).alloc _).trans (row_only _ v4.heap.size _) (fun k _ e=>by omega)) (Nat.le_refl _) (fun k hk e=>by omega))
   go_wp2_with (first | (refine wpList_store_row rfl 34 _ _ rfl v4.heap.size (aT U y2) rfl rfl 34 _ Y0.out (by kernel_rfl) rfl (by simp[Value.oneCell']) ?_;(clear Z0 Y0);(replace KW:=Lh (KW.out.below bst.out));(replace K8:=Lh (K8.out.below bst.out));(replace HO:=Lh (HO.out.below bst.out));(replace K10:=Lh (K10.out.below bst.out));(replace HO2:=Lh (HO2.out.below bst.out));(replace BB:=Lh (bl_trans BB.out bst.out));(clear bst);(generalize ((v4.alloc (.cells z11 34)).setRow v4.heap.size (aT U y2))=v5 at *);(have a0:=K12.out.cell 0 _ rfl);(have a1:=K12.out.cell 1 _ rfl);(have a2:=K12.out.cell 2 _ rfl);(have a3:=K12.out.cell 3 _ rfl);(have a4:=K12.out.cell 4 _ rfl);(have a5:=K12.out.cell 5 _ rfl);(have a6:=K12.out.cell 6 _ rfl);(have a7:=K12.out.cell 7 _ rfl);(have a8:=K12.out.cell 8 _ rfl);(have a9:=K12.out.cell 9 _ rfl);(have a10:=K12.out.cell 10 _ rfl)) | (refine wpList_store_row rfl 34 _ _ rfl (w.heap.size+1) (aT U y2) rfl rfl 34 _ K8.out (by kernel_rfl) rfl (by simp[Value.oneCell']) ?_))
   clear a0 a1 a2 a3 a4 a5 a6 a7 a8 a9 a10
   have KE:Hid (Blk (v5.setRow (w.heap.size+1) (aT U y2)) (w.heap.size+1) 34 (aT U y2)):=Lh (row_blk K8.out)
   have ONE:=row_only v5 (w.heap.size+1) (aT U y2)
   generalize (v5.setRow (w.heap.size+1) (aT U y2))=wE at *
   have fr0:=KE.out.cell 0 _ rfl
   have fr1:=KE.out.cell 1 _ rfl
   have fr2:=KE.out.cell 2 _ rfl
   have fr3:=KE.out.cell 3 _ rfl
   have fr4:=KE.out.cell 4 _ rfl
   have fr5:=KE.out.cell 5 _ rfl
   have fr6:=KE.out.cell 6 _ rfl
   have fr7:=KE.out.cell 7 _ rfl
   have fr8:=KE.out.cell 8 _ rfl
   have fr9:=KE.out.cell 9 _ rfl
   have fr10:=KE.out.cell 10 _ rfl
   refine bodyPost_ret (v:=.tuple #[.agg (aT U y2),.bool false]) (by simp[results,Tryz.results26,go_sem,fr0,fr1,fr2,fr3,fr4,fr5,fr6,fr7,fr8,fr9,fr10]) rfl ?_
   rw[←HPQ.out]
   rw[←HR.out,HTR.out]
   have hb:=HSZ.out
   have h3:=HS3.out
   exact ⟨y2,rfl,fun w'' hw=>town_turn HO2.out ((ONE.sub (S2:=fun k=>k<v3.heap.size) (fun k _ e=>by omega)).trans hw (fun k hk e=>by omega)),small_short (HI1.out.small HO2.out.rd),BB.out.trans (ONE.below BB.out.size (fun k hk e=>by omega))⟩
end Go.Proofs.YtgghaodcfgbjlaaGreat.Commit
namespace Go.Proofs.YtgghaodcfgbjlaaGreat.Commit
open Go.ChangeShapes Go.WideShapes Go.ChangeAt Go.RowKit Mem Go.Proofs.YtgghaodcfgbjlaaGreat.Attempt
set_option maxHeartbeats 1000000 in
theorem worlds_c (W:Wd) (z:WL) (w:World):
  Calls Tryz.prog 31 #[.agg (wvl W z).toArray] w (fun e w' =>e=.returned (.agg (wvl W z).toArray)∧Below w.heap.size w w'):=by
 obtain ⟨h_,r_,k⟩:=W
 show Calls Tryz.prog 31 #[.agg (aW z h_ r_ k)] w (fun e w' =>e=.returned (.agg (aW z h_ r_ k))∧Below w.heap.size w w')
 have KW:Blk ((w.alloc (.cells (aW z h_ r_ k) 63)).alloc (.cells z3 77)) w.heap.size 63 (aW z h_ r_ k):=(Blk.new w _ _).alloc _
 have K2:Hid (Blk ((w.alloc (.cells (aW z h_ r_ k) 63)).alloc (.cells z3 77)) (w.heap.size+1) 77 z3):=Lh (by have:=Blk.new (w.alloc (.cells (aW z h_ r_ k) 63)) 77 z3;simpa only[World.size_alloc] using this)
 have KE:Hid (Blk (((w.alloc (.cells (aW z h_ r_ k) 63)).alloc (.cells z3 77)).setRow (w.heap.size+1) (aW z h_ r_ k)) (w.heap.size+1) 77 (aW z h_ r_ k)):=Lh (row_blk K2.out)
 have HB:Hid (Below w.heap.size w (((w.alloc (.cells (aW z h_ r_ k) 63)).alloc (.cells z3 77)).setRow (w.heap.size+1) (aW z h_ r_ k))):=Lh ((bl_alloc (bl_alloc (Below.refl _ _) _) _).trans ((row_only ((w.alloc (.cells (aW z h_ r_ k) 63)).alloc (.cells z3 77)) (w.heap.size+1) _).below (bl_alloc (bl_alloc (Below.refl _ _) _) _).size (fun k hk e=>by omega)))
 have a0:=KW.cell 0 _ rfl
 have a1:=KW.cell 1 _ rfl
 have a2:=KW.cell 2 _ rfl
 clear KW
 go_enter Tryz.func31,Tryz.ntmps31
 go_wp2_with (refine wpList_store_row rfl 77 _ _ rfl (w.heap.size+1) (aW z h_ r_ k) rfl rfl 77 _ K2.out (by kernel_rfl) rfl (by simp[Value.oneCell']) ?_)
 clear a0 a1 a2
 generalize (((w.alloc (.cells (aW z h_ r_ k) 63)).alloc (.cells z3 77)).setRow (w.heap.size+1) (aW z h_ r_ k))=wE at *
 have f0:=KE.out.cell 0 _ rfl
 have f1:=KE.out.cell 1 _ rfl
 have f2:=KE.out.cell 2 _ rfl
 refine bodyPost_ret (v:=.agg (aW z h_ r_ k)) (by simp[results,Tryz.results31,go_sem,f0,f1,f2]) rfl ?_
 exact ⟨rfl,HB.out⟩
def smallW (W:Wd):Bool:=decide (W.h.length≤80) && decide (W.r.length≤30)
set_option maxHeartbeats 1000000 in
theorem small_c (W:Wd) (z:WL) (w:World) (b:Bool) (hb:smallW W=b):
  Calls Tryz.prog 24 #[.agg (wvl W z).toArray] w (RetB w b):=by
 obtain ⟨h_,r_,k⟩:=W
 show Calls Tryz.prog 24 #[.agg (aW z h_ r_ k)] w (RetB w b)
 have KW:Blk (w.alloc (.cells (aW z h_ r_ k) 63)) w.heap.size 63 (aW z h_ r_ k):=Blk.new w _ _
 have HB:Hid (Below w.heap.size w (w.alloc (.cells (aW z h_ r_ k) 63))):=Lh (bl_alloc (Below.refl _ _) _)
 have a0:=KW.cell 0 _ rfl
 have a1:=KW.cell 1 _ rfl
 clear KW
 unfold smallW at hb
 simp only at hb
 subst hb
 by_cases h1:(h_.length:Int)≤80
 ·have d1:decide (h_.length≤80)=true:=decide_eq_true (by omega)
  rw[d1]
  by_cases h2:(r_.length:Int)≤30
  ·have d2:decide (r_.length≤30)=true:=decide_eq_true (by omega)
   rw[d2]
   clear d1 d2
   go_enter Tryz.func24,Tryz.ntmps24
   go_wp2
   go_ret
   exact ⟨rfl,HB.out⟩
  ·have d2:decide (r_.length≤30)=false:=decide_eq_false (by omega)
   rw[d2]
   clear d1 d2
   go_enter Tryz.func24,Tryz.ntmps24
   go_wp2
   go_ret
   exact ⟨rfl,HB.out⟩
 ·have d1:decide (h_.length≤80)=false:=decide_eq_false (by omega)
  rw[d1]
  clear d1
  go_enter Tryz.func24,Tryz.ntmps24
  go_wp2
  go_ret
  exact ⟨rfl,HB.out⟩
set_option maxHeartbeats 2000000 in
theorem refworlds (A B:Wd) (x y:WL) (w:World) (hx:WRd w A x) (hy:WRd w B y) (fa:Few A) (fb:Few B) (b1 b2 b3:Bool) (e1:decide (A.h=B.h)=b1) (e2:decide (A.r=B.r)=b2) (e3:decide (A.k=B.k)=b3):
  Calls Tryz.prog 38 #[.agg (wvl A x).toArray,.agg (wvl B y).toArray] w (RetB w ((b1 && b2) && b3)):=by
 obtain ⟨ha,ra,ka⟩:=A
 obtain ⟨hb,rb,kb⟩:=B
 simp only at e1 e2 e3
 have HX:=Lh hx
 have HY:=Lh hy
 have FA:=Lh fa
 have FB:=Lh fb
 have E1:=Lh e1
 have E2:=Lh e2
 have E3:=Lh e3
 clear hx hy fa fb e1 e2 e3
 obtain ⟨PQ,hPQ⟩:∃PQ,RetB w ((b1 && b2) && b3)=PQ:=⟨_,rfl⟩
 have HPQ:=Lh hPQ
 rw[hPQ]
 clear hPQ
 show Calls Tryz.prog 38 #[.agg (aW x ha ra ka),.agg (aW y hb rb kb)] w PQ
 have KA:Hid (Blk ((w.alloc (.cells (aW x ha ra ka) 77)).alloc (.cells (aW y hb rb kb) 77)) w.heap.size 77 (aW x ha ra ka)):=Lh ((Blk.new w _ _).alloc _)
 have KB:Hid (Blk ((w.alloc (.cells (aW x ha ra ka) 77)).alloc (.cells (aW y hb rb kb) 77)) (w.heap.size+1) 77 (aW y hb rb kb)):=Lh (by have:=Blk.new (w.alloc (.cells (aW x ha ra ka) 77)) 77 (aW y hb rb kb);simpa only[World.size_alloc] using this)
 have BB:Hid (Below w.heap.size w ((w.alloc (.cells (aW x ha ra ka) 77)).alloc (.cells (aW y hb rb kb) 77))):=Lh (bl_alloc (bl_alloc (Below.refl _ _) _) _)
 go_enter Tryz.func38,Tryz.ntmps38
 go_wp2_with fail
 generalize ((w.alloc (.cells (aW x ha ra ka) 77)).alloc (.cells (aW y hb rb kb) 77))=W1 at *
 replace KA:=Lh (KA.out.below (Below.refl _ _).drew)
 replace KB:=Lh (KB.out.below (Below.refl _ _).drew)
 replace BB:=Lh BB.out.drew
 obtain ⟨SB,hSB⟩:∃SB:World→Prop,∀W,SB W↔(Blk W w.heap.size 77 (aW x ha ra ka)∧Blk W (w.heap.size+1) 77 (aW y hb rb kb)):=⟨_,fun _=>Iff.rfl⟩
 have HSB:=Lh hSB
 clear hSB
 have f0:SB W1.drew:=(HSB.out _).2 ⟨KA.out,KB.out⟩
 refine wp_region_held_drew (S:=SB) (by kernel_rfl) f0 (fun hH0=>?_)
 clear f0
 generalize W1.drew=w0 at *
 refine tk 0 (.pointer (some ⟨w.heap.size,0,none⟩)) rfl hH0 ?_
 try go_simp
 refine tk 1 (.slice x.H ha.length x.hc) rfl hH0 ?_ (hy:=Or.inl ⟨by kernel_rfl,fun W hS=>by obtain ⟨s1,s2⟩:=(HSB.out W).1 hS;have q0:=s1.cell 0 _ rfl;go_simp⟩)
 try go_simp
 refine tk 2 (.pointer (some ⟨w.heap.size+1,0,none⟩)) rfl hH0 ?_
 try go_simp
 refine tk 3 (.slice y.H hb.length y.hc) rfl hH0 ?_ (hy:=Or.inl ⟨by kernel_rfl,fun W hS=>by obtain ⟨s1,s2⟩:=(HSB.out W).1 hS;have q0:=s2.cell 0 _ rfl;go_simp⟩)
 try go_simp
 refine tk 5 (.pointer (some ⟨w.heap.size,1,none⟩)) rfl hH0 ?_
 try go_simp
 refine tk 6 (.slice x.R ra.length x.rc) rfl hH0 ?_ (hy:=Or.inl ⟨by kernel_rfl,fun W hS=>by obtain ⟨s1,s2⟩:=(HSB.out W).1 hS;have q0:=s1.cell 1 _ rfl;go_simp⟩)
 try go_simp
 refine tk 7 (.pointer (some ⟨w.heap.size+1,1,none⟩)) rfl hH0 ?_
 try go_simp
 refine tk 8 (.slice y.R rb.length y.rc) rfl hH0 ?_ (hy:=Or.inl ⟨by kernel_rfl,fun W hS=>by obtain ⟨s1,s2⟩:=(HSB.out W).1 hS;have q0:=s2.cell 1 _ rfl;go_simp⟩)
 try go_simp
 have HC1:=Lh (Heap.same_b ha hb x.H y.H ha.length hb.length x.hc y.hc w0 b1 (HX.out.1.below BB.out) (HY.out.1.below BB.out) FA.out.1 FB.out.1 E1.out)
 refine rdy 4 rfl (fun KK0 hK=>?_)
 rw[if_pos (by kernel_rfl)]
 refine Step2.calls_wp _ _ _ (HC1.out) (Step2.run_call _ _ _ rfl rfl Tryz.func43 (by kernel_rfl) (by kernel_rfl) _ (by kernel_rfl)) ?_
 rintro e w2 ⟨rfl,b_⟩
 refine ⟨_,rfl,?_⟩
 replace KA:=Lh (KA.out.below b_)
 replace KB:=Lh (KB.out.below b_)
 replace BB:=Lh (bl_trans BB.out b_)
 clear b_ HC1
 have HC2:=Lh (Stripe.same_b ra rb x.R y.R ra.length rb.length x.rc y.rc w2 b2 (HX.out.2.below BB.out) (HY.out.2.below BB.out) FA.out.2 FB.out.2 E2.out)
 refine hK.out _ _ ((HSB.out _).2 ⟨KA.out,KB.out⟩) (fun hH1=>?_)
 clear hK KK0
 try go_simp
 refine rdy 9 rfl (fun KK0 hK=>?_)
 rw[if_pos (by kernel_rfl)]
 refine Step2.calls_wp _ _ _ (HC2.out) (Step2.run_call _ _ _ rfl rfl Tryz.func44 (by kernel_rfl) (by kernel_rfl) _ (by kernel_rfl)) ?_
 rintro e w3 ⟨rfl,b_⟩
 refine ⟨_,rfl,?_⟩
 replace KA:=Lh (KA.out.below b_)
 replace KB:=Lh (KB.out.below b_)
 replace BB:=Lh (bl_trans BB.out b_)
 clear b_ HC2
 refine hK.out _ _ ((HSB.out _).2 ⟨KA.out,KB.out⟩) (fun hH2=>?_)
 clear hK KK0
 try go_simp
 refine tk 10 (.bool b1) rfl hH2 ?_
 try go_simp
 refine rdy 11 rfl (fun KK0 hK=>?_)
 go_simp
 refine hK.out _ _ hH2 (fun _=>?_)
 clear hK KK0
 refine wpAnyH_done (by kernel_rfl) ?_ _
 try go_simp
 have p2:=KA.out.cell 2 _ rfl
 have q2:=KB.out.cell 2 _ rfl
 cases b1 with
 | false=>
  go_wp2
  rw[←HPQ.out]
  exact ⟨rfl,BB.out⟩
 | true=>
  cases b2 with
  | false=>
   go_wp2
   rw[←HPQ.out]
   exact ⟨rfl,BB.out⟩
  | true=>
   have h3:decide (ka=kb)=b3:=E3.out
   have h4:(ka==kb)=b3:=by rw[←h3];exact (by by_cases h:ka=kb <;> simp[h])
   go_wp2
   rw[←HPQ.out]
   exact ⟨by simp,BB.out⟩
end Go.Proofs.YtgghaodcfgbjlaaGreat.Commit
namespace Go.Proofs.YtgghaodcfgbjlaaGreat.Attempt
open Go.ChangeShapes Go.WideShapes Go.ChangeAt Go.RowKit Mem Go.Proofs.YtgghaodcfgbjlaaGreat.Code
theorem tFrameR:SliceT Tryz.prog 39 132 4 48:=
 SliceT.mk_ (z:=.agg #[.int .i64 0,.int .i64 0,.int .i64 0,.slice none 0 0]) Tryz.underlying39 (by kernel_rfl) rfl (by decide)
def RetRef (w:World) (t:Try) (x:TL) (e:Ending) (w' :World):Prop:=∃(F:Option Addr) (fc:Nat),e=.returned (.agg (tvl t { x with F:=F,fc:=fc }).toArray)∧Own w w' 132 4 (.slice F x.fl.length fc) x.fl.length (frs x.fl)∧Below w.heap.size w w'
set_option maxHeartbeats 4000000 in
theorem ref_t (t:Try) (x:TL) (w:World) (h:TRd w t x) (hm:x.fl.length≤1000000):Calls Tryz.prog 17 #[.agg (tvl t x).toArray] w (RetRef w t x):=by
 obtain ⟨PQ,hPQ⟩:∃PQ,RetRef w t x=PQ:=⟨_,rfl⟩
 have HPQ:=Lh hPQ
 rw[hPQ]
 obtain ⟨xR,xrc,xP,xpc,xD,xdc,xL,xlc,xM,xmc,xF,xfc,xfl⟩:=x
 have hfr:Rd w 4 xF xfl.length (frs xfl):=h.frames
 have hm2:xfl.length≤1000000:=hm
 obtain ⟨m,hmm⟩:∃m,xfl.length=m:=⟨_,rfl⟩
 have HMM:=Lh hmm
 have hm6:m≤1000000:=by omega
 have HFR:=Lh hfr
 have HB1:Hid (Below w.heap.size w ((w.alloc (.cells #[.int .i64 t.who,.int .i64 t.snap,.int .i64 t.pc,.slice xR t.regs.length xrc,.slice xP t.path.length xpc,.slice xD t.reads.length xdc,.slice xL t.log.list.length xlc,.slice xM t.log.marks.length xmc,.slice xF xfl.length xfc,.int .i64 t.kind,.int .i64 t.why] 34)).alloc (.cells z11 41))):=Lh (bl_alloc (bl_alloc (Below.refl _ _) _) _)
 have HK1:Hid (Blk ((w.alloc (.cells #[.int .i64 t.who,.int .i64 t.snap,.int .i64 t.pc,.slice xR t.regs.length xrc,.slice xP t.path.length xpc,.slice xD t.reads.length xdc,.slice xL t.log.list.length xlc,.slice xM t.log.marks.length xmc,.slice xF xfl.length xfc,.int .i64 t.kind,.int .i64 t.why] 34)).alloc (.cells z11 41)) w.heap.size 34 #[.int .i64 t.who,.int .i64 t.snap,.int .i64 t.pc,.slice xR t.regs.length xrc,.slice xP t.path.length xpc,.slice xD t.reads.length xdc,.slice xL t.log.list.length xlc,.slice xM t.log.marks.length xmc,.slice xF xfl.length xfc,.int .i64 t.kind,.int .i64 t.why]):=Lh ((Blk.new w _ _).alloc _)
 have HK2:Hid (Blk ((w.alloc (.cells #[.int .i64 t.who,.int .i64 t.snap,.int .i64 t.pc,.slice xR t.regs.length xrc,.slice xP t.path.length xpc,.slice xD t.reads.length xdc,.slice xL t.log.list.length xlc,.slice xM t.log.marks.length xmc,.slice xF xfl.length xfc,.int .i64 t.kind,.int .i64 t.why] 34)).alloc (.cells z11 41)) (w.heap.size+1) 41 z11):=Lh (by have:=Blk.new (w.alloc (.cells #[.int .i64 t.who,.int .i64 t.snap,.int .i64 t.pc,.slice xR t.regs.length xrc,.slice xP t.path.length xpc,.slice xD t.reads.length xdc,.slice xL t.log.list.length xlc,.slice xM t.log.marks.length xmc,.slice xF xfl.length xfc,.int .i64 t.kind,.int .i64 t.why] 34)) 41 z11;simpa using this)
 have HSZ:Hid (((w.alloc (.cells #[.int .i64 t.who,.int .i64 t.snap,.int .i64 t.pc,.slice xR t.regs.length xrc,.slice xP t.path.length xpc,.slice xD t.reads.length xdc,.slice xL t.log.list.length xlc,.slice xM t.log.marks.length xmc,.slice xF xfl.length xfc,.int .i64 t.kind,.int .i64 t.why] 34)).alloc (.cells z11 41)).heap.size=w.heap.size+2):=Lh (by simp)
 clear h hm hPQ hfr hmm
 show Calls Tryz.prog 17 #[.agg #[.int .i64 t.who,.int .i64 t.snap,.int .i64 t.pc,.slice xR t.regs.length xrc,.slice xP t.path.length xpc,.slice xD t.reads.length xdc,.slice xL t.log.list.length xlc,.slice xM t.log.marks.length xmc,.slice xF xfl.length xfc,.int .i64 t.kind,.int .i64 t.why]] w PQ
 go_enter Tryz.func17,Tryz.ntmps17
 go_wp2_with fail
 generalize ((w.alloc (.cells #[.int .i64 t.who,.int .i64 t.snap,.int .i64 t.pc,.slice xR t.regs.length xrc,.slice xP t.path.length xpc,.slice xD t.reads.length xdc,.slice xL t.log.list.length xlc,.slice xM t.log.marks.length xmc,.slice xF xfl.length xfc,.int .i64 t.kind,.int .i64 t.why] 34)).alloc (.cells z11 41))=W1 at *
 have HKa:=Lh (HK1.out.below (Below.refl _ _).drew)
 have HRa:=Lh (HK2.out.below (Below.refl _ _).drew)
 have HBa:=Lh HB1.out.drew
 have HSZa:Hid (W1.drew.heap.size=w.heap.size+2):=HSZ
 have f0:(fun (W:World)=>W.cell? ⟨w.heap.size,0,none⟩=some (.int .i64 t.who)∧W.cell? ⟨w.heap.size,1,none⟩=some (.int .i64 t.snap)∧W.cell? ⟨w.heap.size,2,none⟩=some (.int .i64 t.pc)∧W.cell? ⟨w.heap.size,3,none⟩=some (.slice xR t.regs.length xrc)∧W.cell? ⟨w.heap.size,4,none⟩=some (.slice xP t.path.length xpc)∧W.cell? ⟨w.heap.size,5,none⟩=some (.slice xD t.reads.length xdc)∧W.cell? ⟨w.heap.size,6,none⟩=some (.slice xL t.log.list.length xlc)∧W.cell? ⟨w.heap.size,7,none⟩=some (.slice xM t.log.marks.length xmc)∧W.cell? ⟨w.heap.size,9,none⟩=some (.int .i64 t.kind)∧W.cell? ⟨w.heap.size,10,none⟩=some (.int .i64 t.why)) W1.drew:=⟨HKa.out.cell 0 _ rfl,HKa.out.cell 1 _ rfl,HKa.out.cell 2 _ rfl,HKa.out.cell 3 _ rfl,HKa.out.cell 4 _ rfl,HKa.out.cell 5 _ rfl,HKa.out.cell 6 _ rfl,HKa.out.cell 7 _ rfl,HKa.out.cell 9 _ rfl,HKa.out.cell 10 _ rfl⟩
 refine wp_region_held_drew (S:=fun (W:World)=>W.cell? ⟨w.heap.size,0,none⟩=some (.int .i64 t.who)∧W.cell? ⟨w.heap.size,1,none⟩=some (.int .i64 t.snap)∧W.cell? ⟨w.heap.size,2,none⟩=some (.int .i64 t.pc)∧W.cell? ⟨w.heap.size,3,none⟩=some (.slice xR t.regs.length xrc)∧W.cell? ⟨w.heap.size,4,none⟩=some (.slice xP t.path.length xpc)∧W.cell? ⟨w.heap.size,5,none⟩=some (.slice xD t.reads.length xdc)∧W.cell? ⟨w.heap.size,6,none⟩=some (.slice xL t.log.list.length xlc)∧W.cell? ⟨w.heap.size,7,none⟩=some (.slice xM t.log.marks.length xmc)∧W.cell? ⟨w.heap.size,9,none⟩=some (.int .i64 t.kind)∧W.cell? ⟨w.heap.size,10,none⟩=some (.int .i64 t.why)) (by kernel_rfl) f0 (fun hH0=>?_)
 clear f0
 generalize W1.drew=Wa at *
 refine tk 0 (.pointer (some ⟨w.heap.size,0,none⟩)) rfl hH0 ?_
 try go_simp
 refine tk 1 (.int .i64 t.who) rfl hH0 ?_ (hy:=Or.inl ⟨by rfl,fun W hS=>by obtain ⟨k0,k1,k2,k3,k4,k5,k6,k7,k9,k10⟩:=hS;go_simp⟩)
 try go_simp
 refine tk 2 (.pointer (some ⟨w.heap.size,1,none⟩)) rfl hH0 ?_
 try go_simp
 refine tk 3 (.int .i64 t.snap) rfl hH0 ?_ (hy:=Or.inl ⟨by rfl,fun W hS=>by obtain ⟨k0,k1,k2,k3,k4,k5,k6,k7,k9,k10⟩:=hS;go_simp⟩)
 try go_simp
 refine tk 4 (.pointer (some ⟨w.heap.size,2,none⟩)) rfl hH0 ?_
 try go_simp
 refine tk 5 (.int .i64 t.pc) rfl hH0 ?_ (hy:=Or.inl ⟨by rfl,fun W hS=>by obtain ⟨k0,k1,k2,k3,k4,k5,k6,k7,k9,k10⟩:=hS;go_simp⟩)
 try go_simp
 refine tk 6 (.pointer (some ⟨w.heap.size,3,none⟩)) rfl hH0 ?_
 try go_simp
 refine tk 7 (.slice xR t.regs.length xrc) rfl hH0 ?_ (hy:=Or.inl ⟨by rfl,fun W hS=>by obtain ⟨k0,k1,k2,k3,k4,k5,k6,k7,k9,k10⟩:=hS;go_simp⟩)
 try go_simp
 refine tk 8 (.pointer (some ⟨w.heap.size,4,none⟩)) rfl hH0 ?_
 try go_simp
 refine tk 9 (.slice xP t.path.length xpc) rfl hH0 ?_ (hy:=Or.inl ⟨by rfl,fun W hS=>by obtain ⟨k0,k1,k2,k3,k4,k5,k6,k7,k9,k10⟩:=hS;go_simp⟩)
 try go_simp
 refine tk 10 (.pointer (some ⟨w.heap.size,5,none⟩)) rfl hH0 ?_
 try go_simp
 refine tk 11 (.slice xD t.reads.length xdc) rfl hH0 ?_ (hy:=Or.inl ⟨by rfl,fun W hS=>by obtain ⟨k0,k1,k2,k3,k4,k5,k6,k7,k9,k10⟩:=hS;go_simp⟩)
 try go_simp
 refine tk 12 (.pointer (some ⟨w.heap.size,6,none⟩)) rfl hH0 ?_
 try go_simp
 refine tk 13 (.agg #[.slice xL t.log.list.length xlc,.slice xM t.log.marks.length xmc]) rfl hH0 ?_ (hy:=Or.inl ⟨by rfl,fun W hS=>by obtain ⟨k0,k1,k2,k3,k4,k5,k6,k7,k9,k10⟩:=hS;go_simp⟩)
 try go_simp
 refine tk 15 (.pointer (some ⟨w.heap.size,9,none⟩)) rfl hH0 ?_
 try go_simp
 refine tk 16 (.int .i64 t.kind) rfl hH0 ?_ (hy:=Or.inl ⟨by rfl,fun W hS=>by obtain ⟨k0,k1,k2,k3,k4,k5,k6,k7,k9,k10⟩:=hS;go_simp⟩)
 try go_simp
 refine tk 17 (.pointer (some ⟨w.heap.size,10,none⟩)) rfl hH0 ?_
 try go_simp
 refine tk 18 (.int .i64 t.why) rfl hH0 ?_ (hy:=Or.inl ⟨by rfl,fun W hS=>by obtain ⟨k0,k1,k2,k3,k4,k5,k6,k7,k9,k10⟩:=hS;go_simp⟩)
 try go_simp
 refine wpAnyH_ready (rs:= [14,20]) (by kernel_rfl) (by simp) ?_
 refine AllReadyH.cons rfl (fun KK hK=>?_) (AllReadyH.cons rfl (fun KK hK=>?_) AllReadyH.nil)
 ·refine calls_step2 (by rfl) 59 #[.agg #[.slice xL t.log.list.length xlc,.slice xM t.log.marks.length xmc]] _ (Writes.ref_c _ _ _ _ _ _ Wa) ?_ ?_
  ·focus (go_simp;done)
  rintro e Wc ⟨rfl,b_⟩
  refine ⟨_,rfl,?_⟩
  have HKc:=Lh (HKa.out.below b_)
  have HRc:=Lh (HRa.out.below b_)
  have HBc:=Lh (bl_trans HBa.out b_)
  have NWc:Hid (w.heap.size+2≤Wc.heap.size):=Lh (by have h1:=b_.size;have h2:=HSZa.out;omega)
  clear b_
  have f1:(fun (W:World)=>W.cell? ⟨w.heap.size,0,none⟩=some (.int .i64 t.who)∧W.cell? ⟨w.heap.size,1,none⟩=some (.int .i64 t.snap)∧W.cell? ⟨w.heap.size,2,none⟩=some (.int .i64 t.pc)∧W.cell? ⟨w.heap.size,3,none⟩=some (.slice xR t.regs.length xrc)∧W.cell? ⟨w.heap.size,4,none⟩=some (.slice xP t.path.length xpc)∧W.cell? ⟨w.heap.size,5,none⟩=some (.slice xD t.reads.length xdc)∧W.cell? ⟨w.heap.size,6,none⟩=some (.slice xL t.log.list.length xlc)∧W.cell? ⟨w.heap.size,7,none⟩=some (.slice xM t.log.marks.length xmc)∧W.cell? ⟨w.heap.size,9,none⟩=some (.int .i64 t.kind)∧W.cell? ⟨w.heap.size,10,none⟩=some (.int .i64 t.why)) Wc:=⟨HKc.out.cell 0 _ rfl,HKc.out.cell 1 _ rfl,HKc.out.cell 2 _ rfl,HKc.out.cell 3 _ rfl,HKc.out.cell 4 _ rfl,HKc.out.cell 5 _ rfl,HKc.out.cell 6 _ rfl,HKc.out.cell 7 _ rfl,HKc.out.cell 9 _ rfl,HKc.out.cell 10 _ rfl⟩
  refine hK.out _ _ f1 (fun hH1=>?_)
  try go_simp
  clear hK KK
  refine tk 19 (.agg #[.int .i64 t.who,.int .i64 t.snap,.int .i64 t.pc,.slice xR t.regs.length xrc,.slice xP t.path.length xpc,.slice xD t.reads.length xdc,.slice xL t.log.list.length xlc,.slice xM t.log.marks.length xmc,.slice none 0 0,.int .i64 t.kind,.int .i64 t.why]) rfl hH1 ?_
  try go_simp
  refine rdy 20 rfl (fun KK hK=>?_)
  go_simp
  have f2:(fun (W:World)=>W.cell? ⟨w.heap.size,0,none⟩=some (.int .i64 t.who)∧W.cell? ⟨w.heap.size,1,none⟩=some (.int .i64 t.snap)∧W.cell? ⟨w.heap.size,2,none⟩=some (.int .i64 t.pc)∧W.cell? ⟨w.heap.size,3,none⟩=some (.slice xR t.regs.length xrc)∧W.cell? ⟨w.heap.size,4,none⟩=some (.slice xP t.path.length xpc)∧W.cell? ⟨w.heap.size,5,none⟩=some (.slice xD t.reads.length xdc)∧W.cell? ⟨w.heap.size,6,none⟩=some (.slice xL t.log.list.length xlc)∧W.cell? ⟨w.heap.size,7,none⟩=some (.slice xM t.log.marks.length xmc)∧W.cell? ⟨w.heap.size,9,none⟩=some (.int .i64 t.kind)∧W.cell? ⟨w.heap.size,10,none⟩=some (.int .i64 t.why)) (Wc.alloc (.cells z11 41)):=⟨(HKc.out.alloc (.cells z11 41)).cell 0 _ rfl,(HKc.out.alloc (.cells z11 41)).cell 1 _ rfl,(HKc.out.alloc (.cells z11 41)).cell 2 _ rfl,(HKc.out.alloc (.cells z11 41)).cell 3 _ rfl,(HKc.out.alloc (.cells z11 41)).cell 4 _ rfl,(HKc.out.alloc (.cells z11 41)).cell 5 _ rfl,(HKc.out.alloc (.cells z11 41)).cell 6 _ rfl,(HKc.out.alloc (.cells z11 41)).cell 7 _ rfl,(HKc.out.alloc (.cells z11 41)).cell 9 _ rfl,(HKc.out.alloc (.cells z11 41)).cell 10 _ rfl⟩
  refine hK.out _ _ f2 (fun hH2=>?_)
  try go_simp
  clear hK KK
  have HZ:Hid (Blk (Wc.alloc (.cells z11 41)) Wc.heap.size 41 z11):=Lh (Blk.new _ _ _)
  replace HKc:=Lh (HKc.out.alloc (.cells z11 41))
  replace HRc:=Lh (HRc.out.alloc (.cells z11 41))
  replace HBc:=Lh (bl_alloc HBc.out (.cells z11 41))
  have NWG0:Hid (w.heap.size+2≤Wc.heap.size):=NWc
  generalize (Wc.alloc (.cells z11 41))=Wd at *
  generalize Wc.heap.size=g3 at *
  have z0:=HZ.out.cell 0 _ rfl
  have z1:=HZ.out.cell 1 _ rfl
  have z2:=HZ.out.cell 2 _ rfl
  have z3:=HZ.out.cell 3 _ rfl
  have z4:=HZ.out.cell 4 _ rfl
  have z5:=HZ.out.cell 5 _ rfl
  have z6:=HZ.out.cell 6 _ rfl
  have z7:=HZ.out.cell 7 _ rfl
  have z8:=HZ.out.cell 8 _ rfl
  have z9:=HZ.out.cell 9 _ rfl
  have z10:=HZ.out.cell 10 _ rfl
  have zf0:=HZ.out.frozen 0
  have zf1:=HZ.out.frozen 1
  have zf2:=HZ.out.frozen 2
  have zf3:=HZ.out.frozen 3
  have zf4:=HZ.out.frozen 4
  have zf5:=HZ.out.frozen 5
  have zf6:=HZ.out.frozen 6
  have zf7:=HZ.out.frozen 7
  have zf8:=HZ.out.frozen 8
  have zf9:=HZ.out.frozen 9
  have zf10:=HZ.out.frozen 10
  have hge:=NWG0.out
  have HOq:Hid (Blk (((((((((((Wd.setCell ⟨g3,0,none⟩ (.int .i64 t.who)).setCell ⟨g3,1,none⟩ (.int .i64 t.snap)).setCell ⟨g3,2,none⟩ (.int .i64 t.pc)).setCell ⟨g3,3,none⟩ (.slice xR t.regs.length xrc)).setCell ⟨g3,4,none⟩ (.slice xP t.path.length xpc)).setCell ⟨g3,5,none⟩ (.slice xD t.reads.length xdc)).setCell ⟨g3,6,none⟩ (.slice xL t.log.list.length xlc)).setCell ⟨g3,7,none⟩ (.slice xM t.log.marks.length xmc)).setCell ⟨g3,8,none⟩ (.slice none 0 0)).setCell ⟨g3,9,none⟩ (.int .i64 t.kind)).setCell ⟨g3,10,none⟩ (.int .i64 t.why)) g3 41 #[.int .i64 t.who,.int .i64 t.snap,.int .i64 t.pc,.slice xR t.regs.length xrc,.slice xP t.path.length xpc,.slice xD t.reads.length xdc,.slice xL t.log.list.length xlc,.slice xM t.log.marks.length xmc,.slice none 0 0,.int .i64 t.kind,.int .i64 t.why]):=Lh (fill_blk HZ.out)
  have HOnq:=fill_only Wd g3 (.int .i64 t.who) (.int .i64 t.snap) (.int .i64 t.pc) (.slice xR t.regs.length xrc) (.slice xP t.path.length xpc) (.slice xD t.reads.length xdc) (.slice xL t.log.list.length xlc) (.slice xM t.log.marks.length xmc) (.slice none 0 0) (.int .i64 t.kind) (.int .i64 t.why)
  have HKq:=Lh (HOnq.blk HKc.out (by omega))
  have HRq:=Lh (HOnq.blk HRc.out (by omega))
  have HBq:Hid (Below w.heap.size w (((((((((((Wd.setCell ⟨g3,0,none⟩ (.int .i64 t.who)).setCell ⟨g3,1,none⟩ (.int .i64 t.snap)).setCell ⟨g3,2,none⟩ (.int .i64 t.pc)).setCell ⟨g3,3,none⟩ (.slice xR t.regs.length xrc)).setCell ⟨g3,4,none⟩ (.slice xP t.path.length xpc)).setCell ⟨g3,5,none⟩ (.slice xD t.reads.length xdc)).setCell ⟨g3,6,none⟩ (.slice xL t.log.list.length xlc)).setCell ⟨g3,7,none⟩ (.slice xM t.log.marks.length xmc)).setCell ⟨g3,8,none⟩ (.slice none 0 0)).setCell ⟨g3,9,none⟩ (.int .i64 t.kind)).setCell ⟨g3,10,none⟩ (.int .i64 t.why))):=Lh (HBc.out.trans (HOnq.below HBc.out.size (fun k hk e=>by omega)))
  have f3:(fun (W:World)=>W.cell? ⟨w.heap.size,0,none⟩=some (.int .i64 t.who)∧W.cell? ⟨w.heap.size,1,none⟩=some (.int .i64 t.snap)∧W.cell? ⟨w.heap.size,2,none⟩=some (.int .i64 t.pc)∧W.cell? ⟨w.heap.size,3,none⟩=some (.slice xR t.regs.length xrc)∧W.cell? ⟨w.heap.size,4,none⟩=some (.slice xP t.path.length xpc)∧W.cell? ⟨w.heap.size,5,none⟩=some (.slice xD t.reads.length xdc)∧W.cell? ⟨w.heap.size,6,none⟩=some (.slice xL t.log.list.length xlc)∧W.cell? ⟨w.heap.size,7,none⟩=some (.slice xM t.log.marks.length xmc)∧W.cell? ⟨w.heap.size,9,none⟩=some (.int .i64 t.kind)∧W.cell? ⟨w.heap.size,10,none⟩=some (.int .i64 t.why)) (((((((((((Wd.setCell ⟨g3,0,none⟩ (.int .i64 t.who)).setCell ⟨g3,1,none⟩ (.int .i64 t.snap)).setCell ⟨g3,2,none⟩ (.int .i64 t.pc)).setCell ⟨g3,3,none⟩ (.slice xR t.regs.length xrc)).setCell ⟨g3,4,none⟩ (.slice xP t.path.length xpc)).setCell ⟨g3,5,none⟩ (.slice xD t.reads.length xdc)).setCell ⟨g3,6,none⟩ (.slice xL t.log.list.length xlc)).setCell ⟨g3,7,none⟩ (.slice xM t.log.marks.length xmc)).setCell ⟨g3,8,none⟩ (.slice none 0 0)).setCell ⟨g3,9,none⟩ (.int .i64 t.kind)).setCell ⟨g3,10,none⟩ (.int .i64 t.why)):=⟨HKq.out.cell 0 _ rfl,HKq.out.cell 1 _ rfl,HKq.out.cell 2 _ rfl,HKq.out.cell 3 _ rfl,HKq.out.cell 4 _ rfl,HKq.out.cell 5 _ rfl,HKq.out.cell 6 _ rfl,HKq.out.cell 7 _ rfl,HKq.out.cell 9 _ rfl,HKq.out.cell 10 _ rfl⟩
  refine rdy 21 rfl (fun KK hK=>?_)
  go_simp
  refine hK.out _ _ f3 (fun _=>?_)
  clear hK KK
  refine wpAnyH_done (by kernel_rfl) ?_ _
  clear z0 zf0 z1 zf1 z2 zf2 z3 zf3 z4 zf4 z5 zf5 z6 zf6 z7 zf7 z8 zf8 z9 zf9 z10 zf10 f3 HOnq
  generalize (((((((((((Wd.setCell ⟨g3,0,none⟩ (.int .i64 t.who)).setCell ⟨g3,1,none⟩ (.int .i64 t.snap)).setCell ⟨g3,2,none⟩ (.int .i64 t.pc)).setCell ⟨g3,3,none⟩ (.slice xR t.regs.length xrc)).setCell ⟨g3,4,none⟩ (.slice xP t.path.length xpc)).setCell ⟨g3,5,none⟩ (.slice xD t.reads.length xdc)).setCell ⟨g3,6,none⟩ (.slice xL t.log.list.length xlc)).setCell ⟨g3,7,none⟩ (.slice xM t.log.marks.length xmc)).setCell ⟨g3,8,none⟩ (.slice none 0 0)).setCell ⟨g3,9,none⟩ (.int .i64 t.kind)).setCell ⟨g3,10,none⟩ (.int .i64 t.why))=Wq at *
  have NWG:Hid (w.heap.size≤g3):=Lh (by omega)
  have NKG:Hid (¬w.heap.size=g3):=Lh (by omega)
  have NRG:Hid (¬w.heap.size+1=g3):=Lh (by omega)
  have c8:=HKq.out.cell 8 _ rfl
  rw[HMM.out]at c8
  go_wp2_with fail
  clear c8
  go_loopw [29] (fun i wr=>∃(k:Nat) (F:Option Addr) (fc:Nat),k≤m∧i=.int .i64 k∧Hid (Blk wr g3 41 #[.int .i64 t.who,.int .i64 t.snap,.int .i64 t.pc,.slice xR t.regs.length xrc,.slice xP t.path.length xpc,.slice xD t.reads.length xdc,.slice xL t.log.list.length xlc,.slice xM t.log.marks.length xmc,.slice F k fc,.int .i64 t.kind,.int .i64 t.why])∧Hid (Own w wr 132 4 (.slice F k fc) k (frs (xfl.take k)))∧Hid ((Value.slice F k fc).ownBlock≠some g3)∧Hid ((Value.slice F k fc).ownBlock≠some (w.heap.size+1))∧Hid (Below w.heap.size w wr)∧Hid (Blk wr (w.heap.size+1) 41 z11)) (fun i _=>m - (intOf i).toNat)
  case atStart=>exact ⟨0,none,0,Nat.zero_le _,rfl,HOq,Lh (Own.nil_ HBq.out),Lh (fun e=>by cases e),Lh (fun e=>by cases e),HBq,HRq⟩
  case round=>
   obtain ⟨k,F,fc,hk,rfl,HB8,HOw,HN3,HN2,bb,HR8⟩:=hrel
   generalize wr=wa at *
   by_cases hlt:k<m
   ·obtain ⟨b,off,r,hFF,hr,q0,q1,q2,q3⟩:=at_frame (HFR.out.below bb.out) k (by rw[HMM.out];exact hlt)
    subst hFF
    have HT:Hid (frs (xfl.take k)++frc r=frs (xfl.take (k+1))):=Lh (by unfold frs;rw[flat_take xfl k r hr])
    clear hr
    have k8:=(HB8.out.alloc (.cells #[.int .i64 r.f.mid,.int .i64 r.f.fin,.int .i64 r.f.long,.slice r.A r.f.regs.length r.c] 134)).cell 8 _ rfl
    go_wp2_with (at_builtin;refine append_moved rfl _ _ 39 rfl tFrameR w (.slice F k fc) k (frs (xfl.take k)) rfl ((HOw.out.alloc _).alloc _) _ 1 1 (frc r) rfl (Rd.builtAt _ 4 1 (frc r) _ rfl (by simp)) (frc_one r) (by omega) (by omega) (by decide) ?_;intro v' w' hown' hmv;obtain ⟨F2,fc2,rfl,-,-⟩:=own_room hown';have HMV:=Lh hmv;have HB9:=Lh (hmv.blk ((HB8.out.alloc _).alloc _) HN3.out);have HR9:=Lh (hmv.blk ((HR8.out.alloc _).alloc _) HN2.out);have HNV3:Hid ((Value.slice F2 (k+1) fc2).ownBlock≠some g3):=Lh (hmv.ne ((HB8.out.alloc _).alloc _).lt HN3.out);have HNV2:Hid ((Value.slice F2 (k+1) fc2).ownBlock≠some (w.heap.size+1)):=Lh (hmv.ne ((HR8.out.alloc _).alloc _).lt HN2.out);have HOV:=Lh hown';have y8:=HB9.out.cell 8 _ rfl;have yf:=HB9.out.frozen 8;clear hown' hmv)
    clear y8 yf k8
    go_roundw
    case rel=>exact ⟨k+1,F2,fc2,by omega,by go_num,Lh (HB9.out.set_ 8 (.slice F2 (k+1) fc2)),Lh (by rw[←HT.out];exact HOV.out.set_ne (g:=g3) NWG.out HNV3.out 8 _),HNV3,HNV2,Lh (bl_set HOV.out.2 (p:=⟨g3,8,none⟩) NWG.out _),Lh ((Only.set_ (S:=fun k=>k=g3) (w:=w') g3 8 (.slice F2 (k+1) fc2) rfl).blk HR9.out NRG.out)⟩
    case measure=>simp[intOf];omega
   ·have hkm:k=m:=by omega
    rw[hkm,List.take_of_length_le (by rw[HMM.out];exact Nat.le_refl _)] at HOw
    rw[hkm] at HB8 HN3 HN2
    have d0:=HB8.out.cell 0 _ rfl
    have d1:=HB8.out.cell 1 _ rfl
    have d2:=HB8.out.cell 2 _ rfl
    have d3:=HB8.out.cell 3 _ rfl
    have d4:=HB8.out.cell 4 _ rfl
    have d5:=HB8.out.cell 5 _ rfl
    have d6:=HB8.out.cell 6 _ rfl
    have d7:=HB8.out.cell 7 _ rfl
    have d8:=HB8.out.cell 8 _ rfl
    have d9:=HB8.out.cell 9 _ rfl
    have d10:=HB8.out.cell 10 _ rfl
    have b0:=HR8.out.cell 0 _ rfl
    have b1:=HR8.out.cell 1 _ rfl
    have b2:=HR8.out.cell 2 _ rfl
    have b3:=HR8.out.cell 3 _ rfl
    have b4:=HR8.out.cell 4 _ rfl
    have b5:=HR8.out.cell 5 _ rfl
    have b6:=HR8.out.cell 6 _ rfl
    have b7:=HR8.out.cell 7 _ rfl
    have b8:=HR8.out.cell 8 _ rfl
    have b9:=HR8.out.cell 9 _ rfl
    have b10:=HR8.out.cell 10 _ rfl
    have bf0:=HR8.out.frozen 0
    have bf1:=HR8.out.frozen 1
    have bf2:=HR8.out.frozen 2
    have bf3:=HR8.out.frozen 3
    have bf4:=HR8.out.frozen 4
    have bf5:=HR8.out.frozen 5
    have bf6:=HR8.out.frozen 6
    have bf7:=HR8.out.frozen 7
    have bf8:=HR8.out.frozen 8
    have bf9:=HR8.out.frozen 9
    have bf10:=HR8.out.frozen 10
    go_wp2_with fail
    have HE:Hid (Blk (((((((((((wa.setCell ⟨w.heap.size+1,0,none⟩ (.int .i64 t.who)).setCell ⟨w.heap.size+1,1,none⟩ (.int .i64 t.snap)).setCell ⟨w.heap.size+1,2,none⟩ (.int .i64 t.pc)).setCell ⟨w.heap.size+1,3,none⟩ (.slice xR t.regs.length xrc)).setCell ⟨w.heap.size+1,4,none⟩ (.slice xP t.path.length xpc)).setCell ⟨w.heap.size+1,5,none⟩ (.slice xD t.reads.length xdc)).setCell ⟨w.heap.size+1,6,none⟩ (.slice xL t.log.list.length xlc)).setCell ⟨w.heap.size+1,7,none⟩ (.slice xM t.log.marks.length xmc)).setCell ⟨w.heap.size+1,8,none⟩ (.slice F m fc)).setCell ⟨w.heap.size+1,9,none⟩ (.int .i64 t.kind)).setCell ⟨w.heap.size+1,10,none⟩ (.int .i64 t.why)) (w.heap.size+1) 41 #[.int .i64 t.who,.int .i64 t.snap,.int .i64 t.pc,.slice xR t.regs.length xrc,.slice xP t.path.length xpc,.slice xD t.reads.length xdc,.slice xL t.log.list.length xlc,.slice xM t.log.marks.length xmc,.slice F m fc,.int .i64 t.kind,.int .i64 t.why]):=Lh (fill_blk HR8.out)
    have HOn:Hid (Only (fun k=>k=w.heap.size+1) wa (((((((((((wa.setCell ⟨w.heap.size+1,0,none⟩ (.int .i64 t.who)).setCell ⟨w.heap.size+1,1,none⟩ (.int .i64 t.snap)).setCell ⟨w.heap.size+1,2,none⟩ (.int .i64 t.pc)).setCell ⟨w.heap.size+1,3,none⟩ (.slice xR t.regs.length xrc)).setCell ⟨w.heap.size+1,4,none⟩ (.slice xP t.path.length xpc)).setCell ⟨w.heap.size+1,5,none⟩ (.slice xD t.reads.length xdc)).setCell ⟨w.heap.size+1,6,none⟩ (.slice xL t.log.list.length xlc)).setCell ⟨w.heap.size+1,7,none⟩ (.slice xM t.log.marks.length xmc)).setCell ⟨w.heap.size+1,8,none⟩ (.slice F m fc)).setCell ⟨w.heap.size+1,9,none⟩ (.int .i64 t.kind)).setCell ⟨w.heap.size+1,10,none⟩ (.int .i64 t.why))):=Lh (fill_only wa (w.heap.size+1) _ _ _ _ _ _ _ _ _ _ _)
    clear d0 b0 bf0 d1 b1 bf1 d2 b2 bf2 d3 b3 bf3 d4 b4 bf4 d5 b5 bf5 d6 b6 bf6 d7 b7 bf7 d8 b8 bf8 d9 b9 bf9 d10 b10 bf10
    generalize (((((((((((wa.setCell ⟨w.heap.size+1,0,none⟩ (.int .i64 t.who)).setCell ⟨w.heap.size+1,1,none⟩ (.int .i64 t.snap)).setCell ⟨w.heap.size+1,2,none⟩ (.int .i64 t.pc)).setCell ⟨w.heap.size+1,3,none⟩ (.slice xR t.regs.length xrc)).setCell ⟨w.heap.size+1,4,none⟩ (.slice xP t.path.length xpc)).setCell ⟨w.heap.size+1,5,none⟩ (.slice xD t.reads.length xdc)).setCell ⟨w.heap.size+1,6,none⟩ (.slice xL t.log.list.length xlc)).setCell ⟨w.heap.size+1,7,none⟩ (.slice xM t.log.marks.length xmc)).setCell ⟨w.heap.size+1,8,none⟩ (.slice F m fc)).setCell ⟨w.heap.size+1,9,none⟩ (.int .i64 t.kind)).setCell ⟨w.heap.size+1,10,none⟩ (.int .i64 t.why))=wE at *
    have r0:=HE.out.cell 0 _ rfl
    have r1:=HE.out.cell 1 _ rfl
    have r2:=HE.out.cell 2 _ rfl
    have r3:=HE.out.cell 3 _ rfl
    have r4:=HE.out.cell 4 _ rfl
    have r5:=HE.out.cell 5 _ rfl
    have r6:=HE.out.cell 6 _ rfl
    have r7:=HE.out.cell 7 _ rfl
    have r8:=HE.out.cell 8 _ rfl
    have r9:=HE.out.cell 9 _ rfl
    have r10:=HE.out.cell 10 _ rfl
    refine bodyPost_ret (v:=.agg #[.int .i64 t.who,.int .i64 t.snap,.int .i64 t.pc,.slice xR t.regs.length xrc,.slice xP t.path.length xpc,.slice xD t.reads.length xdc,.slice xL t.log.list.length xlc,.slice xM t.log.marks.length xmc,.slice F m fc,.int .i64 t.kind,.int .i64 t.why]) (by simp[results,Tryz.results17,go_sem,r0,r1,r2,r3,r4,r5,r6,r7,r8,r9,r10]) rfl ?_
    have hown:=Own.only1 HOw.out HOn.out (fun b hb e=>HN2.out (by rw[hb,e])) (fun b e=>by omega)
    have hbel:Below w.heap.size w wE:=bb.out.trans (HOn.out.below bb.out.size (fun k hk e=>by omega))
    rw[←HPQ.out]
    have hmx:=HMM.out
    subst hmx
    exact ⟨F,fc,rfl,hown,hbel⟩
 ·go_simp
  have f1:(fun (W:World)=>W.cell? ⟨w.heap.size,0,none⟩=some (.int .i64 t.who)∧W.cell? ⟨w.heap.size,1,none⟩=some (.int .i64 t.snap)∧W.cell? ⟨w.heap.size,2,none⟩=some (.int .i64 t.pc)∧W.cell? ⟨w.heap.size,3,none⟩=some (.slice xR t.regs.length xrc)∧W.cell? ⟨w.heap.size,4,none⟩=some (.slice xP t.path.length xpc)∧W.cell? ⟨w.heap.size,5,none⟩=some (.slice xD t.reads.length xdc)∧W.cell? ⟨w.heap.size,6,none⟩=some (.slice xL t.log.list.length xlc)∧W.cell? ⟨w.heap.size,7,none⟩=some (.slice xM t.log.marks.length xmc)∧W.cell? ⟨w.heap.size,9,none⟩=some (.int .i64 t.kind)∧W.cell? ⟨w.heap.size,10,none⟩=some (.int .i64 t.why)) (Wa.alloc (.cells z11 41)):=⟨(HKa.out.alloc (.cells z11 41)).cell 0 _ rfl,(HKa.out.alloc (.cells z11 41)).cell 1 _ rfl,(HKa.out.alloc (.cells z11 41)).cell 2 _ rfl,(HKa.out.alloc (.cells z11 41)).cell 3 _ rfl,(HKa.out.alloc (.cells z11 41)).cell 4 _ rfl,(HKa.out.alloc (.cells z11 41)).cell 5 _ rfl,(HKa.out.alloc (.cells z11 41)).cell 6 _ rfl,(HKa.out.alloc (.cells z11 41)).cell 7 _ rfl,(HKa.out.alloc (.cells z11 41)).cell 9 _ rfl,(HKa.out.alloc (.cells z11 41)).cell 10 _ rfl⟩
  refine hK.out _ _ f1 (fun hH1=>?_)
  try go_simp
  clear hK KK
  have HZb:Hid (Blk (Wa.alloc (.cells z11 41)) Wa.heap.size 41 z11):=Lh (Blk.new _ _ _)
  have HKb:=Lh (HKa.out.alloc (.cells z11 41))
  have HRb:=Lh (HRa.out.alloc (.cells z11 41))
  have HBb:=Lh (bl_alloc HBa.out (.cells z11 41))
  generalize (Wa.alloc (.cells z11 41))=Wb at *
  refine rdy 14 rfl (fun KK hK=>?_)
  refine calls_step2 (by rfl) 59 #[.agg #[.slice xL t.log.list.length xlc,.slice xM t.log.marks.length xmc]] _ (Writes.ref_c _ _ _ _ _ _ Wb) ?_ ?_
  ·focus (go_simp;done)
  rintro e Wc ⟨rfl,b_⟩
  refine ⟨_,rfl,?_⟩
  have HKc:=Lh (HKb.out.below b_)
  have HRc:=Lh (HRb.out.below b_)
  have HBc:=Lh (bl_trans HBb.out b_)
  have HZ:=Lh (HZb.out.below b_)
  have NWG0:Hid (w.heap.size+2≤Wa.heap.size):=Lh (by have:=HSZa.out;omega)
  clear b_
  have f2:(fun (W:World)=>W.cell? ⟨w.heap.size,0,none⟩=some (.int .i64 t.who)∧W.cell? ⟨w.heap.size,1,none⟩=some (.int .i64 t.snap)∧W.cell? ⟨w.heap.size,2,none⟩=some (.int .i64 t.pc)∧W.cell? ⟨w.heap.size,3,none⟩=some (.slice xR t.regs.length xrc)∧W.cell? ⟨w.heap.size,4,none⟩=some (.slice xP t.path.length xpc)∧W.cell? ⟨w.heap.size,5,none⟩=some (.slice xD t.reads.length xdc)∧W.cell? ⟨w.heap.size,6,none⟩=some (.slice xL t.log.list.length xlc)∧W.cell? ⟨w.heap.size,7,none⟩=some (.slice xM t.log.marks.length xmc)∧W.cell? ⟨w.heap.size,9,none⟩=some (.int .i64 t.kind)∧W.cell? ⟨w.heap.size,10,none⟩=some (.int .i64 t.why)) Wc:=⟨HKc.out.cell 0 _ rfl,HKc.out.cell 1 _ rfl,HKc.out.cell 2 _ rfl,HKc.out.cell 3 _ rfl,HKc.out.cell 4 _ rfl,HKc.out.cell 5 _ rfl,HKc.out.cell 6 _ rfl,HKc.out.cell 7 _ rfl,HKc.out.cell 9 _ rfl,HKc.out.cell 10 _ rfl⟩
  refine hK.out _ _ f2 (fun hH2=>?_)
  try go_simp
  clear hK KK
  refine tk 19 (.agg #[.int .i64 t.who,.int .i64 t.snap,.int .i64 t.pc,.slice xR t.regs.length xrc,.slice xP t.path.length xpc,.slice xD t.reads.length xdc,.slice xL t.log.list.length xlc,.slice xM t.log.marks.length xmc,.slice none 0 0,.int .i64 t.kind,.int .i64 t.why]) rfl hH2 ?_
  try go_simp
  generalize Wa.heap.size=g3 at *
  have z0:=HZ.out.cell 0 _ rfl
  have z1:=HZ.out.cell 1 _ rfl
  have z2:=HZ.out.cell 2 _ rfl
  have z3:=HZ.out.cell 3 _ rfl
  have z4:=HZ.out.cell 4 _ rfl
  have z5:=HZ.out.cell 5 _ rfl
  have z6:=HZ.out.cell 6 _ rfl
  have z7:=HZ.out.cell 7 _ rfl
  have z8:=HZ.out.cell 8 _ rfl
  have z9:=HZ.out.cell 9 _ rfl
  have z10:=HZ.out.cell 10 _ rfl
  have zf0:=HZ.out.frozen 0
  have zf1:=HZ.out.frozen 1
  have zf2:=HZ.out.frozen 2
  have zf3:=HZ.out.frozen 3
  have zf4:=HZ.out.frozen 4
  have zf5:=HZ.out.frozen 5
  have zf6:=HZ.out.frozen 6
  have zf7:=HZ.out.frozen 7
  have zf8:=HZ.out.frozen 8
  have zf9:=HZ.out.frozen 9
  have zf10:=HZ.out.frozen 10
  have hge:=NWG0.out
  have HOq:Hid (Blk (((((((((((Wc.setCell ⟨g3,0,none⟩ (.int .i64 t.who)).setCell ⟨g3,1,none⟩ (.int .i64 t.snap)).setCell ⟨g3,2,none⟩ (.int .i64 t.pc)).setCell ⟨g3,3,none⟩ (.slice xR t.regs.length xrc)).setCell ⟨g3,4,none⟩ (.slice xP t.path.length xpc)).setCell ⟨g3,5,none⟩ (.slice xD t.reads.length xdc)).setCell ⟨g3,6,none⟩ (.slice xL t.log.list.length xlc)).setCell ⟨g3,7,none⟩ (.slice xM t.log.marks.length xmc)).setCell ⟨g3,8,none⟩ (.slice none 0 0)).setCell ⟨g3,9,none⟩ (.int .i64 t.kind)).setCell ⟨g3,10,none⟩ (.int .i64 t.why)) g3 41 #[.int .i64 t.who,.int .i64 t.snap,.int .i64 t.pc,.slice xR t.regs.length xrc,.slice xP t.path.length xpc,.slice xD t.reads.length xdc,.slice xL t.log.list.length xlc,.slice xM t.log.marks.length xmc,.slice none 0 0,.int .i64 t.kind,.int .i64 t.why]):=Lh (fill_blk HZ.out)
  have HOnq:=fill_only Wc g3 (.int .i64 t.who) (.int .i64 t.snap) (.int .i64 t.pc) (.slice xR t.regs.length xrc) (.slice xP t.path.length xpc) (.slice xD t.reads.length xdc) (.slice xL t.log.list.length xlc) (.slice xM t.log.marks.length xmc) (.slice none 0 0) (.int .i64 t.kind) (.int .i64 t.why)
  have HKq:=Lh (HOnq.blk HKc.out (by omega))
  have HRq:=Lh (HOnq.blk HRc.out (by omega))
  have HBq:Hid (Below w.heap.size w (((((((((((Wc.setCell ⟨g3,0,none⟩ (.int .i64 t.who)).setCell ⟨g3,1,none⟩ (.int .i64 t.snap)).setCell ⟨g3,2,none⟩ (.int .i64 t.pc)).setCell ⟨g3,3,none⟩ (.slice xR t.regs.length xrc)).setCell ⟨g3,4,none⟩ (.slice xP t.path.length xpc)).setCell ⟨g3,5,none⟩ (.slice xD t.reads.length xdc)).setCell ⟨g3,6,none⟩ (.slice xL t.log.list.length xlc)).setCell ⟨g3,7,none⟩ (.slice xM t.log.marks.length xmc)).setCell ⟨g3,8,none⟩ (.slice none 0 0)).setCell ⟨g3,9,none⟩ (.int .i64 t.kind)).setCell ⟨g3,10,none⟩ (.int .i64 t.why))):=Lh (HBc.out.trans (HOnq.below HBc.out.size (fun k hk e=>by omega)))
  have f3:(fun (W:World)=>W.cell? ⟨w.heap.size,0,none⟩=some (.int .i64 t.who)∧W.cell? ⟨w.heap.size,1,none⟩=some (.int .i64 t.snap)∧W.cell? ⟨w.heap.size,2,none⟩=some (.int .i64 t.pc)∧W.cell? ⟨w.heap.size,3,none⟩=some (.slice xR t.regs.length xrc)∧W.cell? ⟨w.heap.size,4,none⟩=some (.slice xP t.path.length xpc)∧W.cell? ⟨w.heap.size,5,none⟩=some (.slice xD t.reads.length xdc)∧W.cell? ⟨w.heap.size,6,none⟩=some (.slice xL t.log.list.length xlc)∧W.cell? ⟨w.heap.size,7,none⟩=some (.slice xM t.log.marks.length xmc)∧W.cell? ⟨w.heap.size,9,none⟩=some (.int .i64 t.kind)∧W.cell? ⟨w.heap.size,10,none⟩=some (.int .i64 t.why)) (((((((((((Wc.setCell ⟨g3,0,none⟩ (.int .i64 t.who)).setCell ⟨g3,1,none⟩ (.int .i64 t.snap)).setCell ⟨g3,2,none⟩ (.int .i64 t.pc)).setCell ⟨g3,3,none⟩ (.slice xR t.regs.length xrc)).setCell ⟨g3,4,none⟩ (.slice xP t.path.length xpc)).setCell ⟨g3,5,none⟩ (.slice xD t.reads.length xdc)).setCell ⟨g3,6,none⟩ (.slice xL t.log.list.length xlc)).setCell ⟨g3,7,none⟩ (.slice xM t.log.marks.length xmc)).setCell ⟨g3,8,none⟩ (.slice none 0 0)).setCell ⟨g3,9,none⟩ (.int .i64 t.kind)).setCell ⟨g3,10,none⟩ (.int .i64 t.why)):=⟨HKq.out.cell 0 _ rfl,HKq.out.cell 1 _ rfl,HKq.out.cell 2 _ rfl,HKq.out.cell 3 _ rfl,HKq.out.cell 4 _ rfl,HKq.out.cell 5 _ rfl,HKq.out.cell 6 _ rfl,HKq.out.cell 7 _ rfl,HKq.out.cell 9 _ rfl,HKq.out.cell 10 _ rfl⟩
  refine rdy 21 rfl (fun KK hK=>?_)
  go_simp
  refine hK.out _ _ f3 (fun _=>?_)
  clear hK KK
  refine wpAnyH_done (by kernel_rfl) ?_ _
  clear z0 zf0 z1 zf1 z2 zf2 z3 zf3 z4 zf4 z5 zf5 z6 zf6 z7 zf7 z8 zf8 z9 zf9 z10 zf10 f3 HOnq
  generalize (((((((((((Wc.setCell ⟨g3,0,none⟩ (.int .i64 t.who)).setCell ⟨g3,1,none⟩ (.int .i64 t.snap)).setCell ⟨g3,2,none⟩ (.int .i64 t.pc)).setCell ⟨g3,3,none⟩ (.slice xR t.regs.length xrc)).setCell ⟨g3,4,none⟩ (.slice xP t.path.length xpc)).setCell ⟨g3,5,none⟩ (.slice xD t.reads.length xdc)).setCell ⟨g3,6,none⟩ (.slice xL t.log.list.length xlc)).setCell ⟨g3,7,none⟩ (.slice xM t.log.marks.length xmc)).setCell ⟨g3,8,none⟩ (.slice none 0 0)).setCell ⟨g3,9,none⟩ (.int .i64 t.kind)).setCell ⟨g3,10,none⟩ (.int .i64 t.why))=Wq at *
  have NWG:Hid (w.heap.size≤g3):=Lh (by omega)
  have NKG:Hid (¬w.heap.size=g3):=Lh (by omega)
  have NRG:Hid (¬w.heap.size+1=g3):=Lh (by omega)
  have c8:=HKq.out.cell 8 _ rfl
  rw[HMM.out]at c8
  go_wp2_with fail
  clear c8
  go_loopw [29] (fun i wr=>∃(k:Nat) (F:Option Addr) (fc:Nat),k≤m∧i=.int .i64 k∧Hid (Blk wr g3 41 #[.int .i64 t.who,.int .i64 t.snap,.int .i64 t.pc,.slice xR t.regs.length xrc,.slice xP t.path.length xpc,.slice xD t.reads.length xdc,.slice xL t.log.list.length xlc,.slice xM t.log.marks.length xmc,.slice F k fc,.int .i64 t.kind,.int .i64 t.why])∧Hid (Own w wr 132 4 (.slice F k fc) k (frs (xfl.take k)))∧Hid ((Value.slice F k fc).ownBlock≠some g3)∧Hid ((Value.slice F k fc).ownBlock≠some (w.heap.size+1))∧Hid (Below w.heap.size w wr)∧Hid (Blk wr (w.heap.size+1) 41 z11)) (fun i _=>m - (intOf i).toNat)
  case atStart=>exact ⟨0,none,0,Nat.zero_le _,rfl,HOq,Lh (Own.nil_ HBq.out),Lh (fun e=>by cases e),Lh (fun e=>by cases e),HBq,HRq⟩
  case round=>
   obtain ⟨k,F,fc,hk,rfl,HB8,HOw,HN3,HN2,bb,HR8⟩:=hrel
   generalize wr=wa at *
   by_cases hlt:k<m
   ·obtain ⟨b,off,r,hFF,hr,q0,q1,q2,q3⟩:=at_frame (HFR.out.below bb.out) k (by rw[HMM.out];exact hlt)
    subst hFF
    have HT:Hid (frs (xfl.take k)++frc r=frs (xfl.take (k+1))):=Lh (by unfold frs;rw[flat_take xfl k r hr])
    clear hr
    have k8:=(HB8.out.alloc (.cells #[.int .i64 r.f.mid,.int .i64 r.f.fin,.int .i64 r.f.long,.slice r.A r.f.regs.length r.c] 134)).cell 8 _ rfl
    go_wp2_with (at_builtin;refine append_moved rfl _ _ 39 rfl tFrameR w (.slice F k fc) k (frs (xfl.take k)) rfl ((HOw.out.alloc _).alloc _) _ 1 1 (frc r) rfl (Rd.builtAt _ 4 1 (frc r) _ rfl (by simp)) (frc_one r) (by omega) (by omega) (by decide) ?_;intro v' w' hown' hmv;obtain ⟨F2,fc2,rfl,-,-⟩:=own_room hown';have HMV:=Lh hmv;have HB9:=Lh (hmv.blk ((HB8.out.alloc _).alloc _) HN3.out);have HR9:=Lh (hmv.blk ((HR8.out.alloc _).alloc _) HN2.out);have HNV3:Hid ((Value.slice F2 (k+1) fc2).ownBlock≠some g3):=Lh (hmv.ne ((HB8.out.alloc _).alloc _).lt HN3.out);have HNV2:Hid ((Value.slice F2 (k+1) fc2).ownBlock≠some (w.heap.size+1)):=Lh (hmv.ne ((HR8.out.alloc _).alloc _).lt HN2.out);have HOV:=Lh hown';have y8:=HB9.out.cell 8 _ rfl;have yf:=HB9.out.frozen 8;clear hown' hmv)
    clear y8 yf k8
    go_roundw
    case rel=>exact ⟨k+1,F2,fc2,by omega,by go_num,Lh (HB9.out.set_ 8 (.slice F2 (k+1) fc2)),Lh (by rw[←HT.out];exact HOV.out.set_ne (g:=g3) NWG.out HNV3.out 8 _),HNV3,HNV2,Lh (bl_set HOV.out.2 (p:=⟨g3,8,none⟩) NWG.out _),Lh ((Only.set_ (S:=fun k=>k=g3) (w:=w') g3 8 (.slice F2 (k+1) fc2) rfl).blk HR9.out NRG.out)⟩
    case measure=>simp[intOf];omega
   ·have hkm:k=m:=by omega
    rw[hkm,List.take_of_length_le (by rw[HMM.out];exact Nat.le_refl _)] at HOw
    rw[hkm] at HB8 HN3 HN2
    have d0:=HB8.out.cell 0 _ rfl
    have d1:=HB8.out.cell 1 _ rfl
    have d2:=HB8.out.cell 2 _ rfl
    have d3:=HB8.out.cell 3 _ rfl
    have d4:=HB8.out.cell 4 _ rfl
    have d5:=HB8.out.cell 5 _ rfl
    have d6:=HB8.out.cell 6 _ rfl
    have d7:=HB8.out.cell 7 _ rfl
    have d8:=HB8.out.cell 8 _ rfl
    have d9:=HB8.out.cell 9 _ rfl
    have d10:=HB8.out.cell 10 _ rfl
    have b0:=HR8.out.cell 0 _ rfl
    have b1:=HR8.out.cell 1 _ rfl
    have b2:=HR8.out.cell 2 _ rfl
    have b3:=HR8.out.cell 3 _ rfl
    have b4:=HR8.out.cell 4 _ rfl
    have b5:=HR8.out.cell 5 _ rfl
    have b6:=HR8.out.cell 6 _ rfl
    have b7:=HR8.out.cell 7 _ rfl
    have b8:=HR8.out.cell 8 _ rfl
    have b9:=HR8.out.cell 9 _ rfl
    have b10:=HR8.out.cell 10 _ rfl
    have bf0:=HR8.out.frozen 0
    have bf1:=HR8.out.frozen 1
    have bf2:=HR8.out.frozen 2
    have bf3:=HR8.out.frozen 3
    have bf4:=HR8.out.frozen 4
    have bf5:=HR8.out.frozen 5
    have bf6:=HR8.out.frozen 6
    have bf7:=HR8.out.frozen 7
    have bf8:=HR8.out.frozen 8
    have bf9:=HR8.out.frozen 9
    have bf10:=HR8.out.frozen 10
    go_wp2_with fail
    have HE:Hid (Blk (((((((((((wa.setCell ⟨w.heap.size+1,0,none⟩ (.int .i64 t.who)).setCell ⟨w.heap.size+1,1,none⟩ (.int .i64 t.snap)).setCell ⟨w.heap.size+1,2,none⟩ (.int .i64 t.pc)).setCell ⟨w.heap.size+1,3,none⟩ (.slice xR t.regs.length xrc)).setCell ⟨w.heap.size+1,4,none⟩ (.slice xP t.path.length xpc)).setCell ⟨w.heap.size+1,5,none⟩ (.slice xD t.reads.length xdc)).setCell ⟨w.heap.size+1,6,none⟩ (.slice xL t.log.list.length xlc)).setCell ⟨w.heap.size+1,7,none⟩ (.slice xM t.log.marks.length xmc)).setCell ⟨w.heap.size+1,8,none⟩ (.slice F m fc)).setCell ⟨w.heap.size+1,9,none⟩ (.int .i64 t.kind)).setCell ⟨w.heap.size+1,10,none⟩ (.int .i64 t.why)) (w.heap.size+1) 41 #[.int .i64 t.who,.int .i64 t.snap,.int .i64 t.pc,.slice xR t.regs.length xrc,.slice xP t.path.length xpc,.slice xD t.reads.length xdc,.slice xL t.log.list.length xlc,.slice xM t.log.marks.length xmc,.slice F m fc,.int .i64 t.kind,.int .i64 t.why]):=Lh (fill_blk HR8.out)
    have HOn:Hid (Only (fun k=>k=w.heap.size+1) wa (((((((((((wa.setCell ⟨w.heap.size+1,0,none⟩ (.int .i64 t.who)).setCell ⟨w.heap.size+1,1,none⟩ (.int .i64 t.snap)).setCell ⟨w.heap.size+1,2,none⟩ (.int .i64 t.pc)).setCell ⟨w.heap.size+1,3,none⟩ (.slice xR t.regs.length xrc)).setCell ⟨w.heap.size+1,4,none⟩ (.slice xP t.path.length xpc)).setCell ⟨w.heap.size+1,5,none⟩ (.slice xD t.reads.length xdc)).setCell ⟨w.heap.size+1,6,none⟩ (.slice xL t.log.list.length xlc)).setCell ⟨w.heap.size+1,7,none⟩ (.slice xM t.log.marks.length xmc)).setCell ⟨w.heap.size+1,8,none⟩ (.slice F m fc)).setCell ⟨w.heap.size+1,9,none⟩ (.int .i64 t.kind)).setCell ⟨w.heap.size+1,10,none⟩ (.int .i64 t.why))):=Lh (fill_only wa (w.heap.size+1) _ _ _ _ _ _ _ _ _ _ _)
    clear d0 b0 bf0 d1 b1 bf1 d2 b2 bf2 d3 b3 bf3 d4 b4 bf4 d5 b5 bf5 d6 b6 bf6 d7 b7 bf7 d8 b8 bf8 d9 b9 bf9 d10 b10 bf10
    generalize (((((((((((wa.setCell ⟨w.heap.size+1,0,none⟩ (.int .i64 t.who)).setCell ⟨w.heap.size+1,1,none⟩ (.int .i64 t.snap)).setCell ⟨w.heap.size+1,2,none⟩ (.int .i64 t.pc)).setCell ⟨w.heap.size+1,3,none⟩ (.slice xR t.regs.length xrc)).setCell ⟨w.heap.size+1,4,none⟩ (.slice xP t.path.length xpc)).setCell ⟨w.heap.size+1,5,none⟩ (.slice xD t.reads.length xdc)).setCell ⟨w.heap.size+1,6,none⟩ (.slice xL t.log.list.length xlc)).setCell ⟨w.heap.size+1,7,none⟩ (.slice xM t.log.marks.length xmc)).setCell ⟨w.heap.size+1,8,none⟩ (.slice F m fc)).setCell ⟨w.heap.size+1,9,none⟩ (.int .i64 t.kind)).setCell ⟨w.heap.size+1,10,none⟩ (.int .i64 t.why))=wE at *
    have r0:=HE.out.cell 0 _ rfl
    have r1:=HE.out.cell 1 _ rfl
    have r2:=HE.out.cell 2 _ rfl
    have r3:=HE.out.cell 3 _ rfl
    have r4:=HE.out.cell 4 _ rfl
    have r5:=HE.out.cell 5 _ rfl
    have r6:=HE.out.cell 6 _ rfl
    have r7:=HE.out.cell 7 _ rfl
    have r8:=HE.out.cell 8 _ rfl
    have r9:=HE.out.cell 9 _ rfl
    have r10:=HE.out.cell 10 _ rfl
    refine bodyPost_ret (v:=.agg #[.int .i64 t.who,.int .i64 t.snap,.int .i64 t.pc,.slice xR t.regs.length xrc,.slice xP t.path.length xpc,.slice xD t.reads.length xdc,.slice xL t.log.list.length xlc,.slice xM t.log.marks.length xmc,.slice F m fc,.int .i64 t.kind,.int .i64 t.why]) (by simp[results,Tryz.results17,go_sem,r0,r1,r2,r3,r4,r5,r6,r7,r8,r9,r10]) rfl ?_
    have hown:=Own.only1 HOw.out HOn.out (fun b hb e=>HN2.out (by rw[hb,e])) (fun b e=>by omega)
    have hbel:Below w.heap.size w wE:=bb.out.trans (HOn.out.below bb.out.size (fun k hk e=>by omega))
    rw[←HPQ.out]
    have hmx:=HMM.out
    subst hmx
    exact ⟨F,fc,rfl,hown,hbel⟩
theorem fill4_blk {w:World} {g:Nat} {ty:TypeId} {z0 z1 z2 z3 v0 v1 v2 v3:Value} (h:Blk w g ty #[z0,z1,z2,z3]):Blk ((((w.setCell ⟨g,0,none⟩ v0).setCell ⟨g,1,none⟩ v1).setCell ⟨g,2,none⟩ v2).setCell ⟨g,3,none⟩ v3) g ty #[v0,v1,v2,v3]:=by
 have:=(((h.set_ 0 v0).set_ 1 v1).set_ 2 v2).set_ 3 v3
 simpa using this
theorem fill4_only (w:World) (g:Nat) (v0 v1 v2 v3:Value):Only (fun k=>k=g) w ((((w.setCell ⟨g,0,none⟩ v0).setCell ⟨g,1,none⟩ v1).setCell ⟨g,2,none⟩ v2).setCell ⟨g,3,none⟩ v3):=
  ((((Only.refl (fun k=>k=g) w).put g 0 _ rfl).put g 1 _ rfl).put g 2 _ rfl).put g 3 _ rfl
set_option maxHeartbeats 4000000 in
theorem same11 (t:Try) (x y:TL) (w:World) (hx:TRd w t x) (hy:TRd w t y) (n1:t.regs.length≤1000000) (n2:t.path.length≤1000000) (n3:t.reads.length≤1000000) (n4:t.log.list.length≤1000000) (n5:t.log.marks.length≤1000000) (n6:x.fl.length≤1000000) (n7:∀f∈t.frames,f.regs.length≤1000000):
  Calls Tryz.prog 16 #[.agg (tvl t x).toArray,.agg (tvl t y).toArray] w (RetB w true):=by
 obtain ⟨xR,xrc,xP,xpc,xD,xdc,xL,xlc,xM,xmc,xF,xfc,xfl⟩:=x
 obtain ⟨yR,yrc,yP,ypc,yD,ydc,yL,ylc,yM,ymc,yF,yfc,yfl⟩:=y
 obtain ⟨a1,a2,a3,a4,a5,a6,a7,a8⟩:=hx
 obtain ⟨b1,b2,b3,b4,b5,b6,b7,b8⟩:=hy
 simp only at a1 a2 a3 a5 a6 a7 a8 b1 b2 b3 b5 b6 b7 b8 n6
 have hl:yfl.length=xfl.length:=by have h1:=congrArg List.length a8;have h2:=congrArg List.length b8;simp at h1 h2;omega
 show Calls Tryz.prog 16 #[.agg #[.int .i64 t.who,.int .i64 t.snap,.int .i64 t.pc,.slice xR t.regs.length xrc,.slice xP t.path.length xpc,.slice xD t.reads.length xdc,.slice xL t.log.list.length xlc,.slice xM t.log.marks.length xmc,.slice xF xfl.length xfc,.int .i64 t.kind,.int .i64 t.why],.agg #[.int .i64 t.who,.int .i64 t.snap,.int .i64 t.pc,.slice yR t.regs.length yrc,.slice yP t.path.length ypc,.slice yD t.reads.length ydc,.slice yL t.log.list.length ylc,.slice yM t.log.marks.length ymc,.slice yF yfl.length yfc,.int .i64 t.kind,.int .i64 t.why]] w (RetB w true)
 rw[hl]
 rw[hl]at b6
 obtain ⟨m,hm⟩:∃m,xfl.length=m:=⟨_,rfl⟩
 rw[hm]at a6 b6 n6 ⊢
 have HA:Hid (∀W,Below w.heap.size w W→Rd W 1 xR t.regs.length (zs t.regs)∧Rd W 1 xP t.path.length (zs t.path)∧Rd W 3 xD t.reads.length (Reads.ds t.reads)∧Writes.LogAt W xL t.log.list.length xlc xM t.log.marks.length xmc t.log∧Rd W 4 xF m (frs xfl)):=Lh (fun W h=>⟨a1.below h,a2.below h,a3.below h,a5.below h,a6.below h⟩)
 have HB:Hid (∀W,Below w.heap.size w W→Rd W 1 yR t.regs.length (zs t.regs)∧Rd W 1 yP t.path.length (zs t.path)∧Rd W 3 yD t.reads.length (Reads.ds t.reads)∧Writes.LogAt W yL t.log.list.length ylc yM t.log.marks.length ymc t.log∧Rd W 4 yF m (frs yfl)):=Lh (fun W h=>⟨b1.below h,b2.below h,b3.below h,b5.below h,b6.below h⟩)
 have HN:Hid (∀(k:Nat) (r s:FRaw),xfl[k]?=some r→yfl[k]?=some s→s.f=r.f∧r.f.regs.length≤1000000∧(∀W,Below w.heap.size w W→Rd W 1 r.A r.f.regs.length (zs r.f.regs)∧Rd W 1 s.A s.f.regs.length (zs s.f.regs))):=Lh (fun k r s hr hs=>by
  have h1:(xfl.map FRaw.f)[k]?=some r.f:=by rw[List.getElem?_map,hr];rfl
  have h2:(yfl.map FRaw.f)[k]?=some s.f:=by rw[List.getElem?_map,hs];rfl
  rw[a8]at h1
  rw[b8,h1]at h2
  injection h2 with h2
  refine ⟨h2.symm,n7 r.f (List.mem_reverse.1 (List.mem_of_getElem? h1)),fun W h=>⟨(a7 r (List.mem_of_getElem? hr)).below h,(b7 s (List.mem_of_getElem? hs)).below h⟩⟩)
 have HB1:Hid (Below w.heap.size w ((w.alloc (.cells #[.int .i64 t.who,.int .i64 t.snap,.int .i64 t.pc,.slice xR t.regs.length xrc,.slice xP t.path.length xpc,.slice xD t.reads.length xdc,.slice xL t.log.list.length xlc,.slice xM t.log.marks.length xmc,.slice xF m xfc,.int .i64 t.kind,.int .i64 t.why] 41)).alloc (.cells #[.int .i64 t.who,.int .i64 t.snap,.int .i64 t.pc,.slice yR t.regs.length yrc,.slice yP t.path.length ypc,.slice yD t.reads.length ydc,.slice yL t.log.list.length ylc,.slice yM t.log.marks.length ymc,.slice yF m yfc,.int .i64 t.kind,.int .i64 t.why] 41))):=Lh (bl_alloc (bl_alloc (Below.refl _ _) _) _)
 have HKx:Hid (Blk ((w.alloc (.cells #[.int .i64 t.who,.int .i64 t.snap,.int .i64 t.pc,.slice xR t.regs.length xrc,.slice xP t.path.length xpc,.slice xD t.reads.length xdc,.slice xL t.log.list.length xlc,.slice xM t.log.marks.length xmc,.slice xF m xfc,.int .i64 t.kind,.int .i64 t.why] 41)).alloc (.cells #[.int .i64 t.who,.int .i64 t.snap,.int .i64 t.pc,.slice yR t.regs.length yrc,.slice yP t.path.length ypc,.slice yD t.reads.length ydc,.slice yL t.log.list.length ylc,.slice yM t.log.marks.length ymc,.slice yF m yfc,.int .i64 t.kind,.int .i64 t.why] 41)) w.heap.size 41 #[.int .i64 t.who,.int .i64 t.snap,.int .i64 t.pc,.slice xR t.regs.length xrc,.slice xP t.path.length xpc,.slice xD t.reads.length xdc,.slice xL t.log.list.length xlc,.slice xM t.log.marks.length xmc,.slice xF m xfc,.int .i64 t.kind,.int .i64 t.why]):=Lh ((Blk.new w _ _).alloc _)
 have HKy:Hid (Blk ((w.alloc (.cells #[.int .i64 t.who,.int .i64 t.snap,.int .i64 t.pc,.slice xR t.regs.length xrc,.slice xP t.path.length xpc,.slice xD t.reads.length xdc,.slice xL t.log.list.length xlc,.slice xM t.log.marks.length xmc,.slice xF m xfc,.int .i64 t.kind,.int .i64 t.why] 41)).alloc (.cells #[.int .i64 t.who,.int .i64 t.snap,.int .i64 t.pc,.slice yR t.regs.length yrc,.slice yP t.path.length ypc,.slice yD t.reads.length ydc,.slice yL t.log.list.length ylc,.slice yM t.log.marks.length ymc,.slice yF m yfc,.int .i64 t.kind,.int .i64 t.why] 41)) (w.heap.size+1) 41 #[.int .i64 t.who,.int .i64 t.snap,.int .i64 t.pc,.slice yR t.regs.length yrc,.slice yP t.path.length ypc,.slice yD t.reads.length ydc,.slice yL t.log.list.length ylc,.slice yM t.log.marks.length ymc,.slice yF m yfc,.int .i64 t.kind,.int .i64 t.why]):=Lh (by have:=Blk.new (w.alloc (.cells #[.int .i64 t.who,.int .i64 t.snap,.int .i64 t.pc,.slice xR t.regs.length xrc,.slice xP t.path.length xpc,.slice xD t.reads.length xdc,.slice xL t.log.list.length xlc,.slice xM t.log.marks.length xmc,.slice xF m xfc,.int .i64 t.kind,.int .i64 t.why] 41)) 41 #[.int .i64 t.who,.int .i64 t.snap,.int .i64 t.pc,.slice yR t.regs.length yrc,.slice yP t.path.length ypc,.slice yD t.reads.length ydc,.slice yL t.log.list.length ylc,.slice yM t.log.marks.length ymc,.slice yF m yfc,.int .i64 t.kind,.int .i64 t.why];simpa using this)
 clear a1 a2 a3 a4 a5 a6 a7 a8 b1 b2 b3 b4 b5 b6 b7 b8 hl hm n7
 go_enter Tryz.func16,Tryz.ntmps16
 go_wp2_with fail
 generalize ((w.alloc (.cells #[.int .i64 t.who,.int .i64 t.snap,.int .i64 t.pc,.slice xR t.regs.length xrc,.slice xP t.path.length xpc,.slice xD t.reads.length xdc,.slice xL t.log.list.length xlc,.slice xM t.log.marks.length xmc,.slice xF m xfc,.int .i64 t.kind,.int .i64 t.why] 41)).alloc (.cells #[.int .i64 t.who,.int .i64 t.snap,.int .i64 t.pc,.slice yR t.regs.length yrc,.slice yP t.path.length ypc,.slice yD t.reads.length ydc,.slice yL t.log.list.length ylc,.slice yM t.log.marks.length ymc,.slice yF m yfc,.int .i64 t.kind,.int .i64 t.why] 41))=W0 at *
 have KEEP:Hid (∀W,Below W0.heap.size W0 W→W.cell? ⟨w.heap.size,5,none⟩=some (.slice xD t.reads.length xdc)∧W.cell? ⟨w.heap.size,6,none⟩=some (.slice xL t.log.list.length xlc)∧W.cell? ⟨w.heap.size,7,none⟩=some (.slice xM t.log.marks.length xmc)∧W.cell? ⟨w.heap.size+1,5,none⟩=some (.slice yD t.reads.length ydc)∧W.cell? ⟨w.heap.size+1,6,none⟩=some (.slice yL t.log.list.length ylc)∧W.cell? ⟨w.heap.size+1,7,none⟩=some (.slice yM t.log.marks.length ymc)):=Lh (fun W hW=>⟨(HKx.out.below hW).cell 5 _ rfl,(HKx.out.below hW).cell 6 _ rfl,(HKx.out.below hW).cell 7 _ rfl,(HKy.out.below hW).cell 5 _ rfl,(HKy.out.below hW).cell 6 _ rfl,(HKy.out.below hW).cell 7 _ rfl⟩)
 have bq:Hid (Below W0.heap.size W0 W0.drew):=Lh (Below.refl _ _).drew
 try simp only[List.append_eq,List.cons_append,List.nil_append]
 refine wp_region_held_drew (S:=fun (W:World)=>W.cell? ⟨w.heap.size,5,none⟩=some (.slice xD t.reads.length xdc)∧W.cell? ⟨w.heap.size,6,none⟩=some (.slice xL t.log.list.length xlc)∧W.cell? ⟨w.heap.size,7,none⟩=some (.slice xM t.log.marks.length xmc)∧W.cell? ⟨w.heap.size+1,5,none⟩=some (.slice yD t.reads.length ydc)∧W.cell? ⟨w.heap.size+1,6,none⟩=some (.slice yL t.log.list.length ylc)∧W.cell? ⟨w.heap.size+1,7,none⟩=some (.slice yM t.log.marks.length ymc)) (by kernel_rfl) (KEEP.out _ bq.out) (fun hHeld0=>?_)
 refine tk 0 (.pointer (some ⟨w.heap.size,5,none⟩)) rfl hHeld0 ?_
 try go_simp
 refine tk 1 (.slice xD t.reads.length xdc) rfl hHeld0 ?_ (hy:=Or.inl ⟨by rfl,fun W hS=>by obtain ⟨k_0,k_1,k_2,k_3,k_4,k_5⟩:=hS;go_simp⟩)
 try go_simp
 refine tk 2 (.pointer (some ⟨w.heap.size+1,5,none⟩)) rfl hHeld0 ?_
 try go_simp
 refine tk 3 (.slice yD t.reads.length ydc) rfl hHeld0 ?_ (hy:=Or.inl ⟨by rfl,fun W hS=>by obtain ⟨k_0,k_1,k_2,k_3,k_4,k_5⟩:=hS;go_simp⟩)
 try go_simp
 refine tk 5 (.pointer (some ⟨w.heap.size,6,none⟩)) rfl hHeld0 ?_
 try go_simp
 refine tk 6 (.agg #[.slice xL t.log.list.length xlc,.slice xM t.log.marks.length xmc]) rfl hHeld0 ?_ (hy:=Or.inl ⟨by rfl,fun W hS=>by obtain ⟨k_0,k_1,k_2,k_3,k_4,k_5⟩:=hS;go_simp⟩)
 try go_simp
 refine tk 7 (.pointer (some ⟨w.heap.size+1,6,none⟩)) rfl hHeld0 ?_
 try go_simp
 refine tk 8 (.agg #[.slice yL t.log.list.length ylc,.slice yM t.log.marks.length ymc]) rfl hHeld0 ?_ (hy:=Or.inl ⟨by rfl,fun W hS=>by obtain ⟨k_0,k_1,k_2,k_3,k_4,k_5⟩:=hS;go_simp⟩)
 try go_simp
 refine rdy 4 rfl (fun KK0 hK=>?_)
 refine calls_step2 (by rfl) 57 #[.slice xD t.reads.length xdc,.slice yD t.reads.length ydc] _ (Reads.same_b t.reads t.reads xD yD _ _ _ _ _ true (HA.out _ (bl_trans HB1.out bq.out)).2.2.1 (HB.out _ (bl_trans HB1.out bq.out)).2.2.1 n3 n3 (decide_eq_true rfl)) ?_ ?_
 ·focus (go_simp;done)
 rintro e wq ⟨rfl,b_⟩
 refine ⟨_,rfl,?_⟩
 replace bq:=Lh (bl_trans bq.out b_)
 clear b_
 refine hK.out _ _ (KEEP.out _ bq.out) (fun hHeld1=>?_)
 clear hHeld0 hK KK0
 try go_simp
 refine rdy 9 rfl (fun KK0 hK=>?_)
 refine calls_step2 (by rfl) 58 #[.agg #[.slice xL t.log.list.length xlc,.slice xM t.log.marks.length xmc],.agg #[.slice yL t.log.list.length ylc,.slice yM t.log.marks.length ymc]] _ (Writes.same_b t.log t.log xL xM yL yM _ _ _ _ _ _ _ _ _ true (HA.out _ (bl_trans HB1.out bq.out)).2.2.2.1 (HB.out _ (bl_trans HB1.out bq.out)).2.2.2.1 n4 n5 n4 n5 (decide_eq_true rfl)) ?_ ?_
 ·focus (go_simp;done)
 rintro e wq ⟨rfl,b_⟩
 refine ⟨_,rfl,?_⟩
 replace bq:=Lh (bl_trans bq.out b_)
 clear b_
 refine hK.out _ _ (KEEP.out _ bq.out) (fun hHeld2=>?_)
 clear hHeld1 hK KK0
 try go_simp
 refine rdy 10 rfl (fun KK0 hK=>?_)
 go_simp
 refine hK.out _ _ (KEEP.out _ bq.out) (fun hHeld3=>?_)
 clear hHeld2 hK KK0
 try go_simp
 refine rdy 11 rfl (fun KK0 hK=>?_)
 go_simp
 refine hK.out _ _ (KEEP.out _ bq.out) (fun hHeld4=>?_)
 clear hHeld3 hK KK0
 try go_simp
 refine wpAnyH_done (by kernel_rfl) ?_ _
 clear hHeld4 KEEP
 replace HKx:=Lh (HKx.out.below bq.out)
 replace HKy:=Lh (HKy.out.below bq.out)
 replace HB1:=Lh (bl_trans HB1.out bq.out)
 clear bq
 skip
 go_wp2_with fail
 have KEEP:Hid (∀W,Below wq.heap.size wq W→W.cell? ⟨w.heap.size,3,none⟩=some (.slice xR t.regs.length xrc)∧W.cell? ⟨w.heap.size,4,none⟩=some (.slice xP t.path.length xpc)∧W.cell? ⟨w.heap.size+1,3,none⟩=some (.slice yR t.regs.length yrc)∧W.cell? ⟨w.heap.size+1,4,none⟩=some (.slice yP t.path.length ypc)):=Lh (fun W hW=>⟨(HKx.out.below hW).cell 3 _ rfl,(HKx.out.below hW).cell 4 _ rfl,(HKy.out.below hW).cell 3 _ rfl,(HKy.out.below hW).cell 4 _ rfl⟩)
 have bq:Hid (Below wq.heap.size wq wq.drew):=Lh (Below.refl _ _).drew
 try simp only[List.append_eq,List.cons_append,List.nil_append]
 refine wp_region_held_drew (S:=fun (W:World)=>W.cell? ⟨w.heap.size,3,none⟩=some (.slice xR t.regs.length xrc)∧W.cell? ⟨w.heap.size,4,none⟩=some (.slice xP t.path.length xpc)∧W.cell? ⟨w.heap.size+1,3,none⟩=some (.slice yR t.regs.length yrc)∧W.cell? ⟨w.heap.size+1,4,none⟩=some (.slice yP t.path.length ypc)) (by kernel_rfl) (KEEP.out _ bq.out) (fun hHeld0=>?_)
 refine tk 0 (.pointer (some ⟨w.heap.size,3,none⟩)) rfl hHeld0 ?_
 try go_simp
 refine tk 1 (.slice xR t.regs.length xrc) rfl hHeld0 ?_ (hy:=Or.inl ⟨by rfl,fun W hS=>by obtain ⟨k_0,k_1,k_2,k_3⟩:=hS;go_simp⟩)
 try go_simp
 refine tk 2 (.pointer (some ⟨w.heap.size+1,3,none⟩)) rfl hHeld0 ?_
 try go_simp
 refine tk 3 (.slice yR t.regs.length yrc) rfl hHeld0 ?_ (hy:=Or.inl ⟨by rfl,fun W hS=>by obtain ⟨k_0,k_1,k_2,k_3⟩:=hS;go_simp⟩)
 try go_simp
 refine tk 5 (.pointer (some ⟨w.heap.size,4,none⟩)) rfl hHeld0 ?_
 try go_simp
 refine tk 6 (.slice xP t.path.length xpc) rfl hHeld0 ?_ (hy:=Or.inl ⟨by rfl,fun W hS=>by obtain ⟨k_0,k_1,k_2,k_3⟩:=hS;go_simp⟩)
 try go_simp
 refine tk 7 (.pointer (some ⟨w.heap.size+1,4,none⟩)) rfl hHeld0 ?_
 try go_simp
 refine tk 8 (.slice yP t.path.length ypc) rfl hHeld0 ?_ (hy:=Or.inl ⟨by rfl,fun W hS=>by obtain ⟨k_0,k_1,k_2,k_3⟩:=hS;go_simp⟩)
 try go_simp
 refine rdy 4 rfl (fun KK0 hK=>?_)
 refine calls_step2 (by rfl) 47 #[.slice xR t.regs.length xrc,.slice yR t.regs.length yrc] _ (numbers_b t.regs t.regs xR yR _ _ _ _ _ true (HA.out _ (bl_trans HB1.out bq.out)).1 (HB.out _ (bl_trans HB1.out bq.out)).1 n1 n1 (decide_eq_true rfl)) ?_ ?_
 ·focus (go_simp;done)
 rintro e wq ⟨rfl,b_⟩
 refine ⟨_,rfl,?_⟩
 replace bq:=Lh (bl_trans bq.out b_)
 clear b_
 refine hK.out _ _ (KEEP.out _ bq.out) (fun hHeld1=>?_)
 clear hHeld0 hK KK0
 try go_simp
 refine rdy 9 rfl (fun KK0 hK=>?_)
 refine calls_step2 (by rfl) 47 #[.slice xP t.path.length xpc,.slice yP t.path.length ypc] _ (numbers_b t.path t.path xP yP _ _ _ _ _ true (HA.out _ (bl_trans HB1.out bq.out)).2.1 (HB.out _ (bl_trans HB1.out bq.out)).2.1 n2 n2 (decide_eq_true rfl)) ?_ ?_
 ·focus (go_simp;done)
 rintro e wq ⟨rfl,b_⟩
 refine ⟨_,rfl,?_⟩
 replace bq:=Lh (bl_trans bq.out b_)
 clear b_
 refine hK.out _ _ (KEEP.out _ bq.out) (fun hHeld2=>?_)
 clear hHeld1 hK KK0
 try go_simp
 refine rdy 10 rfl (fun KK0 hK=>?_)
 go_simp
 refine hK.out _ _ (KEEP.out _ bq.out) (fun hHeld3=>?_)
 clear hHeld2 hK KK0
 try go_simp
 refine rdy 11 rfl (fun KK0 hK=>?_)
 go_simp
 refine hK.out _ _ (KEEP.out _ bq.out) (fun hHeld4=>?_)
 clear hHeld3 hK KK0
 try go_simp
 refine wpAnyH_done (by kernel_rfl) ?_ _
 clear hHeld4 KEEP
 replace HKx:=Lh (HKx.out.below bq.out)
 replace HKy:=Lh (HKy.out.below bq.out)
 replace HB1:=Lh (bl_trans HB1.out bq.out)
 clear bq
 skip
 have p8:=HKx.out.cell 8 _ rfl
 have s8:=HKy.out.cell 8 _ rfl
 go_wp2_with fail
 clear p8 s8
 go_loopw [9] (fun i wr=>∃k:Nat,k≤m∧i=.int .i64 k∧Hid (Blk wr w.heap.size 41 #[.int .i64 t.who,.int .i64 t.snap,.int .i64 t.pc,.slice xR t.regs.length xrc,.slice xP t.path.length xpc,.slice xD t.reads.length xdc,.slice xL t.log.list.length xlc,.slice xM t.log.marks.length xmc,.slice xF m xfc,.int .i64 t.kind,.int .i64 t.why])∧Hid (Blk wr (w.heap.size+1) 41 #[.int .i64 t.who,.int .i64 t.snap,.int .i64 t.pc,.slice yR t.regs.length yrc,.slice yP t.path.length ypc,.slice yD t.reads.length ydc,.slice yL t.log.list.length ylc,.slice yM t.log.marks.length ymc,.slice yF m yfc,.int .i64 t.kind,.int .i64 t.why])∧Hid (Below w.heap.size w wr)) (fun i _=>m - (intOf i).toNat)
 case atStart=>exact ⟨0,Nat.zero_le _,rfl,HKx,HKy,HB1⟩
 case round=>
  obtain ⟨k,hk,rfl,HKx,HKy,HB1⟩:=hrel
  generalize wr=wa at *
  have p8:=HKx.out.cell 8 _ rfl
  by_cases hlt:k<m
  ·obtain ⟨bx,ox,r,hXX,hr,q0,q1,q2,q3⟩:=at_frame (HA.out _ HB1.out).2.2.2.2 k hlt
   obtain ⟨by_,oy,s,hYY,hs,s0,s1,s2,s3⟩:=at_frame (HB.out _ HB1.out).2.2.2.2 k hlt
   obtain ⟨e1,e2,e3⟩:=HN.out k r s hr hs
   rw[e1]at s0 s1 s2 s3
   have HRS:=Lh e3
   have HEF:=Lh e1
   subst hXX
   subst hYY
   clear hr hs e1 e3
   go_wp2_with fail
   clear p8
   have KEEP:Hid (∀W,Below wa.heap.size wa W→W.cell? ⟨w.heap.size,8,none⟩=some (.slice (some ⟨bx,ox,none⟩) m xfc)∧W.cell? ⟨w.heap.size+1,8,none⟩=some (.slice (some ⟨by_,oy,none⟩) m yfc)∧W.cell? ⟨bx,ox+k * 4,none⟩=some (.int .i64 r.f.mid)∧W.cell? ⟨bx,ox+k * 4+1,none⟩=some (.int .i64 r.f.fin)∧W.cell? ⟨bx,ox+k * 4+2,none⟩=some (.int .i64 r.f.long)∧W.cell? ⟨bx,ox+k * 4+3,none⟩=some (.slice r.A r.f.regs.length r.c)∧W.cell? ⟨by_,oy+k * 4,none⟩=some (.int .i64 r.f.mid)∧W.cell? ⟨by_,oy+k * 4+1,none⟩=some (.int .i64 r.f.fin)∧W.cell? ⟨by_,oy+k * 4+2,none⟩=some (.int .i64 r.f.long)∧W.cell? ⟨by_,oy+k * 4+3,none⟩=some (.slice s.A r.f.regs.length s.c)):=Lh (fun W hW=>⟨(HKx.out.below hW).cell 8 _ rfl,(HKy.out.below hW).cell 8 _ rfl,cell_kept_up q0 hW,cell_kept_up q1 hW,cell_kept_up q2 hW,cell_kept_up q3 hW,cell_kept_up s0 hW,cell_kept_up s1 hW,cell_kept_up s2 hW,cell_kept_up s3 hW⟩)
   clear q0 q1 q2 q3 s0 s1 s2 s3
   have bq:Hid (Below wa.heap.size wa wa.drew):=Lh (Below.refl _ _).drew
   try simp only[List.append_eq,List.cons_append,List.nil_append]
   refine wp_region_held_drew (S:=fun (W:World)=>W.cell? ⟨w.heap.size,8,none⟩=some (.slice (some ⟨bx,ox,none⟩) m xfc)∧W.cell? ⟨w.heap.size+1,8,none⟩=some (.slice (some ⟨by_,oy,none⟩) m yfc)∧W.cell? ⟨bx,ox+k * 4,none⟩=some (.int .i64 r.f.mid)∧W.cell? ⟨bx,ox+k * 4+1,none⟩=some (.int .i64 r.f.fin)∧W.cell? ⟨bx,ox+k * 4+2,none⟩=some (.int .i64 r.f.long)∧W.cell? ⟨bx,ox+k * 4+3,none⟩=some (.slice r.A r.f.regs.length r.c)∧W.cell? ⟨by_,oy+k * 4,none⟩=some (.int .i64 r.f.mid)∧W.cell? ⟨by_,oy+k * 4+1,none⟩=some (.int .i64 r.f.fin)∧W.cell? ⟨by_,oy+k * 4+2,none⟩=some (.int .i64 r.f.long)∧W.cell? ⟨by_,oy+k * 4+3,none⟩=some (.slice s.A r.f.regs.length s.c)) (by kernel_rfl) (KEEP.out _ bq.out) (fun hH0=>?_)
   refine tk 0 (.pointer (some ⟨w.heap.size,8,none⟩)) rfl hH0 ?_
   try go_simp
   refine tk 1 (.slice (some ⟨bx,ox,none⟩) m xfc) rfl hH0 ?_ (hy:=Or.inl ⟨by rfl,fun W hS=>by obtain ⟨k_0,k_1,k_2,k_3,k_4,k_5,k_6,k_7,k_8,k_9⟩:=hS;go_simp⟩)
   try go_simp
   refine tk 2 (.int .i64 k) rfl hH0 ?_
   try go_simp
   refine tk 3 (.pointer (some ⟨bx,ox+k * 4,none⟩)) rfl hH0 ?_
   try go_simp
   refine tk 4 (.agg #[.int .i64 r.f.mid,.int .i64 r.f.fin,.int .i64 r.f.long,.slice r.A r.f.regs.length r.c]) rfl hH0 ?_ (hy:=Or.inl ⟨by rfl,fun W hS=>by obtain ⟨k_0,k_1,k_2,k_3,k_4,k_5,k_6,k_7,k_8,k_9⟩:=hS;go_simp⟩)
   try go_simp
   refine tk 5 (.pointer (some ⟨w.heap.size+1,8,none⟩)) rfl hH0 ?_
   try go_simp
   refine tk 6 (.slice (some ⟨by_,oy,none⟩) m yfc) rfl hH0 ?_ (hy:=Or.inl ⟨by rfl,fun W hS=>by obtain ⟨k_0,k_1,k_2,k_3,k_4,k_5,k_6,k_7,k_8,k_9⟩:=hS;go_simp⟩)
   try go_simp
   refine tk 7 (.int .i64 k) rfl hH0 ?_
   try go_simp
   refine tk 8 (.pointer (some ⟨by_,oy+k * 4,none⟩)) rfl hH0 ?_
   try go_simp
   refine tk 9 (.agg #[.int .i64 r.f.mid,.int .i64 r.f.fin,.int .i64 r.f.long,.slice s.A r.f.regs.length s.c]) rfl hH0 ?_ (hy:=Or.inl ⟨by rfl,fun W hS=>by obtain ⟨k_0,k_1,k_2,k_3,k_4,k_5,k_6,k_7,k_8,k_9⟩:=hS;go_simp⟩)
   try go_simp
   generalize wa.drew=wb at *
   have SZ:Hid (wa.heap.size≤wb.heap.size):=Lh bq.out.size
   refine wpAnyH_ready (rs:= [10,11]) (by kernel_rfl) (by simp) ?_
   refine AllReadyH.cons rfl (fun KK hK=>?_) (AllReadyH.cons rfl (fun KK hK=>?_) AllReadyH.nil)
   ·go_simp
    have n1_:=bl_alloc bq.out (.cells #[.int .i64 0,.int .i64 0,.int .i64 0,.slice none 0 0] 132)
    refine hK.out _ _ (KEEP.out _ n1_) (fun hH1=>?_)
    try go_simp
    clear hK KK
    have HZ1:Hid (Blk (wb.alloc (.cells #[.int .i64 0,.int .i64 0,.int .i64 0,.slice none 0 0] 132)) wb.heap.size 132 #[.int .i64 0,.int .i64 0,.int .i64 0,.slice none 0 0]):=Lh (Blk.new _ _ _)
    have hs1:(wb.alloc (.cells #[.int .i64 0,.int .i64 0,.int .i64 0,.slice none 0 0] 132)).heap.size=wb.heap.size+1:=by simp
    replace bq:=Lh n1_
    have hge:wa.heap.size≤wb.heap.size:=SZ.out
    clear n1_
    generalize (wb.alloc (.cells #[.int .i64 0,.int .i64 0,.int .i64 0,.slice none 0 0] 132))=Wc at *
    refine rdy 11 rfl (fun KK hK=>?_)
    go_simp
    have n2_:=bl_alloc bq.out (.cells #[.int .i64 0,.int .i64 0,.int .i64 0,.slice none 0 0] 132)
    refine hK.out _ _ (KEEP.out _ n2_) (fun hH2=>?_)
    try go_simp
    clear hK KK hH1
    have HZ2:Hid (Blk (Wc.alloc (.cells #[.int .i64 0,.int .i64 0,.int .i64 0,.slice none 0 0] 132)) Wc.heap.size 132 #[.int .i64 0,.int .i64 0,.int .i64 0,.slice none 0 0]):=Lh (Blk.new _ _ _)
    replace HZ1:=Lh (HZ1.out.alloc (.cells #[.int .i64 0,.int .i64 0,.int .i64 0,.slice none 0 0] 132))
    replace bq:=Lh n2_
    clear n2_
    generalize (Wc.alloc (.cells #[.int .i64 0,.int .i64 0,.int .i64 0,.slice none 0 0] 132))=Wd at *
    rw[hs1] at HZ2
    have hgg:wb.heap.size≠wb.heap.size+1:=by omega
    have hge2:wa.heap.size≤wb.heap.size+1:=by omega
    clear hs1
    generalize wb.heap.size=gA at *
    have z0:=HZ1.out.cell 0 _ rfl
    have z1:=HZ1.out.cell 1 _ rfl
    have z2:=HZ1.out.cell 2 _ rfl
    have z3:=HZ1.out.cell 3 _ rfl
    have zf0:=HZ1.out.frozen 0
    have zf1:=HZ1.out.frozen 1
    have zf2:=HZ1.out.frozen 2
    have zf3:=HZ1.out.frozen 3
    have HFx:Hid (Blk ((((Wd.setCell ⟨gA,0,none⟩ (.int .i64 r.f.mid)).setCell ⟨gA,1,none⟩ (.int .i64 r.f.fin)).setCell ⟨gA,2,none⟩ (.int .i64 r.f.long)).setCell ⟨gA,3,none⟩ (.slice r.A r.f.regs.length r.c)) gA 132 #[.int .i64 r.f.mid,.int .i64 r.f.fin,.int .i64 r.f.long,.slice r.A r.f.regs.length r.c]):=Lh (fill4_blk HZ1.out)
    have on1:=fill4_only Wd gA (.int .i64 r.f.mid) (.int .i64 r.f.fin) (.int .i64 r.f.long) (.slice r.A r.f.regs.length r.c)
    have n3_:Below wa.heap.size wa ((((Wd.setCell ⟨gA,0,none⟩ (.int .i64 r.f.mid)).setCell ⟨gA,1,none⟩ (.int .i64 r.f.fin)).setCell ⟨gA,2,none⟩ (.int .i64 r.f.long)).setCell ⟨gA,3,none⟩ (.slice r.A r.f.regs.length r.c)):=bq.out.trans (on1.below bq.out.size (fun k hk e=>by omega))
    have HZy:=Lh (on1.blk HZ2.out (fun e=>absurd e (Ne.symm hgg)))
    refine rdy 12 rfl (fun KK hK=>?_)
    go_simp
    refine hK.out _ _ (KEEP.out _ n3_) (fun hH3=>?_)
    try go_simp
    clear hK KK hH2 on1 z0 zf0 z1 zf1 z2 zf2 z3 zf3
    replace bq:=Lh n3_
    clear n3_ HZ1 HZ2
    generalize ((((Wd.setCell ⟨gA,0,none⟩ (.int .i64 r.f.mid)).setCell ⟨gA,1,none⟩ (.int .i64 r.f.fin)).setCell ⟨gA,2,none⟩ (.int .i64 r.f.long)).setCell ⟨gA,3,none⟩ (.slice r.A r.f.regs.length r.c))=We at *
    have z0:=HZy.out.cell 0 _ rfl
    have z1:=HZy.out.cell 1 _ rfl
    have z2:=HZy.out.cell 2 _ rfl
    have z3:=HZy.out.cell 3 _ rfl
    have zf0:=HZy.out.frozen 0
    have zf1:=HZy.out.frozen 1
    have zf2:=HZy.out.frozen 2
    have zf3:=HZy.out.frozen 3
    have HFy:Hid (Blk ((((We.setCell ⟨(gA+1),0,none⟩ (.int .i64 r.f.mid)).setCell ⟨(gA+1),1,none⟩ (.int .i64 r.f.fin)).setCell ⟨(gA+1),2,none⟩ (.int .i64 r.f.long)).setCell ⟨(gA+1),3,none⟩ (.slice s.A r.f.regs.length s.c)) (gA+1) 132 #[.int .i64 r.f.mid,.int .i64 r.f.fin,.int .i64 r.f.long,.slice s.A r.f.regs.length s.c]):=Lh (fill4_blk HZy.out)
    have on1:=fill4_only We (gA+1) (.int .i64 r.f.mid) (.int .i64 r.f.fin) (.int .i64 r.f.long) (.slice s.A r.f.regs.length s.c)
    have n3_:Below wa.heap.size wa ((((We.setCell ⟨(gA+1),0,none⟩ (.int .i64 r.f.mid)).setCell ⟨(gA+1),1,none⟩ (.int .i64 r.f.fin)).setCell ⟨(gA+1),2,none⟩ (.int .i64 r.f.long)).setCell ⟨(gA+1),3,none⟩ (.slice s.A r.f.regs.length s.c)):=bq.out.trans (on1.below bq.out.size (fun k hk e=>by omega))
    replace HFx:=Lh (on1.blk HFx.out (fun e=>absurd e hgg))
    refine rdy 13 rfl (fun KK hK=>?_)
    go_simp
    refine hK.out _ _ (KEEP.out _ n3_) (fun _=>?_)
    clear hK KK
    refine wpAnyH_done (by kernel_rfl) ?_ _
    clear hH3 on1 z0 zf0 z1 zf1 z2 zf2 z3 zf3
    replace bq:=Lh n3_
    clear n3_ HZy
    generalize ((((We.setCell ⟨(gA+1),0,none⟩ (.int .i64 r.f.mid)).setCell ⟨(gA+1),1,none⟩ (.int .i64 r.f.fin)).setCell ⟨(gA+1),2,none⟩ (.int .i64 r.f.long)).setCell ⟨(gA+1),3,none⟩ (.slice s.A r.f.regs.length s.c))=Wf at *
    have x3:=HFx.out.cell 3 _ rfl
    have y3:=HFy.out.cell 3 _ rfl
    go_wp2_with fail
    refine (numbers_b r.f.regs r.f.regs r.A s.A _ _ r.c s.c _ true (HRS.out _ (bl_trans HB1.out bq.out)).1 (by have h1:=(HRS.out _ (bl_trans HB1.out bq.out)).2;rw[HEF.out]at h1;exact h1) e2 e2 (decide_eq_true rfl)).mono ?_
    rintro e4 Wg ⟨rfl,b_⟩
    clear x3 y3
    have x0:=(HFx.out.below b_).cell 0 _ rfl
    have x1:=(HFx.out.below b_).cell 1 _ rfl
    have x2:=(HFx.out.below b_).cell 2 _ rfl
    have y0:=(HFy.out.below b_).cell 0 _ rfl
    have y1:=(HFy.out.below b_).cell 1 _ rfl
    have y2:=(HFy.out.below b_).cell 2 _ rfl
    have HKx2:=Lh (HKx.out.below (bl_trans bq.out b_))
    have HKy2:=Lh (HKy.out.below (bl_trans bq.out b_))
    have HB2:=Lh (bl_trans HB1.out (bl_trans bq.out b_))
    clear b_
    go_wp2
    go_roundw
    case rel=>exact ⟨k+1,by omega,by go_num,HKx2,HKy2,HB2⟩
    case measure=>simp[intOf];omega
   ·go_simp
    have n1_:=bl_alloc bq.out (.cells #[.int .i64 0,.int .i64 0,.int .i64 0,.slice none 0 0] 132)
    refine hK.out _ _ (KEEP.out _ n1_) (fun hH1=>?_)
    try go_simp
    clear hK KK
    have HZ1:Hid (Blk (wb.alloc (.cells #[.int .i64 0,.int .i64 0,.int .i64 0,.slice none 0 0] 132)) wb.heap.size 132 #[.int .i64 0,.int .i64 0,.int .i64 0,.slice none 0 0]):=Lh (Blk.new _ _ _)
    have hs1:(wb.alloc (.cells #[.int .i64 0,.int .i64 0,.int .i64 0,.slice none 0 0] 132)).heap.size=wb.heap.size+1:=by simp
    replace bq:=Lh n1_
    have hge:wa.heap.size≤wb.heap.size:=SZ.out
    clear n1_
    generalize (wb.alloc (.cells #[.int .i64 0,.int .i64 0,.int .i64 0,.slice none 0 0] 132))=Wc at *
    refine rdy 10 rfl (fun KK hK=>?_)
    go_simp
    have n2_:=bl_alloc bq.out (.cells #[.int .i64 0,.int .i64 0,.int .i64 0,.slice none 0 0] 132)
    refine hK.out _ _ (KEEP.out _ n2_) (fun hH2=>?_)
    try go_simp
    clear hK KK hH1
    have HZ2:Hid (Blk (Wc.alloc (.cells #[.int .i64 0,.int .i64 0,.int .i64 0,.slice none 0 0] 132)) Wc.heap.size 132 #[.int .i64 0,.int .i64 0,.int .i64 0,.slice none 0 0]):=Lh (Blk.new _ _ _)
    replace HZ1:=Lh (HZ1.out.alloc (.cells #[.int .i64 0,.int .i64 0,.int .i64 0,.slice none 0 0] 132))
    replace bq:=Lh n2_
    clear n2_
    generalize (Wc.alloc (.cells #[.int .i64 0,.int .i64 0,.int .i64 0,.slice none 0 0] 132))=Wd at *
    rw[hs1] at HZ2
    have hgg:wb.heap.size≠wb.heap.size+1:=by omega
    have hge2:wa.heap.size≤wb.heap.size+1:=by omega
    clear hs1
    generalize wb.heap.size=gA at *
    have z0:=HZ2.out.cell 0 _ rfl
    have z1:=HZ2.out.cell 1 _ rfl
    have z2:=HZ2.out.cell 2 _ rfl
    have z3:=HZ2.out.cell 3 _ rfl
    have zf0:=HZ2.out.frozen 0
    have zf1:=HZ2.out.frozen 1
    have zf2:=HZ2.out.frozen 2
    have zf3:=HZ2.out.frozen 3
    have HFx:Hid (Blk ((((Wd.setCell ⟨(gA+1),0,none⟩ (.int .i64 r.f.mid)).setCell ⟨(gA+1),1,none⟩ (.int .i64 r.f.fin)).setCell ⟨(gA+1),2,none⟩ (.int .i64 r.f.long)).setCell ⟨(gA+1),3,none⟩ (.slice r.A r.f.regs.length r.c)) (gA+1) 132 #[.int .i64 r.f.mid,.int .i64 r.f.fin,.int .i64 r.f.long,.slice r.A r.f.regs.length r.c]):=Lh (fill4_blk HZ2.out)
    have on1:=fill4_only Wd (gA+1) (.int .i64 r.f.mid) (.int .i64 r.f.fin) (.int .i64 r.f.long) (.slice r.A r.f.regs.length r.c)
    have n3_:Below wa.heap.size wa ((((Wd.setCell ⟨(gA+1),0,none⟩ (.int .i64 r.f.mid)).setCell ⟨(gA+1),1,none⟩ (.int .i64 r.f.fin)).setCell ⟨(gA+1),2,none⟩ (.int .i64 r.f.long)).setCell ⟨(gA+1),3,none⟩ (.slice r.A r.f.regs.length r.c)):=bq.out.trans (on1.below bq.out.size (fun k hk e=>by omega))
    have HZy:=Lh (on1.blk HZ1.out (fun e=>absurd e (Ne.symm (Ne.symm hgg))))
    refine rdy 12 rfl (fun KK hK=>?_)
    go_simp
    refine hK.out _ _ (KEEP.out _ n3_) (fun hH3=>?_)
    try go_simp
    clear hK KK hH2 on1 z0 zf0 z1 zf1 z2 zf2 z3 zf3
    replace bq:=Lh n3_
    clear n3_ HZ2 HZ1
    generalize ((((Wd.setCell ⟨(gA+1),0,none⟩ (.int .i64 r.f.mid)).setCell ⟨(gA+1),1,none⟩ (.int .i64 r.f.fin)).setCell ⟨(gA+1),2,none⟩ (.int .i64 r.f.long)).setCell ⟨(gA+1),3,none⟩ (.slice r.A r.f.regs.length r.c))=We at *
    have z0:=HZy.out.cell 0 _ rfl
    have z1:=HZy.out.cell 1 _ rfl
    have z2:=HZy.out.cell 2 _ rfl
    have z3:=HZy.out.cell 3 _ rfl
    have zf0:=HZy.out.frozen 0
    have zf1:=HZy.out.frozen 1
    have zf2:=HZy.out.frozen 2
    have zf3:=HZy.out.frozen 3
    have HFy:Hid (Blk ((((We.setCell ⟨gA,0,none⟩ (.int .i64 r.f.mid)).setCell ⟨gA,1,none⟩ (.int .i64 r.f.fin)).setCell ⟨gA,2,none⟩ (.int .i64 r.f.long)).setCell ⟨gA,3,none⟩ (.slice s.A r.f.regs.length s.c)) gA 132 #[.int .i64 r.f.mid,.int .i64 r.f.fin,.int .i64 r.f.long,.slice s.A r.f.regs.length s.c]):=Lh (fill4_blk HZy.out)
    have on1:=fill4_only We gA (.int .i64 r.f.mid) (.int .i64 r.f.fin) (.int .i64 r.f.long) (.slice s.A r.f.regs.length s.c)
    have n3_:Below wa.heap.size wa ((((We.setCell ⟨gA,0,none⟩ (.int .i64 r.f.mid)).setCell ⟨gA,1,none⟩ (.int .i64 r.f.fin)).setCell ⟨gA,2,none⟩ (.int .i64 r.f.long)).setCell ⟨gA,3,none⟩ (.slice s.A r.f.regs.length s.c)):=bq.out.trans (on1.below bq.out.size (fun k hk e=>by omega))
    replace HFx:=Lh (on1.blk HFx.out (fun e=>absurd e (Ne.symm hgg)))
    refine rdy 13 rfl (fun KK hK=>?_)
    go_simp
    refine hK.out _ _ (KEEP.out _ n3_) (fun _=>?_)
    clear hK KK
    refine wpAnyH_done (by kernel_rfl) ?_ _
    clear hH3 on1 z0 zf0 z1 zf1 z2 zf2 z3 zf3
    replace bq:=Lh n3_
    clear n3_ HZy
    generalize ((((We.setCell ⟨gA,0,none⟩ (.int .i64 r.f.mid)).setCell ⟨gA,1,none⟩ (.int .i64 r.f.fin)).setCell ⟨gA,2,none⟩ (.int .i64 r.f.long)).setCell ⟨gA,3,none⟩ (.slice s.A r.f.regs.length s.c))=Wf at *
    have x3:=HFx.out.cell 3 _ rfl
    have y3:=HFy.out.cell 3 _ rfl
    go_wp2_with fail
    refine (numbers_b r.f.regs r.f.regs r.A s.A _ _ r.c s.c _ true (HRS.out _ (bl_trans HB1.out bq.out)).1 (by have h1:=(HRS.out _ (bl_trans HB1.out bq.out)).2;rw[HEF.out]at h1;exact h1) e2 e2 (decide_eq_true rfl)).mono ?_
    rintro e4 Wg ⟨rfl,b_⟩
    clear x3 y3
    have x0:=(HFx.out.below b_).cell 0 _ rfl
    have x1:=(HFx.out.below b_).cell 1 _ rfl
    have x2:=(HFx.out.below b_).cell 2 _ rfl
    have y0:=(HFy.out.below b_).cell 0 _ rfl
    have y1:=(HFy.out.below b_).cell 1 _ rfl
    have y2:=(HFy.out.below b_).cell 2 _ rfl
    have HKx2:=Lh (HKx.out.below (bl_trans bq.out b_))
    have HKy2:=Lh (HKy.out.below (bl_trans bq.out b_))
    have HB2:=Lh (bl_trans HB1.out (bl_trans bq.out b_))
    clear b_
    go_wp2
    go_roundw
    case rel=>exact ⟨k+1,by omega,by go_num,HKx2,HKy2,HB2⟩
    case measure=>simp[intOf];omega
  ·have x0:=HKx.out.cell 0 _ rfl
   have x1:=HKx.out.cell 1 _ rfl
   have x2:=HKx.out.cell 2 _ rfl
   have x9:=HKx.out.cell 9 _ rfl
   have x10:=HKx.out.cell 10 _ rfl
   have y0:=HKy.out.cell 0 _ rfl
   have y1:=HKy.out.cell 1 _ rfl
   have y2:=HKy.out.cell 2 _ rfl
   have y9:=HKy.out.cell 9 _ rfl
   have y10:=HKy.out.cell 10 _ rfl
   go_wp2
   go_ret
   exact ⟨rfl,HB1.out⟩
end Go.Proofs.YtgghaodcfgbjlaaGreat.Attempt
namespace Go.Proofs.YtgghaodcfgbjlaaGreat.Commit
open Go.ChangeShapes Go.WideShapes Go.ChangeAt Go.RowKit Mem Go.Proofs.YtgghaodcfgbjlaaGreat.Attempt
def RetRefC (w:World) (c:Com) (x:TL) (e:Ending) (w' :World):Prop:=∃(Fr:Option Addr) (fr:Nat),e=.returned (.agg (cvl c { x with F:=Fr,fc:=fr }).toArray)∧Rd w' 4 Fr x.fl.length (frs x.fl)∧Below w.heap.size w w'
set_option maxHeartbeats 3000000 in
theorem refc_c (c:Com) (x:TL) (w:World) (h:TRd w c.t x) (hm:x.fl.length≤1000000):Calls Tryz.prog 33 #[.agg (cvl c x).toArray] w (RetRefC w c x):=by
 obtain ⟨t,p,v,er⟩:=c
 obtain ⟨PQ,hPQ⟩:∃PQ,RetRefC w ⟨t,p,v,er⟩ x=PQ:=⟨_,rfl⟩
 have HPQ:=Lh hPQ
 rw[hPQ]
 clear hPQ
 have HT:=Lh h
 have HM:=Lh hm
 clear h hm
 show Calls Tryz.prog 33 #[.agg (aC t x p v er)] w PQ
 have KA:Hid (Blk ((w.alloc (.cells (aC t x p v er) 69)).alloc (.cells z14 73)) w.heap.size 69 (aC t x p v er)):=Lh ((Blk.new w _ _).alloc _)
 have KB:Hid (Blk ((w.alloc (.cells (aC t x p v er) 69)).alloc (.cells z14 73)) (w.heap.size+1) 73 z14):=Lh (by have:=Blk.new (w.alloc (.cells (aC t x p v er) 69)) 73 z14;simpa only[World.size_alloc] using this)
 have BB:Hid (Below w.heap.size w ((w.alloc (.cells (aC t x p v er) 69)).alloc (.cells z14 73))):=Lh (bl_alloc (bl_alloc (Below.refl _ _) _) _)
 have HSZ:Hid (((w.alloc (.cells (aC t x p v er) 69)).alloc (.cells z14 73)).heap.size=w.heap.size+2):=Lh (by simp only[World.size_alloc])
 go_enter Tryz.func33,Tryz.ntmps33
 go_wp2_with fail
 generalize ((w.alloc (.cells (aC t x p v er) 69)).alloc (.cells z14 73))=W1 at *
 replace KA:=Lh (KA.out.below (Below.refl _ _).drew)
 replace KB:=Lh (KB.out.below (Below.refl _ _).drew)
 replace BB:=Lh BB.out.drew
 replace HSZ:Hid (W1.drew.heap.size=w.heap.size+2):=Lh HSZ.out
 obtain ⟨SB,hSB⟩:∃SB:World→Prop,∀W,SB W↔Blk W w.heap.size 69 (aC t x p v er):=⟨_,fun _=>Iff.rfl⟩
 have HSB:=Lh hSB
 clear hSB
 obtain ⟨vt,hvt⟩:∃vq_:Value,vq_=.agg (aT t x):=⟨_,rfl⟩
 have HVT:=Lh hvt
 clear hvt
 have f0:SB W1.drew:=(HSB.out _).2 KA.out
 refine wp_region_held_drew (S:=SB) (by kernel_rfl) f0 (fun hH0=>?_)
 clear f0
 generalize W1.drew=w0 at *
 refine tk 0 (.pointer (some ⟨w.heap.size,0,none⟩)) rfl hH0 ?_
 try go_simp
 refine tk 1 vt rfl hH0 ?_ (hy:=Or.inl ⟨by kernel_rfl,fun W hS=>by rw[HVT.out];have hSS:=(HSB.out W).1 hS;have q0:=hSS.cell 0 _ rfl;have q1:=hSS.cell 1 _ rfl;have q2:=hSS.cell 2 _ rfl;have q3:=hSS.cell 3 _ rfl;have q4:=hSS.cell 4 _ rfl;have q5:=hSS.cell 5 _ rfl;have q6:=hSS.cell 6 _ rfl;have q7:=hSS.cell 7 _ rfl;have q8:=hSS.cell 8 _ rfl;have q9:=hSS.cell 9 _ rfl;have q10:=hSS.cell 10 _ rfl;go_simp⟩)
 try go_simp
 refine tk 3 (.pointer (some ⟨w.heap.size,11,none⟩)) rfl hH0 ?_
 try go_simp
 refine tk 4 (.int .i64 p) rfl hH0 ?_ (hy:=Or.inl ⟨by kernel_rfl,fun W hS=>by have hSS:=(HSB.out W).1 hS;have q0:=hSS.cell 11 _ rfl;go_simp⟩)
 try go_simp
 refine tk 5 (.pointer (some ⟨w.heap.size,12,none⟩)) rfl hH0 ?_
 try go_simp
 refine tk 6 (.int .i64 v) rfl hH0 ?_ (hy:=Or.inl ⟨by kernel_rfl,fun W hS=>by have hSS:=(HSB.out W).1 hS;have q0:=hSS.cell 12 _ rfl;go_simp⟩)
 try go_simp
 refine tk 7 (.pointer (some ⟨w.heap.size,13,none⟩)) rfl hH0 ?_
 try go_simp
 refine tk 8 (.int .i64 er) rfl hH0 ?_ (hy:=Or.inl ⟨by kernel_rfl,fun W hS=>by have hSS:=(HSB.out W).1 hS;have q0:=hSS.cell 13 _ rfl;go_simp⟩)
 try go_simp
 have HC:Calls Tryz.prog 17 #[vt] w0 (RetRef w0 t x):=by rw[HVT.out];exact ref_t t x w0 (HT.out.below BB.out) HM.out
 refine rdy 2 rfl (fun KK0 hK=>?_)
 rw[if_pos (by kernel_rfl)]
 refine Step2.calls_wp _ _ _ (HC) (Step2.run_call _ _ _ rfl rfl Tryz.func17 (by kernel_rfl) (by kernel_rfl) _ (by kernel_rfl)) ?_
 rintro e w2 hq
 obtain ⟨Fr,fr,he,ho,b_⟩:=hq
 have he2:e=.returned (.agg #[.int .i64 t.who,.int .i64 t.snap,.int .i64 t.pc,.slice x.R t.regs.length x.rc,.slice x.P t.path.length x.pc,.slice x.D t.reads.length x.dc,.slice x.L t.log.list.length x.lc,.slice x.M t.log.marks.length x.mc,.slice Fr x.fl.length fr,.int .i64 t.kind,.int .i64 t.why]):=he
 clear he
 subst he2
 refine ⟨_,rfl,?_⟩
 have HRF:=Lh (own_cap ho).2.2
 replace KA:=Lh (KA.out.below b_)
 replace KB:=Lh (KB.out.below b_)
 have HOW:=Lh ho
 have HS0:=Lh b_.size
 replace BB:=Lh (bl_trans BB.out b_)
 clear b_ HC ho
 refine hK.out _ _ ((HSB.out _).2 KA.out) (fun hH1=>?_)
 clear hK KK0
 try go_simp
 obtain ⟨vy,hvy⟩:∃vq_:Value,vq_=.agg #[.int .i64 t.who,.int .i64 t.snap,.int .i64 t.pc,.slice x.R t.regs.length x.rc,.slice x.P t.path.length x.pc,.slice x.D t.reads.length x.dc,.slice x.L t.log.list.length x.lc,.slice x.M t.log.marks.length x.mc,.slice Fr x.fl.length fr,.int .i64 t.kind,.int .i64 t.why,.int .i64 p,.int .i64 v,.int .i64 er]:=⟨_,rfl⟩
 have HVY:=Lh hvy
 clear hvy
 refine tk 9 vy rfl hH1 ?_ (hy:=Or.inl ⟨by kernel_rfl,fun W hS=>by rw[HVY.out];go_simp⟩)
 try go_simp
 refine take_store 10 rfl (by kernel_rfl) (by kernel_rfl) 73 (.tmp 2) (.tmp 12) rfl (w.heap.size+1) _ rfl HVY.out _ _ KB.out (by kernel_rfl) rfl (by simp[Value.oneCell']) (fun wn kb ON=>?_)
 refine ⟨(HSB.out _).2 (ON.blk KA.out (by omega)),?_⟩
 try go_simp
 refine wpAnyH_done (by kernel_rfl) ?_ _
 try go_simp
 go_wp2_with fail
 have fr0:=kb.cell 0 _ rfl
 have fr1:=kb.cell 1 _ rfl
 have fr2:=kb.cell 2 _ rfl
 have fr3:=kb.cell 3 _ rfl
 have fr4:=kb.cell 4 _ rfl
 have fr5:=kb.cell 5 _ rfl
 have fr6:=kb.cell 6 _ rfl
 have fr7:=kb.cell 7 _ rfl
 have fr8:=kb.cell 8 _ rfl
 have fr9:=kb.cell 9 _ rfl
 have fr10:=kb.cell 10 _ rfl
 have fr11:=kb.cell 11 _ rfl
 have fr12:=kb.cell 12 _ rfl
 have fr13:=kb.cell 13 _ rfl
 refine bodyPost_ret (v:=.agg #[.int .i64 t.who,.int .i64 t.snap,.int .i64 t.pc,.slice x.R t.regs.length x.rc,.slice x.P t.path.length x.pc,.slice x.D t.reads.length x.dc,.slice x.L t.log.list.length x.lc,.slice x.M t.log.marks.length x.mc,.slice Fr x.fl.length fr,.int .i64 t.kind,.int .i64 t.why,.int .i64 p,.int .i64 v,.int .i64 er]) (by simp[results,Tryz.results33,go_sem,fr0,fr1,fr2,fr3,fr4,fr5,fr6,fr7,fr8,fr9,fr10,fr11,fr12,fr13]) rfl ?_
 rw[←HPQ.out]
 exact ⟨Fr,fr,rfl,rd_only HRF.out ON (fun b off e hn hb=>by have h1:=HOW.out.base b (by rw[e];rfl);have h2:=HSZ.out;omega),BB.out.trans (ON.below BB.out.size (fun k hk e=>by omega))⟩
set_option maxHeartbeats 3000000 in
theorem refsame (c:Com) (x y:TL) (w:World) (hx:TRd w c.t x) (hy:TRd w c.t y) (hs:Short c.t x) (hf:c.t.frames= []):
  Calls Tryz.prog 32 #[.agg (cvl c x).toArray,.agg (cvl c y).toArray] w (RetB w true):=by
 obtain ⟨t,p,v,er⟩:=c
 have BB:Hid (Below w.heap.size w ((w.alloc (.cells (aC t x p v er) 73)).alloc (.cells (aC t y p v er) 73))):=Lh (bl_alloc (bl_alloc (Below.refl _ _) _) _)
 have HC:Hid (Calls Tryz.prog 16 #[.agg (aT t x),.agg (aT t y)] ((w.alloc (.cells (aC t x p v er) 73)).alloc (.cells (aC t y p v er) 73)) (RetB ((w.alloc (.cells (aC t x p v er) 73)).alloc (.cells (aC t y p v er) 73)) true)):=Lh (same11 t x y _ (TRd.below hx BB.out) (TRd.below hy BB.out) hs.n1 hs.n2 hs.n3 hs.n4 hs.n5 hs.n6 (fun f hm=>by have e:t.frames= []:=hf;rw[e]at hm;cases hm))
 clear hx hy hs hf
 show Calls Tryz.prog 32 #[.agg (aC t x p v er),.agg (aC t y p v er)] w (RetB w true)
 have KA:Hid (Blk ((w.alloc (.cells (aC t x p v er) 73)).alloc (.cells (aC t y p v er) 73)) w.heap.size 73 (aC t x p v er)):=Lh ((Blk.new w _ _).alloc _)
 have KB:Hid (Blk ((w.alloc (.cells (aC t x p v er) 73)).alloc (.cells (aC t y p v er) 73)) (w.heap.size+1) 73 (aC t y p v er)):=Lh (by have:=Blk.new (w.alloc (.cells (aC t x p v er) 73)) 73 (aC t y p v er);simpa only[World.size_alloc] using this)
 have a0:=KA.out.cell 0 _ rfl
 have a1:=KA.out.cell 1 _ rfl
 have a2:=KA.out.cell 2 _ rfl
 have a3:=KA.out.cell 3 _ rfl
 have a4:=KA.out.cell 4 _ rfl
 have a5:=KA.out.cell 5 _ rfl
 have a6:=KA.out.cell 6 _ rfl
 have a7:=KA.out.cell 7 _ rfl
 have a8:=KA.out.cell 8 _ rfl
 have a9:=KA.out.cell 9 _ rfl
 have a10:=KA.out.cell 10 _ rfl
 have b0:=KB.out.cell 0 _ rfl
 have b1:=KB.out.cell 1 _ rfl
 have b2:=KB.out.cell 2 _ rfl
 have b3:=KB.out.cell 3 _ rfl
 have b4:=KB.out.cell 4 _ rfl
 have b5:=KB.out.cell 5 _ rfl
 have b6:=KB.out.cell 6 _ rfl
 have b7:=KB.out.cell 7 _ rfl
 have b8:=KB.out.cell 8 _ rfl
 have b9:=KB.out.cell 9 _ rfl
 have b10:=KB.out.cell 10 _ rfl
 go_enter Tryz.func32,Tryz.ntmps32
 go_wp2_with fail
 clear a0 b0 a1 b1 a2 b2 a3 b3 a4 b4 a5 b5 a6 b6 a7 b7 a8 b8 a9 b9 a10 b10
 generalize ((w.alloc (.cells (aC t x p v er) 73)).alloc (.cells (aC t y p v er) 73))=W1 at *
 refine HC.out.mono ?_
 rintro e w2 ⟨rfl,b_⟩
 replace KA:=Lh (KA.out.below b_)
 replace KB:=Lh (KB.out.below b_)
 replace BB:=Lh (bl_trans BB.out b_)
 clear b_ HC
 have a11:=KA.out.cell 11 _ rfl
 have a12:=KA.out.cell 12 _ rfl
 have a13:=KA.out.cell 13 _ rfl
 have b11:=KB.out.cell 11 _ rfl
 have b12:=KB.out.cell 12 _ rfl
 have b13:=KB.out.cell 13 _ rfl
 go_wp2
 go_ret
 exact ⟨rfl,BB.out⟩
end Go.Proofs.YtgghaodcfgbjlaaGreat.Commit
namespace Go.Proofs.YtgghaodcfgbjlaaGreat.Commit
open Mem Go.Proofs.YtgghaodcfgbjlaaGreat.Attempt
theorem may_hit (r:List Stripe.Rec) (who:Int) (l:List Int) (h:Stripe.mayAll r who l=true) (k:Nat) (x:Stripe.Rec) (hx:r[k]?=some x) (hh:Stripe.hit r.length l k=true):x.owner≤0∨x.owner=who:=by
 unfold Stripe.mayAll at h
 have h1:Stripe.may1 r.length who l k x=true:=List.all_eq_true.1 h _ (List.mem_of_getElem? (i:=k) (by rw[List.getElem?_mapIdx,hx];rfl))
 unfold Stripe.may1 at h1
 rw[hh]at h1
 simpa using h1
theorem lockS_other (r:List Stripe.Rec) (who other:Int) (l:List Int) (h:Stripe.rightB r=true) (hw:Stripe.whoB who=true) (hne:who≠other):Stripe.heldS (Stripe.lockS r who l).1 other=Stripe.heldS r other:=by
 unfold Stripe.lockS
 split
 ·split
  ·rename_i h1 h2
   exact Stripe.lock_other r who other l h hw hne (fun k x hx hh=>may_hit r who l h2 k x hx hh)
  ·rfl
 ·rfl
theorem stampS_other (r:List Stripe.Rec) (who other v:Int) (h:Stripe.rightB r=true) (hne:who≠other):Stripe.heldS (Stripe.stampS r who v).1 other=Stripe.heldS r other:=by
 have h9:=stamp_right_ r who v h
 rcases stamp_cases r who v with ⟨_,e⟩ | ⟨_,_,_,_,e⟩
 ·rw[e]
 ·rw [e]at h9 ⊢
  refine Stripe.held_congr _ _ other (by simp) (by rw[h];exact h9) ?_
  intro k x y hx hy ho
  simp only[List.getElem?_map,hy,Option.map_some,Option.some.injEq]at hx
  subst hx
  have h2:=(Stripe.who_iff _).1 ho
  unfold Stripe.stamp1
  split
  ·rename_i hh
   have a:((0:Int)==other)=false:=beq_eq_false_iff_ne.2 (by omega)
   have b:(y.owner==other)=false:=beq_eq_false_iff_ne.2 (by rw[hh];exact hne)
   first | (rw[a,b];done) | (constructor <;> intro hq <;> simp_all) | simp_all
  ·first | rfl | exact Iff.rfl
theorem outC_other (c:Com) (W:Wd) (e other:Int) (h:Stripe.rightB W.r=true) (hne:c.t.who≠other):Stripe.heldS (outC c W e).2.r other=Stripe.heldS W.r other:=Stripe.let_other W.r c.t.who other h hne
theorem doC_other (c:Com) (W:Wd) (other:Int) (h:Stripe.rightB W.r=true) (hw:Stripe.whoB c.t.who=true) (hne:c.t.who≠other):Stripe.heldS (doC c W).2.1.r other=Stripe.heldS W.r other:=by
 unfold doC
 split
 ·exact lockS_other W.r c.t.who other (cellsC c) h hw hne
 split
 ·unfold tickC;split <;> rfl
 split
 ·rfl
 split
 ·rfl
 ·exact stampS_other W.r c.t.who other c.v h hne
theorem goC_other (c:Com) (W:Wd) (other:Int) (hJ:J c W) (hp:c.ph≤4) (hne:c.t.who≠other):Stripe.heldS (goC c W).2.r other=Stripe.heldS W.r other:=by
 have hr:=((right_parts W).1 hJ.right).2.1
 have h1:=doC_other c W other hr hJ.who hne
 unfold goC
 split
 ·exact h1
 ·have h2:=((right_parts _).1 (do_keep c W hJ hp).1).2.1
  rw[outC_other _ _ _ other h2 (by rw[(do_t c W).1];exact hne)]
  exact h1
theorem goC_phase (c:Com) (W:Wd) (hJ:J c W) (hp:c.ph≤4):stepC c W=(goC c W,0)∧J (goC c W).1 (goC c W).2∧((goC c W).1.ph=c.ph+1∨(goC c W).1.ph=6):=⟨step_j c W hJ hp,go_keep c W hJ hp,(go_t c W).2⟩
theorem step_end_ (c:Com) (W:Wd) (hp:c.ph=5∨c.ph=6):stepC c W=((c,W),1):=by
 unfold stepC
 rw[if_neg (by unfold phaseB;simp;intro _ _;omega)]
open Go.ChangeShapes Go.WideShapes Go.ChangeAt Go.RowKit Go.Deep Go.Proofs.YtgghaodcfgbjlaaGreat.Code
structure CRaw where
 W:Wd
 z:WL
instance:Inhabited CRaw:=⟨⟨⟨[],[],0⟩,⟨none,0,none,0⟩⟩⟩
def cw (x:CRaw):List Value:=wvl x.W x.z
def CGood (w:World) (x:CRaw):Prop:=WRd w x.W x.z∧x.W.h.length≤9223372036854775807∧x.W.r.length≤9223372036854775807∧∀c∈x.W.h,Heap.Fits c.value
theorem CGood.below {w w' :World} {x:CRaw} (h:CGood w x) (hb:Below w.heap.size w w'):CGood w' x:=⟨h.1.below hb,h.2⟩
theorem trod_cworld {H:Type} {enc:TypeId × Value→H} {W:World} {fuel:Nat} {cs' :List Value} {x:DataW H × List MemPlace} (hl:cs'.length=3)
  (ht:DataW.trod enc Tryz.prog W 0 (fun _=>true) true fuel 63 cs' =some x):∃y:CRaw,cs' =cw y∧CGood W y:=by
 obtain ⟨xs,n',_,_,_,hxl,hf⟩:=DataW.trod_struct Tryz.underlying63 ht
 match cs',hl with
 | [c0,c1,c2],_=>
  have g0:=hf 0 _ rfl
  have g1:=hf 1 _ rfl
  have g2:=hf 2 _ rfl
  have k3:Tryz.prog.cellsOf 48=1:=by kernel_rfl
  have k4:Tryz.prog.cellsOf 49=1:=by kernel_rfl
  have k5:Tryz.prog.cellsOf 3=1:=by kernel_rfl
  match xs,hxl with
  | [y0,y1,y2],_=>
   simp[k3,k4,k5]at g0 g1 g2
   obtain ⟨A0,n0,c0,rfl⟩:=slice_cell Tryz.underlying48 g0
   obtain ⟨A1,n1,c1,rfl⟩:=slice_cell Tryz.underlying49 g1
   obtain ⟨k,e2,_,wf2⟩:=DataW.trod_int Tryz.underlying3 g2
   injection e2 with e2
   subst e2
   obtain ⟨ha,hb,h1,hr,hl0,hf0⟩:=Heap.open_cells (A:=A0) (n:=n0) (c:=c0) (d:=y0.1) (p:=y0.2) ⟨_,g0⟩
   obtain ⟨hc,hd,l1,hr1,hl1,_⟩:=Stripe.open_recs (A:=A1) (n:=n1) (c:=c1) (d:=y1.1) (p:=y1.2) ⟨_,g1⟩
   subst hl0 hl1
   exact ⟨⟨⟨h1,l1,k⟩,⟨A0,c0,A1,c1⟩⟩,rfl,⟨hr,hr1⟩,by show h1.length≤_;omega,by show l1.length≤_;omega,hf0⟩
theorem open_cworld {H:Type} {enc:TypeId × Value→H} {W:World} {r:Reach} {base:Nat} {v:Value} {d:DataW H} {p:List MemPlace} (hv:Value.okWide Tryz.prog W r base 63 v)
  (h:DataW.Trod enc Tryz.prog W 0 (fun _=>true) true 63 v d p):
  ∃x:CRaw,v=.agg (wvl x.W x.z).toArray∧CGood W x:=by
 obtain ⟨cs,rfl,hsz⟩:=okWide_struct Tryz.underlying63 hv
 have k4:Tryz.prog.cellsOf 63=3:=by kernel_rfl
 obtain ⟨fuel,hf⟩:=h
 obtain ⟨y,e,hy⟩:=trod_cworld (cs' :=cs.toList) (by rw[Array.length_toList,hsz,k4]) (by simpa [Value.cells] using hf)
 refine ⟨y,?_,hy⟩
 have:cs=(cw y).toArray:=by rw[←e]
 rw[this];rfl
end Go.Proofs.YtgghaodcfgbjlaaGreat.Commit
namespace Go.Proofs.YtgghaodcfgbjlaaGreat.Commit
open Mem Go.Proofs.YtgghaodcfgbjlaaGreat.Attempt Go.Proofs.YtgghaodcfgbjlaaGreat.Code
theorem stop_who (n:Nat) (t:Try):(stop n t).who=t.who:=by unfold stop;split <;> rfl
theorem settle_who (n:Nat):∀(fs:List Attempt.Frame) (t:Try),(settleF n fs t).who=t.who
 | [],t=>by unfold settleF;rw[stop_who]
 | f::fs,t=>by
  unfold settleF
  by_cases h:f.mid=t.pc
  ·rw[if_pos h,settle_who n fs]
  ·rw[if_neg h,stop_who]
theorem live_who (t:Try) (a b v:Int) (x:Stripe.Rec):(liveT t a b v x).who=t.who:=by
 unfold liveT
 by_cases h:(Writes.getS t.log b).2=true
 ·rw[if_pos h];rfl
 ·rw [if_neg h]
  cases Reads.findS t.reads b with
  | some y=>rfl
  | none=>
   show (if x.owner=0∧x.version≤t.snap then _ else _:Try).who=t.who
   by_cases h2:x.owner=0∧x.version≤t.snap
   ·rw[if_pos h2];rfl
   ·rw[if_neg h2];rfl
theorem load_who (t:Try) (s:Step) (h:List Heap.Cell) (r:List Stripe.Rec):(loadT t s h r).who=t.who:=by
 unfold loadT
 by_cases h1:Heap.liveAt h s.b=true
 ·rw[if_pos h1];exact live_who _ _ _ _ _
 ·rw[if_neg h1];rfl
theorem store_who (t:Try) (s:Step) (h:List Heap.Cell):(storeT t s h).who=t.who:=by
 unfold storeT
 by_cases h1:Heap.liveAt h s.a=true
 ·rw[if_pos h1];rfl
 ·rw[if_neg h1];rfl
theorem skip_who (t:Try) (s:Step) (h:List Heap.Cell):(skipT t s h).who=t.who:=by
 unfold skipT
 by_cases h1:tellT t s.t h=0
 ·rw[if_pos h1];rfl
 ·rw[if_neg h1];rfl
theorem retry_who (t:Try):(retryT t).who=t.who:=by unfold retryT;split <;> rfl
theorem do_who (t:Try) (s:Step) (h:List Heap.Cell) (r:List Stripe.Rec):(doT t s h r).who=t.who:=by
 unfold doT
 by_cases h1:s.d=1
 ·rw[if_pos h1];exact load_who t s h r
 by_cases h2:s.d=2
 ·rw[if_neg h1,if_pos h2];rfl
 by_cases h3:s.d=3
 ·rw[if_neg h1,if_neg h2,if_pos h3];exact store_who t s h
 by_cases h4:s.d=4
 ·rw[if_neg h1,if_neg h2,if_neg h3,if_pos h4];exact skip_who t s h
 by_cases h5:s.d=5
 ·rw[if_neg h1,if_neg h2,if_neg h3,if_neg h4,if_pos h5];exact retry_who t
 by_cases h6:s.d=6
 ·rw[if_neg h1,if_neg h2,if_neg h3,if_neg h4,if_neg h5,if_pos h6];rfl
 ·rw[if_neg h1,if_neg h2,if_neg h3,if_neg h4,if_neg h5,if_neg h6];rfl
theorem step_who {c:List Step} {h:List Heap.Cell} {r:List Stripe.Rec} {t T:Try} (hS:stepS c h r t=(T,true)):T.who=t.who:=by
 unfold stepS at hS
 split at hS
 ·split at hS
  ·have e:=(Prod.mk.inj hS).1
   subst e
   unfold moveS Attempt.settle
   split
   ·rw[settle_who,do_who]
   ·exact do_who _ _ _ _
  ·cases (Prod.mk.inj hS).2
 ·cases (Prod.mk.inj hS).2
theorem tried_inv {c:List Step} {who snap:Int} {h:List Heap.Cell} {r:List Stripe.Rec} {T:Try} (hT:triedS c who snap h r=(T,true)):Inv c T∧T.who=who∧Stripe.whoB who=true:=by
 unfold triedS at hT
 split at hT
 ·rename_i h1
  have hb:beginS c who snap=((beginS c who snap).1,true):=Prod.ext rfl h1
  have hi:=begin_inv hb
  have hf:=begin_first h1
  have e2:(runS c h r (beginS c who snap).1)=(T,(runS c h r (beginS c who snap).1).2.1,true):=Prod.ext (Prod.mk.inj hT).1 (Prod.ext rfl (Prod.mk.inj hT).2)
  have hw0:(beginS c who snap).1.who=who:=by rw[hf];unfold first Attempt.settle;rw[settle_who]
  refine ⟨(run_inv hi e2).1,?_,?_⟩
  ·unfold runS at e2
   split at e2
   ·rename_i h2
    rcases run_ind (P:=fun t=>t.who=who) (fun t T' _ hp hs=>by rw[step_who hs];exact hp) (c.length+1) (beginS c who snap).1 0 hi hw0 (.inl (Nat.le_add_right _ _)) h2 with ⟨a,_⟩ | ⟨_,a⟩
    ·rw[e2]at a;exact a
    ·rw[e2]at a;rw[(Prod.mk.inj a).1];exact hw0
   ·cases (Prod.mk.inj (Prod.mk.inj e2).2).2
  ·unfold beginS at h1
   split at h1
   ·rename_i h2
    unfold begB at h2
    rw[Bool.and_eq_true,Bool.and_eq_true]at h2
    exact h2.2.1
   ·cases h1
 ·cases (Prod.mk.inj hT).2
theorem last_none (l:Writes.Log) (hr:Writes.rightB l=true) (h:Writes.lastS l= []):l.list= []:=by
 unfold Writes.lastS at h
 rw[if_pos hr]at h
 cases hl:l.list with
 | nil=>rfl
 | cons x t=>
  obtain ⟨y,hy,-⟩:=Writes.last_cell l.list x (by rw[hl];exact List.mem_cons_self ..)
  rw[h]at hy;cases hy
structure SI (c0:Com) (W:Wd) (other:Int) (i:Nat) (c:Com) (V:Wd):Prop where
 j:J c V
 t:c.t=c0.t
 ph:c.ph=(i:Int)∨c.ph=6∨(c.ph=5∧c0.t.log.list= [])
 le:i≤5
 all:allF 6 c0 W=allF (6 - i) c V
 held:Stripe.heldS V.r other=Stripe.heldS W.r other
 lh:V.h.length=W.h.length
 lr:V.r.length=W.r.length
theorem si_0 {c:List Step} {who snap:Int} {W:Wd} {T:Try} {c0:Com} (other:Int) (hT:triedS c who snap W.h W.r=(T,true)) (hb:beginC T=(c0,true)) (hr:rightW W=true):SI c0 W other 0 c0 W∧c0.t=T:=by
 obtain ⟨hi,hw,hwb⟩:=tried_inv hT
 unfold beginC at hb
 split at hb
 ·split at hb
  ·rename_i h1 h2
   have e:=(Prod.mk.inj hb).1
   subst e
   exact ⟨⟨⟨hr,by show Stripe.whoB T.who=true;rw[hw];exact hwb,fun h=>by have h3:(5:Int)=2∨(5:Int)=3∨(5:Int)=4:=h;omega,by show (0:Int)≤5∧(5:Int)≤6;omega⟩,rfl,.inr (.inr ⟨rfl,last_none T.log hi.log h2⟩),by decide,rfl,rfl,rfl,rfl⟩,rfl⟩
  ·have e:=(Prod.mk.inj hb).1
   subst e
   exact ⟨⟨⟨hr,by show Stripe.whoB T.who=true;rw[hw];exact hwb,fun h=>by have h3:(0:Int)=2∨(0:Int)=3∨(0:Int)=4:=h;omega,by show (0:Int)≤0∧(0:Int)≤6;omega⟩,rfl,.inl rfl,by decide,rfl,rfl,rfl,rfl⟩,rfl⟩
 ·cases (Prod.mk.inj hb).2
theorem si_go {c0 c:Com} {W V:Wd} {other:Int} {i:Nat} (h:SI c0 W other i c V) (hp:¬(c.ph=5∨c.ph=6)) (hne:c0.t.who≠other):stepC c V=(goC c V,0)∧SI c0 W other (i+1) (goC c V).1 (goC c V).2:=by
 have hi:c.ph=(i:Int):=by
  rcases h.ph with h1 | h1 | ⟨h1,-⟩
  ·exact h1
  ·exact absurd (.inr h1) hp
  ·exact absurd (.inl h1) hp
 have h5:i≠5:=fun e=>hp (.inl (by rw[hi,e];rfl))
 have hle:=h.le
 have h4:c.ph≤4:=by omega
 obtain ⟨s1,s2,s3⟩:=goC_phase c V h.j h4
 have hg:=go_t c V
 have hl:=go_len c V
 refine ⟨s1,s2,by rw[hg.1,h.t],?_,by omega,?_,by rw[goC_other c V other h.j h4 (by rw[h.t];exact hne)];exact h.held,by rw[hl.2];exact h.lh,by rw[hl.1];exact h.lr⟩
 ·rcases s3 with s3 | s3
  ·exact .inl (by rw[s3,hi];push_cast;rfl)
  ·exact .inr (.inl s3)
 ·rw [h.all,show 6 - i=(6 - (i+1))+1 by omega]
  exact allF_step _ c V hp (by rw[s1])
theorem si_end {c0 c:Com} {W V:Wd} {other:Int} {i:Nat} (h:SI c0 W other i c V) (hp:c.ph=5∨c.ph=6):stepC c V=((c,V),1)∧allC c0 W=((c,V),0):=by
 refine ⟨step_end_ c V hp,?_⟩
 unfold allC
 rw[h.all,allF_end _ c V hp]
 rfl
theorem si_five {c0 c:Com} {W V:Wd} {other:Int} {i:Nat} (h:SI c0 W other i c V) (hp:c.ph=5) (hl:c0.t.log.list≠ []):i=5:=by
 rcases h.ph with h1 | h1 | ⟨-,h1⟩
 ·omega
 ·omega
 ·exact absurd h1 hl
end Go.Proofs.YtgghaodcfgbjlaaGreat.Commit
