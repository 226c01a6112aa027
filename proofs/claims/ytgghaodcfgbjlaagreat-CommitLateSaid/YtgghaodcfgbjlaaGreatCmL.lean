/-
  PROVED: the law CommitLate returns true for any steps, any two numbers, any world, any number and either truth (at most 40 steps, of at most 20 operations each, and a world of at most 80 cells and 30 records are looked at). No further conditions.
-/
import Derived.Test.YtgghaodcfgbjlaaGreatCmD
import Derived.Test.YtgghaodcfgbjlaaGreatCmC
import Derived.Test.YtgghaodcfgbjlaaGreatCmB
import Derived.Test.YtgghaodcfgbjlaaGreatAttG
import Derived.Test.YtgghaodcfgbjlaaGreatStripeA
import Derived.BigQuiet
import Derived.Test.YtgghaodcfgbjlaaGreatCodeA
import Derived.WalkKit
import Derived.ProofKit
import Derived.OpenShut
import Derived.ChangeOld
import Derived.Below
import Derived.Carry
set_option maxRecDepth 100000
namespace Go.Proofs.YtgghaodcfgbjlaaGreat.Commit
open Mem Go.Proofs.YtgghaodcfgbjlaaGreat.Attempt Go.Proofs.YtgghaodcfgbjlaaGreat.Code
def Bad (r:List Stripe.Rec) (who snap:Int) (i:Nat):Prop:=∃y,r[i]?=some y∧((0<y.owner∧y.owner≠who)∨snap<y.version)
theorem bad_lock (r:List Stripe.Rec) (who snap:Int) (l:List Int) (i:Nat) (h:Bad r who snap i) (he:(Stripe.lockS r who l).2=0):Bad (Stripe.lockS r who l).1 who snap i:=by
 obtain ⟨y,hy,hb⟩:=h
 unfold Stripe.lockS at he ⊢
 split at he
 ·rename_i h1
  rw[if_pos h1]
  split at he
  ·rename_i h2
   rw[if_pos h2]
   refine ⟨Stripe.lock1 r.length who l i y,by show (r.mapIdx (Stripe.lock1 r.length who l))[i]?=_;rw[List.getElem?_mapIdx,hy];rfl,?_⟩
   unfold Stripe.lock1
   split
   ·rename_i hh
    rcases hb with hb | hb
    ·rcases may_hit r who l h2 i y hy hh with h3 | h3
     ·omega
     ·exact absurd h3 hb.2
    ·exact .inr hb
   ·exact hb
  ·simp at he
 ·simp at he
theorem lock_err (r:List Stripe.Rec) (who:Int) (l:List Int) (hr:Stripe.rightB r=true) (hw:Stripe.whoB who=true) (hl:Stripe.cellsB l=true):(Stripe.lockS r who l).2=0∨(Stripe.lockS r who l).2=7:=by
 unfold Stripe.lockS
 rw[hr,hw,hl,if_pos (by rfl)]
 split
 ·exact .inl rfl
 ·exact .inr rfl
theorem bad_valid (l:List Reads.Read) (r:List Stripe.Rec) (who snap:Int) (x:Reads.Read) (hx:x∈l) (hs:x.version≤snap) (hb:Bad r who snap (x.cell % (r.length:Int)).toNat) (hl:Reads.rightB l=true) (hr:Stripe.rightB r=true) (hw:Stripe.whoB who=true):
  Reads.validS l r who=8:=by
 unfold Reads.validS
 rw[hl,hr,hw,if_pos (by rfl),if_neg]
 intro h
 have h1:=List.all_eq_true.1 h x hx
 obtain ⟨y,hy,hb⟩:=hb
 unfold Reads.asB at h1
 rw[hy]at h1
 simp only[Bool.and_eq_true,Bool.or_eq_true,beq_iff_eq]at h1
 omega
theorem cells_ok {c:List Step} {t:Try} (h:Inv c t) (p v e:Int):Stripe.cellsB (cellsC ⟨t,p,v,e⟩)=true:=by
 unfold Stripe.cellsB cellsC lastC
 rw[List.all_eq_true]
 intro z hz
 obtain ⟨x,hx,rfl⟩:=List.mem_map.1 hz
 have hr:=h.log
 have hx2:x∈t.log.list:=by
  unfold Writes.lastS at hx
  rw[if_pos hr]at hx
  exact Writes.last_sub _ x hx
 unfold Writes.rightB at hr
 rw[Bool.and_eq_true]at hr
 have h1:=hr.1
 unfold Writes.listB at h1
 rw[Bool.and_eq_true]at h1
 have h2:=List.all_eq_true.1 h1.2 x hx2
 unfold Writes.oneB at h2
 rw[Bool.and_eq_true,decide_eq_true_eq]at h2
 rw[decide_eq_true_eq];exact h2.1
theorem late_all (c:Com) (V:Wd) (hJ:J c V) (h0:c.ph=0) (hc:Stripe.cellsB (cellsC c)=true) (hrd:Reads.rightB c.t.reads=true) (hk:V.k+1≤2147483647) (snap:Int) (x:Reads.Read) (hx:x∈c.t.reads) (hs:x.version≤snap)
  (hb:Bad V.r c.t.who snap (x.cell % (V.r.length:Int)).toNat):(allC c V).1.1.ph=6∧((allC c V).1.1.e=8∨(allC c V).1.1.e=7):=by
 have hall:allC c V=allF 6 c V:=by
  unfold allC
  rw[if_pos (all_j c V hJ 6 (by have:=left_le c;omega)).1]
 rw[hall]
 obtain ⟨a,b,d,e⟩:=(right_parts V).1 hJ.right
 have s0:=step_j c V hJ (by omega)
 rw[allF_step 5 c V (by omega) (by rw[s0])]
 have hJ1:=go_keep c V hJ (by omega)
 have hd0:doC c V=lockC c V:=by unfold doC;rw[if_pos h0]
 rcases lock_err V.r c.t.who (cellsC c) b hJ.who hc with h7 | h7
 ·
  have hg:goC c V=({ c with ph:=c.ph+1 },{ V with r:=(Stripe.lockS V.r c.t.who (cellsC c)).1 }):=by
   unfold goC;rw[hd0];unfold lockC;rw[if_pos h7]
  rw[hg]at hJ1 ⊢
  have hb1:=bad_lock V.r c.t.who snap (cellsC c) _ hb h7
  have hl1:(Stripe.lockS V.r c.t.who (cellsC c)).1.length=V.r.length:=by have:=(do_len c V).1;rw[hd0]at this;exact this
  obtain ⟨r1,hr1⟩:∃r1,(Stripe.lockS V.r c.t.who (cellsC c)).1=r1:=⟨_,rfl⟩
  rw[hr1]at hJ1 hb1 hl1 ⊢
  have p1:c.ph+1=1:=by omega
  have s1:=step_j _ _ hJ1 (by show c.ph+1≤4;omega)
  rw[allF_step 4 _ _ (by show¬(c.ph+1=5∨c.ph+1=6);omega) (by rw[s1])]
  have hJ2:=go_keep _ _ hJ1 (by show c.ph+1≤4;omega)
  have hk0:0≤V.k:=by unfold Reads.timeB at d;rw[decide_eq_true_eq]at d;exact d.1
  have ht:Tick.nextS V.k=(V.k+1,0):=by
   rcases tick_cases V.k with h | ⟨_,_,h⟩
   ·exfalso;apply h;unfold Tick.nextS;rw[if_pos ⟨hk0,by omega⟩,if_neg (by omega)]
   ·exact h
  have hd1:doC { c with ph:=c.ph+1 } { V with r:=r1 }=tickC { c with ph:=c.ph+1 } { V with r:=r1 }:=by
   unfold doC;rw[if_neg (by show¬c.ph+1=0;omega),if_pos p1]
  have ht1:tickC { c with ph:=c.ph+1 } { V with r:=r1 }=({ c with ph:=c.ph+1,v:=V.k+1 },{ V with r:=r1,k:=V.k+1 },0):=by
   unfold tickC
   dsimp only
   rw[ht]
   rfl
  have hg2:goC { c with ph:=c.ph+1 } { V with r:=r1 }=({ c with ph:=c.ph+1+1,v:=V.k+1 },{ V with r:=r1,k:=V.k+1 }):=by
   unfold goC
   rw[hd1,ht1]
   rfl
  rw[hg2]at hJ2 ⊢
  have s2:=step_j _ _ hJ2 (by show c.ph+1+1≤4;omega)
  rw[allF_step 3 _ _ (by show¬(c.ph+1+1=5∨c.ph+1+1=6);omega) (by rw[s2])]
  have hv:Reads.validS c.t.reads r1 c.t.who=8:=bad_valid c.t.reads r1 c.t.who snap x hx hs (by rw[hl1];exact hb1) hrd ((right_parts _).1 hJ1.right).2.1 hJ.who
  have hd2:doC { c with ph:=c.ph+1+1,v:=V.k+1 } { V with r:=r1,k:=V.k+1 }=checkC { c with ph:=c.ph+1+1,v:=V.k+1 } { V with r:=r1,k:=V.k+1 }:=by
   unfold doC;rw[if_neg (by show¬c.ph+1+1=0;omega),if_neg (by show¬c.ph+1+1=1;omega),if_pos (by show c.ph+1+1=2;omega)]
  have ht2:(checkC { c with ph:=c.ph+1+1,v:=V.k+1 } { V with r:=r1,k:=V.k+1 }).2.2=8:=hv
  have hg3:(goC { c with ph:=c.ph+1+1,v:=V.k+1 } { V with r:=r1,k:=V.k+1 }).1.ph=6∧(goC { c with ph:=c.ph+1+1,v:=V.k+1 } { V with r:=r1,k:=V.k+1 }).1.e=8:=by
   unfold goC
   rw[hd2,ht2,if_neg (by decide)]
   exact ⟨rfl,rfl⟩
  rw[allF_end 3 _ _ (.inr hg3.1)]
  exact ⟨hg3.1,.inl hg3.2⟩
 ·have h77:(lockC c V).2.2=7:=h7
  have hg:(goC c V).1.ph=6∧(goC c V).1.e=7:=by
   unfold goC
   rw[hd0,h77,if_neg (by decide)]
   exact ⟨rfl,rfl⟩
  rw[allF_end 5 _ _ (.inr hg.1)]
  exact ⟨hg.1,.inr hg.2⟩
theorem lock_bad (r r1:List Stripe.Rec) (who other snap cl:Int) (hr:Stripe.rightB r=true) (hl:Stripe.lockS r other [cl]=(r1,0)) (hne:who≠other) (hc:0≤cl):Bad r1 who snap (cl % (r.length:Int)).toNat∧r1.length=r.length:=by
 have hlen:=((Stripe.right_iff r).1 hr).1
 unfold Stripe.lockS at hl
 split at hl
 ·rename_i h1
  split at hl
  ·have e:Stripe.lockAll r other [cl]=r1:=congrArg Prod.fst hl
   rw[Bool.and_eq_true,Bool.and_eq_true]at h1
   have hw:=(Stripe.who_iff other).1 h1.1.2
   have hm:=Int.emod_nonneg cl (show (r.length:Int)≠0 by omega)
   have hm2:=Int.emod_lt_of_pos cl (show (0:Int)<(r.length:Int) by omega)
   have hi:(cl % (r.length:Int)).toNat<r.length:=by omega
   refine ⟨⟨⟨(r[(cl % (r.length:Int)).toNat]'hi).version,other⟩,?_,.inl ⟨hw.1,fun e=>hne e.symm⟩⟩,by rw[←e];simp[Stripe.lockAll]⟩
   rw[←e]
   show (r.mapIdx (Stripe.lock1 r.length other [cl]))[_]?=_
   rw[List.getElem?_mapIdx,List.getElem?_eq_getElem hi]
   show some (Stripe.lock1 _ _ _ _ _)=_
   unfold Stripe.lock1
   rw[if_pos]
   unfold Stripe.hit
   simp only[List.any_cons,List.any_nil,Bool.or_false,decide_eq_true_eq]
   omega
  ·simp at hl
 ·simp at hl
theorem stamp_bad (r r1:List Stripe.Rec) (who other k cl:Int) (hr:Stripe.rightB r=true) (ha:aboveB r k=true) (hl:Stripe.lockS r other [cl]=(r1,0)) (hk:0≤k∧k+1≤2147483647):
  Bad (Stripe.stampS r1 other (k+1)).1 who k (cl % (r.length:Int)).toNat∧(Stripe.stampS r1 other (k+1)).1.length=r.length:=by
 have hlen:=((Stripe.right_iff r).1 hr).1
 have ho:Stripe.whoB other=true:=by
  unfold Stripe.lockS at hl
  split at hl
  ·rename_i h1;rw[Bool.and_eq_true,Bool.and_eq_true]at h1;exact h1.1.2
  ·simp at hl
 have hw:=(Stripe.who_iff other).1 ho
 have hr1:Stripe.rightB r1=true:=by have:=lock_right_ r other [cl] hr ho;rw[hl]at this;exact this
 have ha1:aboveB r1 k=true:=by have:=lock_above r other k [cl] ha;rw[hl]at this;exact this
 have hst:Stripe.stampS r1 other (k+1)=(r1.map (Stripe.stamp1 other (k+1)),0):=by
  unfold Stripe.stampS
  rw[hr1,ho,if_pos (by rfl),if_pos ⟨by omega,hk.2⟩,if_pos]
  rw[Stripe.all_idx]
  intro i x hx
  unfold Stripe.below1
  have:=(above_iff r1 k).1 ha1 i x hx
  rw[Bool.or_eq_true,decide_eq_true_eq]
  exact .inr (by omega)
 have hm:=Int.emod_nonneg cl (show (r.length:Int)≠0 by omega)
 have hm2:=Int.emod_lt_of_pos cl (show (0:Int)<(r.length:Int) by omega)
 have hi:(cl % (r.length:Int)).toNat<r.length:=by omega
 have hat:∃v,r1[(cl % (r.length:Int)).toNat]?=some ⟨v,other⟩∧r1.length=r.length:=by
  unfold Stripe.lockS at hl
  split at hl
  ·split at hl
   ·have e:Stripe.lockAll r other [cl]=r1:=congrArg Prod.fst hl
    refine ⟨(r[(cl % (r.length:Int)).toNat]'hi).version,?_,by rw[←e];simp[Stripe.lockAll]⟩
    rw[←e]
    show (r.mapIdx (Stripe.lock1 r.length other [cl]))[_]?=_
    rw[List.getElem?_mapIdx,List.getElem?_eq_getElem hi]
    show some (Stripe.lock1 _ _ _ _ _)=_
    unfold Stripe.lock1
    rw[if_pos]
    unfold Stripe.hit
    simp only[List.any_cons,List.any_nil,Bool.or_false,decide_eq_true_eq]
    omega
   ·simp at hl
  ·simp at hl
 obtain ⟨v,hv,hle⟩:=hat
 rw[hst]
 refine ⟨⟨⟨k+1,0⟩,?_,.inr (by show k<k+1;omega)⟩,by simpa using hle⟩
 show (r1.map _)[_]?=_
 rw[List.getElem?_map,hv]
 show some (Stripe.stamp1 other (k+1) ⟨v,other⟩)=_
 unfold Stripe.stamp1
 rw[if_pos rfl]
theorem late_right (h:List Heap.Cell) (r r1:List Stripe.Rec) (k other cl:Int) (hW:rightW ⟨h,r,k⟩=true) (hl:Stripe.lockS r other [cl]=(r1,0)) (hk:k+1≤2147483647):
  rightW ⟨h,r1,k⟩=true∧rightW ⟨h,(Stripe.stampS r1 other (k+1)).1,k+1⟩=true:=by
 obtain ⟨a,b,d,e⟩:=(right_parts _).1 hW
 have ho:Stripe.whoB other=true:=by
  unfold Stripe.lockS at hl
  split at hl
  ·rename_i h1;rw[Bool.and_eq_true,Bool.and_eq_true]at h1;exact h1.1.2
  ·simp at hl
 have hr1:Stripe.rightB r1=true:=by have:=lock_right_ r other [cl] b ho;rw[hl]at this;exact this
 have ha1:aboveB r1 k=true:=by have:=lock_above r other k [cl] e;rw[hl]at this;exact this
 refine ⟨(right_parts _).2 ⟨a,hr1,d,ha1⟩,(right_parts _).2 ⟨a,stamp_right_ _ _ _ hr1,?_,stamp_above _ _ _ _ ?_ (Int.le_refl _)⟩⟩
 ·unfold Reads.timeB at d ⊢;rw[decide_eq_true_eq]at d ⊢;show 0≤k+1∧k+1≤_;have:=d.1;dsimp only at this;omega
 ·rw[above_iff];intro i x hx;have:=(above_iff r1 k).1 ha1 i x hx;show x.version≤k+1;omega
end Go.Proofs.YtgghaodcfgbjlaaGreat.Commit
namespace Go.Proofs.YtgghaodcfgbjlaaGreat.Commit
open Go.ChangeShapes Go.WideShapes Go.ChangeAt Go.RowKit Mem Go.Proofs.YtgghaodcfgbjlaaGreat.Attempt Go.Proofs.YtgghaodcfgbjlaaGreat.Code
theorem tried_done_any {c:List Step} {who snap:Int} {h:List Heap.Cell} {r:List Stripe.Rec} {T:Try} {b:Bool} (hT:triedS c who snap h r=(T,b)):T.kind=1→T.frames= []:=by
 cases b with
 | true=>exact tried_done hT
 | false =>
  unfold triedS at hT
  split at hT
  ·rename_i h1
   have e:(runS c h r (beginS c who snap).1).1=T:=(Prod.mk.inj hT).1
   have e2:(runS c h r (beginS c who snap).1).2.2=false:=(Prod.mk.inj hT).2
   unfold runS at e e2
   by_cases h2:(runF c h r (c.length+1) (beginS c who snap).1 0).2.2=true
   ·rw[if_pos h2,h2]at e2;cases e2
   ·rw [if_neg h2]at e
    have e:(beginS c who snap).1=T:=e
    rw[←e,begin_first h1];exact first_done c who snap
  ·rename_i h1
   have e:(beginS c who snap).1=T:=(Prod.mk.inj hT).1
   have h2:(beginS c who snap).2=false:=by simpa using h1
   have h3:=(begin_false (T:=(beginS c who snap).1) (Prod.ext rfl h2)).1
   rw[←e,h3];intro _;rfl
theorem small_val_ (l:List Raw) (n:Nat) (hl:l.length=n) (h:smallB l=true):smallI l=(n:Int):=by unfold smallI;rw[if_pos h,hl]
theorem small_neg_ (l:List Raw) (h:smallB l=false):smallI l= -1:=by unfold smallI;rw[h];rfl
theorem few_of {W:Wd} (h:smallW W=true):Few W:=by
 unfold smallW at h
 rw[Bool.and_eq_true,decide_eq_true_eq,decide_eq_true_eq]at h
 exact ⟨by omega,by omega⟩
theorem short_fl {t:Try} {x y:TL} (h:Short t x) (e:y.fl= []):Short t y:=⟨h.n1,h.n2,h.n3,h.n4,h.n5,by rw[e];decide⟩
theorem begin_lock_ {T t0:Try} {p0 v0 e0:Int} (hb:beginC T=(⟨t0,p0,v0,e0⟩,true)) (hp:p0≠5):t0=T∧p0=0∧v0=0∧e0=0:=by
 unfold beginC at hb
 split at hb
 ·split at hb
  ·have e:=(Prod.mk.inj hb).1
   simp only[Com.mk.injEq]at e
   exact absurd e.2.1.symm hp
  ·have e:=(Prod.mk.inj hb).1
   simp only[Com.mk.injEq]at e
   exact ⟨e.1.symm,e.2.1.symm,e.2.2.1.symm,e.2.2.2.symm⟩
 ·cases (Prod.mk.inj hb).2
theorem take_any_ {α:Type} (l:List α) (p:α→Bool) (k:Nat) (x:α) (hk:l[k]?=some x):(l.take (k+1)).any p=((l.take k).any p || p x):=by
 rw[List.take_add_one,hk,List.any_append];simp
theorem tried_snap {c:List Step} {who snap:Int} {h:List Heap.Cell} {r:List Stripe.Rec} {T:Try} (hT:triedS c who snap h r=(T,true)):T.snap=snap:=by
 unfold triedS at hT
 split at hT
 ·rename_i h1
  have hb:beginS c who snap=((beginS c who snap).1,true):=Prod.ext rfl h1
  have hi:=begin_inv hb
  have e2:(runS c h r (beginS c who snap).1)=(T,(runS c h r (beginS c who snap).1).2.1,true):=Prod.ext (Prod.mk.inj hT).1 (Prod.ext rfl (Prod.mk.inj hT).2)
  have hw0:(beginS c who snap).1.snap=snap:=begin_snap hb
  unfold runS at e2
  split at e2
  ·rename_i h2
   rcases run_ind (P:=fun t=>t.snap=snap) (fun t T' _ hp hs=>by rw[(step_reading hs).1];exact hp) (c.length+1) (beginS c who snap).1 0 hi hw0 (.inl (Nat.le_add_right _ _)) h2 with ⟨a,_⟩ | ⟨_,a⟩
   ·rw[e2]at a;exact a
   ·rw[e2]at a;rw[(Prod.mk.inj a).1];exact hw0
  ·cases (Prod.mk.inj (Prod.mk.inj e2).2).2
 ·cases (Prod.mk.inj hT).2
set_option maxHeartbeats 8000000 in
theorem late_walk (A:Option Addr) (n c:Nat) (who other:Int) (l:List Raw) (W:Wd) (z:WL) (cell:Int) (hold:Bool) (w:World) (hnc:n≤c) (mn:n≤9223372036854775807) (hat:At w A n l) (hw:WRd w W z) (hc0:0≤cell) (hc1:cell≤255):
  Calls Tryz.prog 7 #[.slice A n c,.int .i64 who,.int .i64 other,.agg (wvl W z).toArray,.int .u8 cell,.bool hold] w (RetB w true):=by
 obtain ⟨h_,r_,k⟩:=W
 have HL:=Lh hat.len
 show Calls Tryz.prog 7 #[.slice A n c,.int .i64 who,.int .i64 other,.agg (aW z h_ r_ k),.int .u8 cell,.bool hold] w (RetB w true)
 have BB:Hid (Below w.heap.size w (w.alloc (.cells (aW z h_ r_ k) 63))):=Lh (bl_alloc (Below.refl _ _) _)
 have KW:Hid (Blk (w.alloc (.cells (aW z h_ r_ k) 63)) w.heap.size 63 (aW z h_ r_ k)):=Lh (Blk.new w _ _)
 have HA0:=Lh (hat.below BB.out)
 have HW0:Hid (WRd (w.alloc (.cells (aW z h_ r_ k) 63)) ⟨h_,r_,k⟩ z):=Lh (hw.below BB.out)
 clear hat hw
 cases hs:smallB l with
 | false=>
  have HSM:=Lh (small_neg_ l hs)
  clear hs
  go_enter Tryz.func7,Tryz.ntmps7
  go_wp2_with fail
  generalize (w.alloc (.cells (aW z h_ r_ k) 63))=v0 at *
  refine (Code.small_c l A n c _ (-1) HA0.out mn HSM.out).mono ?_
  rintro e v1 ⟨rfl,b_⟩
  replace KW:=Lh (KW.out.below b_)
  replace HA0:=Lh (HA0.out.below b_)
  replace HW0:=Lh (HW0.out.below b_)
  replace BB:=Lh (bl_trans BB.out b_)
  clear b_
  go_wp2_with fail
  refine (awake_any _).mono ?_
  rintro e wz ⟨rfl,b_⟩
  replace BB:=Lh (bl_trans BB.out b_)
  clear b_
  go_wp2
  go_ret
  exact ⟨rfl,BB.out⟩
 | true =>
  obtain ⟨hlim,h40⟩:=small_lim l hs
  have HSM:=Lh (small_val_ l n HL.out hs)
  have HLM:=Lh hlim
  have hn40:n≤40:=by rw[←HL.out];exact h40
  clear hs hlim h40
  cases hsw:smallW ⟨h_,r_,k⟩ with
  | false=>
   have HSW:=Lh hsw
   clear hsw
   go_enter Tryz.func7,Tryz.ntmps7
   go_wp2_with fail
   generalize (w.alloc (.cells (aW z h_ r_ k) 63))=v0 at *
   refine (Code.small_c l A n c _ ((n:Int)) HA0.out mn HSM.out).mono ?_
   rintro e v1 ⟨rfl,b_⟩
   replace KW:=Lh (KW.out.below b_)
   replace HA0:=Lh (HA0.out.below b_)
   replace HW0:=Lh (HW0.out.below b_)
   replace BB:=Lh (bl_trans BB.out b_)
   clear b_
   have tn0:decide ((n:Int)<0)=false:=by simp
   have a0:=KW.out.cell 0 _ rfl
   have a1:=KW.out.cell 1 _ rfl
   have a2:=KW.out.cell 2 _ rfl
   go_wp2_with fail
   clear a0 a1 a2
   refine (small_c ⟨h_,r_,k⟩ z _ false HSW.out).mono ?_
   rintro e v2 ⟨rfl,b_⟩
   replace KW:=Lh (KW.out.below b_)
   replace HA0:=Lh (HA0.out.below b_)
   replace HW0:=Lh (HW0.out.below b_)
   replace BB:=Lh (bl_trans BB.out b_)
   clear b_
   go_wp2_with fail
   refine (awake_any _).mono ?_
   rintro e wz ⟨rfl,b_⟩
   replace BB:=Lh (bl_trans BB.out b_)
   clear b_
   go_wp2
   go_ret
   exact ⟨rfl,BB.out⟩
  | true =>
   have HSW:=Lh hsw
   have HF:=Lh (few_of hsw)
   clear hsw
   cases hr:rightW ⟨h_,r_,k⟩ with
   | false=>
    have HRT:=Lh hr
    clear hr
    go_enter Tryz.func7,Tryz.ntmps7
    go_wp2_with fail
    generalize (w.alloc (.cells (aW z h_ r_ k) 63))=v0 at *
    refine (Code.small_c l A n c _ ((n:Int)) HA0.out mn HSM.out).mono ?_
    rintro e v1 ⟨rfl,b_⟩
    replace KW:=Lh (KW.out.below b_)
    replace HA0:=Lh (HA0.out.below b_)
    replace HW0:=Lh (HW0.out.below b_)
    replace BB:=Lh (bl_trans BB.out b_)
    clear b_
    have tn0:decide ((n:Int)<0)=false:=by simp
    have a0:=KW.out.cell 0 _ rfl
    have a1:=KW.out.cell 1 _ rfl
    have a2:=KW.out.cell 2 _ rfl
    go_wp2_with fail
    clear a0 a1 a2
    refine (small_c ⟨h_,r_,k⟩ z _ true HSW.out).mono ?_
    rintro e v2 ⟨rfl,b_⟩
    replace KW:=Lh (KW.out.below b_)
    replace HA0:=Lh (HA0.out.below b_)
    replace HW0:=Lh (HW0.out.below b_)
    replace BB:=Lh (bl_trans BB.out b_)
    clear b_
    have a0:=KW.out.cell 0 _ rfl
    have a1:=KW.out.cell 1 _ rfl
    have a2:=KW.out.cell 2 _ rfl
    go_wp2_with fail
    clear a0 a1 a2
    refine (right_c ⟨h_,r_,k⟩ z _ false HW0.out HF.out HRT.out).mono ?_
    rintro e v3 ⟨rfl,b_⟩
    replace KW:=Lh (KW.out.below b_)
    replace HA0:=Lh (HA0.out.below b_)
    replace HW0:=Lh (HW0.out.below b_)
    replace BB:=Lh (bl_trans BB.out b_)
    clear b_
    go_wp2_with fail
    refine (awake_any _).mono ?_
    rintro e wz ⟨rfl,b_⟩
    replace BB:=Lh (bl_trans BB.out b_)
    clear b_
    go_wp2
    go_ret
    exact ⟨rfl,BB.out⟩
   | true =>
    have HRT:=Lh hr
    clear hr
    go_enter Tryz.func7,Tryz.ntmps7
    go_wp2_with fail
    generalize (w.alloc (.cells (aW z h_ r_ k) 63))=v0 at *
    refine (Code.small_c l A n c _ ((n:Int)) HA0.out mn HSM.out).mono ?_
    rintro e v1 ⟨rfl,b_⟩
    replace KW:=Lh (KW.out.below b_)
    replace HA0:=Lh (HA0.out.below b_)
    replace HW0:=Lh (HW0.out.below b_)
    replace BB:=Lh (bl_trans BB.out b_)
    clear b_
    have tn0:decide ((n:Int)<0)=false:=by simp
    have a0:=KW.out.cell 0 _ rfl
    have a1:=KW.out.cell 1 _ rfl
    have a2:=KW.out.cell 2 _ rfl
    go_wp2_with fail
    clear a0 a1 a2
    refine (small_c ⟨h_,r_,k⟩ z _ true HSW.out).mono ?_
    rintro e v2 ⟨rfl,b_⟩
    replace KW:=Lh (KW.out.below b_)
    replace HA0:=Lh (HA0.out.below b_)
    replace HW0:=Lh (HW0.out.below b_)
    replace BB:=Lh (bl_trans BB.out b_)
    clear b_
    have a0:=KW.out.cell 0 _ rfl
    have a1:=KW.out.cell 1 _ rfl
    have a2:=KW.out.cell 2 _ rfl
    go_wp2_with fail
    clear a0 a1 a2
    refine (right_c ⟨h_,r_,k⟩ z _ true HW0.out HF.out HRT.out).mono ?_
    rintro e v3 ⟨rfl,b_⟩
    replace KW:=Lh (KW.out.below b_)
    replace HA0:=Lh (HA0.out.below b_)
    replace HW0:=Lh (HW0.out.below b_)
    replace BB:=Lh (bl_trans BB.out b_)
    clear b_
    have a0:=KW.out.cell 0 _ rfl
    have a1:=KW.out.cell 1 _ rfl
    have a2:=KW.out.cell 2 _ rfl
    by_cases hwo:who=other
    ·subst hwo
     go_wp2_with fail
     refine (awake_any _).mono ?_
     rintro e wz ⟨rfl,b_⟩
     replace BB:=Lh (bl_trans BB.out b_)
     clear b_
     go_wp2
     go_ret
     exact ⟨rfl,BB.out⟩
    have HWO:=Lh hwo
    have nwo:(who==other)=false:=beq_eq_false_iff_ne.2 hwo
    clear hwo
    by_cases hk9:2147483645≤k
    ·have tk9:decide (k<2147483645)=false:=by simp;omega
     go_wp2_with fail
     refine (awake_any _).mono ?_
     rintro e wz ⟨rfl,b_⟩
     replace BB:=Lh (bl_trans BB.out b_)
     clear b_
     go_wp2
     go_ret
     exact ⟨rfl,BB.out⟩
    have tk8:¬2147483645≤k:=hk9
    have tk9:decide ((2147483645:Int)≤k)=false:=by simp;omega
    go_wp2_with fail
    clear a0 a1 a2
    clear tk9 tk8 nwo
    have HKL:Hid (0≤k∧k<2147483645):=Lh ⟨by have h1:=((right_parts _).1 HRT.out).2.2.1;unfold Reads.timeB at h1;rw[decide_eq_true_eq]at h1;exact h1.1,by omega⟩
    clear hk9
    obtain ⟨R,hR⟩:∃R,triedS (ss l) who k h_ r_=R:=⟨_,rfl⟩
    have HR:=Lh hR
    clear hR
    obtain ⟨T,dn⟩:=R
    obtain ⟨Bg,hB⟩:∃B,beginC T=B:=⟨_,rfl⟩
    have HBG:=Lh hB
    clear hB
    obtain ⟨⟨t0,p0,v0c,e0⟩,bo⟩:=Bg
    have hB:Calls Tryz.prog 26 #[.slice A n c,.int .i64 who,.int .i64 k,.agg (aW z h_ r_ k)] v3 (fun e w' =>∃y:TL,e=.returned (.tuple #[.agg (aT T y),.bool dn])∧TRd w' T y∧Short T y∧Below v3.heap.size v3 w'):=(tried_c l A n c who k ⟨h_,r_,k⟩ z v3 HA0.out hnc HLM.out (by omega) HW0.out HF.out (T,dn) HR.out).mono (fun e w' ⟨y,h1,h2,h3,h4⟩=>⟨y,h1,h2 _ (Only.refl _ _),h3,h4⟩)
    refine (hB).mono ?_
    rintro e v4 ⟨y1,rfl,hT,hS,b_⟩
    replace KW:=Lh (KW.out.below b_)
    replace HA0:=Lh (HA0.out.below b_)
    replace HW0:=Lh (HW0.out.below b_)
    replace BB:=Lh (bl_trans BB.out b_)
    clear hB b_
    have O1:=Lh hT
    have HS1:=Lh hS
    clear hT hS
    clear HA0
    have HG11:Hid (w.heap.size<v4.heap.size):=Lh KW.out.lt
    have Z0:Hid (Blk (v4.alloc (.cells z11 34)) v4.heap.size 34 z11):=Lh (Blk.new v4 34 z11)
    have Y0:Hid (Blk (v4.alloc (.cells z11 34)) v4.heap.size 34 z11):=Lh (Z0.out)
    have K11:Hid (Blk ((v4.alloc (.cells z11 34)).setRow v4.heap.size (aT T y1)) v4.heap.size 34 (aT T y1)):=Lh (row_blk Y0.out)
    have bst:Hid (Below v4.heap.size v4 ((v4.alloc (.cells z11 34)).setRow v4.heap.size (aT T y1))):=Lh (Only.below (S:=fun k=>v4.heap.size≤k) (((Only.refl (fun k=>v4.heap.size≤k) v4).alloc _).trans (row_only _ v4.heap.size _) (fun k _ e=>by omega)) (Nat.le_refl _) (fun k hk e=>by omega))
    go_wp2_with (first | (refine wpList_store_row rfl 34 _ _ rfl v4.heap.size (aT T y1) rfl rfl 34 _ Y0.out (by kernel_rfl) rfl (by simp[Value.oneCell']) ?_;(clear Z0 Y0);(replace KW:=Lh (KW.out.below bst.out));(replace HW0:=Lh (HW0.out.below bst.out));(replace O1:=Lh (O1.out.below bst.out));(replace BB:=Lh (bl_trans BB.out bst.out));(clear bst);(generalize ((v4.alloc (.cells z11 34)).setRow v4.heap.size (aT T y1))=v5 at *);(generalize hg11:v4.heap.size=g11 at *);(clear hg11);(have a0:=K11.out.cell 0 _ rfl);(have a1:=K11.out.cell 1 _ rfl);(have a2:=K11.out.cell 2 _ rfl);(have a3:=K11.out.cell 3 _ rfl);(have a4:=K11.out.cell 4 _ rfl);(have a5:=K11.out.cell 5 _ rfl);(have a6:=K11.out.cell 6 _ rfl);(have a7:=K11.out.cell 7 _ rfl);(have a8:=K11.out.cell 8 _ rfl);(have a9:=K11.out.cell 9 _ rfl);(have a10:=K11.out.cell 10 _ rfl)))
    clear a0 a1 a2 a3 a4 a5 a6 a7 a8 a9 a10
    have hB:Calls Tryz.prog 27 #[.agg (aT T y1)] v5 (fun e w' =>∃(y:TL) (er:Int),e=.returned (.tuple #[.agg (aC t0 y p0 v0c e0),.int .i64 er])∧er=(if bo=true then 0 else 1)∧y.fl= []∧TRd w' t0 y∧Below v5.heap.size v5 w'):=(by have h:=begin_c T y1 v5 O1.out HS1.out (fun h=>fl_nil O1.out (tried_done_any HR.out h));rw[HBG.out]at h;exact h.mono (fun e w' ⟨y,h1,h2,h3,h4⟩=>⟨y,_,h1,rfl,h2,h3 _ (Only.refl _ _),h4⟩))
    refine (hB).mono ?_
    rintro e v6 ⟨y2,er2,rfl,her2,hf,hT,b_⟩
    replace KW:=Lh (KW.out.below b_)
    replace HW0:=Lh (HW0.out.below b_)
    replace O1:=Lh (O1.out.below b_)
    replace K11:=Lh (K11.out.below b_)
    replace BB:=Lh (bl_trans BB.out b_)
    have HER:=Lh her2
    clear her2 hB b_
    have O2:=Lh hT
    have HF2:=Lh hf
    clear hT hf
    have HG13:Hid (w.heap.size<v6.heap.size∧g11<v6.heap.size∧w.heap.size<g11):=Lh ⟨KW.out.lt,K11.out.lt,HG11.out⟩
    have Z0:Hid (Blk (v6.alloc (.cells z14 69)) v6.heap.size 69 z14):=Lh (Blk.new v6 69 z14)
    have Y0:Hid (Blk (v6.alloc (.cells z14 69)) v6.heap.size 69 z14):=Lh (Z0.out)
    have K13:Hid (Blk ((v6.alloc (.cells z14 69)).setRow v6.heap.size (aC t0 y2 p0 v0c e0)) v6.heap.size 69 (aC t0 y2 p0 v0c e0)):=Lh (row_blk Y0.out)
    have bst:Hid (Below v6.heap.size v6 ((v6.alloc (.cells z14 69)).setRow v6.heap.size (aC t0 y2 p0 v0c e0))):=Lh (Only.below (S:=fun k=>v6.heap.size≤k) (((Only.refl (fun k=>v6.heap.size≤k) v6).alloc _).trans (row_only _ v6.heap.size _) (fun k _ e=>by omega)) (Nat.le_refl _) (fun k hk e=>by omega))
    go_wp2_with (first | (refine wpList_store_row rfl 69 _ _ rfl v6.heap.size (aC t0 y2 p0 v0c e0) rfl rfl 69 _ Y0.out (by kernel_rfl) rfl (by simp[Value.oneCell']) ?_;(clear Z0 Y0);(replace KW:=Lh (KW.out.below bst.out));(replace HW0:=Lh (HW0.out.below bst.out));(replace O1:=Lh (O1.out.below bst.out));(replace K11:=Lh (K11.out.below bst.out));(replace O2:=Lh (O2.out.below bst.out));(replace BB:=Lh (bl_trans BB.out bst.out));(clear bst);(generalize ((v6.alloc (.cells z14 69)).setRow v6.heap.size (aC t0 y2 p0 v0c e0))=v7 at *);(generalize hg13:v6.heap.size=g13 at *);(clear hg13);(have b0:=KW.out.cell 0 _ rfl);(have b1:=KW.out.cell 1 _ rfl);(have b2:=KW.out.cell 2 _ rfl)))
    clear b0 b1 b2
    obtain ⟨⟨R1,f1⟩,hlk⟩:∃R,Stripe.lockS r_ other [cell % 64]=R:=⟨_,rfl⟩
    have HLK:=Lh hlk
    clear hlk
    refine (Stripe.lock_w r_ [cell % 64] z.R (some ⟨v7.heap.size,0,none⟩) r_.length z.rc 1 1 other (v7.alloc (.cells #[.int .i64 (cell % 64)] 3)) (R1,f1) (HW0.out.2.alloc _) (Rd.built v7 1 1 (zs [cell % 64]) _ rfl) HF.out.2 (by decide) HLK.out).mono ?_
    rintro e v8 ⟨B1,d1,rfl,o_⟩
    have b_:=bl_trans (bl_alloc (Below.refl v7.heap.size v7) (.cells #[.int .i64 (cell % 64)] 3)) o_.2
    have RB:Hid (Rd v8 2 B1 r_.length (Stripe.rs R1)):=Lh (by obtain ⟨A_,c_,hv_,hr_⟩:=o_.form;injection hv_ with e1 e2 e3;subst e1 e3;exact hr_)
    clear o_
    replace KW:=Lh (KW.out.below b_)
    replace HW0:=Lh (HW0.out.below b_)
    replace O1:=Lh (O1.out.below b_)
    replace K11:=Lh (K11.out.below b_)
    replace O2:=Lh (O2.out.below b_)
    replace K13:=Lh (K13.out.below b_)
    replace BB:=Lh (bl_trans BB.out b_)
    clear b_
    cases dn
    ·go_wp2_with fail
     refine (awake_any _).mono ?_
     rintro e wz ⟨rfl,b_⟩
     replace BB:=Lh (bl_trans BB.out b_)
     clear b_
     go_wp2
     go_ret
     exact ⟨rfl,BB.out⟩
    ·cases bo
     ·obtain rfl:er2=1:=HER.out
      go_wp2_with fail
      refine (awake_any _).mono ?_
      rintro e wz ⟨rfl,b_⟩
      replace BB:=Lh (bl_trans BB.out b_)
      clear b_
      go_wp2
      go_ret
      exact ⟨rfl,BB.out⟩
     ·obtain rfl:er2=0:=HER.out
      by_cases hf:f1=0
      ·subst hf
       have c11:=K13.out.cell 11 _ rfl
       by_cases h5:p0=5
       ·subst h5
        go_wp2_with fail
        refine (awake_any _).mono ?_
        rintro e wz ⟨rfl,b_⟩
        replace BB:=Lh (bl_trans BB.out b_)
        clear b_
        go_wp2
        go_ret
        exact ⟨rfl,BB.out⟩
       ·have t5:(p0==5)=false:=beq_eq_false_iff_ne.2 h5
        obtain ⟨g1,g2,g3,g4⟩:=begin_lock_ HBG.out h5
        subst g1 g2 g3 g4
        have HINV:=Lh (tried_inv HR.out)
        have HLR:Hid (R1.length=r_.length):=Lh (by have h1:=(lock_bad r_ R1 who other 0 (cell % 64) ((right_parts _).1 HRT.out).2.1 HLK.out HWO.out (by omega)).2;exact h1)
        have HSN:Hid (t0.snap=k):=Lh (tried_snap HR.out)
        clear h5 HER HBG
        cases hold
        ·have BBu:=BB
         replace BB:Hid (Below v8.heap.size v8 v8):=Lh (Below.refl _ _)
         have hov:IntKind.i64.wrap (k+1)=k+1:=by rw[IntKind.wrap_i64];have:=HKL.out;omega
         obtain ⟨⟨R2,f2⟩,hst⟩:∃R,Stripe.stampS R1 other (k+1)=R:=⟨_,rfl⟩
         have HST:=Lh hst
         clear hst
         have b0:=KW.out.cell 0 _ rfl
         have b1:=KW.out.cell 1 _ rfl
         have b2:=KW.out.cell 2 _ rfl
         have Z0:Hid (Blk (v8.alloc (.cells z3 63)) v8.heap.size 63 z3):=Lh (Blk.new v8 63 z3)
         have Y0:Hid (Blk (v8.alloc (.cells z3 63)) v8.heap.size 63 z3):=Lh (Z0.out)
         have K19:Hid (Blk ((v8.alloc (.cells z3 63)).setRow v8.heap.size #[.slice z.H h_.length z.hc,.slice B1 r_.length d1,.int .i64 k]) v8.heap.size 63 #[.slice z.H h_.length z.hc,.slice B1 r_.length d1,.int .i64 k]):=Lh (row_blk Y0.out)
         have bst:Hid (Below v8.heap.size v8 ((v8.alloc (.cells z3 63)).setRow v8.heap.size #[.slice z.H h_.length z.hc,.slice B1 r_.length d1,.int .i64 k])):=Lh (Only.below (S:=fun k=>v8.heap.size≤k) (((Only.refl (fun k=>v8.heap.size≤k) v8).alloc _).trans (row_only _ v8.heap.size _) (fun k _ e=>by omega)) (Nat.le_refl _) (fun k hk e=>by omega))
         go_wp2_with (first | (refine wpList_store_row rfl 63 _ _ rfl v8.heap.size #[.slice z.H h_.length z.hc,.slice B1 r_.length d1,.int .i64 k] rfl rfl 63 _ Y0.out (by kernel_rfl) rfl (by simp[Value.oneCell']) ?_;(clear Z0 Y0);(replace BB:=Lh (bl_trans BB.out bst.out));(clear bst);(generalize ((v8.alloc (.cells z3 63)).setRow v8.heap.size #[.slice z.H h_.length z.hc,.slice B1 r_.length d1,.int .i64 k])=v9 at *);(clear c11);(have c2k:=(KW.out.below BB.out).cell 2 _ rfl)))
         clear b0 b1 b2
         refine (Stripe.stamp_w R1 B1 r_.length d1 other (k+1) v9 (R2,f2) (RB.out.below BB.out) HF.out.2 HST.out).mono ?_
         rintro e v10 ⟨B2,d2,rfl,o_⟩
         clear c2k
         have HG9:Hid (v8.heap.size<v9.heap.size):=Lh K19.out.lt
         replace K19:=Lh (K19.out.below o_.2)
         replace BB:=Lh (bl_trans BB.out o_.2)
         have hne2:∀b off,B2=some ⟨b,off,none⟩→b≠v8.heap.size:=fun b off e=>by have h1:=o_.base b (by rw[e];rfl);have h2:=HG9.out;omega
         have RB0:Hid (Rd v10 2 B2 r_.length (Stripe.rs R2)):=Lh (by obtain ⟨A_,c_,hv_,hr_⟩:=o_.form;injection hv_ with e1 e2 e3;subst e1 e3;exact hr_)
         have RB2:Hid (Rd ((v10.setCell ⟨v8.heap.size,1,none⟩ (.slice B2 r_.length d2)).setCell ⟨v8.heap.size,2,none⟩ (.int .i64 (k+1))) 2 B2 r_.length (Stripe.rs R2)):=Lh ((RB0.out.set_other hne2 _ _).set_other hne2 _ _)
         clear o_ hne2 RB0
         have BC:Hid (Below v8.heap.size v8 ((v10.setCell ⟨v8.heap.size,1,none⟩ (.slice B2 r_.length d2)).setCell ⟨v8.heap.size,2,none⟩ (.int .i64 (k+1)))):=Lh (bl_set (p:=⟨v8.heap.size,2,none⟩) (bl_set (p:=⟨v8.heap.size,1,none⟩) BB.out (Nat.le_refl _) _) (Nat.le_refl _) _)
         have BC1:Hid (Below v8.heap.size v8 (v10.setCell ⟨v8.heap.size,1,none⟩ (.slice B2 r_.length d2))):=Lh (bl_set (p:=⟨v8.heap.size,1,none⟩) BB.out (Nat.le_refl _) _)
         have s1:=K19.out.cell 1 _ rfl
         have sf:=K19.out.frozen
         have Q1:=Lh (K19.out.set_ 1 (.slice B2 r_.length d2))
         have s2:=Q1.out.cell 2 _ rfl
         have sf2:=Q1.out.frozen
         have k2:=(KW.out.below BC1.out).cell 2 _ rfl
         have k5:=(K11.out.below BC.out).cell 5 _ rfl
         have K19' :Hid (Blk ((v10.setCell ⟨v8.heap.size,1,none⟩ (.slice B2 r_.length d2)).setCell ⟨v8.heap.size,2,none⟩ (.int .i64 (k+1))) v8.heap.size 63 #[.slice z.H h_.length z.hc,.slice B2 r_.length d2,.int .i64 (k+1)]):=Lh (Q1.out.set_ 2 (.int .i64 (k+1)))
         clear Q1
         go_wp2_with fail
         clear s1 sf s2 sf2 k2 k5 BB K19 BC1
         generalize ((v10.setCell ⟨v8.heap.size,1,none⟩ (.slice B2 r_.length d2)).setCell ⟨v8.heap.size,2,none⟩ (.int .i64 (k+1)))=v11 at *
         have K19:=K19'
         clear K19'
         replace KW:=Lh (KW.out.below BC.out)
         replace HW0:=Lh (HW0.out.below BC.out)
         replace O1:=Lh (O1.out.below BC.out)
         replace K11:=Lh (K11.out.below BC.out)
         replace O2:=Lh (O2.out.below BC.out)
         replace K13:=Lh (K13.out.below BC.out)
         have BB:=Lh (bl_trans BBu.out BC.out)
         clear BC BBu hov
         have HBAD:=Lh (show Bad R2 who k (cell % 64 % (r_.length:Int)).toNat∧R2.length=r_.length from by have h1:=stamp_bad r_ R1 who other k (cell % 64) ((right_parts _).1 HRT.out).2.1 ((right_parts _).1 HRT.out).2.2.2 HLK.out (by have:=HKL.out;omega);rw[HST.out]at h1;exact h1)
         have HWV:=Lh (show rightW ⟨h_,R2,k+1⟩=true from by have h1:=(late_right h_ r_ R1 k other (cell % 64) HRT.out HLK.out (by have:=HKL.out;omega)).2;rw[HST.out]at h1;exact h1)
         have HKV:Hid (k+1+1≤2147483647):=Lh (by have:=HKL.out;omega)
         have hm24:t0.reads.length≤24:=by have h1:=HINV.out.1.right;unfold Reads.rightB at h1;rw[Bool.and_eq_true,decide_eq_true_eq]at h1;exact h1.1
         have hr0:0<r_.length:=((Stripe.right_iff _).1 ((right_parts _).1 HRT.out).2.1).1.1
         have hr17:r_.length<17:=((Stripe.right_iff _).1 ((right_parts _).1 HRT.out).2.1).1.2
         obtain ⟨yD,hyD⟩:∃yD,y1.D=yD:=⟨_,rfl⟩
         have HRD:Hid (Rd v11 3 yD t0.reads.length (Reads.ds t0.reads)):=Lh (by rw[←hyD];exact O1.out.reads)
         (try unfold aT at K11);(try unfold aT);rw[hyD]at K11 ⊢
         clear hyD
         go_loopw [20,116] (fun q i wr=>∃(j:Nat) (mt:Bool),j≤t0.reads.length∧q=.bool mt∧i=.int .i64 j∧Hid (Below v11.heap.size v11 wr)∧Hid ((t0.reads.take j).any (fun x=>x.cell % (r_.length:Int)==cell % 64 % (r_.length:Int))=mt)) (fun _ i _=>t0.reads.length - (intOf i).toNat)
         case atStart=>exact ⟨0,false,Nat.zero_le _,rfl,rfl,Lh (Below.refl _ _),Lh rfl⟩
         case round=>
          obtain ⟨j,mt,hj,rfl,rfl,HB,HMT⟩:=hrel
          generalize wr=v90 at *
          by_cases hlt:j<t0.reads.length
          ·obtain ⟨b1,off,⟨cl,vr,vl⟩,rfl,hy,q0,q1,q2⟩:=Reads.at_read (HRD.out.below HB.out) j hlt
           have HS:=Lh (take_any_ t0.reads (fun x=>x.cell % (r_.length:Int)==cell % 64 % (r_.length:Int)) j _ hy)
           have hcl:0≤cl:=by have h1:=HINV.out.1.rds;unfold Reads.goodB at h1;rw[Bool.and_eq_true]at h1;have h2:=List.all_eq_true.1 h1.1 _ (List.mem_of_getElem? hy);unfold Reads.oneB at h2;rw[Bool.and_eq_true,decide_eq_true_eq]at h2;exact h2.1
           clear hy
           have KR:=Lh (Blk.new v90 107 #[.int .i64 cl,.int .i64 vr,.int .i64 vl])
           have KV:=Lh ((KW.out.below HB.out).alloc (.cells #[.int .i64 cl,.int .i64 vr,.int .i64 vl] 107))
           have HB2:=Lh (bl_alloc HB.out (.cells #[.int .i64 cl,.int .i64 vr,.int .i64 vl] 107))
           have c0:=KR.out.cell 0 _ rfl
           have d1_:=KV.out.cell 1 _ rfl
           cases mt
           ·obtain ⟨e,he⟩:∃e,(cl % (r_.length:Int)==cell % 64 % (r_.length:Int))=e:=⟨_,rfl⟩
            have HN:Hid ((t0.reads.take (j+1)).any (fun x=>x.cell % (r_.length:Int)==cell % 64 % (r_.length:Int))=e):=Lh (by rw[HS.out,HMT.out];exact he)
            go_wp2_with fail
            go_quiet (fail)
            go_wp2
            go_roundw
            case rel=>exact ⟨j+1,e,by omega,by first | rfl | simp[he],by go_num,Lh (bl_drewN HB2.out _),HN⟩
            case measure=>simp[intOf];omega
           ·have HN:Hid ((t0.reads.take (j+1)).any (fun x=>x.cell % (r_.length:Int)==cell % 64 % (r_.length:Int))=true):=Lh (by rw[HS.out,HMT.out];rfl)
            go_wp2_with fail
            go_quiet (fail)
            go_wp2
            go_roundw
            case rel=>exact ⟨j+1,true,by omega,rfl,by go_num,Lh (bl_drewN HB2.out _),HN⟩
            case measure=>simp[intOf];omega
          ·have HM:Hid (t0.reads.any (fun x=>x.cell % (r_.length:Int)==cell % 64 % (r_.length:Int))=mt):=Lh (by have h5:=HMT.out;rw[List.take_of_length_le (by omega)]at h5;exact h5)
           have b_:=HB.out
           replace KW:=Lh (KW.out.below b_)
           replace HW0:=Lh (HW0.out.below b_)
           replace O1:=Lh (O1.out.below b_)
           replace K11:=Lh (K11.out.below b_)
           replace O2:=Lh (O2.out.below b_)
           replace K13:=Lh (K13.out.below b_)
           replace RB2:=Lh (RB2.out.below b_)
           replace K19:=Lh (K19.out.below b_)
           replace BB:=Lh (bl_trans BB.out b_)
           clear b_ HB HMT HRD
           have HJ:Hid (J ⟨t0,0,0,0⟩ ⟨h_,R2,k+1⟩):=Lh ⟨HWV.out,by rw[HINV.out.2.1];exact HINV.out.2.2,fun h=>by rcases h with h | h | h <;> exact absurd (show (0:Int)=_ from h) (by decide),⟨by show (0:Int)≤0;decide,by show (0:Int)≤6;decide⟩⟩
           have HAJ:=Lh (show (allC ⟨t0,0,0,0⟩ ⟨h_,R2,k+1⟩).2=0 from by have h1:=(all_j _ _ HJ.out 6 (by have:=left_le (⟨t0,0,0,0⟩:Com);omega)).1;unfold allC;rw[if_pos h1];exact h1)
           have HLT:Hid (mt=true→(allC ⟨t0,0,0,0⟩ ⟨h_,R2,k+1⟩).1.1.ph=6∧((allC ⟨t0,0,0,0⟩ ⟨h_,R2,k+1⟩).1.1.e=8∨(allC ⟨t0,0,0,0⟩ ⟨h_,R2,k+1⟩).1.1.e=7)):=Lh (fun hm=>by
  have h1:=HM.out
  rw[hm,List.any_eq_true]at h1
  obtain ⟨q,hq,he⟩:=h1
  rw[beq_iff_eq]at he
  refine late_all _ _ HJ.out rfl (cells_ok HINV.out.1 0 0 0) HINV.out.1.right HKV.out k q hq (by rw[←HSN.out];exact HINV.out.1.snap q hq) ?_
  show Bad R2 t0.who k (q.cell % ((R2).length:Int)).toNat
  rw[HBAD.out.2,he,HINV.out.2.1]
  exact HBAD.out.1)
           obtain ⟨R9,hr9⟩:∃R9,allC ⟨t0,0,0,0⟩ ⟨h_,R2,k+1⟩=R9:=⟨_,rfl⟩
           rw[hr9]at HAJ HLT
           have HALL:=Lh hr9
           clear hr9
           obtain ⟨⟨⟨tA,pA,vA,eA⟩,⟨hA_,rA_,kA⟩⟩,erA⟩:=R9
           obtain rfl:erA=0:=HAJ.out
           have HWV2:Hid (WRd v90 ⟨h_,R2,k+1⟩ { z with R:=B2,rc:=d2 }):=Lh ⟨HW0.out.1,by show Rd v90 2 B2 (R2).length (Stripe.rs R2);rw[HBAD.out.2];exact RB2.out⟩
           have HFV:Hid (Few ⟨h_,R2,k+1⟩):=Lh ⟨HF.out.1,by show (R2).length≤1000000;rw[HBAD.out.2];exact HF.out.2⟩
           have hB:Calls Tryz.prog 40 #[.agg (aC t0 y2 0 0 0),.agg #[.slice z.H h_.length z.hc,.slice B2 r_.length d2,.int .i64 (k+1)]] v90 (fun e w' =>∃(y:TL) (z2:WL),e=.returned (.tuple #[.agg (aC tA y pA vA eA),.agg (aW z2 hA_ rA_ kA),.int .i64 0])∧Below v90.heap.size v90 w'):=(by
  have h:=all_c ⟨t0,0,0,0⟩ ⟨h_,R2,k+1⟩ y2 { z with R:=B2,rc:=d2 } v90 O2.out (short_fl HS1.out HF2.out) HWV2.out HFV.out HF2.out
  rw[HALL.out,show (wvl ⟨h_,R2,k+1⟩ { z with R:=B2,rc:=d2 }).toArray=#[.slice z.H h_.length z.hc,.slice B2 r_.length d2,.int .i64 (k+1)] from by show #[_,Value.slice B2 (R2).length d2,_]=_;rw[HBAD.out.2]]at h
  exact h.mono (fun e w' ⟨y,z2,h1,_,_,h2⟩=>⟨y,z2,h1,h2⟩))
           have a0:=K13.out.cell 0 _ rfl
           have a1:=K13.out.cell 1 _ rfl
           have a2:=K13.out.cell 2 _ rfl
           have a3:=K13.out.cell 3 _ rfl
           have a4:=K13.out.cell 4 _ rfl
           have a5:=K13.out.cell 5 _ rfl
           have a6:=K13.out.cell 6 _ rfl
           have a7:=K13.out.cell 7 _ rfl
           have a8:=K13.out.cell 8 _ rfl
           have a9:=K13.out.cell 9 _ rfl
           have a10:=K13.out.cell 10 _ rfl
           have a11:=K13.out.cell 11 _ rfl
           have a12:=K13.out.cell 12 _ rfl
           have a13:=K13.out.cell 13 _ rfl
           have b0:=K19.out.cell 0 _ rfl
           have b1:=K19.out.cell 1 _ rfl
           have b2:=K19.out.cell 2 _ rfl
           go_wp2_with fail
           clear a0 a1 a2 a3 a4 a5 a6 a7 a8 a9 a10 a11 a12 a13 b0 b1 b2
           refine (hB).mono ?_
           rintro e v91 ⟨y3,zq,rfl,b_⟩
           replace BB:=Lh (bl_trans BB.out b_)
           clear hB b_
           cases mt
           ·have Z0:Hid (Blk ((v91.alloc (.cells z14 69)).alloc (.cells z3 63)) v91.heap.size 69 z14):=Lh ((Blk.new v91 69 z14).alloc (.cells z3 63))
            have Z1:Hid (Blk ((v91.alloc (.cells z14 69)).alloc (.cells z3 63)) (v91.heap.size+1) 63 z3):=Lh (by have:=Blk.new (v91.alloc (.cells z14 69)) 63 z3;simpa only[World.size_alloc] using this)
            have Y0:Hid (Blk ((v91.alloc (.cells z14 69)).alloc (.cells z3 63)) v91.heap.size 69 z14):=Lh (Z0.out)
            have Y1:Hid (Blk (((v91.alloc (.cells z14 69)).alloc (.cells z3 63)).setRow v91.heap.size (aC tA y3 pA vA eA)) (v91.heap.size+1) 63 z3):=Lh ((row_only _ v91.heap.size _).blk Z1.out (by omega))
            have K23:Hid (Blk ((((v91.alloc (.cells z14 69)).alloc (.cells z3 63)).setRow v91.heap.size (aC tA y3 pA vA eA)).setRow (v91.heap.size+1) (aW zq hA_ rA_ kA)) v91.heap.size 69 (aC tA y3 pA vA eA)):=Lh ((row_only _ (v91.heap.size+1) _).blk (row_blk Y0.out) (by omega))
            have K24:Hid (Blk ((((v91.alloc (.cells z14 69)).alloc (.cells z3 63)).setRow v91.heap.size (aC tA y3 pA vA eA)).setRow (v91.heap.size+1) (aW zq hA_ rA_ kA)) (v91.heap.size+1) 63 (aW zq hA_ rA_ kA)):=Lh (row_blk Y1.out)
            have bst:Hid (Below v91.heap.size v91 ((((v91.alloc (.cells z14 69)).alloc (.cells z3 63)).setRow v91.heap.size (aC tA y3 pA vA eA)).setRow (v91.heap.size+1) (aW zq hA_ rA_ kA))):=Lh (Only.below (S:=fun k=>v91.heap.size≤k) (((((Only.refl (fun k=>v91.heap.size≤k) v91).alloc _).alloc _).trans (row_only _ v91.heap.size _) (fun k _ e=>by omega)).trans (row_only _ (v91.heap.size+1) _) (fun k _ e=>by omega)) (Nat.le_refl _) (fun k hk e=>by omega))
            go_upto_region 19 with (first | (refine wpList_store_row rfl 69 _ _ rfl v91.heap.size (aC tA y3 pA vA eA) rfl rfl 69 _ Y0.out (by kernel_rfl) rfl (by simp[Value.oneCell']) ?_) | (refine wpList_store_row rfl 63 _ _ rfl (v91.heap.size+1) (aW zq hA_ rA_ kA) rfl rfl 63 _ Y1.out (by kernel_rfl) rfl (by simp[Value.oneCell']) ?_;(clear Z0 Y0 Z1 Y1);(replace BB:=Lh (bl_trans BB.out bst.out));(clear bst);(generalize ((((v91.alloc (.cells z14 69)).alloc (.cells z3 63)).setRow v91.heap.size (aC tA y3 pA vA eA)).setRow (v91.heap.size+1) (aW zq hA_ rA_ kA))=v92 at *);(generalize hg23:v91.heap.size=g23 at *);(clear hg23)))
            have a0:=K23.out.cell 0 _ rfl
            have a1:=K23.out.cell 1 _ rfl
            have a2:=K23.out.cell 2 _ rfl
            have a3:=K23.out.cell 3 _ rfl
            have a4:=K23.out.cell 4 _ rfl
            have a5:=K23.out.cell 5 _ rfl
            have a6:=K23.out.cell 6 _ rfl
            have a7:=K23.out.cell 7 _ rfl
            have a8:=K23.out.cell 8 _ rfl
            have a9:=K23.out.cell 9 _ rfl
            have a10:=K23.out.cell 10 _ rfl
            have a11:=K23.out.cell 11 _ rfl
            have a12:=K23.out.cell 12 _ rfl
            have a13:=K23.out.cell 13 _ rfl
            go_wp2_with fail
            clear a0 a1 a2 a3 a4 a5 a6 a7 a8 a9 a10 a11 a12 a13
            refine (awake_any _).mono ?_
            rintro e wz ⟨rfl,b_⟩
            replace BB:=Lh (bl_trans BB.out b_)
            clear b_
            go_wp2
            go_ret
            exact ⟨rfl,BB.out⟩
           ·obtain ⟨hp6,he8⟩:=HLT.out rfl
            obtain rfl:pA=6:=hp6
            rcases he8 with he8 | he8
            ·obtain rfl:eA=8:=he8
             have Z0:Hid (Blk ((v91.alloc (.cells z14 69)).alloc (.cells z3 63)) v91.heap.size 69 z14):=Lh ((Blk.new v91 69 z14).alloc (.cells z3 63))
             have Z1:Hid (Blk ((v91.alloc (.cells z14 69)).alloc (.cells z3 63)) (v91.heap.size+1) 63 z3):=Lh (by have:=Blk.new (v91.alloc (.cells z14 69)) 63 z3;simpa only[World.size_alloc] using this)
             have Y0:Hid (Blk ((v91.alloc (.cells z14 69)).alloc (.cells z3 63)) v91.heap.size 69 z14):=Lh (Z0.out)
             have Y1:Hid (Blk (((v91.alloc (.cells z14 69)).alloc (.cells z3 63)).setRow v91.heap.size (aC tA y3 6 vA 8)) (v91.heap.size+1) 63 z3):=Lh ((row_only _ v91.heap.size _).blk Z1.out (by omega))
             have K23:Hid (Blk ((((v91.alloc (.cells z14 69)).alloc (.cells z3 63)).setRow v91.heap.size (aC tA y3 6 vA 8)).setRow (v91.heap.size+1) (aW zq hA_ rA_ kA)) v91.heap.size 69 (aC tA y3 6 vA 8)):=Lh ((row_only _ (v91.heap.size+1) _).blk (row_blk Y0.out) (by omega))
             have K24:Hid (Blk ((((v91.alloc (.cells z14 69)).alloc (.cells z3 63)).setRow v91.heap.size (aC tA y3 6 vA 8)).setRow (v91.heap.size+1) (aW zq hA_ rA_ kA)) (v91.heap.size+1) 63 (aW zq hA_ rA_ kA)):=Lh (row_blk Y1.out)
             have bst:Hid (Below v91.heap.size v91 ((((v91.alloc (.cells z14 69)).alloc (.cells z3 63)).setRow v91.heap.size (aC tA y3 6 vA 8)).setRow (v91.heap.size+1) (aW zq hA_ rA_ kA))):=Lh (Only.below (S:=fun k=>v91.heap.size≤k) (((((Only.refl (fun k=>v91.heap.size≤k) v91).alloc _).alloc _).trans (row_only _ v91.heap.size _) (fun k _ e=>by omega)).trans (row_only _ (v91.heap.size+1) _) (fun k _ e=>by omega)) (Nat.le_refl _) (fun k hk e=>by omega))
             go_upto_region 19 with (first | (refine wpList_store_row rfl 69 _ _ rfl v91.heap.size (aC tA y3 6 vA 8) rfl rfl 69 _ Y0.out (by kernel_rfl) rfl (by simp[Value.oneCell']) ?_) | (refine wpList_store_row rfl 63 _ _ rfl (v91.heap.size+1) (aW zq hA_ rA_ kA) rfl rfl 63 _ Y1.out (by kernel_rfl) rfl (by simp[Value.oneCell']) ?_;(clear Z0 Y0 Z1 Y1);(replace BB:=Lh (bl_trans BB.out bst.out));(clear bst);(generalize ((((v91.alloc (.cells z14 69)).alloc (.cells z3 63)).setRow v91.heap.size (aC tA y3 6 vA 8)).setRow (v91.heap.size+1) (aW zq hA_ rA_ kA))=v92 at *);(generalize hg23:v91.heap.size=g23 at *);(clear hg23)))
             have a0:=K23.out.cell 0 _ rfl
             have a1:=K23.out.cell 1 _ rfl
             have a2:=K23.out.cell 2 _ rfl
             have a3:=K23.out.cell 3 _ rfl
             have a4:=K23.out.cell 4 _ rfl
             have a5:=K23.out.cell 5 _ rfl
             have a6:=K23.out.cell 6 _ rfl
             have a7:=K23.out.cell 7 _ rfl
             have a8:=K23.out.cell 8 _ rfl
             have a9:=K23.out.cell 9 _ rfl
             have a10:=K23.out.cell 10 _ rfl
             have a11:=K23.out.cell 11 _ rfl
             have a12:=K23.out.cell 12 _ rfl
             have a13:=K23.out.cell 13 _ rfl
             go_wp2_with fail
             clear a0 a1 a2 a3 a4 a5 a6 a7 a8 a9 a10 a11 a12 a13
             refine (awake_any _).mono ?_
             rintro e wz ⟨rfl,b_⟩
             replace BB:=Lh (bl_trans BB.out b_)
             clear b_
             go_wp2
             go_ret
             exact ⟨rfl,BB.out⟩
            ·obtain rfl:eA=7:=he8
             have Z0:Hid (Blk ((v91.alloc (.cells z14 69)).alloc (.cells z3 63)) v91.heap.size 69 z14):=Lh ((Blk.new v91 69 z14).alloc (.cells z3 63))
             have Z1:Hid (Blk ((v91.alloc (.cells z14 69)).alloc (.cells z3 63)) (v91.heap.size+1) 63 z3):=Lh (by have:=Blk.new (v91.alloc (.cells z14 69)) 63 z3;simpa only[World.size_alloc] using this)
             have Y0:Hid (Blk ((v91.alloc (.cells z14 69)).alloc (.cells z3 63)) v91.heap.size 69 z14):=Lh (Z0.out)
             have Y1:Hid (Blk (((v91.alloc (.cells z14 69)).alloc (.cells z3 63)).setRow v91.heap.size (aC tA y3 6 vA 7)) (v91.heap.size+1) 63 z3):=Lh ((row_only _ v91.heap.size _).blk Z1.out (by omega))
             have K23:Hid (Blk ((((v91.alloc (.cells z14 69)).alloc (.cells z3 63)).setRow v91.heap.size (aC tA y3 6 vA 7)).setRow (v91.heap.size+1) (aW zq hA_ rA_ kA)) v91.heap.size 69 (aC tA y3 6 vA 7)):=Lh ((row_only _ (v91.heap.size+1) _).blk (row_blk Y0.out) (by omega))
             have K24:Hid (Blk ((((v91.alloc (.cells z14 69)).alloc (.cells z3 63)).setRow v91.heap.size (aC tA y3 6 vA 7)).setRow (v91.heap.size+1) (aW zq hA_ rA_ kA)) (v91.heap.size+1) 63 (aW zq hA_ rA_ kA)):=Lh (row_blk Y1.out)
             have bst:Hid (Below v91.heap.size v91 ((((v91.alloc (.cells z14 69)).alloc (.cells z3 63)).setRow v91.heap.size (aC tA y3 6 vA 7)).setRow (v91.heap.size+1) (aW zq hA_ rA_ kA))):=Lh (Only.below (S:=fun k=>v91.heap.size≤k) (((((Only.refl (fun k=>v91.heap.size≤k) v91).alloc _).alloc _).trans (row_only _ v91.heap.size _) (fun k _ e=>by omega)).trans (row_only _ (v91.heap.size+1) _) (fun k _ e=>by omega)) (Nat.le_refl _) (fun k hk e=>by omega))
             go_upto_region 19 with (first | (refine wpList_store_row rfl 69 _ _ rfl v91.heap.size (aC tA y3 6 vA 7) rfl rfl 69 _ Y0.out (by kernel_rfl) rfl (by simp[Value.oneCell']) ?_) | (refine wpList_store_row rfl 63 _ _ rfl (v91.heap.size+1) (aW zq hA_ rA_ kA) rfl rfl 63 _ Y1.out (by kernel_rfl) rfl (by simp[Value.oneCell']) ?_;(clear Z0 Y0 Z1 Y1);(replace BB:=Lh (bl_trans BB.out bst.out));(clear bst);(generalize ((((v91.alloc (.cells z14 69)).alloc (.cells z3 63)).setRow v91.heap.size (aC tA y3 6 vA 7)).setRow (v91.heap.size+1) (aW zq hA_ rA_ kA))=v92 at *);(generalize hg23:v91.heap.size=g23 at *);(clear hg23)))
             have a0:=K23.out.cell 0 _ rfl
             have a1:=K23.out.cell 1 _ rfl
             have a2:=K23.out.cell 2 _ rfl
             have a3:=K23.out.cell 3 _ rfl
             have a4:=K23.out.cell 4 _ rfl
             have a5:=K23.out.cell 5 _ rfl
             have a6:=K23.out.cell 6 _ rfl
             have a7:=K23.out.cell 7 _ rfl
             have a8:=K23.out.cell 8 _ rfl
             have a9:=K23.out.cell 9 _ rfl
             have a10:=K23.out.cell 10 _ rfl
             have a11:=K23.out.cell 11 _ rfl
             have a12:=K23.out.cell 12 _ rfl
             have a13:=K23.out.cell 13 _ rfl
             go_wp2_with fail
             clear a0 a1 a2 a3 a4 a5 a6 a7 a8 a9 a10 a11 a12 a13
             refine (awake_any _).mono ?_
             rintro e wz ⟨rfl,b_⟩
             replace BB:=Lh (bl_trans BB.out b_)
             clear b_
             go_wp2
             go_ret
             exact ⟨rfl,BB.out⟩
        ·have b0:=KW.out.cell 0 _ rfl
         have b1:=KW.out.cell 1 _ rfl
         have b2:=KW.out.cell 2 _ rfl
         have Z0:Hid (Blk (v8.alloc (.cells z3 63)) v8.heap.size 63 z3):=Lh (Blk.new v8 63 z3)
         have Y0:Hid (Blk (v8.alloc (.cells z3 63)) v8.heap.size 63 z3):=Lh (Z0.out)
         have K19:Hid (Blk ((v8.alloc (.cells z3 63)).setRow v8.heap.size #[.slice z.H h_.length z.hc,.slice B1 r_.length d1,.int .i64 k]) v8.heap.size 63 #[.slice z.H h_.length z.hc,.slice B1 r_.length d1,.int .i64 k]):=Lh (row_blk Y0.out)
         have bst:Hid (Below v8.heap.size v8 ((v8.alloc (.cells z3 63)).setRow v8.heap.size #[.slice z.H h_.length z.hc,.slice B1 r_.length d1,.int .i64 k])):=Lh (Only.below (S:=fun k=>v8.heap.size≤k) (((Only.refl (fun k=>v8.heap.size≤k) v8).alloc _).trans (row_only _ v8.heap.size _) (fun k _ e=>by omega)) (Nat.le_refl _) (fun k hk e=>by omega))
         go_wp2_with (first | (refine wpList_store_row rfl 63 _ _ rfl v8.heap.size #[.slice z.H h_.length z.hc,.slice B1 r_.length d1,.int .i64 k] rfl rfl 63 _ Y0.out (by kernel_rfl) rfl (by simp[Value.oneCell']) ?_;(clear Z0 Y0);(replace KW:=Lh (KW.out.below bst.out));(replace HW0:=Lh (HW0.out.below bst.out));(replace O1:=Lh (O1.out.below bst.out));(replace K11:=Lh (K11.out.below bst.out));(replace O2:=Lh (O2.out.below bst.out));(replace K13:=Lh (K13.out.below bst.out));(replace RB:=Lh (RB.out.below bst.out));(replace BB:=Lh (bl_trans BB.out bst.out));(clear bst);(generalize ((v8.alloc (.cells z3 63)).setRow v8.heap.size #[.slice z.H h_.length z.hc,.slice B1 r_.length d1,.int .i64 k])=v9 at *);(clear c11);(have a0:=K11.out.cell 0 _ rfl);(have a1:=K11.out.cell 1 _ rfl);(have a2:=K11.out.cell 2 _ rfl);(have a3:=K11.out.cell 3 _ rfl);(have a4:=K11.out.cell 4 _ rfl);(have a5:=K11.out.cell 5 _ rfl);(have a6:=K11.out.cell 6 _ rfl);(have a7:=K11.out.cell 7 _ rfl);(have a8:=K11.out.cell 8 _ rfl);(have a9:=K11.out.cell 9 _ rfl);(have a10:=K11.out.cell 10 _ rfl)))
         clear b0 b1 b2 a0 a1 a2 a3 a4 a5 a6 a7 a8 a9 a10
         have HBAD:=Lh (lock_bad r_ R1 who other k (cell % 64) ((right_parts _).1 HRT.out).2.1 HLK.out HWO.out (by omega))
         have HWV:=Lh (late_right h_ r_ R1 k other (cell % 64) HRT.out HLK.out (by have:=HKL.out;omega)).1
         have HKV:Hid (k+1≤2147483647):=Lh (by have:=HKL.out;omega)
         have hm24:t0.reads.length≤24:=by have h1:=HINV.out.1.right;unfold Reads.rightB at h1;rw[Bool.and_eq_true,decide_eq_true_eq]at h1;exact h1.1
         have hr0:0<r_.length:=((Stripe.right_iff _).1 ((right_parts _).1 HRT.out).2.1).1.1
         have hr17:r_.length<17:=((Stripe.right_iff _).1 ((right_parts _).1 HRT.out).2.1).1.2
         obtain ⟨yD,hyD⟩:∃yD,y1.D=yD:=⟨_,rfl⟩
         have HRD:Hid (Rd v9 3 yD t0.reads.length (Reads.ds t0.reads)):=Lh (by rw[←hyD];exact O1.out.reads)
         (try unfold aT at K11);(try unfold aT);rw[hyD]at K11 ⊢
         clear hyD
         go_loopw [20,116] (fun q i wr=>∃(j:Nat) (mt:Bool),j≤t0.reads.length∧q=.bool mt∧i=.int .i64 j∧Hid (Below v9.heap.size v9 wr)∧Hid ((t0.reads.take j).any (fun x=>x.cell % (r_.length:Int)==cell % 64 % (r_.length:Int))=mt)) (fun _ i _=>t0.reads.length - (intOf i).toNat)
         case atStart=>exact ⟨0,false,Nat.zero_le _,rfl,rfl,Lh (Below.refl _ _),Lh rfl⟩
         case round=>
          obtain ⟨j,mt,hj,rfl,rfl,HB,HMT⟩:=hrel
          generalize wr=v90 at *
          by_cases hlt:j<t0.reads.length
          ·obtain ⟨b1,off,⟨cl,vr,vl⟩,rfl,hy,q0,q1,q2⟩:=Reads.at_read (HRD.out.below HB.out) j hlt
           have HS:=Lh (take_any_ t0.reads (fun x=>x.cell % (r_.length:Int)==cell % 64 % (r_.length:Int)) j _ hy)
           have hcl:0≤cl:=by have h1:=HINV.out.1.rds;unfold Reads.goodB at h1;rw[Bool.and_eq_true]at h1;have h2:=List.all_eq_true.1 h1.1 _ (List.mem_of_getElem? hy);unfold Reads.oneB at h2;rw[Bool.and_eq_true,decide_eq_true_eq]at h2;exact h2.1
           clear hy
           have KR:=Lh (Blk.new v90 107 #[.int .i64 cl,.int .i64 vr,.int .i64 vl])
           have KV:=Lh ((KW.out.below HB.out).alloc (.cells #[.int .i64 cl,.int .i64 vr,.int .i64 vl] 107))
           have HB2:=Lh (bl_alloc HB.out (.cells #[.int .i64 cl,.int .i64 vr,.int .i64 vl] 107))
           have c0:=KR.out.cell 0 _ rfl
           have d1_:=KV.out.cell 1 _ rfl
           cases mt
           ·obtain ⟨e,he⟩:∃e,(cl % (r_.length:Int)==cell % 64 % (r_.length:Int))=e:=⟨_,rfl⟩
            have HN:Hid ((t0.reads.take (j+1)).any (fun x=>x.cell % (r_.length:Int)==cell % 64 % (r_.length:Int))=e):=Lh (by rw[HS.out,HMT.out];exact he)
            go_wp2_with fail
            go_quiet (fail)
            go_wp2
            go_roundw
            case rel=>exact ⟨j+1,e,by omega,by first | rfl | simp[he],by go_num,Lh (bl_drewN HB2.out _),HN⟩
            case measure=>simp[intOf];omega
           ·have HN:Hid ((t0.reads.take (j+1)).any (fun x=>x.cell % (r_.length:Int)==cell % 64 % (r_.length:Int))=true):=Lh (by rw[HS.out,HMT.out];rfl)
            go_wp2_with fail
            go_quiet (fail)
            go_wp2
            go_roundw
            case rel=>exact ⟨j+1,true,by omega,rfl,by go_num,Lh (bl_drewN HB2.out _),HN⟩
            case measure=>simp[intOf];omega
          ·have HM:Hid (t0.reads.any (fun x=>x.cell % (r_.length:Int)==cell % 64 % (r_.length:Int))=mt):=Lh (by have h5:=HMT.out;rw[List.take_of_length_le (by omega)]at h5;exact h5)
           have b_:=HB.out
           replace KW:=Lh (KW.out.below b_)
           replace HW0:=Lh (HW0.out.below b_)
           replace O1:=Lh (O1.out.below b_)
           replace K11:=Lh (K11.out.below b_)
           replace O2:=Lh (O2.out.below b_)
           replace K13:=Lh (K13.out.below b_)
           replace RB:=Lh (RB.out.below b_)
           replace K19:=Lh (K19.out.below b_)
           replace BB:=Lh (bl_trans BB.out b_)
           clear b_ HB HMT HRD
           have HJ:Hid (J ⟨t0,0,0,0⟩ ⟨h_,R1,k⟩):=Lh ⟨HWV.out,by rw[HINV.out.2.1];exact HINV.out.2.2,fun h=>by rcases h with h | h | h <;> exact absurd (show (0:Int)=_ from h) (by decide),⟨by show (0:Int)≤0;decide,by show (0:Int)≤6;decide⟩⟩
           have HAJ:=Lh (show (allC ⟨t0,0,0,0⟩ ⟨h_,R1,k⟩).2=0 from by have h1:=(all_j _ _ HJ.out 6 (by have:=left_le (⟨t0,0,0,0⟩:Com);omega)).1;unfold allC;rw[if_pos h1];exact h1)
           have HLT:Hid (mt=true→(allC ⟨t0,0,0,0⟩ ⟨h_,R1,k⟩).1.1.ph=6∧((allC ⟨t0,0,0,0⟩ ⟨h_,R1,k⟩).1.1.e=8∨(allC ⟨t0,0,0,0⟩ ⟨h_,R1,k⟩).1.1.e=7)):=Lh (fun hm=>by
  have h1:=HM.out
  rw[hm,List.any_eq_true]at h1
  obtain ⟨q,hq,he⟩:=h1
  rw[beq_iff_eq]at he
  refine late_all _ _ HJ.out rfl (cells_ok HINV.out.1 0 0 0) HINV.out.1.right HKV.out k q hq (by rw[←HSN.out];exact HINV.out.1.snap q hq) ?_
  show Bad R1 t0.who k (q.cell % ((R1).length:Int)).toNat
  rw[HBAD.out.2,he,HINV.out.2.1]
  exact HBAD.out.1)
           obtain ⟨R9,hr9⟩:∃R9,allC ⟨t0,0,0,0⟩ ⟨h_,R1,k⟩=R9:=⟨_,rfl⟩
           rw[hr9]at HAJ HLT
           have HALL:=Lh hr9
           clear hr9
           obtain ⟨⟨⟨tA,pA,vA,eA⟩,⟨hA_,rA_,kA⟩⟩,erA⟩:=R9
           obtain rfl:erA=0:=HAJ.out
           have HWV2:Hid (WRd v90 ⟨h_,R1,k⟩ { z with R:=B1,rc:=d1 }):=Lh ⟨HW0.out.1,by show Rd v90 2 B1 (R1).length (Stripe.rs R1);rw[HBAD.out.2];exact RB.out⟩
           have HFV:Hid (Few ⟨h_,R1,k⟩):=Lh ⟨HF.out.1,by show (R1).length≤1000000;rw[HBAD.out.2];exact HF.out.2⟩
           have hB:Calls Tryz.prog 40 #[.agg (aC t0 y2 0 0 0),.agg #[.slice z.H h_.length z.hc,.slice B1 r_.length d1,.int .i64 k]] v90 (fun e w' =>∃(y:TL) (z2:WL),e=.returned (.tuple #[.agg (aC tA y pA vA eA),.agg (aW z2 hA_ rA_ kA),.int .i64 0])∧Below v90.heap.size v90 w'):=(by
  have h:=all_c ⟨t0,0,0,0⟩ ⟨h_,R1,k⟩ y2 { z with R:=B1,rc:=d1 } v90 O2.out (short_fl HS1.out HF2.out) HWV2.out HFV.out HF2.out
  rw[HALL.out,show (wvl ⟨h_,R1,k⟩ { z with R:=B1,rc:=d1 }).toArray=#[.slice z.H h_.length z.hc,.slice B1 r_.length d1,.int .i64 k] from by show #[_,Value.slice B1 (R1).length d1,_]=_;rw[HBAD.out.2]]at h
  exact h.mono (fun e w' ⟨y,z2,h1,_,_,h2⟩=>⟨y,z2,h1,h2⟩))
           have a0:=K13.out.cell 0 _ rfl
           have a1:=K13.out.cell 1 _ rfl
           have a2:=K13.out.cell 2 _ rfl
           have a3:=K13.out.cell 3 _ rfl
           have a4:=K13.out.cell 4 _ rfl
           have a5:=K13.out.cell 5 _ rfl
           have a6:=K13.out.cell 6 _ rfl
           have a7:=K13.out.cell 7 _ rfl
           have a8:=K13.out.cell 8 _ rfl
           have a9:=K13.out.cell 9 _ rfl
           have a10:=K13.out.cell 10 _ rfl
           have a11:=K13.out.cell 11 _ rfl
           have a12:=K13.out.cell 12 _ rfl
           have a13:=K13.out.cell 13 _ rfl
           have b0:=K19.out.cell 0 _ rfl
           have b1:=K19.out.cell 1 _ rfl
           have b2:=K19.out.cell 2 _ rfl
           go_wp2_with fail
           clear a0 a1 a2 a3 a4 a5 a6 a7 a8 a9 a10 a11 a12 a13 b0 b1 b2
           refine (hB).mono ?_
           rintro e v91 ⟨y3,zq,rfl,b_⟩
           replace BB:=Lh (bl_trans BB.out b_)
           clear hB b_
           cases mt
           ·have Z0:Hid (Blk ((v91.alloc (.cells z14 69)).alloc (.cells z3 63)) v91.heap.size 69 z14):=Lh ((Blk.new v91 69 z14).alloc (.cells z3 63))
            have Z1:Hid (Blk ((v91.alloc (.cells z14 69)).alloc (.cells z3 63)) (v91.heap.size+1) 63 z3):=Lh (by have:=Blk.new (v91.alloc (.cells z14 69)) 63 z3;simpa only[World.size_alloc] using this)
            have Y0:Hid (Blk ((v91.alloc (.cells z14 69)).alloc (.cells z3 63)) v91.heap.size 69 z14):=Lh (Z0.out)
            have Y1:Hid (Blk (((v91.alloc (.cells z14 69)).alloc (.cells z3 63)).setRow v91.heap.size (aC tA y3 pA vA eA)) (v91.heap.size+1) 63 z3):=Lh ((row_only _ v91.heap.size _).blk Z1.out (by omega))
            have K23:Hid (Blk ((((v91.alloc (.cells z14 69)).alloc (.cells z3 63)).setRow v91.heap.size (aC tA y3 pA vA eA)).setRow (v91.heap.size+1) (aW zq hA_ rA_ kA)) v91.heap.size 69 (aC tA y3 pA vA eA)):=Lh ((row_only _ (v91.heap.size+1) _).blk (row_blk Y0.out) (by omega))
            have K24:Hid (Blk ((((v91.alloc (.cells z14 69)).alloc (.cells z3 63)).setRow v91.heap.size (aC tA y3 pA vA eA)).setRow (v91.heap.size+1) (aW zq hA_ rA_ kA)) (v91.heap.size+1) 63 (aW zq hA_ rA_ kA)):=Lh (row_blk Y1.out)
            have bst:Hid (Below v91.heap.size v91 ((((v91.alloc (.cells z14 69)).alloc (.cells z3 63)).setRow v91.heap.size (aC tA y3 pA vA eA)).setRow (v91.heap.size+1) (aW zq hA_ rA_ kA))):=Lh (Only.below (S:=fun k=>v91.heap.size≤k) (((((Only.refl (fun k=>v91.heap.size≤k) v91).alloc _).alloc _).trans (row_only _ v91.heap.size _) (fun k _ e=>by omega)).trans (row_only _ (v91.heap.size+1) _) (fun k _ e=>by omega)) (Nat.le_refl _) (fun k hk e=>by omega))
            go_upto_region 19 with (first | (refine wpList_store_row rfl 69 _ _ rfl v91.heap.size (aC tA y3 pA vA eA) rfl rfl 69 _ Y0.out (by kernel_rfl) rfl (by simp[Value.oneCell']) ?_) | (refine wpList_store_row rfl 63 _ _ rfl (v91.heap.size+1) (aW zq hA_ rA_ kA) rfl rfl 63 _ Y1.out (by kernel_rfl) rfl (by simp[Value.oneCell']) ?_;(clear Z0 Y0 Z1 Y1);(replace BB:=Lh (bl_trans BB.out bst.out));(clear bst);(generalize ((((v91.alloc (.cells z14 69)).alloc (.cells z3 63)).setRow v91.heap.size (aC tA y3 pA vA eA)).setRow (v91.heap.size+1) (aW zq hA_ rA_ kA))=v92 at *);(generalize hg23:v91.heap.size=g23 at *);(clear hg23)))
            have a0:=K23.out.cell 0 _ rfl
            have a1:=K23.out.cell 1 _ rfl
            have a2:=K23.out.cell 2 _ rfl
            have a3:=K23.out.cell 3 _ rfl
            have a4:=K23.out.cell 4 _ rfl
            have a5:=K23.out.cell 5 _ rfl
            have a6:=K23.out.cell 6 _ rfl
            have a7:=K23.out.cell 7 _ rfl
            have a8:=K23.out.cell 8 _ rfl
            have a9:=K23.out.cell 9 _ rfl
            have a10:=K23.out.cell 10 _ rfl
            have a11:=K23.out.cell 11 _ rfl
            have a12:=K23.out.cell 12 _ rfl
            have a13:=K23.out.cell 13 _ rfl
            go_wp2_with fail
            clear a0 a1 a2 a3 a4 a5 a6 a7 a8 a9 a10 a11 a12 a13
            refine (awake_any _).mono ?_
            rintro e wz ⟨rfl,b_⟩
            replace BB:=Lh (bl_trans BB.out b_)
            clear b_
            go_wp2
            go_ret
            exact ⟨rfl,BB.out⟩
           ·obtain ⟨hp6,he8⟩:=HLT.out rfl
            obtain rfl:pA=6:=hp6
            rcases he8 with he8 | he8
            ·obtain rfl:eA=8:=he8
             have Z0:Hid (Blk ((v91.alloc (.cells z14 69)).alloc (.cells z3 63)) v91.heap.size 69 z14):=Lh ((Blk.new v91 69 z14).alloc (.cells z3 63))
             have Z1:Hid (Blk ((v91.alloc (.cells z14 69)).alloc (.cells z3 63)) (v91.heap.size+1) 63 z3):=Lh (by have:=Blk.new (v91.alloc (.cells z14 69)) 63 z3;simpa only[World.size_alloc] using this)
             have Y0:Hid (Blk ((v91.alloc (.cells z14 69)).alloc (.cells z3 63)) v91.heap.size 69 z14):=Lh (Z0.out)
             have Y1:Hid (Blk (((v91.alloc (.cells z14 69)).alloc (.cells z3 63)).setRow v91.heap.size (aC tA y3 6 vA 8)) (v91.heap.size+1) 63 z3):=Lh ((row_only _ v91.heap.size _).blk Z1.out (by omega))
             have K23:Hid (Blk ((((v91.alloc (.cells z14 69)).alloc (.cells z3 63)).setRow v91.heap.size (aC tA y3 6 vA 8)).setRow (v91.heap.size+1) (aW zq hA_ rA_ kA)) v91.heap.size 69 (aC tA y3 6 vA 8)):=Lh ((row_only _ (v91.heap.size+1) _).blk (row_blk Y0.out) (by omega))
             have K24:Hid (Blk ((((v91.alloc (.cells z14 69)).alloc (.cells z3 63)).setRow v91.heap.size (aC tA y3 6 vA 8)).setRow (v91.heap.size+1) (aW zq hA_ rA_ kA)) (v91.heap.size+1) 63 (aW zq hA_ rA_ kA)):=Lh (row_blk Y1.out)
             have bst:Hid (Below v91.heap.size v91 ((((v91.alloc (.cells z14 69)).alloc (.cells z3 63)).setRow v91.heap.size (aC tA y3 6 vA 8)).setRow (v91.heap.size+1) (aW zq hA_ rA_ kA))):=Lh (Only.below (S:=fun k=>v91.heap.size≤k) (((((Only.refl (fun k=>v91.heap.size≤k) v91).alloc _).alloc _).trans (row_only _ v91.heap.size _) (fun k _ e=>by omega)).trans (row_only _ (v91.heap.size+1) _) (fun k _ e=>by omega)) (Nat.le_refl _) (fun k hk e=>by omega))
             go_upto_region 19 with (first | (refine wpList_store_row rfl 69 _ _ rfl v91.heap.size (aC tA y3 6 vA 8) rfl rfl 69 _ Y0.out (by kernel_rfl) rfl (by simp[Value.oneCell']) ?_) | (refine wpList_store_row rfl 63 _ _ rfl (v91.heap.size+1) (aW zq hA_ rA_ kA) rfl rfl 63 _ Y1.out (by kernel_rfl) rfl (by simp[Value.oneCell']) ?_;(clear Z0 Y0 Z1 Y1);(replace BB:=Lh (bl_trans BB.out bst.out));(clear bst);(generalize ((((v91.alloc (.cells z14 69)).alloc (.cells z3 63)).setRow v91.heap.size (aC tA y3 6 vA 8)).setRow (v91.heap.size+1) (aW zq hA_ rA_ kA))=v92 at *);(generalize hg23:v91.heap.size=g23 at *);(clear hg23)))
             have a0:=K23.out.cell 0 _ rfl
             have a1:=K23.out.cell 1 _ rfl
             have a2:=K23.out.cell 2 _ rfl
             have a3:=K23.out.cell 3 _ rfl
             have a4:=K23.out.cell 4 _ rfl
             have a5:=K23.out.cell 5 _ rfl
             have a6:=K23.out.cell 6 _ rfl
             have a7:=K23.out.cell 7 _ rfl
             have a8:=K23.out.cell 8 _ rfl
             have a9:=K23.out.cell 9 _ rfl
             have a10:=K23.out.cell 10 _ rfl
             have a11:=K23.out.cell 11 _ rfl
             have a12:=K23.out.cell 12 _ rfl
             have a13:=K23.out.cell 13 _ rfl
             go_wp2_with fail
             clear a0 a1 a2 a3 a4 a5 a6 a7 a8 a9 a10 a11 a12 a13
             refine (awake_any _).mono ?_
             rintro e wz ⟨rfl,b_⟩
             replace BB:=Lh (bl_trans BB.out b_)
             clear b_
             go_wp2
             go_ret
             exact ⟨rfl,BB.out⟩
            ·obtain rfl:eA=7:=he8
             have Z0:Hid (Blk ((v91.alloc (.cells z14 69)).alloc (.cells z3 63)) v91.heap.size 69 z14):=Lh ((Blk.new v91 69 z14).alloc (.cells z3 63))
             have Z1:Hid (Blk ((v91.alloc (.cells z14 69)).alloc (.cells z3 63)) (v91.heap.size+1) 63 z3):=Lh (by have:=Blk.new (v91.alloc (.cells z14 69)) 63 z3;simpa only[World.size_alloc] using this)
             have Y0:Hid (Blk ((v91.alloc (.cells z14 69)).alloc (.cells z3 63)) v91.heap.size 69 z14):=Lh (Z0.out)
             have Y1:Hid (Blk (((v91.alloc (.cells z14 69)).alloc (.cells z3 63)).setRow v91.heap.size (aC tA y3 6 vA 7)) (v91.heap.size+1) 63 z3):=Lh ((row_only _ v91.heap.size _).blk Z1.out (by omega))
             have K23:Hid (Blk ((((v91.alloc (.cells z14 69)).alloc (.cells z3 63)).setRow v91.heap.size (aC tA y3 6 vA 7)).setRow (v91.heap.size+1) (aW zq hA_ rA_ kA)) v91.heap.size 69 (aC tA y3 6 vA 7)):=Lh ((row_only _ (v91.heap.size+1) _).blk (row_blk Y0.out) (by omega))
             have K24:Hid (Blk ((((v91.alloc (.cells z14 69)).alloc (.cells z3 63)).setRow v91.heap.size (aC tA y3 6 vA 7)).setRow (v91.heap.size+1) (aW zq hA_ rA_ kA)) (v91.heap.size+1) 63 (aW zq hA_ rA_ kA)):=Lh (row_blk Y1.out)
             have bst:Hid (Below v91.heap.size v91 ((((v91.alloc (.cells z14 69)).alloc (.cells z3 63)).setRow v91.heap.size (aC tA y3 6 vA 7)).setRow (v91.heap.size+1) (aW zq hA_ rA_ kA))):=Lh (Only.below (S:=fun k=>v91.heap.size≤k) (((((Only.refl (fun k=>v91.heap.size≤k) v91).alloc _).alloc _).trans (row_only _ v91.heap.size _) (fun k _ e=>by omega)).trans (row_only _ (v91.heap.size+1) _) (fun k _ e=>by omega)) (Nat.le_refl _) (fun k hk e=>by omega))
             go_upto_region 19 with (first | (refine wpList_store_row rfl 69 _ _ rfl v91.heap.size (aC tA y3 6 vA 7) rfl rfl 69 _ Y0.out (by kernel_rfl) rfl (by simp[Value.oneCell']) ?_) | (refine wpList_store_row rfl 63 _ _ rfl (v91.heap.size+1) (aW zq hA_ rA_ kA) rfl rfl 63 _ Y1.out (by kernel_rfl) rfl (by simp[Value.oneCell']) ?_;(clear Z0 Y0 Z1 Y1);(replace BB:=Lh (bl_trans BB.out bst.out));(clear bst);(generalize ((((v91.alloc (.cells z14 69)).alloc (.cells z3 63)).setRow v91.heap.size (aC tA y3 6 vA 7)).setRow (v91.heap.size+1) (aW zq hA_ rA_ kA))=v92 at *);(generalize hg23:v91.heap.size=g23 at *);(clear hg23)))
             have a0:=K23.out.cell 0 _ rfl
             have a1:=K23.out.cell 1 _ rfl
             have a2:=K23.out.cell 2 _ rfl
             have a3:=K23.out.cell 3 _ rfl
             have a4:=K23.out.cell 4 _ rfl
             have a5:=K23.out.cell 5 _ rfl
             have a6:=K23.out.cell 6 _ rfl
             have a7:=K23.out.cell 7 _ rfl
             have a8:=K23.out.cell 8 _ rfl
             have a9:=K23.out.cell 9 _ rfl
             have a10:=K23.out.cell 10 _ rfl
             have a11:=K23.out.cell 11 _ rfl
             have a12:=K23.out.cell 12 _ rfl
             have a13:=K23.out.cell 13 _ rfl
             go_wp2_with fail
             clear a0 a1 a2 a3 a4 a5 a6 a7 a8 a9 a10 a11 a12 a13
             refine (awake_any _).mono ?_
             rintro e wz ⟨rfl,b_⟩
             replace BB:=Lh (bl_trans BB.out b_)
             clear b_
             go_wp2
             go_ret
             exact ⟨rfl,BB.out⟩
      ·have tf:(f1 !=0)=true:=by simpa using hf
       clear hf
       go_wp2_with fail
       refine (awake_any _).mono ?_
       rintro e wz ⟨rfl,b_⟩
       replace BB:=Lh (bl_trans BB.out b_)
       clear b_
       go_wp2
       go_ret
       exact ⟨rfl,BB.out⟩
end Go.Proofs.YtgghaodcfgbjlaaGreat.Commit
namespace Go.Proofs.YtgghaodcfgbjlaaGreat.commitLate
open Go.ChangeShapes Go.WideShapes Go.ChangeAt Go.RowKit
set_option linter.unusedVariables false
theorem own:ownKnob Tryz.prog.godebug=none:=by kernel_rfl
theorem laidOut:laidOutB Tryz.prog=true:=by kernel_rfl
theorem lifted (os:Os) (started:os.Started) (H:Type) (enc:TypeId × Value→H):
  ReturnsInHanded {} Tryz.checked os 7 .any (Rows.commitLateSpec.pre6 enc Tryz.prog Tryz.f7 Rows.commitLateRow.domain false) (Rows.commitLateSpec.post enc Tryz.prog Tryz.f7 false true false false):=by
 refine returnsInHanded_of_change (C:=Tryz.checked) own started (by kernel_rfl) Tryz.func7
  (ChangeSpec.witness6 (enc:=enc) (C:=Tryz.checked) false ⟨#[],#[.slice none 0 0,.int .i64 0,.int .i64 0,.agg #[.slice none 0 0,.slice none 0 0,.int .i64 0],.int .u8 0,.bool false],[]⟩ 8 (by kernel_rfl) (by kernel_rfl) (by kernel_rfl) (by kernel_rfl)) ?_
 intro W base args ds gs before hval0 hW hcnd _
 have hval:∀(j:Nat) t v,Tryz.f7.params[j]?=some t→args[j]?=some v→Value.okWide Tryz.prog W .any base t v:=hval0
 have hW' :=hW
 obtain ⟨p,q,hA0,hV,rfl,hfz,hnd⟩:=hW
 have hA:DataW.TrodAll enc Tryz.prog W 0 (fun _=>true) true Tryz.f7.params.toList args.toList ds p:=hA0
 rw[Tryz.params7]at hA hval
 obtain ⟨v0,vs0,d0,ds0,p0,q0,hargs,rfl,rfl,h0,rr0⟩:=trodAll_cons hA
 obtain ⟨v1,vs1,d1,ds1,p1,q1,rfl,rfl,rfl,h1,rr1⟩:=trodAll_cons rr0
 obtain ⟨v2,vs2,d2,ds2,p2,q2,rfl,rfl,rfl,h2,rr2⟩:=trodAll_cons rr1
 obtain ⟨v3,vs3,d3,ds3,p3,q3,rfl,rfl,rfl,h3,rr3⟩:=trodAll_cons rr2
 obtain ⟨v4,vs4,d4,ds4,p4,q4,rfl,rfl,rfl,h4,rr4⟩:=trodAll_cons rr3
 obtain ⟨v5,vs5,d5,ds5,p5,q5,rfl,rfl,rfl,h5,rr5⟩:=trodAll_cons rr4
 obtain ⟨rfl,rfl,rfl⟩:=trodAll_nil rr5
 obtain rfl:args=#[v0,v1,v2,v3,v4,v5]:=by cases args;simp_all
 obtain ⟨rfl,rfl⟩:=trodVars_none hV
 obtain ⟨A0,n0,c0,rfl⟩:=okWide_slice Tryz.underlying22 (hval 0 22 v0 rfl rfl)
 have k0:=h0
 have lt0:∀x∈p0,x.block<W.heap.size:=by obtain ⟨m,hm⟩:=k0;exact DataW.trod_lt m _ _ _ hm
 obtain ⟨nc0,cm0,x0,r0,ln0,g0⟩:=Code.open_steps h0
 have m0:n0≤9223372036854775807:=Nat.le_trans nc0 cm0
 obtain ⟨a1,rfl,rfl,rfl,w1⟩:=open_int Tryz.underlying3 (hval 1 3 v1 rfl rfl) h1
 obtain ⟨a2,rfl,rfl,rfl,w2⟩:=open_int Tryz.underlying3 (hval 2 3 v2 rfl rfl) h2
 have k3:=h3
 have lt3:∀x∈p3,x.block<W.heap.size:=by obtain ⟨m,hm⟩:=k3;exact DataW.trod_lt m _ _ _ hm
 obtain ⟨x3,rfl,g3⟩:=Commit.open_cworld (hval 3 63 v3 rfl rfl) h3
 obtain ⟨a4,rfl,rfl,rfl,w4⟩:=open_int Tryz.underlying5 (hval 4 5 v4 rfl rfl) h4
 obtain ⟨a5,rfl,rfl,rfl⟩:=open_bool Tryz.underlying4 (hval 5 4 v5 rfl rfl) h5
 clear hA0 hval0
 refine (Commit.late_walk A0 n0 c0 a1 a2 x0 x3.W x3.z a4 a5 W nc0 m0 (Code.good_at r0 g0) g3.1 (bounds_u8 w4).1 (bounds_u8 w4).2).mono fun e W' ⟨he,bel⟩=>?_
 subst he
 exact ⟨_,rfl,_,_,_,[],_,[],hW',trodAll_mk1 (shut_bool Tryz.underlying4 _),(trodAll_cons_mk (Below.trod laidOut (by kernel_rfl) (of_decide_eq_true (by kernel_rfl)) k0 bel lt0) (trodAll_cons_mk (shut_int Tryz.underlying3 w1) (trodAll_cons_mk (shut_int Tryz.underlying3 w2) (trodAll_cons_mk (Below.trod laidOut (by kernel_rfl) (of_decide_eq_true (by kernel_rfl)) k3 bel lt3) (trodAll_cons_mk (shut_int Tryz.underlying5 w4) (trodAll_cons_mk (shut_bool Tryz.underlying4 _) trodAll_mk0)))))),rfl,bel.frame _,fun h=>by cases h⟩
theorem over:Rows.commitLateRow.holds Tryz.pinned (OpenSpec.ofChange Rows.commitLateSpec):=
 OpenClaim.holds_of_wide 7 Tryz.f7 rfl rfl rfl rfl rfl rfl rfl ⟨rfl,rfl,rfl,rfl,rfl⟩ rfl rfl rfl rfl rfl (by kernel_rfl) Tryz.func7 (by kernel_rfl)
  (of_decide_eq_true (by kernel_rfl)) (by unfold Func.isWrapper;first | (rw[if_pos (by decide+kernel)];kernel_rfl) | (rw[if_neg (by decide+kernel)];exact ⟨rfl,rfl⟩))
  (fun os started H enc _=>lifted os started H enc)
end Go.Proofs.YtgghaodcfgbjlaaGreat.commitLate
namespace Go.Proofs.YtgghaodcfgbjlaaGreat
theorem commitLate_holds : Rows.CommitLateSaid :=commitLate.over
end Go.Proofs.YtgghaodcfgbjlaaGreat
