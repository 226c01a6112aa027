/-
  PROVED: the law CommitSteps returns true for any steps, any three numbers and any world (at most 40 steps, of at most 20 operations each, and a world of at most 80 cells and 30 records are looked at). No further conditions.
-/
import Derived.Test.YtgghaodcfgbjlaaGreatCmD
import Derived.Test.YtgghaodcfgbjlaaGreatCmC
import Derived.Test.YtgghaodcfgbjlaaGreatCmB
import Derived.Test.YtgghaodcfgbjlaaGreatAttG
import Derived.Test.YtgghaodcfgbjlaaGreatStripeA
import Derived.Deep.Cut
import Derived.Deep.CutRange
import Derived.Test.YtgghaodcfgbjlaaGreatCodeA
import Derived.WalkKit
import Derived.ProofKit
import Derived.OpenShut
import Derived.ChangeOld
import Derived.Below
import Derived.Carry
set_option maxRecDepth 100000
namespace Go.Proofs.YtgghaodcfgbjlaaGreat.Commit
open Go.ChangeShapes Go.WideShapes Go.ChangeAt Go.RowKit Mem Go.Proofs.YtgghaodcfgbjlaaGreat.Attempt Go.Proofs.YtgghaodcfgbjlaaGreat.Code
theorem tried_done_any {c:List Step} {who snap:Int} {h:List Heap.Cell} {r:List Stripe.Rec} {T:Try} {b:Bool} (hT:triedS c who snap h r=(T,b)):T.kind=1→T.frames= []:=by
 cases b with
 | true=>exact tried_done hT
 | false =>
  unfold triedS at hT
  split at hT
  ·rename_i h1
   have e:(runS c h r (beginS c who snap).1).1=T:=(Prod.mk.inj hT).1
   have e2:(runS c h r (beginS c who snap).1).2.2=false:=(Prod.mk.inj hT).2
   unfold runS at e e2
   by_cases h2:(runF c h r (c.length+1) (beginS c who snap).1 0).2.2=true
   ·rw[if_pos h2,h2]at e2;cases e2
   ·rw [if_neg h2]at e
    have e:(beginS c who snap).1=T:=e
    rw[←e,begin_first h1];exact first_done c who snap
  ·rename_i h1
   have e:(beginS c who snap).1=T:=(Prod.mk.inj hT).1
   have h2:(beginS c who snap).2=false:=by simpa using h1
   have h3:=(begin_false (T:=(beginS c who snap).1) (Prod.ext rfl h2)).1
   rw[←e,h3];intro _;rfl
theorem small_val_ (l:List Raw) (n:Nat) (hl:l.length=n) (h:smallB l=true):smallI l=(n:Int):=by unfold smallI;rw[if_pos h,hl]
theorem small_neg_ (l:List Raw) (h:smallB l=false):smallI l= -1:=by unfold smallI;rw[h];rfl
def LA (nA:Nat) (t:Try) (y:TL) (W:Wd) (z:WL) (w:World):Prop:=∀w'',Only (fun k=>k<nA) w w'' →TRd w'' t y∧WRd w'' W z
theorem LA.below {nA:Nat} {t:Try} {y:TL} {W:Wd} {z:WL} {w w' :World} (h:LA nA t y W z w) (hb:Below w.heap.size w w'):LA nA t y W z w' :=fun w'' ho=>h w'' (((Only.refl (fun k=>k<nA) w).bl hb).trans ho (fun _ _ e=>e))
theorem LA.turn {nA g:Nat} {t:Try} {y:TL} {W:Wd} {z:WL} {w w' :World} (h:LA nA t y W z w) (ho:Only (fun k=>k=g) w w') (hg:g<nA):LA nA t y W z w' :=fun w'' h2=>h w'' ((ho.sub (S2:=fun k=>k<nA) (fun k _ e=>by omega)).trans h2 (fun _ _ e=>e))
def OnlyA (g1 g2:Nat) (wa w:World):Prop:=Only (fun k=>k=g1∨k=g2) wa w
theorem OnlyA.below {g1 g2:Nat} {wa w w' :World} (h:OnlyA g1 g2 wa w) (hb:Below w.heap.size w w'):OnlyA g1 g2 wa w' :=Only.bl h hb
theorem few_of {W:Wd} (h:smallW W=true):Few W:=by
 unfold smallW at h
 rw[Bool.and_eq_true,decide_eq_true_eq,decide_eq_true_eq]at h
 exact ⟨by omega,by omega⟩
theorem raw_nil {w:World} {t:Try} {y:TL} (h:TRd w t y) (e:y.fl= []):t.frames= []:=by
 have h1:=h.raw
 rw[e]at h1
 exact List.reverse_eq_nil_iff.1 h1.symm
theorem short_fl {t:Try} {x y:TL} (h:Short t x) (e:y.fl= []):Short t y:=⟨h.n1,h.n2,h.n3,h.n4,h.n5,by rw[e];decide⟩
set_option maxHeartbeats 8000000 in
theorem steps_walk (A:Option Addr) (n c:Nat) (who other snap:Int) (l:List Raw) (W:Wd) (z:WL) (w:World) (hnc:n≤c) (mn:n≤9223372036854775807) (hat:At w A n l) (hw:WRd w W z):
  Calls Tryz.prog 9 #[.slice A n c,.int .i64 who,.int .i64 other,.int .i64 snap,.agg (wvl W z).toArray] w (RetB w true):=by
 obtain ⟨h_,r_,k⟩:=W
 have HL:=Lh hat.len
 show Calls Tryz.prog 9 #[.slice A n c,.int .i64 who,.int .i64 other,.int .i64 snap,.agg (aW z h_ r_ k)] w (RetB w true)
 have BB:Hid (Below w.heap.size w (w.alloc (.cells (aW z h_ r_ k) 63))):=Lh (bl_alloc (Below.refl _ _) _)
 have KW:Hid (Blk (w.alloc (.cells (aW z h_ r_ k) 63)) w.heap.size 63 (aW z h_ r_ k)):=Lh (Blk.new w _ _)
 have HA0:=Lh (hat.below BB.out)
 have HW0:Hid (WRd (w.alloc (.cells (aW z h_ r_ k) 63)) ⟨h_,r_,k⟩ z):=Lh (hw.below BB.out)
 have HWw:=Lh hw
 clear hat hw
 cases hs:smallB l with
 | false=>
  have HSM:=Lh (small_neg_ l hs)
  clear hs
  go_enter Tryz.func9,Tryz.ntmps9
  go_wp2_with fail
  generalize (w.alloc (.cells (aW z h_ r_ k) 63))=v0 at *
  refine (Code.small_c l A n c _ (-1) HA0.out mn HSM.out).mono ?_
  rintro e v1 ⟨rfl,b_⟩
  replace KW:=Lh (KW.out.below b_)
  replace HA0:=Lh (HA0.out.below b_)
  replace HW0:=Lh (HW0.out.below b_)
  replace BB:=Lh (bl_trans BB.out b_)
  clear b_
  go_wp2_with fail
  refine (awake_any _).mono ?_
  rintro e wz ⟨rfl,b_⟩
  replace BB:=Lh (bl_trans BB.out b_)
  clear b_
  go_wp2
  go_ret
  exact ⟨rfl,BB.out⟩
 | true =>
  obtain ⟨hlim,h40⟩:=small_lim l hs
  have HSM:=Lh (small_val_ l n HL.out hs)
  have HLM:=Lh hlim
  have hn40:n≤40:=by rw[←HL.out];exact h40
  clear hs hlim h40
  cases hsw:smallW ⟨h_,r_,k⟩ with
  | false=>
   have HSW:=Lh hsw
   clear hsw
   go_enter Tryz.func9,Tryz.ntmps9
   go_wp2_with fail
   generalize (w.alloc (.cells (aW z h_ r_ k) 63))=v0 at *
   refine (Code.small_c l A n c _ ((n:Int)) HA0.out mn HSM.out).mono ?_
   rintro e v1 ⟨rfl,b_⟩
   replace KW:=Lh (KW.out.below b_)
   replace HA0:=Lh (HA0.out.below b_)
   replace HW0:=Lh (HW0.out.below b_)
   replace BB:=Lh (bl_trans BB.out b_)
   clear b_
   have a0:=KW.out.cell 0 _ rfl
   have a1:=KW.out.cell 1 _ rfl
   have a2:=KW.out.cell 2 _ rfl
   go_wp2_with fail
   clear a0 a1 a2
   refine (small_c ⟨h_,r_,k⟩ z _ false HSW.out).mono ?_
   rintro e v2 ⟨rfl,b_⟩
   replace KW:=Lh (KW.out.below b_)
   replace HA0:=Lh (HA0.out.below b_)
   replace HW0:=Lh (HW0.out.below b_)
   replace BB:=Lh (bl_trans BB.out b_)
   clear b_
   go_wp2_with fail
   refine (awake_any _).mono ?_
   rintro e wz ⟨rfl,b_⟩
   replace BB:=Lh (bl_trans BB.out b_)
   clear b_
   go_wp2
   go_ret
   exact ⟨rfl,BB.out⟩
  | true =>
   have HSW:=Lh hsw
   have HF:=Lh (few_of hsw)
   clear hsw
   cases hr:rightW ⟨h_,r_,k⟩ with
   | false=>
    have HRT:=Lh hr
    clear hr
    go_enter Tryz.func9,Tryz.ntmps9
    go_wp2_with fail
    generalize (w.alloc (.cells (aW z h_ r_ k) 63))=v0 at *
    refine (Code.small_c l A n c _ ((n:Int)) HA0.out mn HSM.out).mono ?_
    rintro e v1 ⟨rfl,b_⟩
    replace KW:=Lh (KW.out.below b_)
    replace HA0:=Lh (HA0.out.below b_)
    replace HW0:=Lh (HW0.out.below b_)
    replace BB:=Lh (bl_trans BB.out b_)
    clear b_
    have a0:=KW.out.cell 0 _ rfl
    have a1:=KW.out.cell 1 _ rfl
    have a2:=KW.out.cell 2 _ rfl
    go_wp2_with fail
    clear a0 a1 a2
    refine (small_c ⟨h_,r_,k⟩ z _ true HSW.out).mono ?_
    rintro e v2 ⟨rfl,b_⟩
    replace KW:=Lh (KW.out.below b_)
    replace HA0:=Lh (HA0.out.below b_)
    replace HW0:=Lh (HW0.out.below b_)
    replace BB:=Lh (bl_trans BB.out b_)
    clear b_
    have a0:=KW.out.cell 0 _ rfl
    have a1:=KW.out.cell 1 _ rfl
    have a2:=KW.out.cell 2 _ rfl
    go_wp2_with fail
    clear a0 a1 a2
    refine (right_c ⟨h_,r_,k⟩ z _ false HW0.out HF.out HRT.out).mono ?_
    rintro e v3 ⟨rfl,b_⟩
    replace KW:=Lh (KW.out.below b_)
    replace HA0:=Lh (HA0.out.below b_)
    replace HW0:=Lh (HW0.out.below b_)
    replace BB:=Lh (bl_trans BB.out b_)
    clear b_
    go_wp2_with fail
    refine (awake_any _).mono ?_
    rintro e wz ⟨rfl,b_⟩
    replace BB:=Lh (bl_trans BB.out b_)
    clear b_
    go_wp2
    go_ret
    exact ⟨rfl,BB.out⟩
   | true =>
    have HRT:=Lh hr
    clear hr
    by_cases hwo:who=other
    ·subst hwo
     go_enter Tryz.func9,Tryz.ntmps9
     go_wp2_with fail
     generalize (w.alloc (.cells (aW z h_ r_ k) 63))=v0 at *
     refine (Code.small_c l A n c _ ((n:Int)) HA0.out mn HSM.out).mono ?_
     rintro e v1 ⟨rfl,b_⟩
     replace KW:=Lh (KW.out.below b_)
     replace HA0:=Lh (HA0.out.below b_)
     replace HW0:=Lh (HW0.out.below b_)
     replace BB:=Lh (bl_trans BB.out b_)
     clear b_
     have a0:=KW.out.cell 0 _ rfl
     have a1:=KW.out.cell 1 _ rfl
     have a2:=KW.out.cell 2 _ rfl
     go_wp2_with fail
     clear a0 a1 a2
     refine (small_c ⟨h_,r_,k⟩ z _ true HSW.out).mono ?_
     rintro e v2 ⟨rfl,b_⟩
     replace KW:=Lh (KW.out.below b_)
     replace HA0:=Lh (HA0.out.below b_)
     replace HW0:=Lh (HW0.out.below b_)
     replace BB:=Lh (bl_trans BB.out b_)
     clear b_
     have a0:=KW.out.cell 0 _ rfl
     have a1:=KW.out.cell 1 _ rfl
     have a2:=KW.out.cell 2 _ rfl
     go_wp2_with fail
     clear a0 a1 a2
     refine (right_c ⟨h_,r_,k⟩ z _ true HW0.out HF.out HRT.out).mono ?_
     rintro e v3 ⟨rfl,b_⟩
     replace KW:=Lh (KW.out.below b_)
     replace HA0:=Lh (HA0.out.below b_)
     replace HW0:=Lh (HW0.out.below b_)
     replace BB:=Lh (bl_trans BB.out b_)
     clear b_
     go_wp2_with fail
     refine (awake_any _).mono ?_
     rintro e wz ⟨rfl,b_⟩
     replace BB:=Lh (bl_trans BB.out b_)
     clear b_
     go_wp2
     go_ret
     exact ⟨rfl,BB.out⟩
    ·have HWO :=Lh hwo
     have nwo:(who==other)=false:=beq_eq_false_iff_ne.2 hwo
     obtain ⟨R,hR⟩:∃R,triedS (ss l) who snap h_ r_=R:=⟨_,rfl⟩
     have HR:=Lh hR
     clear hR
     obtain ⟨T,dn⟩:=R
     obtain ⟨Bg,hB⟩:∃B,beginC T=B:=⟨_,rfl⟩
     have HBG:=Lh hB
     clear hB
     obtain ⟨⟨t0,p0,v0c,e0⟩,bo⟩:=Bg
     cases dn with
     | false=>
      go_enter Tryz.func9,Tryz.ntmps9
      go_wp2_with fail
      generalize (w.alloc (.cells (aW z h_ r_ k) 63))=v0 at *
      refine (Code.small_c l A n c _ ((n:Int)) HA0.out mn HSM.out).mono ?_
      rintro e v1 ⟨rfl,b_⟩
      replace KW:=Lh (KW.out.below b_)
      replace HA0:=Lh (HA0.out.below b_)
      replace HW0:=Lh (HW0.out.below b_)
      replace BB:=Lh (bl_trans BB.out b_)
      clear b_
      have a0:=KW.out.cell 0 _ rfl
      have a1:=KW.out.cell 1 _ rfl
      have a2:=KW.out.cell 2 _ rfl
      go_wp2_with fail
      clear a0 a1 a2
      refine (small_c ⟨h_,r_,k⟩ z _ true HSW.out).mono ?_
      rintro e v2 ⟨rfl,b_⟩
      replace KW:=Lh (KW.out.below b_)
      replace HA0:=Lh (HA0.out.below b_)
      replace HW0:=Lh (HW0.out.below b_)
      replace BB:=Lh (bl_trans BB.out b_)
      clear b_
      have a0:=KW.out.cell 0 _ rfl
      have a1:=KW.out.cell 1 _ rfl
      have a2:=KW.out.cell 2 _ rfl
      go_wp2_with fail
      clear a0 a1 a2
      refine (right_c ⟨h_,r_,k⟩ z _ true HW0.out HF.out HRT.out).mono ?_
      rintro e v3 ⟨rfl,b_⟩
      replace KW:=Lh (KW.out.below b_)
      replace HA0:=Lh (HA0.out.below b_)
      replace HW0:=Lh (HW0.out.below b_)
      replace BB:=Lh (bl_trans BB.out b_)
      clear b_
      have a0:=KW.out.cell 0 _ rfl
      have a1:=KW.out.cell 1 _ rfl
      have a2:=KW.out.cell 2 _ rfl
      go_wp2_with fail
      clear a0 a1 a2
      have hB:Calls Tryz.prog 26 #[.slice A n c,.int .i64 who,.int .i64 snap,.agg (aW z h_ r_ k)] v3 (fun e w' =>∃y:TL,e=.returned (.tuple #[.agg (aT T y),.bool false])∧TRd w' T y∧Short T y∧Below v3.heap.size v3 w'):=(tried_c l A n c who snap ⟨h_,r_,k⟩ z v3 HA0.out hnc HLM.out (by omega) HW0.out HF.out (T,false) HR.out).mono (fun e w' ⟨y,h1,h2,h3,h4⟩=>⟨y,h1,h2 _ (Only.refl _ _),h3,h4⟩)
      refine (hB).mono ?_
      rintro e v4 ⟨y1,rfl,hT,hS,b_⟩
      replace KW:=Lh (KW.out.below b_)
      replace HA0:=Lh (HA0.out.below b_)
      replace HW0:=Lh (HW0.out.below b_)
      replace BB:=Lh (bl_trans BB.out b_)
      clear hB b_
      have O1:=Lh hT
      have HS1:=Lh hS
      clear hT hS
      have HG11:Hid (w.heap.size<v4.heap.size):=Lh KW.out.lt
      have Z0:Hid (Blk (v4.alloc (.cells z11 34)) v4.heap.size 34 z11):=Lh (Blk.new v4 34 z11)
      have Y0:Hid (Blk (v4.alloc (.cells z11 34)) v4.heap.size 34 z11):=Lh (Z0.out)
      have K11:Hid (Blk ((v4.alloc (.cells z11 34)).setRow v4.heap.size (aT T y1)) v4.heap.size 34 (aT T y1)):=Lh (row_blk Y0.out)
      have bst:Hid (Below v4.heap.size v4 ((v4.alloc (.cells z11 34)).setRow v4.heap.size (aT T y1))):=Lh (Only.below (S:=fun k=>v4.heap.size≤k) (((Only.refl (fun k=>v4.heap.size≤k) v4).alloc _).trans (row_only _ v4.heap.size _) (fun k _ e=>by omega)) (Nat.le_refl _) (fun k hk e=>by omega))
      go_wp2_with (first | (refine wpList_store_row rfl 34 _ _ rfl v4.heap.size (aT T y1) rfl rfl 34 _ Y0.out (by kernel_rfl) rfl (by simp[Value.oneCell']) ?_;(clear Z0 Y0);(replace KW:=Lh (KW.out.below bst.out));(replace HA0:=Lh (HA0.out.below bst.out));(replace HW0:=Lh (HW0.out.below bst.out));(replace O1:=Lh (O1.out.below bst.out));(replace BB:=Lh (bl_trans BB.out bst.out));(clear bst);(generalize ((v4.alloc (.cells z11 34)).setRow v4.heap.size (aT T y1))=v5 at *);(generalize hg11:v4.heap.size=g11 at *);(clear hg11);(have a0:=K11.out.cell 0 _ rfl);(have a1:=K11.out.cell 1 _ rfl);(have a2:=K11.out.cell 2 _ rfl);(have a3:=K11.out.cell 3 _ rfl);(have a4:=K11.out.cell 4 _ rfl);(have a5:=K11.out.cell 5 _ rfl);(have a6:=K11.out.cell 6 _ rfl);(have a7:=K11.out.cell 7 _ rfl);(have a8:=K11.out.cell 8 _ rfl);(have a9:=K11.out.cell 9 _ rfl);(have a10:=K11.out.cell 10 _ rfl)))
      clear a0 a1 a2 a3 a4 a5 a6 a7 a8 a9 a10
      have hB:Calls Tryz.prog 27 #[.agg (aT T y1)] v5 (fun e w' =>∃(y:TL) (er:Int),e=.returned (.tuple #[.agg (aC t0 y p0 v0c e0),.int .i64 er])∧er=(if bo=true then 0 else 1)∧y.fl= []∧TRd w' t0 y∧Below v5.heap.size v5 w'):=(by have h:=begin_c T y1 v5 O1.out HS1.out (fun h=>fl_nil O1.out (tried_done_any HR.out h));rw[HBG.out]at h;exact h.mono (fun e w' ⟨y,h1,h2,h3,h4⟩=>⟨y,_,h1,rfl,h2,h3 _ (Only.refl _ _),h4⟩))
      refine (hB).mono ?_
      rintro e v6 ⟨y2,er2,rfl,her2,hf,hT,b_⟩
      replace KW:=Lh (KW.out.below b_)
      replace HA0:=Lh (HA0.out.below b_)
      replace HW0:=Lh (HW0.out.below b_)
      replace O1:=Lh (O1.out.below b_)
      replace K11:=Lh (K11.out.below b_)
      replace BB:=Lh (bl_trans BB.out b_)
      clear her2
      clear hB b_
      have O2:=Lh hT
      have HF2:=Lh hf
      clear hT hf
      have Z0:Hid (Blk (v6.alloc (.cells z14 69)) v6.heap.size 69 z14):=Lh (Blk.new v6 69 z14)
      have Y0:Hid (Blk (v6.alloc (.cells z14 69)) v6.heap.size 69 z14):=Lh (Z0.out)
      have K13:Hid (Blk ((v6.alloc (.cells z14 69)).setRow v6.heap.size (aC t0 y2 p0 v0c e0)) v6.heap.size 69 (aC t0 y2 p0 v0c e0)):=Lh (row_blk Y0.out)
      have bst:Hid (Below v6.heap.size v6 ((v6.alloc (.cells z14 69)).setRow v6.heap.size (aC t0 y2 p0 v0c e0))):=Lh (Only.below (S:=fun k=>v6.heap.size≤k) (((Only.refl (fun k=>v6.heap.size≤k) v6).alloc _).trans (row_only _ v6.heap.size _) (fun k _ e=>by omega)) (Nat.le_refl _) (fun k hk e=>by omega))
      go_wp2_with (first | (refine wpList_store_row rfl 69 _ _ rfl v6.heap.size (aC t0 y2 p0 v0c e0) rfl rfl 69 _ Y0.out (by kernel_rfl) rfl (by simp[Value.oneCell']) ?_;(clear Z0 Y0);(replace KW:=Lh (KW.out.below bst.out));(replace HA0:=Lh (HA0.out.below bst.out));(replace HW0:=Lh (HW0.out.below bst.out));(replace O1:=Lh (O1.out.below bst.out));(replace K11:=Lh (K11.out.below bst.out));(replace O2:=Lh (O2.out.below bst.out));(replace BB:=Lh (bl_trans BB.out bst.out));(clear bst);(generalize ((v6.alloc (.cells z14 69)).setRow v6.heap.size (aC t0 y2 p0 v0c e0))=v7 at *)) | (refine (awake_any _).mono ?_;rintro e wz ⟨rfl,b_⟩))
      go_ret
      exact ⟨rfl,bl_trans BB.out b_⟩
     | true =>
      cases bo with
      | false=>
       go_enter Tryz.func9,Tryz.ntmps9
       go_wp2_with fail
       generalize (w.alloc (.cells (aW z h_ r_ k) 63))=v0 at *
       refine (Code.small_c l A n c _ ((n:Int)) HA0.out mn HSM.out).mono ?_
       rintro e v1 ⟨rfl,b_⟩
       replace KW:=Lh (KW.out.below b_)
       replace HA0:=Lh (HA0.out.below b_)
       replace HW0:=Lh (HW0.out.below b_)
       replace BB:=Lh (bl_trans BB.out b_)
       clear b_
       have a0:=KW.out.cell 0 _ rfl
       have a1:=KW.out.cell 1 _ rfl
       have a2:=KW.out.cell 2 _ rfl
       go_wp2_with fail
       clear a0 a1 a2
       refine (small_c ⟨h_,r_,k⟩ z _ true HSW.out).mono ?_
       rintro e v2 ⟨rfl,b_⟩
       replace KW:=Lh (KW.out.below b_)
       replace HA0:=Lh (HA0.out.below b_)
       replace HW0:=Lh (HW0.out.below b_)
       replace BB:=Lh (bl_trans BB.out b_)
       clear b_
       have a0:=KW.out.cell 0 _ rfl
       have a1:=KW.out.cell 1 _ rfl
       have a2:=KW.out.cell 2 _ rfl
       go_wp2_with fail
       clear a0 a1 a2
       refine (right_c ⟨h_,r_,k⟩ z _ true HW0.out HF.out HRT.out).mono ?_
       rintro e v3 ⟨rfl,b_⟩
       replace KW:=Lh (KW.out.below b_)
       replace HA0:=Lh (HA0.out.below b_)
       replace HW0:=Lh (HW0.out.below b_)
       replace BB:=Lh (bl_trans BB.out b_)
       clear b_
       have a0:=KW.out.cell 0 _ rfl
       have a1:=KW.out.cell 1 _ rfl
       have a2:=KW.out.cell 2 _ rfl
       go_wp2_with fail
       clear a0 a1 a2
       have hB:Calls Tryz.prog 26 #[.slice A n c,.int .i64 who,.int .i64 snap,.agg (aW z h_ r_ k)] v3 (fun e w' =>∃y:TL,e=.returned (.tuple #[.agg (aT T y),.bool true])∧TRd w' T y∧Short T y∧Below v3.heap.size v3 w'):=(tried_c l A n c who snap ⟨h_,r_,k⟩ z v3 HA0.out hnc HLM.out (by omega) HW0.out HF.out (T,true) HR.out).mono (fun e w' ⟨y,h1,h2,h3,h4⟩=>⟨y,h1,h2 _ (Only.refl _ _),h3,h4⟩)
       refine (hB).mono ?_
       rintro e v4 ⟨y1,rfl,hT,hS,b_⟩
       replace KW:=Lh (KW.out.below b_)
       replace HA0:=Lh (HA0.out.below b_)
       replace HW0:=Lh (HW0.out.below b_)
       replace BB:=Lh (bl_trans BB.out b_)
       clear hB b_
       have O1:=Lh hT
       have HS1:=Lh hS
       clear hT hS
       have HG11:Hid (w.heap.size<v4.heap.size):=Lh KW.out.lt
       have Z0:Hid (Blk (v4.alloc (.cells z11 34)) v4.heap.size 34 z11):=Lh (Blk.new v4 34 z11)
       have Y0:Hid (Blk (v4.alloc (.cells z11 34)) v4.heap.size 34 z11):=Lh (Z0.out)
       have K11:Hid (Blk ((v4.alloc (.cells z11 34)).setRow v4.heap.size (aT T y1)) v4.heap.size 34 (aT T y1)):=Lh (row_blk Y0.out)
       have bst:Hid (Below v4.heap.size v4 ((v4.alloc (.cells z11 34)).setRow v4.heap.size (aT T y1))):=Lh (Only.below (S:=fun k=>v4.heap.size≤k) (((Only.refl (fun k=>v4.heap.size≤k) v4).alloc _).trans (row_only _ v4.heap.size _) (fun k _ e=>by omega)) (Nat.le_refl _) (fun k hk e=>by omega))
       go_wp2_with (first | (refine wpList_store_row rfl 34 _ _ rfl v4.heap.size (aT T y1) rfl rfl 34 _ Y0.out (by kernel_rfl) rfl (by simp[Value.oneCell']) ?_;(clear Z0 Y0);(replace KW:=Lh (KW.out.below bst.out));(replace HA0:=Lh (HA0.out.below bst.out));(replace HW0:=Lh (HW0.out.below bst.out));(replace O1:=Lh (O1.out.below bst.out));(replace BB:=Lh (bl_trans BB.out bst.out));(clear bst);(generalize ((v4.alloc (.cells z11 34)).setRow v4.heap.size (aT T y1))=v5 at *);(generalize hg11:v4.heap.size=g11 at *);(clear hg11);(have a0:=K11.out.cell 0 _ rfl);(have a1:=K11.out.cell 1 _ rfl);(have a2:=K11.out.cell 2 _ rfl);(have a3:=K11.out.cell 3 _ rfl);(have a4:=K11.out.cell 4 _ rfl);(have a5:=K11.out.cell 5 _ rfl);(have a6:=K11.out.cell 6 _ rfl);(have a7:=K11.out.cell 7 _ rfl);(have a8:=K11.out.cell 8 _ rfl);(have a9:=K11.out.cell 9 _ rfl);(have a10:=K11.out.cell 10 _ rfl)))
       clear a0 a1 a2 a3 a4 a5 a6 a7 a8 a9 a10
       have hB:Calls Tryz.prog 27 #[.agg (aT T y1)] v5 (fun e w' =>∃(y:TL) (er:Int),e=.returned (.tuple #[.agg (aC t0 y p0 v0c e0),.int .i64 er])∧er=(if false=true then 0 else 1)∧y.fl= []∧TRd w' t0 y∧Below v5.heap.size v5 w'):=(by have h:=begin_c T y1 v5 O1.out HS1.out (fun h=>fl_nil O1.out (tried_done_any HR.out h));rw[HBG.out]at h;exact h.mono (fun e w' ⟨y,h1,h2,h3,h4⟩=>⟨y,_,h1,rfl,h2,h3 _ (Only.refl _ _),h4⟩))
       refine (hB).mono ?_
       rintro e v6 ⟨y2,er2,rfl,her2,hf,hT,b_⟩
       replace KW:=Lh (KW.out.below b_)
       replace HA0:=Lh (HA0.out.below b_)
       replace HW0:=Lh (HW0.out.below b_)
       replace O1:=Lh (O1.out.below b_)
       replace K11:=Lh (K11.out.below b_)
       replace BB:=Lh (bl_trans BB.out b_)
       subst her2
       clear hB b_
       have O2:=Lh hT
       have HF2:=Lh hf
       clear hT hf
       have Z0:Hid (Blk (v6.alloc (.cells z14 69)) v6.heap.size 69 z14):=Lh (Blk.new v6 69 z14)
       have Y0:Hid (Blk (v6.alloc (.cells z14 69)) v6.heap.size 69 z14):=Lh (Z0.out)
       have K13:Hid (Blk ((v6.alloc (.cells z14 69)).setRow v6.heap.size (aC t0 y2 p0 v0c e0)) v6.heap.size 69 (aC t0 y2 p0 v0c e0)):=Lh (row_blk Y0.out)
       have bst:Hid (Below v6.heap.size v6 ((v6.alloc (.cells z14 69)).setRow v6.heap.size (aC t0 y2 p0 v0c e0))):=Lh (Only.below (S:=fun k=>v6.heap.size≤k) (((Only.refl (fun k=>v6.heap.size≤k) v6).alloc _).trans (row_only _ v6.heap.size _) (fun k _ e=>by omega)) (Nat.le_refl _) (fun k hk e=>by omega))
       go_wp2_with (first | (refine wpList_store_row rfl 69 _ _ rfl v6.heap.size (aC t0 y2 p0 v0c e0) rfl rfl 69 _ Y0.out (by kernel_rfl) rfl (by simp[Value.oneCell']) ?_;(clear Z0 Y0);(replace KW:=Lh (KW.out.below bst.out));(replace HA0:=Lh (HA0.out.below bst.out));(replace HW0:=Lh (HW0.out.below bst.out));(replace O1:=Lh (O1.out.below bst.out));(replace K11:=Lh (K11.out.below bst.out));(replace O2:=Lh (O2.out.below bst.out));(replace BB:=Lh (bl_trans BB.out bst.out));(clear bst);(generalize ((v6.alloc (.cells z14 69)).setRow v6.heap.size (aC t0 y2 p0 v0c e0))=v7 at *)))
       refine (awake_any _).mono ?_
       rintro e wz ⟨rfl,b_⟩
       replace BB:=Lh (bl_trans BB.out b_)
       clear b_
       go_wp2
       go_ret
       exact ⟨rfl,BB.out⟩
      | true =>
       have HWHO:Hid (T.who=who):=Lh (tried_inv HR.out).2.1
       go_enter Tryz.func9,Tryz.ntmps9
       go_wp2_with fail
       generalize (w.alloc (.cells (aW z h_ r_ k) 63))=v0 at *
       refine (Code.small_c l A n c _ ((n:Int)) HA0.out mn HSM.out).mono ?_
       rintro e v1 ⟨rfl,b_⟩
       replace KW:=Lh (KW.out.below b_)
       replace HA0:=Lh (HA0.out.below b_)
       replace HW0:=Lh (HW0.out.below b_)
       replace BB:=Lh (bl_trans BB.out b_)
       clear b_
       have a0:=KW.out.cell 0 _ rfl
       have a1:=KW.out.cell 1 _ rfl
       have a2:=KW.out.cell 2 _ rfl
       go_wp2_with fail
       clear a0 a1 a2
       refine (small_c ⟨h_,r_,k⟩ z _ true HSW.out).mono ?_
       rintro e v2 ⟨rfl,b_⟩
       replace KW:=Lh (KW.out.below b_)
       replace HA0:=Lh (HA0.out.below b_)
       replace HW0:=Lh (HW0.out.below b_)
       replace BB:=Lh (bl_trans BB.out b_)
       clear b_
       have a0:=KW.out.cell 0 _ rfl
       have a1:=KW.out.cell 1 _ rfl
       have a2:=KW.out.cell 2 _ rfl
       go_wp2_with fail
       clear a0 a1 a2
       refine (right_c ⟨h_,r_,k⟩ z _ true HW0.out HF.out HRT.out).mono ?_
       rintro e v3 ⟨rfl,b_⟩
       replace KW:=Lh (KW.out.below b_)
       replace HA0:=Lh (HA0.out.below b_)
       replace HW0:=Lh (HW0.out.below b_)
       replace BB:=Lh (bl_trans BB.out b_)
       clear b_
       have a0:=KW.out.cell 0 _ rfl
       have a1:=KW.out.cell 1 _ rfl
       have a2:=KW.out.cell 2 _ rfl
       go_wp2_with fail
       clear a0 a1 a2
       have hB:Calls Tryz.prog 26 #[.slice A n c,.int .i64 who,.int .i64 snap,.agg (aW z h_ r_ k)] v3 (fun e w' =>∃y:TL,e=.returned (.tuple #[.agg (aT T y),.bool true])∧TRd w' T y∧Short T y∧Below v3.heap.size v3 w'):=(tried_c l A n c who snap ⟨h_,r_,k⟩ z v3 HA0.out hnc HLM.out (by omega) HW0.out HF.out (T,true) HR.out).mono (fun e w' ⟨y,h1,h2,h3,h4⟩=>⟨y,h1,h2 _ (Only.refl _ _),h3,h4⟩)
       refine (hB).mono ?_
       rintro e v4 ⟨y1,rfl,hT,hS,b_⟩
       replace KW:=Lh (KW.out.below b_)
       replace HA0:=Lh (HA0.out.below b_)
       replace HW0:=Lh (HW0.out.below b_)
       replace BB:=Lh (bl_trans BB.out b_)
       clear hB b_
       have O1:=Lh hT
       have HS1:=Lh hS
       clear hT hS
       have HG11:Hid (w.heap.size<v4.heap.size):=Lh KW.out.lt
       have Z0:Hid (Blk (v4.alloc (.cells z11 34)) v4.heap.size 34 z11):=Lh (Blk.new v4 34 z11)
       have Y0:Hid (Blk (v4.alloc (.cells z11 34)) v4.heap.size 34 z11):=Lh (Z0.out)
       have K11:Hid (Blk ((v4.alloc (.cells z11 34)).setRow v4.heap.size (aT T y1)) v4.heap.size 34 (aT T y1)):=Lh (row_blk Y0.out)
       have bst:Hid (Below v4.heap.size v4 ((v4.alloc (.cells z11 34)).setRow v4.heap.size (aT T y1))):=Lh (Only.below (S:=fun k=>v4.heap.size≤k) (((Only.refl (fun k=>v4.heap.size≤k) v4).alloc _).trans (row_only _ v4.heap.size _) (fun k _ e=>by omega)) (Nat.le_refl _) (fun k hk e=>by omega))
       go_wp2_with (first | (refine wpList_store_row rfl 34 _ _ rfl v4.heap.size (aT T y1) rfl rfl 34 _ Y0.out (by kernel_rfl) rfl (by simp[Value.oneCell']) ?_;(clear Z0 Y0);(replace KW:=Lh (KW.out.below bst.out));(replace HA0:=Lh (HA0.out.below bst.out));(replace HW0:=Lh (HW0.out.below bst.out));(replace O1:=Lh (O1.out.below bst.out));(replace BB:=Lh (bl_trans BB.out bst.out));(clear bst);(generalize ((v4.alloc (.cells z11 34)).setRow v4.heap.size (aT T y1))=v5 at *);(generalize hg11:v4.heap.size=g11 at *);(clear hg11);(have a0:=K11.out.cell 0 _ rfl);(have a1:=K11.out.cell 1 _ rfl);(have a2:=K11.out.cell 2 _ rfl);(have a3:=K11.out.cell 3 _ rfl);(have a4:=K11.out.cell 4 _ rfl);(have a5:=K11.out.cell 5 _ rfl);(have a6:=K11.out.cell 6 _ rfl);(have a7:=K11.out.cell 7 _ rfl);(have a8:=K11.out.cell 8 _ rfl);(have a9:=K11.out.cell 9 _ rfl);(have a10:=K11.out.cell 10 _ rfl)))
       clear a0 a1 a2 a3 a4 a5 a6 a7 a8 a9 a10
       have hB:Calls Tryz.prog 27 #[.agg (aT T y1)] v5 (fun e w' =>∃(y:TL) (er:Int),e=.returned (.tuple #[.agg (aC t0 y p0 v0c e0),.int .i64 er])∧er=(if true=true then 0 else 1)∧y.fl= []∧TRd w' t0 y∧Below v5.heap.size v5 w'):=(by have h:=begin_c T y1 v5 O1.out HS1.out (fun h=>fl_nil O1.out (tried_done_any HR.out h));rw[HBG.out]at h;exact h.mono (fun e w' ⟨y,h1,h2,h3,h4⟩=>⟨y,_,h1,rfl,h2,h3 _ (Only.refl _ _),h4⟩))
       refine (hB).mono ?_
       rintro e v6 ⟨y2,er2,rfl,her2,hf,hT,b_⟩
       replace KW:=Lh (KW.out.below b_)
       replace HA0:=Lh (HA0.out.below b_)
       replace HW0:=Lh (HW0.out.below b_)
       replace O1:=Lh (O1.out.below b_)
       replace K11:=Lh (K11.out.below b_)
       replace BB:=Lh (bl_trans BB.out b_)
       subst her2
       clear hB b_
       have O2:=Lh hT
       have HF2:=Lh hf
       clear hT hf
       have HG13:Hid (w.heap.size<v6.heap.size∧g11<v6.heap.size∧w.heap.size<g11):=Lh ⟨KW.out.lt,K11.out.lt,HG11.out⟩
       have Z0:Hid (Blk (v6.alloc (.cells z14 69)) v6.heap.size 69 z14):=Lh (Blk.new v6 69 z14)
       have Y0:Hid (Blk (v6.alloc (.cells z14 69)) v6.heap.size 69 z14):=Lh (Z0.out)
       have K13:Hid (Blk ((v6.alloc (.cells z14 69)).setRow v6.heap.size (aC t0 y2 p0 v0c e0)) v6.heap.size 69 (aC t0 y2 p0 v0c e0)):=Lh (row_blk Y0.out)
       have bst:Hid (Below v6.heap.size v6 ((v6.alloc (.cells z14 69)).setRow v6.heap.size (aC t0 y2 p0 v0c e0))):=Lh (Only.below (S:=fun k=>v6.heap.size≤k) (((Only.refl (fun k=>v6.heap.size≤k) v6).alloc _).trans (row_only _ v6.heap.size _) (fun k _ e=>by omega)) (Nat.le_refl _) (fun k hk e=>by omega))
       go_wp2_with (first | (refine wpList_store_row rfl 69 _ _ rfl v6.heap.size (aC t0 y2 p0 v0c e0) rfl rfl 69 _ Y0.out (by kernel_rfl) rfl (by simp[Value.oneCell']) ?_;(clear Z0 Y0);(replace KW:=Lh (KW.out.below bst.out));(replace HA0:=Lh (HA0.out.below bst.out));(replace HW0:=Lh (HW0.out.below bst.out));(replace O1:=Lh (O1.out.below bst.out));(replace K11:=Lh (K11.out.below bst.out));(replace O2:=Lh (O2.out.below bst.out));(replace BB:=Lh (bl_trans BB.out bst.out));(clear bst);(generalize ((v6.alloc (.cells z14 69)).setRow v6.heap.size (aC t0 y2 p0 v0c e0))=v7 at *);(generalize hg13:v6.heap.size=g13 at *);(clear hg13);(have a0:=K13.out.cell 0 _ rfl);(have a1:=K13.out.cell 1 _ rfl);(have a2:=K13.out.cell 2 _ rfl);(have a3:=K13.out.cell 3 _ rfl);(have a4:=K13.out.cell 4 _ rfl);(have a5:=K13.out.cell 5 _ rfl);(have a6:=K13.out.cell 6 _ rfl);(have a7:=K13.out.cell 7 _ rfl);(have a8:=K13.out.cell 8 _ rfl);(have a9:=K13.out.cell 9 _ rfl);(have a10:=K13.out.cell 10 _ rfl);(have a11:=K13.out.cell 11 _ rfl);(have a12:=K13.out.cell 12 _ rfl);(have a13:=K13.out.cell 13 _ rfl);(have b0:=KW.out.cell 0 _ rfl);(have b1:=KW.out.cell 1 _ rfl);(have b2:=KW.out.cell 2 _ rfl)))
       clear a0 a1 a2 a3 a4 a5 a6 a7 a8 a9 a10 a11 a12 a13 b0 b1 b2
       have HSI:=Lh (si_0 (W:=⟨h_,r_,k⟩) other HR.out HBG.out HRT.out)
       have ht0:t0=T:=HSI.out.2
       subst ht0
       obtain ⟨R9,hr9⟩:∃R9,allC ⟨t0,p0,v0c,e0⟩ ⟨h_,r_,k⟩=R9:=⟨_,rfl⟩
       have HALL:=Lh hr9
       clear hr9
       obtain ⟨⟨⟨tA,pA,vA,eA⟩,⟨hA_,rA_,kA⟩⟩,erA⟩:=R9
       have hB:Calls Tryz.prog 40 #[.agg (aC t0 y2 p0 v0c e0),.agg (aW z h_ r_ k)] v7 (fun e w' =>∃(y:TL) (z2:WL),e=.returned (.tuple #[.agg (aC tA y pA vA eA),.agg (aW z2 hA_ rA_ kA),.int .i64 erA])∧y.fl= []∧LA v7.heap.size tA y ⟨hA_,rA_,kA⟩ z2 w' ∧Below v7.heap.size v7 w'):=(by have h:=all_c ⟨t0,p0,v0c,e0⟩ ⟨h_,r_,k⟩ y2 z v7 O2.out (short_fl HS1.out HF2.out) HW0.out HF.out HF2.out;rw[HALL.out]at h;exact h)
       have HNA:Hid (w.heap.size<v7.heap.size∧g11<v7.heap.size∧g13<v7.heap.size):=Lh ⟨KW.out.lt,K11.out.lt,K13.out.lt⟩
       obtain ⟨nA,hnA⟩:∃nA,v7.heap.size=nA:=⟨_,rfl⟩
       rw[hnA]at HNA
       refine (hB).mono ?_
       rintro e v8 ⟨yA,zA,rfl,hf,hl,b_⟩
       replace KW:=Lh (KW.out.below b_)
       replace HA0:=Lh (HA0.out.below b_)
       replace HW0:=Lh (HW0.out.below b_)
       replace O1:=Lh (O1.out.below b_)
       replace K11:=Lh (K11.out.below b_)
       replace O2:=Lh (O2.out.below b_)
       replace K13:=Lh (K13.out.below b_)
       replace BB:=Lh (bl_trans BB.out b_)
       rw[hnA]at hl
       have HN9:Hid (nA≤v8.heap.size):=Lh (by rw[←hnA];exact b_.size)
       clear hB b_ hnA
       have LS:=Lh hl
       have HFA:=Lh hf
       clear hl hf
       have Z0:Hid (Blk ((v8.alloc (.cells z14 69)).alloc (.cells z3 63)) v8.heap.size 69 z14):=Lh ((Blk.new v8 69 z14).alloc (.cells z3 63))
       have Z1:Hid (Blk ((v8.alloc (.cells z14 69)).alloc (.cells z3 63)) (v8.heap.size+1) 63 z3):=Lh (by have:=Blk.new (v8.alloc (.cells z14 69)) 63 z3;simpa only[World.size_alloc] using this)
       have Y0:Hid (Blk ((v8.alloc (.cells z14 69)).alloc (.cells z3 63)) v8.heap.size 69 z14):=Lh (Z0.out)
       have Y1:Hid (Blk (((v8.alloc (.cells z14 69)).alloc (.cells z3 63)).setRow v8.heap.size (aC tA yA pA vA eA)) (v8.heap.size+1) 63 z3):=Lh ((row_only _ v8.heap.size _).blk Z1.out (by omega))
       have K15:Hid (Blk ((((v8.alloc (.cells z14 69)).alloc (.cells z3 63)).setRow v8.heap.size (aC tA yA pA vA eA)).setRow (v8.heap.size+1) (aW zA hA_ rA_ kA)) v8.heap.size 69 (aC tA yA pA vA eA)):=Lh ((row_only _ (v8.heap.size+1) _).blk (row_blk Y0.out) (by omega))
       have K16:Hid (Blk ((((v8.alloc (.cells z14 69)).alloc (.cells z3 63)).setRow v8.heap.size (aC tA yA pA vA eA)).setRow (v8.heap.size+1) (aW zA hA_ rA_ kA)) (v8.heap.size+1) 63 (aW zA hA_ rA_ kA)):=Lh (row_blk Y1.out)
       have bst:Hid (Below v8.heap.size v8 ((((v8.alloc (.cells z14 69)).alloc (.cells z3 63)).setRow v8.heap.size (aC tA yA pA vA eA)).setRow (v8.heap.size+1) (aW zA hA_ rA_ kA))):=Lh (Only.below (S:=fun k=>v8.heap.size≤k) (((((Only.refl (fun k=>v8.heap.size≤k) v8).alloc _).alloc _).trans (row_only _ v8.heap.size _) (fun k _ e=>by omega)).trans (row_only _ (v8.heap.size+1) _) (fun k _ e=>by omega)) (Nat.le_refl _) (fun k hk e=>by omega))
       go_upto_region 8 with (first | (refine wpList_store_row rfl 69 _ _ rfl v8.heap.size (aC tA yA pA vA eA) rfl rfl 69 _ Y0.out (by kernel_rfl) rfl (by simp[Value.oneCell']) ?_) | (refine wpList_store_row rfl 63 _ _ rfl (v8.heap.size+1) (aW zA hA_ rA_ kA) rfl rfl 63 _ Y1.out (by kernel_rfl) rfl (by simp[Value.oneCell']) ?_;(clear Z0 Y0 Z1 Y1);(replace KW:=Lh (KW.out.below bst.out));(replace HA0:=Lh (HA0.out.below bst.out));(replace HW0:=Lh (HW0.out.below bst.out));(replace O1:=Lh (O1.out.below bst.out));(replace K11:=Lh (K11.out.below bst.out));(replace O2:=Lh (O2.out.below bst.out));(replace K13:=Lh (K13.out.below bst.out));(replace LS:=Lh (LS.out.below bst.out));(replace BB:=Lh (bl_trans BB.out bst.out));(clear bst);(generalize ((((v8.alloc (.cells z14 69)).alloc (.cells z3 63)).setRow v8.heap.size (aC tA yA pA vA eA)).setRow (v8.heap.size+1) (aW zA hA_ rA_ kA))=v9 at *);(generalize hg15:v8.heap.size=g15 at *);(clear hg15)))
       replace KW:=Lh (KW.out.below (Below.refl _ v9).drew)
       replace HA0:=Lh (HA0.out.below (Below.refl _ v9).drew)
       replace HW0:=Lh (HW0.out.below (Below.refl _ v9).drew)
       replace O1:=Lh (O1.out.below (Below.refl _ v9).drew)
       replace K11:=Lh (K11.out.below (Below.refl _ v9).drew)
       replace O2:=Lh (O2.out.below (Below.refl _ v9).drew)
       replace K13:=Lh (K13.out.below (Below.refl _ v9).drew)
       replace LS:=Lh (LS.out.below (Below.refl _ v9).drew)
       replace K15:=Lh (K15.out.below (Below.refl _ v9).drew)
       replace K16:=Lh (K16.out.below (Below.refl _ v9).drew)
       replace BB:=Lh (bl_trans BB.out (Below.refl _ v9).drew)
       obtain ⟨SB,hSB⟩:∃SB:World→Prop,∀V,SB V↔Blk V w.heap.size 63 (aW z h_ r_ k):=⟨_,fun _=>Iff.rfl⟩
       have HSB:=Lh hSB
       clear hSB
       obtain ⟨vz,hvz⟩:∃vq_:Value,vq_=.agg (aW z h_ r_ k):=⟨_,rfl⟩
       have HVZ:=Lh hvz
       clear hvz
       have f0:SB v9.drew:=(HSB.out _).2 KW.out
       refine wp_region_held_drew (S:=SB) (by kernel_rfl) f0 (fun hH0=>?_)
       clear f0
       generalize v9.drew=u0 at *
       refine tk 0 vz rfl hH0 ?_ (hy:=Or.inl ⟨by kernel_rfl,fun W hS=>by rw[HVZ.out];have hSS:=(HSB.out W).1 hS;have q0:=hSS.cell 0 _ rfl;have q1:=hSS.cell 1 _ rfl;have q2:=hSS.cell 2 _ rfl;go_simp⟩)
       try go_simp
       refine rdy 1 rfl (fun KK0 hK=>?_)
       go_simp
       obtain ⟨g19,h19⟩:∃gq,u0.heap.size=gq:=⟨_,rfl⟩
       have K19:Hid (Blk (u0.alloc (.cells z3 63)) g19 63 z3):=Lh (by rw[←h19];exact Blk.new _ _ _)
       have KW1:Hid (Blk (u0.alloc (.cells z3 63)) w.heap.size 63 (aW z h_ r_ k)):=Lh (KW.out.alloc _)
       have OV:Hid (Only (fun k=>u0.heap.size≤k) u0 (u0.alloc (.cells z3 63))):=Lh ((Only.refl (fun k=>u0.heap.size≤k) u0).alloc _)
       have HG19:Hid (u0.heap.size=g19∧g15+1<g19∧g15<g19):=Lh ⟨h19,by rw[←h19];exact K16.out.lt,by rw[←h19];exact K15.out.lt⟩
       rw[h19]
       clear h19
       generalize (u0.alloc (.cells z3 63))=u1 at *
       refine hK.out _ _ ((HSB.out _).2 KW1.out) (fun hH0=>?_)
       clear hK KK0
       try go_simp
       refine rdy 2 rfl (fun KK0 hK=>?_)
       go_simp
       refine hK.out _ _ ((HSB.out _).2 KW1.out) (fun hH1=>?_)
       clear hK KK0
       try go_simp
       have HGa:Hid (w.heap.size<g19):=Lh (by have:=HG19.out;have:=HNA.out;have:=HN9.out;omega)
       refine take_store 3 rfl (by kernel_rfl) (by kernel_rfl) 63 (.tmp 19) (.tmp 69) rfl g19 _ rfl HVZ.out _ _ K19.out (by kernel_rfl) rfl (by simp[Value.oneCell']) (fun u2 kb ON=>?_)
       replace K19:=Lh kb
       have b8:Below u0.heap.size u0 u2:=Only.below (S:=fun k=>u0.heap.size≤k) (OV.out.trans ON (fun k _ e=>by have:=HG19.out;omega)) (Nat.le_refl _) (fun k hk e=>by omega)
       have OB:Hid (Only (fun k=>k<nA) u0 u2):=Lh (Only.of_below b8)
       replace KW:=Lh (KW.out.below b8)
       replace HA0:=Lh (HA0.out.below b8)
       replace HW0:=Lh (HW0.out.below b8)
       replace O1:=Lh (O1.out.below b8)
       replace K11:=Lh (K11.out.below b8)
       replace O2:=Lh (O2.out.below b8)
       replace K13:=Lh (K13.out.below b8)
       replace K15:=Lh (K15.out.below b8)
       replace K16:=Lh (K16.out.below b8)
       replace BB:=Lh (bl_trans BB.out b8)
       have HU2:Hid (g19<u2.heap.size):=Lh K19.out.lt
       clear ON kb b8 OV KW1
       refine ⟨(HSB.out _).2 KW.out,?_⟩
       try go_simp
       refine wpAnyH_done (by kernel_rfl) ?_ _
       try go_simp
       clear HSB HVZ hH0 hH1
       have HG:Hid (w.heap.size<g11∧g11<g13∧g13<nA∧nA≤g15∧g15+1<g19∧g19<u2.heap.size):=Lh (by have:=HG13.out;have:=HNA.out;have:=HG19.out;have:=HU2.out;have:=HN9.out;omega)
       clear HG13 HNA HU2 HN9 HGa
       go_wp2_with fail
       go_loopg [70,18] 6 (fun gk q70 q18 wr=>∃(i:Nat) (c1:Com) (Wn:Wd) (y:TL) (z1:WL),q70=.int .i64 (i:Int)∧q18=.int .i64 (i:Int)∧Hid (gk+i=6)∧Hid (SI ⟨t0,p0,v0c,e0⟩ ⟨h_,r_,k⟩ other i c1 Wn)∧Hid (Blk wr g13 69 (cvl c1 y).toArray)∧Hid (Blk wr g19 63 (wvl Wn z1).toArray)∧Hid (y.fl= [])∧Hid (TRd wr c1.t y)∧Hid (WRd wr Wn z1)∧Hid (Only (fun k=>k=g13∨k=g19) u2 wr)∧Hid (Below w.heap.size w wr))
       case atStart=>exact ⟨0,⟨t0,p0,v0c,e0⟩,⟨h_,r_,k⟩,y2,z,rfl,rfl,Lh rfl,Lh HSI.out.1,K13,K19,HF2,O2,HW0,Lh (Only.refl _ _),BB⟩
       case round=>
        clear K13 K19 HF2 O2 HW0 BB
        obtain ⟨i,⟨t1,p1,v1,e1⟩,⟨h1,r1,k1⟩,y,z1,rfl,rfl,HGK,HI,K13,K19,HFy,OY,HV,OA,BB⟩:=hrel
        have hi5:=HI.out.le
        have hi6:(i:Int)<6:=by omega
        replace K13:Hid (Blk wr g13 69 (aC t1 y p1 v1 e1)):=K13
        replace K19:Hid (Blk wr g19 63 (aW z1 h1 r1 k1)):=K19
        have KW2:Hid (Blk wr w.heap.size 63 (aW z h_ r_ k)):=Lh (OA.out.blk KW.out (by have:=HG.out;omega))
        have K11w:Hid (Blk wr g11 34 (aT t0 y1)):=Lh (OA.out.blk K11.out (by have:=HG.out;omega))
        have K15w:Hid (Blk wr g15 69 (aC tA yA pA vA eA)):=Lh (OA.out.blk K15.out (by have:=HG.out;omega))
        have K16w:Hid (Blk wr (g15+1) 63 (aW zA hA_ rA_ kA)):=Lh (OA.out.blk K16.out (by have:=HG.out;omega))
        have HSY:Hid (Short t1 y):=Lh (by have e:t1=t0:=HI.out.t;rw[e];exact short_fl HS1.out HFy.out)
        have HFV:Hid (Few ⟨h1,r1,k1⟩):=Lh ⟨by have e:h1.length=h_.length:=HI.out.lh;show h1.length≤1000000;rw[e];exact HF.out.1,by have e:r1.length=r_.length:=HI.out.lr;show r1.length≤1000000;rw[e];exact HF.out.2⟩
        have HWR:Hid (WRd wr ⟨h_,r_,k⟩ z):=Lh (HWw.out.below BB.out)
        by_cases hp:p1=5∨p1=6
        ·have HEN:=Lh (si_end HI.out hp)
         have e9:=HALL.out.symm.trans HEN.out.2
         simp only[Prod.mk.injEq,Com.mk.injEq,Wd.mk.injEq]at e9
         obtain ⟨⟨⟨rfl,rfl,rfl,rfl⟩,rfl,rfl,rfl⟩,rfl⟩:=e9
         have hLL:=LS.out wr (OB.out.trans OA.out (fun k hk e=>by have h1:=HG.out;have h2:=HG19.out;omega))
         have OYa:Hid (TRd wr tA yA):=Lh hLL.1
         have HVa:Hid (WRd wr ⟨hA_,rA_,kA⟩ zA):=Lh hLL.2
         clear hLL hp
         have OYb:Hid (TRd wr tA y):=OY
         have HVb:Hid (WRd wr ⟨hA_,rA_,kA⟩ z1):=HV
         have a0:=K13.out.cell 0 _ rfl
         have a1:=K13.out.cell 1 _ rfl
         have a2:=K13.out.cell 2 _ rfl
         have a3:=K13.out.cell 3 _ rfl
         have a4:=K13.out.cell 4 _ rfl
         have a5:=K13.out.cell 5 _ rfl
         have a6:=K13.out.cell 6 _ rfl
         have a7:=K13.out.cell 7 _ rfl
         have a8:=K13.out.cell 8 _ rfl
         have a9:=K13.out.cell 9 _ rfl
         have a10:=K13.out.cell 10 _ rfl
         have a11:=K13.out.cell 11 _ rfl
         have a12:=K13.out.cell 12 _ rfl
         have a13:=K13.out.cell 13 _ rfl
         have b0:=K19.out.cell 0 _ rfl
         have b1:=K19.out.cell 1 _ rfl
         have b2:=K19.out.cell 2 _ rfl
         go_wp2_with fail
         clear a0 a1 a2 a3 a4 a5 a6 a7 a8 a9 a10 a11 a12 a13 b0 b1 b2
         have hB:Calls Tryz.prog 34 #[.agg (aC tA y pA vA eA),.agg (aW z1 hA_ rA_ kA)] wr (fun e w' =>∃(y' :TL) (z2:WL),e=.returned (.tuple #[.agg #[.int .i64 tA.who,.int .i64 tA.snap,.int .i64 tA.pc,.slice y'.R tA.regs.length y'.rc,.slice y'.P tA.path.length y'.pc,.slice y'.D tA.reads.length y'.dc,.slice y'.L tA.log.list.length y'.lc,.slice y'.M tA.log.marks.length y'.mc,.slice y'.F y'.fl.length y'.fc,.int .i64 tA.kind,.int .i64 tA.why,.int .i64 pA,.int .i64 vA,.int .i64 eA],.agg (aW z2 hA_ rA_ kA),.int .i64 1])∧y'.fl= []∧LA wr.heap.size tA y' ⟨hA_,rA_,kA⟩ z2 w' ∧Below wr.heap.size wr w'):=(by have h:=step_c ⟨tA,pA,vA,eA⟩ ⟨hA_,rA_,kA⟩ y z1 wr OY.out HSY.out HV.out HFV.out HFy.out;rw[HEN.out.1]at h;exact h)
         refine (hB).mono ?_
         rintro e v21 ⟨y3,zq,rfl,hf,hl,b_⟩
         replace K13:=Lh (K13.out.below b_)
         replace K19:=Lh (K19.out.below b_)
         replace KW2:=Lh (KW2.out.below b_)
         replace K11w:=Lh (K11w.out.below b_)
         replace K15w:=Lh (K15w.out.below b_)
         replace K16w:=Lh (K16w.out.below b_)
         replace OYb:=Lh (OYb.out.below b_)
         replace HVb:=Lh (HVb.out.below b_)
         replace OYa:=Lh (OYa.out.below b_)
         replace HVa:=Lh (HVa.out.below b_)
         replace BB:=Lh (bl_trans BB.out b_)
         clear hB b_
         clear hl hf
         obtain ⟨ln,hln⟩:∃q,t0.log.list.length=q:=⟨_,rfl⟩
         have HLN:=Lh hln
         clear hln
         have hi9:¬((i:Int) > 5):=by omega
         by_cases h5:pA=5
         ·subst h5
          by_cases hl0:(ln:Int) > 0
          ·have h5i:i=5:=si_five HI.out rfl (by intro e;have h1:=HLN.out;rw[show t0.log.list= [] from e]at h1;have h2:(0:Nat)=ln:=h1;omega)
           have i5:((i:Int) !=5)=false:=by rw[h5i];rfl
           clear h5i
           have Z0:Hid (Blk ((v21.alloc (.cells z14 69)).alloc (.cells z3 63)) v21.heap.size 69 z14):=Lh ((Blk.new v21 69 z14).alloc (.cells z3 63))
           have Z1:Hid (Blk ((v21.alloc (.cells z14 69)).alloc (.cells z3 63)) (v21.heap.size+1) 63 z3):=Lh (by have:=Blk.new (v21.alloc (.cells z14 69)) 63 z3;simpa only[World.size_alloc] using this)
           have Y0:Hid (Blk ((v21.alloc (.cells z14 69)).alloc (.cells z3 63)) v21.heap.size 69 z14):=Lh (Z0.out)
           have Y1:Hid (Blk (((v21.alloc (.cells z14 69)).alloc (.cells z3 63)).setRow v21.heap.size (aC tA y3 5 vA eA)) (v21.heap.size+1) 63 z3):=Lh ((row_only _ v21.heap.size _).blk Z1.out (by omega))
           have K20:Hid (Blk ((((v21.alloc (.cells z14 69)).alloc (.cells z3 63)).setRow v21.heap.size (aC tA y3 5 vA eA)).setRow (v21.heap.size+1) (aW zq hA_ rA_ kA)) v21.heap.size 69 (aC tA y3 5 vA eA)):=Lh ((row_only _ (v21.heap.size+1) _).blk (row_blk Y0.out) (by omega))
           have K21:Hid (Blk ((((v21.alloc (.cells z14 69)).alloc (.cells z3 63)).setRow v21.heap.size (aC tA y3 5 vA eA)).setRow (v21.heap.size+1) (aW zq hA_ rA_ kA)) (v21.heap.size+1) 63 (aW zq hA_ rA_ kA)):=Lh (row_blk Y1.out)
           have bst:Hid (Below v21.heap.size v21 ((((v21.alloc (.cells z14 69)).alloc (.cells z3 63)).setRow v21.heap.size (aC tA y3 5 vA eA)).setRow (v21.heap.size+1) (aW zq hA_ rA_ kA))):=Lh (Only.below (S:=fun k=>v21.heap.size≤k) (((((Only.refl (fun k=>v21.heap.size≤k) v21).alloc _).alloc _).trans (row_only _ v21.heap.size _) (fun k _ e=>by omega)).trans (row_only _ (v21.heap.size+1) _) (fun k _ e=>by omega)) (Nat.le_refl _) (fun k hk e=>by omega))
           go_upto_region 19 with (first | (refine wpList_store_row rfl 69 _ _ rfl v21.heap.size (aC tA y3 5 vA eA) rfl rfl 69 _ Y0.out (by kernel_rfl) rfl (by simp[Value.oneCell']) ?_) | (refine wpList_store_row rfl 63 _ _ rfl (v21.heap.size+1) (aW zq hA_ rA_ kA) rfl rfl 63 _ Y1.out (by kernel_rfl) rfl (by simp[Value.oneCell']) ?_;(clear Z0 Y0 Z1 Y1);(replace K13:=Lh (K13.out.below bst.out));(replace K19:=Lh (K19.out.below bst.out));(replace KW2:=Lh (KW2.out.below bst.out));(replace K11w:=Lh (K11w.out.below bst.out));(replace K15w:=Lh (K15w.out.below bst.out));(replace K16w:=Lh (K16w.out.below bst.out));(replace OYb:=Lh (OYb.out.below bst.out));(replace HVb:=Lh (HVb.out.below bst.out));(replace OYa:=Lh (OYa.out.below bst.out));(replace HVa:=Lh (HVa.out.below bst.out));(replace BB:=Lh (bl_trans BB.out bst.out));(clear bst);(generalize ((((v21.alloc (.cells z14 69)).alloc (.cells z3 63)).setRow v21.heap.size (aC tA y3 5 vA eA)).setRow (v21.heap.size+1) (aW zq hA_ rA_ kA))=v22 at *);(generalize hg20:v21.heap.size=g20 at *);(clear hg20);(have a11:=K13.out.cell 11 _ rfl);(have b6:v22.cell? ⟨g11,6,none⟩=some (.slice y1.L ln y1.lc):=(by rw[←HLN.out];exact K11w.out.cell 6 _ rfl))))
           clear a11 b6
           replace K13:=Lh (K13.out.below (Below.refl _ v22).drew)
           replace K19:=Lh (K19.out.below (Below.refl _ v22).drew)
           replace KW2:=Lh (KW2.out.below (Below.refl _ v22).drew)
           replace K11w:=Lh (K11w.out.below (Below.refl _ v22).drew)
           replace K15w:=Lh (K15w.out.below (Below.refl _ v22).drew)
           replace K16w:=Lh (K16w.out.below (Below.refl _ v22).drew)
           replace OYb:=Lh (OYb.out.below (Below.refl _ v22).drew)
           replace HVb:=Lh (HVb.out.below (Below.refl _ v22).drew)
           replace OYa:=Lh (OYa.out.below (Below.refl _ v22).drew)
           replace HVa:=Lh (HVa.out.below (Below.refl _ v22).drew)
           replace K20:=Lh (K20.out.below (Below.refl _ v22).drew)
           replace K21:=Lh (K21.out.below (Below.refl _ v22).drew)
           replace BB:=Lh (bl_trans BB.out (Below.refl _ v22).drew)
           obtain ⟨SB,hSB⟩:∃SB:World→Prop,∀V,SB V↔((Blk V g15 69 (aC tA yA 5 vA eA)∧Blk V g13 69 (aC tA y 5 vA eA))∧Blk V (g15+1) 63 (aW zA hA_ rA_ kA)∧Blk V g19 63 (aW z1 hA_ rA_ kA)):=⟨_,fun _=>Iff.rfl⟩
           have HSB:=Lh hSB
           clear hSB
           obtain ⟨va,hva⟩:∃vq_:Value,vq_=.agg (aC tA yA 5 vA eA):=⟨_,rfl⟩
           have Hva:=Lh hva
           clear hva
           obtain ⟨vb,hvb⟩:∃vq_:Value,vq_=.agg (aC tA y 5 vA eA):=⟨_,rfl⟩
           have Hvb:=Lh hvb
           clear hvb
           obtain ⟨vc,hvc⟩:∃vq_:Value,vq_=.agg (aW zA hA_ rA_ kA):=⟨_,rfl⟩
           have Hvc:=Lh hvc
           clear hvc
           obtain ⟨vd,hvd⟩:∃vq_:Value,vq_=.agg (aW z1 hA_ rA_ kA):=⟨_,rfl⟩
           have Hvd:=Lh hvd
           clear hvd
           have f0:SB v22.drew:=((HSB.out _).2 ⟨⟨K15w.out,K13.out⟩,K16w.out,K19.out⟩)
           refine wp_region_held_drew (S:=SB) (by kernel_rfl) f0 (fun hH0=>?_)
           clear f0
           generalize v22.drew=u6 at *
           have HFR:Hid (tA.frames= []):=Lh (raw_nil OYa.out HFA.out)
           have HSA:Hid (Short tA yA):=Lh (short_fl HSY.out HFA.out)
           refine tk 0 (.int .i64 0) rfl hH0 ?_
           try go_simp
           refine tk 1 (.bool true) rfl hH0 ?_
           try go_simp
           refine tk 2 (.bool true) rfl hH0 ?_
           try go_simp
           refine tk 3 va rfl hH0 ?_ (hy:=Or.inl ⟨by kernel_rfl,fun W hS=>by rw[Hva.out];have hSS:=(HSB.out W).1 hS;have q0:=hSS.1.1.cell 0 _ rfl;have q1:=hSS.1.1.cell 1 _ rfl;have q2:=hSS.1.1.cell 2 _ rfl;have q3:=hSS.1.1.cell 3 _ rfl;have q4:=hSS.1.1.cell 4 _ rfl;have q5:=hSS.1.1.cell 5 _ rfl;have q6:=hSS.1.1.cell 6 _ rfl;have q7:=hSS.1.1.cell 7 _ rfl;have q8:=hSS.1.1.cell 8 _ rfl;have q9:=hSS.1.1.cell 9 _ rfl;have q10:=hSS.1.1.cell 10 _ rfl;have q11:=hSS.1.1.cell 11 _ rfl;have q12:=hSS.1.1.cell 12 _ rfl;have q13:=hSS.1.1.cell 13 _ rfl;go_simp⟩)
           try go_simp
           refine tk 5 vb rfl hH0 ?_ (hy:=Or.inl ⟨by kernel_rfl,fun W hS=>by rw[Hvb.out];have hSS:=(HSB.out W).1 hS;have q0:=hSS.1.2.cell 0 _ rfl;have q1:=hSS.1.2.cell 1 _ rfl;have q2:=hSS.1.2.cell 2 _ rfl;have q3:=hSS.1.2.cell 3 _ rfl;have q4:=hSS.1.2.cell 4 _ rfl;have q5:=hSS.1.2.cell 5 _ rfl;have q6:=hSS.1.2.cell 6 _ rfl;have q7:=hSS.1.2.cell 7 _ rfl;have q8:=hSS.1.2.cell 8 _ rfl;have q9:=hSS.1.2.cell 9 _ rfl;have q10:=hSS.1.2.cell 10 _ rfl;have q11:=hSS.1.2.cell 11 _ rfl;have q12:=hSS.1.2.cell 12 _ rfl;have q13:=hSS.1.2.cell 13 _ rfl;go_simp⟩)
           try go_simp
           have HC:Calls Tryz.prog 33 #[va] u6 (RetRefC u6 ⟨tA,5,vA,eA⟩ yA):=(by rw[Hva.out];exact refc_c ⟨tA,5,vA,eA⟩ yA _ OYa.out (by rw[HFA.out];decide))
           refine rdy 4 rfl (fun KK0 hK=>?_)
           rw[if_pos (by kernel_rfl)]
           refine Step2.calls_wp _ _ _ (HC) (Step2.run_call _ _ _ rfl rfl Tryz.func33 (by kernel_rfl) (by kernel_rfl) _ (by kernel_rfl)) ?_
           rintro e wq hq
           obtain ⟨FA,fA,he,hfa,b5⟩:=hq
           subst he
           refine ⟨_,rfl,?_⟩
           replace K13:=Lh (K13.out.below b5)
           replace K19:=Lh (K19.out.below b5)
           replace KW2:=Lh (KW2.out.below b5)
           replace K11w:=Lh (K11w.out.below b5)
           replace K15w:=Lh (K15w.out.below b5)
           replace K16w:=Lh (K16w.out.below b5)
           replace OYb:=Lh (OYb.out.below b5)
           replace HVb:=Lh (HVb.out.below b5)
           replace OYa:=Lh (OYa.out.below b5)
           replace HVa:=Lh (HVa.out.below b5)
           replace K20:=Lh (K20.out.below b5)
           replace K21:=Lh (K21.out.below b5)
           replace BB:=Lh (bl_trans BB.out b5)
           have XA:Hid (TRd wq tA { yA with F:=FA,fc:=fA }):=Lh { OYa.out with frames:=hfa }
           clear hfa b5
           clear HC
           refine hK.out _ _ ((HSB.out _).2 ⟨⟨K15w.out,K13.out⟩,K16w.out,K19.out⟩) (fun hH9=>?_)
           clear hK KK0
           try go_simp
           have HC:Calls Tryz.prog 33 #[vb] wq (RetRefC wq ⟨tA,5,vA,eA⟩ y):=(by rw[Hvb.out];exact refc_c ⟨tA,5,vA,eA⟩ y _ OYb.out (by rw[HFy.out];decide))
           refine rdy 6 rfl (fun KK0 hK=>?_)
           rw[if_pos (by kernel_rfl)]
           refine Step2.calls_wp _ _ _ (HC) (Step2.run_call _ _ _ rfl rfl Tryz.func33 (by kernel_rfl) (by kernel_rfl) _ (by kernel_rfl)) ?_
           rintro e wq hq
           obtain ⟨FB,fB,he,hfb,b5⟩:=hq
           subst he
           refine ⟨_,rfl,?_⟩
           replace K13:=Lh (K13.out.below b5)
           replace K19:=Lh (K19.out.below b5)
           replace KW2:=Lh (KW2.out.below b5)
           replace K11w:=Lh (K11w.out.below b5)
           replace K15w:=Lh (K15w.out.below b5)
           replace K16w:=Lh (K16w.out.below b5)
           replace OYb:=Lh (OYb.out.below b5)
           replace HVb:=Lh (HVb.out.below b5)
           replace OYa:=Lh (OYa.out.below b5)
           replace HVa:=Lh (HVa.out.below b5)
           replace K20:=Lh (K20.out.below b5)
           replace K21:=Lh (K21.out.below b5)
           replace XA:=Lh (XA.out.below b5)
           replace BB:=Lh (bl_trans BB.out b5)
           have XB:Hid (TRd wq tA { y with F:=FB,fc:=fB }):=Lh { OYb.out with frames:=hfb }
           clear hfb b5
           clear HC
           refine hK.out _ _ ((HSB.out _).2 ⟨⟨K15w.out,K13.out⟩,K16w.out,K19.out⟩) (fun hH9=>?_)
           clear hK KK0
           try go_simp
           refine rdy 7 rfl (fun KK0 hK=>?_)
           rw[if_pos (by kernel_rfl)]
           refine Step2.calls_wp _ _ _ (refsame ⟨tA,5,vA,eA⟩ { yA with F:=FA,fc:=fA } { y with F:=FB,fc:=fB } _ XA.out XB.out (short_fl (y:={ yA with F:=FA,fc:=fA }) HSA.out HFA.out) HFR.out) (Step2.run_call _ _ _ rfl rfl Tryz.func32 (by kernel_rfl) (by kernel_rfl) _ (by kernel_rfl)) ?_
           rintro e wq hq
           obtain ⟨rfl,b5⟩:=hq
           refine ⟨_,rfl,?_⟩
           replace K13:=Lh (K13.out.below b5)
           replace K19:=Lh (K19.out.below b5)
           replace KW2:=Lh (KW2.out.below b5)
           replace K11w:=Lh (K11w.out.below b5)
           replace K15w:=Lh (K15w.out.below b5)
           replace K16w:=Lh (K16w.out.below b5)
           replace OYb:=Lh (OYb.out.below b5)
           replace HVb:=Lh (HVb.out.below b5)
           replace OYa:=Lh (OYa.out.below b5)
           replace HVa:=Lh (HVa.out.below b5)
           replace K20:=Lh (K20.out.below b5)
           replace K21:=Lh (K21.out.below b5)
           replace BB:=Lh (bl_trans BB.out b5)
           clear b5 XA XB
           refine hK.out _ _ ((HSB.out _).2 ⟨⟨K15w.out,K13.out⟩,K16w.out,K19.out⟩) (fun hH9=>?_)
           clear hK KK0
           try go_simp
           refine tk 8 (.bool true) rfl hH9 ?_
           try go_simp
           refine tk 9 (.bool true) rfl hH9 ?_
           try go_simp
           refine tk 10 vc rfl hH9 ?_ (hy:=Or.inl ⟨by kernel_rfl,fun W hS=>by rw[Hvc.out];have hSS:=(HSB.out W).1 hS;have q0:=hSS.2.1.cell 0 _ rfl;have q1:=hSS.2.1.cell 1 _ rfl;have q2:=hSS.2.1.cell 2 _ rfl;go_simp⟩)
           try go_simp
           refine tk 12 vd rfl hH9 ?_ (hy:=Or.inl ⟨by kernel_rfl,fun W hS=>by rw[Hvd.out];have hSS:=(HSB.out W).1 hS;have q0:=hSS.2.2.cell 0 _ rfl;have q1:=hSS.2.2.cell 1 _ rfl;have q2:=hSS.2.2.cell 2 _ rfl;go_simp⟩)
           try go_simp
           have HC:Calls Tryz.prog 31 #[vc] wq (fun e w' =>e=.returned (.agg (wvl ⟨hA_,rA_,kA⟩ zA).toArray)∧Below wq.heap.size wq w'):=(by rw[Hvc.out];exact worlds_c ⟨hA_,rA_,kA⟩ zA _)
           refine rdy 11 rfl (fun KK0 hK=>?_)
           rw[if_pos (by kernel_rfl)]
           refine Step2.calls_wp _ _ _ (HC) (Step2.run_call _ _ _ rfl rfl Tryz.func31 (by kernel_rfl) (by kernel_rfl) _ (by kernel_rfl)) ?_
           rintro e wq hq
           obtain ⟨rfl,b5⟩:=hq
           refine ⟨_,rfl,?_⟩
           replace K13:=Lh (K13.out.below b5)
           replace K19:=Lh (K19.out.below b5)
           replace KW2:=Lh (KW2.out.below b5)
           replace K11w:=Lh (K11w.out.below b5)
           replace K15w:=Lh (K15w.out.below b5)
           replace K16w:=Lh (K16w.out.below b5)
           replace OYb:=Lh (OYb.out.below b5)
           replace HVb:=Lh (HVb.out.below b5)
           replace OYa:=Lh (OYa.out.below b5)
           replace HVa:=Lh (HVa.out.below b5)
           replace K20:=Lh (K20.out.below b5)
           replace K21:=Lh (K21.out.below b5)
           replace BB:=Lh (bl_trans BB.out b5)
           clear b5
           clear HC
           refine hK.out _ _ ((HSB.out _).2 ⟨⟨K15w.out,K13.out⟩,K16w.out,K19.out⟩) (fun hH9=>?_)
           clear hK KK0
           try go_simp
           have HC:Calls Tryz.prog 31 #[vd] wq (fun e w' =>e=.returned (.agg (wvl ⟨hA_,rA_,kA⟩ z1).toArray)∧Below wq.heap.size wq w'):=(by rw[Hvd.out];exact worlds_c ⟨hA_,rA_,kA⟩ z1 _)
           refine rdy 13 rfl (fun KK0 hK=>?_)
           rw[if_pos (by kernel_rfl)]
           refine Step2.calls_wp _ _ _ (HC) (Step2.run_call _ _ _ rfl rfl Tryz.func31 (by kernel_rfl) (by kernel_rfl) _ (by kernel_rfl)) ?_
           rintro e wq hq
           obtain ⟨rfl,b5⟩:=hq
           refine ⟨_,rfl,?_⟩
           replace K13:=Lh (K13.out.below b5)
           replace K19:=Lh (K19.out.below b5)
           replace KW2:=Lh (KW2.out.below b5)
           replace K11w:=Lh (K11w.out.below b5)
           replace K15w:=Lh (K15w.out.below b5)
           replace K16w:=Lh (K16w.out.below b5)
           replace OYb:=Lh (OYb.out.below b5)
           replace HVb:=Lh (HVb.out.below b5)
           replace OYa:=Lh (OYa.out.below b5)
           replace HVa:=Lh (HVa.out.below b5)
           replace K20:=Lh (K20.out.below b5)
           replace K21:=Lh (K21.out.below b5)
           replace BB:=Lh (bl_trans BB.out b5)
           clear b5
           clear HC
           refine hK.out _ _ ((HSB.out _).2 ⟨⟨K15w.out,K13.out⟩,K16w.out,K19.out⟩) (fun hH9=>?_)
           clear hK KK0
           try go_simp
           refine rdy 14 rfl (fun KK0 hK=>?_)
           rw[if_pos (by kernel_rfl)]
           refine Step2.calls_wp _ _ _ (refworlds ⟨hA_,rA_,kA⟩ ⟨hA_,rA_,kA⟩ zA z1 _ HVa.out HVb.out HFV.out HFV.out true true true (decide_eq_true rfl) (decide_eq_true rfl) (decide_eq_true rfl)) (Step2.run_call _ _ _ rfl rfl Tryz.func38 (by kernel_rfl) (by kernel_rfl) _ (by kernel_rfl)) ?_
           rintro e wq hq
           obtain ⟨rfl,b5⟩:=hq
           refine ⟨_,rfl,?_⟩
           replace K13:=Lh (K13.out.below b5)
           replace K19:=Lh (K19.out.below b5)
           replace KW2:=Lh (KW2.out.below b5)
           replace K11w:=Lh (K11w.out.below b5)
           replace K15w:=Lh (K15w.out.below b5)
           replace K16w:=Lh (K16w.out.below b5)
           replace OYb:=Lh (OYb.out.below b5)
           replace HVb:=Lh (HVb.out.below b5)
           replace OYa:=Lh (OYa.out.below b5)
           replace HVa:=Lh (HVa.out.below b5)
           replace K20:=Lh (K20.out.below b5)
           replace K21:=Lh (K21.out.below b5)
           replace BB:=Lh (bl_trans BB.out b5)
           clear b5
           refine hK.out _ _ ((HSB.out _).2 ⟨⟨K15w.out,K13.out⟩,K16w.out,K19.out⟩) (fun hH9=>?_)
           clear hK KK0
           try go_simp
           refine tk 15 (.bool true) rfl hH9 ?_
           try go_simp
           refine tk 16 (.bool true) rfl hH9 ?_
           try go_simp
           refine rdy 17 rfl (fun KK0 hK=>?_)
           rw[if_pos (by kernel_rfl)]
           refine Step2.calls_wp _ _ _ (awake_any _) (Step2.run_call _ _ _ rfl rfl Tryz.func25 (by kernel_rfl) (by kernel_rfl) _ (by kernel_rfl)) ?_
           rintro e wq hq
           obtain ⟨rfl,b5⟩:=hq
           refine ⟨_,rfl,?_⟩
           replace K13:=Lh (K13.out.below b5)
           replace K19:=Lh (K19.out.below b5)
           replace KW2:=Lh (KW2.out.below b5)
           replace K11w:=Lh (K11w.out.below b5)
           replace K15w:=Lh (K15w.out.below b5)
           replace K16w:=Lh (K16w.out.below b5)
           replace OYb:=Lh (OYb.out.below b5)
           replace HVb:=Lh (HVb.out.below b5)
           replace OYa:=Lh (OYa.out.below b5)
           replace HVa:=Lh (HVa.out.below b5)
           replace K20:=Lh (K20.out.below b5)
           replace K21:=Lh (K21.out.below b5)
           replace BB:=Lh (bl_trans BB.out b5)
           clear b5
           refine hK.out _ _ ((HSB.out _).2 ⟨⟨K15w.out,K13.out⟩,K16w.out,K19.out⟩) (fun hH9=>?_)
           clear hK KK0
           try go_simp
           refine tk 18 (.bool true) rfl hH9 ?_
           try go_simp
           refine rdy 19 rfl (fun KK0 hK=>?_)
           go_simp
           refine hK.out _ _ hH9 (fun _=>?_)
           clear hK KK0
           refine wpAnyH_done (by kernel_rfl) ?_ _
           try go_simp
           go_wp2
           go_ret
           exact ⟨rfl,BB.out⟩
          ·have hx:=hl0
           have Z0:Hid (Blk ((v21.alloc (.cells z14 69)).alloc (.cells z3 63)) v21.heap.size 69 z14):=Lh ((Blk.new v21 69 z14).alloc (.cells z3 63))
           have Z1:Hid (Blk ((v21.alloc (.cells z14 69)).alloc (.cells z3 63)) (v21.heap.size+1) 63 z3):=Lh (by have:=Blk.new (v21.alloc (.cells z14 69)) 63 z3;simpa only[World.size_alloc] using this)
           have Y0:Hid (Blk ((v21.alloc (.cells z14 69)).alloc (.cells z3 63)) v21.heap.size 69 z14):=Lh (Z0.out)
           have Y1:Hid (Blk (((v21.alloc (.cells z14 69)).alloc (.cells z3 63)).setRow v21.heap.size (aC tA y3 5 vA eA)) (v21.heap.size+1) 63 z3):=Lh ((row_only _ v21.heap.size _).blk Z1.out (by omega))
           have K20:Hid (Blk ((((v21.alloc (.cells z14 69)).alloc (.cells z3 63)).setRow v21.heap.size (aC tA y3 5 vA eA)).setRow (v21.heap.size+1) (aW zq hA_ rA_ kA)) v21.heap.size 69 (aC tA y3 5 vA eA)):=Lh ((row_only _ (v21.heap.size+1) _).blk (row_blk Y0.out) (by omega))
           have K21:Hid (Blk ((((v21.alloc (.cells z14 69)).alloc (.cells z3 63)).setRow v21.heap.size (aC tA y3 5 vA eA)).setRow (v21.heap.size+1) (aW zq hA_ rA_ kA)) (v21.heap.size+1) 63 (aW zq hA_ rA_ kA)):=Lh (row_blk Y1.out)
           have bst:Hid (Below v21.heap.size v21 ((((v21.alloc (.cells z14 69)).alloc (.cells z3 63)).setRow v21.heap.size (aC tA y3 5 vA eA)).setRow (v21.heap.size+1) (aW zq hA_ rA_ kA))):=Lh (Only.below (S:=fun k=>v21.heap.size≤k) (((((Only.refl (fun k=>v21.heap.size≤k) v21).alloc _).alloc _).trans (row_only _ v21.heap.size _) (fun k _ e=>by omega)).trans (row_only _ (v21.heap.size+1) _) (fun k _ e=>by omega)) (Nat.le_refl _) (fun k hk e=>by omega))
           go_upto_region 19 with (first | (refine wpList_store_row rfl 69 _ _ rfl v21.heap.size (aC tA y3 5 vA eA) rfl rfl 69 _ Y0.out (by kernel_rfl) rfl (by simp[Value.oneCell']) ?_) | (refine wpList_store_row rfl 63 _ _ rfl (v21.heap.size+1) (aW zq hA_ rA_ kA) rfl rfl 63 _ Y1.out (by kernel_rfl) rfl (by simp[Value.oneCell']) ?_;(clear Z0 Y0 Z1 Y1);(replace K13:=Lh (K13.out.below bst.out));(replace K19:=Lh (K19.out.below bst.out));(replace KW2:=Lh (KW2.out.below bst.out));(replace K11w:=Lh (K11w.out.below bst.out));(replace K15w:=Lh (K15w.out.below bst.out));(replace K16w:=Lh (K16w.out.below bst.out));(replace OYb:=Lh (OYb.out.below bst.out));(replace HVb:=Lh (HVb.out.below bst.out));(replace OYa:=Lh (OYa.out.below bst.out));(replace HVa:=Lh (HVa.out.below bst.out));(replace BB:=Lh (bl_trans BB.out bst.out));(clear bst);(generalize ((((v21.alloc (.cells z14 69)).alloc (.cells z3 63)).setRow v21.heap.size (aC tA y3 5 vA eA)).setRow (v21.heap.size+1) (aW zq hA_ rA_ kA))=v22 at *);(generalize hg20:v21.heap.size=g20 at *);(clear hg20);(have a11:=K13.out.cell 11 _ rfl);(have b6:v22.cell? ⟨g11,6,none⟩=some (.slice y1.L ln y1.lc):=(by rw[←HLN.out];exact K11w.out.cell 6 _ rfl))))
           clear a11 b6
           replace K13:=Lh (K13.out.below (Below.refl _ v22).drew)
           replace K19:=Lh (K19.out.below (Below.refl _ v22).drew)
           replace KW2:=Lh (KW2.out.below (Below.refl _ v22).drew)
           replace K11w:=Lh (K11w.out.below (Below.refl _ v22).drew)
           replace K15w:=Lh (K15w.out.below (Below.refl _ v22).drew)
           replace K16w:=Lh (K16w.out.below (Below.refl _ v22).drew)
           replace OYb:=Lh (OYb.out.below (Below.refl _ v22).drew)
           replace HVb:=Lh (HVb.out.below (Below.refl _ v22).drew)
           replace OYa:=Lh (OYa.out.below (Below.refl _ v22).drew)
           replace HVa:=Lh (HVa.out.below (Below.refl _ v22).drew)
           replace K20:=Lh (K20.out.below (Below.refl _ v22).drew)
           replace K21:=Lh (K21.out.below (Below.refl _ v22).drew)
           replace BB:=Lh (bl_trans BB.out (Below.refl _ v22).drew)
           obtain ⟨SB,hSB⟩:∃SB:World→Prop,∀V,SB V↔((Blk V g15 69 (aC tA yA 5 vA eA)∧Blk V g13 69 (aC tA y 5 vA eA))∧Blk V (g15+1) 63 (aW zA hA_ rA_ kA)∧Blk V g19 63 (aW z1 hA_ rA_ kA)):=⟨_,fun _=>Iff.rfl⟩
           have HSB:=Lh hSB
           clear hSB
           obtain ⟨va,hva⟩:∃vq_:Value,vq_=.agg (aC tA yA 5 vA eA):=⟨_,rfl⟩
           have Hva:=Lh hva
           clear hva
           obtain ⟨vb,hvb⟩:∃vq_:Value,vq_=.agg (aC tA y 5 vA eA):=⟨_,rfl⟩
           have Hvb:=Lh hvb
           clear hvb
           obtain ⟨vc,hvc⟩:∃vq_:Value,vq_=.agg (aW zA hA_ rA_ kA):=⟨_,rfl⟩
           have Hvc:=Lh hvc
           clear hvc
           obtain ⟨vd,hvd⟩:∃vq_:Value,vq_=.agg (aW z1 hA_ rA_ kA):=⟨_,rfl⟩
           have Hvd:=Lh hvd
           clear hvd
           have f0:SB v22.drew:=((HSB.out _).2 ⟨⟨K15w.out,K13.out⟩,K16w.out,K19.out⟩)
           refine wp_region_held_drew (S:=SB) (by kernel_rfl) f0 (fun hH0=>?_)
           clear f0
           generalize v22.drew=u6 at *
           have HFR:Hid (tA.frames= []):=Lh (raw_nil OYa.out HFA.out)
           have HSA:Hid (Short tA yA):=Lh (short_fl HSY.out HFA.out)
           refine tk 0 (.int .i64 0) rfl hH0 ?_
           try go_simp
           refine tk 1 (.bool true) rfl hH0 ?_
           try go_simp
           refine tk 2 (.bool true) rfl hH0 ?_
           try go_simp
           refine tk 3 va rfl hH0 ?_ (hy:=Or.inl ⟨by kernel_rfl,fun W hS=>by rw[Hva.out];have hSS:=(HSB.out W).1 hS;have q0:=hSS.1.1.cell 0 _ rfl;have q1:=hSS.1.1.cell 1 _ rfl;have q2:=hSS.1.1.cell 2 _ rfl;have q3:=hSS.1.1.cell 3 _ rfl;have q4:=hSS.1.1.cell 4 _ rfl;have q5:=hSS.1.1.cell 5 _ rfl;have q6:=hSS.1.1.cell 6 _ rfl;have q7:=hSS.1.1.cell 7 _ rfl;have q8:=hSS.1.1.cell 8 _ rfl;have q9:=hSS.1.1.cell 9 _ rfl;have q10:=hSS.1.1.cell 10 _ rfl;have q11:=hSS.1.1.cell 11 _ rfl;have q12:=hSS.1.1.cell 12 _ rfl;have q13:=hSS.1.1.cell 13 _ rfl;go_simp⟩)
           try go_simp
           refine tk 5 vb rfl hH0 ?_ (hy:=Or.inl ⟨by kernel_rfl,fun W hS=>by rw[Hvb.out];have hSS:=(HSB.out W).1 hS;have q0:=hSS.1.2.cell 0 _ rfl;have q1:=hSS.1.2.cell 1 _ rfl;have q2:=hSS.1.2.cell 2 _ rfl;have q3:=hSS.1.2.cell 3 _ rfl;have q4:=hSS.1.2.cell 4 _ rfl;have q5:=hSS.1.2.cell 5 _ rfl;have q6:=hSS.1.2.cell 6 _ rfl;have q7:=hSS.1.2.cell 7 _ rfl;have q8:=hSS.1.2.cell 8 _ rfl;have q9:=hSS.1.2.cell 9 _ rfl;have q10:=hSS.1.2.cell 10 _ rfl;have q11:=hSS.1.2.cell 11 _ rfl;have q12:=hSS.1.2.cell 12 _ rfl;have q13:=hSS.1.2.cell 13 _ rfl;go_simp⟩)
           try go_simp
           have HC:Calls Tryz.prog 33 #[va] u6 (RetRefC u6 ⟨tA,5,vA,eA⟩ yA):=(by rw[Hva.out];exact refc_c ⟨tA,5,vA,eA⟩ yA _ OYa.out (by rw[HFA.out];decide))
           refine rdy 4 rfl (fun KK0 hK=>?_)
           rw[if_pos (by kernel_rfl)]
           refine Step2.calls_wp _ _ _ (HC) (Step2.run_call _ _ _ rfl rfl Tryz.func33 (by kernel_rfl) (by kernel_rfl) _ (by kernel_rfl)) ?_
           rintro e wq hq
           obtain ⟨FA,fA,he,hfa,b5⟩:=hq
           subst he
           refine ⟨_,rfl,?_⟩
           replace K13:=Lh (K13.out.below b5)
           replace K19:=Lh (K19.out.below b5)
           replace KW2:=Lh (KW2.out.below b5)
           replace K11w:=Lh (K11w.out.below b5)
           replace K15w:=Lh (K15w.out.below b5)
           replace K16w:=Lh (K16w.out.below b5)
           replace OYb:=Lh (OYb.out.below b5)
           replace HVb:=Lh (HVb.out.below b5)
           replace OYa:=Lh (OYa.out.below b5)
           replace HVa:=Lh (HVa.out.below b5)
           replace K20:=Lh (K20.out.below b5)
           replace K21:=Lh (K21.out.below b5)
           replace BB:=Lh (bl_trans BB.out b5)
           have XA:Hid (TRd wq tA { yA with F:=FA,fc:=fA }):=Lh { OYa.out with frames:=hfa }
           clear hfa b5
           clear HC
           refine hK.out _ _ ((HSB.out _).2 ⟨⟨K15w.out,K13.out⟩,K16w.out,K19.out⟩) (fun hH9=>?_)
           clear hK KK0
           try go_simp
           have HC:Calls Tryz.prog 33 #[vb] wq (RetRefC wq ⟨tA,5,vA,eA⟩ y):=(by rw[Hvb.out];exact refc_c ⟨tA,5,vA,eA⟩ y _ OYb.out (by rw[HFy.out];decide))
           refine rdy 6 rfl (fun KK0 hK=>?_)
           rw[if_pos (by kernel_rfl)]
           refine Step2.calls_wp _ _ _ (HC) (Step2.run_call _ _ _ rfl rfl Tryz.func33 (by kernel_rfl) (by kernel_rfl) _ (by kernel_rfl)) ?_
           rintro e wq hq
           obtain ⟨FB,fB,he,hfb,b5⟩:=hq
           subst he
           refine ⟨_,rfl,?_⟩
           replace K13:=Lh (K13.out.below b5)
           replace K19:=Lh (K19.out.below b5)
           replace KW2:=Lh (KW2.out.below b5)
           replace K11w:=Lh (K11w.out.below b5)
           replace K15w:=Lh (K15w.out.below b5)
           replace K16w:=Lh (K16w.out.below b5)
           replace OYb:=Lh (OYb.out.below b5)
           replace HVb:=Lh (HVb.out.below b5)
           replace OYa:=Lh (OYa.out.below b5)
           replace HVa:=Lh (HVa.out.below b5)
           replace K20:=Lh (K20.out.below b5)
           replace K21:=Lh (K21.out.below b5)
           replace XA:=Lh (XA.out.below b5)
           replace BB:=Lh (bl_trans BB.out b5)
           have XB:Hid (TRd wq tA { y with F:=FB,fc:=fB }):=Lh { OYb.out with frames:=hfb }
           clear hfb b5
           clear HC
           refine hK.out _ _ ((HSB.out _).2 ⟨⟨K15w.out,K13.out⟩,K16w.out,K19.out⟩) (fun hH9=>?_)
           clear hK KK0
           try go_simp
           refine rdy 7 rfl (fun KK0 hK=>?_)
           rw[if_pos (by kernel_rfl)]
           refine Step2.calls_wp _ _ _ (refsame ⟨tA,5,vA,eA⟩ { yA with F:=FA,fc:=fA } { y with F:=FB,fc:=fB } _ XA.out XB.out (short_fl (y:={ yA with F:=FA,fc:=fA }) HSA.out HFA.out) HFR.out) (Step2.run_call _ _ _ rfl rfl Tryz.func32 (by kernel_rfl) (by kernel_rfl) _ (by kernel_rfl)) ?_
           rintro e wq hq
           obtain ⟨rfl,b5⟩:=hq
           refine ⟨_,rfl,?_⟩
           replace K13:=Lh (K13.out.below b5)
           replace K19:=Lh (K19.out.below b5)
           replace KW2:=Lh (KW2.out.below b5)
           replace K11w:=Lh (K11w.out.below b5)
           replace K15w:=Lh (K15w.out.below b5)
           replace K16w:=Lh (K16w.out.below b5)
           replace OYb:=Lh (OYb.out.below b5)
           replace HVb:=Lh (HVb.out.below b5)
           replace OYa:=Lh (OYa.out.below b5)
           replace HVa:=Lh (HVa.out.below b5)
           replace K20:=Lh (K20.out.below b5)
           replace K21:=Lh (K21.out.below b5)
           replace BB:=Lh (bl_trans BB.out b5)
           clear b5 XA XB
           refine hK.out _ _ ((HSB.out _).2 ⟨⟨K15w.out,K13.out⟩,K16w.out,K19.out⟩) (fun hH9=>?_)
           clear hK KK0
           try go_simp
           refine tk 8 (.bool true) rfl hH9 ?_
           try go_simp
           refine tk 9 (.bool true) rfl hH9 ?_
           try go_simp
           refine tk 10 vc rfl hH9 ?_ (hy:=Or.inl ⟨by kernel_rfl,fun W hS=>by rw[Hvc.out];have hSS:=(HSB.out W).1 hS;have q0:=hSS.2.1.cell 0 _ rfl;have q1:=hSS.2.1.cell 1 _ rfl;have q2:=hSS.2.1.cell 2 _ rfl;go_simp⟩)
           try go_simp
           refine tk 12 vd rfl hH9 ?_ (hy:=Or.inl ⟨by kernel_rfl,fun W hS=>by rw[Hvd.out];have hSS:=(HSB.out W).1 hS;have q0:=hSS.2.2.cell 0 _ rfl;have q1:=hSS.2.2.cell 1 _ rfl;have q2:=hSS.2.2.cell 2 _ rfl;go_simp⟩)
           try go_simp
           have HC:Calls Tryz.prog 31 #[vc] wq (fun e w' =>e=.returned (.agg (wvl ⟨hA_,rA_,kA⟩ zA).toArray)∧Below wq.heap.size wq w'):=(by rw[Hvc.out];exact worlds_c ⟨hA_,rA_,kA⟩ zA _)
           refine rdy 11 rfl (fun KK0 hK=>?_)
           rw[if_pos (by kernel_rfl)]
           refine Step2.calls_wp _ _ _ (HC) (Step2.run_call _ _ _ rfl rfl Tryz.func31 (by kernel_rfl) (by kernel_rfl) _ (by kernel_rfl)) ?_
           rintro e wq hq
           obtain ⟨rfl,b5⟩:=hq
           refine ⟨_,rfl,?_⟩
           replace K13:=Lh (K13.out.below b5)
           replace K19:=Lh (K19.out.below b5)
           replace KW2:=Lh (KW2.out.below b5)
           replace K11w:=Lh (K11w.out.below b5)
           replace K15w:=Lh (K15w.out.below b5)
           replace K16w:=Lh (K16w.out.below b5)
           replace OYb:=Lh (OYb.out.below b5)
           replace HVb:=Lh (HVb.out.below b5)
           replace OYa:=Lh (OYa.out.below b5)
           replace HVa:=Lh (HVa.out.below b5)
           replace K20:=Lh (K20.out.below b5)
           replace K21:=Lh (K21.out.below b5)
           replace BB:=Lh (bl_trans BB.out b5)
           clear b5
           clear HC
           refine hK.out _ _ ((HSB.out _).2 ⟨⟨K15w.out,K13.out⟩,K16w.out,K19.out⟩) (fun hH9=>?_)
           clear hK KK0
           try go_simp
           have HC:Calls Tryz.prog 31 #[vd] wq (fun e w' =>e=.returned (.agg (wvl ⟨hA_,rA_,kA⟩ z1).toArray)∧Below wq.heap.size wq w'):=(by rw[Hvd.out];exact worlds_c ⟨hA_,rA_,kA⟩ z1 _)
           refine rdy 13 rfl (fun KK0 hK=>?_)
           rw[if_pos (by kernel_rfl)]
           refine Step2.calls_wp _ _ _ (HC) (Step2.run_call _ _ _ rfl rfl Tryz.func31 (by kernel_rfl) (by kernel_rfl) _ (by kernel_rfl)) ?_
           rintro e wq hq
           obtain ⟨rfl,b5⟩:=hq
           refine ⟨_,rfl,?_⟩
           replace K13:=Lh (K13.out.below b5)
           replace K19:=Lh (K19.out.below b5)
           replace KW2:=Lh (KW2.out.below b5)
           replace K11w:=Lh (K11w.out.below b5)
           replace K15w:=Lh (K15w.out.below b5)
           replace K16w:=Lh (K16w.out.below b5)
           replace OYb:=Lh (OYb.out.below b5)
           replace HVb:=Lh (HVb.out.below b5)
           replace OYa:=Lh (OYa.out.below b5)
           replace HVa:=Lh (HVa.out.below b5)
           replace K20:=Lh (K20.out.below b5)
           replace K21:=Lh (K21.out.below b5)
           replace BB:=Lh (bl_trans BB.out b5)
           clear b5
           clear HC
           refine hK.out _ _ ((HSB.out _).2 ⟨⟨K15w.out,K13.out⟩,K16w.out,K19.out⟩) (fun hH9=>?_)
           clear hK KK0
           try go_simp
           refine rdy 14 rfl (fun KK0 hK=>?_)
           rw[if_pos (by kernel_rfl)]
           refine Step2.calls_wp _ _ _ (refworlds ⟨hA_,rA_,kA⟩ ⟨hA_,rA_,kA⟩ zA z1 _ HVa.out HVb.out HFV.out HFV.out true true true (decide_eq_true rfl) (decide_eq_true rfl) (decide_eq_true rfl)) (Step2.run_call _ _ _ rfl rfl Tryz.func38 (by kernel_rfl) (by kernel_rfl) _ (by kernel_rfl)) ?_
           rintro e wq hq
           obtain ⟨rfl,b5⟩:=hq
           refine ⟨_,rfl,?_⟩
           replace K13:=Lh (K13.out.below b5)
           replace K19:=Lh (K19.out.below b5)
           replace KW2:=Lh (KW2.out.below b5)
           replace K11w:=Lh (K11w.out.below b5)
           replace K15w:=Lh (K15w.out.below b5)
           replace K16w:=Lh (K16w.out.below b5)
           replace OYb:=Lh (OYb.out.below b5)
           replace HVb:=Lh (HVb.out.below b5)
           replace OYa:=Lh (OYa.out.below b5)
           replace HVa:=Lh (HVa.out.below b5)
           replace K20:=Lh (K20.out.below b5)
           replace K21:=Lh (K21.out.below b5)
           replace BB:=Lh (bl_trans BB.out b5)
           clear b5
           refine hK.out _ _ ((HSB.out _).2 ⟨⟨K15w.out,K13.out⟩,K16w.out,K19.out⟩) (fun hH9=>?_)
           clear hK KK0
           try go_simp
           refine tk 15 (.bool true) rfl hH9 ?_
           try go_simp
           refine tk 16 (.bool true) rfl hH9 ?_
           try go_simp
           refine rdy 17 rfl (fun KK0 hK=>?_)
           rw[if_pos (by kernel_rfl)]
           refine Step2.calls_wp _ _ _ (awake_any _) (Step2.run_call _ _ _ rfl rfl Tryz.func25 (by kernel_rfl) (by kernel_rfl) _ (by kernel_rfl)) ?_
           rintro e wq hq
           obtain ⟨rfl,b5⟩:=hq
           refine ⟨_,rfl,?_⟩
           replace K13:=Lh (K13.out.below b5)
           replace K19:=Lh (K19.out.below b5)
           replace KW2:=Lh (KW2.out.below b5)
           replace K11w:=Lh (K11w.out.below b5)
           replace K15w:=Lh (K15w.out.below b5)
           replace K16w:=Lh (K16w.out.below b5)
           replace OYb:=Lh (OYb.out.below b5)
           replace HVb:=Lh (HVb.out.below b5)
           replace OYa:=Lh (OYa.out.below b5)
           replace HVa:=Lh (HVa.out.below b5)
           replace K20:=Lh (K20.out.below b5)
           replace K21:=Lh (K21.out.below b5)
           replace BB:=Lh (bl_trans BB.out b5)
           clear b5
           refine hK.out _ _ ((HSB.out _).2 ⟨⟨K15w.out,K13.out⟩,K16w.out,K19.out⟩) (fun hH9=>?_)
           clear hK KK0
           try go_simp
           refine tk 18 (.bool true) rfl hH9 ?_
           try go_simp
           refine rdy 19 rfl (fun KK0 hK=>?_)
           go_simp
           refine hK.out _ _ hH9 (fun _=>?_)
           clear hK KK0
           refine wpAnyH_done (by kernel_rfl) ?_ _
           try go_simp
           go_wp2
           go_ret
           exact ⟨rfl,BB.out⟩
         ·have h5b:(pA==5)=false:=beq_eq_false_iff_ne.2 h5
          have Z0:Hid (Blk ((v21.alloc (.cells z14 69)).alloc (.cells z3 63)) v21.heap.size 69 z14):=Lh ((Blk.new v21 69 z14).alloc (.cells z3 63))
          have Z1:Hid (Blk ((v21.alloc (.cells z14 69)).alloc (.cells z3 63)) (v21.heap.size+1) 63 z3):=Lh (by have:=Blk.new (v21.alloc (.cells z14 69)) 63 z3;simpa only[World.size_alloc] using this)
          have Y0:Hid (Blk ((v21.alloc (.cells z14 69)).alloc (.cells z3 63)) v21.heap.size 69 z14):=Lh (Z0.out)
          have Y1:Hid (Blk (((v21.alloc (.cells z14 69)).alloc (.cells z3 63)).setRow v21.heap.size (aC tA y3 pA vA eA)) (v21.heap.size+1) 63 z3):=Lh ((row_only _ v21.heap.size _).blk Z1.out (by omega))
          have K20:Hid (Blk ((((v21.alloc (.cells z14 69)).alloc (.cells z3 63)).setRow v21.heap.size (aC tA y3 pA vA eA)).setRow (v21.heap.size+1) (aW zq hA_ rA_ kA)) v21.heap.size 69 (aC tA y3 pA vA eA)):=Lh ((row_only _ (v21.heap.size+1) _).blk (row_blk Y0.out) (by omega))
          have K21:Hid (Blk ((((v21.alloc (.cells z14 69)).alloc (.cells z3 63)).setRow v21.heap.size (aC tA y3 pA vA eA)).setRow (v21.heap.size+1) (aW zq hA_ rA_ kA)) (v21.heap.size+1) 63 (aW zq hA_ rA_ kA)):=Lh (row_blk Y1.out)
          have bst:Hid (Below v21.heap.size v21 ((((v21.alloc (.cells z14 69)).alloc (.cells z3 63)).setRow v21.heap.size (aC tA y3 pA vA eA)).setRow (v21.heap.size+1) (aW zq hA_ rA_ kA))):=Lh (Only.below (S:=fun k=>v21.heap.size≤k) (((((Only.refl (fun k=>v21.heap.size≤k) v21).alloc _).alloc _).trans (row_only _ v21.heap.size _) (fun k _ e=>by omega)).trans (row_only _ (v21.heap.size+1) _) (fun k _ e=>by omega)) (Nat.le_refl _) (fun k hk e=>by omega))
          go_upto_region 19 with (first | (refine wpList_store_row rfl 69 _ _ rfl v21.heap.size (aC tA y3 pA vA eA) rfl rfl 69 _ Y0.out (by kernel_rfl) rfl (by simp[Value.oneCell']) ?_) | (refine wpList_store_row rfl 63 _ _ rfl (v21.heap.size+1) (aW zq hA_ rA_ kA) rfl rfl 63 _ Y1.out (by kernel_rfl) rfl (by simp[Value.oneCell']) ?_;(clear Z0 Y0 Z1 Y1);(replace K13:=Lh (K13.out.below bst.out));(replace K19:=Lh (K19.out.below bst.out));(replace KW2:=Lh (KW2.out.below bst.out));(replace K11w:=Lh (K11w.out.below bst.out));(replace K15w:=Lh (K15w.out.below bst.out));(replace K16w:=Lh (K16w.out.below bst.out));(replace OYb:=Lh (OYb.out.below bst.out));(replace HVb:=Lh (HVb.out.below bst.out));(replace OYa:=Lh (OYa.out.below bst.out));(replace HVa:=Lh (HVa.out.below bst.out));(replace BB:=Lh (bl_trans BB.out bst.out));(clear bst);(generalize ((((v21.alloc (.cells z14 69)).alloc (.cells z3 63)).setRow v21.heap.size (aC tA y3 pA vA eA)).setRow (v21.heap.size+1) (aW zq hA_ rA_ kA))=v22 at *);(generalize hg20:v21.heap.size=g20 at *);(clear hg20);(have a11:=K13.out.cell 11 _ rfl);(have b6:v22.cell? ⟨g11,6,none⟩=some (.slice y1.L ln y1.lc):=(by rw[←HLN.out];exact K11w.out.cell 6 _ rfl))))
          clear a11 b6
          replace K13:=Lh (K13.out.below (Below.refl _ v22).drew)
          replace K19:=Lh (K19.out.below (Below.refl _ v22).drew)
          replace KW2:=Lh (KW2.out.below (Below.refl _ v22).drew)
          replace K11w:=Lh (K11w.out.below (Below.refl _ v22).drew)
          replace K15w:=Lh (K15w.out.below (Below.refl _ v22).drew)
          replace K16w:=Lh (K16w.out.below (Below.refl _ v22).drew)
          replace OYb:=Lh (OYb.out.below (Below.refl _ v22).drew)
          replace HVb:=Lh (HVb.out.below (Below.refl _ v22).drew)
          replace OYa:=Lh (OYa.out.below (Below.refl _ v22).drew)
          replace HVa:=Lh (HVa.out.below (Below.refl _ v22).drew)
          replace K20:=Lh (K20.out.below (Below.refl _ v22).drew)
          replace K21:=Lh (K21.out.below (Below.refl _ v22).drew)
          replace BB:=Lh (bl_trans BB.out (Below.refl _ v22).drew)
          obtain ⟨SB,hSB⟩:∃SB:World→Prop,∀V,SB V↔((Blk V g15 69 (aC tA yA pA vA eA)∧Blk V g13 69 (aC tA y pA vA eA))∧Blk V (g15+1) 63 (aW zA hA_ rA_ kA)∧Blk V g19 63 (aW z1 hA_ rA_ kA)):=⟨_,fun _=>Iff.rfl⟩
          have HSB:=Lh hSB
          clear hSB
          obtain ⟨va,hva⟩:∃vq_:Value,vq_=.agg (aC tA yA pA vA eA):=⟨_,rfl⟩
          have Hva:=Lh hva
          clear hva
          obtain ⟨vb,hvb⟩:∃vq_:Value,vq_=.agg (aC tA y pA vA eA):=⟨_,rfl⟩
          have Hvb:=Lh hvb
          clear hvb
          obtain ⟨vc,hvc⟩:∃vq_:Value,vq_=.agg (aW zA hA_ rA_ kA):=⟨_,rfl⟩
          have Hvc:=Lh hvc
          clear hvc
          obtain ⟨vd,hvd⟩:∃vq_:Value,vq_=.agg (aW z1 hA_ rA_ kA):=⟨_,rfl⟩
          have Hvd:=Lh hvd
          clear hvd
          have f0:SB v22.drew:=((HSB.out _).2 ⟨⟨K15w.out,K13.out⟩,K16w.out,K19.out⟩)
          refine wp_region_held_drew (S:=SB) (by kernel_rfl) f0 (fun hH0=>?_)
          clear f0
          generalize v22.drew=u6 at *
          have HFR:Hid (tA.frames= []):=Lh (raw_nil OYa.out HFA.out)
          have HSA:Hid (Short tA yA):=Lh (short_fl HSY.out HFA.out)
          refine tk 0 (.int .i64 0) rfl hH0 ?_
          try go_simp
          refine tk 1 (.bool true) rfl hH0 ?_
          try go_simp
          refine tk 2 (.bool true) rfl hH0 ?_
          try go_simp
          refine tk 3 va rfl hH0 ?_ (hy:=Or.inl ⟨by kernel_rfl,fun W hS=>by rw[Hva.out];have hSS:=(HSB.out W).1 hS;have q0:=hSS.1.1.cell 0 _ rfl;have q1:=hSS.1.1.cell 1 _ rfl;have q2:=hSS.1.1.cell 2 _ rfl;have q3:=hSS.1.1.cell 3 _ rfl;have q4:=hSS.1.1.cell 4 _ rfl;have q5:=hSS.1.1.cell 5 _ rfl;have q6:=hSS.1.1.cell 6 _ rfl;have q7:=hSS.1.1.cell 7 _ rfl;have q8:=hSS.1.1.cell 8 _ rfl;have q9:=hSS.1.1.cell 9 _ rfl;have q10:=hSS.1.1.cell 10 _ rfl;have q11:=hSS.1.1.cell 11 _ rfl;have q12:=hSS.1.1.cell 12 _ rfl;have q13:=hSS.1.1.cell 13 _ rfl;go_simp⟩)
          try go_simp
          refine tk 5 vb rfl hH0 ?_ (hy:=Or.inl ⟨by kernel_rfl,fun W hS=>by rw[Hvb.out];have hSS:=(HSB.out W).1 hS;have q0:=hSS.1.2.cell 0 _ rfl;have q1:=hSS.1.2.cell 1 _ rfl;have q2:=hSS.1.2.cell 2 _ rfl;have q3:=hSS.1.2.cell 3 _ rfl;have q4:=hSS.1.2.cell 4 _ rfl;have q5:=hSS.1.2.cell 5 _ rfl;have q6:=hSS.1.2.cell 6 _ rfl;have q7:=hSS.1.2.cell 7 _ rfl;have q8:=hSS.1.2.cell 8 _ rfl;have q9:=hSS.1.2.cell 9 _ rfl;have q10:=hSS.1.2.cell 10 _ rfl;have q11:=hSS.1.2.cell 11 _ rfl;have q12:=hSS.1.2.cell 12 _ rfl;have q13:=hSS.1.2.cell 13 _ rfl;go_simp⟩)
          try go_simp
          have HC:Calls Tryz.prog 33 #[va] u6 (RetRefC u6 ⟨tA,pA,vA,eA⟩ yA):=(by rw[Hva.out];exact refc_c ⟨tA,pA,vA,eA⟩ yA _ OYa.out (by rw[HFA.out];decide))
          refine rdy 4 rfl (fun KK0 hK=>?_)
          rw[if_pos (by kernel_rfl)]
          refine Step2.calls_wp _ _ _ (HC) (Step2.run_call _ _ _ rfl rfl Tryz.func33 (by kernel_rfl) (by kernel_rfl) _ (by kernel_rfl)) ?_
          rintro e wq hq
          obtain ⟨FA,fA,he,hfa,b5⟩:=hq
          subst he
          refine ⟨_,rfl,?_⟩
          replace K13:=Lh (K13.out.below b5)
          replace K19:=Lh (K19.out.below b5)
          replace KW2:=Lh (KW2.out.below b5)
          replace K11w:=Lh (K11w.out.below b5)
          replace K15w:=Lh (K15w.out.below b5)
          replace K16w:=Lh (K16w.out.below b5)
          replace OYb:=Lh (OYb.out.below b5)
          replace HVb:=Lh (HVb.out.below b5)
          replace OYa:=Lh (OYa.out.below b5)
          replace HVa:=Lh (HVa.out.below b5)
          replace K20:=Lh (K20.out.below b5)
          replace K21:=Lh (K21.out.below b5)
          replace BB:=Lh (bl_trans BB.out b5)
          have XA:Hid (TRd wq tA { yA with F:=FA,fc:=fA }):=Lh { OYa.out with frames:=hfa }
          clear hfa b5
          clear HC
          refine hK.out _ _ ((HSB.out _).2 ⟨⟨K15w.out,K13.out⟩,K16w.out,K19.out⟩) (fun hH9=>?_)
          clear hK KK0
          try go_simp
          have HC:Calls Tryz.prog 33 #[vb] wq (RetRefC wq ⟨tA,pA,vA,eA⟩ y):=(by rw[Hvb.out];exact refc_c ⟨tA,pA,vA,eA⟩ y _ OYb.out (by rw[HFy.out];decide))
          refine rdy 6 rfl (fun KK0 hK=>?_)
          rw[if_pos (by kernel_rfl)]
          refine Step2.calls_wp _ _ _ (HC) (Step2.run_call _ _ _ rfl rfl Tryz.func33 (by kernel_rfl) (by kernel_rfl) _ (by kernel_rfl)) ?_
          rintro e wq hq
          obtain ⟨FB,fB,he,hfb,b5⟩:=hq
          subst he
          refine ⟨_,rfl,?_⟩
          replace K13:=Lh (K13.out.below b5)
          replace K19:=Lh (K19.out.below b5)
          replace KW2:=Lh (KW2.out.below b5)
          replace K11w:=Lh (K11w.out.below b5)
          replace K15w:=Lh (K15w.out.below b5)
          replace K16w:=Lh (K16w.out.below b5)
          replace OYb:=Lh (OYb.out.below b5)
          replace HVb:=Lh (HVb.out.below b5)
          replace OYa:=Lh (OYa.out.below b5)
          replace HVa:=Lh (HVa.out.below b5)
          replace K20:=Lh (K20.out.below b5)
          replace K21:=Lh (K21.out.below b5)
          replace XA:=Lh (XA.out.below b5)
          replace BB:=Lh (bl_trans BB.out b5)
          have XB:Hid (TRd wq tA { y with F:=FB,fc:=fB }):=Lh { OYb.out with frames:=hfb }
          clear hfb b5
          clear HC
          refine hK.out _ _ ((HSB.out _).2 ⟨⟨K15w.out,K13.out⟩,K16w.out,K19.out⟩) (fun hH9=>?_)
          clear hK KK0
          try go_simp
          refine rdy 7 rfl (fun KK0 hK=>?_)
          rw[if_pos (by kernel_rfl)]
          refine Step2.calls_wp _ _ _ (refsame ⟨tA,pA,vA,eA⟩ { yA with F:=FA,fc:=fA } { y with F:=FB,fc:=fB } _ XA.out XB.out (short_fl (y:={ yA with F:=FA,fc:=fA }) HSA.out HFA.out) HFR.out) (Step2.run_call _ _ _ rfl rfl Tryz.func32 (by kernel_rfl) (by kernel_rfl) _ (by kernel_rfl)) ?_
          rintro e wq hq
          obtain ⟨rfl,b5⟩:=hq
          refine ⟨_,rfl,?_⟩
          replace K13:=Lh (K13.out.below b5)
          replace K19:=Lh (K19.out.below b5)
          replace KW2:=Lh (KW2.out.below b5)
          replace K11w:=Lh (K11w.out.below b5)
          replace K15w:=Lh (K15w.out.below b5)
          replace K16w:=Lh (K16w.out.below b5)
          replace OYb:=Lh (OYb.out.below b5)
          replace HVb:=Lh (HVb.out.below b5)
          replace OYa:=Lh (OYa.out.below b5)
          replace HVa:=Lh (HVa.out.below b5)
          replace K20:=Lh (K20.out.below b5)
          replace K21:=Lh (K21.out.below b5)
          replace BB:=Lh (bl_trans BB.out b5)
          clear b5 XA XB
          refine hK.out _ _ ((HSB.out _).2 ⟨⟨K15w.out,K13.out⟩,K16w.out,K19.out⟩) (fun hH9=>?_)
          clear hK KK0
          try go_simp
          refine tk 8 (.bool true) rfl hH9 ?_
          try go_simp
          refine tk 9 (.bool true) rfl hH9 ?_
          try go_simp
          refine tk 10 vc rfl hH9 ?_ (hy:=Or.inl ⟨by kernel_rfl,fun W hS=>by rw[Hvc.out];have hSS:=(HSB.out W).1 hS;have q0:=hSS.2.1.cell 0 _ rfl;have q1:=hSS.2.1.cell 1 _ rfl;have q2:=hSS.2.1.cell 2 _ rfl;go_simp⟩)
          try go_simp
          refine tk 12 vd rfl hH9 ?_ (hy:=Or.inl ⟨by kernel_rfl,fun W hS=>by rw[Hvd.out];have hSS:=(HSB.out W).1 hS;have q0:=hSS.2.2.cell 0 _ rfl;have q1:=hSS.2.2.cell 1 _ rfl;have q2:=hSS.2.2.cell 2 _ rfl;go_simp⟩)
          try go_simp
          have HC:Calls Tryz.prog 31 #[vc] wq (fun e w' =>e=.returned (.agg (wvl ⟨hA_,rA_,kA⟩ zA).toArray)∧Below wq.heap.size wq w'):=(by rw[Hvc.out];exact worlds_c ⟨hA_,rA_,kA⟩ zA _)
          refine rdy 11 rfl (fun KK0 hK=>?_)
          rw[if_pos (by kernel_rfl)]
          refine Step2.calls_wp _ _ _ (HC) (Step2.run_call _ _ _ rfl rfl Tryz.func31 (by kernel_rfl) (by kernel_rfl) _ (by kernel_rfl)) ?_
          rintro e wq hq
          obtain ⟨rfl,b5⟩:=hq
          refine ⟨_,rfl,?_⟩
          replace K13:=Lh (K13.out.below b5)
          replace K19:=Lh (K19.out.below b5)
          replace KW2:=Lh (KW2.out.below b5)
          replace K11w:=Lh (K11w.out.below b5)
          replace K15w:=Lh (K15w.out.below b5)
          replace K16w:=Lh (K16w.out.below b5)
          replace OYb:=Lh (OYb.out.below b5)
          replace HVb:=Lh (HVb.out.below b5)
          replace OYa:=Lh (OYa.out.below b5)
          replace HVa:=Lh (HVa.out.below b5)
          replace K20:=Lh (K20.out.below b5)
          replace K21:=Lh (K21.out.below b5)
          replace BB:=Lh (bl_trans BB.out b5)
          clear b5
          clear HC
          refine hK.out _ _ ((HSB.out _).2 ⟨⟨K15w.out,K13.out⟩,K16w.out,K19.out⟩) (fun hH9=>?_)
          clear hK KK0
          try go_simp
          have HC:Calls Tryz.prog 31 #[vd] wq (fun e w' =>e=.returned (.agg (wvl ⟨hA_,rA_,kA⟩ z1).toArray)∧Below wq.heap.size wq w'):=(by rw[Hvd.out];exact worlds_c ⟨hA_,rA_,kA⟩ z1 _)
          refine rdy 13 rfl (fun KK0 hK=>?_)
          rw[if_pos (by kernel_rfl)]
          refine Step2.calls_wp _ _ _ (HC) (Step2.run_call _ _ _ rfl rfl Tryz.func31 (by kernel_rfl) (by kernel_rfl) _ (by kernel_rfl)) ?_
          rintro e wq hq
          obtain ⟨rfl,b5⟩:=hq
          refine ⟨_,rfl,?_⟩
          replace K13:=Lh (K13.out.below b5)
          replace K19:=Lh (K19.out.below b5)
          replace KW2:=Lh (KW2.out.below b5)
          replace K11w:=Lh (K11w.out.below b5)
          replace K15w:=Lh (K15w.out.below b5)
          replace K16w:=Lh (K16w.out.below b5)
          replace OYb:=Lh (OYb.out.below b5)
          replace HVb:=Lh (HVb.out.below b5)
          replace OYa:=Lh (OYa.out.below b5)
          replace HVa:=Lh (HVa.out.below b5)
          replace K20:=Lh (K20.out.below b5)
          replace K21:=Lh (K21.out.below b5)
          replace BB:=Lh (bl_trans BB.out b5)
          clear b5
          clear HC
          refine hK.out _ _ ((HSB.out _).2 ⟨⟨K15w.out,K13.out⟩,K16w.out,K19.out⟩) (fun hH9=>?_)
          clear hK KK0
          try go_simp
          refine rdy 14 rfl (fun KK0 hK=>?_)
          rw[if_pos (by kernel_rfl)]
          refine Step2.calls_wp _ _ _ (refworlds ⟨hA_,rA_,kA⟩ ⟨hA_,rA_,kA⟩ zA z1 _ HVa.out HVb.out HFV.out HFV.out true true true (decide_eq_true rfl) (decide_eq_true rfl) (decide_eq_true rfl)) (Step2.run_call _ _ _ rfl rfl Tryz.func38 (by kernel_rfl) (by kernel_rfl) _ (by kernel_rfl)) ?_
          rintro e wq hq
          obtain ⟨rfl,b5⟩:=hq
          refine ⟨_,rfl,?_⟩
          replace K13:=Lh (K13.out.below b5)
          replace K19:=Lh (K19.out.below b5)
          replace KW2:=Lh (KW2.out.below b5)
          replace K11w:=Lh (K11w.out.below b5)
          replace K15w:=Lh (K15w.out.below b5)
          replace K16w:=Lh (K16w.out.below b5)
          replace OYb:=Lh (OYb.out.below b5)
          replace HVb:=Lh (HVb.out.below b5)
          replace OYa:=Lh (OYa.out.below b5)
          replace HVa:=Lh (HVa.out.below b5)
          replace K20:=Lh (K20.out.below b5)
          replace K21:=Lh (K21.out.below b5)
          replace BB:=Lh (bl_trans BB.out b5)
          clear b5
          refine hK.out _ _ ((HSB.out _).2 ⟨⟨K15w.out,K13.out⟩,K16w.out,K19.out⟩) (fun hH9=>?_)
          clear hK KK0
          try go_simp
          refine tk 15 (.bool true) rfl hH9 ?_
          try go_simp
          refine tk 16 (.bool true) rfl hH9 ?_
          try go_simp
          refine rdy 17 rfl (fun KK0 hK=>?_)
          rw[if_pos (by kernel_rfl)]
          refine Step2.calls_wp _ _ _ (awake_any _) (Step2.run_call _ _ _ rfl rfl Tryz.func25 (by kernel_rfl) (by kernel_rfl) _ (by kernel_rfl)) ?_
          rintro e wq hq
          obtain ⟨rfl,b5⟩:=hq
          refine ⟨_,rfl,?_⟩
          replace K13:=Lh (K13.out.below b5)
          replace K19:=Lh (K19.out.below b5)
          replace KW2:=Lh (KW2.out.below b5)
          replace K11w:=Lh (K11w.out.below b5)
          replace K15w:=Lh (K15w.out.below b5)
          replace K16w:=Lh (K16w.out.below b5)
          replace OYb:=Lh (OYb.out.below b5)
          replace HVb:=Lh (HVb.out.below b5)
          replace OYa:=Lh (OYa.out.below b5)
          replace HVa:=Lh (HVa.out.below b5)
          replace K20:=Lh (K20.out.below b5)
          replace K21:=Lh (K21.out.below b5)
          replace BB:=Lh (bl_trans BB.out b5)
          clear b5
          refine hK.out _ _ ((HSB.out _).2 ⟨⟨K15w.out,K13.out⟩,K16w.out,K19.out⟩) (fun hH9=>?_)
          clear hK KK0
          try go_simp
          refine tk 18 (.bool true) rfl hH9 ?_
          try go_simp
          refine rdy 19 rfl (fun KK0 hK=>?_)
          go_simp
          refine hK.out _ _ hH9 (fun _=>?_)
          clear hK KK0
          refine wpAnyH_done (by kernel_rfl) ?_ _
          try go_simp
          go_wp2
          go_ret
          exact ⟨rfl,BB.out⟩
        ·have HSG:=Lh (si_go HI.out hp (by have e:t0.who=who:=HWHO.out;show t0.who≠other;rw[e];exact HWO.out))
         obtain ⟨GC,hgc⟩:∃G,goC ⟨t1,p1,v1,e1⟩ ⟨h1,r1,k1⟩=G:=⟨_,rfl⟩
         rw[hgc]at HSG
         clear hgc
         obtain ⟨⟨t2,p2,v2,e2⟩,⟨h2,r2,k2⟩⟩:=GC
         clear K11w K15w K16w
         have HNC:Hid (u2.heap.size≤wr.heap.size):=Lh OA.out.size
         replace OA:Hid (OnlyA g13 g19 u2 wr):=OA
         have a0:=K13.out.cell 0 _ rfl
         have a1:=K13.out.cell 1 _ rfl
         have a2:=K13.out.cell 2 _ rfl
         have a3:=K13.out.cell 3 _ rfl
         have a4:=K13.out.cell 4 _ rfl
         have a5:=K13.out.cell 5 _ rfl
         have a6:=K13.out.cell 6 _ rfl
         have a7:=K13.out.cell 7 _ rfl
         have a8:=K13.out.cell 8 _ rfl
         have a9:=K13.out.cell 9 _ rfl
         have a10:=K13.out.cell 10 _ rfl
         have a11:=K13.out.cell 11 _ rfl
         have a12:=K13.out.cell 12 _ rfl
         have a13:=K13.out.cell 13 _ rfl
         have b0:=K19.out.cell 0 _ rfl
         have b1:=K19.out.cell 1 _ rfl
         have b2:=K19.out.cell 2 _ rfl
         go_wp2_with fail
         clear a0 a1 a2 a3 a4 a5 a6 a7 a8 a9 a10 a11 a12 a13 b0 b1 b2
         have hB:Calls Tryz.prog 34 #[.agg (aC t1 y p1 v1 e1),.agg (aW z1 h1 r1 k1)] wr (fun e w' =>∃(y' :TL) (z2:WL),e=.returned (.tuple #[.agg #[.int .i64 t2.who,.int .i64 t2.snap,.int .i64 t2.pc,.slice y'.R t2.regs.length y'.rc,.slice y'.P t2.path.length y'.pc,.slice y'.D t2.reads.length y'.dc,.slice y'.L t2.log.list.length y'.lc,.slice y'.M t2.log.marks.length y'.mc,.slice y'.F y'.fl.length y'.fc,.int .i64 t2.kind,.int .i64 t2.why,.int .i64 p2,.int .i64 v2,.int .i64 e2],.agg (aW z2 h2 r2 k2),.int .i64 0])∧y'.fl= []∧LA wr.heap.size t2 y' ⟨h2,r2,k2⟩ z2 w' ∧Below wr.heap.size wr w'):=(by have h:=step_c ⟨t1,p1,v1,e1⟩ ⟨h1,r1,k1⟩ y z1 wr OY.out HSY.out HV.out HFV.out HFy.out;rw[HSG.out.1]at h;exact h)
         refine (hB).mono ?_
         rintro e v21 ⟨y3,zq,rfl,hf,hl,b_⟩
         replace K13:=Lh (K13.out.below b_)
         replace K19:=Lh (K19.out.below b_)
         replace OA:=Lh (OA.out.below b_)
         replace KW2:=Lh (KW2.out.below b_)
         replace BB:=Lh (bl_trans BB.out b_)
         have HSZc:Hid (wr.heap.size≤v21.heap.size):=Lh b_.size
         clear hB b_
         have LT:=Lh hl
         have HFz:=Lh hf
         clear hl hf
         obtain ⟨nc,hnc⟩:∃n,wr.heap.size=n:=⟨_,rfl⟩
         rw[hnc]at LT
         have HNC2:Hid (u2.heap.size≤nc∧nc≤v21.heap.size):=Lh (by have h1:=HNC.out;have h2:=HSZc.out;omega)
         have Z0:Hid (Blk ((v21.alloc (.cells z14 69)).alloc (.cells z3 63)) v21.heap.size 69 z14):=Lh ((Blk.new v21 69 z14).alloc (.cells z3 63))
         have Z1:Hid (Blk ((v21.alloc (.cells z14 69)).alloc (.cells z3 63)) (v21.heap.size+1) 63 z3):=Lh (by have:=Blk.new (v21.alloc (.cells z14 69)) 63 z3;simpa only[World.size_alloc] using this)
         have Y0:Hid (Blk ((v21.alloc (.cells z14 69)).alloc (.cells z3 63)) v21.heap.size 69 z14):=Lh (Z0.out)
         have Y1:Hid (Blk (((v21.alloc (.cells z14 69)).alloc (.cells z3 63)).setRow v21.heap.size (aC t2 y3 p2 v2 e2)) (v21.heap.size+1) 63 z3):=Lh ((row_only _ v21.heap.size _).blk Z1.out (by omega))
         have K20:Hid (Blk ((((v21.alloc (.cells z14 69)).alloc (.cells z3 63)).setRow v21.heap.size (aC t2 y3 p2 v2 e2)).setRow (v21.heap.size+1) (aW zq h2 r2 k2)) v21.heap.size 69 (aC t2 y3 p2 v2 e2)):=Lh ((row_only _ (v21.heap.size+1) _).blk (row_blk Y0.out) (by omega))
         have K21:Hid (Blk ((((v21.alloc (.cells z14 69)).alloc (.cells z3 63)).setRow v21.heap.size (aC t2 y3 p2 v2 e2)).setRow (v21.heap.size+1) (aW zq h2 r2 k2)) (v21.heap.size+1) 63 (aW zq h2 r2 k2)):=Lh (row_blk Y1.out)
         have bst:Hid (Below v21.heap.size v21 ((((v21.alloc (.cells z14 69)).alloc (.cells z3 63)).setRow v21.heap.size (aC t2 y3 p2 v2 e2)).setRow (v21.heap.size+1) (aW zq h2 r2 k2))):=Lh (Only.below (S:=fun k=>v21.heap.size≤k) (((((Only.refl (fun k=>v21.heap.size≤k) v21).alloc _).alloc _).trans (row_only _ v21.heap.size _) (fun k _ e=>by omega)).trans (row_only _ (v21.heap.size+1) _) (fun k _ e=>by omega)) (Nat.le_refl _) (fun k hk e=>by omega))
         go_upto_region 13 with (first | (refine wpList_store_row rfl 69 _ _ rfl v21.heap.size (aC t2 y3 p2 v2 e2) rfl rfl 69 _ Y0.out (by kernel_rfl) rfl (by simp[Value.oneCell']) ?_) | (refine wpList_store_row rfl 63 _ _ rfl (v21.heap.size+1) (aW zq h2 r2 k2) rfl rfl 63 _ Y1.out (by kernel_rfl) rfl (by simp[Value.oneCell']) ?_;(clear Z0 Y0 Z1 Y1);(replace K13:=Lh (K13.out.below bst.out));(replace K19:=Lh (K19.out.below bst.out));(replace OA:=Lh (OA.out.below bst.out));(replace KW2:=Lh (KW2.out.below bst.out));(replace LT:=Lh (LT.out.below bst.out));(replace BB:=Lh (bl_trans BB.out bst.out));(clear bst);(generalize ((((v21.alloc (.cells z14 69)).alloc (.cells z3 63)).setRow v21.heap.size (aC t2 y3 p2 v2 e2)).setRow (v21.heap.size+1) (aW zq h2 r2 k2))=v22 at *);(generalize hg20:v21.heap.size=g20 at *);(clear hg20)))
         replace K13:=Lh (K13.out.below (Below.refl _ v22).drew)
         replace K19:=Lh (K19.out.below (Below.refl _ v22).drew)
         replace OA:=Lh (OA.out.below (Below.refl _ v22).drew)
         replace KW2:=Lh (KW2.out.below (Below.refl _ v22).drew)
         replace LT:=Lh (LT.out.below (Below.refl _ v22).drew)
         replace K20:=Lh (K20.out.below (Below.refl _ v22).drew)
         replace K21:=Lh (K21.out.below (Below.refl _ v22).drew)
         replace BB:=Lh (bl_trans BB.out (Below.refl _ v22).drew)
         have HG20:Hid (g13<g20∧g19<g20):=Lh (by have h1:=HG.out;have h2:=HNC2.out;omega)
         obtain ⟨SB,hSB⟩:∃SB:World→Prop,∀V,SB V↔(Blk V g20 69 (aC t2 y3 p2 v2 e2)∧Blk V (g20+1) 63 (aW zq h2 r2 k2)):=⟨_,fun _=>Iff.rfl⟩
         have HSB:=Lh hSB
         clear hSB
         obtain ⟨vy,hvy⟩:∃vq_:Value,vq_=.agg (aC t2 y3 p2 v2 e2):=⟨_,rfl⟩
         have HVY:=Lh hvy
         clear hvy
         obtain ⟨vz,hvz⟩:∃vq_:Value,vq_=.agg (aW zq h2 r2 k2):=⟨_,rfl⟩
         have HVZ:=Lh hvz
         clear hvz
         have hov:IntKind.i64.wrap ((i:Int)+1)=(i:Int)+1:=by rw[IntKind.wrap_i64];omega
         have f0:SB v22.drew:=(HSB.out _).2 ⟨K20.out,K21.out⟩
         refine wp_region_held_drew (S:=SB) (by kernel_rfl) f0 (fun hH0=>?_)
         clear f0
         generalize v22.drew=u3 at *
         refine tk 0 vy rfl hH0 ?_ (hy:=Or.inl ⟨by kernel_rfl,fun W hS=>by rw[HVY.out];have hSS:=(HSB.out W).1 hS;have q0:=hSS.1.cell 0 _ rfl;have q1:=hSS.1.cell 1 _ rfl;have q2:=hSS.1.cell 2 _ rfl;have q3:=hSS.1.cell 3 _ rfl;have q4:=hSS.1.cell 4 _ rfl;have q5:=hSS.1.cell 5 _ rfl;have q6:=hSS.1.cell 6 _ rfl;have q7:=hSS.1.cell 7 _ rfl;have q8:=hSS.1.cell 8 _ rfl;have q9:=hSS.1.cell 9 _ rfl;have q10:=hSS.1.cell 10 _ rfl;have q11:=hSS.1.cell 11 _ rfl;have q12:=hSS.1.cell 12 _ rfl;have q13:=hSS.1.cell 13 _ rfl;go_simp⟩)
         try go_simp
         refine tk 1 vz rfl hH0 ?_ (hy:=Or.inl ⟨by kernel_rfl,fun W hS=>by rw[HVZ.out];have hSS:=(HSB.out W).1 hS;have q0:=hSS.2.cell 0 _ rfl;have q1:=hSS.2.cell 1 _ rfl;have q2:=hSS.2.cell 2 _ rfl;go_simp⟩)
         try go_simp
         refine tk 2 (.int .i64 (i:Int)) rfl hH0 ?_
         try go_simp
         refine tk 3 (.int .i64 ((i:Int)+1)) rfl hH0 ?_
         try go_simp
         refine take_store 4 rfl (by kernel_rfl) (by kernel_rfl) 69 (.tmp 13) (.tmp 81) rfl g13 _ rfl HVY.out _ _ K13.out (by kernel_rfl) rfl (by simp[Value.oneCell']) (fun u4 kb ON=>?_)
         replace K13:=Lh kb
         replace K19:=Lh (ON.blk K19.out (by have:=HG.out;omega))
         replace KW2:=Lh (ON.blk KW2.out (by have:=HG.out;omega))
         replace K20:=Lh (ON.blk K20.out (by have:=HG20.out;omega))
         replace K21:=Lh (ON.blk K21.out (by have:=HG20.out;omega))
         replace OA:Hid (OnlyA g13 g19 u2 u4):=Lh (Only.trans OA.out ON (fun k _ e=>.inl e))
         replace LT:Hid (LA nc t2 y3 ⟨h2,r2,k2⟩ zq u4):=Lh (LT.out.turn ON (by have h1:=HG.out;have h2:=HNC2.out;omega))
         replace BB:=Lh (BB.out.trans (ON.below BB.out.size (fun k hk e=>by have:=HG.out;omega)))
         clear ON kb
         refine ⟨(HSB.out _).2 ⟨K20.out,K21.out⟩,?_⟩
         try go_simp
         refine take_store 5 rfl (by kernel_rfl) (by kernel_rfl) 63 (.tmp 19) (.tmp 82) rfl g19 _ rfl HVZ.out _ _ K19.out (by kernel_rfl) rfl (by simp[Value.oneCell']) (fun u5 kb ON=>?_)
         replace K19:=Lh kb
         replace K13:=Lh (ON.blk K13.out (by have:=HG.out;omega))
         replace KW2:=Lh (ON.blk KW2.out (by have:=HG.out;omega))
         replace K20:=Lh (ON.blk K20.out (by have:=HG20.out;omega))
         replace K21:=Lh (ON.blk K21.out (by have:=HG20.out;omega))
         replace OA:Hid (OnlyA g13 g19 u2 u5):=Lh (Only.trans OA.out ON (fun k _ e=>.inr e))
         replace LT:Hid (LA nc t2 y3 ⟨h2,r2,k2⟩ zq u5):=Lh (LT.out.turn ON (by have h1:=HG.out;have h2:=HNC2.out;omega))
         replace BB:=Lh (BB.out.trans (ON.below BB.out.size (fun k hk e=>by have:=HG.out;omega)))
         clear ON kb
         refine ⟨(HSB.out _).2 ⟨K20.out,K21.out⟩,?_⟩
         try go_simp
         refine rdy 6 rfl (fun KK0 hK=>?_)
         go_simp
         refine hK.out _ _ ((HSB.out _).2 ⟨K20.out,K21.out⟩) (fun _=>?_)
         clear hK KK0
         refine wpAnyH_done (by kernel_rfl) ?_ _
         try go_simp
         have OY2:Hid (TRd u5 t2 y3):=Lh (LT.out _ (Only.refl _ _)).1
         have HV2:Hid (WRd u5 ⟨h2,r2,k2⟩ zq):=Lh (LT.out _ (Only.refl _ _)).2
         replace HWR:Hid (WRd u5 ⟨h_,r_,k⟩ z):=Lh (HWw.out.below BB.out)
         clear LT HSB HVY HVZ hH0 K20 K21 HFy OY HV hov
         go_upto_region 14 with fail
         replace K13:=Lh (K13.out.below (Below.refl _ u5).drew)
         replace K19:=Lh (K19.out.below (Below.refl _ u5).drew)
         replace OA:=Lh (OA.out.below (Below.refl _ u5).drew)
         replace KW2:=Lh (KW2.out.below (Below.refl _ u5).drew)
         replace OY2:=Lh (OY2.out.below (Below.refl _ u5).drew)
         replace HV2:=Lh (HV2.out.below (Below.refl _ u5).drew)
         replace HWR:=Lh (HWR.out.below (Below.refl _ u5).drew)
         replace BB:=Lh (bl_trans BB.out (Below.refl _ u5).drew)
         obtain ⟨SB,hSB⟩:∃SB:World→Prop,∀V,SB V↔(Blk V g19 63 (aW zq h2 r2 k2)∧Blk V w.heap.size 63 (aW z h_ r_ k)):=⟨_,fun _=>Iff.rfl⟩
         have HSB:=Lh hSB
         clear hSB
         have f0:SB u5.drew:=((HSB.out _).2 ⟨K19.out,KW2.out⟩)
         refine wp_region_held_drew (S:=SB) (by kernel_rfl) f0 (fun hH0=>?_)
         clear f0
         generalize u5.drew=u6 at *
         obtain ⟨N2,hN2⟩:∃N,Stripe.heldS r2 other=N:=⟨_,rfl⟩
         obtain ⟨N0,hN0⟩:∃N,Stripe.heldS r_ other=N:=⟨_,rfl⟩
         have HN2:=Lh hN2
         have HN0:=Lh hN0
         have HEQ:Hid (N2=N0):=Lh (by rw[←hN2,←hN0];exact HSG.out.2.held)
         have HL2:Hid (N2.length≤1000000):=Lh (by rw[HEQ.out,←hN0];exact Nat.le_trans (Stripe.held_len' r_ other) HF.out.2)
         have HL0:Hid (N0.length≤1000000):=Lh (by rw[←hN0];exact Nat.le_trans (Stripe.held_len' r_ other) HF.out.2)
         have HR2:Hid (r2.length≤1000000):=Lh (by have e:r2.length=r_.length:=HSG.out.2.lr;rw[e];exact HF.out.2)
         clear hN2 hN0
         refine tk 0 (.pointer (some ⟨g19,1,none⟩)) rfl hH0 ?_
         try go_simp
         refine tk 1 (.slice zq.R r2.length zq.rc) rfl hH0 ?_ (hy:=Or.inl ⟨by kernel_rfl,fun W hS=>by have hSS:=(HSB.out W).1 hS;have q0:=hSS.1.cell 0 _ rfl;have p0:=hSS.2.cell 0 _ rfl;have q1:=hSS.1.cell 1 _ rfl;have p1:=hSS.2.cell 1 _ rfl;have q2:=hSS.1.cell 2 _ rfl;have p2:=hSS.2.cell 2 _ rfl;go_simp⟩)
         try go_simp
         refine tk 2 (.int .i64 other) rfl hH0 ?_
         try go_simp
         refine tk 4 (.pointer (some ⟨w.heap.size,1,none⟩)) rfl hH0 ?_
         try go_simp
         refine tk 5 (.slice z.R r_.length z.rc) rfl hH0 ?_ (hy:=Or.inl ⟨by kernel_rfl,fun W hS=>by have hSS:=(HSB.out W).1 hS;have q0:=hSS.1.cell 0 _ rfl;have p0:=hSS.2.cell 0 _ rfl;have q1:=hSS.1.cell 1 _ rfl;have p1:=hSS.2.cell 1 _ rfl;have q2:=hSS.1.cell 2 _ rfl;have p2:=hSS.2.cell 2 _ rfl;go_simp⟩)
         try go_simp
         refine tk 6 (.int .i64 other) rfl hH0 ?_
         try go_simp
         refine rdy 3 rfl (fun KK0 hK=>?_)
         rw[if_pos (by kernel_rfl)]
         refine Step2.calls_wp _ _ _ (Stripe.held_c r2 zq.R r2.length zq.rc other _ N2 N2.length HV2.out.2 HR2.out HN2.out rfl) (Step2.run_call _ _ _ rfl rfl Tryz.func41 (by kernel_rfl) (by kernel_rfl) _ (by kernel_rfl)) ?_
         rintro e wq hq
         obtain ⟨B2,d2,he,hr2,b5⟩:=hq
         subst he
         refine ⟨_,rfl,?_⟩
         replace K13:=Lh (K13.out.below b5)
         replace K19:=Lh (K19.out.below b5)
         replace OA:=Lh (OA.out.below b5)
         replace KW2:=Lh (KW2.out.below b5)
         replace OY2:=Lh (OY2.out.below b5)
         replace HV2:=Lh (HV2.out.below b5)
         replace HWR:=Lh (HWR.out.below b5)
         replace BB:=Lh (bl_trans BB.out b5)
         have HQ2:=Lh hr2
         clear hr2 b5
         refine hK.out _ _ ((HSB.out _).2 ⟨K19.out,KW2.out⟩) (fun hH1=>?_)
         clear hK KK0
         try go_simp
         refine rdy 7 rfl (fun KK0 hK=>?_)
         rw[if_pos (by kernel_rfl)]
         refine Step2.calls_wp _ _ _ (Stripe.held_c r_ z.R r_.length z.rc other _ N0 N0.length HWR.out.2 HF.out.2 HN0.out rfl) (Step2.run_call _ _ _ rfl rfl Tryz.func41 (by kernel_rfl) (by kernel_rfl) _ (by kernel_rfl)) ?_
         rintro e wq hq
         obtain ⟨B0,d0,he,hr0,b5⟩:=hq
         subst he
         refine ⟨_,rfl,?_⟩
         replace K13:=Lh (K13.out.below b5)
         replace K19:=Lh (K19.out.below b5)
         replace OA:=Lh (OA.out.below b5)
         replace KW2:=Lh (KW2.out.below b5)
         replace OY2:=Lh (OY2.out.below b5)
         replace HV2:=Lh (HV2.out.below b5)
         replace HWR:=Lh (HWR.out.below b5)
         replace BB:=Lh (bl_trans BB.out b5)
         replace HQ2:=Lh (HQ2.out.below b5)
         have HQ0:=Lh hr0
         clear hr0 b5
         refine hK.out _ _ ((HSB.out _).2 ⟨K19.out,KW2.out⟩) (fun hH2=>?_)
         clear hK KK0
         try go_simp
         refine rdy 8 rfl (fun KK0 hK=>?_)
         rw[if_pos (by kernel_rfl)]
         refine Step2.calls_wp _ _ _ (Stripe.numbers_b N2 N0 B2 B0 N2.length N0.length d2 d0 _ true HQ2.out HQ0.out HL2.out HL0.out (decide_eq_true HEQ.out)) (Step2.run_call _ _ _ rfl rfl Tryz.func47 (by kernel_rfl) (by kernel_rfl) _ (by kernel_rfl)) ?_
         rintro e wq hq
         obtain ⟨rfl,b5⟩:=hq
         refine ⟨_,rfl,?_⟩
         replace K13:=Lh (K13.out.below b5)
         replace K19:=Lh (K19.out.below b5)
         replace OA:=Lh (OA.out.below b5)
         replace KW2:=Lh (KW2.out.below b5)
         replace OY2:=Lh (OY2.out.below b5)
         replace HV2:=Lh (HV2.out.below b5)
         replace HWR:=Lh (HWR.out.below b5)
         replace BB:=Lh (bl_trans BB.out b5)
         clear b5
         refine hK.out _ _ ((HSB.out _).2 ⟨K19.out,KW2.out⟩) (fun hH3=>?_)
         clear hK KK0
         try go_simp
         refine rdy 9 rfl (fun KK0 hK=>?_)
         go_simp
         refine hK.out _ _ hH3 (fun _=>?_)
         clear hK KK0
         refine wpAnyH_done (by kernel_rfl) ?_ _
         try go_simp
         obtain ⟨m,rfl⟩:∃m,gk=m+1:=⟨gk - 1,by have:=HGK.out;omega⟩
         go_wp2
         go_roundg m
         case measure=>omega
         case rel=>exact ⟨i+1,⟨t2,p2,v2,e2⟩,⟨h2,r2,k2⟩,y3,zq,(by push_cast;rfl),(by push_cast;rfl),Lh (by have:=HGK.out;omega),Lh HSG.out.2,K13,K19,HFz,OY2,HV2,OA,BB⟩
end Go.Proofs.YtgghaodcfgbjlaaGreat.Commit
namespace Go.Proofs.YtgghaodcfgbjlaaGreat.commitSteps
open Go.ChangeShapes Go.WideShapes Go.ChangeAt Go.RowKit
set_option linter.unusedVariables false
theorem own:ownKnob Tryz.prog.godebug=none:=by kernel_rfl
theorem laidOut:laidOutB Tryz.prog=true:=by kernel_rfl
theorem lifted (os:Os) (started:os.Started) (H:Type) (enc:TypeId × Value→H):
  ReturnsInHanded {} Tryz.checked os 9 .any (Rows.commitStepsSpec.pre6 enc Tryz.prog Tryz.f9 Rows.commitStepsRow.domain false) (Rows.commitStepsSpec.post enc Tryz.prog Tryz.f9 false true false false):=by
 refine returnsInHanded_of_change (C:=Tryz.checked) own started (by kernel_rfl) Tryz.func9
  (ChangeSpec.witness6 (enc:=enc) (C:=Tryz.checked) false ⟨#[],#[.slice none 0 0,.int .i64 0,.int .i64 0,.int .i64 0,.agg #[.slice none 0 0,.slice none 0 0,.int .i64 0]],[]⟩ 8 (by kernel_rfl) (by kernel_rfl) (by kernel_rfl) (by kernel_rfl)) ?_
 intro W base args ds gs before hval0 hW hcnd _
 have hval:∀(j:Nat) t v,Tryz.f9.params[j]?=some t→args[j]?=some v→Value.okWide Tryz.prog W .any base t v:=hval0
 have hW' :=hW
 obtain ⟨p,q,hA0,hV,rfl,hfz,hnd⟩:=hW
 have hA:DataW.TrodAll enc Tryz.prog W 0 (fun _=>true) true Tryz.f9.params.toList args.toList ds p:=hA0
 rw[Tryz.params9]at hA hval
 obtain ⟨v0,vs0,d0,ds0,p0,q0,hargs,rfl,rfl,h0,rr0⟩:=trodAll_cons hA
 obtain ⟨v1,vs1,d1,ds1,p1,q1,rfl,rfl,rfl,h1,rr1⟩:=trodAll_cons rr0
 obtain ⟨v2,vs2,d2,ds2,p2,q2,rfl,rfl,rfl,h2,rr2⟩:=trodAll_cons rr1
 obtain ⟨v3,vs3,d3,ds3,p3,q3,rfl,rfl,rfl,h3,rr3⟩:=trodAll_cons rr2
 obtain ⟨v4,vs4,d4,ds4,p4,q4,rfl,rfl,rfl,h4,rr4⟩:=trodAll_cons rr3
 obtain ⟨rfl,rfl,rfl⟩:=trodAll_nil rr4
 obtain rfl:args=#[v0,v1,v2,v3,v4]:=by cases args;simp_all
 obtain ⟨rfl,rfl⟩:=trodVars_none hV
 obtain ⟨A0,n0,c0,rfl⟩:=okWide_slice Tryz.underlying22 (hval 0 22 v0 rfl rfl)
 have k0:=h0
 have lt0:∀x∈p0,x.block<W.heap.size:=by obtain ⟨m,hm⟩:=k0;exact DataW.trod_lt m _ _ _ hm
 obtain ⟨nc0,cm0,x0,r0,ln0,g0⟩:=Code.open_steps h0
 have m0:n0≤9223372036854775807:=Nat.le_trans nc0 cm0
 obtain ⟨a1,rfl,rfl,rfl,w1⟩:=open_int Tryz.underlying3 (hval 1 3 v1 rfl rfl) h1
 obtain ⟨a2,rfl,rfl,rfl,w2⟩:=open_int Tryz.underlying3 (hval 2 3 v2 rfl rfl) h2
 obtain ⟨a3,rfl,rfl,rfl,w3⟩:=open_int Tryz.underlying3 (hval 3 3 v3 rfl rfl) h3
 have k4:=h4
 have lt4:∀x∈p4,x.block<W.heap.size:=by obtain ⟨m,hm⟩:=k4;exact DataW.trod_lt m _ _ _ hm
 obtain ⟨x4,rfl,g4⟩:=Commit.open_cworld (hval 4 63 v4 rfl rfl) h4
 clear hA0 hval0
 refine (Commit.steps_walk A0 n0 c0 a1 a2 a3 x0 x4.W x4.z W nc0 m0 (Code.good_at r0 g0) g4.1).mono fun e W' ⟨he,bel⟩=>?_
 subst he
 exact ⟨_,rfl,_,_,_,[],_,[],hW',trodAll_mk1 (shut_bool Tryz.underlying4 _),(trodAll_cons_mk (Below.trod laidOut (by kernel_rfl) (of_decide_eq_true (by kernel_rfl)) k0 bel lt0) (trodAll_cons_mk (shut_int Tryz.underlying3 w1) (trodAll_cons_mk (shut_int Tryz.underlying3 w2) (trodAll_cons_mk (shut_int Tryz.underlying3 w3) (trodAll_cons_mk (Below.trod laidOut (by kernel_rfl) (of_decide_eq_true (by kernel_rfl)) k4 bel lt4) trodAll_mk0))))),rfl,bel.frame _,fun h=>by cases h⟩
theorem over:Rows.commitStepsRow.holds Tryz.pinned (OpenSpec.ofChange Rows.commitStepsSpec):=
 OpenClaim.holds_of_wide 9 Tryz.f9 rfl rfl rfl rfl rfl rfl rfl ⟨rfl,rfl,rfl,rfl,rfl⟩ rfl rfl rfl rfl rfl (by kernel_rfl) Tryz.func9 (by kernel_rfl)
  (of_decide_eq_true (by kernel_rfl)) (by unfold Func.isWrapper;first | (rw[if_pos (by decide+kernel)];kernel_rfl) | (rw[if_neg (by decide+kernel)];exact ⟨rfl,rfl⟩))
  (fun os started H enc _=>lifted os started H enc)
end Go.Proofs.YtgghaodcfgbjlaaGreat.commitSteps
namespace Go.Proofs.YtgghaodcfgbjlaaGreat
theorem commitSteps_holds : Rows.CommitStepsSaid := commitSteps.over
end Go.Proofs.YtgghaodcfgbjlaaGreat
