/- WHAT THE LAWS OF LAYER 6 ASK OF THE LAYER'S FUNCTIONS. -/
import Derived.Test.YtgghaodcfgbjlaaGreatWritesA
import Derived.Laws.StructEq
import Derived.Test.YtgghaodcfgbjlaaGreatMemA
import Derived.BigQuiet
import Derived.BigRegion
import Derived.Deep.LoopGhost
set_option maxRecDepth 100000
namespace Go.Proofs.YtgghaodcfgbjlaaGreat.Writes
open Go.ChangeShapes Go.WideShapes Go.ChangeAt Go.RowKit Mem
open Heap (Write wc ws ws_len vB at_write)
theorem list_b (x y:List Write) (A B:Option Addr) (n m c d:Nat) (w:World) (v:Bool) (hx:Rd w 2 A n (ws x)) (hy:Rd w 2 B m (ws y)) (hn:n≤1000000) (hm:m≤1000000) (hv:decide (x=y)=v):
  Calls Tryz.prog 110 #[.slice A n c,.slice B m d] w (RetB w v):=by
 subst hv
 have HX:=Lh (ws_n hx)
 have HY:=Lh (ws_n hy)
 by_cases hnm:n=m
 ·subst hnm
  go_enter Tryz.func110,Tryz.ntmps110
  go_wp2
  go_loopw [5] (fun i wr=>∃k q:Nat,k≤n∧i=.int .i64 k∧wr=w.drewN q∧Hid (x.take k=y.take k)) (fun i _=>n - (intOf i).toNat)
  case atStart=>exact ⟨0,0,Nat.zero_le _,rfl,rfl,Lh rfl⟩
  case round=>
   obtain ⟨k,q,hk,rfl,rfl,hall⟩:=hrel
   by_cases hlt:k<n
   ·obtain ⟨b,off,⟨cl,vl⟩,rfl,gx,c0,c1⟩:=at_write hx k hlt
    obtain ⟨b',off',⟨cl',vl'⟩,rfl,gy,c0',c1'⟩:=at_write hy k hlt
    have GX:=Lh gx
    have GY:=Lh gy
    clear gx gy
    by_cases heq:cl=cl' ∧vl=vl'
    ·obtain ⟨rfl,rfl⟩:=heq
     have hs:Hid (x.take (k+1)=y.take (k+1)):=Lh (take_eq x y k _ GX.out GY.out hall.out)
     go_wp2
     go_quiet (fail)
     go_wp2
     go_roundw
     case rel=>exact ⟨k+1,_,by omega,by go_num,rfl,hs⟩
     case measure=>simp[intOf];omega
    ·have hf:Hid (decide (x=y)=false):=Lh (take_ne x y k _ _ GX.out GY.out (by intro e;injection e with e0 e1;exact heq ⟨e0,e1⟩))
     by_cases h0:cl=cl'
     ·subst h0
      have h2:¬vl=vl' :=fun e=>heq ⟨rfl,e⟩
      clear heq
      go_wp2
      go_quiet (fail)
      go_wp2
      go_ret
      exact ⟨ret_bool hf.out.symm,by first | exact bl_drewN (bl_drewN (Below.refl _ _) _) _ | exact bl_drewN (Below.refl _ _) _⟩
     ·clear heq
      go_wp2
      go_quiet (fail)
      go_wp2
      go_ret
      exact ⟨ret_bool hf.out.symm,by first | exact bl_drewN (bl_drewN (Below.refl _ _) _) _ | exact bl_drewN (Below.refl _ _) _⟩
   ·have hf:Hid (decide (x=y)=true):=by
     refine Lh (decide_eq_true ?_)
     have:=hall.out
     rwa [List.take_of_length_le (by rw[HX.out];omega),List.take_of_length_le (by rw[HY.out];omega)]at this
    go_wp2
    go_ret
    exact ⟨ret_bool hf.out.symm,bl_drewN (Below.refl _ _) _⟩
 ·have hf:Hid (decide (x=y)=false):=by
   refine Lh (decide_eq_false ?_)
   intro e
   have l1:=HX.out
   have l2:=HY.out
   rw[e]at l1
   exact hnm (by omega)
  go_enter Tryz.func110,Tryz.ntmps110
  go_wp2
  go_ret
  exact ⟨ret_bool hf.out.symm,Below.refl _ _⟩
theorem same_b (x y:Log) (A B C D:Option Addr) (n m c d p q s t:Nat) (w:World) (v:Bool) (hx:LogAt w A n c B m d x) (hy:LogAt w C p s D q t y) (hn:n≤1000000) (hm:m≤1000000) (hp:p≤1000000) (hq:q≤1000000) (hv:decide (x=y)=v):
  Calls Tryz.prog 58 #[.agg #[.slice A n c,.slice B m d],.agg #[.slice C p s,.slice D q t]] w (RetB w v):=by
 have HV:=Lh hv
 have HX:=Lh hx
 have HY:=Lh hy
 have HE:=Lh (log_eq x y)
 have LX:=Lh hx.lm
 have LY:=Lh hy.lm
 clear hv hx hy
 have KX:Hid (∀o,Blk ((w.alloc (.cells #[.slice A n c,.slice B m d] 38)).alloc o) w.heap.size 38 #[.slice A n c,.slice B m d]):=Lh (fun o=>(Blk.new _ _ _).alloc o)
 have KY:Hid (∀o,Blk ((w.alloc o).alloc (.cells #[.slice C p s,.slice D q t] 38)) (w.heap.size+1) 38 #[.slice C p s,.slice D q t]):=Lh (fun o=>by have:=Blk.new (w.alloc o) 38 #[.slice C p s,.slice D q t];simpa using this)
 obtain ⟨bl,hbl⟩:∃b,decide (x.list=y.list)=b:=⟨_,rfl⟩
 have HBL:=Lh hbl
 clear hbl
 go_enter Tryz.func58,Tryz.ntmps58
 go_wp2_with fail
 refine (list_b x.list y.list _ _ _ _ _ _ _ bl ((HX.out.rl.alloc _).alloc _) ((HY.out.rl.alloc _).alloc _) hn hp HBL.out).mono ?_
 rintro e w1 ⟨rfl,b1⟩
 have HB1:=Lh (bl_trans (bl_alloc (bl_alloc (Below.refl w.heap.size w) _) _) b1)
 have KX1:=Lh ((KX.out _).below b1)
 have KY1:=Lh ((KY.out _).below b1)
 have RX:=Lh (((HX.out.rm.alloc _).alloc _).below b1)
 have RY:=Lh (((HY.out.rm.alloc _).alloc _).below b1)
 clear KX KY b1
 have x1:=KX1.out.cell 1 _ rfl
 have y1:=KY1.out.cell 1 _ rfl
 cases bl with
 | false=>
  have HF:Hid (v=false):=Lh (by rw[←HV.out,HE.out,HBL.out];rfl)
  go_wp2
  go_ret
  exact ⟨ret_bool HF.out.symm,HB1.out⟩
 | true =>
  have HV2:Hid (decide (x.marks=y.marks)=v):=Lh (by rw[←HV.out,HE.out,HBL.out];rfl)
  by_cases hmq:m=q
  ·subst hmq
   go_wp2
   go_loopw [6] (fun i wr=>∃k z:Nat,k≤m∧i=.int .i64 k∧wr=w1.drewN z∧Hid (x.marks.take k=y.marks.take k)) (fun i _=>m - (intOf i).toNat)
   case atStart=>exact ⟨0,0,Nat.zero_le _,rfl,rfl,Lh rfl⟩
   case round=>
    obtain ⟨k,z,hk,rfl,rfl,hall⟩:=hrel
    have x1z:∀z,(w1.drewN z).cell? ⟨w.heap.size,1,none⟩=some (.slice B m d):=fun z=>x1
    have y1z:∀z,(w1.drewN z).cell? ⟨w.heap.size+1,1,none⟩=some (.slice D m t):=fun z=>y1
    by_cases hlt:k<m
    ·obtain ⟨b,off,zx,rfl,gx,c0⟩:=at_z RX.out k hlt
     obtain ⟨b',off',zy,rfl,gy,c0'⟩:=at_z RY.out k hlt
     have GX:=Lh gx
     have GY:=Lh gy
     clear gx gy
     by_cases heq:zx=zy
     ·subst heq
      have hs:Hid (x.marks.take (k+1)=y.marks.take (k+1)):=Lh (take_eq _ _ k _ GX.out GY.out hall.out)
      go_wp2
      go_quiet (fail)
      go_wp2
      go_roundw
      case rel=>exact ⟨k+1,_,by omega,by go_num,rfl,hs⟩
      case measure=>simp[intOf];omega
     ·have hf:Hid (v=false):=Lh (by rw[←HV2.out];exact take_ne _ _ k _ _ GX.out GY.out heq)
      go_wp2
      go_quiet (fail)
      go_wp2
      go_ret
      exact ⟨ret_bool hf.out.symm,by first | exact bl_drewN (bl_drewN HB1.out _) _ | exact bl_drewN HB1.out _⟩
    ·have hf:Hid (v=true):=Lh (by
      rw[←HV2.out]
      refine decide_eq_true ?_
      have:=hall.out
      rwa [List.take_of_length_le (by rw[LX.out];omega),List.take_of_length_le (by rw[LY.out];omega)]at this)
     go_wp2
     go_ret
     exact ⟨ret_bool hf.out.symm,bl_drewN HB1.out _⟩
  ·have hf:Hid (v=false):=Lh (by
    rw[←HV2.out]
    refine decide_eq_false ?_
    intro e
    have l1:=LX.out
    have l2:=LY.out
    rw[e]at l1
    exact hmq (by omega))
   go_wp2
   go_ret
   exact ⟨ret_bool hf.out.symm,HB1.out⟩
theorem LogAt.cut {w:World} {A B:Option Addr} {n c m d:Nat} {l:Log} (h:LogAt w A n c B m d l) (j k:Nat) (hj:j≤n) (hk:k≤m):LogAt w A j c B k d ⟨l.list.take j,l.marks.take k⟩:=
 ⟨rd_first wc_len (by decide) h.rl j hj,rd_first zc_len (by decide) h.rm k hk,Nat.le_trans hj h.nc,Nat.le_trans hk h.md⟩
def RetI (w:World) (v:Value) (e:Ending) (w' :World):Prop:=e=.returned v∧Below w.heap.size w w'
theorem ref_c (A B:Option Addr) (n c m d:Nat) (w:World):
  Calls Tryz.prog 59 #[.agg #[.slice A n c,.slice B m d]] w (RetI w (.agg #[.slice A n c,.slice B m d])):=by
 go_enter Tryz.func59,Tryz.ntmps59
 go_wp2
 (try simp only[Exit.inBlock,Exit.then])
 refine bodyPost_ret (v:=.agg #[.slice A n c,.slice B m d]) (by simp[results,Tryz.results59,go_sem]) rfl ?_
 exact ⟨rfl,bl_alloc (bl_alloc (Below.refl _ _) _) _⟩
end Go.Proofs.YtgghaodcfgbjlaaGreat.Writes
