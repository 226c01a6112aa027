/-
 WHAT EACH FUNCTION OF THE LAYER reads RETURNS, AS IT IS WRITTEN: Valid; and all of them together.
-/
import Derived.Test.YtgghaodcfgbjlaaGreatReadsA
import Derived.Test.YtgghaodcfgbjlaaGreatMemA
import Derived.Test.YtgghaodcfgbjlaaGreatStripeA
import Derived.Deep.RegionHeld3
import Derived.Test.YtgghaodcfgbjlaaGreatSort
import Derived.Sort.OwnSortedInts
set_option maxRecDepth 100000
namespace Go.Proofs.YtgghaodcfgbjlaaGreat.Reads
open Go.ChangeShapes Go.WideShapes Go.ChangeAt Go.RowKit Mem
def rv (x:Read):Value:=.agg #[.int .i64 x.cell,.int .i64 x.version,.int .i64 x.value]
def RetR (w:World) (r:Read × Bool) (e:Ending) (w' :World):Prop:=
 e=.returned (.tuple #[.agg #[.int .i64 r.1.cell,.int .i64 r.1.version,.int .i64 r.1.value],.bool r.2])∧Below w.heap.size w w'
theorem tick_any (n:Int) (w:World):Calls Tryz.prog 51 #[.int .i64 n] w fun e w' =>e=.returned (.bool (timeB n))∧w=w' :=by
 by_cases h1:0≤n
 all_goals by_cases h2:n≤2147483647
 all_goals
  go_enter Tryz.func51,Tryz.ntmps51
  go_wp2
  go_ret
  exact ⟨ret_bool (by unfold timeB;simp[h1,h2]),rfl⟩
theorem read_any (cl vr vl:Int) (w:World) (b:Bool) (hb:oneB ⟨cl,vr,vl⟩=b):
  Calls Tryz.prog 173 #[.agg #[.int .i64 cl,.int .i64 vr,.int .i64 vl]] w (RetBG w b):=by
 have HB:=Lh hb
 clear hb
 by_cases h3:0≤cl
 all_goals cases h1:timeB vr
 all_goals cases h2:Heap.vB vl
 all_goals
  have HF:Hid (b=_):=Lh (by have:=HB.out;unfold oneB at this;simp only[h1,h2,h3,decide_true,decide_false]at this;exact this.symm)
  go_enter Tryz.func173,Tryz.ntmps173
  go_wp2_with (first
   | (go_at_call 51;refine (tick_any _ _).mono ?_;rintro e w' ⟨rfl,rfl⟩)
   | (go_at_call 160;refine (Heap.spanright_any _ _).mono ?_;rintro e w' ⟨rfl,rfl⟩))
  go_ret
  exact ⟨ret_bool (by rw[HF.out];first | rfl | (simp;omega)),(Grew.refl w).alloc _⟩
def orNo:Option Read→Read × Bool
 | some x=>(x,true)
 | none=>(⟨0,0,0⟩,false)
theorem findR_yes (l:List Read) (c:Int) (h:rightB l=true):findR l c=orNo (findS l c):=by
 unfold findR;rw[if_pos h];cases findS l c <;> rfl
theorem findR_no (l:List Read) (c:Int) (h:rightB l=false):findR l c=orNo none:=by
 unfold findR;rw[h];rfl
theorem find_c (l:List Read) (A:Option Addr) (n c:Nat) (cl:Int) (w:World) (r:Read × Bool) (hr:Rd w 3 A n (ds l)) (hn:n≤1000000) (hf:orNo (findS l cl)=r):
  Calls Tryz.prog 174 #[.slice A n c,.int .i64 cl] w (RetR w r):=by
 have HL:=Lh (ds_len hr)
 have HR:=Lh hr
 have HF:=Lh hf
 clear hr hf
 go_enter Tryz.func174,Tryz.ntmps174
 go_wp2
 have HB0:Hid (Blk (w.alloc (.cells #[.int .i64 0,.int .i64 0,.int .i64 0] 107)) w.heap.size 107 #[.int .i64 0,.int .i64 0,.int .i64 0]):=Lh (Blk.new _ _ _)
 go_loopw [10] (fun i wr=>∃k:Nat,k≤n∧i=.int .i64 k∧Hid (Below w.heap.size w wr)∧Hid (Blk wr w.heap.size 107 #[.int .i64 0,.int .i64 0,.int .i64 0])∧Hid (hasB (l.take k) cl=false)) (fun i _=>n - (intOf i).toNat)
 case atStart=>exact ⟨0,Nat.zero_le _,rfl,Lh (bl_alloc (Below.refl _ _) _),HB0,Lh rfl⟩
 case round=>
  clear HB0
  obtain ⟨k,hk,rfl,HB,HK,hno⟩:=hrel
  have hfz:∀o i,(wr.alloc o).frozen? ⟨w.heap.size,i,none⟩=false:=fun o i=>(HK.out.alloc o).frozen i
  have hc0:∀o,(wr.alloc o).cell? ⟨w.heap.size,0,none⟩=some (.int .i64 0):=fun o=>(HK.out.alloc o).cell 0 _ rfl
  have hc1:∀o,(wr.alloc o).cell? ⟨w.heap.size,1,none⟩=some (.int .i64 0):=fun o=>(HK.out.alloc o).cell 1 _ rfl
  have hc2:∀o,(wr.alloc o).cell? ⟨w.heap.size,2,none⟩=some (.int .i64 0):=fun o=>(HK.out.alloc o).cell 2 _ rfl
  by_cases hlt:k<n
  ·obtain ⟨b,off,⟨cl2,vr,vl⟩,rfl,hx,c0,c1,c2⟩:=at_read (HR.out.below HB.out) k hlt
   have hs:=Lh (has_take l k _ cl hx)
   have HX:=Lh hx
   clear hx
   by_cases heq:cl2=cl
   ·subst heq
    have HFD:Hid (r=(⟨cl2,vr,vl⟩,true)):=Lh (by rw[←HF.out,find_at l k _ cl2 HX.out rfl hno.out];rfl)
    go_wp2
    have hk:=(((HK.out.alloc (.cells #[.int .i64 cl2,.int .i64 vr,.int .i64 vl] 107)).set_ 0 (.int .i64 cl2)).set_ 1 (.int .i64 vr)).set_ 2 (.int .i64 vl)
    have q0:=hk.cell 0 _ rfl
    have q1:=hk.cell 1 _ rfl
    have q2:=hk.cell 2 _ rfl
    have bb:=bl_set (bl_set (bl_set (bl_alloc HB.out (.cells #[.int .i64 cl2,.int .i64 vr,.int .i64 vl] 107)) (p:=⟨w.heap.size,0,none⟩) (Nat.le_refl _) (.int .i64 cl2)) (p:=⟨w.heap.size,1,none⟩) (Nat.le_refl _) (.int .i64 vr)) (p:=⟨w.heap.size,2,none⟩) (Nat.le_refl _) (.int .i64 vl)
    clear hk
    (try simp only[Exit.inBlock,Exit.then])
    refine bodyPost_ret (v:=.tuple #[.agg #[.int .i64 cl2,.int .i64 vr,.int .i64 vl],.bool true]) (by simp[results,Tryz.results174,go_sem,q0,q1,q2]) rfl ⟨by rw[HFD.out],bb⟩
   ·have t1:(cl2==cl)=false:=beq_eq_false_iff_ne.2 heq
    clear heq
    go_wp2
    go_roundw
    case rel=>exact ⟨k+1,by omega,by go_num,Lh (bl_alloc HB.out _),Lh (HK.out.alloc _),Lh (by rw[hs.out,hno.out,t1];rfl)⟩
    case measure=>simp[intOf];omega
  ·have HFD:Hid (r=(⟨0,0,0⟩,false)):=Lh (by rw[←HF.out,find_none l cl (by
     have:=hno.out
     rwa [List.take_of_length_le (by rw[HL.out];omega)]at this)];rfl)
   have hfz' :∀i,wr.frozen? ⟨w.heap.size,i,none⟩=false:=fun i=>HK.out.frozen i
   have hd0:=HK.out.cell 0 _ rfl
   have hd1:=HK.out.cell 1 _ rfl
   have hd2:=HK.out.cell 2 _ rfl
   go_wp2
   have hk:=((HK.out.set_ 0 (.int .i64 0)).set_ 1 (.int .i64 0)).set_ 2 (.int .i64 0)
   have q0:=hk.cell 0 _ rfl
   have q1:=hk.cell 1 _ rfl
   have q2:=hk.cell 2 _ rfl
   have bb:=bl_set (bl_set (bl_set HB.out (p:=⟨w.heap.size,0,none⟩) (Nat.le_refl _) (.int .i64 0)) (p:=⟨w.heap.size,1,none⟩) (Nat.le_refl _) (.int .i64 0)) (p:=⟨w.heap.size,2,none⟩) (Nat.le_refl _) (.int .i64 0)
   clear hk
   (try simp only[Exit.inBlock,Exit.then])
   refine bodyPost_ret (v:=.tuple #[.agg #[.int .i64 0,.int .i64 0,.int .i64 0],.bool false]) (by simp[results,Tryz.results174,go_sem,q0,q1,q2]) rfl ⟨by rw[HFD.out],bb⟩
set_option maxHeartbeats 4000000 in
theorem right_c (l : List Read) (A:Option Addr) (n c:Nat) (w:World) (b:Bool) (hr:Rd w 3 A n (ds l)) (hnc:n≤c) (hn:n≤1000000) (hb:rightB l=b):
    Calls Tryz.prog 132 #[.slice A n c] w (RetB w b):=by
  subst hb
  have HL:=Lh (ds_len hr)
  have HR:=Lh hr
  clear hr
  by_cases hlen:24<n
  · have HF:Hid (rightB l=false):=Lh (by
      unfold rightB;rw[HL.out,Bool.and_eq_false_iff];left;simp;omega)
    go_enter Tryz.func132,Tryz.ntmps132
    go_wp2
    go_ret
    exact ⟨ret_bool HF.out.symm,Below.refl _ _⟩
  · go_enter Tryz.func132, Tryz.ntmps132
    go_wp2
    go_loopw [12] (fun i wr=>∃k:Nat,k≤n∧i=.int .i64 k∧Hid (Below w.heap.size w wr)∧Hid (goodB (l.take k)=true)) (fun i _=>n - (intOf i).toNat)
    case atStart=>exact ⟨0,Nat.zero_le _,rfl,Lh (Below.refl _ _),Lh rfl⟩
    case round =>
      obtain ⟨k,hk,rfl,HB,hall⟩:=hrel
      by_cases hlt:k<n
      · have hkc : k ≤ c := by omega
        obtain ⟨b,off,⟨cl,vr,vl⟩,rfl,hx,c0,c1,c2⟩:=at_read (HR.out.below HB.out) k hlt
        have hs:=Lh (good_take l k _ hx)
        clear hx
        have HK0:Hid (Blk (wr.alloc (.cells #[.int .i64 cl,.int .i64 vr,.int .i64 vl] 107)) wr.heap.size 107 #[.int .i64 cl,.int .i64 vr,.int .i64 vl]):=Lh (Blk.new _ _ _)
        cases ho:oneB ⟨cl,vr,vl⟩ with
        | false=>
          have HO:=Lh ho
          clear ho HK0
          have HF:Hid (rightB l=false):=Lh (right_bad l (k+1) (by rw[hs.out,HO.out];simp))
          go_wp2_with fail
          refine (read_any _ _ _ _ false HO.out).mono ?_
          rintro e w1 ⟨rfl,g1⟩
          have HB1:=Lh (bl_trans (bl_alloc HB.out _) g1.below)
          clear g1 c0 c1 c2
          go_wp2_with fail
          go_ret
          exact ⟨ret_bool HF.out.symm,HB1.out⟩
        | true =>
          have HO:=Lh ho
          clear ho
          go_wp2_with fail
          refine (read_any _ _ _ _ true HO.out).mono ?_
          rintro e w1 ⟨rfl,g1⟩
          have HB1:=Lh (bl_trans (bl_alloc HB.out _) g1.below)
          have q0:=(HK0.out.below g1.below).cell 0 _ rfl
          have HBS:=Lh HB1.out.size
          clear g1 c0 c1 c2 HK0
          obtain ⟨⟨⟨cx,vx,lx⟩,bt⟩,hx⟩:∃y,orNo (findS (l.take k) cl)=y:=⟨_,rfl⟩
          have HBT:Hid (hasB (l.take k) cl=bt):=Lh (by
            have h1:=find_has (l.take k) cl
            cases h2:findS (l.take k) cl with
            | none=>rw[h2]at hx h1;injection hx with _ h3;rw[←h1,←h3];rfl
            | some x=>rw[h2]at hx h1;injection hx with _ h3;rw[←h1,←h3];rfl)
          have HX:=Lh hx
          clear hx
          go_wp2_with fail
          have ne1:=World.new_ne w1 _ q0
          have hq:∀o,(w1.drew.alloc o).cell? ⟨wr.heap.size,0,none⟩=some (.int .i64 cl):=fun o=>(Below.cell (bl_alloc (Below.refl _ w1.drew) o) (cell_lt q0)).trans q0
          go_region_held3 (fun w' =>w'.cell? ⟨wr.heap.size,0,none⟩=some (.int .i64 cl)) (first | exact qk | exact hq _ | go_keep)
            (first | (go_at_call 174;refine (find_c (l.take k) _ _ _ _ _ _ (by first | exact (rd_take (HR.out.below HB1.out) k hk).drew | exact (rd_take (HR.out.below HB1.out) k hk).drew.alloc _) (by omega) HX.out).mono ?_;rintro e w2 ⟨rfl,b2⟩
                      have qk:w2.cell? ⟨wr.heap.size,0,none⟩=some (.int .i64 cl):=by first | exact (b2.cell (cell_lt q0)).trans q0 | exact (b2.cell (cell_lt (hq _))).trans (hq _)
                      have ne2:=World.new_ne w2 _ qk
                      have HB2:Hid (Below w.heap.size w w2):=Lh (by first | exact bl_trans HB1.out.drew b2 | exact bl_trans (bl_alloc HB1.out.drew _) b2)
                      try (have hk9:Blk w2 w1.heap.size 107 #[.int .i64 0,.int .i64 0,.int .i64 0]:=(Blk.new w1.drew _ _).below b2
                           have f9:=hk9.frozen
                           have z0:=hk9.cell 0 _ rfl
                           have z1:=hk9.cell 1 _ rfl
                           have z2:=hk9.cell 2 _ rfl
                           clear hk9)
                      clear b2))
          all_goals
            cases bt with
            | true=>
              have HF:Hid (rightB l=false):=Lh (right_bad l (k+1) (by rw[hs.out,HBT.out];simp))
              go_wp2
              go_ret
              exact ⟨ret_bool HF.out.symm,by first | exact bl_alloc HB2.out _ | exact bl_set (bl_set (bl_set HB2.out HBS.out _) HBS.out _) HBS.out _⟩
            | false=>
              go_wp2
              go_roundw
              case rel=>exact ⟨k+1,by omega,by go_num,Lh (by first | exact bl_alloc HB2.out _ | exact bl_set (bl_set (bl_set HB2.out HBS.out _) HBS.out _) HBS.out _),Lh (by rw[hs.out,hall.out,HO.out,HBT.out];rfl)⟩
              case measure=>simp[intOf];omega
      · have HF:Hid (rightB l=true):=Lh (by
          have:=hall.out
          rw[List.take_of_length_le (by rw[HL.out];omega)]at this
          unfold rightB;rw[this,HL.out];simp;omega)
        go_wp2
        go_ret
        exact ⟨ret_bool HF.out.symm,HB.out⟩
theorem findR_c (l:List Read) (A:Option Addr) (n c:Nat) (cl:Int) (w:World) (r:Read × Bool) (hr:Rd w 3 A n (ds l)) (hnc:n≤c) (hn:n≤1000000) (hf:findR l cl=r):
  Calls Tryz.prog 207 #[.slice A n c,.int .i64 cl] w (RetR w r):=by
 have HR:=Lh hr
 have HF:=Lh hf
 clear hr hf
 have HB0:Hid (Blk (w.alloc (.cells #[.int .i64 0,.int .i64 0,.int .i64 0] 107)) w.heap.size 107 #[.int .i64 0,.int .i64 0,.int .i64 0]):=Lh (Blk.new _ _ _)
 cases h1:rightB l
 ·have H1:=Lh h1
  have HFD:Hid (r=(⟨0,0,0⟩,false)):=Lh (by rw[←HF.out,findR_no _ _ h1];rfl)
  clear h1
  go_enter Tryz.func207,Tryz.ntmps207
  go_wp2_with fail
  refine (right_c l _ _ _ _ false (HR.out.alloc _) hnc hn H1.out).mono ?_
  rintro e w1 ⟨rfl,b1⟩
  have HK:=Lh (HB0.out.below b1)
  have HB:=Lh (bl_trans (bl_alloc (Below.refl w.heap.size w) _) b1)
  clear b1
  have hfz:=HK.out.frozen
  have hd0:=HK.out.cell 0 _ rfl
  have hd1:=HK.out.cell 1 _ rfl
  have hd2:=HK.out.cell 2 _ rfl
  go_wp2
  have hk:=((HK.out.set_ 0 (.int .i64 0)).set_ 1 (.int .i64 0)).set_ 2 (.int .i64 0)
  have q0:=hk.cell 0 _ rfl
  have q1:=hk.cell 1 _ rfl
  have q2:=hk.cell 2 _ rfl
  have bb:=bl_set (bl_set (bl_set HB.out (p:=⟨w.heap.size,0,none⟩) (Nat.le_refl _) (.int .i64 0)) (p:=⟨w.heap.size,1,none⟩) (Nat.le_refl _) (.int .i64 0)) (p:=⟨w.heap.size,2,none⟩) (Nat.le_refl _) (.int .i64 0)
  clear hk
  (try simp only[Exit.inBlock,Exit.then])
  refine bodyPost_ret (v:=.tuple #[.agg #[.int .i64 0,.int .i64 0,.int .i64 0],.bool false]) (by simp[results,Tryz.results207,go_sem,q0,q1,q2]) rfl ⟨by rw[HFD.out],bb⟩
 ·have H1:=Lh h1
  have HFD:Hid (orNo (findS l cl)=r):=Lh (by rw[←HF.out,findR_yes _ _ h1])
  clear h1
  obtain ⟨⟨cx,vx,lx⟩,bt⟩:=r
  go_enter Tryz.func207,Tryz.ntmps207
  go_wp2_with fail
  refine (right_c l _ _ _ _ true (HR.out.alloc _) hnc hn H1.out).mono ?_
  rintro e w1 ⟨rfl,b1⟩
  have HK1:=Lh (HB0.out.below b1)
  have HB1:=Lh (bl_trans (bl_alloc (Below.refl w.heap.size w) _) b1)
  clear b1
  go_wp2_with fail
  refine (find_c l _ _ _ _ _ _ (HR.out.below HB1.out) hn HFD.out).mono ?_
  rintro e w2 ⟨rfl,b2⟩
  have HK:=Lh (HK1.out.below b2)
  have HB:=Lh (bl_trans HB1.out b2)
  clear b2
  have hfz:=HK.out.frozen
  have hd0:=HK.out.cell 0 _ rfl
  have hd1:=HK.out.cell 1 _ rfl
  have hd2:=HK.out.cell 2 _ rfl
  go_wp2
  have hk:=((HK.out.set_ 0 (.int .i64 cx)).set_ 1 (.int .i64 vx)).set_ 2 (.int .i64 lx)
  have q0:=hk.cell 0 _ rfl
  have q1:=hk.cell 1 _ rfl
  have q2:=hk.cell 2 _ rfl
  have bb:=bl_set (bl_set (bl_set HB.out (p:=⟨w.heap.size,0,none⟩) (Nat.le_refl _) (.int .i64 cx)) (p:=⟨w.heap.size,1,none⟩) (Nat.le_refl _) (.int .i64 vx)) (p:=⟨w.heap.size,2,none⟩) (Nat.le_refl _) (.int .i64 lx)
  clear hk
  (try simp only[Exit.inBlock,Exit.then])
  refine bodyPost_ret (v:=.tuple #[.agg #[.int .i64 cx,.int .i64 vx,.int .i64 lx],.bool bt]) (by simp[results,Tryz.results207,go_sem,q0,q1,q2]) rfl ⟨rfl,bb⟩
theorem clone_any (l:List Read) (A:Option Addr) (n c:Nat) (w:World) (hr:Rd w 3 A n (ds l)) (hn:n≤1000000):
  Calls Tryz.prog 111 #[.slice A n c] w (RetO w 107 3 n (ds l)):=by
 have hnil:=fun W=>Lib.run_eql_slice_nil (P:=Tryz.prog) W 28 107 A n c 0 0 Tryz.underlying28
 rcases A with _ | ad
 ·obtain ⟨rfl,hx⟩:=rd_nil hr
  have HX:=Lh hx
  clear hr hx
  go_enter Tryz.func111,Tryz.ntmps111
  go_wp2
  go_ret
  exact ⟨_,rfl,by rw[HX.out];exact Own.nil_ (Below.refl _ _)⟩
 ·have HR:=Lh hr
  clear hr
  go_enter Tryz.func111,Tryz.ntmps111
  go_wp2_with (at_builtin;refine append_rd rfl _ _ 28 rfl tRead w _ 0 [] rfl (Own.empty w _ _) _ n c (ds l) rfl (HR.out.alloc _) (ds_one l) (by omega) (by omega) ?_;intro v' w' hown' hg;have HO:=Lh hown';clear hown' hg)
  go_ret
  exact ⟨v',rfl,by have:=HO.out;simpa using this⟩
theorem own_room {w0 w:World} {e size n:Nat} {v:Value} {xs:List Value} (h:Own w0 w e size v n xs):∃B d,v=.slice B n d∧n≤d∧Rd w size B n xs:=by
 obtain ⟨B,d,hv,hr⟩:=h.form
 refine ⟨B,d,hv,?_,hr⟩
 rcases h.1.2 with ⟨h1,h2⟩ | ⟨g,cap,cur,h1,_,_,h2,_⟩
 ·omega
 ·rw[hv]at h1;injection h1 with _ _ h3;omega
theorem zs_map (l:List Int):zs l=l.map (Value.int .i64):=by
 induction l with
 | nil=>rfl
 | cons x l ih=>unfold zs at *;rw[List.flatMap_cons,ih];rfl
theorem sort_own (w0 w:World) (v:Value) (n:Nat) (l:List Int) (ho:Own w0 w 3 1 v n (zs l)) (hn:n≤1000000):
  Calls Tryz.prog 94 #[v] w fun e w' =>e=.returned (.tuple #[])∧Own w0 w' 3 1 v n (zs (sortZ l)):=by
 have hl:l.length=n:=by have:=ho.1.1;rw[zs_map,List.length_map]at this;omega
 rcases ho.1.2 with ⟨rfl,rfl⟩ | ⟨g,cap,cur,rfl,hbase,hb,hnc,hcap,hsz,htk⟩
 ·obtain rfl:l= []:=List.eq_nil_of_length_eq_zero hl
  refine (Srt.slices_Sort_int_none _ _ w).mono ?_
  rintro e w' ⟨rfl,rfl⟩
  exact ⟨rfl,by rw[sort_of [] [] (List.Perm.refl _) List.Pairwise.nil];exact ho⟩
 ·subst hl
  rw[zs_map,Nat.mul_one]at htk
  have hg:g<w.heap.size:=(Array.getElem?_eq_some_iff.1 hb).1
  refine (Srt.slices_Sort_int g 0 cap l w (holds_of_blockI hb htk) hg (by omega)).mono ?_
  rintro e w' ⟨rfl,q,os,rfl⟩
  refine ⟨rfl,?_,?_⟩
  ·rw [zs_map]
   exact ownsRow_sortedI (ts:=sortZ l) (sort_len l) hbase hb hnc hcap (by rw[hsz])
  ·exact ho.grown (grownBy_sortedI (w:=w) (g:=g) (n:=q) (os:=os) _)
theorem who_c (n:Int) (w:World):
  Calls Tryz.prog 215 #[.int .i64 n] w fun e w' =>e=.returned (.bool (Stripe.whoB n))∧w=w' :=by
 by_cases h1:1≤n
 all_goals by_cases h2:n≤8
 all_goals
  go_enter Tryz.func215,Tryz.ntmps215
  go_wp2
  go_ret
  exact ⟨ret_bool (by unfold Stripe.whoB;first | (simp;omega) | (symm;simp;omega) | (rw[Bool.eq_iff_iff];simp;omega)),rfl⟩
theorem isas_any (rv ro cl vr vl who:Int) (w:World) (b:Bool) (hb:(rv==vr && (ro==0 || ro==who))=b):
  Calls Tryz.prog 216 #[.agg #[.int .i64 rv,.int .i64 ro],.agg #[.int .i64 cl,.int .i64 vr,.int .i64 vl],.int .i64 who] w (RetBG w b):=by
 have HB:=Lh hb
 clear hb
 cases h1:(rv==vr)
 all_goals cases h2:(ro==0)
 all_goals cases h3:(ro==who)
 all_goals
  rw[h1,h2,h3]at HB
  go_enter Tryz.func216,Tryz.ntmps216
  go_wp2
  go_ret
  exact ⟨ret_bool (by rw[←HB.out];rfl),((Grew.refl w).alloc _).alloc _⟩
theorem of_one (t:List Stripe.Rec) (n:Nat) (hl:t.length=n) (hr:Stripe.rightB t=true) (c:Int) (hc:0≤c) (j:Nat) (hj:c % (n:Int)=(j:Int)) (hjn:j<n):Stripe.ofS t [c]= [(j:Int)]:=by
 unfold Stripe.ofS
 rw[if_pos (by rw[hr];unfold Stripe.cellsB;simpa using hc),hl]
 have hp:∀k,Stripe.hit n [c] k=decide (j=k):=fun k=>by
  unfold Stripe.hit
  simp only[List.any_cons,List.any_nil,Bool.or_false,hj]
  rw[Bool.eq_iff_iff];simp;omega
 rw[pick_congr _ (fun k=>decide (j=k)) n (fun k _=>hp k)]
 unfold pick
 have :(List.range n).filter (fun k=>decide (j=k))= [j]:=by
  have h2:∀m,(List.range m).filter (fun k=>decide (j=k))=if j<m then [j] else []:=by
   intro m
   induction m with
   | zero=>rfl
   | succ m ih=>
    rw[List.range_succ,List.filter_append,ih]
    by_cases h1:j<m
    ·have :¬j=m:=by omega
     rw[if_pos h1,if_pos (by omega)];simp[this]
    ·by_cases h3:j=m
     ·subst h3;simp
     ·rw[if_neg h1,if_neg (by omega)];simp[h3]
  rw[h2,if_pos hjn]
 rw[this];rfl
set_option maxHeartbeats 4000000 in
theorem valid_c (l:List Read) (t:List Stripe.Rec) (A D:Option Addr) (n c m d:Nat) (who:Int) (w:World) (v:Int) (hr:Rd w 3 A n (ds l)) (hnc:n≤c) (ht:Rd w 2 D m (Stripe.rs t)) (hn:n≤1000000) (hm:m≤1000000)
  (hv:validS l t who=v):Calls Tryz.prog 181 #[.slice A n c,.slice D m d,.int .i64 who] w (RetI w v):=by
 have HV:=Lh hv
 have HL:=Lh (ds_len hr)
 have HM:=Lh (Stripe.rs_len ht)
 have HR:=Lh hr
 have HT:=Lh ht
 clear hr ht hv
 cases h1:rightB l
 ·have H1:=Lh h1
  have HF:Hid (v=1):=Lh (by rw[←HV.out];unfold validS;rw[h1];rfl)
  clear h1
  go_enter Tryz.func181,Tryz.ntmps181
  go_wp2_with fail
  refine (right_c l _ _ _ _ false HR.out hnc hn H1.out).mono ?_
  rintro e w1 ⟨rfl,b1⟩
  go_wp2
  go_ret
  exact ⟨ret_int HF.out.symm,b1⟩
 ·have H1 :=Lh h1
  clear h1
  go_enter Tryz.func181,Tryz.ntmps181
  go_wp2_with fail
  refine (right_c l _ _ _ _ true HR.out hnc hn H1.out).mono ?_
  rintro e w1 ⟨rfl,b1⟩
  have HB1:=Lh b1
  clear b1
  cases h2:Stripe.rightB t
  ·have H2:=Lh h2
   have HF:Hid (v=1):=Lh (by rw[←HV.out];unfold validS;rw[h2];simp)
   clear h2
   go_wp2_with fail
   refine (Stripe.right_c t _ _ _ _ false (HT.out.below HB1.out) hm H2.out).mono ?_
   rintro e w2 ⟨rfl,b2⟩
   go_wp2
   go_ret
   exact ⟨ret_int HF.out.symm,bl_trans HB1.out b2⟩
  ·have H2 :=Lh h2
   have hm0:0<m:=by rw[←HM.out];exact rec_len t h2
   obtain ⟨db,dof,rfl,-⟩:=HT.out.2 hm0
   clear h2
   go_wp2_with fail
   refine (Stripe.right_c t _ _ _ _ true (HT.out.below HB1.out) hm H2.out).mono ?_
   rintro e w2 ⟨rfl,b2⟩
   have HB2:=Lh (bl_trans HB1.out b2)
   clear b2
   cases h3:Stripe.whoB who
   ·have H3:=Lh h3
    have HF:Hid (v=1):=Lh (by rw[←HV.out];unfold validS;rw[h3];simp)
    clear h3
    go_wp2_with fail
    refine (who_c _ _).mono ?_
    rw[H3.out]
    rintro e w' ⟨rfl,rfl⟩
    go_wp2
    go_ret
    exact ⟨ret_int HF.out.symm,HB2.out⟩
   ·have H3:=Lh h3
    have HOK:Hid ((rightB l && (Stripe.rightB t && Stripe.whoB who))=true):=Lh (by rw[H1.out,H2.out,h3];rfl)
    clear h3
    go_wp2_with fail
    refine (who_c _ _).mono ?_
    rw[H3.out]
    rintro e w' ⟨rfl,rfl⟩
    go_wp2
    go_loopw [26] (fun i wr=>∃k:Nat,k≤n∧i=.int .i64 k∧Hid (Below w.heap.size w wr)∧Hid ((l.take k).all (asB t who)=true)) (fun i _=>n - (intOf i).toNat)
    case atStart=>exact ⟨0,Nat.zero_le _,rfl,HB2,Lh rfl⟩
    case round=>
     obtain ⟨k,hk,rfl,HB,hall⟩:=hrel
     generalize wr=w3 at *
     by_cases hlt:k<n
     ·obtain ⟨b,off,⟨cl,vr,vl⟩,rfl,hx,c0,c1,c2⟩:=at_read (HR.out.below HB.out) k hlt
      have hc0:0≤cl:=one_cell _ (right_one l H1.out _ (List.mem_of_getElem? hx))
      obtain ⟨j,⟨rv,ro⟩,hj,hjm,hy⟩:=place_of t m HM.out hm0 cl
      have HOF:=Lh (of_one t m HM.out H2.out cl hc0 j hj hjm)
      have hs:=Lh (take_all l (asB t who) k _ hx)
      have ha:=Lh (as_at t m HM.out who ⟨cl,vr,vl⟩ j _ hj hy)
      have HX:=Lh hx
      have HY:=Lh hy
      have HC:Hid (asB t who ⟨cl,vr,vl⟩=false→v=8):=Lh (fun e1=>by
       rw[←HV.out];unfold validS;rw[if_pos HOK.out,all_bad l (asB t who) k _ HX.out e1];rfl)
      have HK0:Hid (∀o,Blk ((w3.alloc (.cells #[.int .i64 cl,.int .i64 vr,.int .i64 vl] 107)).alloc o) w3.heap.size 107 #[.int .i64 cl,.int .i64 vr,.int .i64 vl]):=Lh (fun o=>(Blk.new _ _ _).alloc o)
      clear hx hy hj
      go_wp2_with fail
      refine (Stripe.of_c t [cl] _ _ _ _ _ _ _ [(j:Int)] 1 (((HT.out.below HB.out).alloc _).alloc _) (Rd.builtAt _ 1 1 (zs [cl]) _ rfl (by simp)) hm (by decide) HOF.out rfl).mono ?_
      rintro e w4 ⟨B4,d4,rfl,s4,b4⟩
      have HB4:=Lh (bl_trans (bl_alloc (bl_alloc HB.out _) _) b4)
      have HK4:=Lh ((HK0.out _).below b4)
      have HS4:=Lh s4
      clear b4 HK0 c0 c1 c2 s4
      go_wp2
      go_loopw [36] (fun i wq=>∃z:Nat,z≤1∧i=.int .i64 z∧Hid (Below w4.heap.size w4 wq)∧Hid (z=1→asB t who ⟨cl,vr,vl⟩=true)) (fun i _=>1 - (intOf i).toNat)
      case atStart=>exact ⟨0,by omega,rfl,Lh (Below.refl _ _),Lh (fun h=>by omega)⟩
      case round=>
       obtain ⟨z,hz,rfl,HBq,hyes⟩:=hrel
       by_cases hz1:z<1
       ·obtain rfl:z=0:=by omega
        obtain ⟨b4,off4,x4,rfl,hx4,d4c⟩:=at_z (HS4.out.below HBq.out) 0 (by omega)
        obtain rfl:x4=(j:Int):=by simpa using hx4.symm
        clear hx4
        rw[Nat.add_zero]at d4c
        obtain ⟨d0,d1⟩:=cells_rec (HT.out.below (bl_trans HB4.out HBq.out)) HY.out
        have q0:=(HK4.out.below HBq.out).cell 0 _ rfl
        have q1:=(HK4.out.below HBq.out).cell 1 _ rfl
        have q2:=(HK4.out.below HBq.out).cell 2 _ rfl
        cases hb:(rv==vr && (ro==0 || ro==who)) with
        | true=>
         have HBB:=Lh hb
         clear hb
         go_wp2_with fail
         go_still_tail 6,(by kernel_rfl)
         go_wp2_with fail
         refine (isas_any _ _ _ _ _ _ _ true HBB.out).mono ?_
         rintro e w5 ⟨rfl,g5⟩
         have HB5:=Lh (bl_trans HBq.out.drew g5.below)
         clear g5
         go_wp2
         go_roundw
         case rel=>exact ⟨1,by omega,by go_num,HB5,Lh (fun _=>by rw[ha.out];exact HBB.out)⟩
         case measure=>simp[intOf]
        | false=>
         have HBB:=Lh hb
         have HF:Hid (v=8):=Lh (HC.out (by rw[ha.out];exact hb))
         clear hb
         go_wp2_with fail
         go_still_tail 6,(by kernel_rfl)
         go_wp2_with fail
         refine (isas_any _ _ _ _ _ _ _ false HBB.out).mono ?_
         rintro e w5 ⟨rfl,g5⟩
         have HB5:=Lh (bl_trans HBq.out.drew g5.below)
         clear g5
         go_wp2
         go_ret
         exact ⟨ret_int HF.out.symm,bl_trans HB4.out HB5.out⟩
       ·obtain rfl:z=1:=by omega
        have HN:Hid (asB t who ⟨cl,vr,vl⟩=true):=Lh (hyes.out rfl)
        go_wp2
        go_roundw
        case rel=>exact ⟨k+1,by omega,by go_num,Lh (bl_trans HB4.out HBq.out),Lh (by rw[hs.out,hall.out,HN.out];rfl)⟩
        case measure=>simp[intOf];omega
     ·have HF:Hid (v=0):=Lh (by
       have:=hall.out
       rw[List.take_of_length_le (by rw[HL.out];omega)]at this
       rw[←HV.out];unfold validS;rw[if_pos HOK.out,if_pos this])
      go_wp2
      go_ret
      exact ⟨ret_int HF.out.symm,HB.out⟩
end Go.Proofs.YtgghaodcfgbjlaaGreat.Reads
