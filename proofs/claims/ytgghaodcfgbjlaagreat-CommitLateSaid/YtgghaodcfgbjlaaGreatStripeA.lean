/-
 WHAT EACH FUNCTION OF THE LAYER stripe RETURNS, AS IT IS WRITTEN: Lock, Let, Stamp; and all of them: the laws' premise 'Said' holds.
-/
import Derived.Test.YtgghaodcfgbjlaaGreatMemA
import Derived.Test.YtgghaodcfgbjlaaGreatRows
import Derived.LoopTactic
import Derived.Deep.QuietTactic
import Derived.BigQuiet
import Derived.RegionTactic
import Derived.Laws.StructEq
set_option maxRecDepth 100000
namespace Go.Proofs.YtgghaodcfgbjlaaGreat.Stripe
open Mem
structure Rec where
 version:Int
 owner:Int
 deriving DecidableEq,Inhabited
def rc (r:Rec):List Value:= [.int .i64 r.version,.int .i64 r.owner]
def rs (t:List Rec):List Value:=t.flatMap rc
theorem rc_len (r:Rec):(rc r).length=2:=rfl
theorem rc_one (r:Rec):∀u∈rc r,u.oneCell' =true:=one_cons rfl (one_cons rfl one_nil)
theorem at_rec {w:World} {A:Option Addr} {n:Nat} {t:List Rec} (hr:Rd w 2 A n (rs t)) (k:Nat) (hk:k<n):
  ∃b off,∃x:Rec,A=some ⟨b,off,none⟩∧t[k]?=some x∧w.cell? ⟨b,off+k * 2,none⟩=some (.int .i64 x.version)∧w.cell? ⟨b,off+k * 2+1,none⟩=some (.int .i64 x.owner):=
 at_2 Rec.version Rec.owner (fun _=>rfl) hr k hk
theorem rs_len {w:World} {A:Option Addr} {n:Nat} {t:List Rec} (hr:Rd w 2 A n (rs t)):t.length=n:=Rd.len rc_len hr (by decide)
def recB (r:Rec):Bool:=decide (0≤r.version∧r.version≤2147483647∧0≤r.owner∧r.owner≤8)
def rightB (t:List Rec):Bool:=decide (0<t.length∧t.length<17) && t.all recB
def whoB (n:Int):Bool:=decide (0<n∧n<9)
def cellsB (l:List Int):Bool:=l.all (fun c=>decide (0≤c))
def hit (n:Nat) (l:List Int) (k:Nat):Bool:=l.any (fun c=>decide (c % (n:Int)=(k:Int)))
def ofS (t:List Rec) (l:List Int):List Int:=if (rightB t && cellsB l)=true then pick (hit t.length l) t.length else []
def holds (t:List Rec) (who:Int) (k:Nat):Bool:=match t[k]? with | some r=>r.owner==who | none=>false
def heldS (t:List Rec) (who:Int):List Int:=if (rightB t && whoB who)=true then pick (holds t who) t.length else []
def lock1 (n:Nat) (who:Int) (l:List Int) (k:Nat) (r:Rec):Rec:=if hit n l k=true then ⟨r.version,who⟩ else r
def lockAll (t:List Rec) (who:Int) (l:List Int):List Rec:=t.mapIdx (lock1 t.length who l)
def may1 (n:Nat) (who:Int) (l:List Int) (k:Nat) (r:Rec):Bool:= !(hit n l k) || decide (r.owner≤0) || r.owner==who
def mayAll (t:List Rec) (who:Int) (l:List Int):Bool:=(t.mapIdx (may1 t.length who l)).all id
def lockS (t:List Rec) (who:Int) (l:List Int):List Rec × Int:=
 if (rightB t && whoB who && cellsB l)=true then (if mayAll t who l=true then (lockAll t who l,0) else (t,7)) else (t,1)
def let1 (who:Int) (r:Rec):Rec:=if r.owner=who then ⟨r.version,0⟩ else r
def letS (t:List Rec) (who:Int):List Rec:=if (rightB t && whoB who)=true then t.map (let1 who) else t
def stamp1 (who v:Int) (r:Rec):Rec:=if r.owner=who then ⟨v,0⟩ else r
def below1 (who v:Int) (r:Rec):Bool:=r.owner !=who || decide (r.version<v)
def stampS (t:List Rec) (who v:Int):List Rec × Int:=
 if (rightB t && whoB who)=true then (if 0≤v∧v≤2147483647 then (if t.all (below1 who v)=true then (t.map (stamp1 who v),0) else (t,6)) else (t,6)) else (t,1)
theorem of_len (t:List Rec) (l:List Int):(ofS t l).length≤t.length:=by
 unfold ofS;split
 ·exact pick_len _ _
 ·simp
theorem held_len' (t:List Rec) (who:Int):(heldS t who).length≤t.length:=by
 unfold heldS;split
 ·exact pick_len _ _
 ·simp
end Go.Proofs.YtgghaodcfgbjlaaGreat.Stripe
namespace Go.Proofs.YtgghaodcfgbjlaaGreat.Stripe
open Go.ChangeShapes Go.WideShapes Go.ChangeAt Go.RowKit Mem
theorem tRec:SliceT Tryz.prog 49 92 2 16:=SliceT.mk_ (z:=.agg #[.int .i64 0,.int .i64 0]) Tryz.underlying49 (by kernel_rfl) rfl (by decide)
theorem tInt:SliceT Tryz.prog 27 3 1 8:=SliceT.mk_ (z:=.int .i64 0) Tryz.underlying27 (by kernel_rfl) rfl (by decide)
theorem who_any (n:Int) (w:World):
  Calls Tryz.prog 53 #[.int .i64 n] w fun e w' =>e=.returned (.bool (whoB n))∧w=w' :=by
 by_cases h1:0<n
 all_goals by_cases h2:n<9
 all_goals
  go_enter Tryz.func53,Tryz.ntmps53
  go_wp2
  go_ret
  exact ⟨ret_bool (by unfold whoB;simp[h1,h2]),rfl⟩
theorem right_any (t:List Rec) (A:Option Addr) (n c:Nat) (w:World) (hr:Rd w 2 A n (rs t)) (hn:n≤1000000):
  Calls Tryz.prog 66 #[.slice A n c] w fun e w' =>e=.returned (.bool (rightB t))∧w=w' :=by
 have HL:=Lh (rs_len hr)
 go_enter Tryz.func66,Tryz.ntmps66
 go_wp2
 go_loop [3] (fun i=>∃k:Nat,k≤n∧i=.int .i64 k∧Hid ((t.take k).all recB=true)) (fun i=>n - (intOf i).toNat)
 case atStart=>exact ⟨0,Nat.zero_le _,rfl,Lh rfl⟩
 case round =>
  obtain ⟨k,hk,rfl,hall⟩:=hrel
  by_cases hlt:k<n
  ·obtain ⟨b,off,⟨vr,ow⟩,rfl,hx,c0,c1⟩:=at_rec hr k hlt
   have hs:=Lh (take_all t recB k _ hx)
   have HX:=Lh hx
   clear hx
   by_cases hok:recB ⟨vr,ow⟩=true
   ·have HOK:=Lh hok
    unfold recB at hok
    simp only[decide_eq_true_eq]at hok
    obtain ⟨t1,t2,t3,t4⟩:=hok
    go_wp2
    go_round
    case rel=>exact ⟨k+1,by omega,by go_num,Lh (by rw[hs.out,hall.out,HOK.out];rfl)⟩
    case measure=>simp[intOf];omega
   ·have HF:Hid (rightB t=false):=Lh (by
     unfold rightB;rw[all_bad t recB k _ HX.out (by simpa using hok)];simp)
    unfold recB at hok
    simp only[decide_eq_true_eq]at hok
    by_cases t1:vr<0
    ·go_wp2
     go_ret
     exact ⟨ret_bool HF.out.symm,rfl⟩
    ·by_cases t2:2147483647<vr
     ·go_wp2
      go_ret
      exact ⟨ret_bool HF.out.symm,rfl⟩
     ·by_cases t3:ow<0
      ·go_wp2
       go_ret
       exact ⟨ret_bool HF.out.symm,rfl⟩
      ·have t4:8<ow:=by omega
       clear hok
       go_wp2
       go_ret
       exact ⟨ret_bool HF.out.symm,rfl⟩
  ·have hkn:k=n:=by omega
   have HF:Hid (rightB t=decide (0<n∧n<17)):=Lh (by
    have:=hall.out
    rw[hkn,←HL.out,List.take_length]at this
    unfold rightB;rw[this,HL.out];simp)
   clear hkn
   by_cases h1:0<n
   all_goals by_cases h2:n<17
   all_goals
    go_wp2
    go_ret
    exact ⟨ret_bool (by rw[HF.out];first | (simp[h1,h2];done) | (simp[h1,h2];omega)),rfl⟩
theorem in_any (l:List Int) (A:Option Addr) (n c:Nat) (z:Int) (w:World) (hr:Rd w 1 A n (zs l)) (hn:n≤1000000):
  Calls Tryz.prog 145 #[.slice A n c,.int .i64 z] w fun e w' =>e=.returned (.bool (l.any (fun x=>x==z)))∧w=w' :=by
 have HL:=Lh (zs_len hr)
 go_enter Tryz.func145,Tryz.ntmps145
 go_wp2
 go_loop [5] (fun i=>∃k:Nat,k≤n∧i=.int .i64 k∧Hid ((l.take k).any (fun x=>x==z)=false)) (fun i=>n - (intOf i).toNat)
 case atStart=>exact ⟨0,Nat.zero_le _,rfl,Lh rfl⟩
 case round=>
  obtain ⟨k,hk,rfl,hall⟩:=hrel
  by_cases hlt:k<n
  ·obtain ⟨b,off,x,rfl,hx,c0⟩:=at_z hr k hlt
   have hs:=Lh (take_any l (fun x=>x==z) k _ hx)
   have HX:=Lh hx
   clear hx
   by_cases he:x=z
   ·have HF:Hid (l.any (fun x=>x==z)=true):=Lh (any_good l _ k _ HX.out (by simpa using he))
    subst he
    go_wp2
    go_ret
    exact ⟨ret_bool HF.out.symm,rfl⟩
   ·have t1:(x==z)=false:=beq_eq_false_iff_ne.2 he
    clear he
    go_wp2
    go_round
    case rel=>exact ⟨k+1,by omega,by go_num,Lh (by rw[hs.out,hall.out,t1];rfl)⟩
    case measure=>simp[intOf];omega
  ·have HF:Hid (l.any (fun x=>x==z)=false):=Lh (by
    have:=hall.out
    rwa [List.take_of_length_le (by rw[HL.out];omega)]at this)
   go_wp2
   go_ret
   exact ⟨ret_bool HF.out.symm,rfl⟩
theorem cells_any (l:List Int) (A:Option Addr) (n c:Nat) (w:World) (hr:Rd w 1 A n (zs l)) (hn:n≤1000000):
  Calls Tryz.prog 143 #[.slice A n c] w fun e w' =>e=.returned (.bool (cellsB l))∧w=w' :=by
 have HL:=Lh (zs_len hr)
 go_enter Tryz.func143,Tryz.ntmps143
 go_wp2
 go_loop [3] (fun i=>∃k:Nat,k≤n∧i=.int .i64 k∧Hid ((l.take k).all (fun c=>decide (0≤c))=true)) (fun i=>n - (intOf i).toNat)
 case atStart=>exact ⟨0,Nat.zero_le _,rfl,Lh rfl⟩
 case round=>
  obtain ⟨k,hk,rfl,hall⟩:=hrel
  by_cases hlt:k<n
  ·obtain ⟨b,off,x,rfl,hx,c0⟩:=at_z hr k hlt
   have hs:=Lh (take_all l (fun c=>decide (0≤c)) k _ hx)
   have HX:=Lh hx
   clear hx
   by_cases he:0≤x
   ·go_wp2
    go_round
    case rel=>exact ⟨k+1,by omega,by go_num,Lh (by rw[hs.out,hall.out];simpa using he)⟩
    case measure=>simp[intOf];omega
   ·have HF:Hid (cellsB l=false):=Lh (all_bad l _ k _ HX.out (by simpa using he))
    go_wp2
    go_ret
    exact ⟨ret_bool HF.out.symm,rfl⟩
  ·have HF:Hid (cellsB l=true):=Lh (by
    have:=hall.out
    rwa [List.take_of_length_le (by rw[HL.out];omega)]at this)
   go_wp2
   go_ret
   exact ⟨ret_bool HF.out.symm,rfl⟩
theorem own_pick {w0 w:World} {e:Nat} {v:Value} {p:Nat→Bool} {k:Nat} (h:Own w0 w e 1 v ((pick p k).length+1) (zs (pick p k)++ [.int .i64 (k:Int)])) (hp:p k=true):
  Own w0 w e 1 v (pick p (k+1)).length (zs (pick p (k+1))):=by
 rw[pick_yes p k hp,zs_app,List.length_append];exact h
theorem held_any (t:List Rec) (A:Option Addr) (n c:Nat) (who:Int) (w:World) (r:List Int) (q:Nat) (hr:Rd w 2 A n (rs t)) (hn:n≤1000000)
  (hofs:heldS t who=r) (hq:r.length=q):
  Calls Tryz.prog 182 #[.slice A n c,.int .i64 who] w (RetS w 1 q (zs r)):=by
 have HN:=Lh (rs_len hr)
 have HO:=Lh hofs
 have HQ:=Lh hq
 clear hofs hq
 by_cases hok:(rightB t && whoB who)=true
 ·obtain ⟨h1,h2⟩:=Bool.and_eq_true_iff.1 hok
  have HP:Hid (r=pick (holds t who) n):=Lh (by rw[←HO.out];unfold heldS;rw[if_pos hok,HN.out])
  clear hok
  go_enter Tryz.func182,Tryz.ntmps182
  go_wp2_with (first
   | (go_at_call 66;refine (right_any t _ _ _ _ hr hn).mono ?_;rintro e w' ⟨rfl,rfl⟩)
   | (go_at_call 53;refine (who_any _ _).mono ?_;rintro e w' ⟨rfl,rfl⟩))
  go_loopw [7,8] (fun v i wr=>∃k:Nat,k≤n∧i=.int .i64 k∧Own w wr 3 1 v (pick (holds t who) k).length (zs (pick (holds t who) k))) (fun _ i _=>n - (intOf i).toNat)
  case atStart=>exact ⟨0,Nat.zero_le _,rfl,Own.nil_ (Below.refl _ _)⟩
  case round=>
   obtain ⟨k,hk,rfl,hown⟩:=hrel
   have hpl:=pick_len (holds t who) k
   by_cases hlt:k<n
   ·obtain ⟨b,off,⟨vr,ow⟩,rfl,hx,c0,c1⟩:=at_rec (hr.below hown.2) k hlt
    by_cases he:ow=who
    ·have HH:Hid (holds t who k=true):=Lh (by unfold holds;rw[hx];simpa using he)
     subst he
     clear hx
     go_wp2_with (at_builtin;refine append_rd rfl _ _ 27 rfl tInt w _ _ _ rfl (hown.alloc _) _ 1 1 [.int .i64 (k:Int)] rfl (Rd.built _ 1 1 [.int .i64 (k:Int)] _ rfl) (one_cons rfl one_nil) (by omega) (by omega) ?_;intro v' w' hown' hg;clear hg)
     go_roundw
     case rel=>exact ⟨k+1,by omega,by go_num,own_pick hown' HH.out⟩
     case measure=>simp[intOf];omega
    ·have t1:(ow==who)=false:=beq_eq_false_iff_ne.2 he
     have HH:Hid (holds t who k=false):=Lh (by unfold holds;rw[hx];exact t1)
     clear hx he
     go_wp2
     go_roundw
     case rel=>exact ⟨k+1,by omega,by go_num,by rw[pick_no _ _ HH.out];exact hown⟩
     case measure=>simp[intOf];omega
   ·have hkn:k=n:=by omega
    subst hkn
    obtain ⟨B2,d2,rfl,q2⟩:=hown.form
    have b2:=hown.2
    have HL:Hid ((pick (holds t who) k).length=q):=Lh (by rw[←HP.out];exact HQ.out)
    rw[HL.out]at q2
    clear hown hpl
    rw[HL.out]
    go_wp2
    go_ret
    exact ⟨B2,d2,rfl,by rw[HP.out];exact q2,b2⟩
 ·have HP:Hid (r= []):=Lh (by rw[←HO.out];unfold heldS;rw[if_neg hok])
  have HQ0:Hid (q=0):=Lh (by rw[←HQ.out,HP.out];rfl)
  obtain rfl:q=0:=HQ0.out
  have hb:∃b1 b2,rightB t=b1∧whoB who=b2∧(b1 && b2)=false:=⟨_,_,rfl,rfl,by simpa using hok⟩
  obtain ⟨b1,b2,h1,h2,h3⟩:=hb
  clear hok
  go_enter Tryz.func182,Tryz.ntmps182
  go_wp2_with (first
   | (go_at_call 66;refine (right_any t _ _ _ _ hr hn).mono ?_;rintro e w' ⟨rfl,rfl⟩)
   | (go_at_call 53;refine (who_any _ _).mono ?_;rintro e w' ⟨rfl,rfl⟩))
  refine wp_loop_rounds 1 ?_
  rw[rounds_succ]
  cases b1
  ·clear h3
   by_cases hz:0<n
   all_goals
    go_wp2
    go_ret
    exact ⟨_,_,rfl,by rw[HP.out];exact Rd.none_,Below.refl _ _⟩
  ·have h3' :b2=false:=by simpa using h3
   subst h3'
   clear h3
   by_cases hz:0<n
   all_goals
    go_wp2
    go_ret
    exact ⟨_,_,rfl,by rw[HP.out];exact Rd.none_,Below.refl _ _⟩
theorem lockAll_len (t:List Rec) (who:Int) (l:List Int):(lockAll t who l).length=t.length:=by unfold lockAll;simp
theorem may_at (t:List Rec) (who:Int) (l:List Int) (k:Nat) (x:Rec) (hk:t[k]?=some x):(t.mapIdx (may1 t.length who l))[k]?=some (may1 t.length who l k x):=by
 rw[List.getElem?_mapIdx,hk];rfl
theorem let_len (t:List Rec) (who:Int):(letS t who).length=t.length:=by unfold letS;split <;> simp
theorem let_at (t:List Rec) (who:Int) (k:Nat) (x:Rec) (hk:t[k]?=some x):(letS t who)[k]?=some (if (rightB t && whoB who && (x.owner==who))=true then ⟨x.version,0⟩ else x):=by
 unfold letS
 split
 ·rename_i h
  rw[List.getElem?_map,hk,h]
  simp only[Option.map_some,let1,Bool.true_and,beq_iff_eq]
 ·rename_i h;have:(rightB t && whoB who)=false:=by simpa using h
  rw[this,hk];simp
end Go.Proofs.YtgghaodcfgbjlaaGreat.Stripe
namespace Go.Proofs.YtgghaodcfgbjlaaGreat.Stripe
open Mem
theorem all_idx {α:Type} (l:List α) (p:α→Bool):l.all p=true↔∀(k:Nat) (x:α),l[k]?=some x→p x=true:=by
 rw[List.all_eq_true]
 constructor
 ·intro h k x hk;exact h x (List.mem_of_getElem? hk)
 ·intro h x hx
  obtain ⟨k,hk⟩:=List.getElem?_of_mem hx
  exact h k x hk
theorem right_iff (t:List Rec):rightB t=true↔(0<t.length∧t.length<17)∧∀(k:Nat) (x:Rec),t[k]?=some x→recB x=true:=by
 unfold rightB;rw[Bool.and_eq_true,all_idx,decide_eq_true_eq]
theorem rec_iff (r:Rec):recB r=true↔0≤r.version∧r.version≤2147483647∧0≤r.owner∧r.owner≤8:=by unfold recB;rw[decide_eq_true_eq]
theorem who_iff (n:Int):whoB n=true↔0<n∧n<9:=by unfold whoB;rw[decide_eq_true_eq]
theorem idx_map {α β:Type} (l:List α) (f:Nat→α→β) (k:Nat) (y:β) (h:(l.mapIdx f)[k]?=some y):∃x,l[k]?=some x∧y=f k x:=by
 rw[List.getElem?_mapIdx]at h
 cases hx:l[k]? with
 | none=>rw[hx]at h;cases h
 | some x=>rw[hx]at h;simp at h;exact ⟨x,rfl,h.symm⟩
theorem lock_idx (t:List Rec) (who:Int) (l:List Int) (k:Nat) (y:Rec) (h:(lockAll t who l)[k]?=some y):∃x,t[k]?=some x∧y=lock1 t.length who l k x:=idx_map t _ k y h
theorem let_idx (t:List Rec) (who:Int) (k:Nat) (y:Rec) (h:(letS t who)[k]?=some y):∃x,t[k]?=some x∧y=(if (rightB t && whoB who && (x.owner==who))=true then ⟨x.version,0⟩ else x):=by
 cases hx:t[k]? with
 | none=>
  have:k<(letS t who).length:=(List.getElem?_eq_some_iff.1 h).1
  rw[let_len]at this
  rw[List.getElem?_eq_none_iff]at hx;omega
 | some x=>
  rw[let_at t who k x hx]at h;injection h with h;exact ⟨x,rfl,h.symm⟩
theorem lock_right (t:List Rec) (who:Int) (l:List Int) (hr:rightB t=true) (hw:whoB who=true):rightB (lockAll t who l)=true:=by
 rw[right_iff]at hr ⊢
 rw[lockAll_len]
 refine ⟨hr.1,fun k y hy=>?_⟩
 obtain ⟨x,hx,rfl⟩:=lock_idx t who l k y hy
 have h1:=(rec_iff _).1 (hr.2 k x hx)
 have h2:=(who_iff _).1 hw
 rw[rec_iff];unfold lock1;split
 ·simp only;omega
 ·exact h1
theorem let_right (t:List Rec) (who:Int) (hr:rightB t=true):rightB (letS t who)=true:=by
 have hr0:=hr
 rw[right_iff]at hr ⊢
 rw[let_len]
 refine ⟨hr.1,fun k y hy=>?_⟩
 obtain ⟨x,hx,rfl⟩:=let_idx t who k y hy
 have h1:=(rec_iff _).1 (hr.2 k x hx)
 rw[rec_iff];split
 ·simp only;omega
 ·exact h1
theorem holds_at (t:List Rec) (who:Int) (k:Nat) (x:Rec) (hk:t[k]?=some x):holds t who k=(x.owner==who):=by unfold holds;rw[hk]
end Go.Proofs.YtgghaodcfgbjlaaGreat.Stripe
namespace Go.Proofs.YtgghaodcfgbjlaaGreat.Stripe
open Go.ChangeShapes Go.WideShapes Go.ChangeAt Go.RowKit Mem
def Fits (n:Int):Prop:= -9223372036854775808≤n∧n≤9223372036854775807
theorem open_recs {H:Type} {enc:TypeId × Value→H} {W:World} {A:Option Addr} {n c:Nat} {d:DataW H} {p:List MemPlace}
  (h:DataW.Trod enc Tryz.prog W 0 (fun _=>true) true 49 (.slice A n c) d p):
  n≤c∧c≤9223372036854775807∧∃xs:List Rec,Rd W 2 A n (rs xs)∧xs.length=n∧∀x∈xs,Fits x.version∧Fits x.owner:=by
 refine open_rows Tryz.underlying49 2 (by kernel_rfl) (by decide) rc (fun _=>rfl) (fun x=>Fits x.version∧Fits x.owner) ?_ h
 intro fuel cs' x hl ht
 obtain ⟨xs,n',_,_,_,hxl,hf⟩:=DataW.trod_struct Tryz.underlying92 ht
 match cs',hl with
 | [c0,c1],_=>
  have g0:=hf 0 _ rfl
  have g1:=hf 1 _ rfl
  have k3:Tryz.prog.cellsOf 3=1:=by kernel_rfl
  match xs,hxl with
  | [y0,y1],_=>
   simp[k3]at g0 g1
   obtain ⟨m0,e0,_,wf0⟩:=DataW.trod_int Tryz.underlying3 g0
   obtain ⟨m,e1,_,wf⟩:=DataW.trod_int Tryz.underlying3 g1
   simp at e0 e1
   subst e0 e1
   exact ⟨⟨m0,m⟩,rfl,bounds_i64 wf0,bounds_i64 wf⟩
theorem clone_any (t:List Rec) (A:Option Addr) (n c:Nat) (w:World) (hr:Rd w 2 A n (rs t)) (hn:n≤1000000):
  Calls Tryz.prog 99 #[.slice A n c] w (RetO w 92 2 n (rs t)):=by
 have hnil:=fun W=>Lib.run_eql_slice_nil (P:=Tryz.prog) W 49 92 A n c 0 0 Tryz.underlying49
 rcases A with _ | ad
 ·obtain ⟨rfl,hx⟩:=rd_nil hr
  have HX:=Lh hx
  clear hr hx
  go_enter Tryz.func99,Tryz.ntmps99
  go_wp2
  go_ret
  exact ⟨_,rfl,by rw[HX.out];exact Own.nil_ (Below.refl _ _)⟩
 ·have HR:=Lh hr
  clear hr
  go_enter Tryz.func99,Tryz.ntmps99
  go_wp2_with (at_builtin;refine append_rd rfl _ _ 49 rfl tRec w _ 0 [] rfl (Own.empty w _ _) _ n c (rs t) rfl (HR.out.alloc _) (flat_one rc_one t) (by omega) (by omega) ?_;intro v' w' hown' hg;have HO:=Lh hown';clear hown' hg)
  go_ret
  exact ⟨v',rfl,by have:=HO.out;simpa using this⟩
def lenB (n:Int):Bool:=decide (1≤n∧n≤16)
theorem length_any (n:Int) (w:World):
  Calls Tryz.prog 116 #[.int .i64 n] w fun e w' =>e=.returned (.bool (lenB n))∧w=w' :=by
 by_cases h1:1≤n
 all_goals by_cases h2:n≤16
 all_goals
  go_enter Tryz.func116,Tryz.ntmps116
  go_wp2
  go_ret
  exact ⟨ret_bool (by unfold lenB;simp[h1,h2]),rfl⟩
def verB (n:Int):Bool:=decide (0≤n∧n≤2147483647)
theorem version_any (n:Int) (w:World):
  Calls Tryz.prog 101 #[.int .i64 n] w fun e w' =>e=.returned (.bool (verB n))∧w=w' :=by
 by_cases h1:0≤n
 all_goals by_cases h2:n≤2147483647
 all_goals
  go_enter Tryz.func101,Tryz.ntmps101
  go_wp2
  go_ret
  exact ⟨ret_bool (by unfold verB;simp[h1,h2]),rfl⟩
theorem rwho_any (n:Int) (w:World):
  Calls Tryz.prog 97 #[.int .i64 n] w fun e w' =>e=.returned (.bool (whoB n))∧w=w' :=by
 by_cases h1:1≤n
 all_goals by_cases h2:n≤8
 all_goals
  go_enter Tryz.func97,Tryz.ntmps97
  go_wp2
  go_ret
  exact ⟨ret_bool (by unfold whoB;first | (simp;omega) | (symm;simp;omega) | (rw[Bool.eq_iff_iff];simp;omega)),rfl⟩
theorem rec_parts (v o:Int):recB ⟨v,o⟩=(verB v && (o==0 || whoB o)):=by
 rw[Bool.eq_iff_iff];unfold recB verB whoB;simp;omega
theorem record_any (vr ow:Int) (w:World) (b:Bool) (hb:recB ⟨vr,ow⟩=b):
  Calls Tryz.prog 117 #[.agg #[.int .i64 vr,.int .i64 ow]] w (RetB w b):=by
 rw[rec_parts]at hb
 have HB:=Lh hb
 clear hb
 cases h1:verB vr
 ·go_enter Tryz.func117,Tryz.ntmps117
  go_wp2_with (go_at_call 101;refine (version_any _ _).mono ?_;rintro e w' ⟨rfl,rfl⟩)
  go_ret
  exact ⟨ret_bool (by have:=HB.out;rw[h1]at this;exact this),bl_alloc (Below.refl _ _) _⟩
 ·by_cases h2:ow=0
  ·subst h2
   go_enter Tryz.func117,Tryz.ntmps117
   go_wp2_with (go_at_call 101;refine (version_any _ _).mono ?_;rintro e w' ⟨rfl,rfl⟩)
   go_ret
   exact ⟨ret_bool (by have:=HB.out;rw[h1]at this;exact this),bl_alloc (Below.refl _ _) _⟩
  ·have h3:(ow==0)=false:=beq_eq_false_iff_ne.2 h2
   clear h2
   cases h4:whoB ow
   all_goals
    go_enter Tryz.func117,Tryz.ntmps117
    go_wp2_with (first
     | (go_at_call 101;refine (version_any _ _).mono ?_;rintro e w' ⟨rfl,rfl⟩)
     | (go_at_call 97;refine (rwho_any _ _).mono ?_;rintro e w' ⟨rfl,rfl⟩))
    go_ret
    exact ⟨ret_bool (by have:=HB.out;rw[h1,h3,h4]at this;exact this),bl_alloc (Below.refl _ _) _⟩
theorem right_c (t:List Rec) (A:Option Addr) (n c:Nat) (w:World) (b:Bool) (hr:Rd w 2 A n (rs t)) (hn:n≤1000000) (hb:rightB t=b):
  Calls Tryz.prog 62 #[.slice A n c] w (RetB w b):=by
 subst hb
 have HL:=Lh (rs_len hr)
 have HR:=Lh hr
 clear hr
 by_cases hlen:lenB (n:Int)=true
 ·have HN:Hid (0<n∧n<17):=Lh (by unfold lenB at hlen;simp at hlen;omega)
  go_enter Tryz.func62,Tryz.ntmps62
  go_wp2_with (go_at_call 116;refine (length_any _ _).mono ?_;rintro e w' ⟨rfl,rfl⟩)
  go_loopw [11] (fun i wr=>∃k:Nat,k≤n∧i=.int .i64 k∧Hid (Below w.heap.size w wr)∧Hid ((t.take k).all recB=true)) (fun i _=>n - (intOf i).toNat)
  case atStart=>exact ⟨0,Nat.zero_le _,rfl,Lh (Below.refl _ _),Lh rfl⟩
  case round=>
   obtain ⟨k,hk,rfl,HB,hall⟩:=hrel
   by_cases hlt:k<n
   ·obtain ⟨b,off,⟨vr,ow⟩,rfl,hx,c0,c1⟩:=at_rec (HR.out.below HB.out) k hlt
    have hs:=Lh (take_all t recB k _ hx)
    by_cases hok:recB ⟨vr,ow⟩=true
    ·have HOK:=Lh hok
     clear hx hok
     go_wp2_with fail
     refine (record_any _ _ _ true HOK.out).mono ?_
     rintro e w1 ⟨rfl,b1⟩
     have HB1:=Lh (bl_trans (bl_alloc HB.out _) b1)
     clear b1
     go_wp2_with fail
     go_roundw
     case rel=>exact ⟨k+1,by omega,by go_num,HB1,Lh (by rw[hs.out,hall.out,HOK.out];rfl)⟩
     case measure=>simp[intOf];omega
    ·have HOK:Hid (recB ⟨vr,ow⟩=false):=Lh (by simpa using hok)
     have HF:Hid (rightB t=false):=Lh (by
      unfold rightB;rw[all_bad t recB k _ hx HOK.out];simp)
     clear hx hok
     go_wp2_with fail
     refine (record_any _ _ _ false HOK.out).mono ?_
     rintro e w1 ⟨rfl,b1⟩
     have HB1:=Lh (bl_trans (bl_alloc HB.out _) b1)
     clear b1
     go_wp2_with fail
     go_ret
     exact ⟨ret_bool HF.out.symm,HB1.out⟩
   ·have HF:Hid (rightB t=true):=Lh (by
     have:=hall.out
     rw[List.take_of_length_le (by rw[HL.out];omega)]at this
     unfold rightB;rw[this,HL.out];simpa using HN.out)
    go_wp2
    go_ret
    exact ⟨ret_bool HF.out.symm,HB.out⟩
 ·have hlen' :lenB (n:Int)=false:=by simpa using hlen
  have HF:Hid (rightB t=false):=Lh (by
   unfold lenB at hlen';simp at hlen'
   unfold rightB;rw[HL.out,Bool.and_eq_false_iff];left;simp;omega)
  clear hlen
  go_enter Tryz.func62,Tryz.ntmps62
  go_wp2_with (go_at_call 116;refine (length_any _ _).mono ?_;rintro e w' ⟨rfl,rfl⟩)
  go_ret
  exact ⟨ret_bool HF.out.symm,Below.refl _ _⟩
theorem rcells_any (l:List Int) (A:Option Addr) (n c:Nat) (w:World) (hr:Rd w 1 A n (zs l)) (hn:n≤1000000):
  Calls Tryz.prog 98 #[.slice A n c] w fun e w' =>e=.returned (.bool (cellsB l))∧w=w' :=by
 have HL:=Lh (zs_len hr)
 go_enter Tryz.func98,Tryz.ntmps98
 go_wp2
 go_loop [7] (fun i=>∃k:Nat,k≤n∧i=.int .i64 k∧Hid ((l.take k).all (fun c=>decide (0≤c))=true)) (fun i=>n - (intOf i).toNat)
 case atStart=>exact ⟨0,Nat.zero_le _,rfl,Lh rfl⟩
 case round=>
  obtain ⟨k,hk,rfl,hall⟩:=hrel
  by_cases hlt:k<n
  ·obtain ⟨b,off,x,rfl,hx,c0⟩:=at_z hr k hlt
   have hs:=Lh (take_all l (fun c=>decide (0≤c)) k _ hx)
   have HX:=Lh hx
   clear hx
   by_cases he:0≤x
   ·go_wp2
    go_round
    case rel=>exact ⟨k+1,by omega,by go_num,Lh (by rw[hs.out,hall.out];simpa using he)⟩
    case measure=>simp[intOf];omega
   ·have HF:Hid (cellsB l=false):=Lh (all_bad l _ k _ HX.out (by simpa using he))
    go_wp2
    go_ret
    exact ⟨ret_bool HF.out.symm,rfl⟩
  ·have HF:Hid (cellsB l=true):=Lh (by
    have:=hall.out
    rwa [List.take_of_length_le (by rw[HL.out];omega)]at this)
   go_wp2
   go_ret
   exact ⟨ret_bool HF.out.symm,rfl⟩
theorem held_o (t:List Rec) (A:Option Addr) (n c:Nat) (who:Int) (w:World) (r:List Int) (q:Nat) (hr:Rd w 2 A n (rs t)) (hn:n≤1000000)
  (hofs:heldS t who=r) (hq:r.length=q):
  Calls Tryz.prog 41 #[.slice A n c,.int .i64 who] w (RetO w 3 1 q (zs r)):=by
 have HN:=Lh (rs_len hr)
 have HR:=Lh hr
 have HO:=Lh hofs
 have HQ:=Lh hq
 clear hofs hq hr
 cases h1:rightB t
 ·have HP:Hid (r= []):=Lh (by rw[←HO.out];unfold heldS;rw[h1];rfl)
  obtain rfl:0=q:=by rw[←HQ.out,HP.out];rfl
  have H1:=Lh h1
  clear h1
  go_enter Tryz.func41,Tryz.ntmps41
  go_wp2_with fail
  refine (right_c t _ _ _ _ false HR.out hn H1.out).mono ?_
  rintro e w1 ⟨rfl,b1⟩
  have HB1:=Lh b1
  clear b1
  go_wp2_with fail
  go_ret
  exact ⟨_,rfl,by rw[HP.out];exact Own.nil_ HB1.out⟩
 ·cases h2:whoB who
  ·have HP:Hid (r= []):=Lh (by rw[←HO.out];unfold heldS;rw[h1,h2];rfl)
   obtain rfl:0=q:=by rw[←HQ.out,HP.out];rfl
   have H1:=Lh h1
   clear h1
   go_enter Tryz.func41,Tryz.ntmps41
   go_wp2_with fail
   refine (right_c t _ _ _ _ true HR.out hn H1.out).mono ?_
   rintro e w1 ⟨rfl,b1⟩
   have HB1:=Lh b1
   clear b1
   go_wp2_with (go_at_call 97;refine (rwho_any _ _).mono ?_;rintro e w' ⟨rfl,rfl⟩)
   go_ret
   exact ⟨_,rfl,by rw[HP.out];exact Own.nil_ HB1.out⟩
  ·have HP:Hid (r=pick (holds t who) n):=Lh (by rw[←HO.out];unfold heldS;rw[h1,h2,HN.out];rfl)
   have H1:=Lh h1
   clear h1
   go_enter Tryz.func41,Tryz.ntmps41
   go_wp2_with fail
   refine (right_c t _ _ _ _ true HR.out hn H1.out).mono ?_
   rintro e w1 ⟨rfl,b1⟩
   have HB1:=Lh b1
   clear b1
   go_wp2_with (go_at_call 97;refine (rwho_any _ _).mono ?_;rintro e w' ⟨rfl,rfl⟩)
   go_loopw [5,18] (fun v i wr=>∃k:Nat,k≤n∧i=.int .i64 k∧Hid (Own w wr 3 1 v (pick (holds t who) k).length (zs (pick (holds t who) k)))) (fun _ i _=>n - (intOf i).toNat)
   case atStart=>exact ⟨0,Nat.zero_le _,rfl,Lh (Own.nil_ HB1.out)⟩
   case round=>
    obtain ⟨k,hk,rfl,hown⟩:=hrel
    have hpl:=pick_len (holds t who) k
    by_cases hlt:k<n
    ·obtain ⟨b,off,⟨vr,ow⟩,rfl,hx,c0,c1⟩:=at_rec (HR.out.below hown.out.2) k hlt
     by_cases he:ow=who
     ·have HH:Hid (holds t who k=true):=Lh (by unfold holds;rw[hx];simpa using he)
      subst he
      clear hx
      go_wp2_with (at_builtin;refine append_rd rfl _ _ 27 rfl tInt w _ _ _ rfl ((hown.out.alloc _).alloc _) _ 1 1 [.int .i64 (k:Int)] rfl (Rd.builtAt _ 1 1 [.int .i64 (k:Int)] _ rfl (by simp)) (one_cons rfl one_nil) (by omega) (by omega) ?_;intro v' w' hown' hg;have HO2:=Lh hown';clear hg hown')
      go_roundw
      case rel=>exact ⟨k+1,by omega,by go_num,Lh (own_pick HO2.out HH.out)⟩
      case measure=>simp[intOf];omega
     ·have t1:(ow==who)=false:=beq_eq_false_iff_ne.2 he
      have HH:Hid (holds t who k=false):=Lh (by unfold holds;rw[hx];exact t1)
      clear hx he
      go_wp2
      go_roundw
      case rel=>exact ⟨k+1,by omega,by go_num,by rw[pick_no _ _ HH.out];exact Lh (hown.out.alloc _)⟩
      case measure=>simp[intOf];omega
    ·have hkn:k=n:=by omega
     subst hkn
     have HL:Hid ((pick (holds t who) k).length=q):=Lh (by rw[←HP.out];exact HQ.out)
     rw[HL.out]at hown
     clear hpl
     go_wp2
     go_ret
     exact ⟨_,rfl,by rw[HP.out];exact hown.out⟩
def marks (n:Nat) (l:List Int):Array Value:=((List.range 16).map (fun p=>Value.bool (hit n l p))).toArray
theorem marks_at (n:Nat) (l:List Int) (i:Nat) (hi:i<16):(marks n l)[i]?=some (.bool (hit n l i)):=by
 unfold marks;rw[List.getElem?_toArray,List.getElem?_map,List.getElem?_range hi];rfl
theorem marks_set (n:Nat) (l:List Int) (k:Nat) (x:Int) (q:Nat) (hx:l[k]?=some x) (hq:x % (n:Int)=(q:Int)):
  (marks n (l.take k)).setIfInBounds q (.bool true)=marks n (l.take (k+1)):=by
 apply Array.ext'
 apply List.ext_getElem?
 intro i
 unfold marks
 rw[Array.toList_setIfInBounds,List.getElem?_set,List.getElem?_map,List.getElem?_map]
 have hh:hit n (l.take (k+1)) i=(hit n (l.take k) i || decide (x % (n:Int)=(i:Int))):=take_any l _ k x hx
 by_cases hi:i<16
 ·rw [List.getElem?_range hi]
  simp only[Option.map_some,List.length_map,List.length_range]
  by_cases e:q=i
  ·subst e
   rw[if_pos rfl,if_pos hi,hh,hq];simp
  ·have :decide (x % (n:Int)=(i:Int))=false:=by rw[hq];simpa using fun h:(q:Int)=i=>e (by omega)
   rw[if_neg e,hh,this];simp
 ·rw [List.getElem?_eq_none (by simpa using hi)]
  by_cases e:q=i
  ·subst e;rw[if_pos rfl,if_neg (by simpa using hi)];rfl
  ·rw[if_neg e];rfl
set_option maxHeartbeats 1000000 in
theorem of_o (t:List Rec) (l:List Int) (A D:Option Addr) (n c m d:Nat) (w:World) (r:List Int) (q:Nat) (hr:Rd w 2 A n (rs t)) (hl:Rd w 1 D m (zs l)) (hn:n≤1000000) (hm:m≤1000000)
  (hofs:ofS t l=r) (hq:r.length=q):
  Calls Tryz.prog 42 #[.slice A n c,.slice D m d] w (RetO w 3 1 q (zs r)):=by
 have HN:=Lh (rs_len hr)
 have HM:=Lh (zs_len hl)
 have HR:=Lh hr
 have HL:=Lh hl
 have HO:=Lh hofs
 have HQ:=Lh hq
 clear hofs hq hr hl
 cases h1:rightB t
 ·have HP:Hid (r= []):=Lh (by rw[←HO.out];unfold ofS;rw[h1];rfl)
  obtain rfl:0=q:=by rw[←HQ.out,HP.out];rfl
  have H1:=Lh h1
  clear h1
  go_enter Tryz.func42,Tryz.ntmps42
  go_wp2_with fail
  refine (right_c t _ _ _ _ false HR.out hn H1.out).mono ?_
  rintro e w1 ⟨rfl,b1⟩
  have HB1:=Lh b1
  clear b1
  go_wp2_with fail
  go_ret
  exact ⟨_,rfl,by rw[HP.out];exact Own.nil_ HB1.out⟩
 ·cases h2:cellsB l
  ·have HP:Hid (r= []):=Lh (by rw[←HO.out];unfold ofS;rw[h1,h2];rfl)
   obtain rfl:0=q:=by rw[←HQ.out,HP.out];rfl
   have H1:=Lh h1
   clear h1
   go_enter Tryz.func42,Tryz.ntmps42
   go_wp2_with fail
   refine (right_c t _ _ _ _ true HR.out hn H1.out).mono ?_
   rintro e w1 ⟨rfl,b1⟩
   have HB1:=Lh b1
   clear b1
   go_wp2_with (go_at_call 98;refine (rcells_any l _ _ _ _ (HL.out.below HB1.out) hm).mono ?_;rintro e w' ⟨rfl,rfl⟩)
   go_ret
   exact ⟨_,rfl,by rw[HP.out];exact Own.nil_ HB1.out⟩
  ·have HP:Hid (r=pick (hit n l) n):=Lh (by rw[←HO.out];unfold ofS;rw[h1,h2,HN.out];rfl)
   have hn2:0<n∧n<17:=by
    have:=h1;unfold rightB at this;rw[Bool.and_eq_true]at this
    have:=this.1;rw[HN.out]at this;simpa using this
   obtain ⟨hn0,hn1⟩:=hn2
   have H1:=Lh h1
   have HC:=Lh h2
   clear h1
   go_enter Tryz.func42,Tryz.ntmps42
   go_wp2_with fail
   refine (right_c t _ _ _ _ true HR.out hn H1.out).mono ?_
   rintro e w1 ⟨rfl,b1⟩
   have HB1:=Lh b1
   clear b1
   go_wp2_with (go_at_call 98;refine (rcells_any l _ _ _ _ (HL.out.below HB1.out) hm).mono ?_;rintro e w' ⟨rfl,rfl⟩)
   go_loopw [20] (fun i wr=>∃k:Nat,k≤m∧i=.int .i64 k∧Hid (Below w.heap.size w wr)∧Hid (Blk wr w1.heap.size 188 (marks n (l.take k)))) (fun i _=>m - (intOf i).toNat)
   case atStart=>exact ⟨0,Nat.zero_le _,rfl,Lh (bl_alloc HB1.out _),Lh (Blk.new w1 _ _)⟩
   case round=>
    obtain ⟨k,hk,rfl,HB,HM2⟩:=hrel
    by_cases hlt:k<m
    ·obtain ⟨b,off,x,rfl,hx,c0⟩:=at_z (HL.out.below HB.out) k hlt
     have hx0:0≤x:=by
      have:=HC.out;unfold cellsB at this
      have:=List.all_eq_true.1 this x (List.mem_of_getElem? hx);simpa using this
     obtain ⟨q',hq'⟩:=Int.eq_ofNat_of_zero_le (Int.emod_nonneg x (show (n:Int)≠0 by omega))
     have hq2:q'<n:=by have:=Int.emod_lt_of_pos x (show (0:Int)<n by omega);omega
     have HS:=Lh (marks_set n l k x q' hx hq')
     have hdn:((n:Int)==0)=false:=beq_eq_false_iff_ne.2 (by omega)
     have c1:=HM2.out.cell q' _ (marks_at n _ q' (by omega))
     have f1:=HM2.out.frozen q'
     have hq16:q'<16:=by omega
     clear hx
     go_wp2
     go_roundw
     case rel=>exact ⟨k+1,by omega,by go_num,Lh (bl_set HB.out HB1.out.size _),Lh (by rw[←HS.out];exact HM2.out.set_ q' _)⟩
     case measure=>simp[intOf];omega
    ·have HT:Hid (l.take k=l):=Lh (List.take_of_length_le (by rw[HM.out];omega))
     generalize wr=w2 at *
     have HM3:Hid (Blk w2 w1.heap.size 188 (marks n l)):=Lh (by have:=HM2.out;rwa [HT.out]at this)
     clear HM2 HT
     go_wp2
     go_loopw [8,32] (fun v i wq=>∃j:Nat,j≤n∧i=.int .i64 j∧Hid (Own w2 wq 3 1 v (pick (hit n l) j).length (zs (pick (hit n l) j)))) (fun _ i _=>n - (intOf i).toNat)
     case atStart=>exact ⟨0,Nat.zero_le _,rfl,Lh (Own.nil_ (Below.refl _ _))⟩
     case round=>
      obtain ⟨j,hj,rfl,hown⟩:=hrel
      have hpl:=pick_len (hit n l) j
      by_cases hlt2:j<n
      ·have hj16:j<16:=by omega
       have c1:=(HM3.out.below hown.out.2).cell j _ (marks_at n l j hj16)
       cases hh:hit n l j with
       | true=>
        have HH:=Lh hh
        rw[hh]at c1
        clear hh
        go_wp2_with (at_builtin;refine append_rd rfl _ _ 27 rfl tInt w2 _ _ _ rfl (hown.out.alloc _) _ 1 1 [.int .i64 (j:Int)] rfl (Rd.built _ 1 1 [.int .i64 (j:Int)] _ rfl) (one_cons rfl one_nil) (by omega) (by omega) ?_;intro v' w' hown' hg;have HO2:=Lh hown';clear hg hown')
        go_roundw
        case rel=>exact ⟨j+1,by omega,by go_num,Lh (own_pick HO2.out HH.out)⟩
        case measure=>simp[intOf];omega
       | false=>
        have HH:=Lh hh
        rw[hh]at c1
        clear hh
        go_wp2
        go_roundw
        case rel=>exact ⟨j+1,by omega,by go_num,by rw[pick_no _ _ HH.out];exact hown⟩
        case measure=>simp[intOf];omega
      ·have hjn:j=n:=by omega
       subst hjn
       have HL2:Hid ((pick (hit j l) j).length=q):=Lh (by rw[←HP.out];exact HQ.out)
       rw[HL2.out]at hown
       clear hpl
       go_wp2
       go_ret
       exact ⟨_,rfl,by rw[HP.out];exact hown.out.wide HB.out⟩
theorem of_c (t:List Rec) (l:List Int) (A D:Option Addr) (n c m d:Nat) (w:World) (r:List Int) (q:Nat) (hr:Rd w 2 A n (rs t)) (hl:Rd w 1 D m (zs l)) (hn:n≤1000000) (hm:m≤1000000)
  (hofs:ofS t l=r) (hq:r.length=q):
  Calls Tryz.prog 42 #[.slice A n c,.slice D m d] w (RetS w 1 q (zs r)):=(of_o t l A D n c m d w r q hr hl hn hm hofs hq).mono fun _ _ h=>h.toS
def Places (n:Nat) (ps:List Int):Prop:=∀p∈ps,∃k:Nat,k<n∧p=(k:Int)
theorem places_pick (p:Nat→Bool) (n:Nat):Places n (pick p n):=fun z hz=>by
 obtain ⟨k,h1,_,h2⟩:=(pick_mem p n z).1 hz
 exact ⟨k,h1,h2⟩
def mayB (t:List Rec) (who:Int) (p:Int):Bool:=match t[p.toNat]? with | some r=>r.owner==0 || r.owner==who | none=>true
def aboveB (t:List Rec) (v:Int) (p:Int):Bool:=match t[p.toNat]? with | some r=>decide (r.version<v) | none=>true
theorem mayhold_any (t:List Rec) (ps:List Int) (A D:Option Addr) (n c m d:Nat) (who:Int) (w:World) (b:Bool) (hr:Rd w 2 A n (rs t)) (hl:Rd w 1 D m (zs ps)) (hm:m≤1000000)
  (hp:Places n ps) (hb:ps.all (mayB t who)=b):
  Calls Tryz.prog 100 #[.slice A n c,.int .i64 who,.slice D m d] w fun e w' =>e=.returned (.bool b)∧w=w' :=by
 have HL:=Lh (zs_len hl)
 have HP:=Lh hp
 have HB:=Lh hb
 clear hp hb
 go_enter Tryz.func100,Tryz.ntmps100
 go_wp2
 go_loop [12] (fun i=>∃k:Nat,k≤m∧i=.int .i64 k∧Hid ((ps.take k).all (mayB t who)=true)) (fun i=>m - (intOf i).toNat)
 case atStart=>exact ⟨0,Nat.zero_le _,rfl,Lh rfl⟩
 case round=>
  obtain ⟨k,hk,rfl,hall⟩:=hrel
  by_cases hlt:k<m
  ·obtain ⟨b,off,x,rfl,hx,c0⟩:=at_z hl k hlt
   have hs:=Lh (take_all ps (mayB t who) k _ hx)
   obtain ⟨j,hj,rfl⟩:=HP.out x (List.mem_of_getElem? hx)
   obtain ⟨b',off',⟨vr,ow⟩,rfl,hy,d0,d1⟩:=at_rec hr j hj
   have HM:Hid (mayB t who (j:Int)=(ow==0 || ow==who)):=Lh (by unfold mayB;rw[Int.toNat_natCast,hy])
   have HX:=Lh hx
   clear hx hy
   by_cases h0:ow=0
   ·subst h0
    go_wp2
    go_round
    case rel=>exact ⟨k+1,by omega,by go_num,Lh (by rw[hs.out,hall.out,HM.out];rfl)⟩
    case measure=>simp[intOf];omega
   ·have t0:(ow !=0)=true:=by simpa using h0
    have e0:Hid ((ow==0)=false):=Lh (by simpa using h0)
    by_cases h1:ow=who
    ·subst h1
     go_wp2
     go_round
     case rel=>exact ⟨k+1,by omega,by go_num,Lh (by rw[hs.out,hall.out,HM.out];simp)⟩
     case measure=>simp[intOf];omega
    ·have t1:(ow !=who)=true:=by simpa using h1
     have HF:Hid (ps.all (mayB t who)=false):=Lh (all_bad ps _ k _ HX.out (by rw[HM.out,e0.out];simpa using h1))
     clear h0 h1
     go_wp2
     go_ret
     exact ⟨ret_bool (by rw[←HB.out,HF.out]),rfl⟩
  ·have HF:Hid (ps.all (mayB t who)=true):=Lh (by
    have:=hall.out
    rwa [List.take_of_length_le (by rw[HL.out];omega)]at this)
   go_wp2
   go_ret
   exact ⟨ret_bool (by rw[←HB.out,HF.out]),rfl⟩
theorem above_any (t:List Rec) (ps:List Int) (A D:Option Addr) (n c m d:Nat) (v:Int) (w:World) (b:Bool) (hr:Rd w 2 A n (rs t)) (hl:Rd w 1 D m (zs ps)) (hm:m≤1000000)
  (hp:Places n ps) (hb:ps.all (aboveB t v)=b):
  Calls Tryz.prog 102 #[.slice A n c,.int .i64 v,.slice D m d] w fun e w' =>e=.returned (.bool b)∧w=w' :=by
 have HL:=Lh (zs_len hl)
 have HP:=Lh hp
 have HB:=Lh hb
 clear hp hb
 go_enter Tryz.func102,Tryz.ntmps102
 go_wp2
 go_loop [11] (fun i=>∃k:Nat,k≤m∧i=.int .i64 k∧Hid ((ps.take k).all (aboveB t v)=true)) (fun i=>m - (intOf i).toNat)
 case atStart=>exact ⟨0,Nat.zero_le _,rfl,Lh rfl⟩
 case round=>
  obtain ⟨k,hk,rfl,hall⟩:=hrel
  by_cases hlt:k<m
  ·obtain ⟨b,off,x,rfl,hx,c0⟩:=at_z hl k hlt
   have hs:=Lh (take_all ps (aboveB t v) k _ hx)
   obtain ⟨j,hj,rfl⟩:=HP.out x (List.mem_of_getElem? hx)
   obtain ⟨b',off',⟨vr,ow⟩,rfl,hy,d0,d1⟩:=at_rec hr j hj
   have HM:Hid (aboveB t v (j:Int)=decide (vr<v)):=Lh (by unfold aboveB;rw[Int.toNat_natCast,hy])
   have HX:=Lh hx
   clear hx hy
   by_cases h0:v≤vr
   ·have HF:Hid (ps.all (aboveB t v)=false):=Lh (all_bad ps _ k _ HX.out (by rw[HM.out];simpa using h0))
    go_wp2
    go_ret
    exact ⟨ret_bool (by rw[←HB.out,HF.out]),rfl⟩
   ·go_wp2
    go_round
    case rel=>exact ⟨k+1,by omega,by go_num,Lh (by rw[hs.out,hall.out,HM.out];simpa using h0)⟩
    case measure=>simp[intOf];omega
  ·have HF:Hid (ps.all (aboveB t v)=true):=Lh (by
    have:=hall.out
    rwa [List.take_of_length_le (by rw[HL.out];omega)]at this)
   go_wp2
   go_ret
   exact ⟨ret_bool (by rw[←HB.out,HF.out]),rfl⟩
theorem rs_owner (t:List Rec) (k:Nat) (x:Rec) (o:Int) (hx:t[k]?=some x):(rs t).set (k * 2+1) (.int .i64 o)=rs (t.set k ⟨x.version,o⟩):=
 flat_set rc_len t k 1 (by decide) x ⟨x.version,o⟩ _ hx rfl
theorem rs_both (t:List Rec) (k:Nat) (x:Rec) (v o:Int) (hx:t[k]?=some x):((rs t).set (k * 2) (.int .i64 v)).set (k * 2+1) (.int .i64 o)=rs (t.set k ⟨v,o⟩):=by
 have h1:(rs t).set (k * 2) (.int .i64 v)=rs (t.set k ⟨v,x.owner⟩):=flat_set rc_len t k 0 (by decide) x ⟨v,x.owner⟩ _ hx rfl
 rw[h1,rs_owner _ k ⟨v,x.owner⟩ o (by rw[List.getElem?_set_self (List.getElem?_eq_some_iff.1 hx).1]),List.set_set]
theorem rs_0 (t:List Rec) (k:Nat) (x:Rec) (hx:t[k]?=some x):(rs t)[k * 2]?=some (.int .i64 x.version):=by
 have:=flat_at (code:=rc) rc_len t k x hx 0 (by decide);rw[Nat.add_zero]at this;exact this
theorem rs_1 (t:List Rec) (k:Nat) (x:Rec) (hx:t[k]?=some x):(rs t)[k * 2+1]?=some (.int .i64 x.owner):=
 flat_at (code:=rc) rc_len t k x hx 1 (by decide)
def ownF (who:Int) (r:Rec):Rec:=⟨r.version,who⟩
def verF (v:Int) (_:Rec):Rec:=⟨v,0⟩
theorem lock_setAll (t:List Rec) (who:Int) (l:List Int):setAll (ownF who) t (pick (hit t.length l) t.length)=lockAll t who l:=by
 rw[setAll_pick (ownF who) (fun _=>rfl)];rfl
theorem held_map (t:List Rec) (who:Int) (f:Rec→Rec) (hf:∀x,f (f x)=f x):setAll f t (pick (holds t who) t.length)=t.map (fun r=>if r.owner=who then f r else r):=by
 rw[setAll_pick _ hf]
 apply List.ext_getElem?
 intro k
 rw[List.getElem?_mapIdx,List.getElem?_map]
 cases hx:t[k]? with
 | none=>rfl
 | some r=>
  simp only[Option.map_some]
  rw[holds_at t who k r hx]
  by_cases h:r.owner=who <;> simp[h]
theorem may_all (t:List Rec) (who:Int) (l:List Int) (hr:rightB t=true):(pick (hit t.length l) t.length).all (mayB t who)=mayAll t who l:=by
 rw[Bool.eq_iff_iff,List.all_eq_true]
 unfold mayAll
 rw[all_idx]
 have hrec:=((right_iff t).1 hr).2
 constructor
 ·intro h k y hy
  obtain ⟨x,hx,rfl⟩:=idx_map t _ k y hy
  show may1 t.length who l k x=true
  unfold may1
  cases hh:hit t.length l k
  ·rfl
  ·have :=h (k:Int) ((pick_mem _ _ _).2 ⟨k,(List.getElem?_eq_some_iff.1 hx).1,hh,rfl⟩)
   unfold mayB at this
   rw[Int.toNat_natCast,hx]at this
   simp only[Bool.or_eq_true,beq_iff_eq]at this
   rcases this with h1 | h1 <;> simp[h1]
 ·intro h z hz
  obtain ⟨k,hk,hh,rfl⟩:=(pick_mem _ _ _).1 hz
  have hx:=List.getElem?_eq_getElem hk
  have:=h k _ (may_at t who l k _ hx)
  have h2:=(rec_iff _).1 (hrec k _ hx)
  unfold mayB
  rw[Int.toNat_natCast,hx]
  simp[may1,hh]at this
  simp only[Bool.or_eq_true,beq_iff_eq]
  omega
theorem above_all (t:List Rec) (who v:Int):(pick (holds t who) t.length).all (aboveB t v)=t.all (below1 who v):=by
 rw[Bool.eq_iff_iff,List.all_eq_true,all_idx]
 constructor
 ·intro h k x hx
  unfold below1
  by_cases ho:x.owner=who
  ·have :=h (k:Int) ((pick_mem _ _ _).2 ⟨k,(List.getElem?_eq_some_iff.1 hx).1,by rw[holds_at t who k x hx];simpa using ho,rfl⟩)
   unfold aboveB at this
   rw[Int.toNat_natCast,hx]at this
   simp only[decide_eq_true_eq]at this
   simp[this]
  ·simp[ho]
 ·intro h z hz
  obtain ⟨k,hk,hh,rfl⟩:=(pick_mem _ _ _).1 hz
  have hx:=List.getElem?_eq_getElem hk
  have h1:=h k _ hx
  rw[holds_at t who k _ hx]at hh
  unfold aboveB
  rw[Int.toNat_natCast,hx]
  unfold below1 at h1
  simp only[Bool.or_eq_true,bne_iff_ne,ne_eq,decide_eq_true_eq]at h1
  simp only[decide_eq_true_eq]
  rcases h1 with h1 | h1
  ·exact absurd (eq_of_beq hh) h1
  ·exact h1
def RetW (w:World) (n:Nat) (xs:List Value) (e:Ending) (w' :World):Prop:=∃B d,e=.returned (.slice B n d)∧Own w w' 92 2 (.slice B n d) n xs
def RetWE (w:World) (n:Nat) (xs:List Value) (f:Int) (e:Ending) (w' :World):Prop:=∃B d,e=.returned (.tuple #[.slice B n d,.int .i64 f])∧Own w w' 92 2 (.slice B n d) n xs
theorem lock_w (t:List Rec) (l:List Int) (A D:Option Addr) (n c m d:Nat) (who:Int) (w:World) (r:List Rec × Int) (hr:Rd w 2 A n (rs t)) (hl:Rd w 1 D m (zs l)) (hn:n≤1000000) (hm:m≤1000000) (hlk:lockS t who l=r):
  Calls Tryz.prog 45 #[.slice A n c,.int .i64 who,.slice D m d] w (RetWE w n (rs r.1) r.2):=by
 subst hlk
 have HL:=Lh (rs_len hr)
 have HR:=Lh hr
 have HW:=Lh hl
 clear hr hl
 go_enter Tryz.func45,Tryz.ntmps45
 go_wp2_with fail
 refine (clone_any t _ _ _ _ HR.out hn).mono ?_
 rintro e w1 ⟨v,rfl,ho⟩
 have HO:=Lh ho
 clear ho
 go_wp2_with fail
 cases h1:rightB t
 ·have HF:Hid (lockS t who l=(t,1)):=Lh (by unfold lockS;rw[h1];rfl)
  have H1:=Lh h1
  clear h1
  refine (right_c t _ _ _ _ false (HR.out.below HO.out.2) hn H1.out).mono ?_
  rintro e w2 ⟨rfl,b2⟩
  have HO2:=Lh (HO.out.below b2)
  clear b2 HO
  obtain ⟨B,d',rfl,hrd⟩:=HO2.out.form
  have HD:=Lh hrd
  clear hrd
  go_wp2_with fail
  go_ret2
  exact ⟨B,d',by rw[HF.out];rfl,by rw[HF.out];exact HO2.out⟩
 ·have H1 :=Lh h1
  clear h1
  refine (right_c t _ _ _ _ true (HR.out.below HO.out.2) hn H1.out).mono ?_
  rintro e w2 ⟨rfl,b2⟩
  have HO2:=Lh (HO.out.below b2)
  clear b2 HO
  cases h2:cellsB l
  ·have HF:Hid (lockS t who l=(t,1)):=Lh (by unfold lockS;rw[h2];simp)
   obtain ⟨B,d',rfl,hrd⟩:=HO2.out.form
   have HD:=Lh hrd
   clear hrd
   go_wp2_with (go_at_call 98;refine (rcells_any l _ _ _ _ (HW.out.below HO2.out.2) hm).mono ?_;rintro e w' ⟨rfl,rfl⟩)
   go_ret2
   exact ⟨B,d',by rw[HF.out];rfl,by rw[HF.out];exact HO2.out⟩
  ·cases h3:whoB who
   ·have HF:Hid (lockS t who l=(t,1)):=Lh (by unfold lockS;rw[h3];simp)
    obtain ⟨B,d',rfl,hrd⟩:=HO2.out.form
    have HD:=Lh hrd
    clear hrd
    go_wp2_with (first
     | (go_at_call 98;refine (rcells_any l _ _ _ _ (HW.out.below HO2.out.2) hm).mono ?_;rintro e w' ⟨rfl,rfl⟩)
     | (go_at_call 97;refine (rwho_any _ _).mono ?_;rintro e w' ⟨rfl,rfl⟩))
    go_ret2
    exact ⟨B,d',by rw[HF.out];rfl,by rw[HF.out];exact HO2.out⟩
   ·have HOK:Hid ((rightB t && whoB who && cellsB l)=true):=Lh (by rw[H1.out,h2,h3];rfl)
    have HPS:Hid (ofS t l=pick (hit t.length l) t.length):=Lh (by unfold ofS;rw[H1.out,h2];rfl)
    go_wp2_with (first
     | (go_at_call 98;refine (rcells_any l _ _ _ _ (HW.out.below HO2.out.2) hm).mono ?_;rintro e w' ⟨rfl,rfl⟩)
     | (go_at_call 97;refine (rwho_any _ _).mono ?_;rintro e w' ⟨rfl,rfl⟩))
    obtain ⟨q,hq⟩:∃q,(ofS t l).length=q:=⟨_,rfl⟩
    have HQ:=Lh hq
    have hqn:q≤n:=by rw[←hq,←HL.out];exact of_len t l
    clear hq h2 h3
    refine (of_o t l _ _ _ _ _ _ _ _ q (HR.out.below HO2.out.2) (HW.out.below HO2.out.2) hn hm rfl HQ.out).mono ?_
    rintro e w3 ⟨v3,rfl,ho3⟩
    have HO3:=Lh (HO2.out.below ho3.2)
    obtain ⟨B,d',rfl,hrd⟩:=ho3.form
    have HP3:=Lh ho3
    have HD:=Lh hrd
    clear hrd ho3
    have HPL:Hid (Places n (ofS t l)):=Lh (by rw[HPS.out,HL.out];exact places_pick _ _)
    cases h4:mayAll t who l
    ·have HM:Hid ((ofS t l).all (mayB t who)=false):=Lh (by rw[HPS.out,may_all t who l H1.out,h4])
     have HF:Hid (lockS t who l=(t,7)):=Lh (by unfold lockS;rw[if_pos HOK.out,h4];rfl)
     clear h4
     obtain ⟨B',d'',rfl,hrd⟩:=HO3.out.form
     have HD' :=Lh hrd
     clear hrd
     go_wp2_with (go_at_call 100;refine (mayhold_any t (ofS t l) _ _ _ _ _ _ _ _ false (HR.out.below HO3.out.2) HD.out (by omega) HPL.out HM.out).mono ?_;rintro e w' ⟨rfl,rfl⟩)
     go_ret2
     exact ⟨B',d'',by rw[HF.out];rfl,by rw[HF.out];exact HO3.out⟩
    ·have HM:Hid ((ofS t l).all (mayB t who)=true):=Lh (by rw[HPS.out,may_all t who l H1.out,h4])
     have HF:Hid (lockS t who l=(setAll (ownF who) t (ofS t l),0)):=Lh (by unfold lockS;rw[if_pos HOK.out,h4,HPS.out,lock_setAll];rfl)
     clear h4
     have hn0:0<n:=by have:=((right_iff t).1 H1.out).1.1;rw[HL.out]at this;exact this
     obtain ⟨g,cap,rfl⟩:=own_lay HO3.out hn0
     have HNE:=Lh (HO2.out.other HP3.out)
     go_wp2_with (go_at_call 100;refine (mayhold_any t (ofS t l) _ _ _ _ _ _ _ _ true (HR.out.below HO3.out.2) HD.out (by omega) HPL.out HM.out).mono ?_;rintro e w' ⟨rfl,rfl⟩)
     go_loopw [39] (fun i wr=>∃j:Nat,j≤q∧i=.int .i64 j∧Hid (Own w wr 92 2 (.slice (some ⟨g,0,none⟩) n cap) n (rs (setAll (ownF who) t ((ofS t l).take j))))∧Hid (Rd wr 1 B q (zs (ofS t l)))) (fun i _=>q - (intOf i).toNat)
     case atStart=>exact ⟨0,Nat.zero_le _,rfl,HO3,HD⟩
     case round=>
      obtain ⟨j,hj,rfl,hown,HDr⟩:=hrel
      by_cases hlt:j<q
      ·obtain ⟨b,off,x,rfl,hx,c0⟩:=at_z HDr.out j hlt
       have HS:=Lh (setAll_take (ownF who) t (ofS t l) j x hx)
       obtain ⟨k,hkn,rfl⟩:=HPL.out x (List.mem_of_getElem? hx)
       rw[Int.toNat_natCast]at HS
       obtain ⟨y,hy⟩:∃y,(setAll (ownF who) t ((ofS t l).take j))[k]?=some y:=⟨_,List.getElem?_eq_getElem (by rw[setAll_len,HL.out];exact hkn)⟩
       have HM2:=Lh (modify_set (ownF who) _ k _ hy)
       have HRS:=Lh (rs_owner _ k _ who hy)
       have f1:=hown.out.1.frozenAt (k * 2+1)
       have c1:=(hown.out.1.cellAt (k * 2+1) (by omega)).trans (rs_1 _ k _ hy)
       clear hx hy
       go_wp2
       go_roundw
       case rel=>
        refine ⟨j+1,by omega,by go_num,Lh ?_,Lh (HDr.out.set_other HNE.out _ _)⟩
        have:=own_set hown.out (k * 2+1) (.int .i64 who)
        rw[HRS.out]at this
        rw[HS.out,HM2.out]
        exact this
       case measure=>simp[intOf];omega
      ·have HT:Hid ((ofS t l).take j=ofS t l):=Lh (List.take_of_length_le (by rw[HQ.out];omega))
       rw[HT.out]at hown
       go_wp2
       go_ret2
       exact ⟨_,_,by rw[HF.out];rfl,by rw[HF.out];exact hown.out⟩
theorem let_w (t:List Rec) (A:Option Addr) (n c:Nat) (who:Int) (w:World) (r:List Rec) (hr:Rd w 2 A n (rs t)) (hn:n≤1000000) (hlt:letS t who=r):
  Calls Tryz.prog 142 #[.slice A n c,.int .i64 who] w (RetW w n (rs r)):=by
 subst hlt
 have HL:=Lh (rs_len hr)
 have HR:=Lh hr
 clear hr
 obtain ⟨q,hq⟩:∃q,(heldS t who).length=q:=⟨_,rfl⟩
 have HQ:=Lh hq
 have hqn:q≤n:=by rw[←hq,←HL.out];exact held_len' t who
 have HPL:Hid (Places n (heldS t who)):=Lh (by
  unfold heldS;split
  ·rw[HL.out];exact places_pick _ _
  ·intro p hp;cases hp)
 have HF:Hid (letS t who=setAll (ownF 0) t (heldS t who)):=Lh (by
  unfold letS heldS;split
  ·rw[held_map t who (ownF 0) (fun _=>rfl)];rfl
  ·rfl)
 clear hq
 go_enter Tryz.func142,Tryz.ntmps142
 go_wp2_with fail
 refine (clone_any t _ _ _ _ HR.out hn).mono ?_
 rintro e w1 ⟨v,rfl,ho⟩
 have HO:=Lh ho
 clear ho
 go_wp2_with fail
 refine (held_o t _ _ _ _ _ _ q (HR.out.below HO.out.2) hn rfl HQ.out).mono ?_
 rintro e w3 ⟨v3,rfl,ho3⟩
 have HO3:=Lh (HO.out.below ho3.2)
 obtain ⟨B,d',rfl,hrd⟩:=ho3.form
 have HP3:=Lh ho3
 have HD:=Lh hrd
 clear hrd ho3
 rcases Nat.eq_zero_or_pos n with h0 | hn0
 ·have hq0:q=0:=by omega
  subst h0 hq0
  obtain ⟨B',d'',rfl,hrd⟩:=HO3.out.form
  have HD' :=Lh hrd
  have HE:Hid (setAll (ownF 0) t (heldS t who)=t):=Lh (by
   have:heldS t who= []:=List.eq_nil_of_length_eq_zero HQ.out
   rw[this];rfl)
  clear hrd
  go_wp2_with fail
  refine wp_loop_rounds 1 ?_
  rw[rounds_succ]
  go_wp2
  go_ret
  exact ⟨B',d'',rfl,by rw[HF.out,HE.out];exact HO3.out⟩
 ·obtain ⟨g,cap,rfl⟩:=own_lay HO3.out hn0
  have HNE:=Lh (HO.out.other HP3.out)
  go_wp2_with fail
  go_loopw [14] (fun i wr=>∃j:Nat,j≤q∧i=.int .i64 j∧Hid (Own w wr 92 2 (.slice (some ⟨g,0,none⟩) n cap) n (rs (setAll (ownF 0) t ((heldS t who).take j))))∧Hid (Rd wr 1 B q (zs (heldS t who)))) (fun i _=>q - (intOf i).toNat)
  case atStart=>exact ⟨0,Nat.zero_le _,rfl,HO3,HD⟩
  case round=>
   obtain ⟨j,hj,rfl,hown,HDr⟩:=hrel
   by_cases hlt:j<q
   ·obtain ⟨b,off,x,rfl,hx,c0⟩:=at_z HDr.out j hlt
    have HS:=Lh (setAll_take (ownF 0) t (heldS t who) j x hx)
    obtain ⟨k,hkn,rfl⟩:=HPL.out x (List.mem_of_getElem? hx)
    rw[Int.toNat_natCast]at HS
    obtain ⟨y,hy⟩:∃y,(setAll (ownF 0) t ((heldS t who).take j))[k]?=some y:=⟨_,List.getElem?_eq_getElem (by rw[setAll_len,HL.out];exact hkn)⟩
    have HM2:=Lh (modify_set (ownF 0) _ k _ hy)
    have HRS:=Lh (rs_owner _ k _ 0 hy)
    have f1:=hown.out.1.frozenAt (k * 2+1)
    have c1:=(hown.out.1.cellAt (k * 2+1) (by omega)).trans (rs_1 _ k _ hy)
    clear hx hy
    go_wp2
    go_roundw
    case rel=>
     refine ⟨j+1,by omega,by go_num,Lh ?_,Lh (HDr.out.set_other HNE.out _ _)⟩
     have:=own_set hown.out (k * 2+1) (.int .i64 0)
     rw[HRS.out]at this
     rw[HS.out,HM2.out]
     exact this
    case measure=>simp[intOf];omega
   ·have HT:Hid ((heldS t who).take j=heldS t who):=Lh (List.take_of_length_le (by rw[HQ.out];omega))
    rw[HT.out]at hown
    go_wp2
    go_ret
    exact ⟨_,_,rfl,by rw[HF.out];exact hown.out⟩
theorem stamp_w (t:List Rec) (A:Option Addr) (n c:Nat) (who ver:Int) (w:World) (r:List Rec × Int) (hr:Rd w 2 A n (rs t)) (hn:n≤1000000) (hst:stampS t who ver=r):
  Calls Tryz.prog 46 #[.slice A n c,.int .i64 who,.int .i64 ver] w (RetWE w n (rs r.1) r.2):=by
 subst hst
 have HL:=Lh (rs_len hr)
 have HR:=Lh hr
 clear hr
 go_enter Tryz.func46,Tryz.ntmps46
 go_wp2_with fail
 refine (clone_any t _ _ _ _ HR.out hn).mono ?_
 rintro e w1 ⟨v,rfl,ho⟩
 have HO:=Lh ho
 clear ho
 go_wp2_with fail
 cases h1:rightB t
 ·have HF:Hid (stampS t who ver=(t,1)):=Lh (by unfold stampS;rw[h1];rfl)
  have H1:=Lh h1
  clear h1
  refine (right_c t _ _ _ _ false (HR.out.below HO.out.2) hn H1.out).mono ?_
  rintro e w2 ⟨rfl,b2⟩
  have HO2:=Lh (HO.out.below b2)
  clear b2 HO
  obtain ⟨B,d',rfl,hrd⟩:=HO2.out.form
  have HD:=Lh hrd
  clear hrd
  go_wp2_with fail
  go_ret2
  exact ⟨B,d',by rw[HF.out];rfl,by rw[HF.out];exact HO2.out⟩
 ·have H1 :=Lh h1
  clear h1
  refine (right_c t _ _ _ _ true (HR.out.below HO.out.2) hn H1.out).mono ?_
  rintro e w2 ⟨rfl,b2⟩
  have HO2:=Lh (HO.out.below b2)
  clear b2 HO
  cases h2:whoB who
  ·have HF:Hid (stampS t who ver=(t,1)):=Lh (by unfold stampS;rw[h2];simp)
   obtain ⟨B,d',rfl,hrd⟩:=HO2.out.form
   have HD:=Lh hrd
   clear hrd
   go_wp2_with (go_at_call 97;refine (rwho_any _ _).mono ?_;rintro e w' ⟨rfl,rfl⟩)
   go_ret2
   exact ⟨B,d',by rw[HF.out];rfl,by rw[HF.out];exact HO2.out⟩
  ·have HOK:Hid ((rightB t && whoB who)=true):=Lh (by rw[H1.out,h2];rfl)
   have HPS:Hid (heldS t who=pick (holds t who) t.length):=Lh (by unfold heldS;rw[if_pos HOK.out])
   go_wp2_with (go_at_call 97;refine (rwho_any _ _).mono ?_;rintro e w' ⟨rfl,rfl⟩)
   obtain ⟨q,hq⟩:∃q,(heldS t who).length=q:=⟨_,rfl⟩
   have HQ:=Lh hq
   have hqn:q≤n:=by rw[←hq,←HL.out];exact held_len' t who
   clear hq h2
   refine (held_o t _ _ _ _ _ _ q (HR.out.below HO2.out.2) hn rfl HQ.out).mono ?_
   rintro e w3 ⟨v3,rfl,ho3⟩
   have HO3:=Lh (HO2.out.below ho3.2)
   obtain ⟨B,d',rfl,hrd⟩:=ho3.form
   have HP3:=Lh ho3
   have HD:=Lh hrd
   clear hrd ho3
   have HPL:Hid (Places n (heldS t who)):=Lh (by rw[HPS.out,HL.out];exact places_pick _ _)
   cases h3:verB ver
   ·have HF:Hid (stampS t who ver=(t,6)):=Lh (by
     unfold stampS;rw[if_pos HOK.out,if_neg]
     unfold verB at h3;simpa using h3)
    obtain ⟨B',d'',rfl,hrd⟩:=HO3.out.form
    have HD' :=Lh hrd
    clear hrd
    go_wp2_with (go_at_call 101;refine (version_any _ _).mono ?_;rintro e w' ⟨rfl,rfl⟩)
    go_ret2
    exact ⟨B',d'',by rw[HF.out];rfl,by rw[HF.out];exact HO3.out⟩
   ·have HV:Hid (0≤ver∧ver≤2147483647):=Lh (by unfold verB at h3;simpa using h3)
    cases h4:t.all (below1 who ver)
    ·have HM:Hid ((heldS t who).all (aboveB t ver)=false):=Lh (by rw[HPS.out,above_all,h4])
     have HF:Hid (stampS t who ver=(t,6)):=Lh (by unfold stampS;rw[if_pos HOK.out,if_pos HV.out,h4];rfl)
     clear h4
     obtain ⟨B',d'',rfl,hrd⟩:=HO3.out.form
     have HD' :=Lh hrd
     clear hrd
     go_wp2_with (first
      | (go_at_call 101;refine (version_any _ _).mono ?_;rintro e w' ⟨rfl,rfl⟩)
      | (go_at_call 102;refine (above_any t (heldS t who) _ _ _ _ _ _ _ _ false (HR.out.below HO3.out.2) HD.out (by omega) HPL.out HM.out).mono ?_;rintro e w' ⟨rfl,rfl⟩))
     go_ret2
     exact ⟨B',d'',by rw[HF.out];rfl,by rw[HF.out];exact HO3.out⟩
    ·have HM:Hid ((heldS t who).all (aboveB t ver)=true):=Lh (by rw[HPS.out,above_all,h4])
     have HF:Hid (stampS t who ver=(setAll (verF ver) t (heldS t who),0)):=Lh (by
      unfold stampS;rw[if_pos HOK.out,if_pos HV.out,h4,HPS.out,held_map t who (verF ver) (fun _=>rfl)];rfl)
     clear h4
     have hn0:0<n:=by have:=((right_iff t).1 H1.out).1.1;rw[HL.out]at this;exact this
     obtain ⟨g,cap,rfl⟩:=own_lay HO3.out hn0
     have HNE:=Lh (HO2.out.other HP3.out)
     go_wp2_with (first
      | (go_at_call 101;refine (version_any _ _).mono ?_;rintro e w' ⟨rfl,rfl⟩)
      | (go_at_call 102;refine (above_any t (heldS t who) _ _ _ _ _ _ _ _ true (HR.out.below HO3.out.2) HD.out (by omega) HPL.out HM.out).mono ?_;rintro e w' ⟨rfl,rfl⟩))
     go_loopw [39] (fun i wr=>∃j:Nat,j≤q∧i=.int .i64 j∧Hid (Own w wr 92 2 (.slice (some ⟨g,0,none⟩) n cap) n (rs (setAll (verF ver) t ((heldS t who).take j))))∧Hid (Rd wr 1 B q (zs (heldS t who)))) (fun i _=>q - (intOf i).toNat)
     case atStart=>exact ⟨0,Nat.zero_le _,rfl,HO3,HD⟩
     case round=>
      obtain ⟨j,hj,rfl,hown,HDr⟩:=hrel
      by_cases hlt:j<q
      ·obtain ⟨b,off,x,rfl,hx,c0⟩:=at_z HDr.out j hlt
       have HS:=Lh (setAll_take (verF ver) t (heldS t who) j x hx)
       obtain ⟨k,hkn,rfl⟩:=HPL.out x (List.mem_of_getElem? hx)
       rw[Int.toNat_natCast]at HS
       obtain ⟨y,hy⟩:∃y,(setAll (verF ver) t ((heldS t who).take j))[k]?=some y:=⟨_,List.getElem?_eq_getElem (by rw[setAll_len,HL.out];exact hkn)⟩
       have HM2:=Lh (modify_set (verF ver) _ k _ hy)
       have HRS:=Lh (rs_both _ k _ ver 0 hy)
       have f0:=hown.out.1.frozenAt (k * 2)
       have f1:=hown.out.1.frozenAt (k * 2+1)
       have c1:=(hown.out.1.cellAt (k * 2) (by omega)).trans (rs_0 _ k _ hy)
       have c2:=(hown.out.1.cellAt (k * 2+1) (by omega)).trans (rs_1 _ k _ hy)
       clear hx hy
       go_wp2
       go_roundw
       case rel=>
        refine ⟨j+1,by omega,by go_num,Lh ?_,Lh ((HDr.out.set_other HNE.out _ _).set_other HNE.out _ _)⟩
        have:=own_set (own_set hown.out (k * 2) (.int .i64 ver)) (k * 2+1) (.int .i64 0)
        rw[HRS.out]at this
        rw[HS.out,HM2.out]
        exact this
       case measure=>simp[intOf];omega
      ·have HT:Hid ((heldS t who).take j=heldS t who):=Lh (List.take_of_length_le (by rw[HQ.out];omega))
       rw[HT.out]at hown
       go_wp2
       go_ret2
       exact ⟨_,_,by rw[HF.out];rfl,by rw[HF.out];exact hown.out⟩
end Go.Proofs.YtgghaodcfgbjlaaGreat.Stripe
namespace Go.Proofs.YtgghaodcfgbjlaaGreat.Tick
open Mem
def timeB (n:Int):Bool:=decide (0≤n∧n≤2147483647)
def afterS (now ticks:Int):Int × Int:=if 0≤now∧now≤2147483647∧0<ticks then (if 2147483647<now+ticks then (0,6) else (now+ticks,0)) else (0,1)
def nextS (n:Int):Int × Int:=if 0≤n∧n≤2147483647 then (if 2147483647<n+1 then (0,6) else (n+1,0)) else (0,1)
end Go.Proofs.YtgghaodcfgbjlaaGreat.Tick
namespace Go.Proofs.YtgghaodcfgbjlaaGreat.Tick
open Go.ChangeShapes Go.WideShapes Go.ChangeAt Go.RowKit Mem
theorem right_any (n:Int) (w:World):
  Calls Tryz.prog 51 #[.int .i64 n] w fun e w' =>e=.returned (.bool (timeB n))∧w=w' :=by
 by_cases h1:0≤n
 all_goals by_cases h2:n≤2147483647
 all_goals
  go_enter Tryz.func51,Tryz.ntmps51
  go_wp2
  go_ret
  exact ⟨ret_bool (by unfold timeB;simp[h1,h2]),rfl⟩
theorem after_any (n k:Int) (w:World) (h1: -9223372036854775808≤k) (h2:k≤9223372036854775807):
  Calls Tryz.prog 214 #[.int .i64 n,.int .i64 k] w fun e w' =>e=.returned (.tuple #[.int .i64 (afterS n k).1,.int .i64 (afterS n k).2])∧w=w' :=by
 cases ht:timeB n with
 | false=>
  have HF:Hid (afterS n k=(0,1)):=Lh (by
   unfold timeB at ht;rw[decide_eq_false_iff_not]at ht
   unfold afterS;rw[if_neg (by omega)])
  go_enter Tryz.func214,Tryz.ntmps214
  go_wp2_with (go_at_call 51;refine (right_any _ _).mono ?_;rintro e w' ⟨rfl,rfl⟩)
  go_ret2
  exact ⟨by rw[HF.out];rfl,rfl⟩
 | true =>
  have hn:0≤n∧n≤2147483647:=by unfold timeB at ht;exact of_decide_eq_true ht
  obtain ⟨n1,n2⟩:=hn
  by_cases hk:k<1
  ·have HF:Hid (afterS n k=(0,1)):=Lh (by unfold afterS;rw[if_neg (by omega)])
   go_enter Tryz.func214,Tryz.ntmps214
   go_wp2_with (go_at_call 51;refine (right_any _ _).mono ?_;rintro e w' ⟨rfl,rfl⟩)
   go_ret2
   exact ⟨by rw[HF.out];rfl,rfl⟩
  ·by_cases hc:2147483647 - n<k
   ·have HF:Hid (afterS n k=(0,6)):=Lh (by unfold afterS;rw[if_pos (by omega),if_pos (by omega)])
    go_enter Tryz.func214,Tryz.ntmps214
    go_wp2_with (go_at_call 51;refine (right_any _ _).mono ?_;rintro e w' ⟨rfl,rfl⟩)
    go_ret2
    exact ⟨by rw[HF.out];rfl,rfl⟩
   ·have HF:Hid (afterS n k=(n+k,0)):=Lh (by unfold afterS;rw[if_pos (by omega),if_neg (by omega)])
    go_enter Tryz.func214,Tryz.ntmps214
    go_wp2_with (go_at_call 51;refine (right_any _ _).mono ?_;rintro e w' ⟨rfl,rfl⟩)
    go_ret2
    exact ⟨by rw[HF.out];rfl,rfl⟩
theorem next_after (n:Int):nextS n=afterS n 1:=by
 unfold nextS afterS
 by_cases h1:0≤n∧n≤2147483647
 ·obtain ⟨h1,h2⟩:=h1
  simp[h1,h2]
 ·have h2:¬(0≤n∧n≤2147483647∧(0:Int)<1):=by omega
  rw[if_neg h1,if_neg h2]
theorem next_any (n:Int) (w:World):
  Calls Tryz.prog 180 #[.int .i64 n] w fun e w' =>e=.returned (.tuple #[.int .i64 (nextS n).1,.int .i64 (nextS n).2])∧w=w' :=by
 rw[next_after]
 go_enter Tryz.func180,Tryz.ntmps180
 go_wp2_with (go_at_call 214;refine (after_any _ _ _ (by decide) (by decide)).mono ?_;rintro e w' ⟨rfl,rfl⟩)
 go_ret2
 exact ⟨rfl,rfl⟩
end Go.Proofs.YtgghaodcfgbjlaaGreat.Tick
