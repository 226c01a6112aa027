/-
 PLAIN DEFINITIONS: worlds, commits, and what the chapter on commits asks of them. No conditions. Nothing of the program is named here.
-/
import Derived.Test.YtgghaodcfgbjlaaGreatAttA
import Derived.Test.YtgghaodcfgbjlaaGreatStripeA
import Derived.Laws.CopyRow
import Derived.Test.YtgghaodcfgbjlaaGreatReadsB
import Derived.Test.YtgghaodcfgbjlaaGreatMemA
import Derived.Laws.Tables
import Derived.Deep.RegionHeld
import Derived.Test.YtgghaodcfgbjlaaGreatAttF
import Derived.Test.YtgghaodcfgbjlaaGreatModB
set_option maxRecDepth 100000
namespace Go.Proofs.YtgghaodcfgbjlaaGreat.Commit
open Mem Go.Proofs.YtgghaodcfgbjlaaGreat.Attempt
structure Wd where
 h:List Heap.Cell
 r:List Stripe.Rec
 k:Int
structure Com where
 t:Try
 ph:Int
 v:Int
 e:Int
def aboveB (r:List Stripe.Rec) (k:Int):Bool:=r.all (fun x=>decide (x.version≤k))
def rightW (W:Wd):Bool:=Heap.rightB W.h && (Stripe.rightB W.r && (Reads.timeB W.k && aboveB W.r W.k))
def lastC (c:Com):List Heap.Write:=Writes.lastS c.t.log
def cellsC (c:Com):List Int:=(lastC c).map Heap.Write.cell
def beginC (t:Try):Com × Bool:=if t.kind=1 then ((if lastC ⟨t,0,0,0⟩= [] then ⟨t,5,t.snap,0⟩ else ⟨t,0,0,0⟩),true) else (⟨none_,0,0,0⟩,false)
def phaseB (p:Int):Bool:=decide (0≤p∧p≤4)
def lockC (c:Com) (W:Wd):Com × Wd × Int:=(c,{ W with r:=(Stripe.lockS W.r c.t.who (cellsC c)).1 },(Stripe.lockS W.r c.t.who (cellsC c)).2)
def tickC (c:Com) (W:Wd):Com × Wd × Int:=
 if (Tick.nextS W.k).2=0 then ({ c with v:=(Tick.nextS W.k).1 },{ W with k:=(Tick.nextS W.k).1 },0) else (c,W,(Tick.nextS W.k).2)
def checkC (c:Com) (W:Wd):Com × Wd × Int:=(c,W,Reads.validS c.t.reads W.r c.t.who)
def putC (c:Com) (W:Wd):Com × Wd × Int:=(c,{ W with h:=(Heap.putS W.h (lastC c)).1 },(Heap.putS W.h (lastC c)).2)
def stampC (c:Com) (W:Wd):Com × Wd × Int:=(c,{ W with r:=(Stripe.stampS W.r c.t.who c.v).1 },(Stripe.stampS W.r c.t.who c.v).2)
def doC (c:Com) (W:Wd):Com × Wd × Int:=
 if c.ph=0 then lockC c W else if c.ph=1 then tickC c W else if c.ph=2 then checkC c W else if c.ph=3 then putC c W else stampC c W
def outC (c:Com) (W:Wd) (e:Int):Com × Wd:=({ c with ph:=6,v:=0,e:=e },{ W with r:=Stripe.letS W.r c.t.who })
def goC (c:Com) (W:Wd):Com × Wd:=
 if (doC c W).2.2=0 then ({ (doC c W).1 with ph:=(doC c W).1.ph+1 },(doC c W).2.1) else outC (doC c W).1 (doC c W).2.1 (doC c W).2.2
def stepC (c:Com) (W:Wd):(Com × Wd) × Int:=if (rightW W && phaseB c.ph)=true then (goC c W,0) else ((c,W),1)
def allF:Nat→Com→Wd→(Com × Wd) × Int
 | 0,c,W=>((c,W),0)
 | f+1,c,W=>if c.ph=5∨c.ph=6 then ((c,W),0) else (if (stepC c W).2=0 then allF f (stepC c W).1.1 (stepC c W).1.2 else ((c,W),(stepC c W).2))
def allC (c:Com) (W:Wd):(Com × Wd) × Int:=if (allF 6 c W).2=0 then allF 6 c W else ((c,W),(allF 6 c W).2)
def dropC (c:Com) (W:Wd):Com × Wd:=
 if rightW W=true then (if 0≤c.ph∧c.ph≤2 then outC c W 8 else (allC c W).1) else (c,W)
theorem do_t (c:Com) (W:Wd):(doC c W).1.t=c.t∧(doC c W).1.ph=c.ph∧(doC c W).1.e=c.e:=by
 unfold doC
 split
 ·exact ⟨rfl,rfl,rfl⟩
 split
 ·unfold tickC;split <;> exact ⟨rfl,rfl,rfl⟩
 split
 ·exact ⟨rfl,rfl,rfl⟩
 split
 ·exact ⟨rfl,rfl,rfl⟩
 ·exact ⟨rfl,rfl,rfl⟩
theorem go_t (c:Com) (W:Wd):(goC c W).1.t=c.t∧((goC c W).1.ph=c.ph+1∨(goC c W).1.ph=6):=by
 obtain ⟨h1,h2,_⟩:=do_t c W
 unfold goC
 split
 ·exact ⟨h1,.inl (by show (doC c W).1.ph+1=_;rw[h2])⟩
 ·exact ⟨h1,.inr rfl⟩
theorem step_ok (c:Com) (W:Wd) (h:(stepC c W).2=0):rightW W=true∧0≤c.ph∧c.ph≤4∧(stepC c W).1=goC c W:=by
 unfold stepC at h ⊢
 split at h
 ·rename_i h1
  rw[if_pos h1]
  rw[Bool.and_eq_true]at h1
  have h2:=h1.2
  unfold phaseB at h2
  rw[decide_eq_true_eq]at h2
  exact ⟨h1.1,h2.1,h2.2,rfl⟩
 ·simp at h
theorem do_len (c:Com) (W:Wd):(doC c W).2.1.r.length=W.r.length∧(doC c W).2.1.h.length=W.h.length:=by
 have l1:∀(t:List Stripe.Rec) (who:Int) (l:List Int),(Stripe.lockS t who l).1.length=t.length:=by
  intro t who l;unfold Stripe.lockS;split
  ·split
   ·simp[Stripe.lockAll]
   ·rfl
  ·rfl
 have l2:∀(t:List Stripe.Rec) (who v:Int),(Stripe.stampS t who v).1.length=t.length:=by
  intro t who v;unfold Stripe.stampS;split
  ·split
   ·split <;> simp
   ·rfl
  ·rfl
 have l3:∀(h:List Heap.Cell) (l:List Heap.Write),(Heap.putS h l).1.length=h.length:=by
  intro h l;unfold Heap.putS;split
  ·split
   ·exact Heap.putAll_len h l
   ·rfl
  ·rfl
 unfold doC
 split
 ·exact ⟨l1 _ _ _,rfl⟩
 split
 ·unfold tickC;split <;> exact ⟨rfl,rfl⟩
 split
 ·exact ⟨rfl,rfl⟩
 split
 ·exact ⟨rfl,l3 _ _⟩
 ·exact ⟨l2 _ _ _,rfl⟩
theorem let_len (t:List Stripe.Rec) (who:Int):(Stripe.letS t who).length=t.length:=by unfold Stripe.letS;split <;> simp
theorem go_len (c:Com) (W:Wd):(goC c W).2.r.length=W.r.length∧(goC c W).2.h.length=W.h.length:=by
 obtain ⟨h1,h2⟩:=do_len c W
 unfold goC
 split
 ·exact ⟨h1,h2⟩
 ·exact ⟨(let_len _ _).trans h1,h2⟩
theorem allF_end (f:Nat) (c:Com) (W:Wd) (h:c.ph=5∨c.ph=6):allF f c W=((c,W),0):=by
 cases f with
 | zero=>rfl
 | succ f=>unfold allF;rw[if_pos h]
theorem allF_step (f:Nat) (c:Com) (W:Wd) (h:¬(c.ph=5∨c.ph=6)) (h0:(stepC c W).2=0):allF (f+1) c W=allF f (goC c W).1 (goC c W).2:=by
 obtain ⟨_,_,_,h4⟩:=step_ok c W h0
 show (if c.ph=5∨c.ph=6 then _ else _)=_
 rw[if_neg h,if_pos h0,h4]
theorem allF_no (f:Nat) (c:Com) (W:Wd) (h:¬(c.ph=5∨c.ph=6)) (h0:(stepC c W).2≠0):allF (f+1) c W=((c,W),(stepC c W).2):=by
 show (if c.ph=5∨c.ph=6 then _ else _)=_
 rw[if_neg h,if_neg h0]
def left (c:Com):Nat:=if c.ph=5∨c.ph=6 then 0 else if 0≤c.ph∧c.ph≤4 then (5 - c.ph).toNat else 1
theorem left_go (c:Com) (W:Wd) (h:(stepC c W).2=0):left (goC c W).1<left c:=by
 obtain ⟨_,h1,h2,_⟩:=step_ok c W h
 have hl:left c=(5 - c.ph).toNat:=by unfold left;rw[if_neg (by omega),if_pos ⟨h1,h2⟩]
 rw[hl]
 rcases (go_t c W).2 with h3 | h3
 ·unfold left
  rw[h3]
  split
  ·omega
  ·split <;> omega
 ·unfold left
  rw[if_pos (.inr h3)]
  omega
theorem left_le (c:Com):left c≤5:=by unfold left;split <;> first | omega | (split <;> omega)
theorem above_iff (r:List Stripe.Rec) (k:Int):aboveB r k=true↔∀(i:Nat) (x:Stripe.Rec),r[i]?=some x→x.version≤k:=by
 unfold aboveB
 rw[Stripe.all_idx]
 constructor
 ·intro h i x hx;have:=h i x hx;rwa [decide_eq_true_eq]at this
 ·intro h i x hx;rw[decide_eq_true_eq];exact h i x hx
theorem lock_one (r:List Stripe.Rec) (who:Int) (l:List Int):(Stripe.lockS r who l).1=r∨((Stripe.rightB r && Stripe.whoB who && Stripe.cellsB l)=true∧(Stripe.lockS r who l).1=Stripe.lockAll r who l):=by
 unfold Stripe.lockS
 split
 ·rename_i h
  split
  ·exact .inr ⟨h,rfl⟩
  ·exact .inl rfl
 ·exact .inl rfl
theorem lock_above (r:List Stripe.Rec) (who k:Int) (l:List Int) (h:aboveB r k=true):aboveB (Stripe.lockS r who l).1 k=true:=by
 rcases lock_one r who l with e | ⟨_,e⟩
 ·rw[e];exact h
 ·rw [e,above_iff]
  intro i y hy
  obtain ⟨x,hx,rfl⟩:=Stripe.lock_idx r who l i y hy
  have:=(above_iff r k).1 h i x hx
  unfold Stripe.lock1
  split <;> exact this
theorem lock_right_ (r:List Stripe.Rec) (who:Int) (l:List Int) (h:Stripe.rightB r=true) (hw:Stripe.whoB who=true):Stripe.rightB (Stripe.lockS r who l).1=true:=by
 rcases lock_one r who l with e | ⟨_,e⟩
 ·rw[e];exact h
 ·rw[e];exact Stripe.lock_right r who l h hw
theorem let_above (r:List Stripe.Rec) (who k:Int) (h:aboveB r k=true):aboveB (Stripe.letS r who) k=true:=by
 rw[above_iff]
 intro i y hy
 obtain ⟨x,hx,rfl⟩:=Stripe.let_idx r who i y hy
 have:=(above_iff r k).1 h i x hx
 split <;> exact this
theorem stamp_cases (r:List Stripe.Rec) (who v:Int):((Stripe.stampS r who v).2≠0∧(Stripe.stampS r who v).1=r)∨((Stripe.rightB r && Stripe.whoB who)=true∧0≤v∧v≤2147483647∧r.all (Stripe.below1 who v)=true∧Stripe.stampS r who v=(r.map (Stripe.stamp1 who v),0)):=by
 unfold Stripe.stampS
 split
 ·rename_i h
  split
  ·rename_i h2
   split
   ·rename_i h3;exact .inr ⟨h,h2.1,h2.2,h3,rfl⟩
   ·exact .inl ⟨by simp,rfl⟩
  ·exact .inl ⟨by simp,rfl⟩
 ·exact .inl ⟨by simp,rfl⟩
theorem stamp_right_ (r:List Stripe.Rec) (who v:Int) (h:Stripe.rightB r=true):Stripe.rightB (Stripe.stampS r who v).1=true:=by
 rcases stamp_cases r who v with ⟨_,e⟩ | ⟨_,h0,h1,_,e⟩
 ·rw[e];exact h
 ·rw [e]
  obtain ⟨hl,hr⟩:=(Stripe.right_iff r).1 h
  refine (Stripe.right_iff _).2 ⟨by simpa using hl,fun k y hy=>?_⟩
  rw[List.getElem?_map]at hy
  cases hx:r[k]? with
  | none=>rw[hx]at hy;cases hy
  | some x=>
   rw[hx]at hy
   injection hy with hy
   subst hy
   have:=(Stripe.rec_iff x).1 (hr k x hx)
   unfold Stripe.stamp1
   split
   ·exact (Stripe.rec_iff _).2 ⟨h0,h1,Int.le_refl _,by show (0:Int)≤8;decide⟩
   ·exact hr k x hx
theorem stamp_above (r:List Stripe.Rec) (who v k:Int) (h:aboveB r k=true) (hv:v≤k):aboveB (Stripe.stampS r who v).1 k=true:=by
 rcases stamp_cases r who v with ⟨_,e⟩ | ⟨_,_,_,_,e⟩
 ·rw[e];exact h
 ·rw [e,above_iff]
  intro i y hy
  rw[List.getElem?_map]at hy
  cases hx:r[i]? with
  | none=>rw[hx]at hy;cases hy
  | some x=>
   rw[hx]at hy
   injection hy with hy
   subst hy
   have:=(above_iff r k).1 h i x hx
   unfold Stripe.stamp1
   split
   ·exact hv
   ·exact this
theorem right_parts (W:Wd):rightW W=true↔Heap.rightB W.h=true∧Stripe.rightB W.r=true∧Reads.timeB W.k=true∧aboveB W.r W.k=true:=by
 unfold rightW;rw[Bool.and_eq_true,Bool.and_eq_true,Bool.and_eq_true]
theorem tick_cases (k:Int):((Tick.nextS k).2≠0)∨(0≤k∧k+1≤2147483647∧Tick.nextS k=(k+1,0)):=by
 unfold Tick.nextS
 split
 ·rename_i h
  split
  ·exact .inl (by decide)
  ·exact .inr ⟨h.1,by omega,rfl⟩
 ·exact .inl (by decide)
theorem put_right_ (h:List Heap.Cell) (l:List Heap.Write) (hr:Heap.rightB h=true):Heap.rightB (Heap.putS h l).1=true:=by
 unfold Heap.putS
 split
 ·rename_i h1
  rw[Bool.and_eq_true]at h1
  split
  ·exact Heap.putAll_right h l h1.1 h1.2
  ·exact hr
 ·exact hr
structure J (c:Com) (W:Wd):Prop where
 right:rightW W=true
 who:Stripe.whoB c.t.who=true
 ver:c.ph=2∨c.ph=3∨c.ph=4→c.v=W.k
 ph0:0≤c.ph∧c.ph≤6
theorem do_keep (c:Com) (W:Wd) (h:J c W) (hp:c.ph≤4):rightW (doC c W).2.1=true∧((doC c W).2.2=0→(c.ph=1∨c.ph=2∨c.ph=3→(doC c W).1.v=(doC c W).2.1.k)):=by
 obtain ⟨a,b,d,e⟩:=(right_parts W).1 h.right
 unfold doC
 by_cases h0:c.ph=0
 ·rw [if_pos h0]
  refine ⟨(right_parts _).2 ⟨a,lock_right_ _ _ _ b h.who,d,lock_above _ _ _ _ e⟩,fun _ h1=>by omega⟩
 rw[if_neg h0]
 by_cases h1:c.ph=1
 ·rw [if_pos h1]
  unfold tickC
  rcases tick_cases W.k with k1 | ⟨k1,k2,k3⟩
  ·rw [if_neg k1]
   exact ⟨h.right,fun k=>absurd k k1⟩
  ·rw [k3,if_pos rfl]
   refine ⟨(right_parts _).2 ⟨a,b,?_,(above_iff _ _).2 (fun i x hx=>?_)⟩,fun _ _=>rfl⟩
   ·unfold Reads.timeB;rw[decide_eq_true_eq];show 0≤W.k+1∧W.k+1≤_;omega
   ·have:=(above_iff _ _).1 e i x hx;show x.version≤W.k+1;omega
 rw[if_neg h1]
 by_cases h2:c.ph=2
 ·rw [if_pos h2]
  exact ⟨h.right,fun _ _=>h.ver (.inl h2)⟩
 rw[if_neg h2]
 by_cases h3:c.ph=3
 ·rw [if_pos h3]
  exact ⟨(right_parts _).2 ⟨put_right_ _ _ a,b,d,e⟩,fun _ _=>h.ver (.inr (.inl h3))⟩
 rw[if_neg h3]
 have h4:c.ph=4:=by have:=h.ph0;omega
 exact ⟨(right_parts _).2 ⟨a,stamp_right_ _ _ _ b,d,stamp_above _ _ _ _ e (by rw[h.ver (.inr (.inr h4))];exact Int.le_refl _)⟩,fun _ k=>by omega⟩
theorem out_right (c:Com) (W:Wd) (e:Int) (h:rightW W=true):rightW (outC c W e).2=true:=by
 obtain ⟨a,b,d,e⟩:=(right_parts W).1 h
 exact (right_parts _).2 ⟨a,Stripe.let_right _ _ b,d,let_above _ _ _ e⟩
theorem go_keep (c:Com) (W:Wd) (h:J c W) (hp:c.ph≤4):J (goC c W).1 (goC c W).2:=by
 obtain ⟨h1,h2⟩:=do_keep c W h hp
 obtain ⟨t1,t2,_⟩:=do_t c W
 have hph:=h.ph0
 unfold goC
 split
 ·rename_i h0
  refine ⟨h1,by rw[show ({ (doC c W).1 with ph:=(doC c W).1.ph+1 }:Com).t=c.t from t1];exact h.who,fun hv=>?_,?_⟩
  ·rw [show ({ (doC c W).1 with ph:=(doC c W).1.ph+1 }:Com).ph=c.ph+1 from by rw[←t2]]at hv
   exact h2 h0 (by omega)
  ·show 0≤(doC c W).1.ph+1∧(doC c W).1.ph+1≤6;rw[t2];omega
 ·refine ⟨out_right _ _ _ h1,by rw[show (outC (doC c W).1 (doC c W).2.1 (doC c W).2.2).1.t=c.t from t1];exact h.who,fun hv=>?_,by show (0:Int)≤6∧(6:Int)≤6;omega⟩
  have:(outC (doC c W).1 (doC c W).2.1 (doC c W).2.2).1.ph=6:=rfl
  omega
theorem step_j (c:Com) (W:Wd) (h:J c W) (hp:c.ph≤4):stepC c W=(goC c W,0):=by
 unfold stepC
 rw[h.right,show phaseB c.ph=true from by unfold phaseB;rw[decide_eq_true_eq];exact ⟨h.ph0.1,hp⟩]
 rfl
theorem all_j (c:Com) (W:Wd) (h:J c W):∀f,left c<f→(allF f c W).2=0∧J (allF f c W).1.1 (allF f c W).1.2∧((allF f c W).1.1.ph=5∨(allF f c W).1.1.ph=6):=by
 intro f
 induction f generalizing c W with
 | zero=>intro h;omega
 | succ f ih=>
  intro hf
  by_cases h5:c.ph=5∨c.ph=6
  ·rw[allF_end _ c W h5];exact ⟨rfl,h,h5⟩
  ·have hp:c.ph≤4:=by have:=h.ph0;omega
   have hs:=step_j c W h hp
   have h0:(stepC c W).2=0:=by rw[hs]
   rw[allF_step f c W h5 h0]
   have:=left_go c W h0
   exact ih _ _ (go_keep c W h hp) (by omega)
end Go.Proofs.YtgghaodcfgbjlaaGreat.Commit
namespace Go.Proofs.YtgghaodcfgbjlaaGreat.Commit
open Go.ChangeShapes Go.WideShapes Go.ChangeAt Go.RowKit Mem Go.Proofs.YtgghaodcfgbjlaaGreat.Attempt
structure WL where
 H:Option Addr
 hc:Nat
 R:Option Addr
 rc:Nat
abbrev aW (z:WL) (h:List Heap.Cell) (r:List Stripe.Rec) (k:Int):Array Value:=#[.slice z.H h.length z.hc,.slice z.R r.length z.rc,.int .i64 k]
def wvl (W:Wd) (z:WL):List Value:= [.slice z.H W.h.length z.hc,.slice z.R W.r.length z.rc,.int .i64 W.k]
def cvl (c:Com) (x:TL):List Value:=tvl c.t x++ [.int .i64 c.ph,.int .i64 c.v,.int .i64 c.e]
def WRd (w:World) (W:Wd) (z:WL):Prop:=Rd w 2 z.H W.h.length (Heap.cs W.h)∧Rd w 2 z.R W.r.length (Stripe.rs W.r)
theorem WRd.below {w w' :World} {W:Wd} {z:WL} (h:WRd w W z) (hb:Below w.heap.size w w'):WRd w' W z:=⟨h.1.below hb,h.2.below hb⟩
def Few (W:Wd):Prop:=W.h.length≤1000000∧W.r.length≤1000000
theorem row_blk {w:World} {g:Nat} {old cs:Array Value} {t:TypeId} (h:Blk w g t old):Blk (w.setRow g cs) g t cs:=setRow_heap w g old cs t (0,0) h
theorem row_only (w:World) (g:Nat) (cs:Array Value):Only (fun k=>k=g) w (w.setRow g cs):=
 Only.of_grown (r:=some g) ⟨rfl,rfl,rfl,by simp,fun k _ hk=>setRow_other w g k _ (fun e=>hk (by rw[e]))⟩ (fun k e=>by injection e with e;exact e.symm)
theorem rd_only {S:Nat→Prop} {w w' :World} {k n:Nat} {A:Option Addr} {xs:List Value} (h:Rd w k A n xs) (ho:Only S w w') (hne:∀b off,A=some ⟨b,off,none⟩→0<n→¬S b):Rd w' k A n xs:=
 ⟨h.1, fun hn=>by
  obtain ⟨b,off,e,hc⟩:=h.2 hn
  refine ⟨b,off,e,fun j u hu=>?_⟩
  have e2:=ho.block b (cell_lt (hc j u hu)) (hne b off e hn)
  have e3:=hc j u hu
  unfold World.cell? at e3 ⊢
  rw[e2];exact e3⟩
theorem own_only {S:Nat→Prop} {w0 w w' :World} {e K n m d:Nat} {B:Option Addr} {xs:List Value} (h:Own w0 w e K (.slice B n d) m xs) (hg:∀k,S k→k<w0.heap.size) (ho:Only S w w'):Rd w' K B m xs:=by
 refine rd_only (own_cap h).2.2 ho (fun b off e1 _ e2=>?_)
 have:=h.base b (by rw[e1];rfl)
 have:=hg b e2
 omega
theorem above_c (r:List Stripe.Rec) (A:Option Addr) (n c:Nat) (k:Int) (w:World) (b:Bool) (hr:Rd w 2 A n (Stripe.rs r)) (hn:n≤1000000) (hb:aboveB r k=b):
  Calls Tryz.prog 82 #[.slice A n c,.int .i64 k] w (RetB w b):=by
 subst hb
 have HL:=Lh (Stripe.rs_len hr)
 have HR:=Lh hr
 clear hr
 go_enter Tryz.func82,Tryz.ntmps82
 go_wp2
 go_loopw [9] (fun i wr=>∃j:Nat,j≤n∧i=.int .i64 j∧Hid (Below w.heap.size w wr)∧Hid ((r.take j).all (fun x=>decide (x.version≤k))=true)) (fun i _=>n - (intOf i).toNat)
 case atStart=>exact ⟨0,Nat.zero_le _,rfl,Lh (Below.refl _ _),Lh rfl⟩
 case round=>
  obtain ⟨j,hj,rfl,HB,hall⟩:=hrel
  by_cases hlt:j<n
  ·obtain ⟨b1,off,⟨rv,ro⟩,rfl,hx,c0,c1⟩:=Stripe.at_rec (HR.out.below HB.out) j hlt
   have hs:=Lh (take_all r (fun x=>decide (x.version≤k)) j _ hx)
   have HX:=Lh hx
   clear hx
   by_cases hv:k<rv
   ·have HF:Hid (aboveB r k=false):=Lh (all_bad r (fun x=>decide (x.version≤k)) j _ HX.out (by simp;omega))
    go_wp2
    go_ret
    exact ⟨ret_bool HF.out.symm,bl_alloc HB.out _⟩
   ·go_wp2
    go_roundw
    case rel=>exact ⟨j+1,by omega,by go_num,Lh (bl_alloc HB.out _),Lh (by rw[hs.out,hall.out];simp;omega)⟩
    case measure=>simp[intOf];omega
  ·have HF:Hid (aboveB r k=true):=Lh (by
    have:=hall.out
    rw[List.take_of_length_le (by rw[HL.out];omega)]at this
    exact this)
   go_wp2
   go_ret
   exact ⟨ret_bool HF.out.symm,HB.out⟩
set_option maxHeartbeats 1000000 in
theorem right_c (W:Wd) (z:WL) (w:World) (b:Bool) (h:WRd w W z) (hf:Few W) (hb:rightW W=b):
  Calls Tryz.prog 29 #[.agg #[.slice z.H W.h.length z.hc,.slice z.R W.r.length z.rc,.int .i64 W.k]] w (RetB w b):=by
 have h0:=h
 clear h
 obtain ⟨h,r,k⟩:=W
 obtain ⟨H,hc,R,rc⟩:=z
 obtain ⟨n1,n2⟩:=hf
 have HH:=Lh h0.1
 have HR:=Lh h0.2
 have HB:=Lh hb
 obtain ⟨hn,e1⟩:∃n,h.length=n:=⟨_,rfl⟩
 obtain ⟨rn,e2⟩:∃n,r.length=n:=⟨_,rfl⟩
 simp only at HH HR n1 n2 ⊢
 rw[e1]at HH n1 ⊢
 rw[e2]at HR n2 ⊢
 clear h0 hb e1 e2
 have HK:=Lh (Blk.new w 63 #[.slice H hn hc,.slice R rn rc,.int .i64 k])
 have q0:=HK.out.cell 0 _ rfl
 have q1:=HK.out.cell 1 _ rfl
 have q2:=HK.out.cell 2 _ rfl
 cases h1:Heap.rightB h
 ·have H1:=Lh h1
  have HF:Hid (b=false):=Lh (by rw[←HB.out];unfold rightW;rw[h1];rfl)
  clear h1
  go_enter Tryz.func29,Tryz.ntmps29
  go_wp2_with fail
  refine (Heap.right_c h _ _ _ _ false (HH.out.alloc _) n1 H1.out).mono ?_
  rintro e w1 ⟨rfl,b1⟩
  go_wp2
  go_ret
  exact ⟨ret_bool HF.out.symm,bl_trans (bl_alloc (Below.refl _ _) _) b1⟩
 have H1:=Lh h1
 clear h1
 go_enter Tryz.func29,Tryz.ntmps29
 go_wp2_with fail
 refine (Heap.right_c h _ _ _ _ true (HH.out.alloc _) n1 H1.out).mono ?_
 rintro e w1 ⟨rfl,b1⟩
 have HB1:=Lh (bl_trans (bl_alloc (Below.refl _ _) (.cells #[.slice H hn hc,.slice R rn rc,.int .i64 k] 63)) b1)
 have HK1:=Lh (HK.out.below b1)
 clear b1 q0 q1 q2
 have q0:=HK1.out.cell 0 _ rfl
 have q1:=HK1.out.cell 1 _ rfl
 have q2:=HK1.out.cell 2 _ rfl
 cases h2:Stripe.rightB r
 ·have H2:=Lh h2
  have HF:Hid (b=false):=Lh (by rw[←HB.out];unfold rightW;rw[H1.out,h2];rfl)
  clear h2
  go_wp2_with fail
  refine (Stripe.right_c r _ _ _ _ false (HR.out.below HB1.out) n2 H2.out).mono ?_
  rintro e w2 ⟨rfl,b2⟩
  go_wp2
  go_ret
  exact ⟨ret_bool HF.out.symm,bl_trans HB1.out b2⟩
 have H2:=Lh h2
 clear h2
 go_wp2_with fail
 refine (Stripe.right_c r _ _ _ _ true (HR.out.below HB1.out) n2 H2.out).mono ?_
 rintro e w2 ⟨rfl,b2⟩
 have HB2:=Lh (bl_trans HB1.out b2)
 have HK2:=Lh (HK1.out.below b2)
 clear b2 q0 q1 q2
 have q1:=HK2.out.cell 1 _ rfl
 have q2:=HK2.out.cell 2 _ rfl
 cases h3:Reads.timeB k
 ·have HF:Hid (b=false):=Lh (by rw[←HB.out];unfold rightW;rw[H1.out,H2.out,h3];rfl)
  go_wp2_with (go_at_call 51;refine (Reads.tick_any _ _).mono ?_;rintro e w' ⟨rfl,rfl⟩)
  go_ret
  exact ⟨ret_bool HF.out.symm,HB2.out⟩
 have HF:Hid (aboveB r k=b):=Lh (by rw[←HB.out];unfold rightW;rw[H1.out,H2.out,h3];rfl)
 go_wp2_with (go_at_call 51;refine (Reads.tick_any _ _).mono ?_;rintro e w' ⟨rfl,rfl⟩)
 refine (above_c r _ _ _ _ _ b (HR.out.below HB2.out) n2 HF.out).mono ?_
 rintro e w3 ⟨rfl,b3⟩
 go_wp2
 go_ret
 exact ⟨rfl,bl_trans HB2.out b3⟩
end Go.Proofs.YtgghaodcfgbjlaaGreat.Commit
namespace Go.Proofs.YtgghaodcfgbjlaaGreat.Step2
open Go.ChangeShapes Go.WideShapes Go.ChangeAt Go.RowKit Mem
section
variable {P:Program} {w:World} {o:Oper} {a:Act} {K:Act→World→Prop} {Q:Exit→Act→World→Prop}
theorem calls_wp (f:FuncId) (vs:Array Value) (R:Ending→World→Prop)
  (hc:Calls P f vs w R) (hrun:(execOp a.eval o).run P w=.ok (.enter f vs) w) (h:∀e w',R e w' →∃v,e=.returned v∧K (a.put o.dst v) w'):Oper.wp P o a w K Q:=by
 unfold Oper.wp
 rw[hrun,Oper.upon_enter]
 refine hc.mono ?_
 intro e w' hr
 obtain ⟨v,rfl,hk⟩:=h e w' hr
 exact hk
end
theorem enter_run {P:Program} {F:FuncId} {fn:Func} (hf:P.funcs[F]?=some fn) (hn:(fn.name== "runtime.NumGoroutine")=false) (hb:fn.body.isNone=false) (args:Array Value) (W:World):(callFunc F args).run P W=.ok (.enter F args) W:=by
 have hn' :¬fn.name= "runtime.NumGoroutine" :=by simpa using hn
 have hb' :¬fn.body=none:=fun e=>by rw[e]at hb;cases hb
 unfold callFunc
 simp[program,Sem.run,hf,hn',hb']
theorem run_call {P:Program} {ρ:Operand→Value} {o:Oper} {w:World} (F:FuncId) (args:Array Operand) (tys:Array TypeId) (ho:o.op=.call { callee:=.value (.func F),args:=args,argTypes:=tys }) (hρ:ρ (.func F)=.func (.func F) #[] #[]) {fn:Func} (hf:P.funcs[F]?=some fn)
  (hn:(fn.name== "runtime.NumGoroutine")=false) (hb:fn.body.isNone=false) (vs:Array Value) (hvs:args.map ρ=vs):(execOp ρ o).run P w=.ok (.enter F vs) w:=by
 unfold execOp
 simp only[ho,resolve,Deferred.ofValue,hρ,invoke,Sem.run_bind,Sem.run_pure,Result.andThen_ok,hvs,Array.append_empty,Array.empty_append]
 exact enter_run hf hn hb vs w
end Go.Proofs.YtgghaodcfgbjlaaGreat.Step2
namespace Go.Proofs.YtgghaodcfgbjlaaGreat.Commit
open Go.ChangeShapes Go.WideShapes Go.ChangeAt Go.RowKit Mem Go.Proofs.YtgghaodcfgbjlaaGreat.Attempt
section
variable {w W W' :World} {b b2:Nat} {cells c2:List Value} {l:List OS}
theorem cl_more (h:Cl w W b b2 cells c2 l) {e k n:Nat} {v:Value} {xs:List Value} (ho:Own W W' e k v n xs):Cl w W' b b2 cells c2 (⟨e,k,v,n,xs⟩::l):=by
 refine ⟨bl_trans h.bel ho.2,h.hb,h.hb2,h.ne,h.blk.below ho.2,h.blk2.below ho.2,h.own.more h.bel e k v n xs ho,fun o hm=>?_⟩
 rcases List.mem_cons.1 hm with rfl | hm
 ·exact ⟨ho.ne_old h.blk.lt,ho.ne_old h.blk2.lt⟩
 ·exact h.off o hm
theorem cl_put (h:Cl w W b b2 cells c2 l) (i:Nat) (v:Value):Cl w (W.setCell ⟨b,i,none⟩ v) b b2 (cells.set i v) c2 l:=by
 refine ⟨bl_set h.bel (p:=⟨b,i,none⟩) h.hb v,h.hb,h.hb2,h.ne,?_,h.blk2.beside h.ne i v,h.own.only (S:=fun k=>k=b) (Only.set_ b i v rfl) (fun o hm k hk e=>(h.off o hm).1 (by rw[hk,e])) (fun k e=>by rw[e];exact h.hb),h.off⟩
 have:=h.blk.set_ i v
 rwa [List.setIfInBounds_toArray]at this
end
def Lays (w0 w:World) (t:Try) (x y:TL):Prop:=∀(S:Nat→Prop) (w' :World),Only S w w' →(∀k,S k→k<w0.heap.size)→(∀r∈x.fl,Rd w' 1 r.A r.f.regs.length (zs r.f.regs))→TRd w' t y
def RetC (w:World) (t:Try) (x:TL) (e:Ending) (w' :World):Prop:=∃y:TL,e=.returned (.agg (tvl t y).toArray)∧Lays w w' t x y∧y.fl=x.fl∧Below w.heap.size w w'
set_option maxHeartbeats 8000000 in
theorem clone_try (t:Try) (x:TL) (w:World) (h:TRd w t x) (n1:t.regs.length≤1000000) (n2:t.path.length≤1000000) (n3:t.reads.length≤1000000) (n4:t.log.list.length≤1000000) (n5:t.log.marks.length≤1000000) (n6:x.fl.length≤1000000):
    Calls Tryz.prog 81 #[.agg (tvl t x).toArray] w (RetC w t x):=by
  have b1:Below w.heap.size w ((w.alloc (.cells (aT t x) 34)).alloc (.cells z11 34)):=bl_alloc (bl_alloc (Below.refl _ _) _) _
  have C0:Hid (Cl w ((w.alloc (.cells (aT t x) 34)).alloc (.cells z11 34)) w.heap.size (w.heap.size+1) [.int .i64 t.who,.int .i64 t.snap,.int .i64 t.pc,.slice x.R t.regs.length x.rc,.slice x.P t.path.length x.pc,.slice x.D t.reads.length x.dc,.slice x.L t.log.list.length x.lc,.slice x.M t.log.marks.length x.mc,.slice x.F x.fl.length x.fc,.int .i64 t.kind,.int .i64 t.why] [.int .i64 0,.int .i64 0,.int .i64 0,.slice none 0 0,.slice none 0 0,.slice none 0 0,.slice none 0 0,.slice none 0 0,.slice none 0 0,.int .i64 0,.int .i64 0] []):=Lh ⟨b1,Nat.le_refl _,by omega,by omega,(Blk.new w _ _).alloc _,by have:=Blk.new (w.alloc (.cells (aT t x) 34)) 34 z11;simpa using this,⟨fun o ho=>(by cases ho),List.Pairwise.nil⟩,fun o ho=>(by cases ho)⟩
  have HT:=Lh h
  have N1:=Lh n1
  have N2:=Lh n2
  have N3:=Lh n3
  have N4:=Lh n4
  have N5:=Lh n5
  have N6:=Lh n6
  have T3:=Lh trivial
  have T4:=Lh trivial
  have T5:=Lh trivial
  have T8:=Lh trivial
  have a3:=C0.out.blk.cell 3 (.slice x.R t.regs.length x.rc) rfl
  clear h n1 n2 n3 n4 n5 n6 b1
  show Calls Tryz.prog 81 #[.agg (aT t x)] w (RetC w t x)
  go_enter Tryz.func81,Tryz.ntmps81
  go_wp2_with (first
    | (have U3:=T3
       clear T3
       go_at_call 77
       refine (Writes.clonei_c t.regs x.R t.regs.length x.rc _ (HT.out.regs.below C0.out.bel) N1.out).mono ?_
       rintro e w3 ⟨v3,rfl,ho3⟩
       obtain ⟨B3,d3,rfl,hd3,hr3⟩:=Mem.own_room ho3
       have C1:=Lh (C0.out.step ho3 3)
       have p3:=(C0.out.blk.below ho3.2).cell 3 (.slice x.R t.regs.length x.rc) rfl
       have f3:=(C0.out.blk.below ho3.2).frozen 3
       have a4:=C1.out.blk.cell 4 (.slice x.P t.path.length x.pc) rfl
       clear ho3 hr3 hd3 U3)
    | (have U4:=T4
       clear T4
       go_at_call 77
       refine (Writes.clonei_c t.path x.P t.path.length x.pc _ (HT.out.path.below C1.out.bel) N2.out).mono ?_
       rintro e w4 ⟨v4,rfl,ho4⟩
       obtain ⟨B4,d4,rfl,hd4,hr4⟩:=Mem.own_room ho4
       have C2:=Lh (C1.out.step ho4 4)
       have p4:=(C1.out.blk.below ho4.2).cell 4 (.slice x.P t.path.length x.pc) rfl
       have f4:=(C1.out.blk.below ho4.2).frozen 4
       have a5:=C2.out.blk.cell 5 (.slice x.D t.reads.length x.dc) rfl
       clear ho4 hr4 hd4 U4)
    | (have U5:=T5
       clear T5
       go_at_call 111
       refine (Reads.clone_any t.reads x.D t.reads.length x.dc _ (HT.out.reads.below C2.out.bel) N3.out).mono ?_
       rintro e w5 ⟨v5,rfl,ho5⟩
       obtain ⟨B5,d5,rfl,hd5,hr5⟩:=Mem.own_room ho5
       have C3:=Lh (C2.out.step ho5 5)
       have p5:=(C2.out.blk.below ho5.2).cell 5 (.slice x.D t.reads.length x.dc) rfl
       have f5:=(C2.out.blk.below ho5.2).frozen 5
       clear ho5 hr5 hd5 U5))
  clear p3 p4 p5 f3 f4 f5 a3 a4 a5
  obtain ⟨Wa,hWa⟩:∃Wa,w5.setCell ⟨w.heap.size,5,none⟩ (.slice B5 t.reads.length d5)=Wa:=⟨_,rfl⟩
  rw[hWa]at C3 ⊢
  clear hWa
  have Cd:Hid (Cl w Wa.drew w.heap.size (w.heap.size+1) _ _ _):=Lh (C3.out.below (Below.refl _ _).drew)
  try simp only[List.append_eq,List.cons_append,List.nil_append]
  refine wp_region_held_drew (S:=fun (_:World)=>True) (by kernel_rfl) trivial (fun hH0=>?_)
  generalize Wa.drew=wq at *
  refine tk 0 (.pointer (some ⟨w.heap.size,6,none⟩)) rfl hH0 ?_
  try go_simp
  refine tk 1 (.pointer (some ⟨w.heap.size,6,none⟩)) rfl hH0 ?_
  try go_simp
  refine tk 4 (.pointer (some ⟨w.heap.size,6,none⟩)) rfl hH0 ?_
  try go_simp
  refine tk 5 (.pointer (some ⟨w.heap.size,7,none⟩)) rfl hH0 ?_
  try go_simp
  refine wpAnyH_ready (rs:= [2,6]) (by kernel_rfl) (by simp) ?_
  refine AllReadyH.cons rfl (fun KK0 hK=>?_) ?_
  · have q_:=Cd.out.blk.cell 6 (.slice x.L t.log.list.length x.lc) rfl
    go_simp
    clear q_
    refine hK.out _ _ trivial (fun hH0=>?_)
    clear hK KK0
    try simp only[Act.put,List.getElem_toArray,List.getElem_cons_succ,List.getElem_cons_zero]
    try go_simp
    refine wpAnyH_ready (rs:= [3,6]) (by kernel_rfl) (by simp) ?_
    refine AllReadyH.cons rfl (fun KK0 hK=>?_) ?_
    · rw[if_pos (by kernel_rfl)]
      refine Step2.calls_wp _ _ _ (Writes.clonew_c t.log.list x.L t.log.list.length x.lc _ (HT.out.log.rl.below Cd.out.bel) N4.out) (Step2.run_call _ _ _ rfl rfl Tryz.func112 (by kernel_rfl) (by kernel_rfl) _ (by kernel_rfl)) ?_
      rintro e wq ⟨v6,rfl,ho⟩
      refine ⟨_,rfl,?_⟩
      obtain ⟨B6,d6,rfl,_,_⟩:=Mem.own_room ho
      have E5:=Lh (cl_more Cd.out ho)
      clear ho
      refine hK.out _ _ trivial (fun hH0=>?_)
      clear hK KK0
      try simp only[Act.put,List.getElem_toArray,List.getElem_cons_succ,List.getElem_cons_zero]
      try go_simp
      refine rdy 6 rfl (fun KK0 hK=>?_)
      have q_:=E5.out.blk.cell 7 (.slice x.M t.log.marks.length x.mc) rfl
      go_simp
      clear q_
      refine hK.out _ _ trivial (fun hH0=>?_)
      clear hK KK0
      try simp only[Act.put,List.getElem_toArray,List.getElem_cons_succ,List.getElem_cons_zero]
      try go_simp
      refine rdy 7 rfl (fun KK0 hK=>?_)
      rw[if_pos (by kernel_rfl)]
      refine Step2.calls_wp _ _ _ (Writes.clonei_c t.log.marks x.M t.log.marks.length x.mc _ (HT.out.log.rm.below E5.out.bel) N5.out) (Step2.run_call _ _ _ rfl rfl Tryz.func77 (by kernel_rfl) (by kernel_rfl) _ (by kernel_rfl)) ?_
      rintro e wq ⟨v7,rfl,ho⟩
      refine ⟨_,rfl,?_⟩
      obtain ⟨B7,d7,rfl,_,_⟩:=Mem.own_room ho
      have E7:=Lh (cl_more E5.out ho)
      clear ho
      refine hK.out _ _ trivial (fun hH0=>?_)
      clear hK KK0
      try simp only[Act.put,List.getElem_toArray,List.getElem_cons_succ,List.getElem_cons_zero]
      try go_simp
      refine tk 8 (.agg #[.slice B6 t.log.list.length d6,.slice B7 t.log.marks.length d7]) rfl hH0 ?_
      try go_simp
      refine tk 9 (.pointer (some ⟨w.heap.size,6,none⟩)) rfl hH0 ?_
      try go_simp
      have p6:=E7.out.blk.cell 6 (.slice x.L t.log.list.length x.lc) rfl
      have p7:=E7.out.blk.cell 7 (.slice x.M t.log.marks.length x.mc) rfl
      have f6:=E7.out.blk.frozen 6
      have f7:=E7.out.blk.frozen 7
      have C6:=Lh (cl_put (cl_put E7.out 6 (.slice B6 t.log.list.length d6)) 7 (.slice B7 t.log.marks.length d7))
      refine rdy 10 rfl (fun KK0 hK=>?_)
      go_simp
      refine hK.out _ _ trivial (fun _=>?_)
      clear hK KK0 p6 p7 f6 f7
      refine wpAnyH_done (by kernel_rfl) ?_ _
      try simp only[Act.put,List.getElem_toArray,List.getElem_cons_succ,List.getElem_cons_zero]
      try go_simp
      generalize ((wq.setCell ⟨w.heap.size,6,none⟩ (.slice B6 t.log.list.length d6)).setCell ⟨w.heap.size,7,none⟩ (.slice B7 t.log.marks.length d7))=wb at *
      have a8:=C6.out.blk.cell 8 (.slice x.F x.fl.length x.fc) rfl
      go_wp2_with fail
      refine (clonef_any x.fl x.F x.fl.length x.fc _ (HT.out.frames.below C6.out.bel) N6.out).mono ?_
      rintro e w8 ⟨v8,rfl,ho8⟩
      obtain ⟨B8,d8,rfl,hd8,hr8⟩:=Mem.own_room ho8
      have C7:=Lh (C6.out.step ho8 8)
      have p8:=(C6.out.blk.below ho8.2).cell 8 (.slice x.F x.fl.length x.fc) rfl
      have f8:=(C6.out.blk.below ho8.2).frozen 8
      clear ho8 hr8 hd8 a8
      have g0:=C7.out.blk.cell 0 (.int .i64 t.who) rfl
      have g1:=C7.out.blk.cell 1 (.int .i64 t.snap) rfl
      have g2:=C7.out.blk.cell 2 (.int .i64 t.pc) rfl
      have g3:=C7.out.blk.cell 3 (.slice B3 t.regs.length d3) rfl
      have g4:=C7.out.blk.cell 4 (.slice B4 t.path.length d4) rfl
      have g5:=C7.out.blk.cell 5 (.slice B5 t.reads.length d5) rfl
      have g6:=C7.out.blk.cell 6 (.slice B6 t.log.list.length d6) rfl
      have g7:=C7.out.blk.cell 7 (.slice B7 t.log.marks.length d7) rfl
      have g8:=C7.out.blk.cell 8 (.slice B8 x.fl.length d8) rfl
      have g9:=C7.out.blk.cell 9 (.int .i64 t.kind) rfl
      have g10:=C7.out.blk.cell 10 (.int .i64 t.why) rfl
      have r0:=C7.out.blk2.cell 0 _ rfl
      have r1:=C7.out.blk2.cell 1 _ rfl
      have r2:=C7.out.blk2.cell 2 _ rfl
      have r3:=C7.out.blk2.cell 3 _ rfl
      have r4:=C7.out.blk2.cell 4 _ rfl
      have r5:=C7.out.blk2.cell 5 _ rfl
      have r6:=C7.out.blk2.cell 6 _ rfl
      have r7:=C7.out.blk2.cell 7 _ rfl
      have r8:=C7.out.blk2.cell 8 _ rfl
      have r9:=C7.out.blk2.cell 9 _ rfl
      have r10:=C7.out.blk2.cell 10 _ rfl
      have rf0:=C7.out.blk2.frozen 0
      have rf1:=C7.out.blk2.frozen 1
      have rf2:=C7.out.blk2.frozen 2
      have rf3:=C7.out.blk2.frozen 3
      have rf4:=C7.out.blk2.frozen 4
      have rf5:=C7.out.blk2.frozen 5
      have rf6:=C7.out.blk2.frozen 6
      have rf7:=C7.out.blk2.frozen 7
      have rf8:=C7.out.blk2.frozen 8
      have rf9:=C7.out.blk2.frozen 9
      have rf10:=C7.out.blk2.frozen 10
      go_wp2
      have C8:=Lh (((((((((((C7.out.put2 0 (.int .i64 t.who)).put2 1 (.int .i64 t.snap)).put2 2 (.int .i64 t.pc)).put2 3 (.slice B3 t.regs.length d3)).put2 4 (.slice B4 t.path.length d4)).put2 5 (.slice B5 t.reads.length d5)).put2 6 (.slice B6 t.log.list.length d6)).put2 7 (.slice B7 t.log.marks.length d7)).put2 8 (.slice B8 x.fl.length d8)).put2 9 (.int .i64 t.kind)).put2 10 (.int .i64 t.why))
      clear g0 r0 rf0 g1 r1 rf1 g2 r2 rf2 g3 r3 rf3 g4 r4 rf4 g5 r5 rf5 g6 r6 rf6 g7 r7 rf7 g8 r8 rf8 g9 r9 rf9 g10 r10 rf10 p8 f8
      generalize ((((((((((((w8.setCell ⟨w.heap.size,8,none⟩ (.slice B8 x.fl.length d8)).setCell ⟨w.heap.size+1,0,none⟩ (.int .i64 t.who)).setCell ⟨w.heap.size+1,1,none⟩ (.int .i64 t.snap)).setCell ⟨w.heap.size+1,2,none⟩ (.int .i64 t.pc)).setCell ⟨w.heap.size+1,3,none⟩ (.slice B3 t.regs.length d3)).setCell ⟨w.heap.size+1,4,none⟩ (.slice B4 t.path.length d4)).setCell ⟨w.heap.size+1,5,none⟩ (.slice B5 t.reads.length d5)).setCell ⟨w.heap.size+1,6,none⟩ (.slice B6 t.log.list.length d6)).setCell ⟨w.heap.size+1,7,none⟩ (.slice B7 t.log.marks.length d7)).setCell ⟨w.heap.size+1,8,none⟩ (.slice B8 x.fl.length d8)).setCell ⟨w.heap.size+1,9,none⟩ (.int .i64 t.kind)).setCell ⟨w.heap.size+1,10,none⟩ (.int .i64 t.why))=we at *
      have s0:=C8.out.blk2.cell 0 (.int .i64 t.who) rfl
      have s1:=C8.out.blk2.cell 1 (.int .i64 t.snap) rfl
      have s2:=C8.out.blk2.cell 2 (.int .i64 t.pc) rfl
      have s3:=C8.out.blk2.cell 3 (.slice B3 t.regs.length d3) rfl
      have s4:=C8.out.blk2.cell 4 (.slice B4 t.path.length d4) rfl
      have s5:=C8.out.blk2.cell 5 (.slice B5 t.reads.length d5) rfl
      have s6:=C8.out.blk2.cell 6 (.slice B6 t.log.list.length d6) rfl
      have s7:=C8.out.blk2.cell 7 (.slice B7 t.log.marks.length d7) rfl
      have s8:=C8.out.blk2.cell 8 (.slice B8 x.fl.length d8) rfl
      have s9:=C8.out.blk2.cell 9 (.int .i64 t.kind) rfl
      have s10:=C8.out.blk2.cell 10 (.int .i64 t.why) rfl
      refine bodyPost_ret (v:=.agg #[.int .i64 t.who,.int .i64 t.snap,.int .i64 t.pc,.slice B3 t.regs.length d3,.slice B4 t.path.length d4,.slice B5 t.reads.length d5,.slice B6 t.log.list.length d6,.slice B7 t.log.marks.length d7,.slice B8 x.fl.length d8,.int .i64 t.kind,.int .i64 t.why]) (by simp[results,Tryz.results81,go_sem,s0,s1,s2,s3,s4,s5,s6,s7,s8,s9,s10]) rfl ?_
      refine ⟨⟨B3,d3,B4,d4,B5,d5,B6,d6,B7,d7,B8,d8,x.fl⟩,rfl,?_,rfl,C8.out.bel⟩
      have own:=C8.out.own.1
      have q8:=own _ (List.mem_cons_self ..)
      have o8:=own_cap q8
      have q7:=own _ (List.mem_cons_of_mem _ (List.mem_cons_self ..))
      have o7:=own_cap q7
      have q6:=own _ (List.mem_cons_of_mem _ (List.mem_cons_of_mem _ (List.mem_cons_self ..)))
      have o6:=own_cap q6
      have q5:=own _ (List.mem_cons_of_mem _ (List.mem_cons_of_mem _ (List.mem_cons_of_mem _ (List.mem_cons_self ..))))
      have o5:=own_cap q5
      have q4:=own _ (List.mem_cons_of_mem _ (List.mem_cons_of_mem _ (List.mem_cons_of_mem _ (List.mem_cons_of_mem _ (List.mem_cons_self ..)))))
      have o4:=own_cap q4
      have q3:=own _ (List.mem_cons_of_mem _ (List.mem_cons_of_mem _ (List.mem_cons_of_mem _ (List.mem_cons_of_mem _ (List.mem_cons_of_mem _ (List.mem_cons_self ..))))))
      have o3:=own_cap q3
      intro S w'' ho hS hn
      have away:∀{e K n m d:Nat} {B:Option Addr} {xs:List Value},Own w we e K (.slice B n d) m xs→∀b off,B=some ⟨b,off,none⟩→0<m→¬S b:=fun h b off e1 _ hb=>by have k1:=h.base b (by rw[e1];rfl);have k2:=hS b hb;omega
      exact { regs:=rd_only o3.2.2 ho (away q3),path:=rd_only o4.2.2 ho (away q4),reads:=rd_only o5.2.2 ho (away q5),dn:=o5.2.1,log:=⟨rd_only o6.2.2 ho (away q6),rd_only o7.2.2 ho (away q7),o6.2.1,o7.2.1⟩,frames:=rd_only o8.2.2 ho (away q8),nest:=hn,raw:=HT.out.raw }
    refine AllReadyH.cons rfl (fun KK0 hK=>?_) AllReadyH.nil
    · have q_:=Cd.out.blk.cell 7 (.slice x.M t.log.marks.length x.mc) rfl
      go_simp
      clear q_
      refine hK.out _ _ trivial (fun hH0=>?_)
      clear hK KK0
      try simp only[Act.put,List.getElem_toArray,List.getElem_cons_succ,List.getElem_cons_zero]
      try go_simp
      refine rdy 3 rfl (fun KK0 hK=>?_)
      rw[if_pos (by kernel_rfl)]
      refine Step2.calls_wp _ _ _ (Writes.clonew_c t.log.list x.L t.log.list.length x.lc _ (HT.out.log.rl.below Cd.out.bel) N4.out) (Step2.run_call _ _ _ rfl rfl Tryz.func112 (by kernel_rfl) (by kernel_rfl) _ (by kernel_rfl)) ?_
      rintro e wq ⟨v6,rfl,ho⟩
      refine ⟨_,rfl,?_⟩
      obtain ⟨B6,d6,rfl,_,_⟩:=Mem.own_room ho
      have E6:=Lh (cl_more Cd.out ho)
      clear ho
      refine hK.out _ _ trivial (fun hH0=>?_)
      clear hK KK0
      try simp only[Act.put,List.getElem_toArray,List.getElem_cons_succ,List.getElem_cons_zero]
      try go_simp
      refine rdy 7 rfl (fun KK0 hK=>?_)
      rw[if_pos (by kernel_rfl)]
      refine Step2.calls_wp _ _ _ (Writes.clonei_c t.log.marks x.M t.log.marks.length x.mc _ (HT.out.log.rm.below E6.out.bel) N5.out) (Step2.run_call _ _ _ rfl rfl Tryz.func77 (by kernel_rfl) (by kernel_rfl) _ (by kernel_rfl)) ?_
      rintro e wq ⟨v7,rfl,ho⟩
      refine ⟨_,rfl,?_⟩
      obtain ⟨B7,d7,rfl,_,_⟩:=Mem.own_room ho
      have E7:=Lh (cl_more E6.out ho)
      clear ho
      refine hK.out _ _ trivial (fun hH0=>?_)
      clear hK KK0
      try simp only[Act.put,List.getElem_toArray,List.getElem_cons_succ,List.getElem_cons_zero]
      try go_simp
      refine tk 8 (.agg #[.slice B6 t.log.list.length d6,.slice B7 t.log.marks.length d7]) rfl hH0 ?_
      try go_simp
      refine tk 9 (.pointer (some ⟨w.heap.size,6,none⟩)) rfl hH0 ?_
      try go_simp
      have p6:=E7.out.blk.cell 6 (.slice x.L t.log.list.length x.lc) rfl
      have p7:=E7.out.blk.cell 7 (.slice x.M t.log.marks.length x.mc) rfl
      have f6:=E7.out.blk.frozen 6
      have f7:=E7.out.blk.frozen 7
      have C6:=Lh (cl_put (cl_put E7.out 6 (.slice B6 t.log.list.length d6)) 7 (.slice B7 t.log.marks.length d7))
      refine rdy 10 rfl (fun KK0 hK=>?_)
      go_simp
      refine hK.out _ _ trivial (fun _=>?_)
      clear hK KK0 p6 p7 f6 f7
      refine wpAnyH_done (by kernel_rfl) ?_ _
      try simp only[Act.put,List.getElem_toArray,List.getElem_cons_succ,List.getElem_cons_zero]
      try go_simp
      generalize ((wq.setCell ⟨w.heap.size,6,none⟩ (.slice B6 t.log.list.length d6)).setCell ⟨w.heap.size,7,none⟩ (.slice B7 t.log.marks.length d7))=wb at *
      have a8:=C6.out.blk.cell 8 (.slice x.F x.fl.length x.fc) rfl
      go_wp2_with fail
      refine (clonef_any x.fl x.F x.fl.length x.fc _ (HT.out.frames.below C6.out.bel) N6.out).mono ?_
      rintro e w8 ⟨v8,rfl,ho8⟩
      obtain ⟨B8,d8,rfl,hd8,hr8⟩:=Mem.own_room ho8
      have C7:=Lh (C6.out.step ho8 8)
      have p8:=(C6.out.blk.below ho8.2).cell 8 (.slice x.F x.fl.length x.fc) rfl
      have f8:=(C6.out.blk.below ho8.2).frozen 8
      clear ho8 hr8 hd8 a8
      have g0:=C7.out.blk.cell 0 (.int .i64 t.who) rfl
      have g1:=C7.out.blk.cell 1 (.int .i64 t.snap) rfl
      have g2:=C7.out.blk.cell 2 (.int .i64 t.pc) rfl
      have g3:=C7.out.blk.cell 3 (.slice B3 t.regs.length d3) rfl
      have g4:=C7.out.blk.cell 4 (.slice B4 t.path.length d4) rfl
      have g5:=C7.out.blk.cell 5 (.slice B5 t.reads.length d5) rfl
      have g6:=C7.out.blk.cell 6 (.slice B6 t.log.list.length d6) rfl
      have g7:=C7.out.blk.cell 7 (.slice B7 t.log.marks.length d7) rfl
      have g8:=C7.out.blk.cell 8 (.slice B8 x.fl.length d8) rfl
      have g9:=C7.out.blk.cell 9 (.int .i64 t.kind) rfl
      have g10:=C7.out.blk.cell 10 (.int .i64 t.why) rfl
      have r0:=C7.out.blk2.cell 0 _ rfl
      have r1:=C7.out.blk2.cell 1 _ rfl
      have r2:=C7.out.blk2.cell 2 _ rfl
      have r3:=C7.out.blk2.cell 3 _ rfl
      have r4:=C7.out.blk2.cell 4 _ rfl
      have r5:=C7.out.blk2.cell 5 _ rfl
      have r6:=C7.out.blk2.cell 6 _ rfl
      have r7:=C7.out.blk2.cell 7 _ rfl
      have r8:=C7.out.blk2.cell 8 _ rfl
      have r9:=C7.out.blk2.cell 9 _ rfl
      have r10:=C7.out.blk2.cell 10 _ rfl
      have rf0:=C7.out.blk2.frozen 0
      have rf1:=C7.out.blk2.frozen 1
      have rf2:=C7.out.blk2.frozen 2
      have rf3:=C7.out.blk2.frozen 3
      have rf4:=C7.out.blk2.frozen 4
      have rf5:=C7.out.blk2.frozen 5
      have rf6:=C7.out.blk2.frozen 6
      have rf7:=C7.out.blk2.frozen 7
      have rf8:=C7.out.blk2.frozen 8
      have rf9:=C7.out.blk2.frozen 9
      have rf10:=C7.out.blk2.frozen 10
      go_wp2
      have C8:=Lh (((((((((((C7.out.put2 0 (.int .i64 t.who)).put2 1 (.int .i64 t.snap)).put2 2 (.int .i64 t.pc)).put2 3 (.slice B3 t.regs.length d3)).put2 4 (.slice B4 t.path.length d4)).put2 5 (.slice B5 t.reads.length d5)).put2 6 (.slice B6 t.log.list.length d6)).put2 7 (.slice B7 t.log.marks.length d7)).put2 8 (.slice B8 x.fl.length d8)).put2 9 (.int .i64 t.kind)).put2 10 (.int .i64 t.why))
      clear g0 r0 rf0 g1 r1 rf1 g2 r2 rf2 g3 r3 rf3 g4 r4 rf4 g5 r5 rf5 g6 r6 rf6 g7 r7 rf7 g8 r8 rf8 g9 r9 rf9 g10 r10 rf10 p8 f8
      generalize ((((((((((((w8.setCell ⟨w.heap.size,8,none⟩ (.slice B8 x.fl.length d8)).setCell ⟨w.heap.size+1,0,none⟩ (.int .i64 t.who)).setCell ⟨w.heap.size+1,1,none⟩ (.int .i64 t.snap)).setCell ⟨w.heap.size+1,2,none⟩ (.int .i64 t.pc)).setCell ⟨w.heap.size+1,3,none⟩ (.slice B3 t.regs.length d3)).setCell ⟨w.heap.size+1,4,none⟩ (.slice B4 t.path.length d4)).setCell ⟨w.heap.size+1,5,none⟩ (.slice B5 t.reads.length d5)).setCell ⟨w.heap.size+1,6,none⟩ (.slice B6 t.log.list.length d6)).setCell ⟨w.heap.size+1,7,none⟩ (.slice B7 t.log.marks.length d7)).setCell ⟨w.heap.size+1,8,none⟩ (.slice B8 x.fl.length d8)).setCell ⟨w.heap.size+1,9,none⟩ (.int .i64 t.kind)).setCell ⟨w.heap.size+1,10,none⟩ (.int .i64 t.why))=we at *
      have s0:=C8.out.blk2.cell 0 (.int .i64 t.who) rfl
      have s1:=C8.out.blk2.cell 1 (.int .i64 t.snap) rfl
      have s2:=C8.out.blk2.cell 2 (.int .i64 t.pc) rfl
      have s3:=C8.out.blk2.cell 3 (.slice B3 t.regs.length d3) rfl
      have s4:=C8.out.blk2.cell 4 (.slice B4 t.path.length d4) rfl
      have s5:=C8.out.blk2.cell 5 (.slice B5 t.reads.length d5) rfl
      have s6:=C8.out.blk2.cell 6 (.slice B6 t.log.list.length d6) rfl
      have s7:=C8.out.blk2.cell 7 (.slice B7 t.log.marks.length d7) rfl
      have s8:=C8.out.blk2.cell 8 (.slice B8 x.fl.length d8) rfl
      have s9:=C8.out.blk2.cell 9 (.int .i64 t.kind) rfl
      have s10:=C8.out.blk2.cell 10 (.int .i64 t.why) rfl
      refine bodyPost_ret (v:=.agg #[.int .i64 t.who,.int .i64 t.snap,.int .i64 t.pc,.slice B3 t.regs.length d3,.slice B4 t.path.length d4,.slice B5 t.reads.length d5,.slice B6 t.log.list.length d6,.slice B7 t.log.marks.length d7,.slice B8 x.fl.length d8,.int .i64 t.kind,.int .i64 t.why]) (by simp[results,Tryz.results81,go_sem,s0,s1,s2,s3,s4,s5,s6,s7,s8,s9,s10]) rfl ?_
      refine ⟨⟨B3,d3,B4,d4,B5,d5,B6,d6,B7,d7,B8,d8,x.fl⟩,rfl,?_,rfl,C8.out.bel⟩
      have own:=C8.out.own.1
      have q8:=own _ (List.mem_cons_self ..)
      have o8:=own_cap q8
      have q7:=own _ (List.mem_cons_of_mem _ (List.mem_cons_self ..))
      have o7:=own_cap q7
      have q6:=own _ (List.mem_cons_of_mem _ (List.mem_cons_of_mem _ (List.mem_cons_self ..)))
      have o6:=own_cap q6
      have q5:=own _ (List.mem_cons_of_mem _ (List.mem_cons_of_mem _ (List.mem_cons_of_mem _ (List.mem_cons_self ..))))
      have o5:=own_cap q5
      have q4:=own _ (List.mem_cons_of_mem _ (List.mem_cons_of_mem _ (List.mem_cons_of_mem _ (List.mem_cons_of_mem _ (List.mem_cons_self ..)))))
      have o4:=own_cap q4
      have q3:=own _ (List.mem_cons_of_mem _ (List.mem_cons_of_mem _ (List.mem_cons_of_mem _ (List.mem_cons_of_mem _ (List.mem_cons_of_mem _ (List.mem_cons_self ..))))))
      have o3:=own_cap q3
      intro S w'' ho hS hn
      have away:∀{e K n m d:Nat} {B:Option Addr} {xs:List Value},Own w we e K (.slice B n d) m xs→∀b off,B=some ⟨b,off,none⟩→0<m→¬S b:=fun h b off e1 _ hb=>by have k1:=h.base b (by rw[e1];rfl);have k2:=hS b hb;omega
      exact { regs:=rd_only o3.2.2 ho (away q3),path:=rd_only o4.2.2 ho (away q4),reads:=rd_only o5.2.2 ho (away q5),dn:=o5.2.1,log:=⟨rd_only o6.2.2 ho (away q6),rd_only o7.2.2 ho (away q7),o6.2.1,o7.2.1⟩,frames:=rd_only o8.2.2 ho (away q8),nest:=hn,raw:=HT.out.raw }
  refine AllReadyH.cons rfl (fun KK0 hK=>?_) AllReadyH.nil
  · have q_:=Cd.out.blk.cell 7 (.slice x.M t.log.marks.length x.mc) rfl
    go_simp
    clear q_
    refine hK.out _ _ trivial (fun hH0=>?_)
    clear hK KK0
    try simp only[Act.put,List.getElem_toArray,List.getElem_cons_succ,List.getElem_cons_zero]
    try go_simp
    refine rdy 2 rfl (fun KK0 hK=>?_)
    have q_:=Cd.out.blk.cell 6 (.slice x.L t.log.list.length x.lc) rfl
    go_simp
    clear q_
    refine hK.out _ _ trivial (fun hH0=>?_)
    clear hK KK0
    try simp only[Act.put,List.getElem_toArray,List.getElem_cons_succ,List.getElem_cons_zero]
    try go_simp
    refine rdy 3 rfl (fun KK0 hK=>?_)
    rw[if_pos (by kernel_rfl)]
    refine Step2.calls_wp _ _ _ (Writes.clonew_c t.log.list x.L t.log.list.length x.lc _ (HT.out.log.rl.below Cd.out.bel) N4.out) (Step2.run_call _ _ _ rfl rfl Tryz.func112 (by kernel_rfl) (by kernel_rfl) _ (by kernel_rfl)) ?_
    rintro e wq ⟨v6,rfl,ho⟩
    refine ⟨_,rfl,?_⟩
    obtain ⟨B6,d6,rfl,_,_⟩:=Mem.own_room ho
    have E6:=Lh (cl_more Cd.out ho)
    clear ho
    refine hK.out _ _ trivial (fun hH0=>?_)
    clear hK KK0
    try simp only[Act.put,List.getElem_toArray,List.getElem_cons_succ,List.getElem_cons_zero]
    try go_simp
    refine rdy 7 rfl (fun KK0 hK=>?_)
    rw[if_pos (by kernel_rfl)]
    refine Step2.calls_wp _ _ _ (Writes.clonei_c t.log.marks x.M t.log.marks.length x.mc _ (HT.out.log.rm.below E6.out.bel) N5.out) (Step2.run_call _ _ _ rfl rfl Tryz.func77 (by kernel_rfl) (by kernel_rfl) _ (by kernel_rfl)) ?_
    rintro e wq ⟨v7,rfl,ho⟩
    refine ⟨_,rfl,?_⟩
    obtain ⟨B7,d7,rfl,_,_⟩:=Mem.own_room ho
    have E7:=Lh (cl_more E6.out ho)
    clear ho
    refine hK.out _ _ trivial (fun hH0=>?_)
    clear hK KK0
    try simp only[Act.put,List.getElem_toArray,List.getElem_cons_succ,List.getElem_cons_zero]
    try go_simp
    refine tk 8 (.agg #[.slice B6 t.log.list.length d6,.slice B7 t.log.marks.length d7]) rfl hH0 ?_
    try go_simp
    refine tk 9 (.pointer (some ⟨w.heap.size,6,none⟩)) rfl hH0 ?_
    try go_simp
    have p6:=E7.out.blk.cell 6 (.slice x.L t.log.list.length x.lc) rfl
    have p7:=E7.out.blk.cell 7 (.slice x.M t.log.marks.length x.mc) rfl
    have f6:=E7.out.blk.frozen 6
    have f7:=E7.out.blk.frozen 7
    have C6:=Lh (cl_put (cl_put E7.out 6 (.slice B6 t.log.list.length d6)) 7 (.slice B7 t.log.marks.length d7))
    refine rdy 10 rfl (fun KK0 hK=>?_)
    go_simp
    refine hK.out _ _ trivial (fun _=>?_)
    clear hK KK0 p6 p7 f6 f7
    refine wpAnyH_done (by kernel_rfl) ?_ _
    try simp only[Act.put,List.getElem_toArray,List.getElem_cons_succ,List.getElem_cons_zero]
    try go_simp
    generalize ((wq.setCell ⟨w.heap.size,6,none⟩ (.slice B6 t.log.list.length d6)).setCell ⟨w.heap.size,7,none⟩ (.slice B7 t.log.marks.length d7))=wb at *
    have a8:=C6.out.blk.cell 8 (.slice x.F x.fl.length x.fc) rfl
    go_wp2_with fail
    refine (clonef_any x.fl x.F x.fl.length x.fc _ (HT.out.frames.below C6.out.bel) N6.out).mono ?_
    rintro e w8 ⟨v8,rfl,ho8⟩
    obtain ⟨B8,d8,rfl,hd8,hr8⟩:=Mem.own_room ho8
    have C7:=Lh (C6.out.step ho8 8)
    have p8:=(C6.out.blk.below ho8.2).cell 8 (.slice x.F x.fl.length x.fc) rfl
    have f8:=(C6.out.blk.below ho8.2).frozen 8
    clear ho8 hr8 hd8 a8
    have g0:=C7.out.blk.cell 0 (.int .i64 t.who) rfl
    have g1:=C7.out.blk.cell 1 (.int .i64 t.snap) rfl
    have g2:=C7.out.blk.cell 2 (.int .i64 t.pc) rfl
    have g3:=C7.out.blk.cell 3 (.slice B3 t.regs.length d3) rfl
    have g4:=C7.out.blk.cell 4 (.slice B4 t.path.length d4) rfl
    have g5:=C7.out.blk.cell 5 (.slice B5 t.reads.length d5) rfl
    have g6:=C7.out.blk.cell 6 (.slice B6 t.log.list.length d6) rfl
    have g7:=C7.out.blk.cell 7 (.slice B7 t.log.marks.length d7) rfl
    have g8:=C7.out.blk.cell 8 (.slice B8 x.fl.length d8) rfl
    have g9:=C7.out.blk.cell 9 (.int .i64 t.kind) rfl
    have g10:=C7.out.blk.cell 10 (.int .i64 t.why) rfl
    have r0:=C7.out.blk2.cell 0 _ rfl
    have r1:=C7.out.blk2.cell 1 _ rfl
    have r2:=C7.out.blk2.cell 2 _ rfl
    have r3:=C7.out.blk2.cell 3 _ rfl
    have r4:=C7.out.blk2.cell 4 _ rfl
    have r5:=C7.out.blk2.cell 5 _ rfl
    have r6:=C7.out.blk2.cell 6 _ rfl
    have r7:=C7.out.blk2.cell 7 _ rfl
    have r8:=C7.out.blk2.cell 8 _ rfl
    have r9:=C7.out.blk2.cell 9 _ rfl
    have r10:=C7.out.blk2.cell 10 _ rfl
    have rf0:=C7.out.blk2.frozen 0
    have rf1:=C7.out.blk2.frozen 1
    have rf2:=C7.out.blk2.frozen 2
    have rf3:=C7.out.blk2.frozen 3
    have rf4:=C7.out.blk2.frozen 4
    have rf5:=C7.out.blk2.frozen 5
    have rf6:=C7.out.blk2.frozen 6
    have rf7:=C7.out.blk2.frozen 7
    have rf8:=C7.out.blk2.frozen 8
    have rf9:=C7.out.blk2.frozen 9
    have rf10:=C7.out.blk2.frozen 10
    go_wp2
    have C8:=Lh (((((((((((C7.out.put2 0 (.int .i64 t.who)).put2 1 (.int .i64 t.snap)).put2 2 (.int .i64 t.pc)).put2 3 (.slice B3 t.regs.length d3)).put2 4 (.slice B4 t.path.length d4)).put2 5 (.slice B5 t.reads.length d5)).put2 6 (.slice B6 t.log.list.length d6)).put2 7 (.slice B7 t.log.marks.length d7)).put2 8 (.slice B8 x.fl.length d8)).put2 9 (.int .i64 t.kind)).put2 10 (.int .i64 t.why))
    clear g0 r0 rf0 g1 r1 rf1 g2 r2 rf2 g3 r3 rf3 g4 r4 rf4 g5 r5 rf5 g6 r6 rf6 g7 r7 rf7 g8 r8 rf8 g9 r9 rf9 g10 r10 rf10 p8 f8
    generalize ((((((((((((w8.setCell ⟨w.heap.size,8,none⟩ (.slice B8 x.fl.length d8)).setCell ⟨w.heap.size+1,0,none⟩ (.int .i64 t.who)).setCell ⟨w.heap.size+1,1,none⟩ (.int .i64 t.snap)).setCell ⟨w.heap.size+1,2,none⟩ (.int .i64 t.pc)).setCell ⟨w.heap.size+1,3,none⟩ (.slice B3 t.regs.length d3)).setCell ⟨w.heap.size+1,4,none⟩ (.slice B4 t.path.length d4)).setCell ⟨w.heap.size+1,5,none⟩ (.slice B5 t.reads.length d5)).setCell ⟨w.heap.size+1,6,none⟩ (.slice B6 t.log.list.length d6)).setCell ⟨w.heap.size+1,7,none⟩ (.slice B7 t.log.marks.length d7)).setCell ⟨w.heap.size+1,8,none⟩ (.slice B8 x.fl.length d8)).setCell ⟨w.heap.size+1,9,none⟩ (.int .i64 t.kind)).setCell ⟨w.heap.size+1,10,none⟩ (.int .i64 t.why))=we at *
    have s0:=C8.out.blk2.cell 0 (.int .i64 t.who) rfl
    have s1:=C8.out.blk2.cell 1 (.int .i64 t.snap) rfl
    have s2:=C8.out.blk2.cell 2 (.int .i64 t.pc) rfl
    have s3:=C8.out.blk2.cell 3 (.slice B3 t.regs.length d3) rfl
    have s4:=C8.out.blk2.cell 4 (.slice B4 t.path.length d4) rfl
    have s5:=C8.out.blk2.cell 5 (.slice B5 t.reads.length d5) rfl
    have s6:=C8.out.blk2.cell 6 (.slice B6 t.log.list.length d6) rfl
    have s7:=C8.out.blk2.cell 7 (.slice B7 t.log.marks.length d7) rfl
    have s8:=C8.out.blk2.cell 8 (.slice B8 x.fl.length d8) rfl
    have s9:=C8.out.blk2.cell 9 (.int .i64 t.kind) rfl
    have s10:=C8.out.blk2.cell 10 (.int .i64 t.why) rfl
    refine bodyPost_ret (v:=.agg #[.int .i64 t.who,.int .i64 t.snap,.int .i64 t.pc,.slice B3 t.regs.length d3,.slice B4 t.path.length d4,.slice B5 t.reads.length d5,.slice B6 t.log.list.length d6,.slice B7 t.log.marks.length d7,.slice B8 x.fl.length d8,.int .i64 t.kind,.int .i64 t.why]) (by simp[results,Tryz.results81,go_sem,s0,s1,s2,s3,s4,s5,s6,s7,s8,s9,s10]) rfl ?_
    refine ⟨⟨B3,d3,B4,d4,B5,d5,B6,d6,B7,d7,B8,d8,x.fl⟩,rfl,?_,rfl,C8.out.bel⟩
    have own:=C8.out.own.1
    have q8:=own _ (List.mem_cons_self ..)
    have o8:=own_cap q8
    have q7:=own _ (List.mem_cons_of_mem _ (List.mem_cons_self ..))
    have o7:=own_cap q7
    have q6:=own _ (List.mem_cons_of_mem _ (List.mem_cons_of_mem _ (List.mem_cons_self ..)))
    have o6:=own_cap q6
    have q5:=own _ (List.mem_cons_of_mem _ (List.mem_cons_of_mem _ (List.mem_cons_of_mem _ (List.mem_cons_self ..))))
    have o5:=own_cap q5
    have q4:=own _ (List.mem_cons_of_mem _ (List.mem_cons_of_mem _ (List.mem_cons_of_mem _ (List.mem_cons_of_mem _ (List.mem_cons_self ..)))))
    have o4:=own_cap q4
    have q3:=own _ (List.mem_cons_of_mem _ (List.mem_cons_of_mem _ (List.mem_cons_of_mem _ (List.mem_cons_of_mem _ (List.mem_cons_of_mem _ (List.mem_cons_self ..))))))
    have o3:=own_cap q3
    intro S w'' ho hS hn
    have away:∀{e K n m d:Nat} {B:Option Addr} {xs:List Value},Own w we e K (.slice B n d) m xs→∀b off,B=some ⟨b,off,none⟩→0<m→¬S b:=fun h b off e1 _ hb=>by have k1:=h.base b (by rw[e1];rfl);have k2:=hS b hb;omega
    exact { regs:=rd_only o3.2.2 ho (away q3),path:=rd_only o4.2.2 ho (away q4),reads:=rd_only o5.2.2 ho (away q5),dn:=o5.2.1,log:=⟨rd_only o6.2.2 ho (away q6),rd_only o7.2.2 ho (away q7),o6.2.1,o7.2.1⟩,frames:=rd_only o8.2.2 ho (away q8),nest:=hn,raw:=HT.out.raw }
structure Mv (b0:Nat) (w:World) (g:Nat) (c:Com) (W:Wd) (y:TL) (z:WL):Prop where
 blk:Blk w g 167 (cvl c y++wvl W z).toArray
 old:b0≤g
 lists:∀w',Only (fun k=>k=g∨k<b0) w w' →TRd w' c.t y∧WRd w' W z
theorem gs {b0 g:Nat} {w w' :World} (h:Only (fun k=>k=g) w w'):Only (fun k=>k=g∨k<b0) w w' :=h.sub (fun _ _ e=>.inl e)
structure Short (t:Try) (x:TL):Prop where
 n1:t.regs.length≤1000000
 n2:t.path.length≤1000000
 n3:t.reads.length≤1000000
 n4:t.log.list.length≤1000000
 n5:t.log.marks.length≤1000000
 n6:x.fl.length≤1000000
def RetMv (w:World) (c:Com) (W:Wd) (x:TL) (e:Ending) (w' :World):Prop:=
 ∃g y z,e=.returned (.pointer (some ⟨g,0,none⟩))∧Mv w.heap.size w' g c W y z∧y.fl=x.fl∧Below w.heap.size w w'
set_option maxHeartbeats 8000000 in
theorem new_c (c:Com) (W:Wd) (x:TL) (z:WL) (w:World) (h:TRd w c.t x) (hs:Short c.t x) (hw:WRd w W z) (hf:Few W) (hx:x.fl= []):
  Calls Tryz.prog 83 #[.agg (cvl c x).toArray,.agg (wvl W z).toArray] w (RetMv w c W x):=by
 obtain ⟨t,p,v,er⟩:=c
 obtain ⟨h_,r_,k⟩:=W
 obtain ⟨H,hc,R,rc⟩:=z
 obtain ⟨f1,f2⟩:=hf
 obtain ⟨w1_,w2_⟩:=hw
 simp only at h hs f1 f2 w1_ w2_
 have HT:=Lh h
 have HS:=Lh hs
 have HH:=Lh w1_
 have HR:=Lh w2_
 have HX:=Lh hx
 clear h hs w1_ w2_ hx
 show Calls Tryz.prog 83 #[.agg (aC t x p v er),.agg #[.slice H h_.length hc,.slice R r_.length rc,.int .i64 k]] w (RetMv w ⟨t,p,v,er⟩ ⟨h_,r_,k⟩ x)
 obtain ⟨hn,ehn⟩:∃n,h_.length=n:=⟨_,rfl⟩
 obtain ⟨rn,ern⟩:∃n,r_.length=n:=⟨_,rfl⟩
 rw[ehn]at HH f1 ⊢
 rw[ern]at HR f2 ⊢
 have HEH:=Lh ehn
 have HER:=Lh ern
 clear ehn ern
 have HB:Hid (Below w.heap.size w ((w.alloc (.cells (aC t x p v er) 69)).alloc (.cells #[.slice H hn hc,.slice R rn rc,.int .i64 k] 63))):=Lh (bl_alloc (bl_alloc (Below.refl _ _) _) _)
 have HK:Hid (Blk ((w.alloc (.cells (aC t x p v er) 69)).alloc (.cells #[.slice H hn hc,.slice R rn rc,.int .i64 k] 63)) w.heap.size 69 (aC t x p v er)):=Lh ((Blk.new w _ _).alloc _)
 have HW:Hid (Blk ((w.alloc (.cells (aC t x p v er) 69)).alloc (.cells #[.slice H hn hc,.slice R rn rc,.int .i64 k] 63)) (w.heap.size+1) 63 #[.slice H hn hc,.slice R rn rc,.int .i64 k]):=Lh (by have:=Blk.new (w.alloc (.cells (aC t x p v er) 69)) 63 #[.slice H hn hc,.slice R rn rc,.int .i64 k];simpa using this)
 have c0:=HK.out.cell 0 _ rfl
 have c1:=HK.out.cell 1 _ rfl
 have c2:=HK.out.cell 2 _ rfl
 have c3:=HK.out.cell 3 _ rfl
 have c4:=HK.out.cell 4 _ rfl
 have c5:=HK.out.cell 5 _ rfl
 have c6:=HK.out.cell 6 _ rfl
 have c7:=HK.out.cell 7 _ rfl
 have c8:=HK.out.cell 8 _ rfl
 have c9:=HK.out.cell 9 _ rfl
 have c10:=HK.out.cell 10 _ rfl
 have HC:Hid (Calls Tryz.prog 81 #[.agg (aT t x)] ((w.alloc (.cells (aC t x p v er) 69)).alloc (.cells #[.slice H hn hc,.slice R rn rc,.int .i64 k] 63)) (fun e w' =>∃y:TL,e=.returned (.agg (aT t y))∧Lays ((w.alloc (.cells (aC t x p v er) 69)).alloc (.cells #[.slice H hn hc,.slice R rn rc,.int .i64 k] 63)) w' t x y∧y.fl=x.fl∧Below ((w.alloc (.cells (aC t x p v er) 69)).alloc (.cells #[.slice H hn hc,.slice R rn rc,.int .i64 k] 63)).heap.size ((w.alloc (.cells (aC t x p v er) 69)).alloc (.cells #[.slice H hn hc,.slice R rn rc,.int .i64 k] 63)) w')):=Lh ((clone_try t x ((w.alloc (.cells (aC t x p v er) 69)).alloc (.cells #[.slice H hn hc,.slice R rn rc,.int .i64 k] 63)) (HT.out.below HB.out) HS.out.n1 HS.out.n2 HS.out.n3 HS.out.n4 HS.out.n5 HS.out.n6).mono (fun e w' ⟨y,h1,h2,h3,h4⟩=>⟨y,h1,h2,h3,h4⟩))
 go_enter Tryz.func83,Tryz.ntmps83
 go_wp2_with fail
 refine HC.out.mono ?_
 rintro e_ w1 ⟨y,rfl,ty,efl,b_⟩
 have HK1:=Lh (HK.out.below b_)
 have HW1:=Lh (HW.out.below b_)
 have HB1:=Lh (bl_trans HB.out b_)
 have TY:=Lh ty
 have EF:=Lh efl
 clear b_ ty efl c0 c1 c2 c3 c4 c5 c6 c7 c8 c9 c10
 have k0:=HK1.out.cell 0 _ rfl
 have k1:=HK1.out.cell 1 _ rfl
 have k2:=HK1.out.cell 2 _ rfl
 have k3:=HK1.out.cell 3 _ rfl
 have k4:=HK1.out.cell 4 _ rfl
 have k5:=HK1.out.cell 5 _ rfl
 have k6:=HK1.out.cell 6 _ rfl
 have k7:=HK1.out.cell 7 _ rfl
 have k8:=HK1.out.cell 8 _ rfl
 have k9:=HK1.out.cell 9 _ rfl
 have k10:=HK1.out.cell 10 _ rfl
 have kf0:=HK1.out.frozen 0
 have kf1:=HK1.out.frozen 1
 have kf2:=HK1.out.frozen 2
 have kf3:=HK1.out.frozen 3
 have kf4:=HK1.out.frozen 4
 have kf5:=HK1.out.frozen 5
 have kf6:=HK1.out.frozen 6
 have kf7:=HK1.out.frozen 7
 have kf8:=HK1.out.frozen 8
 have kf9:=HK1.out.frozen 9
 have kf10:=HK1.out.frozen 10
 have HKf:Hid (Blk (((((((((((w1.setCell ⟨w.heap.size,0,none⟩ (.int .i64 t.who)).setCell ⟨w.heap.size,1,none⟩ (.int .i64 t.snap)).setCell ⟨w.heap.size,2,none⟩ (.int .i64 t.pc)).setCell ⟨w.heap.size,3,none⟩ (.slice y.R t.regs.length y.rc)).setCell ⟨w.heap.size,4,none⟩ (.slice y.P t.path.length y.pc)).setCell ⟨w.heap.size,5,none⟩ (.slice y.D t.reads.length y.dc)).setCell ⟨w.heap.size,6,none⟩ (.slice y.L t.log.list.length y.lc)).setCell ⟨w.heap.size,7,none⟩ (.slice y.M t.log.marks.length y.mc)).setCell ⟨w.heap.size,8,none⟩ (.slice y.F y.fl.length y.fc)).setCell ⟨w.heap.size,9,none⟩ (.int .i64 t.kind)).setCell ⟨w.heap.size,10,none⟩ (.int .i64 t.why)) w.heap.size 69 (aC t y p v er)):=Lh (by have:=(((((((((((HK1.out.set_ 0 (.int .i64 t.who)).set_ 1 (.int .i64 t.snap)).set_ 2 (.int .i64 t.pc)).set_ 3 (.slice y.R t.regs.length y.rc)).set_ 4 (.slice y.P t.path.length y.pc)).set_ 5 (.slice y.D t.reads.length y.dc)).set_ 6 (.slice y.L t.log.list.length y.lc)).set_ 7 (.slice y.M t.log.marks.length y.mc)).set_ 8 (.slice y.F y.fl.length y.fc)).set_ 9 (.int .i64 t.kind)).set_ 10 (.int .i64 t.why));simpa using this)
 have HWf:Hid (Blk (((((((((((w1.setCell ⟨w.heap.size,0,none⟩ (.int .i64 t.who)).setCell ⟨w.heap.size,1,none⟩ (.int .i64 t.snap)).setCell ⟨w.heap.size,2,none⟩ (.int .i64 t.pc)).setCell ⟨w.heap.size,3,none⟩ (.slice y.R t.regs.length y.rc)).setCell ⟨w.heap.size,4,none⟩ (.slice y.P t.path.length y.pc)).setCell ⟨w.heap.size,5,none⟩ (.slice y.D t.reads.length y.dc)).setCell ⟨w.heap.size,6,none⟩ (.slice y.L t.log.list.length y.lc)).setCell ⟨w.heap.size,7,none⟩ (.slice y.M t.log.marks.length y.mc)).setCell ⟨w.heap.size,8,none⟩ (.slice y.F y.fl.length y.fc)).setCell ⟨w.heap.size,9,none⟩ (.int .i64 t.kind)).setCell ⟨w.heap.size,10,none⟩ (.int .i64 t.why)) (w.heap.size+1) 63 #[.slice H hn hc,.slice R rn rc,.int .i64 k]):=Lh (((((((((((HW1.out.beside (show w.heap.size≠w.heap.size+1 by omega) 0 (.int .i64 t.who)).beside (show w.heap.size≠w.heap.size+1 by omega) 1 (.int .i64 t.snap)).beside (show w.heap.size≠w.heap.size+1 by omega) 2 (.int .i64 t.pc)).beside (show w.heap.size≠w.heap.size+1 by omega) 3 (.slice y.R t.regs.length y.rc)).beside (show w.heap.size≠w.heap.size+1 by omega) 4 (.slice y.P t.path.length y.pc)).beside (show w.heap.size≠w.heap.size+1 by omega) 5 (.slice y.D t.reads.length y.dc)).beside (show w.heap.size≠w.heap.size+1 by omega) 6 (.slice y.L t.log.list.length y.lc)).beside (show w.heap.size≠w.heap.size+1 by omega) 7 (.slice y.M t.log.marks.length y.mc)).beside (show w.heap.size≠w.heap.size+1 by omega) 8 (.slice y.F y.fl.length y.fc)).beside (show w.heap.size≠w.heap.size+1 by omega) 9 (.int .i64 t.kind)).beside (show w.heap.size≠w.heap.size+1 by omega) 10 (.int .i64 t.why))
 have HBf:Hid (Below w.heap.size w (((((((((((w1.setCell ⟨w.heap.size,0,none⟩ (.int .i64 t.who)).setCell ⟨w.heap.size,1,none⟩ (.int .i64 t.snap)).setCell ⟨w.heap.size,2,none⟩ (.int .i64 t.pc)).setCell ⟨w.heap.size,3,none⟩ (.slice y.R t.regs.length y.rc)).setCell ⟨w.heap.size,4,none⟩ (.slice y.P t.path.length y.pc)).setCell ⟨w.heap.size,5,none⟩ (.slice y.D t.reads.length y.dc)).setCell ⟨w.heap.size,6,none⟩ (.slice y.L t.log.list.length y.lc)).setCell ⟨w.heap.size,7,none⟩ (.slice y.M t.log.marks.length y.mc)).setCell ⟨w.heap.size,8,none⟩ (.slice y.F y.fl.length y.fc)).setCell ⟨w.heap.size,9,none⟩ (.int .i64 t.kind)).setCell ⟨w.heap.size,10,none⟩ (.int .i64 t.why))):=Lh (bl_set (bl_set (bl_set (bl_set (bl_set (bl_set (bl_set (bl_set (bl_set (bl_set (bl_set HB1.out (p:=⟨w.heap.size,0,none⟩) (Nat.le_refl _) (.int .i64 t.who)) (p:=⟨w.heap.size,1,none⟩) (Nat.le_refl _) (.int .i64 t.snap)) (p:=⟨w.heap.size,2,none⟩) (Nat.le_refl _) (.int .i64 t.pc)) (p:=⟨w.heap.size,3,none⟩) (Nat.le_refl _) (.slice y.R t.regs.length y.rc)) (p:=⟨w.heap.size,4,none⟩) (Nat.le_refl _) (.slice y.P t.path.length y.pc)) (p:=⟨w.heap.size,5,none⟩) (Nat.le_refl _) (.slice y.D t.reads.length y.dc)) (p:=⟨w.heap.size,6,none⟩) (Nat.le_refl _) (.slice y.L t.log.list.length y.lc)) (p:=⟨w.heap.size,7,none⟩) (Nat.le_refl _) (.slice y.M t.log.marks.length y.mc)) (p:=⟨w.heap.size,8,none⟩) (Nat.le_refl _) (.slice y.F y.fl.length y.fc)) (p:=⟨w.heap.size,9,none⟩) (Nat.le_refl _) (.int .i64 t.kind)) (p:=⟨w.heap.size,10,none⟩) (Nat.le_refl _) (.int .i64 t.why))
 have ONf:Hid (Only (fun j=>j=w.heap.size) w1 (((((((((((w1.setCell ⟨w.heap.size,0,none⟩ (.int .i64 t.who)).setCell ⟨w.heap.size,1,none⟩ (.int .i64 t.snap)).setCell ⟨w.heap.size,2,none⟩ (.int .i64 t.pc)).setCell ⟨w.heap.size,3,none⟩ (.slice y.R t.regs.length y.rc)).setCell ⟨w.heap.size,4,none⟩ (.slice y.P t.path.length y.pc)).setCell ⟨w.heap.size,5,none⟩ (.slice y.D t.reads.length y.dc)).setCell ⟨w.heap.size,6,none⟩ (.slice y.L t.log.list.length y.lc)).setCell ⟨w.heap.size,7,none⟩ (.slice y.M t.log.marks.length y.mc)).setCell ⟨w.heap.size,8,none⟩ (.slice y.F y.fl.length y.fc)).setCell ⟨w.heap.size,9,none⟩ (.int .i64 t.kind)).setCell ⟨w.heap.size,10,none⟩ (.int .i64 t.why))):=Lh (((((((((((((Only.refl (fun j=>j=w.heap.size) w1).put w.heap.size 0 _ rfl).put w.heap.size 1 _ rfl).put w.heap.size 2 _ rfl).put w.heap.size 3 _ rfl).put w.heap.size 4 _ rfl).put w.heap.size 5 _ rfl).put w.heap.size 6 _ rfl).put w.heap.size 7 _ rfl).put w.heap.size 8 _ rfl).put w.heap.size 9 _ rfl).put w.heap.size 10 _ rfl))
 have q0:=HWf.out.cell 0 _ rfl
 go_wp2_with fail
 clear q0 k0 kf0 k1 kf1 k2 kf2 k3 kf3 k4 kf4 k5 kf5 k6 kf6 k7 kf7 k8 kf8 k9 kf9 k10 kf10
 generalize (((((((((((w1.setCell ⟨w.heap.size,0,none⟩ (.int .i64 t.who)).setCell ⟨w.heap.size,1,none⟩ (.int .i64 t.snap)).setCell ⟨w.heap.size,2,none⟩ (.int .i64 t.pc)).setCell ⟨w.heap.size,3,none⟩ (.slice y.R t.regs.length y.rc)).setCell ⟨w.heap.size,4,none⟩ (.slice y.P t.path.length y.pc)).setCell ⟨w.heap.size,5,none⟩ (.slice y.D t.reads.length y.dc)).setCell ⟨w.heap.size,6,none⟩ (.slice y.L t.log.list.length y.lc)).setCell ⟨w.heap.size,7,none⟩ (.slice y.M t.log.marks.length y.mc)).setCell ⟨w.heap.size,8,none⟩ (.slice y.F y.fl.length y.fc)).setCell ⟨w.heap.size,9,none⟩ (.int .i64 t.kind)).setCell ⟨w.heap.size,10,none⟩ (.int .i64 t.why))=wf at *
 refine (Heap.clone_any h_ H hn hc wf (HH.out.below HBf.out) f1).mono ?_
 rintro e_ w2 ⟨v2,rfl,ho⟩
 obtain ⟨B,d,rfl,_,hr_⟩:=Mem.own_room ho
 have HO2:=Lh ho
 have HK2:=Lh (HKf.out.below ho.2)
 have HW2:=Lh (HWf.out.below ho.2)
 have p0:=HW2.out.cell 0 _ rfl
 have pf0:=HW2.out.frozen 0
 clear ho hr_
 have HWg:=Lh (HW2.out.set_ 0 (.slice B hn d))
 have HKg:=Lh (HK2.out.beside (show w.heap.size+1≠w.heap.size by omega) 0 (.slice B hn d))
 have HBg:Hid (Below w.heap.size w (w2.setCell ⟨w.heap.size+1,0,none⟩ (.slice B hn d))):=Lh (bl_set (bl_trans HBf.out HO2.out.2) (by simp) _)
 have q1:=HWg.out.cell 1 _ rfl
 go_wp2_with fail
 clear p0 pf0 q1
 refine (Stripe.clone_any r_ R rn rc _ (HR.out.below HBg.out) f2).mono ?_
 rintro e_ w3 ⟨v3,rfl,ho⟩
 obtain ⟨B2,d2,rfl,_,hr_⟩:=Mem.own_room ho
 have HO3:=Lh ho
 have HK3:=Lh (HKg.out.below ho.2)
 have HW3:=Lh (HWg.out.below ho.2)
 have p1:=HW3.out.cell 1 _ rfl
 have pf1:=HW3.out.frozen 1
 clear ho hr_
 have HWh:=Lh (HW3.out.set_ 1 (.slice B2 rn d2))
 have HKh:=Lh (HK3.out.beside (show w.heap.size+1≠w.heap.size by omega) 1 (.slice B2 rn d2))
 have HBh:Hid (Below w.heap.size w (w3.setCell ⟨w.heap.size+1,1,none⟩ (.slice B2 rn d2))):=Lh (bl_set (bl_trans HBg.out HO3.out.2) (by simp) _)
 have g0:=HKh.out.cell 0 _ rfl
 have g1:=HKh.out.cell 1 _ rfl
 have g2:=HKh.out.cell 2 _ rfl
 have g3:=HKh.out.cell 3 _ rfl
 have g4:=HKh.out.cell 4 _ rfl
 have g5:=HKh.out.cell 5 _ rfl
 have g6:=HKh.out.cell 6 _ rfl
 have g7:=HKh.out.cell 7 _ rfl
 have g8:=HKh.out.cell 8 _ rfl
 have g9:=HKh.out.cell 9 _ rfl
 have g10:=HKh.out.cell 10 _ rfl
 have g11:=HKh.out.cell 11 _ rfl
 have g12:=HKh.out.cell 12 _ rfl
 have g13:=HKh.out.cell 13 _ rfl
 have u0_:=HWh.out.cell 0 _ rfl
 have u1_:=HWh.out.cell 1 _ rfl
 have u2_:=HWh.out.cell 2 _ rfl
 go_wp2
 go_ret
 clear g0 g1 g2 g3 g4 g5 g6 g7 g8 g9 g10 g11 g12 g13 u0_ u1_ u2_
 have hz1:w.heap.size+2≤w1.heap.size:=by have:=HW1.out.lt;omega
 have hz2:w1.heap.size≤wf.heap.size:=ONf.out.size
 have hz3:wf.heap.size≤w2.heap.size:=HO2.out.2.size
 have hz4:w2.heap.size≤w3.heap.size:=by have:=HO3.out.2.size;simpa using this
 have hsz:(w3.setCell ⟨w.heap.size+1,1,none⟩ (.slice B2 rn d2)).heap.size=w3.heap.size:=by simp
 refine ⟨w3.heap.size,y,⟨B,d,B2,d2⟩,rfl,⟨?_,by omega,?_⟩,EF.out,bl_alloc HBh.out _⟩
 ·have :=Blk.new (w3.setCell ⟨w.heap.size+1,1,none⟩ (.slice B2 rn d2)) 167 #[.int .i64 t.who,.int .i64 t.snap,.int .i64 t.pc,.slice y.R t.regs.length y.rc,.slice y.P t.path.length y.pc,.slice y.D t.reads.length y.dc,.slice y.L t.log.list.length y.lc,.slice y.M t.log.marks.length y.mc,.slice y.F y.fl.length y.fc,.int .i64 t.kind,.int .i64 t.why,.int .i64 p,.int .i64 v,.int .i64 er,.slice B hn d,.slice B2 rn d2,.int .i64 k]
  rw[hsz]at this
  show Blk _ _ _ #[.int .i64 t.who,.int .i64 t.snap,.int .i64 t.pc,.slice y.R t.regs.length y.rc,.slice y.P t.path.length y.pc,.slice y.D t.reads.length y.dc,.slice y.L t.log.list.length y.lc,.slice y.M t.log.marks.length y.mc,.slice y.F y.fl.length y.fc,.int .i64 t.kind,.int .i64 t.why,.int .i64 p,.int .i64 v,.int .i64 er,.slice B h_.length d,.slice B2 r_.length d2,.int .i64 k]
  rw[HEH.out,HER.out]
  exact this
 ·intro w' ho
  have oN:Only (fun j=>j=w.heap.size+1∨j<w.heap.size) w2 w' :=(((((Only.refl (fun j=>j=w.heap.size+1∨j<w.heap.size) w2).put (w.heap.size+1) 0 _ (.inl rfl)).bl HO3.out.2).put (w.heap.size+1) 1 _ (.inl rfl)).alloc _).trans ho (fun i hi e=>by omega)
  have oM:Only (fun j=>j=w.heap.size+1∨j<w.heap.size) w3 w' :=(((Only.refl (fun j=>j=w.heap.size+1∨j<w.heap.size) w3).put (w.heap.size+1) 1 _ (.inl rfl)).alloc _).trans ho (fun i hi e=>by omega)
  have oT:Only (fun j=>j=w.heap.size∨j=w.heap.size+1∨j<w.heap.size) w1 w' :=((ONf.out.sub (fun _ _ e=>.inl e)).bl HO2.out.2).trans oN (fun i _ e=>.inr e)
  refine ⟨TY.out _ w' oT (fun j hj=>by simp only[World.size_alloc];omega) (fun r hr=>by have hx2:x.fl= []:=HX.out;rw[hx2]at hr;cases hr),?_,?_⟩
  ·show Rd w' 2 B h_.length (Heap.cs h_)
   rw[HEH.out]
   exact rd_only (own_cap HO2.out).2.2 oN (fun b off e _ hb=>by have k1:=HO2.out.base b (by rw[e];rfl);omega)
  ·show Rd w' 2 B2 r_.length (Stripe.rs r_)
   rw[HER.out]
   exact rd_only (own_cap HO3.out).2.2 oM (fun b off e _ hb=>by have k1:=HO3.out.base b (by rw[e];rfl);simp at k1;omega)
def RetDo (b0:Nat) (w:World) (g:Nat) (r:Com × Wd × Int) (y:TL) (e:Ending) (w' :World):Prop:=
 ∃z,e=.returned (.int .i64 r.2.2)∧Mv b0 w' g r.1 r.2.1 y z∧Only (fun k=>k=g) w w'
set_option maxHeartbeats 4000000 in
theorem tick_m (b0 g:Nat) (c:Com) (W:Wd) (y:TL) (z:WL) (w:World) (h:Mv b0 w g c W y z):
  Calls Tryz.prog 138 #[.pointer (some ⟨g,0,none⟩)] w (RetDo b0 w g (tickC c W) y):=by
 have HB:=Lh h.blk
 have HL:=Lh h.lists
 have HOB:=Lh h.old
 clear h
 obtain ⟨t,p,v,er⟩:=c
 obtain ⟨h_,r_,k⟩:=W
 have HN:Hid (Calls Tryz.prog 180 #[.int .i64 k] w fun e w' =>e=.returned (.tuple #[.int .i64 (Tick.nextS k).1,.int .i64 (Tick.nextS k).2])∧w=w'):=Lh (Tick.next_any k w)
 have k16:=HB.out.cell 16 (.int .i64 k) rfl
 have f16:=HB.out.frozen 16
 have f12:=HB.out.frozen 12
 have b12:=(HB.out.set_ 16 (.int .i64 (Tick.nextS k).1)).cell 12 (.int .i64 v) rfl
 have l12:=(HB.out.set_ 16 (.int .i64 (Tick.nextS k).1)).frozen 12
 show Calls _ _ _ _ (RetDo b0 w g (if (Tick.nextS k).2=0 then (⟨t,p,(Tick.nextS k).1,er⟩,⟨h_,r_,(Tick.nextS k).1⟩,0) else (⟨t,p,v,er⟩,⟨h_,r_,k⟩,(Tick.nextS k).2)) y)
 generalize Tick.nextS k=nx at *
 obtain ⟨n1,n2⟩:=nx
 simp only at *
 by_cases h0:n2=0
 ·subst h0
  go_enter Tryz.func138,Tryz.ntmps138
  go_wp2_with (refine HN.out.mono ?_;rintro e_ w_ ⟨rfl,rfl⟩)
  go_ret
  have o:Only (fun k=>k=g) w ((w.setCell ⟨g,16,none⟩ (.int .i64 n1)).setCell ⟨g,12,none⟩ (.int .i64 n1)):=((Only.refl (fun k=>k=g) w).put g 16 _ rfl).put g 12 _ rfl
  refine ⟨z,rfl,⟨?_,HOB.out,fun w' ho=>HL.out w' ((gs o).trans ho (fun _ _ e=>e))⟩,o⟩
  exact (HB.out.set_ 16 (.int .i64 n1)).set_ 12 (.int .i64 n1)
 ·rw [if_neg h0]
  go_enter Tryz.func138,Tryz.ntmps138
  go_wp2_with (refine HN.out.mono ?_;rintro e_ w_ ⟨rfl,rfl⟩)
  go_ret
  exact ⟨z,rfl,⟨HB.out,HOB.out,HL.out⟩,Only.refl _ _⟩
set_option maxHeartbeats 4000000 in
theorem check_m (b0 g:Nat) (c:Com) (W:Wd) (y:TL) (z:WL) (w:World) (h:Mv b0 w g c W y z) (hs:Short c.t y) (hf:Few W):
  Calls Tryz.prog 139 #[.pointer (some ⟨g,0,none⟩)] w (RetDo b0 w g (checkC c W) y):=by
 obtain ⟨t,p,v,er⟩:=c
 obtain ⟨h_,r_,k⟩:=W
 simp only at hs hf
 have HON:Hid (Only (fun k=>k=g) w w.drew):=Lh ((Only.refl (fun k=>k=g) w).bl (Below.refl w.heap.size w).drew)
 have HB:=Lh (h.blk.below (Below.refl _ _).drew)
 have HL:=Lh h.lists
 have HOB:=Lh h.old
 have HC:=Lh (Reads.valid_c t.reads r_ y.D z.R t.reads.length y.dc r_.length z.rc t.who w.drew _ (h.lists _ (gs HON.out)).1.reads (h.lists _ (gs HON.out)).1.dn (h.lists _ (gs HON.out)).2.2 hs.n3 hf.2 rfl)
 clear h hs hf
 show Calls _ _ _ _ (RetDo b0 w g (⟨t,p,v,er⟩,⟨h_,r_,k⟩,Reads.validS t.reads r_ t.who) y)
 generalize Reads.validS t.reads r_ t.who=r at *
 go_enter Tryz.func139,Tryz.ntmps139
 go_wp2_with fail
 have f0:(fun (W:World)=>W.cell? ⟨g,5,none⟩=some (.slice y.D t.reads.length y.dc)∧W.cell? ⟨g,15,none⟩=some (.slice z.R r_.length z.rc)∧W.cell? ⟨g,0,none⟩=some (.int .i64 t.who)) w.drew:=⟨HB.out.cell 5 _ rfl,HB.out.cell 15 _ rfl,HB.out.cell 0 _ rfl⟩
 refine wp_region_held_drew (S:=fun (W:World)=>W.cell? ⟨g,5,none⟩=some (.slice y.D t.reads.length y.dc)∧W.cell? ⟨g,15,none⟩=some (.slice z.R r_.length z.rc)∧W.cell? ⟨g,0,none⟩=some (.int .i64 t.who)) (by kernel_rfl) f0 (fun hH0=>?_)
 clear f0
 generalize w.drew=wd at *
 refine tk 0 (.pointer (some ⟨g,0,none⟩)) rfl hH0 ?_
 try go_simp
 refine tk 1 (.pointer (some ⟨g,0,none⟩)) rfl hH0 ?_
 try go_simp
 refine tk 2 (.pointer (some ⟨g,0,none⟩)) rfl hH0 ?_
 try go_simp
 refine tk 3 (.pointer (some ⟨g,0,none⟩)) rfl hH0 ?_
 try go_simp
 refine tk 4 (.pointer (some ⟨g,5,none⟩)) rfl hH0 ?_
 try go_simp
 refine tk 5 (.slice y.D t.reads.length y.dc) rfl hH0 ?_ (hy:=Or.inl ⟨by kernel_rfl,fun W hS=>by obtain ⟨k5,k15,k0⟩:=hS;go_simp⟩)
 try go_simp
 refine tk 6 (.pointer (some ⟨g,0,none⟩)) rfl hH0 ?_
 try go_simp
 refine tk 7 (.pointer (some ⟨g,0,none⟩)) rfl hH0 ?_
 try go_simp
 refine tk 8 (.pointer (some ⟨g,14,none⟩)) rfl hH0 ?_
 try go_simp
 refine tk 9 (.pointer (some ⟨g,15,none⟩)) rfl hH0 ?_
 try go_simp
 refine tk 10 (.slice z.R r_.length z.rc) rfl hH0 ?_ (hy:=Or.inl ⟨by kernel_rfl,fun W hS=>by obtain ⟨k5,k15,k0⟩:=hS;go_simp⟩)
 try go_simp
 refine tk 11 (.pointer (some ⟨g,0,none⟩)) rfl hH0 ?_
 try go_simp
 refine tk 12 (.pointer (some ⟨g,0,none⟩)) rfl hH0 ?_
 try go_simp
 refine tk 13 (.pointer (some ⟨g,0,none⟩)) rfl hH0 ?_
 try go_simp
 refine tk 14 (.pointer (some ⟨g,0,none⟩)) rfl hH0 ?_
 try go_simp
 refine tk 15 (.pointer (some ⟨g,0,none⟩)) rfl hH0 ?_
 try go_simp
 refine tk 16 (.int .i64 t.who) rfl hH0 ?_ (hy:=Or.inl ⟨by kernel_rfl,fun W hS=>by obtain ⟨k5,k15,k0⟩:=hS;go_simp⟩)
 try go_simp
 refine rdy 17 rfl (fun KK0 hK=>?_)
 rw[if_pos (by kernel_rfl)]
 refine Step2.calls_wp _ _ _ HC.out (Step2.run_call _ _ _ rfl rfl Tryz.func181 (by kernel_rfl) (by kernel_rfl) _ (by kernel_rfl)) ?_
 rintro e wq ⟨rfl,b_⟩
 refine ⟨_,rfl,?_⟩
 have HQ:=Lh (HB.out.below b_)
 have HO:=Lh (HON.out.bl b_)
 clear b_
 refine hK.out _ _ ⟨HQ.out.cell 5 _ rfl,HQ.out.cell 15 _ rfl,HQ.out.cell 0 _ rfl⟩ (fun hH1=>?_)
 clear hK KK0
 try go_simp
 refine rdy 18 rfl (fun KK0 hK=>?_)
 go_simp
 refine hK.out _ _ hH1 (fun _=>?_)
 clear hK KK0
 refine wpAnyH_done (by kernel_rfl) ?_ _
 try go_simp
 go_wp2
 go_ret
 exact ⟨z,rfl,⟨HQ.out,HOB.out,fun w' ho=>HL.out w' ((gs HO.out).trans ho (fun _ _ e=>e))⟩,HO.out⟩
theorem stamp_len (t:List Stripe.Rec) (who v:Int):(Stripe.stampS t who v).1.length=t.length:=by
 unfold Stripe.stampS;split
 ·split
  ·split <;> simp
  ·rfl
 ·rfl
theorem lock_len (t:List Stripe.Rec) (who:Int) (l:List Int):(Stripe.lockS t who l).1.length=t.length:=by
 unfold Stripe.lockS;split
 ·split
  ·simp[Stripe.lockAll]
  ·rfl
 ·rfl
theorem put_len (h:List Heap.Cell) (l:List Heap.Write):(Heap.putS h l).1.length=h.length:=by
 unfold Heap.putS;split
 ·split
  ·exact Heap.putAll_len h l
  ·rfl
 ·rfl
section
variable {b0:Nat} {w0 wb wq:World} {g:Nat} {c:Com} {W:Wd} {y:TL} {z:WL} {e d n:Nat} {B:Option Addr}
theorem mv_table {r' :List Stripe.Rec} (hL:∀w',Only (fun k=>k=g∨k<b0) w0 w' →TRd w' c.t y∧WRd w' W z) (hB:Blk wq g 167 (cvl c y++wvl W z).toArray) (hO:Only (fun k=>k=g) w0 wq)
  (ho:Own wb wq e 2 (.slice B n d) n (Stripe.rs r')) (hg:g<wb.heap.size) (hn:r'.length=n) (hob:b0≤g):
  Mv b0 (wq.setCell ⟨g,15,none⟩ (.slice B n d)) g c { W with r:=r' } y { z with R:=B,rc:=d }∧Only (fun k=>k=g) w0 (wq.setCell ⟨g,15,none⟩ (.slice B n d)):=by
 have oq:Only (fun k=>k=g) wq (wq.setCell ⟨g,15,none⟩ (.slice B n d)):=(Only.refl (fun k=>k=g) wq).put g 15 _ rfl
 have oN:=hO.trans oq (fun _ _ e=>e)
 refine ⟨⟨?_,hob,fun w' hw=>?_⟩,oN⟩
 ·subst hn
  exact hB.set_ 15 (.slice B r'.length d)
 ·have h1:=hL w' ((gs oN).trans hw (fun _ _ e=>e))
  refine ⟨h1.1,h1.2.1,?_⟩
  subst hn
  exact own_only ho (S:=fun k=>k=g∨k<b0) (fun k hk=>by omega) ((gs oq).trans hw (fun _ _ e=>e))
theorem mv_heap {h' :List Heap.Cell} (hL:∀w',Only (fun k=>k=g∨k<b0) w0 w' →TRd w' c.t y∧WRd w' W z) (hB:Blk wq g 167 (cvl c y++wvl W z).toArray) (hO:Only (fun k=>k=g) w0 wq)
  (ho:Own wb wq e 2 (.slice B n d) n (Heap.cs h')) (hg:g<wb.heap.size) (hn:h'.length=n) (hob:b0≤g):
  Mv b0 (wq.setCell ⟨g,14,none⟩ (.slice B n d)) g c { W with h:=h' } y { z with H:=B,hc:=d }∧Only (fun k=>k=g) w0 (wq.setCell ⟨g,14,none⟩ (.slice B n d)):=by
 have oq:Only (fun k=>k=g) wq (wq.setCell ⟨g,14,none⟩ (.slice B n d)):=(Only.refl (fun k=>k=g) wq).put g 14 _ rfl
 have oN:=hO.trans oq (fun _ _ e=>e)
 refine ⟨⟨?_,hob,fun w' hw=>?_⟩,oN⟩
 ·subst hn
  exact hB.set_ 14 (.slice B h'.length d)
 ·have h1:=hL w' ((gs oN).trans hw (fun _ _ e=>e))
  refine ⟨h1.1,?_,h1.2.2⟩
  subst hn
  exact own_only ho (S:=fun k=>k=g∨k<b0) (fun k hk=>by omega) ((gs oq).trans hw (fun _ _ e=>e))
end
def RetGive (b0:Nat) (w:World) (g:Nat) (r:Com × Wd) (y:TL) (e:Ending) (w' :World):Prop:=
 ∃z,e=.returned (.tuple #[])∧Mv b0 w' g r.1 r.2 y z∧Only (fun k=>k=g) w w'
set_option maxHeartbeats 1000000 in
theorem give_m (b0 g:Nat) (c:Com) (W:Wd) (y:TL) (z:WL) (er_:Int) (w:World) (h:Mv b0 w g c W y z) (hf:Few W):
  Calls Tryz.prog 85 #[.pointer (some ⟨g,0,none⟩),.int .i64 er_] w (RetGive b0 w g (outC c W er_) y):=by
 obtain ⟨t,p,v,er⟩:=c
 obtain ⟨h_,r_,k⟩:=W
 have k11:=h.blk.cell 11 _ rfl
 have k12:=h.blk.cell 12 _ rfl
 have k13:=h.blk.cell 13 _ rfl
 have f11:=h.blk.frozen 11
 have f12:=h.blk.frozen 12
 have f13:=h.blk.frozen 13
 have HON:Hid (Only (fun k=>k=g) w (((w.setCell ⟨g,11,none⟩ (.int .i64 6)).setCell ⟨g,12,none⟩ (.int .i64 0)).setCell ⟨g,13,none⟩ (.int .i64 er_)).drew):=Lh (((((Only.refl (fun k=>k=g) w).put g 11 _ rfl).put g 12 _ rfl).put g 13 _ rfl).bl (Below.refl (((w.setCell ⟨g,11,none⟩ (.int .i64 6)).setCell ⟨g,12,none⟩ (.int .i64 0)).setCell ⟨g,13,none⟩ (.int .i64 er_)).heap.size (((w.setCell ⟨g,11,none⟩ (.int .i64 6)).setCell ⟨g,12,none⟩ (.int .i64 0)).setCell ⟨g,13,none⟩ (.int .i64 er_))).drew)
 have HB:Hid (Blk (((w.setCell ⟨g,11,none⟩ (.int .i64 6)).setCell ⟨g,12,none⟩ (.int .i64 0)).setCell ⟨g,13,none⟩ (.int .i64 er_)).drew g 167 (cvl ⟨t,6,0,er_⟩ y++wvl ⟨h_,r_,k⟩ z).toArray):=Lh ((((h.blk.set_ 11 (.int .i64 6)).set_ 12 (.int .i64 0)).set_ 13 (.int .i64 er_)).below (Below.refl _ _).drew)
 have HL:=Lh h.lists
 have HOB:=Lh h.old
 have HC:=Lh (Stripe.let_w r_ z.R r_.length z.rc t.who (((w.setCell ⟨g,11,none⟩ (.int .i64 6)).setCell ⟨g,12,none⟩ (.int .i64 0)).setCell ⟨g,13,none⟩ (.int .i64 er_)).drew _ (h.lists _ (gs HON.out)).2.2 hf.2 rfl)
 have HN:=Lh (let_len r_ t.who)
 clear h hf
 show Calls _ _ _ _ (RetGive b0 w g (⟨t,6,0,er_⟩,⟨h_,Stripe.letS r_ t.who,k⟩) y)
 generalize Stripe.letS r_ t.who=r' at *
 go_enter Tryz.func85,Tryz.ntmps85
 go_wp2_with fail
 clear k11 k12 k13 f11 f12 f13
 generalize (((w.setCell ⟨g,11,none⟩ (.int .i64 6)).setCell ⟨g,12,none⟩ (.int .i64 0)).setCell ⟨g,13,none⟩ (.int .i64 er_))=wA at *
 have f0:(fun (W:World)=>W.cell? ⟨g,0,none⟩=some (.int .i64 t.who)) wA.drew:=HB.out.cell 0 _ rfl
 refine wp_region_held_drew (S:=fun (W:World)=>W.cell? ⟨g,0,none⟩=some (.int .i64 t.who)) (by kernel_rfl) f0 (fun hH0=>?_)
 clear f0
 generalize wA.drew=wd at *
 refine tk 0 (.pointer (some ⟨g,0,none⟩)) rfl hH0 ?_
 try go_simp
 refine tk 1 (.pointer (some ⟨g,0,none⟩)) rfl hH0 ?_
 try go_simp
 refine tk 2 (.pointer (some ⟨g,0,none⟩)) rfl hH0 ?_
 try go_simp
 refine tk 3 (.pointer (some ⟨g,14,none⟩)) rfl hH0 ?_
 try go_simp
 refine tk 4 (.pointer (some ⟨g,15,none⟩)) rfl hH0 ?_
 try go_simp
 refine tk 6 (.pointer (some ⟨g,0,none⟩)) rfl hH0 ?_
 try go_simp
 refine tk 7 (.pointer (some ⟨g,0,none⟩)) rfl hH0 ?_
 try go_simp
 refine tk 8 (.pointer (some ⟨g,0,none⟩)) rfl hH0 ?_
 try go_simp
 refine tk 9 (.pointer (some ⟨g,0,none⟩)) rfl hH0 ?_
 try go_simp
 refine tk 10 (.pointer (some ⟨g,0,none⟩)) rfl hH0 ?_
 try go_simp
 refine tk 11 (.int .i64 t.who) rfl hH0 ?_ (hy:=Or.inl ⟨by kernel_rfl,fun W hS=>by have k0:=hS;go_simp⟩)
 try go_simp
 refine rdy 5 rfl (fun KK0 hK=>?_)
 have q15:=HB.out.cell 15 (.slice z.R r_.length z.rc) rfl
 go_simp
 clear q15
 refine hK.out _ _ (HB.out.cell 0 _ rfl) (fun hH0=>?_)
 clear hK KK0
 try go_simp
 refine rdy 12 rfl (fun KK0 hK=>?_)
 rw[if_pos (by kernel_rfl)]
 refine Step2.calls_wp _ _ _ (HC.out) (Step2.run_call _ _ _ rfl rfl Tryz.func142 (by kernel_rfl) (by kernel_rfl) _ (by kernel_rfl)) ?_
 rintro e wq ⟨B,d,rfl,ho⟩
 refine ⟨_,rfl,?_⟩
 have hgl:=HB.out.lt
 have HQ:=Lh (HB.out.below ho.2)
 have HO:=Lh (HON.out.bl ho.2)
 obtain ⟨m1,m2⟩:=mv_table (W:=⟨h_,r_,k⟩) HL.out HQ.out HO.out ho hgl HN.out HOB.out
 have HM1:=Lh m1
 have HM2:=Lh m2
 clear ho m1 m2
 refine hK.out _ _ (HQ.out.cell 0 _ rfl) (fun hH1=>?_)
 clear hK KK0
 try go_simp
 refine tk 13 (.pointer (some ⟨g,0,none⟩)) rfl hH1 ?_
 try go_simp
 refine tk 14 (.pointer (some ⟨g,14,none⟩)) rfl hH1 ?_
 try go_simp
 refine tk 15 (.pointer (some ⟨g,15,none⟩)) rfl hH1 ?_
 try go_simp
 have p15:=HQ.out.cell 15 _ rfl
 have pf15:=HQ.out.frozen 15
 refine rdy 16 rfl (fun KK0 hK=>?_)
 go_simp
 refine hK.out _ _ (HM1.out.blk.cell 0 _ rfl) (fun _=>?_)
 clear hK KK0
 refine wpAnyH_done (by kernel_rfl) ?_ _
 try go_simp
 go_wp2
 go_end0
 exact ⟨_,rfl,HM1.out,HM2.out⟩
set_option maxHeartbeats 1000000 in
theorem stamp_m (b0 g:Nat) (c:Com) (W:Wd) (y:TL) (z:WL) (w:World) (h:Mv b0 w g c W y z) (hf:Few W):
  Calls Tryz.prog 141 #[.pointer (some ⟨g,0,none⟩)] w (RetDo b0 w g (stampC c W) y):=by
 obtain ⟨t,p,v,er⟩:=c
 obtain ⟨h_,r_,k⟩:=W
 have HON:Hid (Only (fun k=>k=g) w w.drew):=Lh ((Only.refl (fun k=>k=g) w).bl (Below.refl w.heap.size w).drew)
 have HB:=Lh (h.blk.below (Below.refl _ _).drew)
 have HL:=Lh h.lists
 have HOB:=Lh h.old
 have HC:=Lh (Stripe.stamp_w r_ z.R r_.length z.rc t.who v w.drew _ (h.lists _ (gs HON.out)).2.2 hf.2 rfl)
 have HN:=Lh (stamp_len r_ t.who v)
 clear h hf
 show Calls _ _ _ _ (RetDo b0 w g (⟨t,p,v,er⟩,⟨h_,(Stripe.stampS r_ t.who v).1,k⟩,(Stripe.stampS r_ t.who v).2) y)
 generalize Stripe.stampS r_ t.who v=sr at *
 obtain ⟨r',f⟩:=sr
 simp only at HC HN ⊢
 go_enter Tryz.func141,Tryz.ntmps141
 go_wp2_with fail
 have f0:(fun (W:World)=>W.cell? ⟨g,15,none⟩=some (.slice z.R r_.length z.rc)∧W.cell? ⟨g,0,none⟩=some (.int .i64 t.who)∧W.cell? ⟨g,12,none⟩=some (.int .i64 v)) w.drew:=⟨HB.out.cell 15 _ rfl,HB.out.cell 0 _ rfl,HB.out.cell 12 _ rfl⟩
 refine wp_region_held_drew (S:=fun (W:World)=>W.cell? ⟨g,15,none⟩=some (.slice z.R r_.length z.rc)∧W.cell? ⟨g,0,none⟩=some (.int .i64 t.who)∧W.cell? ⟨g,12,none⟩=some (.int .i64 v)) (by kernel_rfl) f0 (fun hH0=>?_)
 clear f0
 generalize w.drew=wd at *
 refine tk 0 (.pointer (some ⟨g,0,none⟩)) rfl hH0 ?_
 try go_simp
 refine tk 1 (.pointer (some ⟨g,0,none⟩)) rfl hH0 ?_
 try go_simp
 refine tk 2 (.pointer (some ⟨g,14,none⟩)) rfl hH0 ?_
 try go_simp
 refine tk 3 (.pointer (some ⟨g,15,none⟩)) rfl hH0 ?_
 try go_simp
 refine tk 4 (.slice z.R r_.length z.rc) rfl hH0 ?_ (hy:=Or.inl ⟨by kernel_rfl,fun W hS=>by obtain ⟨k15,k0,k12⟩:=hS;go_simp⟩)
 try go_simp
 refine tk 5 (.pointer (some ⟨g,0,none⟩)) rfl hH0 ?_
 try go_simp
 refine tk 6 (.pointer (some ⟨g,0,none⟩)) rfl hH0 ?_
 try go_simp
 refine tk 7 (.pointer (some ⟨g,0,none⟩)) rfl hH0 ?_
 try go_simp
 refine tk 8 (.pointer (some ⟨g,0,none⟩)) rfl hH0 ?_
 try go_simp
 refine tk 9 (.pointer (some ⟨g,0,none⟩)) rfl hH0 ?_
 try go_simp
 refine tk 10 (.int .i64 t.who) rfl hH0 ?_ (hy:=Or.inl ⟨by kernel_rfl,fun W hS=>by obtain ⟨k15,k0,k12⟩:=hS;go_simp⟩)
 try go_simp
 refine tk 11 (.pointer (some ⟨g,0,none⟩)) rfl hH0 ?_
 try go_simp
 refine tk 12 (.pointer (some ⟨g,0,none⟩)) rfl hH0 ?_
 try go_simp
 refine tk 13 (.pointer (some ⟨g,0,none⟩)) rfl hH0 ?_
 try go_simp
 refine tk 14 (.pointer (some ⟨g,12,none⟩)) rfl hH0 ?_
 try go_simp
 refine tk 15 (.int .i64 v) rfl hH0 ?_ (hy:=Or.inl ⟨by kernel_rfl,fun W hS=>by obtain ⟨k15,k0,k12⟩:=hS;go_simp⟩)
 try go_simp
 refine rdy 16 rfl (fun KK0 hK=>?_)
 rw[if_pos (by kernel_rfl)]
 refine Step2.calls_wp _ _ _ (HC.out) (Step2.run_call _ _ _ rfl rfl Tryz.func46 (by kernel_rfl) (by kernel_rfl) _ (by kernel_rfl)) ?_
 rintro e wq ⟨B,d,rfl,ho⟩
 refine ⟨_,rfl,?_⟩
 have hgl:=HB.out.lt
 have HQ:=Lh (HB.out.below ho.2)
 have HO:=Lh (HON.out.bl ho.2)
 have X1:∀w',Only (fun k=>k=g∨k<b0) w w' →TRd w' t y∧WRd w' ⟨h_,r_,k⟩ z:=HL.out
 have X2:Own wd wq 92 2 (.slice B r_.length d) r_.length (Stripe.rs r'):=ho
 have X3:Blk wq g 167 (cvl ⟨t,p,v,er⟩ y++wvl ⟨h_,r_,k⟩ z).toArray:=HQ.out
 have X4:r'.length=r_.length:=HN.out
 have X5:Only (fun k=>k=g) w wq:=HO.out
 have m1:=@mv_table b0 w wd wq g ⟨t,p,v,er⟩ ⟨h_,r_,k⟩ y z 92 d r_.length B r' X1 X3 X5 X2 hgl X4 HOB.out
 have HM1:=Lh m1.1
 have HM2:=Lh m1.2
 clear X1 X2 X3 X4 X5 ho m1
 refine hK.out _ _ ⟨HQ.out.cell 15 _ rfl,HQ.out.cell 0 _ rfl,HQ.out.cell 12 _ rfl⟩ (fun hH1=>?_)
 clear hK KK0
 try go_simp
 refine tk 17 (.tuple #[.slice B r_.length d,.int .i64 f]) rfl hH1 ?_
 try go_simp
 refine tk 18 (.slice B r_.length d) rfl hH1 ?_
 try go_simp
 refine tk 19 (.int .i64 f) rfl hH1 ?_
 try go_simp
 refine tk 20 (.slice B r_.length d) rfl hH1 ?_
 try go_simp
 refine rdy 21 rfl (fun KK0 hK=>?_)
 go_simp
 refine hK.out _ _ hH1 (fun _=>?_)
 clear hK KK0
 refine wpAnyH_done (by kernel_rfl) ?_ _
 try go_simp
 have p_:=HQ.out.cell 15 _ rfl
 have pf_:=HQ.out.frozen 15
 go_wp2
 go_ret
 exact ⟨_,rfl,HM1.out,HM2.out⟩
theorem last_w (l:Writes.Log) (A B:Option Addr) (n c m d:Nat) (w:World) (r:List Heap.Write) (q:Nat) (hl:Writes.LogAt w A n c B m d l) (hn:n≤1000000) (hm:m≤1000000) (hr:Writes.lastS l=r) (hq:r.length=q):
  Calls Tryz.prog 78 #[.agg #[.slice A n c,.slice B m d]] w (fun e w' =>∃(E:Option Addr) (f:Nat),e=.returned (.slice E q f)∧Own w w' 97 2 (.slice E q f) q (Heap.ws r)):=
 (Writes.last_o l A B n c m d w r q hl hn hm hr hq).mono (fun e w' h=>by
  obtain ⟨v,h1,h2⟩:=h
  obtain ⟨E,f,rfl,_,_⟩:=own_room h2
  exact ⟨E,f,h1,h2⟩)
theorem put_w (h:List Heap.Cell) (l:List Heap.Write) (A D:Option Addr) (n c m d:Nat) (w:World) (r:List Heap.Cell × Int) (hr:Rd w 2 A n (Heap.cs h)) (hl:Rd w 2 D m (Heap.ws l)) (hn:n≤1000000) (hm:m≤1000000) (hp:Heap.putS h l=r):
  Calls Tryz.prog 96 #[.slice A n c,.slice D m d] w (fun e w' =>∃(E:Option Addr) (f:Nat),e=.returned (.tuple #[.slice E n f,.int .i64 r.2])∧Own w w' 117 2 (.slice E n f) n (Heap.cs r.1)):=
 (Heap.put_o h l A D n c m d w r hr hl hn hm hp).mono (fun e w' h=>by
  obtain ⟨v,h1,h2⟩:=h
  obtain ⟨E,f,rfl,_,_⟩:=own_room h2
  exact ⟨E,f,h1,h2⟩)
set_option maxHeartbeats 2000000 in
theorem put_m (b0 g:Nat) (c:Com) (W:Wd) (y:TL) (z:WL) (w:World) (h:Mv b0 w g c W y z) (hs:Short c.t y) (hf:Few W):
  Calls Tryz.prog 140 #[.pointer (some ⟨g,0,none⟩)] w (RetDo b0 w g (putC c W) y):=by
 obtain ⟨t,p,v,er⟩:=c
 obtain ⟨h_,r_,k⟩:=W
 have HON:Hid (Only (fun k=>k=g) w w.drew):=Lh ((Only.refl (fun k=>k=g) w).bl (Below.refl w.heap.size w).drew)
 have HB:=Lh (h.blk.below (Below.refl _ _).drew)
 have HL:=Lh h.lists
 have HOB:=Lh h.old
 obtain ⟨ls,hls⟩:∃ls,Writes.lastS t.log=ls:=⟨_,rfl⟩
 obtain ⟨q,hq⟩:∃q,ls.length=q:=⟨_,rfl⟩
 have hqn:q≤1000000:=by rw[←hq,←hls];exact Nat.le_trans (Writes.lastS_len t.log) hs.n4
 have HC:=Lh (last_w t.log y.L y.M t.log.list.length y.lc t.log.marks.length y.mc w.drew ls q (h.lists _ (gs HON.out)).1.log hs.n4 hs.n5 hls hq)
 have HRH:=Lh (h.lists _ (gs HON.out)).2.1
 have HN:=Lh (put_len h_ ls)
 have HFH:=Lh hf.1
 have HQN:=Lh hqn
 clear h hs hf hqn
 show Calls _ _ _ _ (RetDo b0 w g (⟨t,p,v,er⟩,⟨(Heap.putS h_ (Writes.lastS t.log)).1,r_,k⟩,(Heap.putS h_ (Writes.lastS t.log)).2) y)
 rw[hls]
 clear hls hq
 obtain ⟨sr,hsr⟩:∃sr,Heap.putS h_ ls=sr:=⟨_,rfl⟩
 have HSR:=Lh hsr
 rw[hsr]at HN ⊢
 clear hsr
 obtain ⟨h',f⟩:=sr
 simp only at HN ⊢
 go_enter Tryz.func140,Tryz.ntmps140
 go_wp2_with fail
 have f0:(fun (W:World)=>W.cell? ⟨g,14,none⟩=some (.slice z.H h_.length z.hc)∧W.cell? ⟨g,6,none⟩=some (.slice y.L t.log.list.length y.lc)∧W.cell? ⟨g,7,none⟩=some (.slice y.M t.log.marks.length y.mc)) w.drew:=⟨HB.out.cell 14 _ rfl,HB.out.cell 6 _ rfl,HB.out.cell 7 _ rfl⟩
 refine wp_region_held_drew (S:=fun (W:World)=>W.cell? ⟨g,14,none⟩=some (.slice z.H h_.length z.hc)∧W.cell? ⟨g,6,none⟩=some (.slice y.L t.log.list.length y.lc)∧W.cell? ⟨g,7,none⟩=some (.slice y.M t.log.marks.length y.mc)) (by kernel_rfl) f0 (fun hH0=>?_)
 clear f0
 generalize w.drew=wd at *
 refine tk 0 (.pointer (some ⟨g,0,none⟩)) rfl hH0 ?_
 try go_simp
 refine tk 1 (.pointer (some ⟨g,0,none⟩)) rfl hH0 ?_
 try go_simp
 refine tk 2 (.pointer (some ⟨g,14,none⟩)) rfl hH0 ?_
 try go_simp
 refine tk 3 (.pointer (some ⟨g,14,none⟩)) rfl hH0 ?_
 try go_simp
 refine tk 4 (.slice z.H h_.length z.hc) rfl hH0 ?_ (hy:=Or.inl ⟨by kernel_rfl,fun W hS=>by obtain ⟨q14,q6,q7⟩:=hS;go_simp⟩)
 try go_simp
 refine tk 5 (.pointer (some ⟨g,0,none⟩)) rfl hH0 ?_
 try go_simp
 refine tk 6 (.pointer (some ⟨g,0,none⟩)) rfl hH0 ?_
 try go_simp
 refine tk 7 (.pointer (some ⟨g,0,none⟩)) rfl hH0 ?_
 try go_simp
 refine tk 8 (.pointer (some ⟨g,0,none⟩)) rfl hH0 ?_
 try go_simp
 refine tk 9 (.pointer (some ⟨g,6,none⟩)) rfl hH0 ?_
 try go_simp
 refine tk 10 (.agg #[.slice y.L t.log.list.length y.lc,.slice y.M t.log.marks.length y.mc]) rfl hH0 ?_ (hy:=Or.inl ⟨by kernel_rfl,fun W hS=>by obtain ⟨q14,q6,q7⟩:=hS;go_simp⟩)
 try go_simp
 refine rdy 11 rfl (fun KK0 hK=>?_)
 rw[if_pos (by kernel_rfl)]
 refine Step2.calls_wp _ _ _ (HC.out) (Step2.run_call _ _ _ rfl rfl Tryz.func78 (by kernel_rfl) (by kernel_rfl) _ (by kernel_rfl)) ?_
 rintro e w1 ⟨A1,c1,rfl,hol⟩
 refine ⟨_,rfl,?_⟩
 have HCP:=Lh (put_w h_ ls z.H A1 h_.length z.hc q c1 w1 (h',f) (HRH.out.below hol.2) (own_cap hol).2.2 HFH.out HQN.out HSR.out)
 have HB1:=Lh (HB.out.below hol.2)
 have HON1:=Lh (HON.out.bl hol.2)
 clear hol HB HON HC HRH
 refine hK.out _ _ ⟨HB1.out.cell 14 _ rfl,HB1.out.cell 6 _ rfl,HB1.out.cell 7 _ rfl⟩ (fun hH1=>?_)
 clear hK KK0
 try go_simp
 refine rdy 12 rfl (fun KK0 hK=>?_)
 rw[if_pos (by kernel_rfl)]
 refine Step2.calls_wp _ _ _ (HCP.out) (Step2.run_call _ _ _ rfl rfl Tryz.func96 (by kernel_rfl) (by kernel_rfl) _ (by kernel_rfl)) ?_
 rintro e wq ⟨B,d,rfl,ho⟩
 refine ⟨_,rfl,?_⟩
 have hgl:=HB1.out.lt
 have HQ:=Lh (HB1.out.below ho.2)
 have HO:=Lh (HON1.out.bl ho.2)
 have X1:∀w',Only (fun k=>k=g∨k<b0) w w' →TRd w' t y∧WRd w' ⟨h_,r_,k⟩ z:=HL.out
 have X2:Own w1 wq 117 2 (.slice B h_.length d) h_.length (Heap.cs h'):=ho
 have X3:Blk wq g 167 (cvl ⟨t,p,v,er⟩ y++wvl ⟨h_,r_,k⟩ z).toArray:=HQ.out
 have X4:h'.length=h_.length:=by have:=HN.out;exact this
 have X5:Only (fun k=>k=g) w wq:=HO.out
 have m1:=@mv_heap b0 w w1 wq g ⟨t,p,v,er⟩ ⟨h_,r_,k⟩ y z 117 d h_.length B h' X1 X3 X5 X2 hgl X4 HOB.out
 have HM1:=Lh m1.1
 have HM2:=Lh m1.2
 clear X1 X2 X3 X4 X5 m1 ho
 refine hK.out _ _ ⟨HQ.out.cell 14 _ rfl,HQ.out.cell 6 _ rfl,HQ.out.cell 7 _ rfl⟩ (fun hH2=>?_)
 clear hK KK0
 try go_simp
 refine tk 13 (.tuple #[.slice B h_.length d,.int .i64 f]) rfl hH2 ?_
 try go_simp
 refine tk 14 (.slice B h_.length d) rfl hH2 ?_
 try go_simp
 refine tk 15 (.int .i64 f) rfl hH2 ?_
 try go_simp
 refine tk 16 (.slice B h_.length d) rfl hH2 ?_
 try go_simp
 refine rdy 17 rfl (fun KK0 hK=>?_)
 go_simp
 refine hK.out _ _ hH2 (fun _=>?_)
 clear hK KK0
 refine wpAnyH_done (by kernel_rfl) ?_ _
 try go_simp
 have p_:=HQ.out.cell 14 _ rfl
 have pf_:=HQ.out.frozen 14
 go_wp2
 go_ret
 exact ⟨_,rfl,HM1.out,HM2.out⟩
theorem map_take {l:List Heap.Write} {j:Nat} {x:Heap.Write} (hx:l[j]?=some x):zs ((l.map Heap.Write.cell).take (j+1))=zs ((l.map Heap.Write.cell).take j)++ [.int .i64 x.cell]:=
 zs_take (l.map Heap.Write.cell) j x.cell (by rw[List.getElem?_map,hx];rfl)
set_option maxHeartbeats 2000000 in
theorem lock_m (b0 g:Nat) (c:Com) (W:Wd) (y:TL) (z:WL) (w:World) (h:Mv b0 w g c W y z) (hs:Short c.t y) (hf:Few W):
  Calls Tryz.prog 137 #[.pointer (some ⟨g,0,none⟩)] w (RetDo b0 w g (lockC c W) y):=by
 obtain ⟨t,p,v,er⟩:=c
 obtain ⟨h_,r_,k⟩:=W
 have HON:Hid (Only (fun k=>k=g) w w):=Lh (Only.refl (fun k=>k=g) w)
 have HB:=Lh h.blk
 have HL:=Lh h.lists
 have HOB:=Lh h.old
 obtain ⟨ls,hls⟩:∃ls,Writes.lastS t.log=ls:=⟨_,rfl⟩
 obtain ⟨q,hq⟩:∃q,ls.length=q:=⟨_,rfl⟩
 have hqn:q≤1000000:=by rw[←hq,←hls];exact Nat.le_trans (Writes.lastS_len t.log) hs.n4
 have HC:=Lh (last_w t.log y.L y.M t.log.list.length y.lc t.log.marks.length y.mc w ls q (h.lists _ (gs HON.out)).1.log hs.n4 hs.n5 hls hq)
 have HFR:=Lh hf.2
 have HQ:=Lh hq
 clear h hs hf
 show Calls _ _ _ _ (RetDo b0 w g (⟨t,p,v,er⟩,⟨h_,(Stripe.lockS r_ t.who ((Writes.lastS t.log).map Heap.Write.cell)).1,k⟩,(Stripe.lockS r_ t.who ((Writes.lastS t.log).map Heap.Write.cell)).2) y)
 rw[hls]
 clear hls hq
 obtain ⟨sr,hsr⟩:∃sr,Stripe.lockS r_ t.who (ls.map Heap.Write.cell)=sr:=⟨_,rfl⟩
 have HN:=Lh (lock_len r_ t.who (ls.map Heap.Write.cell))
 have HSR:=Lh hsr
 rw[hsr]at HN ⊢
 clear hsr
 obtain ⟨r',f⟩:=sr
 simp only at HN ⊢
 have k6:=HB.out.cell 6 _ rfl
 have k7:=HB.out.cell 7 _ rfl
 go_enter Tryz.func137,Tryz.ntmps137
 go_wp2_with fail
 refine HC.out.mono ?_
 rintro e w1 ⟨A1,c1,rfl,hol⟩
 have HOL:=Lh hol
 have HRL:=Lh (own_cap hol).2.2
 clear hol k6 k7 HC
 go_wp2
 go_loopw [3,16] (fun v i wr=>∃j:Nat,j≤q∧i=.int .i64 j∧Own w1 wr 3 1 v j (zs ((ls.map Heap.Write.cell).take j))) (fun _ i _=>q - (intOf i).toNat)
 case atStart=>exact ⟨0,Nat.zero_le _,rfl,Own.nil_ (Below.refl _ _)⟩
 case round=>
  obtain ⟨j,hj,rfl,hown⟩:=hrel
  by_cases hlt:j<q
  ·obtain ⟨b,off,⟨cl,vl⟩,rfl,hx,c0,c1⟩:=Heap.at_write (HRL.out.below hown.2) j hlt
   have HT:=Lh (map_take hx)
   clear hx
   go_wp2_with (at_builtin;refine append_rd rfl _ _ 27 rfl Mem.tInt w1 _ _ _ rfl ((hown.alloc _).alloc _) _ 1 1 [.int .i64 cl] rfl (Rd.builtAt _ 1 1 [.int .i64 cl] _ rfl (by simp)) (one_cons rfl one_nil) (by omega) (by omega) ?_;intro v' w' hown' hg;clear hg)
   go_roundw
   case rel=>exact ⟨j+1,by omega,by go_num,by rw[HT.out];exact hown'⟩
   case measure=>simp[intOf];omega
  ·obtain rfl:j=q:=by omega
   have ho:=hown
   rw[List.take_of_length_le (by rw[List.length_map,HQ.out];exact Nat.le_refl _)]at ho
   clear hown hlt hj
   obtain ⟨B2,d2,rfl,-,hrd⟩:=own_room ho
   go_wp2_with fail
   have HB:=Lh ((HB.out.below (bl_trans HOL.out.2 ho.2)).below (Below.refl wr.heap.size wr).drew)
   have HON:Hid (Only (fun k=>k=g) w wr.drew):=Lh (((Only.refl (fun k=>k=g) w).bl HOL.out.2).bl (bl_trans ho.2 (Below.refl wr.heap.size wr).drew))
   have hgl:=HB.out.lt
   have HCL:=Lh (Stripe.lock_w r_ (ls.map Heap.Write.cell) z.R B2 r_.length z.rc j d2 t.who wr.drew (r',f) (HL.out _ (gs HON.out)).2.2 (hrd.below (Below.refl wr.heap.size wr).drew) HFR.out hqn HSR.out)
   clear ho hrd
   have f0:(fun (W:World)=>W.cell? ⟨g,15,none⟩=some (.slice z.R r_.length z.rc)∧W.cell? ⟨g,0,none⟩=some (.int .i64 t.who)) wr.drew:=⟨HB.out.cell 15 _ rfl,HB.out.cell 0 _ rfl⟩
   refine wp_region_held_drew (S:=fun (W:World)=>W.cell? ⟨g,15,none⟩=some (.slice z.R r_.length z.rc)∧W.cell? ⟨g,0,none⟩=some (.int .i64 t.who)) (by kernel_rfl) f0 (fun hH0=>?_)
   clear f0
   generalize wr.drew=wd at *
   refine tk 0 (.pointer (some ⟨g,0,none⟩)) rfl hH0 ?_
   try go_simp
   refine tk 1 (.pointer (some ⟨g,0,none⟩)) rfl hH0 ?_
   try go_simp
   refine tk 2 (.pointer (some ⟨g,14,none⟩)) rfl hH0 ?_
   try go_simp
   refine tk 3 (.pointer (some ⟨g,15,none⟩)) rfl hH0 ?_
   try go_simp
   refine tk 4 (.slice z.R r_.length z.rc) rfl hH0 ?_ (hy:=Or.inl ⟨by kernel_rfl,fun W hS=>by obtain ⟨q15,q0⟩:=hS;go_simp⟩)
   try go_simp
   refine tk 5 (.pointer (some ⟨g,0,none⟩)) rfl hH0 ?_
   try go_simp
   refine tk 6 (.pointer (some ⟨g,0,none⟩)) rfl hH0 ?_
   try go_simp
   refine tk 7 (.pointer (some ⟨g,0,none⟩)) rfl hH0 ?_
   try go_simp
   refine tk 8 (.pointer (some ⟨g,0,none⟩)) rfl hH0 ?_
   try go_simp
   refine tk 9 (.pointer (some ⟨g,0,none⟩)) rfl hH0 ?_
   try go_simp
   refine tk 10 (.int .i64 t.who) rfl hH0 ?_ (hy:=Or.inl ⟨by kernel_rfl,fun W hS=>by obtain ⟨q15,q0⟩:=hS;go_simp⟩)
   try go_simp
   refine tk 11 (.slice B2 j d2) rfl hH0 ?_
   try go_simp
   refine rdy 12 rfl (fun KK0 hK=>?_)
   rw[if_pos (by kernel_rfl)]
   refine Step2.calls_wp _ _ _ (HCL.out) (Step2.run_call _ _ _ rfl rfl Tryz.func45 (by kernel_rfl) (by kernel_rfl) _ (by kernel_rfl)) ?_
   rintro e wq ⟨B,d,rfl,ho⟩
   refine ⟨_,rfl,?_⟩
   have HQ2:=Lh (HB.out.below ho.2)
   have HO:=Lh (HON.out.bl ho.2)
   have X1:∀w',Only (fun k=>k=g∨k<b0) w w' →TRd w' t y∧WRd w' ⟨h_,r_,k⟩ z:=HL.out
   have X2:Own wd wq 92 2 (.slice B r_.length d) r_.length (Stripe.rs r'):=ho
   have X3:Blk wq g 167 (cvl ⟨t,p,v,er⟩ y++wvl ⟨h_,r_,k⟩ z).toArray:=HQ2.out
   have X4:r'.length=r_.length:=HN.out
   have X5:Only (fun k=>k=g) w wq:=HO.out
   have m1:=@mv_table b0 w wd wq g ⟨t,p,v,er⟩ ⟨h_,r_,k⟩ y z 92 d r_.length B r' X1 X3 X5 X2 hgl X4 HOB.out
   have HM1:=Lh m1.1
   have HM2:=Lh m1.2
   clear X1 X2 X3 X4 X5 m1 ho
   refine hK.out _ _ ⟨HQ2.out.cell 15 _ rfl,HQ2.out.cell 0 _ rfl⟩ (fun hH2=>?_)
   clear hK KK0
   try go_simp
   refine tk 13 (.tuple #[.slice B r_.length d,.int .i64 f]) rfl hH2 ?_
   try go_simp
   refine tk 14 (.slice B r_.length d) rfl hH2 ?_
   try go_simp
   refine tk 15 (.int .i64 f) rfl hH2 ?_
   try go_simp
   refine tk 16 (.slice B r_.length d) rfl hH2 ?_
   try go_simp
   refine rdy 17 rfl (fun KK0 hK=>?_)
   go_simp
   refine hK.out _ _ hH2 (fun _=>?_)
   clear hK KK0
   refine wpAnyH_done (by kernel_rfl) ?_ _
   try go_simp
   have p_:=HQ2.out.cell 15 _ rfl
   have pf_:=HQ2.out.frozen 15
   go_wp2
   go_ret
   exact ⟨_,rfl,HM1.out,HM2.out⟩
def meth (d:Int):FuncId:=
 if d=0 then 137 else if d=1 then 138 else if d=2 then 139 else if d=3 then 140 else 141
theorem call_meth (d:Int) (h1:0≤d) (h7:d≤4) (args:Array Value) (W:World):(callFunc (meth d) args).run Tryz.prog W=.ok (.enter (meth d) args) W:=by
 rcases (by omega:d=0∨d=1∨d=2∨d=3∨d=4) with rfl | rfl | rfl | rfl | rfl
 ·exact Step2.enter_run Tryz.func137 (by kernel_rfl) (by kernel_rfl) args W
 ·exact Step2.enter_run Tryz.func138 (by kernel_rfl) (by kernel_rfl) args W
 ·exact Step2.enter_run Tryz.func139 (by kernel_rfl) (by kernel_rfl) args W
 ·exact Step2.enter_run Tryz.func140 (by kernel_rfl) (by kernel_rfl) args W
 ·exact Step2.enter_run Tryz.func141 (by kernel_rfl) (by kernel_rfl) args W
theorem do_m (b0 g:Nat) (c:Com) (W:Wd) (y:TL) (z:WL) (w:World) (h:Mv b0 w g c W y z) (hs:Short c.t y) (hf:Few W) (h1:0≤c.ph) (h2:c.ph≤4):
  Calls Tryz.prog (meth c.ph) #[.pointer (some ⟨g,0,none⟩)] w (RetDo b0 w g (doC c W) y):=by
 rcases (by omega:c.ph=0∨c.ph=1∨c.ph=2∨c.ph=3∨c.ph=4) with e | e | e | e | e <;> unfold doC meth <;> rw[e]
 ·exact lock_m b0 g c W y z w h hs hf
 ·exact tick_m b0 g c W y z w h
 ·exact check_m b0 g c W y z w h hs hf
 ·exact put_m b0 g c W y z w h hs hf
 ·exact stamp_m b0 g c W y z w h hf
section
variable {P:Program} {w:World} {t K E:TypeId} {b:Nat} {es:Array MapEntry} {clock:Nat}
theorem run_look_ok (ht:P.underlying t=some (.map K E)) (hK:P.underlying K=some (.int .i64)) (hb:MapAt w b es clock) (k:Int) (v:Value) (i:Nat) (hf:Instr.findNow (.int .i64) (.int .i64 k) es.toList 0=some (some (i,v))):
  (Instr.lookup t (.map (some b)) (.int .i64 k) true).run P w=.ok (.tuple #[v,.bool true]) w:=by
 have hb' :w.heap[b]?=some (.map es clock):=hb
 have hk:MapKept.IsKey (.int .i64) (.int .i64 k):=rfl
 simp[Instr.lookup,run_underlying ht,MapKept.run_getObj_map hb',MapKept.run_checkKey hK hk es.isEmpty 9999,MapKept.run_findKey hK hf,Result.andThen]
theorem run_look_no {z:Value} {i0:TypeInfo} (ht:P.underlying t=some (.map K E)) (hK:P.underlying K=some (.int .i64)) (hi:P.info? E=some i0) (hz:i0.zero=some z) (hb:MapAt w b es clock) (k:Int) (hf:Instr.findNow (.int .i64) (.int .i64 k) es.toList 0=some none):
  (Instr.lookup t (.map (some b)) (.int .i64 k) true).run P w=.ok (.tuple #[z,.bool false]) w:=by
 have hb' :w.heap[b]?=some (.map es clock):=hb
 have hk:MapKept.IsKey (.int .i64) (.int .i64 k):=rfl
 have hzz:(zeroValue E).run P w=.ok z w:=by
  unfold zeroValue
  rw[Sem.run_bind,run_typeInfo _ hi,Result.andThen_ok,hz]
  rfl
 simp[Instr.lookup,run_underlying ht,MapKept.run_getObj_map hb',MapKept.run_checkKey hK hk es.isEmpty 9999,MapKept.run_findKey hK hf,Result.andThen,hzz]
end
def Look (es:Array MapEntry):Prop:=(∀d:Int,0≤d→d≤4→∃i,Instr.findNow (.int .i64) (.int .i64 d) es.toList 0=some (some (i,.func (.func (meth d)) #[] #[])))∧∀d:Int,¬(0≤d∧d≤4)→Instr.findNow (.int .i64) (.int .i64 d) es.toList 0=some none
def RetT (w:World) (e:Ending) (w' :World):Prop:=∃b es c,e=.returned (.map (some b))∧MapAt w' b es c∧Look es∧Below w.heap.size w w'
theorem und_doing:∃K E i0,Tryz.prog.underlying 164=some (.map K E)∧Tryz.prog.underlying K=some (.int .i64)∧Tryz.prog.info? E=some i0∧i0.zero=some .nilFunc:=by
 obtain ⟨i,hi,z1,z2,z3⟩:=info_parts (P:=Tryz.prog) (e:=162) (z:=.nilFunc) (size:=1) (bytes:=8) (by kernel_rfl)
 exact ⟨_,_,i,Tryz.underlying164,by kernel_rfl,hi,z1⟩
theorem doings_c (w:World):Calls Tryz.prog 84 #[] w (RetT w):=by
 have hmm:=@run_makeMap Tryz.prog
 obtain ⟨K,E,i0,hu,hk,-,-⟩:=und_doing
 have HU:=Lh hu
 have HK:=Lh hk
 clear hu hk
 go_enter Tryz.func84,Tryz.ntmps84
 go_wp2_with (first
  | (refine insert_row rfl 164 _ _ _ rfl K E HU.out HK.out w.heap.size rfl 0 rfl (.func (.func 137) #[] #[]) rfl _ _ (MapAt.new w) rfl ?_;intro w1 m1 g1)
  | (refine insert_row rfl 164 _ _ _ rfl K E HU.out HK.out w.heap.size rfl 1 rfl (.func (.func 138) #[] #[]) rfl _ _ m1 rfl ?_;intro w2 m2 g2)
  | (refine insert_row rfl 164 _ _ _ rfl K E HU.out HK.out w.heap.size rfl 2 rfl (.func (.func 139) #[] #[]) rfl _ _ m2 rfl ?_;intro w3 m3 g3)
  | (refine insert_row rfl 164 _ _ _ rfl K E HU.out HK.out w.heap.size rfl 3 rfl (.func (.func 140) #[] #[]) rfl _ _ m3 rfl ?_;intro w4 m4 g4)
  | (refine insert_row rfl 164 _ _ _ rfl K E HU.out HK.out w.heap.size rfl 4 rfl (.func (.func 141) #[] #[]) rfl _ _ m4 rfl ?_;intro w5 m5 g5))
 go_ret
 have hb0:Below w.heap.size w (w.alloc (.map #[] 0)):=bl_alloc (Below.refl _ _) _
 have hb:∀u v:World,Below w.heap.size w u→u.grownBy v (some w.heap.size)→Below w.heap.size w v:=fun u v h1 h2=>h1.grown h2 h1.size (fun k hk=>by injection hk with hk;omega)
 refine ⟨_,_,_,rfl,m5,⟨?_,?_⟩,hb _ _ (hb _ _ (hb _ _ (hb _ _ (hb _ _ hb0 g1) g2) g3) g4) g5⟩
 ·intro d h1 h7
  rcases (by omega:d=0∨d=1∨d=2∨d=3∨d=4) with rfl | rfl | rfl | rfl | rfl
  ·exact ⟨0,rfl⟩
  ·exact ⟨1,rfl⟩
  ·exact ⟨2,rfl⟩
  ·exact ⟨3,rfl⟩
  ·exact ⟨4,rfl⟩
 ·intro d h
  have n0:(d==0)=false:=beq_eq_false_iff_ne.2 (by omega)
  have n1:(d==1)=false:=beq_eq_false_iff_ne.2 (by omega)
  have n2:(d==2)=false:=beq_eq_false_iff_ne.2 (by omega)
  have n3:(d==3)=false:=beq_eq_false_iff_ne.2 (by omega)
  have n4:(d==4)=false:=beq_eq_false_iff_ne.2 (by omega)
  simp[Instr.findNow,Instr.sameNow,n0,n1,n2,n3,n4]
def RetStep (w:World) (r:(Com × Wd) × Int) (e:Ending) (w' :World):Prop:=
 ∃y z,e=.returned (.tuple #[.agg (cvl r.1.1 y).toArray,.agg (wvl r.1.2 z).toArray,.int .i64 r.2])∧y.fl= []∧(∀w'',Only (fun k=>k<w.heap.size) w' w'' →TRd w'' r.1.1.t y∧WRd w'' r.1.2 z)∧Below w.heap.size w w'
theorem step_end {b0:Nat} {w wN wE:World} {g g4 g5:Nat} {c:Com} {W:Wd} {y:TL} {z:WL} {er:Int} (hM:Mv b0 wN g c W y z) (hb:Below w.heap.size w wN) (h4:w.heap.size≤g4) (h5:w.heap.size≤g5) (l4:g4<b0) (l5:g5<b0) (hfl:y.fl= [])
  (hO:Only (fun k=>k=g4∨k=g5) wN wE):RetStep w ((c,W),er) (.returned (.tuple #[.agg (cvl c y).toArray,.agg (wvl W z).toArray,.int .i64 er])) wE:=
 ⟨y,z,rfl,hfl,fun w'' h=>hM.lists w'' ((hO.sub (S2:=fun k=>k=g∨k<b0) (fun k _ e=>.inr (by omega))).trans h (fun k _ e=>.inr (by omega))),hb.trans (hO.below hb.size (fun k hk e=>by omega))⟩
end Go.Proofs.YtgghaodcfgbjlaaGreat.Commit
