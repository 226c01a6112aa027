/-
 WHAT THE DOCUMENT'S ANSWER FOR LAYER 5 RETURNS: Add, Cells.
-/
import Derived.Test.YtgghaodcfgbjlaaGreatMemA
import Derived.Test.YtgghaodcfgbjlaaGreatStripeA
import Derived.StillTailTactics
import Derived.Shelf.SlSortCmp.QuietGrown
set_option maxRecDepth 100000
namespace Go.Proofs.YtgghaodcfgbjlaaGreat.Reads
open Mem
structure Read where
 cell:Int
 version:Int
 value:Int
 deriving DecidableEq,Inhabited
def dc (r:Read):List Value:= [.int .i64 r.cell,.int .i64 r.version,.int .i64 r.value]
def ds (l:List Read):List Value:=l.flatMap dc
theorem dc_len (r:Read):(dc r).length=3:=rfl
theorem dc_one (r:Read):∀u∈dc r,u.oneCell' =true:=one_cons rfl (one_cons rfl (one_cons rfl one_nil))
theorem at_read {w:World} {A:Option Addr} {n:Nat} {l:List Read} (hr:Rd w 3 A n (ds l)) (k:Nat) (hk:k<n):
  ∃b off,∃x:Read,A=some ⟨b,off,none⟩∧l[k]?=some x∧w.cell? ⟨b,off+k * 3,none⟩=some (.int .i64 x.cell)∧w.cell? ⟨b,off+k * 3+1,none⟩=some (.int .i64 x.version)∧w.cell? ⟨b,off+k * 3+2,none⟩=some (.int .i64 x.value):=by
 obtain ⟨b,off,x,hA,hx,hc⟩:=Rd.at_ dc_len hr (by decide) k hk
 exact ⟨b,off,x,hA,hx,by have:=hc 0 _ rfl;simpa using this,hc 1 _ rfl,hc 2 _ rfl⟩
theorem ds_len {w:World} {A:Option Addr} {n:Nat} {l:List Read} (hr:Rd w 3 A n (ds l)):l.length=n:=Rd.len dc_len hr (by decide)
theorem ds_app (a b:List Read):ds (a++b)=ds a++ds b:=by unfold ds;rw[List.flatMap_append]
theorem ds_one (l:List Read):∀u∈ds l,u.oneCell' =true:=flat_one dc_one l
theorem rd_take {w:World} {A:Option Addr} {n:Nat} {l:List Read} (hr:Rd w 3 A n (ds l)) (k:Nat) (hk:k≤n):Rd w 3 A k (ds (l.take k)):=by
 have hl:=ds_len hr
 refine ⟨?_,fun h0=>?_⟩
 ·unfold ds;rw[flat_len dc_len,List.length_take,hl,Nat.min_eq_left hk]
 ·obtain ⟨b,off,e,hc⟩:=hr.2 (by omega)
  refine ⟨b,off,e,fun j u hu=>hc j u ?_⟩
  have e2:ds l=ds (l.take k)++ds (l.drop k):=by rw[←ds_app,List.take_append_drop]
  rw[e2,List.getElem?_append_left (List.getElem?_eq_some_iff.1 hu).1];exact hu
def timeB (n:Int):Bool:=decide (0≤n∧n≤2147483647)
def oneB (r:Read):Bool:=decide (0≤r.cell) && (timeB r.version && Heap.vB r.value)
def hasB (l:List Read) (c:Int):Bool:=l.any (fun r=>r.cell==c)
def goodB (l:List Read):Bool:=l.all oneB && decide ((l.map Read.cell).Nodup)
def rightB (l:List Read):Bool:=decide (l.length≤24) && goodB l
def findS (l:List Read) (c:Int):Option Read:=l.find? (fun r=>r.cell==c)
def addS (l:List Read) (r:Read):List Read × Int:=
 if (rightB l && oneB r)=true then (match findS l r.cell with | some x=>if x=r then (l,0) else (l,8) | none=>if l.length=24 then (l,5) else (l++ [r],0)) else (l,1)
def findR (l:List Read) (c:Int):Read × Bool:=
 if rightB l=true then (match findS l c with | some x=>(x,true) | none=>(⟨0,0,0⟩,false)) else (⟨0,0,0⟩,false)
def sortZ (l:List Int):List Int:=l.mergeSort (fun x y=>decide (x≤y))
def cellsS (l:List Read):List Int:=if rightB l=true then sortZ (l.map Read.cell) else []
def asB (t:List Stripe.Rec) (who:Int) (r:Read):Bool:=
 match t[(r.cell % (t.length:Int)).toNat]? with | some x=>x.version==r.version && (x.owner==0 || x.owner==who) | none=>false
def validS (l:List Read) (t:List Stripe.Rec) (who:Int):Int:=
 if (rightB l && (Stripe.rightB t && Stripe.whoB who))=true then (if l.all (asB t who)=true then 0 else 8) else 1
theorem good_take (l:List Read) (k:Nat) (x:Read) (hk:l[k]?=some x):goodB (l.take (k+1))=(goodB (l.take k) && (oneB x && !(hasB (l.take k) x.cell))):=by
 have e:l.take (k+1)=l.take k++ [x]:=by rw[List.take_add_one,hk];rfl
 rw[e,Bool.eq_iff_iff]
 unfold goodB hasB
 simp only[List.all_append,List.map_append,List.nodup_append,Bool.and_eq_true,decide_eq_true_eq,List.all_cons,List.all_nil,List.map_cons,List.map_nil,Bool.not_eq_true',List.any_eq_false,List.mem_singleton,List.mem_map]
 constructor
 ·rintro ⟨⟨h1,h2,-⟩,h3,-,h4⟩
  refine ⟨⟨h1,h3⟩,h2,fun y hy=>?_⟩
  have:=h4 y.cell ⟨y,hy,rfl⟩ x.cell rfl
  simpa using this
 ·rintro ⟨⟨h1,h3⟩,h2,h4⟩
  refine ⟨⟨h1,h2,trivial⟩,h3,by simp,?_⟩
  rintro a ⟨y,hy,rfl⟩ b rfl
  have:=h4 y hy
  simpa using this
theorem good_sub (l m:List Read) (hs:m.Sublist l) (h:goodB l=true):goodB m=true:=by
 unfold goodB at *
 rw[Bool.and_eq_true,decide_eq_true_eq,List.all_eq_true]at *
 exact ⟨fun x hx=>h.1 x (hs.subset hx),h.2.sublist (hs.map _)⟩
theorem good_bad (l:List Read) (k:Nat) (h:goodB (l.take k)=false):goodB l=false:=by
 cases hg:goodB l
 ·rfl
 ·rw[good_sub l _ (List.take_sublist k l) hg]at h;cases h
theorem right_bad (l:List Read) (k:Nat) (h:goodB (l.take k)=false):rightB l=false:=by unfold rightB;rw[good_bad l k h,Bool.and_false]
theorem right_one (l:List Read) (h:rightB l=true) (x:Read) (hx:x∈l):oneB x=true:=by
 unfold rightB goodB at h;rw[Bool.and_eq_true,Bool.and_eq_true,List.all_eq_true]at h;exact h.2.1 x hx
theorem one_cell (x:Read) (h:oneB x=true):0≤x.cell:=by
 unfold oneB at h;rw[Bool.and_eq_true,decide_eq_true_eq]at h;exact h.1
theorem has_take (l:List Read) (k:Nat) (x:Read) (c:Int) (hk:l[k]?=some x):hasB (l.take (k+1)) c=(hasB (l.take k) c || (x.cell==c)):=take_any l _ k x hk
theorem find_at (l:List Read) (k:Nat) (x:Read) (c:Int) (hk:l[k]?=some x) (hx:x.cell=c) (h0:hasB (l.take k) c=false):findS l c=some x:=by
 obtain ⟨hl,rfl⟩:=List.getElem?_eq_some_iff.1 hk
 unfold findS
 rw[List.find?_eq_some_iff_getElem]
 refine ⟨by simpa using hx,k,hl,rfl,fun j hj=>?_⟩
 unfold hasB at h0
 rw[List.any_eq_false]at h0
 have hm:l[j]'(by omega)∈l.take k:=by rw[List.mem_take_iff_getElem];exact ⟨j,by omega,rfl⟩
 have:=h0 _ hm
 simpa using this
theorem find_none (l:List Read) (c:Int) (h0:hasB l c=false):findS l c=none:=by
 unfold findS;rw[List.find?_eq_none];unfold hasB at h0;rw[List.any_eq_false]at h0;exact h0
theorem find_has (l:List Read) (c:Int):(findS l c).isSome=hasB l c:=by
 unfold findS hasB;rw[Bool.eq_iff_iff,List.find?_isSome,List.any_eq_true]
theorem find_some (l:List Read) (c:Int) (x:Read) (h:findS l c=some x):x∈l∧x.cell=c:=by
 unfold findS at h
 exact ⟨List.mem_of_find?_eq_some h,by have:=List.find?_some h;simpa using this⟩
theorem add_no (l:List Read) (r:Read) (h:(rightB l && oneB r)=false):addS l r=(l,1):=by unfold addS;rw[h];rfl
theorem add_had (l:List Read) (r:Read) (h:(rightB l && oneB r)=true) (hf:findS l r.cell=some r):addS l r=(l,0):=by
 unfold addS;rw[if_pos h,hf];simp
theorem add_stale (l:List Read) (r x:Read) (h:(rightB l && oneB r)=true) (hf:findS l r.cell=some x) (hx:x≠r):addS l r=(l,8):=by
 unfold addS;rw[if_pos h,hf];simp[hx]
theorem add_big (l:List Read) (r:Read) (h:(rightB l && oneB r)=true) (hf:findS l r.cell=none) (hl:l.length=24):addS l r=(l,5):=by
 unfold addS;rw[if_pos h,hf];simp[hl]
theorem add_new (l:List Read) (r:Read) (h:(rightB l && oneB r)=true) (hf:findS l r.cell=none) (hl:l.length≠24):addS l r=(l++ [r],0):=by
 unfold addS;rw[if_pos h,hf];simp[hl]
theorem sort_perm (l:List Int):(sortZ l).Perm l:=List.mergeSort_perm _ _
theorem sort_sorted (l:List Int):(sortZ l).Pairwise (· ≤·):=by
 have:=List.pairwise_mergeSort (le:=fun x y:Int=>decide (x≤y)) (by simp;omega) (by simp;omega) l
 simpa [sortZ] using this
theorem sort_of (l s:List Int) (hp:s.Perm l) (hs:s.Pairwise (· ≤·)):sortZ l=s:=
 List.Perm.eq_of_pairwise (le:=(· ≤·)) (fun _ _ _ _ h1 h2=>Int.le_antisymm h1 h2) (sort_sorted l) hs ((sort_perm l).trans hp.symm)
theorem sort_len (l:List Int):(sortZ l).length=l.length:=(sort_perm l).length_eq
end Go.Proofs.YtgghaodcfgbjlaaGreat.Reads
namespace Go.Proofs.YtgghaodcfgbjlaaGreat.Reads
open Go.ChangeShapes Go.WideShapes Go.ChangeAt Go.RowKit Mem
theorem tRead:SliceT Tryz.prog 28 107 3 24:=SliceT.mk_ (z:=.agg #[.int .i64 0,.int .i64 0,.int .i64 0]) Tryz.underlying28 (by kernel_rfl) rfl (by decide)
def Grew (w w' :World):Prop:=∃q os,w' =Sort.grow (w.drewN q) os
theorem Grew.refl (w:World):Grew w w:=⟨0,#[],by rw[Sort.grow_empty];rfl⟩
theorem Grew.alloc {w w1:World} (h:Grew w w1) (o:Obj):Grew w (w1.alloc o):=by
 obtain ⟨q,os,rfl⟩:=h
 exact ⟨q,os++ #[o],by rw[Sort.alloc_eq_grow,Sort.grow_grow]⟩
theorem Grew.drewN {w w1:World} (h:Grew w w1) (m:Nat):Grew w (w1.drewN m):=by
 obtain ⟨q,os,rfl⟩:=h
 refine ⟨q+m,os,?_⟩
 show Sort.grow ((w.drewN q).drewN m) os=_
 rw[World.drewN_drewN]
theorem Grew.trans {w w1 w2:World} (h:Grew w w1) (k:Grew w1 w2):Grew w w2:=by
 obtain ⟨q,os,rfl⟩:=k
 obtain ⟨q',os',e⟩:=h.drewN q
 exact ⟨q',os' ++os,by rw[e,Sort.grow_grow]⟩
theorem Grew.below {w w' :World} (h:Grew w w'):Below w.heap.size w w' :=by
 obtain ⟨q,os,rfl⟩:=h
 exact ⟨rfl,rfl,rfl,by simp[Sort.grow],fun i hi=>by exact Sort.heap_grow_old (w.drewN q) os hi⟩
def RetBG (w:World) (b:Bool) (e:Ending) (w' :World):Prop:=e=.returned (.bool b)∧Grew w w'
def RetI (w:World) (v:Int) (e:Ending) (w' :World):Prop:=e=.returned (.int .i64 v)∧Below w.heap.size w w'
theorem place_of (t:List Stripe.Rec) (n:Nat) (hl:t.length=n) (hn:0<n) (c:Int):∃j x,c % (n:Int)=(j:Nat)∧j<n∧t[j]?=some x:=by
 have h1:=Int.emod_nonneg c (show (n:Int)≠0 by omega)
 have h2:=Int.emod_lt_of_pos c (show (0:Int)<(n:Int) by omega)
 refine ⟨(c % (n:Int)).toNat,t[(c % (n:Int)).toNat]'(by omega),by omega,by omega,List.getElem?_eq_getElem (by omega)⟩
theorem as_at (t:List Stripe.Rec) (n:Nat) (hl:t.length=n) (who:Int) (r:Read) (j:Nat) (x:Stripe.Rec) (hj:r.cell % (n:Int)=(j:Int)) (hx:t[j]?=some x):
  asB t who r=(x.version==r.version && (x.owner==0 || x.owner==who)):=by
 unfold asB;rw[hl,hj,Int.toNat_natCast,hx]
theorem rec_len (t:List Stripe.Rec) (h:Stripe.rightB t=true):0<t.length:=by
 unfold Stripe.rightB at h;rw[Bool.and_eq_true]at h
 have:=h.1;simp at this;omega
theorem cells_rec {w:World} {b off n:Nat} {l:List Stripe.Rec} (hr:Rd w 2 (some ⟨b,off,none⟩) n (Stripe.rs l)) {k:Nat} {x:Stripe.Rec} (hx:l[k]?=some x):
  w.cell? ⟨b,off+k * 2,none⟩=some (.int .i64 x.version)∧w.cell? ⟨b,off+k * 2+1,none⟩=some (.int .i64 x.owner):=by
 have hl:=Stripe.rs_len hr
 obtain ⟨b',off',y,e,hy,h0,h1⟩:=Stripe.at_rec hr k (by have:=(List.getElem?_eq_some_iff.1 hx).1;omega)
 injection e with e
 injection e with e1 e2
 subst e1 e2
 rw[hx]at hy
 injection hy with hy
 subst hy
 exact ⟨h0,h1⟩
end Go.Proofs.YtgghaodcfgbjlaaGreat.Reads
