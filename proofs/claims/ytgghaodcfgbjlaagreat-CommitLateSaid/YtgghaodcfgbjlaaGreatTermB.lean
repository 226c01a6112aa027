/-
 THE TYPE OF A TERM, as appends ask of it.
-/
import Derived.Test.YtgghaodcfgbjlaaGreatTermA
import Derived.Test.YtgghaodcfgbjlaaGreatMemA
import Derived.BigQuiet
import Derived.Deep.RegionHeld3
set_option maxRecDepth 100000
namespace Go.Proofs.YtgghaodcfgbjlaaGreat.Term
open Go.ChangeShapes Go.WideShapes Go.ChangeAt Go.RowKit Mem
theorem right_any (kd nn:Int) (w:World) (b:Bool) (hb:oneB ⟨kd,nn⟩=b):
  Calls Tryz.prog 225 #[.agg #[.int .i64 kd,.int .i64 nn]] w (RetBG w b):=by
 subst hb
 by_cases k1:kd=1
 ·subst k1
  go_enter Tryz.func225,Tryz.ntmps225
  go_wp2_with (go_at_call 160;refine (Span.right_any _ _).mono ?_;rintro e w' ⟨rfl,rfl⟩)
  go_ret
  exact ⟨ret_bool rfl,(Grew.refl w).alloc _⟩
 by_cases k2:kd=2
 ·subst k2
  rcases (by omega:(0≤nn∧nn<64)∨(0≤nn∧¬nn<64)∨¬0≤nn) with ⟨h1,h2⟩ | ⟨h1,h2⟩ | h1
  all_goals
   go_enter Tryz.func225,Tryz.ntmps225
   go_wp2
   go_ret
   exact ⟨ret_bool (by unfold oneB;simp;omega),(Grew.refl w).alloc _⟩
 by_cases k3:kd=3
 ·subst k3
  rcases (by omega:(0≤nn∧nn<8)∨(0≤nn∧¬nn<8)∨¬0≤nn) with ⟨h1,h2⟩ | ⟨h1,h2⟩ | h1
  all_goals
   go_enter Tryz.func225,Tryz.ntmps225
   go_wp2
   go_ret
   exact ⟨ret_bool (by unfold oneB;simp;omega),(Grew.refl w).alloc _⟩
 have HK:Hid (oneB ⟨kd,nn⟩=decide (4≤kd∧kd≤11∧nn=0)):=Lh (by unfold oneB;rw[if_neg k1,if_neg k2,if_neg k3])
 have e1:(kd==1)=false:=beq_eq_false_iff_ne.2 k1
 have e2:(kd==2)=false:=beq_eq_false_iff_ne.2 k2
 have e3:(kd==3)=false:=beq_eq_false_iff_ne.2 k3
 clear k1 k2 k3
 by_cases h1:4≤kd
 ·by_cases h2:kd≤11
  ·by_cases h3:nn=0
   ·have HF:Hid (oneB ⟨kd,nn⟩=true):=Lh (by rw[HK.out];simp[h1,h2,h3])
    subst h3
    go_enter Tryz.func225,Tryz.ntmps225
    go_wp2
    go_ret
    exact ⟨ret_bool HF.out.symm,(Grew.refl w).alloc _⟩
   ·have HF:Hid (oneB ⟨kd,nn⟩=false):=Lh (by rw[HK.out];simp[h1,h2,h3])
    have e4:(nn==0)=false:=beq_eq_false_iff_ne.2 h3
    clear h3
    go_enter Tryz.func225,Tryz.ntmps225
    go_wp2
    go_ret
    exact ⟨ret_bool HF.out.symm,(Grew.refl w).alloc _⟩
  ·have HF:Hid (oneB ⟨kd,nn⟩=false):=Lh (by rw[HK.out];simp[h2])
   go_enter Tryz.func225,Tryz.ntmps225
   go_wp2
   go_ret
   exact ⟨ret_bool HF.out.symm,(Grew.refl w).alloc _⟩
 ·have HF:Hid (oneB ⟨kd,nn⟩=false):=Lh (by rw[HK.out];simp[h1])
  go_enter Tryz.func225,Tryz.ntmps225
  go_wp2
  go_ret
  exact ⟨ret_bool HF.out.symm,(Grew.refl w).alloc _⟩
theorem truth_any (b:Bool) (w:World):
  Calls Tryz.prog 232 #[.bool b] w fun e w' =>e=.returned (.int .i64 (truthI b))∧w=w' :=Span.truth_any b w
theorem oftwo_any (k a b r:Int) (w:World) (ha:Heap.vB a=true) (hb:Heap.vB b=true) (h1:4≤k) (h2:k≤10) (hr:two k a b=r):
  Calls Tryz.prog 233 #[.int .i64 k,.int .i64 a,.int .i64 b] w fun e w' =>e=.returned (.int .i64 r)∧w=w' :=by
 obtain ⟨a1,a2⟩:=v_bd ha
 obtain ⟨b1,b2⟩:=v_bd hb
 have HR:=Lh hr
 clear ha hb hr
 rcases (by omega:k=4∨k=5∨k=6∨k=7∨k=8∨k=9∨k=10) with rfl | rfl | rfl | rfl | rfl | rfl | rfl
 ·go_enter Tryz.func233,Tryz.ntmps233
  go_wp2_with (go_at_call 235;refine (Span.add_any _ _ _).mono ?_;rintro e w' ⟨rfl,rfl⟩)
  go_ret
  exact ⟨ret_int HR.out,rfl⟩
 ·go_enter Tryz.func233,Tryz.ntmps233
  go_wp2_with (go_at_call 236;refine (Span.sub_any _ _ _).mono ?_;rintro e w' ⟨rfl,rfl⟩)
  go_ret
  exact ⟨ret_int HR.out,rfl⟩
 ·go_enter Tryz.func233,Tryz.ntmps233
  go_wp2_with (go_at_call 237;refine (Span.mul_any _ _ _).mono ?_;rintro e w' ⟨rfl,rfl⟩)
  go_ret
  exact ⟨ret_int HR.out,rfl⟩
 ·cases h:(a==b)
  all_goals
   have HH:=Lh h
   go_enter Tryz.func233,Tryz.ntmps233
   go_wp2_with (go_at_call 232;refine (truth_any _ _).mono ?_;rintro e w' ⟨rfl,rfl⟩)
   go_ret
   exact ⟨ret_int (by rw[←HR.out];show _=truthI (a==b);rw[HH.out]),rfl⟩
 ·by_cases h:a<b
  ·have HH:Hid (decide (a<b)=true):=Lh (decide_eq_true h)
   go_enter Tryz.func233,Tryz.ntmps233
   go_wp2_with (go_at_call 232;refine (truth_any _ _).mono ?_;rintro e w' ⟨rfl,rfl⟩)
   go_ret
   exact ⟨ret_int (by rw[←HR.out];show _=truthI (decide (a<b));rw[HH.out]),rfl⟩
  ·have HH:Hid (decide (a<b)=false):=Lh (decide_eq_false h)
   go_enter Tryz.func233,Tryz.ntmps233
   go_wp2_with (go_at_call 232;refine (truth_any _ _).mono ?_;rintro e w' ⟨rfl,rfl⟩)
   go_ret
   exact ⟨ret_int (by rw[←HR.out];show _=truthI (decide (a<b));rw[HH.out]),rfl⟩
 all_goals
  cases h:(a !=0)
  all_goals cases h' :(b !=0)
  all_goals
   have HH:=Lh (And.intro h h')
   go_enter Tryz.func233,Tryz.ntmps233
   go_wp2_with (go_at_call 232;refine (truth_any _ _).mono ?_;rintro e w' ⟨rfl,rfl⟩)
   go_ret
   exact ⟨ret_int (by rw[←HR.out];first | (show _=truthI (a !=0 && b !=0);rw[HH.out.1,HH.out.2];rfl) | (show _=truthI (a !=0 || b !=0);rw[HH.out.1,HH.out.2];rfl)),rfl⟩
theorem takes_any (k:Int) (t:Nat) (w:World) (h1:1≤k) (h2:k≤11) (ht:takes k=t):
  Calls Tryz.prog 227 #[.int .i64 k] w fun e w' =>e=.returned (.int .i64 (t:Int))∧w=w' :=by
 subst ht
 rcases (by omega:k=1∨k=2∨k=3∨k=4∨k=5∨k=6∨k=7∨k=8∨k=9∨k=10∨k=11) with rfl | rfl | rfl | rfl | rfl | rfl | rfl | rfl | rfl | rfl | rfl
 all_goals
  go_enter Tryz.func227,Tryz.ntmps227
  go_wp2
  go_ret
  exact ⟨rfl,rfl⟩
def pileR (l:List Op):Int × Bool:=match pile l 0 0 with
 | some p=>((p.2:Int),decide (p.1=1))
 | none=>(0,false)
theorem pile_cons (o:Op) (t:List Op) (c d:Nat):pile (o::t) c d=if c<takes o.kind then none else pile t (c+1 - takes o.kind) (max d (c+1 - takes o.kind)):=rfl
theorem pile_any (l:List Op) (A:Option Addr) (n c:Nat) (w:World) (r:Int × Bool) (hr:Rd w 2 A n (ops l)) (hn:n≤1000000) (hone:l.all oneB=true) (hv:pileR l=r):
  Calls Tryz.prog 226 #[.slice A n c] w (RetV w r):=by
 have HL:=Lh (ops_len hr)
 have HR:=Lh hr
 have HV:=Lh hv
 have HO:=Lh hone
 clear hr hv hone
 go_enter Tryz.func226,Tryz.ntmps226
 go_wp2
 go_loopw [2,4,9] (fun dv cv i wr=>∃k ct dp:Nat,k≤n∧ct≤k∧dp≤k∧i=.int .i64 k∧cv=.int .i64 ct∧dv=.int .i64 dp∧Hid (Below w.heap.size w wr)∧Hid (pile (l.drop k) ct dp=pile l 0 0)) (fun _ _ i _=>n - (intOf i).toNat)
 case atStart=>exact ⟨0,0,0,Nat.zero_le _,Nat.le_refl _,Nat.le_refl _,rfl,rfl,rfl,Lh (Below.refl _ _),Lh rfl⟩
 case round=>
  obtain ⟨k,ct,dp,hk,hck,hdk,rfl,rfl,rfl,HB,HP⟩:=hrel
  by_cases hlt:k<n
  ·obtain ⟨b,off,⟨kd,nn⟩,rfl,hx,c0,c1⟩:=at_op (HR.out.below HB.out) k hlt
   have hkd:1≤kd∧kd≤11:=one_kind ⟨kd,nn⟩ (List.all_eq_true.1 HO.out _ (List.mem_of_getElem? hx))
   obtain ⟨hk1,hk2⟩:=hkd
   have hdr:l.drop k=⟨kd,nn⟩::l.drop (k+1):=by
    obtain ⟨hl,e⟩:=List.getElem?_eq_some_iff.1 hx
    rw[←e];exact List.drop_eq_getElem_cons hl
   obtain ⟨t,ht⟩:∃t,takes kd=t:=⟨_,rfl⟩
   have ht2:t≤2:=by rw[←ht];exact takes_le kd
   have HT:=Lh ht
   rw[hdr]at HP
   have HB2:=Lh (bl_alloc HB.out (.cells #[.int .i64 kd,.int .i64 nn] 115))
   clear hx hdr ht
   by_cases hc:ct<t
   ·have HF:Hid (r=(0,false)):=Lh (by
     rw[←HV.out];unfold pileR;rw[←HP.out,pile_cons]
     rw[if_pos (by show ct<takes kd;rw[HT.out];exact hc)])
    have hci:(ct:Int)<(t:Int):=by omega
    go_wp2_with (go_at_call 227;refine (takes_any kd t _ hk1 hk2 HT.out).mono ?_;rintro e w' ⟨rfl,rfl⟩)
    go_ret2
    exact ⟨by rw[HF.out];rfl,HB2.out⟩
   ·have HN:Hid (pile (l.drop (k+1)) (ct+1 - t) (max dp (ct+1 - t))=pile l 0 0):=Lh (by
     have:=HP.out
     rw[pile_cons]at this
     rw[if_neg (by show¬ct<takes kd;rw[HT.out];exact hc)]at this
     rw[←this];show _=pile _ (ct+1 - takes kd) (max dp (ct+1 - takes kd));rw[HT.out])
    have hci:¬(ct:Int)<(t:Int):=by omega
    obtain ⟨s,hs⟩:∃s,s=ct+1 - t:=⟨_,rfl⟩
    have hsi:(ct:Int)+(1 - (t:Int))=(s:Int):=by omega
    have hsk:s≤k+1:=by omega
    rw[←hs]at HN
    have HS:=Lh hs
    clear hs
    by_cases hm:dp<s
    ·have hmi:(dp:Int)<(s:Int):=by omega
     go_wp2_with (go_at_call 227;refine (takes_any kd t _ hk1 hk2 HT.out).mono ?_;rintro e w' ⟨rfl,rfl⟩)
     go_roundw
     case rel=>exact ⟨k+1,s,s,by omega,by omega,by omega,by go_num,by go_num,by go_num,HB2,Lh (by have:=HN.out;rwa [Nat.max_eq_right (by omega)]at this)⟩
     case measure=>simp[intOf];omega
    ·have hmi:¬(dp:Int)<(s:Int):=by omega
     go_wp2_with (go_at_call 227;refine (takes_any kd t _ hk1 hk2 HT.out).mono ?_;rintro e w' ⟨rfl,rfl⟩)
     go_roundw
     case rel=>exact ⟨k+1,s,dp,by omega,by omega,by omega,by go_num,by go_num,by go_num,HB2,Lh (by have:=HN.out;rwa [Nat.max_eq_left (by omega)]at this)⟩
     case measure=>simp[intOf];omega
  ·have HE:Hid (pile l 0 0=some (ct,dp)):=Lh (by
    rw[←HP.out,List.drop_eq_nil_of_le (by rw[HL.out];omega)];rfl)
   have HF:Hid (r=((dp:Int),decide (ct=1))):=Lh (by rw[←HV.out];unfold pileR;rw[HE.out])
   by_cases h1:ct=1
   ·have h1i:((ct:Int)==1)=true:=by rw[h1];rfl
    have HF2:Hid (r=((dp:Int),true)):=Lh (by rw[HF.out,h1];rfl)
    clear h1
    go_wp2
    go_ret2
    exact ⟨by rw[HF2.out];rfl,HB.out⟩
   ·have h1i:((ct:Int)==1)=false:=beq_eq_false_iff_ne.2 (by omega)
    have HF2:Hid (r=((dp:Int),false)):=Lh (by rw[HF.out,decide_eq_false h1])
    clear h1
    go_wp2
    go_ret2
    exact ⟨by rw[HF2.out];rfl,HB.out⟩
theorem pile_well (l:List Op):(pileR l).2=wellB l:=by
 unfold pileR wellB
 cases pile l 0 0 <;> rfl
theorem check_c (l:List Op) (A:Option Addr) (n c:Nat) (w:World) (v:Int) (hr:Rd w 2 A n (ops l)) (hn:n≤1000000) (hv:checkS l=v):
  Calls Tryz.prog 203 #[.slice A n c] w (RetI w v):=by
 have HV:=Lh hv
 have HL:=Lh (ops_len hr)
 have HR:=Lh hr
 clear hr hv
 by_cases h0:n<1
 ·have HF:Hid (v=1):=Lh (by rw[←HV.out];exact check_len l (by rw[HL.out];omega))
  go_enter Tryz.func203,Tryz.ntmps203
  go_wp2
  go_ret
  exact ⟨ret_int HF.out.symm,Below.refl _ _⟩
 by_cases h1:12<n
 ·have HF:Hid (v=1):=Lh (by rw[←HV.out];exact check_len l (by rw[HL.out];omega))
  go_enter Tryz.func203,Tryz.ntmps203
  go_wp2
  go_ret
  exact ⟨ret_int HF.out.symm,Below.refl _ _⟩
 go_enter Tryz.func203,Tryz.ntmps203
 go_wp2
 go_loopw [17] (fun i wr=>∃k:Nat,k≤n∧i=.int .i64 k∧Hid (Below w.heap.size w wr)∧Hid ((l.take k).all oneB=true)) (fun i _=>n - (intOf i).toNat)
 case atStart=>exact ⟨0,Nat.zero_le _,rfl,Lh (Below.refl _ _),Lh rfl⟩
 case round=>
  obtain ⟨k,hk,rfl,HB,hall⟩:=hrel
  generalize wr=w2 at *
  by_cases hlt:k<n
  ·obtain ⟨b,off,⟨kd,nn⟩,rfl,hx,c0,c1⟩:=at_op (HR.out.below HB.out) k hlt
   have hs:=Lh (take_all l oneB k _ hx)
   cases hok:oneB ⟨kd,nn⟩
   ·have HOK:=Lh hok
    have HF:Hid (v=1):=Lh (by rw[←HV.out];exact check_bad l k _ hx hok)
    clear hx hok
    go_wp2_with fail
    refine (right_any _ _ _ false HOK.out).mono ?_
    rintro e w3 ⟨rfl,b3⟩
    have HB3:=Lh (bl_trans (bl_alloc HB.out _) b3.below)
    clear b3
    go_wp2_with fail
    go_ret
    exact ⟨ret_int HF.out.symm,HB3.out⟩
   ·have HOK:=Lh hok
    clear hx hok
    go_wp2_with fail
    refine (right_any _ _ _ true HOK.out).mono ?_
    rintro e w3 ⟨rfl,b3⟩
    have HB3:=Lh (bl_trans (bl_alloc HB.out _) b3.below)
    clear b3
    go_wp2_with fail
    go_roundw
    case rel=>exact ⟨k+1,by omega,by go_num,HB3,Lh (by rw[hs.out,hall.out,HOK.out];rfl)⟩
    case measure=>simp[intOf];omega
  ·have HA:Hid (l.all oneB=true):=Lh (by
    have:=hall.out
    rwa [List.take_of_length_le (by rw[HL.out];omega)]at this)
   obtain ⟨⟨dp,wl⟩,hpr⟩:∃p,pileR l=p:=⟨_,rfl⟩
   have hw:wl=wellB l:=by rw[←pile_well l,hpr]
   have HPR:=Lh hpr
   clear hpr
   cases wl
   ·have HF:Hid (v=2):=Lh (by
     rw[←HV.out];unfold checkS;rw[if_pos (by rw[HA.out,HL.out];simp;omega),←hw];rfl)
    clear hw
    go_wp2_with fail
    refine (pile_any l _ _ _ _ (dp,false) (HR.out.below HB.out) hn HA.out HPR.out).mono ?_
    rintro e w3 ⟨rfl,b3⟩
    have HB3:=Lh (bl_trans HB.out b3)
    clear b3
    go_wp2_with fail
    go_ret
    exact ⟨ret_int HF.out.symm,HB3.out⟩
   ·have HF:Hid (v=0):=Lh (by
     rw[←HV.out];unfold checkS;rw[if_pos (by rw[HA.out,HL.out];simp;omega),←hw];rfl)
    clear hw
    go_wp2_with fail
    refine (pile_any l _ _ _ _ (dp,true) (HR.out.below HB.out) hn HA.out HPR.out).mono ?_
    rintro e w3 ⟨rfl,b3⟩
    have HB3:=Lh (bl_trans HB.out b3)
    clear b3
    go_wp2_with fail
    go_ret
    exact ⟨ret_int HF.out.symm,HB3.out⟩
def told (r:Option Int):Int × Int:=match r with
 | some v=>(v,0)
 | none=>(0,3)
theorem register_any (rg:List Int) (E:Option Addr) (x y k:Nat) (w:World) (hg:Rd w 1 E x (zs rg)):
  Calls Tryz.prog 231 #[.slice E x y,.int .i64 (k:Int)] w fun e w' =>e=.returned (.tuple #[.int .i64 (told ((rg[k]?).map Span.sw)).1,.int .i64 (told ((rg[k]?).map Span.sw)).2])∧w=w' :=by
 have HL:=Lh (zs_len hg)
 by_cases hj:k<x
 ·obtain ⟨eb,ef,rv,rfl,hrv,e0⟩:=at_z hg k hj
  have HF:Hid (told ((rg[k]?).map Span.sw)=(Span.sw rv,0)):=Lh (by rw[hrv];rfl)
  clear hrv hg
  go_enter Tryz.func231,Tryz.ntmps231
  go_wp2_with (go_at_call 234;refine (Span.wrap_any _ _).mono ?_;rintro e w' ⟨rfl,rfl⟩)
  go_ret2
  exact ⟨by rw[HF.out];rfl,rfl⟩
 ·have HF:Hid (told ((rg[k]?).map Span.sw)=(0,3)):=Lh (by rw[List.getElem?_eq_none (by rw[HL.out];omega)];rfl)
  clear hg
  go_enter Tryz.func231,Tryz.ntmps231
  go_wp2
  go_ret2
  exact ⟨by rw[HF.out];rfl,rfl⟩
theorem heap_told (h:List Heap.Cell) (hr:Heap.rightB h=true) (nn:Int) (rg:List Int) (ys:List Int):Heap.getS h nn=told (tellS h rg ⟨2,nn⟩ ys):=by
 unfold Heap.getS tellS
 rw[if_pos hr]
 cases hl:Heap.liveAt h nn
 ·simp[told]
 ·simp[told]
set_option maxHeartbeats 1000000 in
theorem tell_any (h:List Heap.Cell) (rg ys:List Int) (kd nn:Int) (B D E:Option Addr) (t cb m d x y:Nat) (w:World) (r:Int × Int) (hy:Rd w 1 B t (zs ys)) (hh:Rd w 2 D m (Heap.cs h)) (hg:Rd w 1 E x (zs rg))
  (hm:m≤1000000) (ho:oneB ⟨kd,nn⟩=true) (ht:takes kd=t) (hys:∀z∈ys,Heap.vB z=true) (hr:Heap.rightB h=true) (hv:told (tellS h rg ⟨kd,nn⟩ ys)=r):
  Calls Tryz.prog 228 #[.agg #[.int .i64 kd,.int .i64 nn],.slice B t cb,.slice D m d,.slice E x y] w (RetG w r):=by
 have hk:1≤kd∧kd≤11:=one_kind ⟨kd,nn⟩ ho
 have HY:=Lh hy
 have HYL:=Lh (zs_len hy)
 have HH:=Lh hh
 have HG:=Lh hg
 have HV:=Lh hv
 have HR:=Lh hr
 clear hy hh hg hv hr
 rcases (by omega:kd=1∨kd=2∨kd=3∨kd=11∨(4≤kd∧kd≤10)) with rfl | rfl | rfl | rfl | ⟨h4,h10⟩
 ·have HF:Hid (r=(nn,0)):=Lh (by rw[←HV.out];rfl)
  clear ho ht hk hys
  go_enter Tryz.func228,Tryz.ntmps228
  go_wp2
  go_ret2
  exact ⟨by rw[HF.out];rfl,bl_alloc (Below.refl _ _) _⟩
 ·have HF:=Lh ((heap_told h HR.out nn rg ys).trans HV.out)
  clear ho ht hk hys
  go_enter Tryz.func228,Tryz.ntmps228
  go_wp2_with fail
  refine (Heap.get_c h _ _ _ _ _ r (HH.out.alloc _) hm HF.out).mono ?_
  rintro e w1 ⟨rfl,b1⟩
  have HB:=Lh (bl_trans (bl_alloc (Below.refl _ _) _) b1)
  clear b1
  go_wp2
  go_ret2
  exact ⟨rfl,HB.out⟩
 ·have hn0:0≤nn:=by unfold oneB at ho;simp at ho;omega
  obtain ⟨j,rfl⟩:=Int.eq_ofNat_of_zero_le hn0
  obtain ⟨u,hu⟩:∃u,told ((rg[j]?).map Span.sw)=u:=⟨_,rfl⟩
  have HF:Hid (r=u):=Lh (by rw[←HV.out,←hu];rfl)
  have HU:=Lh hu
  obtain ⟨u1,u2⟩:=u
  clear ho ht hk hys hu
  go_enter Tryz.func228,Tryz.ntmps228
  go_wp2_with fail
  refine (register_any rg _ _ _ _ _ (HG.out.alloc _)).mono ?_
  rw[HU.out]
  rintro e w' ⟨rfl,rfl⟩
  go_wp2
  go_ret2
  exact ⟨by rw[HF.out];rfl,bl_alloc (Below.refl _ _) _⟩
 ·obtain rfl:t=1:=ht.symm
  obtain ⟨bb,bf,a,rfl,ha,e0⟩:=at_z (HY.out.alloc (.cells #[.int .i64 11,.int .i64 nn] 115)) 0 (by omega)
  rw[Nat.add_zero]at e0
  have HF:Hid (r=(truthI (a==0),0)):=Lh (by
   rw[←HV.out]
   have e:ys.getD 0 0=a:=by rw[List.getD_eq_getElem?_getD,ha];rfl
   show told (some (truthI (ys.getD 0 0==0)))=_
   rw[e];rfl)
  clear ho hk hys ha ht
  cases hz:(a==0)
  all_goals
   have HZ:=Lh hz
   go_enter Tryz.func228,Tryz.ntmps228
   go_wp2_with fail
   refine (truth_any _ _).mono ?_
   rintro e w' ⟨rfl,rfl⟩
   go_wp2
   go_ret2
   exact ⟨by rw[HF.out,HZ.out];rfl,bl_alloc (Below.refl _ _) _⟩
 ·have f1:(kd==1)=false:=beq_eq_false_iff_ne.2 (by omega)
  have f2:(kd==2)=false:=beq_eq_false_iff_ne.2 (by omega)
  have f3:(kd==3)=false:=beq_eq_false_iff_ne.2 (by omega)
  have f11:(kd==11)=false:=beq_eq_false_iff_ne.2 (by omega)
  obtain rfl:t=2:=by rw[←ht];unfold takes;rw[if_neg (by omega),if_neg (by omega)]
  obtain ⟨bb,bf,a,rfl,ha,e0⟩:=at_z (HY.out.alloc (.cells #[.int .i64 kd,.int .i64 nn] 115)) 0 (by omega)
  obtain ⟨bb',bf',b,hA,hb,e1⟩:=at_z (HY.out.alloc (.cells #[.int .i64 kd,.int .i64 nn] 115)) 1 (by omega)
  injection hA with hA
  injection hA with hA1 hA2
  subst hA1 hA2
  rw[Nat.add_zero]at e0
  have HVA:=Lh (hys a (List.mem_of_getElem? ha))
  have HVB:=Lh (hys b (List.mem_of_getElem? hb))
  obtain ⟨v,hv⟩:∃v,two kd a b=v:=⟨_,rfl⟩
  have HF:Hid (r=(v,0)):=Lh (by
   rw[←HV.out]
   have e:ys.getD 0 0=a:=by rw[List.getD_eq_getElem?_getD,ha];rfl
   have e' :ys.getD 1 0=b:=by rw[List.getD_eq_getElem?_getD,hb];rfl
   unfold tellS
   rw[if_neg (by show¬kd=1;omega),if_neg (by show¬kd=2;omega),if_neg (by show¬kd=3;omega),if_neg (by show¬kd=11;omega),e,e']
   show told (some (two kd a b))=_
   rw[hv];rfl)
  have HTW:=Lh hv
  have hc:=fun m=>(oftwo_any kd a b v ((w.alloc (.cells #[.int .i64 kd,.int .i64 nn] 115)).drewN m) HVA.out HVB.out h4 h10 HTW.out).mono (fun _ _ (h:_∧_)=>(⟨h.1,0,h.2.symm⟩:_∧∃q,_=((w.alloc (.cells #[.int .i64 kd,.int .i64 nn] 115)).drewN m).drewN q))
  clear ho hk hys ha hb ht hv
  go_enter Tryz.func228,Tryz.ntmps228
  go_wp2_with fail
  go_quiet (first | (go_at_call 233;refine Calls.quiet_of (hc _)))
  go_wp2
  go_ret2
  exact ⟨by rw[HF.out];rfl,bl_drewN (bl_alloc (Below.refl _ _) _) _⟩
theorem rd_tail {w:World} {B:Option Addr} {n:Nat} {xs:List Int} (h:Rd w 1 B n (zs xs)) (k d:Nat) (hk:k≤n) (hd:n≤d):Rd w 1 (if d=k then B else B.map (·.add k)) (n - k) (zs (xs.drop k)):=by
 have hl:=zs_len h
 refine ⟨by unfold zs;rw[flat_len zc_len,List.length_drop,hl],fun h0=>?_⟩
 obtain ⟨b,off,rfl,hc⟩:=h.2 (by omega)
 rw[if_neg (by omega)]
 refine ⟨b,off+k,by simp[Mem.add_plain],fun j u hu=>?_⟩
 have e:zs xs=zs (xs.take k)++zs (xs.drop k):=by rw[←zs_app,List.take_append_drop]
 rw[Nat.add_assoc]
 refine hc (k+j) u ?_
 have hlk:(zs (xs.take k)).length=k:=by unfold zs;rw[flat_len zc_len,List.length_take,hl];omega
 rw[e,List.getElem?_append_right (by omega),hlk,show k+j - k=j from by omega]
 exact hu
theorem told_v (h:List Heap.Cell) (rg:List Int) (hr:Heap.rightB h=true) (o:Op) (ho:oneB o=true) (ys:List Int) (v:Int) (hv:tellS h rg o ys=some v):Heap.vB v=true:=by
 have h1:=one_kind o ho
 rcases (by omega:takes o.kind=0∨takes o.kind=1∨takes o.kind=2∨2<takes o.kind) with h0 | h0 | h0 | h0
 ·have e:tellS h rg o ys=tellS h rg o []:=by
   have h3:=takes_0 _ h0
   unfold tellS
   rcases (by omega:o.kind=1∨o.kind=2∨o.kind=3) with e | e | e
   all_goals simp[e]
  have:=val_v h rg hr (.leaf o) h0 (by simpa [Tree.ops] using ho)
  unfold Tree.val at this
  rw[←e,hv]at this
  exact this
 ·have h11:=takes_1 _ h0
  unfold tellS at hv
  rw[if_neg (by omega),if_neg (by omega),if_neg (by omega),if_pos h11]at hv
  injection hv with e;rw[←e];exact truth_v _
 ·have h2:=takes_2 _ h0
  unfold tellS at hv
  rw[if_neg (by omega),if_neg (by omega),if_neg (by omega),if_neg (by omega)]at hv
  injection hv with e;rw[←e];exact two_v _ _ _
 ·have:=takes_le o.kind;omega
def runOn (h:List Heap.Cell) (rg:List Int) (t:List Op) (ys:List Int):Option Int→Option (List Int)
 | none=>none
 | some v=>run h rg t (ys++ [v])
def outOf:Option (List Int)→Int × Int
 | some (v::_)=>(v,0)
 | _=>(0,3)
theorem run_cons (h:List Heap.Cell) (rg:List Int) (o:Op) (t:List Op) (xs:List Int):run h rg (o::t) xs=runOn h rg t (xs.take (xs.length - takes o.kind)) (tellS h rg o (xs.drop (xs.length - takes o.kind))):=by
 unfold runOn;cases hv:tellS h rg o (xs.drop (xs.length - takes o.kind)) <;> simp only[run,hv]
set_option maxHeartbeats 2000000 in
theorem eval_c (l :List Op) (h:List Heap.Cell) (rg:List Int) (A D E:Option Addr) (n c m d x y:Nat) (w:World) (r:Int × Int) (hr:Rd w 2 A n (ops l)) (hh:Rd w 2 D m (Heap.cs h)) (hg:Rd w 1 E x (zs rg))
    (hn:n≤1000000) (hm:m≤1000000) (hv:evalS l h rg=r):
    Calls Tryz.prog 209 #[.slice A n c,.slice D m d,.slice E x y] w (RetG w r):=by
  have HL:=Lh (ops_len hr)
  have HV:=Lh hv
  have HR:=Lh hr
  have HH:=Lh hh
  have HG:=Lh hg
  clear hr hh hg hv
  by_cases h0:checkS l=0
  · have H0 := Lh h0
    cases h1:Heap.rightB h
    · have H1:=Lh h1
      have HF:Hid (r=(0,1)):=Lh (by rw[←HV.out];unfold evalS;rw[if_pos h0,h1];rfl)
      clear h0 h1
      go_enter Tryz.func209,Tryz.ntmps209
      go_wp2_with fail
      refine (check_c l _ _ _ _ 0 HR.out hn H0.out).mono ?_
      rintro e w1 ⟨rfl,b1⟩
      have HB:=Lh b1
      clear b1
      go_wp2_with fail
      refine (Heap.right_c h _ _ _ _ false (HH.out.below HB.out) hm H1.out).mono ?_
      rintro e w2 ⟨rfl,b2⟩
      have HB2:=Lh (bl_trans HB.out b2)
      clear b2
      go_wp2
      go_ret2
      exact ⟨by rw[HF.out];rfl,HB2.out⟩
    · have H1 := Lh h1
      obtain ⟨g1,g2,g3,g4⟩:=check_ok l h0
      have HE:Hid (r=outOf (run h rg l [])):=Lh (by rw[←HV.out];unfold evalS;rw[if_pos h0,if_pos h1];rfl)
      have HO:=Lh g3
      have HW:Hid (∃p,pile l 0 0=some p∧p.1=1):=Lh (by
        unfold wellB at g4
        cases hp:pile l 0 0 with
        | none=>rw[hp]at g4;cases g4
        | some p=>rw[hp]at g4;exact ⟨p,rfl,by simpa using g4⟩)
      have hn12:n≤12:=by rw[←HL.out];omega
      clear h0 h1 g1 g2 g3 g4
      go_enter Tryz.func209,Tryz.ntmps209
      go_wp2_with fail
      refine (check_c l _ _ _ _ 0 HR.out hn H0.out).mono ?_
      rintro e w1 ⟨rfl,b1⟩
      have HB:=Lh b1
      clear b1
      go_wp2_with fail
      refine (Heap.right_c h _ _ _ _ true (HH.out.below HB.out) hm H1.out).mono ?_
      rintro e w2 ⟨rfl,b2⟩
      have HB2:=Lh (bl_trans HB.out b2)
      clear b2 HB
      go_wp2
      go_loopw [9,25] (fun v i wr=>∃(k q:Nat) (xs:List Int),k≤n∧q≤k∧i=.int .i64 k∧Own w2 wr 3 1 v q (zs xs)∧Hid (xs.length=q)∧Hid (∀z∈xs,Heap.vB z=true)∧Hid (run h rg (l.drop k) xs=run h rg l [])∧Hid (∃dd p,pile (l.drop k) q dd=some p∧p.1=1)) (fun _ i _=>n - (intOf i).toNat)
      case atStart=>exact ⟨0,0,[],Nat.zero_le _,Nat.le_refl _,rfl,Own.nil_ (Below.refl _ _),Lh rfl,Lh (by simp),Lh rfl,Lh (by obtain ⟨p,hp⟩:=HW.out;exact ⟨0,p,hp⟩)⟩
      case round =>
        obtain ⟨k,q,xs,hk,hqk,rfl,hown,HXL,HXV,HRN,HP⟩:=hrel
        generalize wr=w3 at *
        by_cases hlt:k<n
        · obtain ⟨b,off,⟨kd,nn⟩,rfl,hx,c0,c1⟩:=at_op (HR.out.below (bl_trans HB2.out hown.2)) k hlt
          have hone:oneB ⟨kd,nn⟩=true:=List.all_eq_true.1 HO.out _ (List.mem_of_getElem? hx)
          have hkd:1≤kd∧kd≤11:=one_kind ⟨kd,nn⟩ hone
          obtain ⟨hk1,hk2⟩:=hkd
          have hdr:l.drop k=⟨kd,nn⟩::l.drop (k+1):=by
            obtain ⟨hl,e⟩:=List.getElem?_eq_some_iff.1 hx
            rw[←e];exact List.drop_eq_getElem_cons hl
          obtain ⟨t,ht⟩:∃t,takes kd=t:=⟨_,rfl⟩
          have ht2:t≤2:=by rw[←ht];exact takes_le kd
          have htq:t≤q:=by
            obtain ⟨dd,p,hp,_⟩:=HP.out
            rw[hdr,pile_cons]at hp
            by_cases hc:q<t
            · rw[if_pos (by show q<takes kd;rw[ht];exact hc)]at hp;cases hp
            · omega
          have HPN:Hid (∃dd p,pile (l.drop (k+1)) (q - t+1) dd=some p∧p.1=1):=Lh (by
            obtain ⟨dd,p,hp,hp1⟩:=HP.out
            rw[hdr,pile_cons,if_neg (by show¬q<takes kd;rw[ht];omega)]at hp
            refine ⟨max dd (q+1 - takes kd),p,?_,hp1⟩
            rw[show q - t+1=q+1 - takes kd from by rw[ht];omega]
            exact hp)
          obtain ⟨s,hs⟩:∃s,s=q - t:=⟨_,rfl⟩
          obtain ⟨res,hres⟩:∃res,tellS h rg ⟨kd,nn⟩ (xs.drop s)=res:=⟨_,rfl⟩
          have HRUN:Hid (run h rg l []=runOn h rg (l.drop (k+1)) (xs.take s) res):=Lh (by
              rw[←HRN.out,hdr,run_cons]
              have e:xs.length - takes (⟨kd,nn⟩:Op).kind=s:=by show xs.length - takes kd=s;rw[HXL.out,ht,hs]
              rw[e,hres])
          have HRES:=Lh hres
          have HT:=Lh ht
          have HONE:=Lh hone
          have hsi:(q:Int) - (t:Int)=(s:Int):=by omega
          have hsq:s≤q:=by omega
          obtain ⟨B,bd,rfl,hqd,hrd⟩:=own_room hown
          have HOWN:=Lh hown
          have HRD:=Lh hrd
          have HST:Hid (q - s=t):=Lh (by omega)
          have HBK:Hid (Blk (w3.alloc (.cells #[.int .i64 kd,.int .i64 nn] 115)) w3.heap.size 115 #[.int .i64 kd,.int .i64 nn]):=Lh (Blk.new _ _ _)
          have q0:=HBK.out.cell 0 _ rfl
          have q1:=HBK.out.cell 1 _ rfl
          clear hx hdr ht hres hone hown hrd hs
          go_wp2_with (go_at_call 227;refine (takes_any kd t _ hk1 hk2 HT.out).mono ?_;rintro e w' ⟨rfl,rfl⟩)
          obtain ⟨w4,hw4⟩:∃w4,w4=w3.alloc (.cells #[.int .i64 kd,.int .i64 nn] 115):=⟨_,rfl⟩
          have HW4:Hid (Below w3.heap.size w3 w4):=Lh (by rw[hw4];exact bl_alloc (Below.refl _ _) _)
          rw[←hw4]at q0 q1 HBK ⊢
          have KEEP:Hid (∀W,Below w4.heap.size w4 W→W.cell? ⟨w3.heap.size,0,none⟩=some (.int .i64 kd)∧W.cell? ⟨w3.heap.size,1,none⟩=some (.int .i64 nn)):=Lh (fun W h=>⟨(HBK.out.below h).cell 0 _ rfl,(HBK.out.below h).cell 1 _ rfl⟩)
          have bq:Hid (Below w4.heap.size w4 w4.drew):=Lh (Below.refl _ _).drew
          have HTL:=Lh (rd_tail HRD.out s bd hsq hqd)
          have HXD:Hid (∀z∈xs.drop s,Heap.vB z=true):=Lh (fun z hz=>HXV.out z (List.mem_of_mem_drop hz))
          have hsb:s≤bd:=by omega
          obtain ⟨B2,hB2⟩:∃B2,(if bd=s then B else Option.map (fun x=>x.add s) B)=B2:=⟨_,rfl⟩
          rw[hB2]at HTL
          clear hw4
          cases res with
          | none =>
            have HF:Hid (r=(0,3)):=Lh (by rw[HE.out,HRUN.out];rfl)
            go_wp2_with fail
            go_region_held3 (fun w' =>w'.cell? ⟨w3.heap.size,0,none⟩=some (.int .i64 kd)∧w'.cell? ⟨w3.heap.size,1,none⟩=some (.int .i64 nn)) (exact KEEP.out _ bq.out)
              (first
              | (go_at_call 228
                 refine (tell_any h rg (xs.drop s) kd nn _ _ _ _ _ _ _ _ _ _ (0,3) ((HTL.out.below HW4.out).below bq.out) (((HH.out.below (bl_trans HB2.out HOWN.out.2)).below HW4.out).below bq.out) (((HG.out.below (bl_trans HB2.out HOWN.out.2)).below HW4.out).below bq.out) hm HONE.out (HT.out.trans HST.out.symm) HXD.out H1.out (by rw[HRES.out];rfl)).mono ?_
                 rintro e wq ⟨rfl,b_⟩
                 replace bq:=Lh (bl_trans bq.out b_)
                 clear b_))
            have HB5:=Lh (bl_trans HW4.out bq.out)
            clear KEEP HBK q0 q1 bq
            go_wp2
            go_ret2
            exact ⟨by rw[HF.out];rfl,bl_trans HB2.out (bl_trans HOWN.out.2 HB5.out)⟩
          | some v=>
            have HVV:Hid (Heap.vB v=true):=Lh (told_v h rg H1.out _ HONE.out _ _ HRES.out)
            go_wp2_with fail
            go_region_held3 (fun w' =>w'.cell? ⟨w3.heap.size,0,none⟩=some (.int .i64 kd)∧w'.cell? ⟨w3.heap.size,1,none⟩=some (.int .i64 nn)) (exact KEEP.out _ bq.out)
              (first
              | (go_at_call 228
                 refine (tell_any h rg (xs.drop s) kd nn _ _ _ _ _ _ _ _ _ _ (v,0) ((HTL.out.below HW4.out).below bq.out) (((HH.out.below (bl_trans HB2.out HOWN.out.2)).below HW4.out).below bq.out) (((HG.out.below (bl_trans HB2.out HOWN.out.2)).below HW4.out).below bq.out) hm HONE.out (HT.out.trans HST.out.symm) HXD.out H1.out (by rw[HRES.out];rfl)).mono ?_
                 rintro e wq ⟨rfl,b_⟩
                 replace bq:=Lh (bl_trans bq.out b_)
                 clear b_))
            have HB5:=Lh (bl_trans HW4.out bq.out)
            clear KEEP HBK q0 q1 bq
            have HO5:Hid (Own w2 wq 3 1 (.slice B s bd) s (zs (xs.take s))):=Lh (by rw[←zs_taken];exact own_first (HOWN.out.below HB5.out) s hsq)
            clear HRD HTL HOWN hB2
            go_wp2_with (at_builtin;refine append_rd rfl _ _ 27 rfl Mem.tInt w2 _ s (zs (xs.take s)) rfl (HO5.out.alloc _) _ 1 1 [.int .i64 v] rfl (Rd.built _ 1 1 [.int .i64 v] _ rfl) (one_cons rfl one_nil) (by omega) (by omega) ?_;intro v' w' hown' hg;clear hg)
            refine ⟨⟨k+1,s+1,xs.take s++ [v],by omega,by have:=HST.out;omega,by go_num,?_,Lh ?_,Lh ?_,Lh ?_,Lh ?_⟩,?_⟩
            · rw[zs_app];exact hown'
            · rw[List.length_append,List.length_take,HXL.out,Nat.min_eq_left hsq];rfl
            · intro z hz
              rcases List.mem_append.1 hz with hz | hz
              · exact HXV.out z (List.mem_of_mem_take hz)
              · rw[List.mem_singleton.1 hz];exact HVV.out
            · exact HRUN.out.symm
            · rw[show s=q - t from by have:=HST.out;omega];exact HPN.out
            · simp[intOf];omega
        · have hkn:k=n:=by omega
          have hq1:q=1:=by
            obtain ⟨dd,p,hp,hp1⟩:=HP.out
            rw[hkn,List.drop_of_length_le (by rw[HL.out];exact Nat.le_refl _)]at hp
            simp only[pile,Option.some.injEq]at hp
            rw[←hp]at hp1;exact hp1
          subst hq1
          obtain ⟨v,hxs⟩:∃v,xs= [v]:=by
            have:=HXL.out
            match xs,this with
            | [v],_=>exact ⟨v,rfl⟩
          subst hxs
          have HF:Hid (r=(v,0)):=Lh (by
            rw[HE.out,←HRN.out,hkn,List.drop_of_length_le (by rw[HL.out];exact Nat.le_refl _)];rfl)
          have HB5:=Lh (bl_trans HB2.out hown.2)
          obtain ⟨B,bd,rfl,hqd,hrd⟩:=own_room hown
          obtain ⟨b,off,rfl,hc⟩:=hrd.2 (by omega)
          have q0:w3.cell? ⟨b,off,none⟩=some (.int .i64 v):=hc 0 (.int .i64 v) rfl
          clear hkn hc hrd hown
          go_wp2
          go_ret2
          exact ⟨by rw[HF.out];rfl,HB5.out⟩
  · have HF:Hid (r=(0,checkS l)):=Lh (by rw[←HV.out];unfold evalS;rw[if_neg h0])
    obtain ⟨ck,hck⟩:∃x,checkS l=x:=⟨_,rfl⟩
    rw[hck]at HF
    have HC:=Lh hck
    have hne:(ck !=0)=true:=by rw[←hck];simpa using h0
    clear h0 hck
    go_enter Tryz.func209,Tryz.ntmps209
    go_wp2_with fail
    refine (check_c l _ _ _ _ ck HR.out hn HC.out).mono ?_
    rintro e w1 ⟨rfl,b1⟩
    have HB:=Lh b1
    clear b1
    go_wp2
    go_ret2
    exact ⟨by rw[HF.out];rfl,HB.out⟩
def named (l:List Op):List Int:=(l.filter (fun o=>decide (o.kind=2))).map Op.n
theorem named_take (l:List Op) (k:Nat) (x:Op) (hk:l[k]?=some x):named (l.take (k+1))=named (l.take k)++(if x.kind=2 then [x.n] else []):=by
 unfold named
 rw[List.take_add_one,hk,List.filter_append,List.map_append]
 by_cases h:x.kind=2 <;> simp[h]
theorem named_mem (l:List Op) (h:l.all oneB=true) (x:Int):x∈named l↔∃k:Nat,k<64∧namesB l k=true∧x=(k:Int):=by
 unfold named namesB
 rw[List.mem_map]
 constructor
 ·rintro ⟨o,ho,rfl⟩
  rw[List.mem_filter]at ho
  have h1:=List.all_eq_true.1 h o ho.1
  have h2:o.kind=2:=by simpa using ho.2
  unfold oneB at h1
  rw[if_neg (by omega),if_pos h2]at h1
  have h3:0≤o.n∧o.n≤63:=by simpa using h1
  refine ⟨o.n.toNat,by omega,?_,by omega⟩
  rw[List.any_eq_true]
  exact ⟨o,ho.1,by simp[h2];omega⟩
 ·rintro ⟨k,hk,hn,rfl⟩
  rw[List.any_eq_true]at hn
  obtain ⟨o,ho,h2⟩:=hn
  have h2:o.kind=2∧o.n=(k:Int):=by simpa using h2
  exact ⟨o,List.mem_filter.2 ⟨ho,by simp[h2.1]⟩,h2.2⟩
theorem cells_of (l:List Op) (h:checkS l=0):cellsS l=Lib.compact (sortZ (named l)):=by
 obtain ⟨_,_,h3,_⟩:=check_ok l h
 rw[compact_pick (named l) (namesB l) 64 (named_mem l h3)]
 unfold cellsS;rw[if_pos h];rfl
set_option maxHeartbeats 1000000 in
theorem cells_c (l:List Op) (A:Option Addr) (n c:Nat) (w:World) (r:List Int) (q:Nat) (hr:Rd w 2 A n (ops l)) (hn:n≤1000000) (hv:cellsS l=r) (hq:r.length=q):
  Calls Tryz.prog 204 #[.slice A n c] w (RetO w 3 1 q (zs r)):=by
 have HL:=Lh (ops_len hr)
 have HR:=Lh hr
 have HQ:=Lh hq
 clear hr hq
 by_cases h0:checkS l=0
 ·have H0:=Lh h0
  have HF:Hid (r=Lib.compact (sortZ (named l))):=Lh (by rw[←hv];exact cells_of l h0)
  clear h0 hv
  go_enter Tryz.func204,Tryz.ntmps204
  go_wp2_with fail
  refine (check_c l _ _ _ _ 0 HR.out hn H0.out).mono ?_
  rintro e w1 ⟨rfl,b1⟩
  have HB1:=Lh b1
  clear b1
  go_wp2
  go_loopw [3,11] (fun v i wr=>∃k q:Nat,k≤n∧q≤k∧i=.int .i64 k∧Hid ((named (l.take k)).length=q)∧Own w1 wr 3 1 v q (zs (named (l.take k)))) (fun _ i _=>n - (intOf i).toNat)
  case atStart=>exact ⟨0,0,Nat.zero_le _,Nat.le_refl _,rfl,Lh rfl,Own.nil_ (Below.refl _ _)⟩
  case round=>
   obtain ⟨k,q1,hk,hqk,rfl,HQ1,hown⟩:=hrel
   by_cases hlt:k<n
   ·obtain ⟨b,off,⟨kd,nn⟩,rfl,hx,c0,c1⟩:=at_op ((HR.out.below HB1.out).below hown.2) k hlt
    have HT:=Lh (named_take l k _ hx)
    clear hx
    by_cases e2:kd=2
    ·subst e2
     have HT2:Hid (named (l.take (k+1))=named (l.take k)++ [nn]):=Lh (by rw[HT.out];rfl)
     go_wp2_with (at_builtin;refine append_rd rfl _ _ 27 rfl Mem.tInt w1 _ _ _ rfl ((hown.alloc _).alloc _) _ 1 1 [.int .i64 nn] rfl (Rd.builtAt _ 1 1 [.int .i64 nn] _ rfl (by simp)) (one_cons rfl one_nil) (by omega) (by omega) ?_;intro v' w' hown' hg;clear hg)
     go_roundw
     case rel=>exact ⟨k+1,q1+1,by omega,by omega,by go_num,Lh (by rw[HT2.out,List.length_append,HQ1.out];rfl),by rw[HT2.out,zs_app];exact hown'⟩
     case measure=>simp[intOf];omega
    ·have e3:(kd==2)=false:=beq_eq_false_iff_ne.2 e2
     have HT2:Hid (named (l.take (k+1))=named (l.take k)):=Lh (by rw[HT.out,if_neg e2,List.append_nil])
     have HO:=Lh (hown.alloc (.cells #[.int .i64 kd,.int .i64 nn] 115))
     clear e2 hown
     go_wp2
     go_roundw
     case rel=>exact ⟨k+1,q1,by omega,by omega,by go_num,Lh (by rw[HT2.out];exact HQ1.out),by rw[HT2.out];exact HO.out⟩
     case measure=>simp[intOf];omega
   ·have ho:=hown
    rw[List.take_of_length_le (by rw[HL.out];omega)]at ho
    have HO:=Lh ho
    clear hown ho
    go_wp2_with fail
    refine (sort_own w1 _ _ _ _ HO.out (by omega)).mono ?_
    rintro e w2 ⟨rfl,ho2⟩
    have HO2:=Lh ho2
    clear ho2
    go_wp2_with fail
    refine (compact_own w1 _ _ _ _ HO2.out (by omega)).mono ?_
    rintro e w3 ⟨v3,rfl,ho3⟩
    go_wp2
    go_ret
    exact ⟨v3,rfl,by rw[←HQ.out,HF.out];exact ho3.wide HB1.out⟩
 ·have HF:Hid (r= []):=Lh (by rw[←hv];unfold cellsS;rw[if_neg h0])
  have HN:Hid (q=0):=Lh (by rw[←HQ.out,HF.out];rfl)
  obtain rfl:=HN.out
  obtain ⟨ck,hck⟩:∃x,checkS l=x:=⟨_,rfl⟩
  have HC:=Lh hck
  have hne:(ck !=0)=true:=by rw[←hck];simpa using h0
  clear h0 hv hck
  go_enter Tryz.func204,Tryz.ntmps204
  go_wp2_with fail
  refine (check_c l _ _ _ _ ck HR.out hn HC.out).mono ?_
  rintro e w1 ⟨rfl,b1⟩
  have HB:=Lh b1
  clear b1
  go_wp2
  go_ret
  exact ⟨_,rfl,by rw[HF.out];exact Own.nil_ HB.out⟩
theorem trod_op {H:Type} {enc:TypeId × Value→H} {W:World} {fuel:Nat} {cs' :List Value} {x:DataW H × List MemPlace} (hl:cs'.length=2)
  (ht:DataW.trod enc Tryz.prog W 0 (fun _=>true) true fuel 115 cs' =some x):∃y:Op,cs' =oc y∧(Fits y.kind∧Fits y.n):=by
 obtain ⟨xs,n',_,_,_,hxl,hf⟩:=DataW.trod_struct Tryz.underlying115 ht
 match cs',hl with
 | [c0,c1],_=>
  have g0:=hf 0 _ rfl
  have g1:=hf 1 _ rfl
  have k3:Tryz.prog.cellsOf 3=1:=by kernel_rfl
  match xs,hxl with
  | [y0,y1],_=>
   simp[k3]at g0 g1
   obtain ⟨m0,e0,_,wf0⟩:=DataW.trod_int Tryz.underlying3 g0
   obtain ⟨m1,e1,_,wf1⟩:=DataW.trod_int Tryz.underlying3 g1
   simp at e0 e1
   subst e0 e1
   exact ⟨⟨m0,m1⟩,rfl,bounds_i64 wf0,bounds_i64 wf1⟩
theorem open_ops {H:Type} {enc:TypeId × Value→H} {W:World} {A:Option Addr} {n c:Nat} {d:DataW H} {p:List MemPlace}
  (h:DataW.Trod enc Tryz.prog W 0 (fun _=>true) true 111 (.slice A n c) d p):
  n≤c∧c≤9223372036854775807∧∃xs:List Op,Rd W 2 A n (ops xs)∧xs.length=n∧∀x∈xs,Fits x.kind∧Fits x.n:=
 open_rows Tryz.underlying111 2 (by kernel_rfl) (by decide) oc (fun _=>rfl) (fun x=>Fits x.kind∧Fits x.n) (fun _ _ _ hl ht=>trod_op hl ht) h
end Go.Proofs.YtgghaodcfgbjlaaGreat.Term
namespace Go.Proofs.YtgghaodcfgbjlaaGreat.Term
open Mem
end Go.Proofs.YtgghaodcfgbjlaaGreat.Term
namespace Go.Proofs.YtgghaodcfgbjlaaGreat.Term
open Go.ChangeShapes Go.WideShapes Go.ChangeAt Go.RowKit Mem
end Go.Proofs.YtgghaodcfgbjlaaGreat.Term
