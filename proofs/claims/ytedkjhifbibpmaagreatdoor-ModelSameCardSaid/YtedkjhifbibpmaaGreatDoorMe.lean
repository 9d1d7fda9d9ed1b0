/-
  What functions of the program do, told of abstract states. Conditions: as each theorem says.
-/
import Derived.Test.YtedkjhifbibpmaaGreatDoorMd
import Derived.Test.YtedkjhifbibpmaaGreatDoorMb
import Derived.Test.YtedkjhifbibpmaaGreatDoorAbD
import Derived.Shelf.SlSortCmp.WholeK
import Derived.Test.YtedkjhifbibpmaaGreatDoorProg
import Derived.Test.YtedkjhifbibpmaaGreatDoorMa
import Derived.Test.YtedkjhifbibpmaaGreatDoorMc
set_option linter.unusedVariables false
set_option linter.unusedSimpArgs false
set_option maxHeartbeats 1000000
set_option maxRecDepth 20000
namespace Go.Proofs.YtedkjhifbibpmaaGreatDoor.Pk
open Go Go.Proofs Go.Proofs.YtedkjhifbibpmaaGreatDoor.Ab
def ej (g:Int) (e:dv) (l:List ai):Prop:=(e.map (mB g)).Perm l
def kZ (g k ay v:Int):ai:=⟨k,ay,ay+g,v,false⟩
theorem ej.mem {g:Int} {e:dv} {l:List ai} (h:ej g e l) (x:ai):x ∈ l↔∃ s k ay v,(s,(k,ay),v) ∈ e∧x=kZ g k ay v:=by
 rw [←h.mem_iff,List.mem_map]
 constructor
 ·rintro ⟨⟨s,⟨k,ay⟩,v⟩,h1,rfl⟩;exact ⟨s,k,ay,v,h1,rfl⟩
 ·rintro ⟨s,k,ay,v,h1,rfl⟩;exact ⟨_,h1,rfl⟩
theorem IP {e:dv} (aG:er e) {k ay v:Int}:ch e (k,ay)=some v↔∃ s,(s,(k,ay),v) ∈ e:=by
 constructor
 ·intro h
  clear aG
  induction e with
  | nil=>cases h
  | cons a r ih=>
   unfold ch at h
   split at h
   ·rename_i hk
    obtain ⟨s,kk,bX⟩:=a
    simp only at hk h
    subst hk
    cases h
    exact ⟨s,by simp⟩
   ·obtain ⟨s,ad⟩:=ih h
    exact ⟨s,by simp [ad]⟩
 ·rintro ⟨s,ad⟩
  exact Ml aG ad
theorem ej.sI {g:Int} {e:dv} {l:List ai} (h:ej g e l) (aG:er e) (x:ai):x ∈ l↔∃ k ay v,ch e (k,ay)=some v∧x=kZ g k ay v:=by
 rw [h.mem x]
 constructor
 ·rintro ⟨s,k,ay,v,h1,ae⟩;exact ⟨k,ay,v,(IP aG).2 ⟨s,h1⟩,ae⟩
 ·rintro ⟨k,ay,v,h1,ae⟩
  obtain ⟨s,ad⟩:=(IP aG).1 h1
  exact ⟨s,k,ay,v,ad,ae⟩
theorem agc {l:List ai} (h:dP l):l.Nodup:=h.imp fun {a b} aM e=>by subst e;unfold dB at aM;omega
theorem agd {g:Int} {e:dv} (aG:er e):(e.map (mB g)).Nodup:=by
 have:((e.map (mB g)).map nP).Nodup:=by
  rw [List.map_map]
  have ar:(nP ∘ mB g)=fun x:Nat×(Int×Int)×Int=>x.2.1:=rfl
  rw [ar];exact aG
 exact List.Pairwise.of_map nP (fun a b h e=>h (by rw [e])) this
theorem ej.of {g:Int} {e:dv} {l:List ai} (aG:er e) (ad:dP l) (h:∀ x,x ∈ l↔∃ k ay v,ch e (k,ay)=some v∧x=kZ g k ay v):ej g e l:=by
 refine (List.perm_ext_iff_of_nodup (agd aG) (agc ad)).2 fun x=>?_
 rw [h x,List.mem_map]
 constructor
 ·rintro ⟨⟨s,⟨k,ay⟩,v⟩,h1,rfl⟩;exact ⟨k,ay,v,(IP aG).2 ⟨s,h1⟩,rfl⟩
 ·rintro ⟨k,ay,v,h1,rfl⟩
  obtain ⟨s,ad⟩:=(IP aG).1 h1
  exact ⟨_,ad,rfl⟩
theorem C7 {g:Int} {k ay v k2 qy v2:Int}:eU (kZ g k ay v) (kZ g k2 qy v2)=decide (k=k2∧ay=qy):=by
 rw [Bool.eq_iff_iff,jP,decide_eq_true_eq]
 simp only [kZ]
 constructor
 ·rintro ⟨h1,ae,_⟩;exact ⟨h1,ae⟩
 ·rintro ⟨rfl,rfl⟩;exact ⟨rfl,rfl,rfl⟩
theorem ej.len {g:Int} {e:dv} {l:List ai} (h:ej g e l):e.length=l.length:=by have:=h.length_eq;simpa using this
theorem ej.has {g:Int} {e:dv} {l:List ai} (h:ej g e l) (aG:er e) {x:ai} {k ay v:Int} (ak:x=kZ g k ay v):cI l x=(ch e (k,ay)).isSome:=by
 subst ak
 rw [Bool.eq_iff_iff,F0]
 constructor
 ·rintro ⟨y,bs,ad⟩
  obtain ⟨k2,qy,v2,h1,rfl⟩:=(h.sI aG y).1 bs
  rw [C7,decide_eq_true_eq] at ad
  obtain ⟨rfl,rfl⟩:=ad
  rw [h1];rfl
 ·intro ad
  obtain ⟨v2,aN⟩:=Option.isSome_iff_exists.1 ad
  exact ⟨kZ g k ay v2,(h.sI aG _).2 ⟨k,ay,v2,aN,rfl⟩,by rw [C7];simp⟩
theorem age {l:List ai} (ad:dP l) {x y:ai} (bs:y ∈ l) (h:eU y x=true):l.filter (fun z=>eU z x)=[y]:=by
 induction l with
 | nil=>cases bs
 | cons a r ih=>
  have aW:=List.pairwise_cons.1 ad
  rcases List.mem_cons.1 bs with rfl | bs
  ·rw [List.filter_cons_of_pos (p:=fun z=>eU z x) h]
   congr 1
   rw [List.filter_eq_nil_iff]
   intro z b4 F2
   have aM:=aW.1 z b4
   rw [jP] at h F2
   unfold dB at aM
   omega
  ·rw [List.filter_cons_of_neg (p:=fun z=>eU z x)]
   ·exact ih aW.2 bs
   ·intro a6
    have aM:=aW.1 y bs
    rw [jP] at h a6
    unfold dB at aM
    omega
theorem Vx {l:List ai} (ad:dP l) {x y:ai} (bs:y ∈ l) (h:eU y x=true):valOf l x=y.val:=by
 unfold valOf;rw [age ad bs h];rfl
theorem Vy {l:List ai} {x:ai} (h:cI l x=false):valOf l x=0:=by
 unfold valOf
 have:l.filter (fun z=>eU z x)=[]:=by
  rw [List.filter_eq_nil_iff]
  intro z b4 F2
  have:=F0.2 ⟨z,b4,F2⟩
  rw [this] at h;cases h
 rw [this];rfl
theorem ej.val {g:Int} {e:dv} {l:List ai} (h:ej g e l) (aG:er e) (ad:dP l) {k ay v:Int}:valOf l (kZ g k ay v)=(ch e (k,ay)).getD 0:=by
 cases hk:ch e (k,ay) with
 | none=>rw [Vy (by rw [h.has aG rfl,hk];rfl)];rfl
 | some u=>rw [Vx ad ((h.sI aG (kZ g k ay u)).2 ⟨k,ay,u,hk,rfl⟩) (by rw [C7];simp)];rfl
theorem ej.set {g:Int} {e:dv} {l:List ai} (h:ej g e l) (aG:er e) (ad:dP l) (cl:Nat) (k ay v:Int):ej g (cT cl e (k,ay) v) (oj l (kZ g k ay v)):=by
 refine ej.of (aG.set _ _ _) ((DX ad _).tD (IF _ _)) fun x=>?_
 unfold oj
 rw [BS,DW]
 constructor
 ·rintro (rfl | ⟨h1,ae⟩)
  ·exact ⟨k,ay,v,by rw [CB,if_pos rfl],rfl⟩
  ·obtain ⟨k2,qy,v2,aA,rfl⟩:=(h.sI aG x).1 h1
   rw [C7,decide_eq_false_iff_not] at ae
   exact ⟨k2,qy,v2,by rw [CB,if_neg (fun q=>ae (by cases q;exact ⟨rfl,rfl⟩))];exact aA,rfl⟩
 ·rintro ⟨k2,qy,v2,aA,rfl⟩
  rw [CB] at aA
  by_cases hk:(k2,qy)=(k,ay)
  ·rw [if_pos hk] at aA
   cases hk
   cases aA
   exact .inl rfl
  ·rw [if_neg hk] at aA
   refine .inr ⟨(h.sI aG _).2 ⟨k2,qy,v2,aA,rfl⟩,?_⟩
   rw [C7,decide_eq_false_iff_not]
   rintro ⟨rfl,rfl⟩
   exact hk rfl
theorem atk {l:List ai} {x y:ai} (h:eU x y=true):eu l x=eu l y:=by
 unfold eu
 refine List.filter_congr fun z _=>?_
 rw [jP] at h
 have:eU z x=eU z y:=by rw [Bool.eq_iff_iff,jP,jP,h.1,h.2.1,h.2.2]
 rw [this]
theorem ej.del {g:Int} {e:dv} {l:List ai} (h:ej g e l) (aG:er e) (ad:dP l) {k ay:Int} {c:ai} (aF:eU c (kZ g k ay 0)=true):ej g (hR e (k,ay)) (eu l c):=by
 rw [atk aF]
 refine ej.of (aG.del _) (DX ad _) fun x=>?_
 rw [DW]
 constructor
 ·rintro ⟨h1,ae⟩
  obtain ⟨k2,qy,v2,aA,rfl⟩:=(h.sI aG x).1 h1
  rw [C7,decide_eq_false_iff_not] at ae
  exact ⟨k2,qy,v2,by rw [abK aG,if_neg (fun q=>ae (by cases q;exact ⟨rfl,rfl⟩))];exact aA,rfl⟩
 ·rintro ⟨k2,qy,v2,aA,rfl⟩
  rw [abK aG] at aA
  split at aA
  ·cases aA
  ·rename_i hk
   refine ⟨(h.sI aG _).2 ⟨k2,qy,v2,aA,rfl⟩,?_⟩
   rw [C7,decide_eq_false_iff_not]
   rintro ⟨rfl,rfl⟩
   exact hk rfl
theorem ej.filter {g b:Int} {e:dv} {l:List ai} (h:ej g e l):ej g (e.filter fun x=>!kt g b x) (l.filter fun x=>!decide (x.to≤b)):=by
 unfold ej
 have:=List.Perm.filter (fun x:ai=>!decide (x.to≤b)) (show (e.map (mB g)).Perm l from h)
 rw [List.filter_map] at this
 exact this
theorem ej.gone {g b:Int} {e:dv} {l lc:List ai} (h:ej g e l) (aW:lc.Perm ((e.filter (kt g b)).map (vU g))):lc.Perm ((l.filter fun x=>decide (x.to≤b)).map gd):=by
 refine aW.trans ?_
 have:=(List.Perm.filter (fun x:ai=>decide (x.to≤b)) (show (e.map (mB g)).Perm l from h)).map gd
 rw [List.filter_map,List.map_map] at this
 exact this
theorem Zu {g:Int} {l:List ai} (w:cz (.cE g) l):(l.map nP).Nodup:=by
 refine List.pairwise_map.2 (w.ha.imp_of_mem fun {a b} a6 av aM nj=>?_)
 have h1:=w.ok a a6
 have ae:=w.ok b av
 simp only [dW,BZ,Bool.or_eq_false_iff,Bool.not_eq_false',Bool.and_eq_true,decide_eq_true_eq] at h1 ae
 have ar:a.key=b.key:=congrArg Prod.fst nj
 have aT:a.ay=b.ay:=congrArg Prod.snd nj
 unfold dB at aM
 omega
theorem ej.list {g:Int} {e:dv} {l lc:List ai} (w:cz (.cE g) l) (h:ej g e l) (aW:lc.Perm (e.map (mB g))) (ad:wK lc):lc=B0 l:=Zt (aW.trans h) ad (Zu w)
theorem ej.exp {g b:Int} {e:dv} {l lc:List ai} (w:cz (.cE g) l) (h:ej g e l) (aW:lc.Perm ((e.filter (kt g b)).map (vU g))) (ad:wK lc):lc=B0 ((l.filter fun x=>decide (x.to≤b)).map gd):=by
 refine Zt (h.gone aW) ad ?_
 rw [List.map_map]
 have ar:(nP ∘ gd)=nP:=rfl
 rw [ar]
 exact (Zu w).sublist (List.filter_sublist.map _)
def mN (p:cF):ai:=⟨p.1,0,0,p.2,false⟩
theorem Vz {l:List cF} (ad:gr l) {k v:Int}:(k,v) ∈ l↔look l k=some v:=⟨fun h=>IB ad h,IC⟩
theorem yV {l:List cF} (ad:gr l) {x:ai}:x ∈ l.map mN↔∃ k v,look l k=some v∧x=⟨k,0,0,v,false⟩:=by
 rw [List.mem_map]
 constructor
 ·rintro ⟨⟨k,v⟩,h1,rfl⟩;exact ⟨k,v,(Vz ad).1 h1,rfl⟩
 ·rintro ⟨k,v,h1,rfl⟩;exact ⟨_,(Vz ad).2 h1,rfl⟩
theorem C8 {l:List cF} (ad:gr l):dP (l.map mN):=by
 refine List.pairwise_map.2 (ad.imp fun {a b} h=>?_)
 exact .inl h
theorem AF {k k2 v v2:Int} {d d2:Bool}:eU ⟨k,0,0,v,d⟩ ⟨k2,0,0,v2,d2⟩=decide (k=k2):=by
 rw [Bool.eq_iff_iff,jP,decide_eq_true_eq]
 simp
theorem F3 {l:List cF} (ad:gr l) {k v:Int} {d:Bool}:cI (l.map mN) ⟨k,0,0,v,d⟩=has l k:=by
 rw [Bool.eq_iff_iff,F0]
 unfold has
 constructor
 ·rintro ⟨y,bs,h⟩
  obtain ⟨k2,v2,h1,rfl⟩:=(yV ad).1 bs
  rw [AF,decide_eq_true_eq] at h
  subst h
  rw [h1];rfl
 ·intro h
  obtain ⟨v2,aN⟩:=Option.isSome_iff_exists.1 h
  exact ⟨_,(yV ad).2 ⟨k,v2,aN,rfl⟩,by rw [AF];simp⟩
theorem VA {l:List cF} (ad:gr l) {k v:Int} {d:Bool}:valOf (l.map mN) ⟨k,0,0,v,d⟩=(look l k).getD 0:=by
 cases hk:look l k with
 | none=>rw [Vy (by rw [F3 ad,has,hk];rfl)];rfl
 | some u=>rw [Vx (C8 ad) ((yV ad).2 ⟨k,u,hk,rfl⟩) (by rw [AF];simp)];rfl
theorem VB {l:List cF} (ad:gr l) (k v:Int):(put l k v).map mN=oj (l.map mN) ⟨k,0,0,v,false⟩:=by
 refine dP.n0 (C8 (Fu ad k v)) ((DX (C8 ad) _).tD (IF _ _)) fun x=>?_
 unfold oj
 rw [yV (Fu ad k v),BS,DW,yV ad]
 constructor
 ·rintro ⟨k2,v2,h1,rfl⟩
  rw [Iz l k v k2 ad] at h1
  split at h1
  ·rename_i e;subst e;cases h1;exact .inl rfl
  ·rename_i e;exact .inr ⟨⟨k2,v2,h1,rfl⟩,by rw [AF,decide_eq_false_iff_not];exact e⟩
 ·rintro (rfl | ⟨⟨k2,v2,h1,rfl⟩,ae⟩)
  ·exact ⟨k,v,by rw [Iz l k v k ad,if_pos rfl],rfl⟩
  ·rw [AF,decide_eq_false_iff_not] at ae
   exact ⟨k2,v2,by rw [Iz l k v k2 ad,if_neg ae];exact h1,rfl⟩
theorem agf {l:List cF} (ad:gr l) (k v:Int) (d:Bool):(rm l k).map mN=eu (l.map mN) ⟨k,0,0,v,d⟩:=by
 refine dP.n0 (C8 (Fv ad k)) (DX (C8 ad) _) fun x=>?_
 rw [yV (Fv ad k),DW,yV ad]
 constructor
 ·rintro ⟨k2,v2,h1,rfl⟩
  rw [IA l k k2 ad] at h1
  split at h1
  ·cases h1
  ·rename_i e;exact ⟨⟨k2,v2,h1,rfl⟩,by rw [AF,decide_eq_false_iff_not];exact e⟩
 ·rintro ⟨⟨k2,v2,h1,rfl⟩,ae⟩
  rw [AF,decide_eq_false_iff_not] at ae
  exact ⟨k2,v2,by rw [IA l k k2 ad,if_neg ae];exact h1,rfl⟩
open Go Go.Proofs Go.Proofs.YtedkjhifbibpmaaGreatDoor.Ab Go.Sort
theorem then_eq {K:jo} {x:Option V} {v:V} {d:Option Tmp} {f:aE} {h:J} (e:x=some v) (g:@pZ (some v) d K f h):@pZ x d K f h:=e ▸ g
theorem agh (h:J) (n:Int) (aG:n=0∨n=1):Pure Tryz.prog 226 [.int .u64 n] h (.int .i64 n):=by
 refine Pure.val (bh.int _ _) ?_
 refine ab.ao (c:=_) Tryz.func226 rfl (by kernel_rfl) (by simp) ?_
 have Kg:IntKind.u8.wrap 0=0:=by decide
 have Kh:IntKind.u8.wrap 1=1:=by decide
 have c9:IntKind.i64.wrap 1=1:=by decide
 have bg:IntKind.i64.wrap 0=0:=by decide
 have b0:IntKind.i64.wrap (0+0)=0:=by decide
 have la:IntKind.i64.wrap (0+1)=1:=by decide
 rcases aG with rfl | rfl
 ·simp only [aa,Int.reduceLE,Nat.reduceEqDiff,reduceCtorEq,ln,hD,Kg]
  refine then_eq (v:=.int .u8 0) (by kernel_rfl) ?_
  simp only [aa,Nat.reduceEqDiff,fb,hD,bg,b0,aI,Tryz.results226,ac]
  exact au ⟨rfl,I.refl _ _⟩
 ·simp only [aa,Int.reduceLE,Nat.reduceEqDiff,reduceCtorEq,ln,hD,Kh]
  refine then_eq (v:=.int .u8 1) (by kernel_rfl) ?_
  simp only [aa,Nat.reduceEqDiff,fb,hD,c9,la,aI,Tryz.results226,ac]
  exact au ⟨rfl,I.refl _ _⟩
theorem NZ (h:J) (n:Int) (aG:n=0∨n=1):Pure Tryz.prog 190 [.int .u64 n] h (.int .i64 n):=by
 refine Pure.val (bh.int _ _) ?_
 refine ab.ao (c:=_) Tryz.func190 rfl (by kernel_rfl) (by simp) ?_
 have hw:IntKind.u64.wrap n=n:=by rcases aG with rfl | rfl<;>decide
 simp only [aa,Nat.reduceEqDiff,reduceCtorEq]
 refine bB ac8 (agh h n aG) ?_
 simp only [aa,Nat.reduceEqDiff,aI,Tryz.results190,ac]
 exact au ⟨rfl,I.refl _ _⟩
open Go.Shelf
def agi:Go.Shelf.Ren:=⟨fun | 6=>163 | 15=>190 | 14=>201 | 28=>225 | 29=>226 | 20=>243 | 21=>244 | 22=>245 | 23=>246 | 24=>247 | 25=>248 | 26=>249 | 27=>250 | 46=>269 | 47=>259 | 48=>260 | 49=>270 | 50=>271 | 57=>278 | n=>n,fun | 22=>35 | 24=>40 | 25=>289 | 3=>3 | 39=>312 | 0=>0 | 53=>353 | 55=>221 | 4=>4 | 46=>346 | 45=>345 | 50=>265 | 5=>5 | 9=>9 | 66=>375 | 70=>379 | 76=>388 | 77=>172 | n=>n,fun | n=>n⟩
theorem VC:Go.Proofs.SlLaysF0.n6 Tryz.prog agi:={
 mixed:=by kernel_rfl
 f6:=⟨Tryz.f163.name,by decide,Tryz.func163.trans (congrArg some (by kernel_rfl))⟩
 f14:=⟨Tryz.f201.name,by decide,Tryz.func201.trans (congrArg some (by kernel_rfl))⟩
 f15:=Tryz.func190.trans (congrArg some (by kernel_rfl))
 f20:=⟨Tryz.f243.name,by decide,Tryz.func243.trans (congrArg some (by kernel_rfl))⟩
 f21:=⟨Tryz.f244.name,by decide,Tryz.func244.trans (congrArg some (by kernel_rfl))⟩
 f22:=⟨Tryz.f245.name,by decide,Tryz.func245.trans (congrArg some (by kernel_rfl))⟩
 f23:=⟨Tryz.f246.name,by decide,Tryz.func246.trans (congrArg some (by kernel_rfl))⟩
 f24:=⟨Tryz.f247.name,by decide,Tryz.func247.trans (congrArg some (by kernel_rfl))⟩
 f25:=⟨Tryz.f248.name,by decide,Tryz.func248.trans (congrArg some (by kernel_rfl))⟩
 f26:=⟨Tryz.f249.name,by decide,Tryz.func249.trans (congrArg some (by kernel_rfl))⟩
 f27:=⟨Tryz.f250.name,by decide,Tryz.func250.trans (congrArg some (by kernel_rfl))⟩
 f28:=Tryz.func225.trans (congrArg some (by kernel_rfl))
 f29:=Tryz.func226.trans (congrArg some (by kernel_rfl))
 f46:=⟨Tryz.f269.name,by decide,Tryz.func269.trans (congrArg some (by kernel_rfl))⟩
 f47:=Tryz.func259.trans (congrArg some (by kernel_rfl))
 f48:=Tryz.func260.trans (congrArg some (by kernel_rfl))
 f49:=⟨Tryz.f270.name,by decide,Tryz.func270.trans (congrArg some (by kernel_rfl))⟩
 f50:=⟨Tryz.f271.name,by decide,Tryz.func271.trans (congrArg some (by kernel_rfl))⟩
 f57:=⟨Tryz.f278.name,by decide,Tryz.func278.trans (congrArg some (by kernel_rfl))⟩
 t0:=Tryz.underlying0
 a0:=Tryz.isAgg0
 z0:=Tryz.sizeOf0
 v0:=Tryz.zeroValue0
 t3:=Tryz.underlying3
 a3:=Tryz.isAgg3
 z3:=Tryz.sizeOf3
 v3:=Tryz.zeroValue3
 t4:=Tryz.underlying4
 a4:=Tryz.isAgg4
 z4:=Tryz.sizeOf4
 v4:=Tryz.zeroValue4
 t5:=Tryz.underlying5
 a5:=Tryz.isAgg5
 z5:=Tryz.sizeOf5
 v5:=Tryz.zeroValue5
 t9:=Tryz.underlying9
 a9:=Tryz.isAgg9
 z9:=Tryz.sizeOf9
 v9:=Tryz.zeroValue9
 t22:=Tryz.underlying35
 a22:=Tryz.isAgg35
 z22:=Tryz.sizeOf35
 v22:=Tryz.zeroValue35
 t25:=Tryz.underlying289
 a25:=Tryz.isAgg289
 z25:=Tryz.sizeOf289
 v25:=Tryz.zeroValue289
 t39:=Tryz.underlying312
 a39:=Tryz.isAgg312
 z39:=Tryz.sizeOf312
 v39:=Tryz.zeroValue312
 t45:=Tryz.underlying345
 a45:=Tryz.isAgg345
 z45:=Tryz.sizeOf345
 v45:=Tryz.zeroValue345
 t46:=Tryz.underlying346
 a46:=Tryz.isAgg346
 z46:=Tryz.sizeOf346
 v46:=Tryz.zeroValue346
 t50:=Tryz.underlying265
 a50:=Tryz.isAgg265
 z50:=Tryz.sizeOf265
 v50:=Tryz.zeroValue265
 t53:=Tryz.underlying353
 a53:=Tryz.isAgg353
 z53:=Tryz.sizeOf353
 v53:=Tryz.zeroValue353
 t55:=Tryz.underlying221
 a55:=Tryz.isAgg221
 z55:=Tryz.sizeOf221
 v55:=Tryz.zeroValue221
 t66:=Tryz.underlying375
 a66:=Tryz.isAgg375
 z66:=Tryz.sizeOf375
 v66:=Tryz.zeroValue375
 t70:=Tryz.underlying379
 a70:=Tryz.isAgg379
 z70:=Tryz.sizeOf379
 v70:=Tryz.zeroValue379
 t76:=Tryz.underlying388
 a76:=Tryz.isAgg388
 z76:=Tryz.sizeOf388
 v76:=Tryz.zeroValue388
 t77:=Tryz.underlying172
 a77:=Tryz.isAgg172
 z77:=Tryz.sizeOf172
 v77:=Tryz.zeroValue172 }
theorem agj (h:J) (x c:V) (n lim:Int) (aG:n≤1) (h0:0≤n):Pure Tryz.prog 243 [x,.int .i64 0,.int .i64 n,c] h (.tuple []):=by
 refine Pure.val (bh.tuple bl.nil) ?_
 refine ab.ao (c:=_) Tryz.func243 rfl (by kernel_rfl) (by simp) ?_
 have b4:IntKind.i64.wrap (0+1)=1:=by decide
 simp only [aa,Nat.reduceEqDiff,b4]
 refine aP.bG (α:=Unit) (fun _ f h'=>f 8=.int .i64 1∧f 2=.int .i64 n∧h'=h) (fun _=>0) () ⟨rfl,rfl,rfl⟩ ?_
 rintro _ f h' ⟨f8,f2,rfl⟩
 refine dw (by kernel_rfl) ?_
 have d1:decide (1<n)=false:=decide_eq_false (by omega)
 simp only [aa,Nat.reduceEqDiff,f8,f2,d1,mG,Tryz.results243,kd]
 exact au ⟨rfl,I.refl _ _⟩
theorem agk (h:J) (x c:V) (n l:Int) (aG:n≤1) (h0:0≤n):Pure Tryz.prog 201 [x,.int .i64 0,.int .i64 n,.int .i64 l,c] h (.tuple []):=by
 refine Pure.val (bh.tuple bl.nil) ?_
 refine ab.ao (c:=_) Tryz.func201 rfl (by kernel_rfl) (by simp) ?_
 simp only [aa]
 refine aP.bG (α:=Unit) (fun _ f h'=>f 0=x∧f 1=.int .i64 0∧f 2=.int .i64 n∧f 4=c∧h'=h) (fun _=>0) () ⟨rfl,rfl,rfl,rfl,rfl⟩ ?_
 rintro _ f h' ⟨f0,f1,f2,f4,rfl⟩
 refine dw (by kernel_rfl) ?_
 have hw:IntKind.i64.wrap (n - 0)=n:=by rw [Go.IntWalk.i64_in _ (by omega)];omega
 have d1:decide (n≤12)=true:=decide_eq_true (by omega)
 simp only [aa,Nat.reduceEqDiff,reduceCtorEq,f0,f1,f2,f4,hw,d1]
 refine bB ac9 (agj _ x c n 0 aG h0) ?_
 simp only [aa,aI,Tryz.results201,kd]
 exact au ⟨rfl,I.refl _ _⟩
theorem agl (h:J) (x c:V) (n:Int) (aG:n=0∨n=1) (aM:fU Tryz.prog 35 x h=some (.int .i64 n)):Pure Tryz.prog 163 [x,c] h (.tuple []):=by
 refine Pure.val (bh.tuple bl.nil) ?_
 refine ab.ao (c:=_) Tryz.func163 rfl (by kernel_rfl) (by simp) ?_
 have hw:IntKind.u64.wrap n=n:=by rcases aG with rfl | rfl<;>decide
 simp only [aa,Nat.reduceEqDiff,reduceCtorEq,fb,EP,aM,hw]
 refine bB acW (NZ h n aG) ?_
 simp only [aa,Nat.reduceEqDiff]
 refine bB ac0 (agk h x c n n (by omega) (by omega)) ?_
 simp only [aa,mG,Tryz.results163,kd]
 exact au ⟨rfl,I.refl _ _⟩
theorem agm {g:FuncId} {cf:ai→ai→Int} (mW:SWO (ltOf cf)) (zN:∀ a b,ab Tryz.prog g [.agg (aw a),.agg (aw b)] Eg fun r _=>r=.int .i64 (cf a b))
  (agn:∀ args w,(callFunc g args).run Tryz.prog w=.ok (.enter g args) w) (h:J) (x:V) (l:List ai) (bc:Own h 40 5 x (l.flatMap aw)) (aM:l.length≤2 ^ 40) :
  ab Tryz.prog 163 [x,.func (.func g) [] []] h fun r h'=>r=.tuple []∧I h h' (bn x)∧∃ ck:List ai,ck.Perm l∧(ck.Pairwise fun a b=>ltOf cf b a=false)∧Own h' 40 5 x (ck.flatMap aw):=by
 refine aj4 (by decide) ix (fun x=>rfl) wI mW zN
  (fun n enc hk h1 cf mW km cap d w aF hH av ad=>AnyQ.slices_SortFunc VC 5 Tryz.isAgg40 Tryz.sizeOf40 enc hk h1 cf mW g #[] km 0 cap d w agn aF hH av ad) (fun aG=>?_) bc (by omega)
 subst aG
 have hlen:fU Tryz.prog 35 x h=some (.int .i64 0):=by
  rcases bc with ⟨rfl | rfl,_⟩ | ⟨i,len,cap,c,ex,rfl,_,_,aM,_⟩
  ·exact Bf pv
  ·exact DE pv
  ·have:len=0:=by simp at aM;omega
   subst this
   exact DD pv
 exact agl h x _ 0 (.inl rfl) hlen
theorem ago (h:J) (a b:ai):ab Tryz.prog 164 [.agg (aw a),.agg (aw b)] h (fun r h'=>r=.int .i64 (j6 [gN a.ay b.ay,gN a.key b.key])∧I h h' none_):=by
 refine ab.ao (c:=_) Tryz.func164 rfl (by kernel_rfl) (by simp) ?_
 have cc:∀ c:ai,(V.agg (aw c)).cells=some (aw c):=fun _=>rfl
 have cl:∀ c:ai,(aw c).length=5:=ix
 have VD:∀ c:ai,List.drop 1 (aw c)=[.int .i64 c.ay,.int .i64 c.to,.int .i64 c.val,.bool c.del]:=fun _=>rfl
 have VE:∀ c:ai,cX (some none) (some (aw c))=some (.int .i64 c.key):=fun _=>rfl
 simp only [aa,Nat.reduceEqDiff,cc]
 refine aP.aY none_ [10,11] (.q 0 (.q 1 (.q 2 (.q 3 (.c 4 (.q 5 (.q 6 (.q 7 (.q 8 (.c 9 (.e 10 (.a 11 (.q 12 .done)) .stop))))))))))) (by kernel_rfl) (by kernel_rfl) (by kernel_rfl) ?_
 simp only [aa,bD,Nat.reduceEqDiff,Nat.reduceLeDiff,mw,br,cl,VD]
 refine gE rfl rfl rfl (fun h' _=>FI h' a.ay b.ay) ?_
 simp only [aa,bD,Nat.reduceEqDiff,CR,br,cl,VE]
 refine gE rfl rfl rfl (fun h' _=>FI h' a.key b.key) ?_
 generalize gN a.ay b.ay=x
 generalize gN a.key b.key=y
 have N0:∀ H:J,lk Tryz.prog 24 2 [(0,.int .i64 x),(1,.int .i64 y)] H=some (.bp H.n 0 2 2,H.push (.cells (aO [x,y]) 3 none)):=fun H=>by rw [p0 tc];rfl
 simp only [aa,bD,Nat.reduceEqDiff,N0]
 obtain ⟨ae,bH,k2⟩:=aK.lit (h:=(h.push (.cells (aw a) 40 none)).push (.cells (aw b) 40 none)) (c:=aO [x,y]) (e:=3) (n:=2) (sz:=1) rfl (by decide) (by decide)
 refine bU SV (ab.args (az.cons bH (az.refl _ _)) (US ae [x,y] (by simp only [List.length_cons,List.length_nil];omega))) fun r aA ⟨cg,h8⟩=>?_
 subst cg
 simp only [aa,bD,Nat.reduceEqDiff,aI,Tryz.results164,ac]
 refine au ⟨rfl,?_⟩
 rw [h8]
 exact ((I.push _ _ _).a8 _).trans' k2
def B1 (a b:ai):Int:=j6 [gN a.ay b.ay,gN a.key b.key]
theorem agp (a b:ai):decide (B1 a b<0)=oi a b:=by
 unfold B1 j6 j6 j6 gN oi
 rw [Bool.eq_iff_iff]
 simp only [decide_eq_true_eq]
 by_cases h1:a.ay<b.ay
 ·simp [h1]
 ·by_cases ae:b.ay<a.ay
  ·have:¬a.ay=b.ay:=by omega
   simp [h1,ae,this]
  ·have e:a.ay=b.ay:=by omega
   by_cases aA:a.key<b.key
   ·simp [e,aA]
   ·by_cases bk:b.key<a.key
    ·simp [e,aA,bk]
    ·simp [e,aA,bk]
theorem agq (a:ai):oi a a=false:=by unfold oi;exact decide_eq_false (by omega)
theorem agr (a b c:ai) (h1:oi a b=true) (ae:oi b c=true):oi a c=true:=by
 unfold oi at *
 simp only [decide_eq_true_eq] at *
 omega
theorem ags (a b c:ai) (h1:oi a b=false) (ae:oi b c=false):oi a c=false:=by
 unfold oi at *
 simp only [decide_eq_false_iff_not] at *
 omega
theorem B2 (a b:ai):ltOf B1 a b=oi a b:=agp a b
theorem Zv:NQ FT:=fun h x l bc aM=>by
 refine (agm (cf:=B1) ⟨fun a=>by rw [B2];exact agq a,fun a b c h1 ae=>by rw [B2] at *;exact agr a b c h1 ae,fun a b c h1 ae=>by rw [B2] at *;exact ags a b c h1 ae⟩
  (fun a b=>(ago Eg a b).mono fun r h' U=>U.1) (enters_of Tryz.func164 (by kernel_rfl) rfl) h x l bc aM).mono fun r h' ⟨h1,ae,ck,aW,ad,bc⟩=>⟨h1,ae,ck,aW,ad.imp fun {a b} l2=>by rwa [B2] at l2,bc⟩
theorem N1 {t:Int}:j4 t=true↔0≤t∧t≤1099511627776:=by simp [j4]
def je:df→TypeId
 | .kv=>194
 | .cE _=>197
 | .dr _=>200
inductive fS (h:J) (i:Nat):List Nat→df→List ai→Prop
 | kv {v:V} {l:List cF} (k:dD h i v 1024 l):fS h i (i::(aR v).toList) .kv (l.map mN)
 | cE {m cl:Nat} {g:Int} {e:dv} {l:List ai} (k:Vj h i m g e cl) (r:ej g e l) (w:cz (.cE g) l):fS h i [i,m] (.cE g) l
 | dr {v:V} {g:Int} {l:List ai} (k:cr h i v 1024 g l):fS h i (i::(aR v).toList) (.dr g) l
theorem mem_io {i:Nat} {v:V} {q:Nat}:q ∈ i::(aR v).toList↔q=i∨aR v=some q:=by
 cases h:aR v<;>simp [eq_comm]
def c4 (h:J) (O dG:List Nat):Prop:=∀ x ∈ dG,x ∈ O∨h.n≤x
theorem c4.refl (h:J) (O:List Nat):c4 h O O:=fun _ ak=>.inl ak
theorem c4.of {h:J} {i:Nat} {v v':V} (d:bQ h v v'):c4 h (i::(aR v).toList) (i::(aR v').toList):=fun x ak=>by
 rcases mem_io.1 ak with rfl | ak
 ·exact .inl (by simp)
 ·rcases d with d | d
  ·exact .inl (mem_io.2 (.inr (by rw [←d];exact ak)))
  ·exact .inr (d x ak)
section
variable {h h':J} {i:Nat} {O:List Nat} {K:df} {l:List ai}
theorem fS.lt (k:fS h i O K l):∀ q ∈ O,q<h.n:=by
 cases k with
 | kv k=>intro q af;rcases mem_io.1 af with rfl | af;exact k.lt;exact k.own.lt q af
 | cE k r w=>intro q af;simp at af;rcases af with rfl | rfl;exact k.k.lt;exact k.k.mA
 | dr k=>intro q af;rcases mem_io.1 af with rfl | af;exact k.lt;exact k.own.lt q af
theorem fS.aj {M:Nat→Prop} (k:fS h i O K l) (hk:I h h' M) (hm:∀ q ∈ O,¬M q):fS h' i O K l:=by
 cases k with
 | kv k=>exact .kv (k.aj hk (hm _ (by simp)) fun j aX=>hm j (mem_io.2 (.inr aX)))
 | cE k r w=>exact .cE ⟨k.k.aj hk (hm _ (by simp)) (hm _ (by simp)),k.st,k.sH,k.ay⟩ r w
 | dr k=>exact .dr (k.aj hk (hm _ (by simp)) fun j aX=>hm j (mem_io.2 (.inr aX)))
theorem fS.aQ (k:fS h i O K l) (hk:I h h' none_):fS h' i O K l:=k.aj hk fun _ _=>by simp [none_]
theorem fS.wf (k:fS h i O K l):cz K l:=by
 cases k with
 | kv k=>
  refine ⟨C8 k.gu,by rw [List.length_map];have:=k.len;omega,fun x ak=>?_,trivial⟩
  obtain ⟨a,b,_,rfl⟩:=(yV k.gu).1 ak
  exact ⟨rfl,by simp [dW,j7]⟩
 | cE k r w=>exact w
 | dr k=>exact ⟨k.ha,k.len,fun x ak=>⟨(k.ok x ak).del,Vt (k.ok x ak)⟩,k.g1,by have:=k.g2;omega⟩
theorem VF {t:Int}:ho t=j4 t:=by simp [ho,j4]
theorem agt (k:fS h i O K l) (r:Rec) (bw:j4 r.t=true):Pure Tryz.prog 60 [.iface (je K) (.ptr i 0),.agg (aD r)] h (.int .i64 (C6 K l r.k r.t)):=by
 have hO:=N1.1 bw
 cases k with
 | kv k=>
  have:=ae1 k r
  rw [←VA (v:=0) (d:=false) k.gu] at this
  exact this
 | cE k hU w=>
  have:=afH k.k r hO.1 hO.2
  rw [←hU.val (v:=0) k.sH w.ha] at this
  exact this
 | dr k=>
  have:=afL k r
  rw [show sF _ _ _ _=found _ _ _ _ from by rw [sF,if_pos (by rw [VF];exact bw)]] at this
  exact this
def eP (cs:List ai):V:=.ag cs.length (cs.flatMap aw)
theorem al8 (cs:List ai):bh (eP cs):=bh.ag (Et wI _)
theorem VG {h':J} {j:Nat} {c:ai} (o:Own h' 40 5 (.bp j 0 1 1) (aw c)) (t kG:Int):∃ ae,aK (.tuple [.bp j 0 1 1,.int .i64 t,.int .i64 kG]) h' (.tuple [eP [c],.int .i64 t,.int .i64 kG]) ae∧I h' ae (fun q=>q=j):=by
 obtain ⟨ae,bd,bo⟩:=aK.own o (n:=1) rfl (by decide)
 refine ⟨ae,aK.tuple (az.cons ?_ (az.refl _ _)),bo.mono fun q af=>by simpa [bn,aR,eq_comm] using af⟩
 have:eP [c]=.ag 1 (aw c):=by simp [eP]
 rw [this];exact bd
theorem agu {m cl:Nat} {room size:Int} {e:dv} (k:cy h i m room size (fD e) cl) (r:Rec) (n:Int) (h0:0≤r.t) (h1:r.t≤1099511627776) (aU:(ch e (r.k,c7 size r.t)).isSome=false) (aM:room≤(e.length:Int)) :
  ab Tryz.prog 61 [.iface 197 (.ptr i 0),.agg (aD r),.int .i64 n] h (fun q h'=>∃ c t,q=.tuple [c,.int .i64 t,.int .i64 3]∧I h h' none_):=by
 obtain ⟨bJ,b5,rt⟩:=r
 refine ab.ao (c:=_) Tryz.func61 rfl (by kernel_rfl) (by simp) ?_
 unfold aD
 obtain ⟨H,hH⟩:∃ y,y=h.push (.cells [.int .i64 bJ,.int .i64 b5,.int .i64 rt] 38 none):=⟨_,rfl⟩
 have dC:I h H none_:=by rw [hH];exact I.push _ _ _
 have p2:H.n=h.n+1:=by rw [hH];rfl
 simp only [aa,Nat.reduceEqDiff,Nat.reduceAdd,Nat.reduceLeDiff,reduceCtorEq,tA,qQ,br,NJ,NK]
 rw [←hH]
 clear hH
 refine bU MB (afc H i m cl room size bJ rt n e (k.aQ dC) aU aM h0 h1) fun q qk ⟨ar,gA⟩=>?_
 subst ar
 obtain ⟨C,oW⟩:∃ y,y=(⟨0,0,0,0,false⟩:ai):=⟨_,rfl⟩
 rw [←oW]
 have cc:∀ c:ai,(V.agg (aw c)).cells=some (aw c):=fun _=>rfl
 have st:∀ c:ai,bM (some 5) (aV.cells [V.int .i64 0,V.int .i64 0,V.int .i64 0,V.int .i64 0,V.bool false] 40 none) 0 (aw c)=some (.cells (aw c) 40 none):=fun _=>rfl
 obtain ⟨bI,bA⟩:∃ y,y=qk.push (.cells (aw C) 40 none):=⟨_,rfl⟩
 have k2:I qk bI none_:=by rw [bA];exact I.push _ _ _
 have g2:bI.get qk.n=.cells (aw C) 40 none:=by rw [bA];exact b6
 have ef:bI.n=qk.n+1:=by rw [bA];rfl
 simp only [aa,Nat.reduceEqDiff,ks,mz,cc,st]
 rw [←bA]
 clear bA
 have ff:=DQ bI C
 have ld:cX (some (some 5)) (some (aw C))=some (.agg (aw C)):=rfl
 have d0:da (.cells (aw C) 40 none) 0=some (aw C):=rfl
 have d1:da (.cells (aw C) 40 none) 1=some [.int .i64 C.ay,.int .i64 C.to,.int .i64 C.val,.bool C.del]:=rfl
 generalize bC:aw C=E at *
 refine aP.aY none_ [1] (.q 0 (.q 2 (.q 3 (.q 4 (.e 1 (.q 5 (.q 6 (.q 7 .done))) .stop))))) (by kernel_rfl) (by kernel_rfl) (by kernel_rfl) ?_
 simp only [aa,bD,Nat.reduceEqDiff,mw,br,j0,g2,ff,ld,d0,d1,aI,Tryz.results61,r6]
 have k3:I bI (bI.push (.cells E 40 none)) none_:=I.push _ _ _
 exact au ⟨_,_,rfl,(dC.trans' gA).trans' (k2.trans' k3)⟩
theorem agv (h:J) (i:Nat) (v:V) (room g key time val:Int) (l:List ai) (l7:ho time=true) (aC:found g l key time=[]) (aU:room≤(l.length:Int)) (k:cr h i v room g l) :
  ab Tryz.prog 121 [.ptr i 0,.int .i64 key,.int .i64 time,.int .i64 val] h (fun r h'=>r=.tuple [.ag 0 [],.int .i64 3]∧h'=h):=by
 refine ab.cast ?_
 refine ab.ao (c:=_) Tryz.func121 rfl (by kernel_rfl) (by simp) ?_
 have aB:=k.get
 have jt:=k.og h
 have d0:decide (room≤((l.length:Nat):Int))=true:=decide_eq_true aU
 simp only [aa,Nat.reduceEqDiff,reduceCtorEq,BH]
 refine bB zW (Az time h) ?_
 simp only [aa,Nat.reduceEqDiff,reduceCtorEq,l7]
 refine bB MA (ND h i v room g key time l k) ?_
 have FM:sF g l key time=[]:=by rw [sF,if_pos l7,aC]
 rw [FM]
 have r5:(((0:Nat):Int)==0)=true:=rfl
 simp only [aa,Nat.reduceEqDiff]
 refine aP.aY none_ [] (.q 0 (.q 1 (.q 2 (.q 3 (.q 4 (.q 5 (.q 6 (.q 7 (.q 8 (.q 9 (.q 10 (.q 11 (.q 12 (.q 13 (.q 14 .done))))))))))))))) (by kernel_rfl) (by kernel_rfl) (by kernel_rfl) ?_
 simp only [aa,bD,Nat.reduceEqDiff,Nat.reduceAdd,Nat.reduceLeDiff,reduceCtorEq,MK,tg,pv,wE,a7,aB,jt,d0,r5,aI,Tryz.results121,cW]
 exact au ⟨_,h,afW h 3,rfl,rfl⟩
theorem agw {v:V} {g:Int} (k:cr h i v 1024 g l) (r:Rec) (n:Int) (l7:ho r.t=true) (aC:found g l r.k r.t=[]) (aM:1024≤l.length) :
  ab Tryz.prog 61 [.iface 200 (.ptr i 0),.agg (aD r),.int .i64 n] h (fun q h'=>∃ c t,q=.tuple [c,.int .i64 t,.int .i64 3]∧I h h' none_):=by
 obtain ⟨bJ,b5,rt⟩:=r
 refine ab.ao (c:=_) Tryz.func61 rfl (by kernel_rfl) (by simp) ?_
 unfold aD
 obtain ⟨H,hH⟩:∃ y,y=h.push (.cells [.int .i64 bJ,.int .i64 b5,.int .i64 rt] 38 none):=⟨_,rfl⟩
 have dC:I h H none_:=by rw [hH];exact I.push _ _ _
 simp only [aa,Nat.reduceEqDiff,Nat.reduceAdd,Nat.reduceLeDiff,reduceCtorEq,tA,qQ,br,NL,NM,NN]
 rw [←hH]
 clear hH
 refine bU SK (agv H i v 1024 g bJ rt n l l7 aC (by omega) (k.aQ dC)) fun q h1 ⟨ar,gA⟩=>?_
 subst ar gA
 simp only [aa,Int.reduceBNe,Nat.reduceEqDiff,aI,Tryz.results61,r6]
 exact au ⟨_,_,rfl,dC⟩
theorem agx (k:fS h i O K l) (r:Rec) (n:Int) (bw:j4 r.t=true) :
  ab Tryz.prog 61 [.iface (je K) (.ptr i 0),.agg (aD r),.int .i64 n] h (fun q h'=>∃ c t kG dG,q=.tuple [c,.int .i64 t,.int .i64 kG]∧I h h' (· ∈ O)∧c4 h O dG ∧
   if o0 K l r.k r.t=true then kG=3∧fS h' i dG K l else kG=0∧t=xj K l r.k r.t∧c=eP (oZ K l r.k r.t n)∧fS h' i dG K (om K l r.k r.t n)):=by
 have hO:=N1.1 bw
 cases k with
 | @kv v l k=>
  have K7:o0 .kv (l.map mN) r.k r.t=full 1024 l r.k:=by
   simp only [o0,l8,F3 k.gu,full,List.length_map]
   congr 1
   rw [Bool.eq_iff_iff,decide_eq_true_eq,decide_eq_true_eq]
   omega
  refine ab.cast ((ae3 k r n).mono fun q h' ⟨v',j,e,bo,bO,d,o,aX,dJ,VH⟩=>?_)
  subst e
  have K8:I h h' (· ∈ i::(aR v).toList):=bO.mono fun q af=>mem_io.2 af
  cases aC:full 1024 l r.k with
  | true=>
   refine ⟨_,h',aK.refl _ _,_,_,_,_,rfl,K8,c4.of d,?_⟩
   rw [if_pos (by rw [K7];exact aC)]
   refine ⟨by simp [kF,aC],?_⟩
   have:h4 1024 l r.k n=l:=by simp [h4,aC]
   rw [this] at bo
   exact .kv bo
  | false=>
   have fp:hn 1024 l r.k n=⟨r.k,0,0,n,false⟩:=by simp [hn,aC]
   have gw:h4 1024 l r.k n=put l r.k n:=by simp [h4,aC]
   rw [fp] at o
   rw [gw] at bo
   obtain ⟨ae,bH,c6⟩:=VG o r.t (kF 1024 l r.k)
   refine ⟨_,ae,bH,_,_,_,_,rfl,K8.trans c6 fun q af U=>by omega,c4.of d,?_⟩
   rw [if_neg (by rw [K7,aC];decide)]
   refine ⟨by simp [kF,aC],rfl,rfl,?_⟩
   have aT:om .kv (l.map mN) r.k r.t n=(put l r.k n).map mN:=(VB k.gu r.k n).symm
   rw [aT]
   exact .kv (bo.aj c6 dJ.symm fun q af U=>VH (by rw [af,U]))
 | @cE m cl g e l k hU w=>
  have U:cI l (l8 (.cE g) r.k r.t 0)=(ch e (r.k,c7 g r.t)).isSome:=hU.has k.sH rfl
  have hlen:=hU.len
  cases aC:o0 (.cE g) l r.k r.t with
  | true=>
   simp only [o0,U,Bool.and_eq_true,Bool.not_eq_true',decide_eq_true_eq] at aC
   refine (agu k.k r n hO.1 hO.2 aC.1 (by omega)).mono fun q h' ⟨c,t,ar,bO⟩=>⟨c,t,3,[i,m],ar,bO.up,c4.refl _ _,?_⟩
   rw [if_pos rfl]
   exact ⟨rfl,(fS.cE k hU w).aQ bO⟩
  | false=>
   have wA:=aC
   simp only [o0,U,Bool.and_eq_false_iff,Bool.not_eq_false',decide_eq_false_iff_not] at aC
   refine ab.cast ((afI k.k r n hO.1 hO.2 (aC.imp id fun q=>by omega)).mono fun q h' ⟨j,ar,bo,bO,o,aX⟩=>?_)
   subst ar
   obtain ⟨ae,bH,c6⟩:=VG o (c7 g r.t) 0
   have iL:=k.k.lt
   have hJ:=k.k.mA
   refine ⟨_,ae,bH,_,_,_,[i,m],rfl,(bO.mono fun q af=>by simp [af]).trans c6 fun q af U=>by omega,c4.refl _ _,?_⟩
   rw [if_neg (by decide)]
   refine ⟨rfl,rfl,rfl,?_⟩
   have aU:=i6 (size:=g) hO.1 k.k.s1
   have st1:Vj ae i m g (cT cl e (r.k,c7 g r.t) n) (fX cl e (r.k,c7 g r.t)):=⟨bo.aj c6 (by omega) (by omega),k.st.cT _ _,k.sH.set _ _ _,fun x ak=>by
    rcases NT ak with ak | ak
    ·rw [ak];show 0≤c7 g r.t∧c7 g r.t≤2 ^ 41;omega
    ·exact k.ay x ak⟩
   exact .cE st1 (hU.set k.sH w.ha _ _ _ _) (w.h4 n bw wA)
 | @dr v g l k=>
  have l7:ho r.t=true:=by rw [VF];exact bw
  cases aC:o0 (.dr g) l r.k r.t with
  | true=>
   simp only [o0,Bool.and_eq_true,List.isEmpty_iff,decide_eq_true_eq] at aC
   refine (agw k r n l7 aC.1 aC.2).mono fun q h' ⟨c,t,ar,bO⟩=>⟨c,t,3,i::(aR v).toList,ar,bO.up,c4.refl _ _,?_⟩
   rw [if_pos rfl]
   exact ⟨rfl,(fS.dr k).aQ bO⟩
  | false=>
   simp only [o0,Bool.and_eq_false_iff,List.isEmpty_eq_false_iff,decide_eq_false_iff_not] at aC
   refine (afM k r n l7 (aC.imp id fun q=>by omega)).mono fun q h' ⟨v',ar,bo,bO,d⟩=>⟨_,_,_,i::(aR v').toList,ar,bO.mono fun q af=>mem_io.2 af,c4.of d,?_⟩
   rw [if_neg (by decide)]
   exact ⟨rfl,rfl,rfl,.dr bo⟩
end
theorem agy {K:df} {l:List ai} {c:ai} (bb:(fy K l c).2=0):dW K c=false∧((c.del=true∧cI l c=true∧fy K l c=(eu l c,0))∨(c.del=false∧(!cI l c&&decide (1024≤l.length))=false∧fy K l c=(oj l c,0))):=by
 unfold fy at bb
 split at bb
 ·cases bb
 rename_i av
 have av:dW K c=false:=by simpa using av
 refine ⟨av,?_⟩
 split at bb
 ·rename_i q0
  split at bb
  ·rename_i U
   exact .inl ⟨q0,U,Vq av q0 U⟩
  ·cases bb
 ·rename_i q0
  have q0:c.del=false:=by simpa using q0
  split at bb
  ·cases bb
  ·rename_i aC
   have aC:(!cI l c&&decide (1024≤l.length))=false:=by simpa using aC
   exact .inr ⟨q0,aC,QI av q0 aC⟩
theorem agz : iu Tryz.prog 194 "Do" 295 := ⟨fun v w => by kernel_rfl, by kernel_rfl⟩
theorem agA : iu Tryz.prog 197 "Do" 300 := ⟨fun v w => by kernel_rfl, by kernel_rfl⟩
theorem agB : iu Tryz.prog 200 "Do" 304 := ⟨fun v w => by kernel_rfl, by kernel_rfl⟩
theorem atl : iu Tryz.prog 194 "List" 297 := ⟨fun v w => by kernel_rfl, by kernel_rfl⟩
theorem atm : iu Tryz.prog 197 "List" 302 := ⟨fun v w => by kernel_rfl, by kernel_rfl⟩
theorem atn : iu Tryz.prog 200 "List" 306 := ⟨fun v w => by kernel_rfl, by kernel_rfl⟩
def F4:df→Nat
 | .kv=>295
 | .cE _=>300
 | .dr _=>304
def VI:df→Nat
 | .kv=>297
 | .cE _=>302
 | .dr _=>306
theorem K9 (K : df) : iu Tryz.prog (je K) "Do" (F4 K) := by cases K; exact agz; exact agA; exact agB
theorem aax (K : df) : iu Tryz.prog (je K) "List" (VI K) := by cases K; exact atl; exact atm; exact atn
section
variable {h h':J} {i:Nat} {O:List Nat} {K:df} {l:List ai}
theorem agC {g ay to:Int}:BZ g ay to=true↔(0≤ay∧ay≤1099511627776)∧c7 g ay=ay∧to=ay+g:=by
 simp only [BZ,Bool.and_eq_true,decide_eq_true_eq,j4,and_assoc]
theorem N2 (k:fS h i O K l) (c:ai) (bb:(fy K l c).2=0) :
  ab Tryz.prog (F4 K) [.ptr i 0,.agg (aw c)] h (fun r h'=>∃ dG,r=.int .i64 0∧I h h' (· ∈ O)∧c4 h O dG∧fS h' i dG K (fy K l c).1):=by
 obtain ⟨av,aF⟩:=agy bb
 cases k with
 | @kv v l k=>
  refine (Nr h i v 1024 c l k).mono fun r h' ⟨v',e,bo,bO,d⟩=>⟨i::(aR v').toList,?_,bO.mono fun q af=>mem_io.2 af,c4.of d,?_⟩
  ·subst e
   have yW:j3 c=false:=by
    simp only [dW,j7,Bool.or_eq_false_iff,decide_eq_false_iff_not,Decidable.not_not,Bool.and_eq_false_iff] at av
    simp only [j3,Bool.or_eq_false_iff,bne_eq_false_iff_eq,Bool.and_eq_false_iff]
    exact av
   obtain ⟨fB,cf,ju,gT,mY⟩:=c
   simp only [dW,Bool.or_eq_false_iff,decide_eq_false_iff_not,Decidable.not_not] at av
   obtain ⟨⟨rfl,rfl⟩,_⟩:=av
   rcases aF with ⟨h1,ae,_⟩ | ⟨h1,ae,_⟩
   ·rw [F3 k.gu] at ae
    simp only at h1
    subst h1
    simp [uT,yW,qY,ae]
   ·rw [F3 k.gu,List.length_map] at ae
    simp only at h1
    subst h1
    have:full 1024 l fB=false:=by
     simp only [full]
     rw [Bool.and_eq_false_iff] at ae⊢
     rcases ae with ae | ae
     ·exact .inl ae
     ·right;simp only [decide_eq_false_iff_not] at ae⊢;omega
    simp [uT,yW,kF,this]
  ·have yW:j3 c=false:=by
    simp only [dW,j7,Bool.or_eq_false_iff,decide_eq_false_iff_not,Decidable.not_not,Bool.and_eq_false_iff] at av
    simp only [j3,Bool.or_eq_false_iff,bne_eq_false_iff_eq,Bool.and_eq_false_iff]
    exact av
   obtain ⟨fB,cf,ju,gT,mY⟩:=c
   simp only [dW,Bool.or_eq_false_iff,decide_eq_false_iff_not,Decidable.not_not] at av
   obtain ⟨⟨rfl,rfl⟩,_⟩:=av
   have e:(fy .kv (l.map mN) ⟨fB,0,0,gT,mY⟩).1=(qw 1024 l ⟨fB,0,0,gT,mY⟩).map mN:=by
    rcases aF with ⟨h1,ae,aA⟩ | ⟨h1,ae,aA⟩
    ·rw [aA]
     simp only at h1
     subst h1
     have:qw 1024 l ⟨fB,0,0,gT,true⟩=rm l fB:=by simp [qw,yW]
     rw [this,agf k.gu fB gT true]
    ·rw [aA]
     simp only at h1
     subst h1
     rw [F3 k.gu,List.length_map] at ae
     have aC:full 1024 l fB=false:=by
      simp only [full]
      rw [Bool.and_eq_false_iff] at ae⊢
      rcases ae with ae | ae
      ·exact .inl ae
      ·right;simp only [decide_eq_false_iff_not] at ae⊢;omega
     have:qw 1024 l ⟨fB,0,0,gT,false⟩=put l fB gT:=by simp [qw,yW,h4,aC]
     rw [this,VB k.gu fB gT]
   rw [e]
   exact .kv bo
 | @cE m cl g e l k hU w=>
  obtain ⟨fB,cf,ju,gT,mY⟩:=c
  simp only [dW,Bool.or_eq_false_iff,Bool.not_eq_false',j7] at av
  obtain ⟨hw,aN⟩:=av
  obtain ⟨⟨h0,h1⟩,aC,rfl⟩:=agC.1 hw
  have hlen:=hU.len
  rcases aF with ⟨jc,iJ,o9⟩ | ⟨jc,iJ,o9⟩
  ·simp only at jc
   subst jc
   simp only [Bool.true_and,decide_eq_false_iff_not,Decidable.not_not] at aN
   subst aN
   rw [o9]
   have ak:(ch e (fB,cf)).isSome=true:=by rw [←hU.has (x:=kZ g fB cf 0) k.sH rfl];exact iJ
   exact (afO h i m cl 1024 g fB cf e k.k h0 h1 aC ak).mono fun r h' ⟨ar,bo,bO⟩=>⟨[i,m],ar,bO.mono fun q af=>by simp [af],c4.refl _ _,
    .cE ⟨bo,k.st.hR _,k.sH.del _,fun x ak=>k.ay x ((RT _ _).subset ak)⟩ (hU.del k.sH w.ha (jP.2 ⟨rfl,rfl,rfl⟩)) (w.rm _)⟩
  ·simp only at jc
   subst jc
   rw [o9]
   have ak:cI l ⟨fB,cf,cf+g,gT,false⟩=(ch e (fB,cf)).isSome:=hU.has (v:=gT) k.sH rfl
   have N3:=iJ
   rw [ak] at iJ
   simp only [Bool.and_eq_false_iff,Bool.not_eq_false',decide_eq_false_iff_not] at iJ
   exact (afN h i m cl 1024 g fB cf gT e k.k h0 h1 aC (iJ.imp id fun q=>by omega)).mono fun r h' ⟨ar,bo,bO⟩=>⟨[i,m],ar,bO.mono fun q af=>by simp [af],c4.refl _ _,
    .cE ⟨bo,k.st.cT _ _,k.sH.set _ _ _,fun x ak=>by
     rcases NT ak with ak | ak
     ·rw [ak];show 0≤cf∧cf≤2 ^ 41;omega
     ·exact k.ay x ak⟩ (hU.set k.sH w.ha _ _ _ _) (w.set N3 rfl (by simp only [dW,hw];rfl))⟩
 | @dr v g l k=>
  obtain ⟨fB,cf,ju,gT,mY⟩:=c
  have hP:=av
  simp only [dW,Bool.or_eq_false_iff,Bool.not_eq_false',j4,decide_eq_true_eq,decide_eq_false_iff_not,j7] at av
  obtain ⟨⟨⟨hs,kU⟩,KB⟩,aN⟩:=av
  rcases aF with ⟨jc,iJ,o9⟩ | ⟨jc,iJ,o9⟩
  ·simp only at jc
   subst jc
   simp only [Bool.true_and,decide_eq_false_iff_not,Decidable.not_not] at aN
   subst aN
   rw [o9]
   exact (af2 h i v 1024 g l ⟨fB,cf,ju,0,false⟩ ⟨hs.1,by show cf≤ju;omega,by show ju≤2 ^ 40;omega,rfl⟩ iJ k).mono fun r h' ⟨v',e,bo,bO,d⟩=>⟨i::(aR v').toList,e,bO.mono fun q af=>mem_io.2 af,c4.of d,.dr bo⟩
  ·simp only at jc
   subst jc
   rw [o9]
   simp only [Bool.and_eq_false_iff,Bool.not_eq_false',decide_eq_false_iff_not] at iJ
   exact (af3 h i v 1024 g l ⟨fB,cf,ju,gT,false⟩ ⟨hs.1,by show cf≤ju;omega,by show ju≤2 ^ 40;omega,rfl⟩ (iJ.symm.imp (fun q=>by omega) id) (iJ.symm.imp (fun q=>by omega) id) k).mono fun r h' ⟨v',e,bo,bO,d⟩=>⟨i::(aR v').toList,e,bO.mono fun q af=>mem_io.2 af,c4.of d,.dr bo⟩
theorem ato (k:fS h i O K l):Pure Tryz.prog (VI K) [.ptr i 0] h (eP (K6 K l)):=by
 cases k with
 | @kv v l k=>
  have:=as9 h i v 1024 l k
  exact this
 | @cE m cl g e l k hU w=>
  have hlen:=hU.len
  have aM:=w.len
  refine Pure.val (al8 _) ((ath Zv h i m cl 1024 g e k.k k.st (by omega) k.ay).mono fun r h' ⟨bO,lc,h1,ae,aA⟩=>⟨?_,bO⟩)
  rw [aA,hU.list w h1 ae]
  rfl
 | @dr v g l k=>exact atd h i v 1024 g l k
def B3:df→Int→Prop
 | .kv,_=>True
 | .cE g,n=>n=g
 | .dr g,n=>n=g
theorem M2 (k:fS h i O K l) (n mark:Int) (aG:B3 K n) (hm:-2 ^ 63≤mark∧mark<2 ^ 63) :
  ab Tryz.prog 57 [.iface (je K) (.ptr i 0),.int .i64 n,.int .i64 mark] h (fun r h'=>∃ dG,Own h' 40 5 r ((fv K mark l).flatMap aw)∧(∀ j,aR r=some j→h.n≤j∧j ∉ dG)∧I h h' (· ∈ O)∧c4 h O dG∧fS h' i dG K (fP K mark l)):=by
 have La:∀ l:List ai,fv .kv mark l=[]∧fP .kv mark l=l:=fun l=>⟨by simp [fv,xF,uX],by simp [fP,uX]⟩
 cases k with
 | @kv v l k=>
  refine ab.ao (c:=_) Tryz.func57 rfl (by kernel_rfl) (by simp) ?_
  have cw:gZ Tryz.prog (.iface (je .kv) (.ptr i 0)) 197 true=some (.tuple [.cZ,.bool false]):=by unfold gZ;rw [Tryz.underlying197];rfl
  have a2:gZ Tryz.prog (.iface (je .kv) (.ptr i 0)) 200 true=some (.tuple [.cZ,.bool false]):=by unfold gZ;rw [Tryz.underlying200];rfl
  simp only [aa,Nat.reduceEqDiff,reduceCtorEq,cw,a2,aI,Tryz.results57,ac]
  refine au ⟨_,?_,by simp [aR],I.refl _ _,c4.refl _ _,?_⟩
  ·rw [(La _).1];exact Own.ah _ _ _
  ·rw [(La _).2];exact .kv k
 | @cE m cl g e l k hU w=>
  obtain rfl:n=g:=aG
  have eO:=k.k.s1
  have lV:=k.k.s2
  have hlen:=hU.len
  have aM:=w.len
  refine ab.ao (c:=_) Tryz.func57 rfl (by kernel_rfl) (by simp) ?_
  have cw:gZ Tryz.prog (.iface (je (.cE n)) (.ptr i 0)) 197 true=some (.tuple [.ptr i 0,.bool true]):=by unfold gZ;rw [Tryz.underlying197];rfl
  by_cases h0:0≤mark
  ·have d0:decide (0≤mark)=true:=decide_eq_true h0
   have hw:IntKind.i64.wrap (mark - n)=mark - n:=Go.IntWalk.i64_in _ (by omega)
   simp only [aa,Nat.reduceEqDiff,reduceCtorEq,cw,d0,hw]
   refine bU acz (afU Zv h i m cl 1024 n (mark - n) e k.k k.st k.sH (by omega) k.ay) fun r h1 ⟨bo,c9,lc,gA,kL,lX,eL⟩=>?_
   have kW:∀ x:ai,uX (.cE n) mark x=decide (x.to≤mark - n):=fun x=>by simp [uX,h0]
   have VJ:lc=fv (.cE n) mark l:=by
    rw [hU.exp w gA kL]
    unfold fv xF
    congr 2
    exact List.filter_congr fun x _=>(kW x).symm
   have agD:fP (.cE n) mark l=l.filter fun x=>!decide (x.to≤mark - n):=List.filter_congr fun x _=>by rw [kW x]
   rw [VJ] at lX
   simp only [aa,Nat.reduceEqDiff,aI,Tryz.results57,ac]
   have iL:=k.k.lt
   have hJ:=k.k.mA
   refine au ⟨[i,m],lX,fun j aX=>⟨eL j aX,fun hm=>by have:=eL j aX;simp at hm;omega⟩,bo.mono fun q af=>by simp [af],c4.refl _ _,?_⟩
   have wf:=w.fP mark
   rw [agD] at wf⊢
   refine .cE ⟨c9,?_,?_,fun x ak=>k.ay x (List.mem_filter.1 ak).1⟩ hU.filter wf
   ·have ad:=k.st
    exact ⟨fun x ak=>ad.1 x (by
     obtain ⟨y,bs,rfl⟩:=List.mem_map.1 ak
     exact List.mem_map_of_mem (List.mem_filter.1 bs).1),ad.2.sublist ((List.filter_sublist.map _).map _)⟩
   ·exact k.sH.sublist (List.filter_sublist.map _)
  ·have d0:decide (0≤mark)=false:=decide_eq_false h0
   have ar:fv (.cE n) mark l=[]:=by
    have:l.filter (uX (.cE n) mark)=[]:=by rw [List.filter_eq_nil_iff];intro x _;simp [uX];omega
    simp [fv,xF,this,B0]
   have aT:fP (.cE n) mark l=l:=by
    unfold fP
    rw [List.filter_eq_self]
    intro x _
    simp [uX];omega
   simp only [aa,Nat.reduceEqDiff,reduceCtorEq,cw,d0,aI,Tryz.results57,ac]
   refine au ⟨_,?_,by simp [aR],I.refl _ _,c4.refl _ _,?_⟩
   ·rw [ar];exact Own.ah _ _ _
   ·rw [aT];exact .cE k hU w
 | @dr v g l k=>
  refine ab.ao (c:=_) Tryz.func57 rfl (by kernel_rfl) (by simp) ?_
  have cw:gZ Tryz.prog (.iface (je (.dr g)) (.ptr i 0)) 197 true=some (.tuple [.cZ,.bool false]):=by unfold gZ;rw [Tryz.underlying197];rfl
  have a2:gZ Tryz.prog (.iface (je (.dr g)) (.ptr i 0)) 200 true=some (.tuple [.ptr i 0,.bool true]):=by unfold gZ;rw [Tryz.underlying200];rfl
  simp only [aa,Nat.reduceEqDiff,reduceCtorEq,cw,a2]
  refine bU acA (afY h i v 1024 g mark l k) fun r h1 ⟨v',lX,eL,bo,bO,d⟩=>?_
  simp only [aa,Nat.reduceEqDiff,aI,Tryz.results57,ac]
  exact au ⟨i::(aR v').toList,lX,fun j aX=>⟨(eL j aX).1,fun hm=>by
   rcases mem_io.1 hm with rfl | hm
   ·have:=(eL j aX).1;have:=k.lt;omega
   ·exact (eL j aX).2 hm⟩,bO.mono fun q af=>mem_io.2 af,c4.of d,.dr bo⟩
theorem agE (k:fS h i O K l) (n t mark:Int) (aG:B3 K n) (bw:j4 t=true) :
  Pure Tryz.prog 62 [.iface (je K) (.ptr i 0),.int .i64 n,.int .i64 t,.int .i64 mark] h (.bool (Vw K t mark)):=by
 have hO:=N1.1 bw
 refine Pure.val (bh.bool _) ?_
 cases k with
 | @kv v l k=>
  refine ab.ao (c:=_) Tryz.func62 rfl (by kernel_rfl) (by simp) ?_
  have cw:gZ Tryz.prog (.iface (je .kv) (.ptr i 0)) 197 true=some (.tuple [.cZ,.bool false]):=by unfold gZ;rw [Tryz.underlying197];rfl
  have a2:gZ Tryz.prog (.iface (je .kv) (.ptr i 0)) 200 true=some (.tuple [.cZ,.bool false]):=by unfold gZ;rw [Tryz.underlying200];rfl
  simp only [aa,Nat.reduceEqDiff,reduceCtorEq,cw,a2,aI,Tryz.results62,ac]
  exact au ⟨rfl,I.refl _ _⟩
 | @cE m cl g e l k hU w=>
  obtain rfl:n=g:=aG
  have eO:=k.k.s1
  have lV:=k.k.s2
  have aU:=i6 (size:=n) hO.1 eO
  refine ab.ao (c:=_) Tryz.func62 rfl (by kernel_rfl) (by simp) ?_
  have cw:gZ Tryz.prog (.iface (je (.cE n)) (.ptr i 0)) 197 true=some (.tuple [.ptr i 0,.bool true]):=by unfold gZ;rw [Tryz.underlying197];rfl
  have hw:IntKind.i64.wrap (c7 n t+n)=c7 n t+n:=Go.IntWalk.i64_in _ (by omega)
  simp only [aa,Nat.reduceEqDiff,reduceCtorEq,cw]
  refine bB EK (FC h i m cl 1024 n t _ k.k) ?_
  rw [FD hO.1 hO.2]
  simp only [aa,Nat.reduceEqDiff,hw,aI,Tryz.results62,ac]
  exact au ⟨rfl,I.refl _ _⟩
 | @dr v g l k=>
  obtain rfl:n=g:=aG
  have eO:=k.g1
  have lV:=k.g2
  refine ab.ao (c:=_) Tryz.func62 rfl (by kernel_rfl) (by simp) ?_
  have cw:gZ Tryz.prog (.iface (je (.dr n)) (.ptr i 0)) 197 true=some (.tuple [.cZ,.bool false]):=by unfold gZ;rw [Tryz.underlying197];rfl
  have a2:gZ Tryz.prog (.iface (je (.dr n)) (.ptr i 0)) 200 true=some (.tuple [.ptr i 0,.bool true]):=by unfold gZ;rw [Tryz.underlying200];rfl
  have hw:IntKind.i64.wrap (t+n)=t+n:=Go.IntWalk.i64_in _ (by omega)
  simp only [aa,Nat.reduceEqDiff,reduceCtorEq,cw,a2,hw,aI,Tryz.results62,ac]
  exact au ⟨rfl,I.refl _ _⟩
end
def fz (h:J) (a:Nat) (O:List Nat) (K:df) (e:bF) (n:Int) (l:List ai):Prop :=
 ∃ i kP,O=a::kP∧uU h a (je K) i e n∧fS h i kP K l∧a ∉ kP∧B3 K n
section
variable {h h':J} {a:Nat} {O:List Nat} {K:df} {e:bF} {n:Int} {l:List ai}
theorem fz.lt (s:fz h a O K e n l):∀ q ∈ O,q<h.n:=by
 obtain ⟨i,kP,rfl,fG,k,ne,kQ⟩:=s
 intro q af
 rcases List.mem_cons.1 af with rfl | af
 ·exact fG.lt
 ·exact k.lt q af
theorem fz.aj {M:Nat→Prop} (s:fz h a O K e n l) (hk:I h h' M) (hm:∀ q ∈ O,¬M q):fz h' a O K e n l:=by
 obtain ⟨i,kP,rfl,fG,k,ne,kQ⟩:=s
 exact ⟨i,kP,rfl,fG.aj hk (hm _ (by simp)),k.aj hk (fun q af=>hm q (by simp [af])),ne,kQ⟩
theorem fz.aQ (s:fz h a O K e n l) (hk:I h h' none_):fz h' a O K e n l:=s.aj hk fun _ _=>by simp [none_]
theorem fz.wf (s:fz h a O K e n l):cz K l:=by obtain ⟨i,kP,rfl,fG,k,ne,kQ⟩:=s;exact k.wf
def jz (K:df) (e:bF) (l:List ai) (r:Rec):Except Int Int :=
 if j4 r.t=false then .error 2 else
 match b8 r.k r.v r.t (C6 K l r.k r.t) 16 e with
 | none=>.error 10
 | some N=>if o0 K l r.k r.t then .error 3 else .ok N
def nQ (K:df) (e:bF) (l:List ai) (r:Rec):V :=
 match jz K e l r with
 | .error c=>oh c
 | .ok N=>hA r.k N (xj K l r.k r.t) (eP (oZ K l r.k r.t N))
def jA (K:df) (e:bF) (l:List ai) (r:Rec):List ai :=
 match jz K e l r with
 | .error _=>l
 | .ok N=>om K l r.k r.t N
theorem agF (w:cz K l) (r:Rec):cz K (jA K e l r):=by
 unfold jA jz
 cases bw:j4 r.t with
 | false=>simpa using w
 | true=>
  rw [if_neg (by decide)]
  cases b8 r.k r.v r.t (C6 K l r.k r.t) 16 e with
  | none=>exact w
  | some N=>
   cases aC:o0 K l r.k r.t with
   | true=>simpa [aC] using w
   | false=>simpa [aC] using w.h4 N bw aC
theorem agG (w:cz K l) (r:Rec) {N:Int} (kl:jz K e l r=.ok N):e6 K l (oZ K l r.k r.t N)=some (jA K e l r):=by
 have h1:jA K e l r=om K l r.k r.t N:=by unfold jA;rw [kl]
 rw [h1]
 unfold jz at kl
 cases bw:j4 r.t with
 | false=>rw [if_pos bw] at kl;cases kl
 | true=>
  rw [if_neg (by rw [bw];decide)] at kl
  cases aN:b8 r.k r.v r.t (C6 K l r.k r.t) 16 e with
  | none=>rw [aN] at kl;cases kl
  | some M=>
   rw [aN] at kl
   cases aC:o0 K l r.k r.t with
   | true=>simp [aC] at kl
   | false=>
    simp [aC] at kl
    subst kl
    exact w.F1 bw aC
theorem agH (s:fz h a O K e n l) (hm:cv e=true) (aB:fc h) (r:Rec) :
  ab Tryz.prog 19 [.ptr a 0,.agg (aD r)] h (fun q h'=>∃ dG,q=nQ K e l r∧I h h' (· ∈ O)∧c4 h O dG∧fz h' a dG K e n (jA K e l r)):=by
 have aH:=s.lt
 obtain ⟨i,kP,rfl,fG,k,ne,kQ⟩:=s
 have jt:=fG.lt
 have iL:=k.lt
 refine (ae4 fG hm aB r (C6 K l r.k r.t) (· ∈ kP) ne (fun q af U=>by have:=iL q U;omega)
  (fun H ae N c t kG=>∃ dG,c4 H kP dG∧if o0 K l r.k r.t=true then kG=3∧fS ae i dG K l else kG=0∧t=xj K l r.k r.t∧c=eP (oZ K l r.k r.t N)∧fS ae i dG K (om K l r.k r.t N))
  (fun h' C5 cS=>agt (k.aQ C5) r cS)
  (fun h' N C5 cS _=>(agx (k.aQ C5) r N cS).mono fun q ae ⟨c,t,kG,dG,ar,bO,nl,aF⟩=>⟨c,t,kG,ar,bO,dG,nl,aF⟩)).mono fun q U ⟨ri,ae,bo,eL,k2,P⟩=>?_
 have up:∀ {dG:List Nat},c4 ri kP dG→c4 h (a::kP) (a::dG):=fun nl x ak=>by
  rcases List.mem_cons.1 ak with rfl | ak
  ·exact .inl (by simp)
  ·rcases nl x ak with ak | ak
   ·exact .inl (by simp [ak])
   ·exact .inr (by omega)
 cases bw:j4 r.t with
 | false=>
  have ar:nQ K e l r=oh 2:=by unfold nQ jz;rw [if_pos bw]
  have aT:jA K e l r=l:=by unfold jA jz;rw [if_pos bw]
  rw [if_pos bw] at P
  obtain ⟨rfl,rfl⟩:=P
  rw [ar,aT]
  refine ⟨a::kP,rfl,(bo.trans k2 fun q af U=>by omega).up,c4.refl _ _,i,kP,rfl,(fG.aj bo (by simp [none_])).aj k2 (by omega),(k.aQ bo).aj k2 fun q af=>by have:=iL q af;omega,ne,kQ⟩
 | true=>
  rw [if_neg (by rw [bw];decide)] at P
  cases aN:b8 r.k r.v r.t (C6 K l r.k r.t) 16 e with
  | none=>
   have eT:jz K e l r=.error 10:=by unfold jz;rw [if_neg (by rw [bw];decide),aN]
   have ar:nQ K e l r=oh 10:=by unfold nQ;rw [eT]
   have aT:jA K e l r=l:=by unfold jA;rw [eT]
   rw [aN] at P
   obtain ⟨rfl,rfl⟩:=P
   rw [ar,aT]
   exact ⟨a::kP,rfl,(bo.trans k2 fun q af U=>by omega).up,c4.refl _ _,i,kP,rfl,(fG.aj bo (by simp [none_])).aj k2 (by omega),(k.aQ bo).aj k2 fun q af=>by have:=iL q af;omega,ne,kQ⟩
  | some N=>
   rw [aN] at P
   obtain ⟨c,t,kG,bO,⟨dG,nl,aF⟩,eq⟩:=P
   have q1:I h U (· ∈ a::kP):=((bo.up).trans' (bO.mono fun q af=>by simp [af])).trans k2 fun q af e=>by omega
   have Lb:=((fG.aj bo (by simp [none_])).aj bO ne).aj k2 (by omega)
   have kH:∀ {x},x ∈ dG→x≠h.n+1:=fun {x} ak=>by
    rcases nl x ak with ak | ak
    ·have:=iL x ak;omega
    ·omega
   have gB:a ∉ dG:=fun ak=>by
    rcases nl a ak with ak | ak
    ·exact ne ak
    ·omega
   cases aC:o0 K l r.k r.t with
   | true=>
    rw [aC,if_pos rfl] at aF
    obtain ⟨rfl,hk⟩:=aF
    have eT:jz K e l r=.error 3:=by unfold jz;rw [if_neg (by rw [bw];decide),aN];simp only [aC,if_true]
    have ar:nQ K e l r=oh 3:=by unfold nQ;rw [eT]
    have aT:jA K e l r=l:=by unfold jA;rw [eT]
    rw [if_neg (by decide)] at eq
    rw [ar,aT,eq]
    exact ⟨a::dG,rfl,q1,up nl,i,dG,rfl,Lb,hk.aj k2 fun q af=>kH af,gB,kQ⟩
   | false=>
    rw [aC,if_neg (by decide)] at aF
    obtain ⟨rfl,rfl,rfl,hk⟩:=aF
    have eT:jz K e l r=.ok N:=by unfold jz;rw [if_neg (by rw [bw];decide),aN];simp only [aC,Bool.false_eq_true,if_false]
    have ar:nQ K e l r=hA r.k N (xj K l r.k r.t) (eP (oZ K l r.k r.t N)):=by unfold nQ;rw [eT]
    have aT:jA K e l r=om K l r.k r.t N:=by unfold jA;rw [eT]
    rw [if_pos rfl] at eq
    rw [ar,aT,eq]
    exact ⟨a::dG,rfl,q1,up nl,i,dG,rfl,Lb,hk.aj k2 fun q af=>kH af,gB,kQ⟩
theorem al9 (s:fz h a O K e n l) (c:ai) (bb:(fy K l c).2=0) :
  ab Tryz.prog 20 [.ptr a 0,.agg (aw c)] h (fun q h'=>∃ dG,q=.int .i64 0∧I h h' (· ∈ O)∧c4 h O dG∧fz h' a dG K e n (fy K l c).1):=by
 obtain ⟨i,kP,rfl,fG,k,ne,kQ⟩:=s
 have jt:=fG.lt
 have iL:=k.lt
 refine ab.ao (c:=_) Tryz.func20 rfl (by kernel_rfl) (by simp) ?_
 have cc:(V.agg (aw c)).cells=some (aw c):=rfl
 have ld:cX (some (some 5)) (some (aw c))=some (.agg (aw c)):=rfl
 have d0:da (.cells (aw c) 40 none) 0=some (aw c):=rfl
 obtain ⟨H,hH⟩:∃ y,y=h.push (.cells (aw c) 40 none):=⟨_,rfl⟩
 have dC:I h H none_:=by rw [hH];exact I.push _ _ _
 have g0:H.get h.n=.cells (aw c) 40 none:=by rw [hH];exact b6
 have p2:H.n=h.n+1:=by rw [hH];rfl
 have qW:=fG.aj dC (by simp [none_])
 have B4:=k.aQ dC
 have jm:=qW.get
 obtain ⟨o,m,ax⟩:=e
 rw [hT] at jm
 simp only [List.cons_append,List.nil_append] at jm
 have jh:bK Tryz.prog (F4 K)=true:=(K9 K).2
 simp only [aa,Nat.reduceEqDiff,reduceCtorEq,cc]
 rw [←hH]
 clear hH
 refine bB yv (DR qW) ?_
 simp only [aa,Nat.reduceEqDiff]
 have f1:(a ∈ kP)=False:=eq_false ne
 have f2:(h.n ∈ kP)=False:=eq_false fun U=>by have:=iL _ U;omega
 refine aP.aY (fun x=>x ∈ kP) [5] (.q 0 (.q 1 (.q 2 (.q 3 (.q 4 (.a 5 (.q 6 .done))))))) (by kernel_rfl) (by kernel_rfl) (by kernel_rfl) ?_
 simp only [aa,bD,fg,Nat.reduceEqDiff,Nat.reduceAdd,Nat.reduceLeDiff,reduceCtorEq,zm,zn,j0,jm,g0,ld,d0,f1,f2,aa2 (K9 K)]
 refine bU jh (N2 B4 c bb) fun r ae ⟨dG,aT,bO,nl,k2⟩=>?_
 subst aT
 simp only [aa,bD,fg,Nat.reduceEqDiff,aI,Tryz.results20,ac]
 refine au ⟨a::dG,rfl,(dC.up).trans' (bO.mono fun q af=>by simp [af]),fun x ak=>?_,i,dG,rfl,qW.aj bO ne,k2,fun ak=>?_,kQ⟩
 ·rcases List.mem_cons.1 ak with rfl | ak
  ·exact .inl (by simp)
  ·rcases nl x ak with ak | ak
   ·exact .inl (by simp [ak])
   ·exact .inr (by omega)
 ·rcases nl a ak with ak | ak
  ·exact ne ak
  ·omega
theorem atp (s:fz h a O K e n l):Pure Tryz.prog 22 [.ptr a 0] h (eP (K6 K l)):=by
 obtain ⟨i,kP,rfl,fG,k,ne,kQ⟩:=s
 refine ab.ao (c:=_) Tryz.func22 rfl (by kernel_rfl) (by simp) ?_
 have jm:=fG.get
 obtain ⟨o,m,ax⟩:=e
 rw [hT] at jm
 simp only [List.cons_append,List.nil_append] at jm
 have jh:bK Tryz.prog (VI K)=true:=(aax K).2
 simp only [aa,Nat.reduceEqDiff,reduceCtorEq]
 refine bB yv (DR fG) ?_
 simp only [aa,Nat.reduceEqDiff,Nat.reduceAdd,Nat.reduceLeDiff,reduceCtorEq,zm,zn,jm,aa2 (aax K)]
 refine bB jh (ato k) ?_
 simp only [aa,Nat.reduceEqDiff,aI,Tryz.results22,ac]
 exact au ⟨rfl,rfl⟩
theorem VK (s:fz h a O K e n l) (mark:Int) (hm:-2 ^ 63≤mark∧mark<2 ^ 63) :
  ab Tryz.prog 18 [.ptr a 0,.int .i64 mark] h (fun r h'=>∃ dG,Own h' 40 5 r ((fv K mark l).flatMap aw)∧(∀ j,aR r=some j→h.n≤j∧j ∉ dG)∧I h h' (· ∈ O)∧c4 h O dG∧fz h' a dG K e n (fP K mark l)):=by
 obtain ⟨i,kP,rfl,fG,k,ne,kQ⟩:=s
 have jt:=fG.lt
 have iL:=k.lt
 refine ab.ao (c:=_) Tryz.func18 rfl (by kernel_rfl) (by simp) ?_
 have jm:=fG.get
 obtain ⟨o,m,ax⟩:=e
 rw [hT] at jm
 simp only [List.cons_append,List.nil_append] at jm
 simp only [aa,Nat.reduceEqDiff,reduceCtorEq]
 refine bB yv (DR fG) ?_
 simp only [aa,Nat.reduceEqDiff]
 have f1:(a ∈ kP)=False:=eq_false ne
 refine aP.aY (fun x=>x ∈ kP) [9] (.q 0 (.q 1 (.q 2 (.q 3 (.q 4 (.q 5 (.q 6 (.q 7 (.q 8 (.a 9 (.q 10 .done))))))))))) (by kernel_rfl) (by kernel_rfl) (by kernel_rfl) ?_
 simp only [aa,bD,fg,Nat.reduceEqDiff,Nat.reduceAdd,Nat.reduceLeDiff,reduceCtorEq,S8,zm,zn,br,jm,f1]
 refine bU adg (M2 k n mark kQ hm) fun r ae ⟨dG,e4,ef,bO,nl,k2⟩=>?_
 simp only [aa,bD,fg,Nat.reduceEqDiff,aI,Tryz.results18,ac]
 refine au ⟨a::dG,e4,fun j aX=>⟨(ef j aX).1,fun ak=>?_⟩,bO.mono fun q af=>by simp [af],fun x ak=>?_,i,dG,rfl,fG.aj bO ne,k2,fun ak=>?_,kQ⟩
 ·rcases List.mem_cons.1 ak with rfl | ak
  ·have:=(ef _ aX).1;omega
  ·exact (ef j aX).2 ak
 ·rcases List.mem_cons.1 ak with rfl | ak
  ·exact .inl (by simp)
  ·rcases nl x ak with ak | ak
   ·exact .inl (by simp [ak])
   ·exact .inr (by omega)
 ·rcases nl a ak with ak | ak
  ·exact ne ak
  ·omega
def IQ (K:df) (r:Rec) (mark:Int):Bool:=j4 r.t&&Vw K r.t mark
theorem agI (s:fz h a O K e n l) (r:Rec) (mark:Int):Pure Tryz.prog 23 [.ptr a 0,.agg (aD r),.int .i64 mark] h (.bool (IQ K r mark)):=by
 obtain ⟨i,kP,rfl,fG,k,ne,kQ⟩:=s
 refine Pure.val (bh.bool _) ?_
 obtain ⟨bJ,b5,rt⟩:=r
 refine ab.ao (c:=_) Tryz.func23 rfl (by kernel_rfl) (by simp) ?_
 unfold aD IQ
 obtain ⟨H,hH⟩:∃ y,y=h.push (.cells [.int .i64 bJ,.int .i64 b5,.int .i64 rt] 38 none):=⟨_,rfl⟩
 have dC:I h H none_:=by rw [hH];exact I.push _ _ _
 have g0:H.get h.n=.cells [.int .i64 bJ,.int .i64 b5,.int .i64 rt] 38 none:=by rw [hH];exact b6
 have qW:=fG.aj dC (by simp [none_])
 have B4:=k.aQ dC
 have jm:=qW.get
 obtain ⟨o,m,ax⟩:=e
 rw [hT] at jm
 simp only [List.cons_append,List.nil_append] at jm
 simp only [aa,Nat.reduceEqDiff,reduceCtorEq]
 rw [←hH]
 clear hH
 refine bB yv (DR qW) ?_
 simp only [aa,Nat.reduceEqDiff,Nat.reduceAdd,Nat.reduceLeDiff,qQ,br,g0]
 refine bB S4 (Ux rt H) ?_
 cases cS:j4 rt with
 | false=>
  rw [show decide (0≤rt∧rt≤1099511627776)=false from cS]
  simp only [aa,Nat.reduceEqDiff,aI,Tryz.results23,ac]
  exact au ⟨rfl,dC⟩
 | true=>
  rw [show decide (0≤rt∧rt≤1099511627776)=true from cS]
  simp only [aa,Nat.reduceEqDiff]
  refine aP.aY none_ [] (.q 0 (.q 1 (.q 2 (.q 3 (.q 4 (.q 5 (.q 6 (.q 7 (.q 8 (.q 9 (.q 10 (.c 11 (.q 12 .done))))))))))))) (by kernel_rfl) (by kernel_rfl) (by kernel_rfl) ?_
  simp only [aa,bD,Nat.reduceEqDiff,Nat.reduceAdd,Nat.reduceLeDiff,reduceCtorEq,S8,zm,qQ,zn,br,jm,g0]
  refine gE rfl rfl rfl (fun h' hk=>agE (h:=h') (by rcases hk with hk | rfl;exact B4.aQ hk;exact B4) n rt mark kQ cS) ?_
  simp only [aa,bD,Nat.reduceEqDiff,aI,Tryz.results23,ac]
  exact au ⟨rfl,dC⟩
def xk (K:df) (l:List ai) (key:Int):Int:=match K with | .kv=>valOf l (l8 .kv key 0 0) | _=>0
theorem agJ (s:fz h a O K e n l) (key:Int):Pure Tryz.prog 52 [.ptr a 0,.int .i64 key] h (.int .i64 (xk K l key)):=by
 obtain ⟨i,kP,rfl,fG,k,ne,kQ⟩:=s
 have jm:=fG.get
 obtain ⟨o,m,ax⟩:=e
 rw [hT] at jm
 simp only [List.cons_append,List.nil_append] at jm
 have tG:Pure Tryz.prog 103 [.iface (je K) (.ptr i 0),.int .i64 key] h (.int .i64 (xk K l key)):=by
  cases k with
  | @kv v l k=>
   have:=ae2 k key
   rw [←VA (v:=0) (d:=false) k.gu] at this
   exact this
  | @cE m cl g e l k hU w=>
   refine ab.ao (c:=_) Tryz.func103 rfl (by kernel_rfl) (by simp) ?_
   have cw:gZ Tryz.prog (.iface (je (.cE g)) (.ptr i 0)) 194 true=some (.tuple [.cZ,.bool false]):=by unfold gZ;rw [Tryz.underlying194];rfl
   simp only [aa,Nat.reduceEqDiff,reduceCtorEq,cw,aI,Tryz.results103,ac]
   exact au ⟨rfl,rfl⟩
  | @dr v g l k=>
   refine ab.ao (c:=_) Tryz.func103 rfl (by kernel_rfl) (by simp) ?_
   have cw:gZ Tryz.prog (.iface (je (.dr g)) (.ptr i 0)) 194 true=some (.tuple [.cZ,.bool false]):=by unfold gZ;rw [Tryz.underlying194];rfl
   simp only [aa,Nat.reduceEqDiff,reduceCtorEq,cw,aI,Tryz.results103,ac]
   exact au ⟨rfl,rfl⟩
 refine ab.ao (c:=_) Tryz.func52 rfl (by kernel_rfl) (by simp) ?_
 simp only [aa,Nat.reduceEqDiff,reduceCtorEq]
 refine bB yv (DR fG) ?_
 simp only [aa,Nat.reduceEqDiff,Nat.reduceAdd,Nat.reduceLeDiff,reduceCtorEq,zm,zn,jm]
 refine bB acv tG ?_
 simp only [aa,Nat.reduceEqDiff,aI,Tryz.results52,ac]
 exact au ⟨rfl,rfl⟩
end
theorem agK {e:List V} (h:mg.iK (.cat (.int .i64) (.cat (.int .i64) (.cat (.int .i64) .unit))) e):∃ c:Rec,e=aD c:=by
 obtain ⟨ff,_,rfl,⟨a,rfl,_⟩,eY,_,rfl,⟨b,rfl,_⟩,wX,_,rfl,⟨c,rfl,_⟩,rfl⟩:=h
 exact ⟨⟨a,b,c⟩,rfl⟩
theorem QK {α:Type} {s:mg} {enc:α→List V} (ad:∀ e,s.iK e→∃ c,e=enc c):∀ {es:List (List V)},(∀ x ∈ es,s.iK x)→∃ l:List α,es.length=l.length∧es.flatten=l.flatMap enc
 | [],_=>⟨[],rfl,rfl⟩
 | e::es,h=>by
  obtain ⟨l,h1,ae⟩:=QK ad (es:=es) fun x ak=>h x (by simp [ak])
  obtain ⟨c,rfl⟩:=ad e (h _ (by simp))
  exact ⟨c::l,by simp [h1],by simp [ae]⟩
theorem alO (a b:Rec) {xo yo:Operand}:ev Tryz.prog .eql 38 xo yo (.agg [.int .i64 a.k,.int .i64 a.v,.int .i64 a.t]) (.agg [.int .i64 b.k,.int .i64 b.v,.int .i64 b.t])=some (.bool (decide (a=b))):=by
 have h:hv [0,0,0] (aD a) (aD b)=some (decide (a=b)):=by
  simp only [aD,hv,if_true,Option.map_some,Option.some.injEq]
  rw [Bool.eq_iff_iff]
  simp only [Bool.and_eq_true,beq_iff_eq,decide_eq_true_eq,Bool.and_true]
  constructor
  ·rintro ⟨h1,ae,aA⟩;cases a;cases b;simp_all
  ·rintro rfl;simp
 exact ajN adQ h
def mO (kind n:Int):Option df :=
 if kind=6 then some .kv else
 if kind=7 then (if 1≤n∧n≤1048576 then some (.cE n) else none) else
 if kind=8 then (if 1≤n∧n≤1048576 then some (.dr n) else none) else none
theorem agL (x:bu) {K:df} (bE:mO x.kind x.n=some K) (hm:cv x.e=true) (ba:fa x.e) (h:J) (aB:fc h) :
  ab Tryz.prog 17 [.agg (al x)] h (fun r h'=>∃ a O,r=.tuple [.ptr a 0,.int .i64 0]∧I h h' none_∧(∀ q ∈ O,h.n≤q)∧fz h' a O K x.e x.n []):=by
 have fin:∀ (T:TypeId) (cS:T=je K) (Lc:B3 K x.n) (Aw:J→J→Nat→Prop) (e0:∀ H h1 i,I h H none_→Aw H h1 i→∃ O,fS h1 i O K []∧∀ q ∈ O,H.n≤q)
   (hk:∀ H,I h H none_→ab Tryz.prog 54 [.agg (al x)] H (fun r h'=>∃ i,r=.tuple [.iface T (.ptr i 0),.int .i64 0]∧I H h' none_∧Aw H h' i)),
   ab Tryz.prog 17 [.agg (al x)] h (fun r h'=>∃ a O,r=.tuple [.ptr a 0,.int .i64 0]∧I h h' none_∧(∀ q ∈ O,h.n≤q)∧fz h' a O K x.e x.n []):=fun T cS Lc Aw e0 hk=>by
  refine (ae7 x hm ba h aB T Aw hk).mono fun r h' ⟨a,i,H,h1,e,bq,q,bo,kk,a6,yi,s⟩=>?_
  obtain ⟨O,mW,yj⟩:=e0 H h1 i bq q
  subst cS
  have aG:=bq.n
  refine ⟨a,a::O,e,kk,fun q af=>?_,i,O,rfl,s,mW.aQ bo,fun U=>by have:=mW.lt a U;omega,Lc⟩
  rcases List.mem_cons.1 af with rfl | af
  ·exact a6
  ·exact Nat.le_trans aG (yj q af)
 unfold mO at bE
 split at bE
 ·rename_i hk
  cases bE
  refine fin 194 rfl trivial (fun H h1 i=>H.n≤i∧dD h1 i .ah 1024 []) (fun H h1 i _ ⟨cq,cP⟩=>⟨[i],.kv cP,by simpa using cq⟩) fun H _=>?_
  exact (ae0 x hk H).mono fun r h' ⟨i,e,hi,k,bO⟩=>⟨i,e,bO,hi,k⟩
 split at bE
 ·rename_i hk
  split at bE
  case isFalse=>cases bE
  rename_i aG
  cases bE
  refine fin 197 rfl rfl (fun H h1 i=>∃ m,H.n≤i∧H.n≤m∧cy h1 i m 1024 x.n [] 0) (fun H h1 i _ ⟨m,cq,cP,ey⟩=>⟨[i,m],.cE (e:=[]) ⟨ey,⟨by simp [fD,fK],by simp [fD,fK]⟩,er.nil,by simp⟩ (by simp [ej]) (cz.nil aG),by simp [cq,cP]⟩) fun H _=>?_
  exact (afF x hk aG.1 aG.2 H).mono fun r h' ⟨i,e,bO,m,hi,hm,k⟩=>⟨i,e,bO,m,hi,hm,k⟩
 split at bE
 ·rename_i hk
  split at bE
  case isFalse=>cases bE
  rename_i aG
  cases bE
  refine fin 200 rfl rfl (fun H h1 i=>H.n≤i∧cr h1 i .ah 1024 x.n []) (fun H h1 i _ ⟨cq,cP⟩=>⟨[i],.dr cP,by simpa using cq⟩) fun H _=>?_
  exact (afG x hk aG.1 aG.2 H).mono fun r h' ⟨i,e,bO,hi,k⟩=>⟨i,e,bO,hi,k⟩
 ·cases bE
def HC (O xU:List Nat):Prop:=∀ q ∈ O,q ∉ xU
theorem HC.symm {O xU:List Nat} (d:HC O xU):HC xU O:=fun q af U=>d q U af
theorem HC.step {h:J} {b:Nat} {O dG xU:List Nat} {uY:df} {aT:bF} {ef:Int} {eY:List ai} (s:fz h b xU uY aT ef eY) (nl:c4 h O dG) (d:HC O xU):HC dG xU:=fun q af U=>by
 rcases nl q af with af | af
 ·exact d q af U
 ·have:=s.lt q U;omega
theorem agM {l:List Rec} {k:Nat} {kk:IntKind} (h:k<l.length):∃ r,ir Tryz.prog 49 (.ag l.length (l.flatMap aD)) (.int kk (k:Int))=some (.at (aD l[k]++r)) :=
 J3 CJ rfl (List.getElem?_eq_getElem h) Sv
theorem agN (s x:V) (cs xs:List Nat) (h:J) (rd:Rd h s cs) (rx:Rd h x xs) (aF:cs.length+xs.length≤2 ^ 45) :
  Pure Tryz.prog 127 [s,x] h (.ag (cs++vQ xs).length (ep (cs++vQ xs))):=by
 refine Pure.acc (e:=5) (sz:=1) (yB _) (by rw [nH,Nat.mul_one]) (by omega) ?_
 refine ab.ao (c:=_) Tryz.func127 rfl (by kernel_rfl) (by simp) ?_
 have hw:IntKind.i64.wrap (10+(xs.length:Int))=((10+xs.length:Nat):Int):=by rw [Go.IntWalk.i64_in _ (by omega)];omega
 have hu:=E3 (n:=xs.length) (by omega)
 simp only [aa,Nat.reduceEqDiff,reduceCtorEq,rx.len h (I.refl _ _),hw]
 refine bU CN (TU s cs (10+xs.length) h rd (by omega)) fun cA h1 cw=>?_
 simp only [aa,Nat.reduceEqDiff,rx.len h1 cw.aj,iZ fb ln,hu]
 refine bU EL (M7 cA cs xs.length h1 cw (by omega) (by omega)) fun eb ae a2=>?_
 have aM:=(nI xs.length (by omega)).2
 obtain ⟨v,aA,cg,a3⟩:=a2.app (P:=Tryz.prog) (tx:=87) ET (by decide) (rx.src ae a2.aj) (by rw [nH,Nat.mul_one]) (by simp only [nH,List.length_append,lim];omega) (by simp only [nH,List.length_append,lim];omega)
 simp only [aa,Nat.reduceEqDiff,cg,aI,Tryz.results127,ac]
 exact au (a3.conv (by rw [←MY,List.append_assoc];rfl))
theorem agO (s:V) (cs:List Nat) (l:List Int) (h:J) (rd:Rd h s cs) (aM:∀ n ∈ l,-2 ^ 63≤n∧n<2 ^ 63) (aF:cs.length+10 * l.length≤2 ^ 45) :
  Pure Tryz.prog 125 [s,.ag l.length (aO l)] h (.ag (cs++uJ l).length (ep (cs++uJ l))):=by
 refine Pure.acc (e:=5) (sz:=1) (yB _) (by rw [nH,Nat.mul_one]) (by omega) ?_
 refine ab.ao (c:=_) Tryz.func125 rfl (by kernel_rfl) (by simp) ?_
 have hw:IntKind.i64.wrap (10+(l.length:Int))=((10+l.length:Nat):Int):=by rw [Go.IntWalk.i64_in _ (by omega)];omega
 have hu:=E3 (n:=l.length) (by omega)
 simp only [aa,Nat.reduceEqDiff,reduceCtorEq,mh,hw]
 refine bU CN (TU s cs (10+l.length) h rd (by omega)) fun cA h1 cw=>?_
 simp only [aa,Nat.reduceEqDiff,mh,iZ fb ln,hu]
 refine bU EL (M7 cA cs l.length h1 cw (by omega) (by omega)) fun eb ae a2=>?_
 simp only [aa,Nat.reduceEqDiff,mh]
 refine aP.bG (α:=V×Nat) (fun x f h'=>f 5=x.1∧f 17=.ag l.length (aO l)∧f 18=.int .i64 (l.length:Nat)∧f 19=.int .i64 (x.2:Nat)∧Acc h h' 5 1 x.1 (ep (cs++enc l.length++(l.take x.2).flatMap fun n=>enc (hX n)))∧x.2≤l.length) (fun x=>l.length - x.2) (eb,0)
  ⟨rfl,rfl,rfl,rfl,by simpa using a2,Nat.zero_le _⟩ ?_
 rintro ⟨v,i⟩ f aA ⟨f5,f17,f18,f19,a3,hi⟩
 simp only at f5 f19 a3 hi
 refine dw (by kernel_rfl) ?_
 by_cases aH:i<l.length
 ·have bd:decide ((i:Int)<(l.length:Int))=true:=by simp;omega
  have hm:=aM _ (List.getElem_mem aH)
  have gD:IntKind.i64.wrap ((i:Int)+1)=((i+1:Nat):Int):=by rw [Go.IntWalk.i64_in _ (by omega)];rfl
  have hlen:(cs++enc l.length++(l.take i).flatMap fun n=>enc (hX n)).length≤2 ^ 46:=by
   have h1:=TW (l:=l.take i) fun n aG=>aM n (List.mem_of_mem_take aG)
   have ae:=(nI l.length (by omega)).2
   rw [List.length_take] at h1
   simp only [List.length_append]
   omega
  simp only [aa,Nat.reduceEqDiff,a7,f5,f17,f18,f19,bd,aep aH kr]
  refine bB SR (TQ _ aA hm.1 hm.2) ?_
  simp only [aa,Nat.reduceEqDiff]
  refine bU EL (M7 v _ _ aA a3 hlen (xe _ hm.1 hm.2)) fun Af bk a4=>?_
  simp only [aa,Nat.reduceEqDiff,f19,gD]
  refine au ⟨(Af,i+1),⟨rfl,f17,f18,rfl,?_,by simp only;omega⟩,by simp only;omega⟩
  refine a4.conv ?_
  rw [TV l _ aH,List.append_assoc]
 ·have bd:decide ((i:Int)<(l.length:Int))=false:=by simp;omega
  simp only [aa,Nat.reduceEqDiff,f5,f18,f19,bd,aI,Tryz.results125,ac]
  refine au (a3.conv ?_)
  rw [List.take_of_length_le (by omega),List.append_assoc]
  rfl
theorem agP (p:V) (i:Nat) (an:List Nat) (h:J) (aU:cU h p i an) (av:∀ b ∈ an,b<256) (aF:an.length≤2 ^ 47) :
  ab Tryz.prog 215 [p] h (fun r h'=>r=.tuple [.ag (fZ an).1.length (ep (fZ an).1),.int .i64 ((fZ an).2.2:Nat)]∧cU h' p i (fZ an).2.1∧I h h' (·=i)):=by
 refine ab.cast ?_
 refine ab.ao (c:=_) Tryz.func215 rfl (by kernel_rfl) (by simp) ?_
 simp only [aa,Nat.reduceEqDiff,reduceCtorEq]
 refine bB Ie (rest h p i an aU) ?_
 simp only [aa,Nat.reduceEqDiff]
 refine bB SU (number an h av (by omega)) ?_
 by_cases gp:(dec an 0 0).2.2=0
 ·have bZ:((((dec an 0 0).2.2:Nat):Int) !=0)=false:=by simp [gp]
  have Iw:=M5 an 0 0
  have aH:=dec_lt an 0 0 (by omega) (by decide) av
  obtain ⟨rfl,hi,aB⟩:=aU
  have sc:=TY an (dec an 0 0).2.1 (by omega) (kk:=.i64)
  have xD:=E3 (n:=(an.drop (dec an 0 0).2.1).length) (by rw [List.length_drop];omega)
  by_cases hf:(an.drop (dec an 0 0).2.1).length<(dec an 0 0).1
  ·have bd:decide ((((an.drop (dec an 0 0).2.1).length:Nat):Int)<(((dec an 0 0).1:Nat):Int))=true:=by simpa using hf
   have bj:fZ an=([],an,4):=by unfold fZ;rw [if_neg (by omega),if_pos hf]
   simp only [aa,Nat.reduceEqDiff,reduceCtorEq,EN,py,ES,sB,bZ,aB,sc,iZ fb ln,xD,bd,aI,Tryz.results215,cW]
   exact au ⟨_,_,yC _ _,by rw [bj];rfl,by rw [bj];exact ⟨rfl,hi,aB⟩,I.refl _ _⟩
  ·have bd:decide ((((an.drop (dec an 0 0).2.1).length:Nat):Int)<(((dec an 0 0).1:Nat):Int))=false:=by simp only [decide_eq_false_iff_not];omega
   have bj:fZ an=((an.drop (dec an 0 0).2.1).take (dec an 0 0).1,(an.drop (dec an 0 0).2.1).drop (dec an 0 0).1,0):=by unfold fZ;rw [if_neg (by omega),if_neg hf]
   have lf:(an.drop (dec an 0 0).2.1).length≤2 ^ 47:=by rw [List.length_drop];omega
   have s1:=TY (an.drop (dec an 0 0).2.1) (dec an 0 0).1 (by omega) (kk:=.u64)
   have s2:=aev (an.drop (dec an 0 0).2.1) (dec an 0 0).1 (by omega) (kk:=.u64)
   simp only [aa,Nat.reduceEqDiff,reduceCtorEq,EN,py,ES,MR,sB,bZ,aB,sc,iZ fb ln,xD,bd,s1,s2]
   refine bB CN (TK _ _ 0 _ (Rd.ag _ _) (by rw [List.length_take];omega)) ?_
   simp only [aa,Nat.reduceEqDiff,aI,Tryz.results215,cW]
   exact au ⟨_,_,aK.refl _ _,by rw [bj];rfl,by rw [bj];exact ⟨rfl,by rw [iw];exact hi,aL⟩,I.set _ _ _⟩
 ·have bZ:((((dec an 0 0).2.2:Nat):Int) !=0)=true:=by simp;omega
  have bb:=M4 an 0 0 gp
  have bj:fZ an=([],an,(dec an 0 0).2.2):=by unfold fZ;rw [if_pos gp]
  simp only [aa,Nat.reduceEqDiff,sB,bZ,aI,Tryz.results215,cW]
  exact au ⟨_,_,yC _ _,by rw [bj];rfl,by rw [bj];exact aU,I.refl _ _⟩
theorem agQ (p:V) (i:Nat) (an:List Nat) (most:Int) (h:J) (aU:cU h p i an) (av:∀ b ∈ an,b<256) (aF:an.length≤2 ^ 47) (sf:an.length≤2 ^ 40∨most≤2 ^ 40) (hm:-2 ^ 63≤most∧most<2 ^ 63) :
  ab Tryz.prog 214 [p,.int .i64 most] h (fun r h'=>r=.tuple [.ag (hh an most).1.length (aO (hh an most).1),.int .i64 ((hh an most).2.2:Nat)]∧cU h' p i (hh an most).2.1∧I h h' (·=i)):=by
 refine ab.cast ?_
 refine ab.ao (c:=_) Tryz.func214 rfl (by kernel_rfl) (by simp) ?_
 have bS:=aU.2.1
 simp only [aa,Int.reduceNeg,Nat.reduceEqDiff,reduceCtorEq]
 refine bB Ie (rest h p i an aU) ?_
 simp only [aa,Int.reduceNeg,Nat.reduceEqDiff,Tl,To,ad4]
 have dC:I h (h.push (.cells [.ag an.length (ep an)] 278 none)) none_:=I.push _ _ _
 have iN:cU (h.push (.cells [.ag an.length (ep an)] 278 none)) (.ptr h.n 0) h.n an:=⟨rfl,by rw [eA];omega,b6⟩
 refine bU Ic (Iv _ h.n an _ iN av (by omega)) fun r h1 ⟨ar,cA,bo⟩=>?_
 subst ar
 have bO:I h h1 none_:=dC.trans bo fun k hk hi=>by omega
 have N4:=aU.aj bO (by simp [none_])
 have jS:h.n<h1.n:=cA.2.1
 have aH:=dec_lt an 0 0 (by omega) (by decide) av
 by_cases gp:(dec an 0 0).2.2=0
 rotate_left
 ·have bZ:((((dec an 0 0).2.2:Nat):Int) !=0)=true:=by simp;omega
  have bj:hh an most=([],an,(dec an 0 0).2.2):=by unfold hh;rw [if_pos gp]
  simp only [aa,Int.reduceNeg,Nat.reduceEqDiff,bZ,aI,Tryz.results214,cW]
  exact au ⟨_,_,yC _ _,by rw [bj];rfl,by rw [bj];exact N4,bO.up⟩
 ·have bZ:((((dec an 0 0).2.2:Nat):Int) !=0)=false:=by simp [gp]
  have cR:=TZ av gp
  have Ev:(decide (most<(0:Int))=true∨(decide (most<(0:Int))=false∧decide (IntKind.u64.wrap most<(((dec an 0 0).1:Nat):Int))=decide (most<(((dec an 0 0).1:Nat):Int)))):=by
   by_cases h0:most<0
   ·left;simpa using h0
   ·right
    refine ⟨by simp;omega,?_⟩
    rw [IntKind.wrap_u64,Int.emod_eq_of_lt (by omega) (by omega)]
  by_cases pL:most<0∨most<(((dec an 0 0).1:Nat):Int)
  ·have bj:hh an most=([],an,2):=by unfold hh;rw [if_neg (by omega),if_pos pL]
   rcases Ev with bd | ⟨bd,bH⟩
   ·simp only [aa,Int.reduceNeg,Nat.reduceEqDiff,bZ,bd,aI,Tryz.results214,cW]
    exact au ⟨_,_,yC _ _,by rw [bj];rfl,by rw [bj];exact N4,bO.up⟩
   ·have c3:decide (most<(((dec an 0 0).1:Nat):Int))=true:=by
     rcases pL with h0 | h0
     ·simp at bd;omega
     ·simpa using h0
    simp only [aa,Int.reduceNeg,Nat.reduceEqDiff,bZ,bd,bH,c3,iZ fb ln,aI,Tryz.results214,cW]
    exact au ⟨_,_,yC _ _,by rw [bj];rfl,by rw [bj];exact N4,bO.up⟩
  ·have bd:decide (most<(0:Int))=false:=by simp;omega
   have bH:decide (IntKind.u64.wrap most<(((dec an 0 0).1:Nat):Int))=false:=by
    rw [IntKind.wrap_u64,Int.emod_eq_of_lt (by omega) (by omega)]
    simp;omega
   simp only [aa,Int.reduceNeg,Nat.reduceEqDiff,bZ,bd,bH,iZ fb ln]
   refine aP.bG (α:=V×Nat×List Nat×List Int) (fun x f h'=>f 0=p∧f 6=.ptr h.n 0∧f 9=x.1∧f 30=.int .u64 ((dec an 0 0).1:Nat)∧f 31=.int .u64 (x.2.1:Nat) ∧
     Own h' 3 1 x.1 (aO x.2.2.2)∧(∀ k,aR x.1=some k→h1.n≤k)∧I h1 h' (·=h.n)∧cU h' (.ptr h.n 0) h.n x.2.2.1 ∧
     od ((dec an 0 0).1 - x.2.1) x.2.2.1 x.2.2.2=od (dec an 0 0).1 (an.drop (dec an 0 0).2.1) []∧x.2.1≤(dec an 0 0).1∧(x.2.2.2.length+x.2.2.1.length≤an.length∧x.2.2.2.length≤x.2.1)∧∀ b ∈ x.2.2.1,b<256)
    (fun x=>(dec an 0 0).1 - x.2.1) (.ah,0,an.drop (dec an 0 0).2.1,[])
    ⟨rfl,rfl,rfl,rfl,rfl,Own.ah _ _ _,by simp [aR],I.refl _ _,cA,by simp,Nat.zero_le _,⟨by simp,by simp⟩,T1 av _⟩ ?_
   rintro ⟨v,k,rest,acc⟩ f ae ⟨f0,f6,f9,f30,f31,bc,dE,hk,F5,kW,qd,⟨hlen,IU⟩,kU⟩
   simp only at f9 f31 bc dE F5 kW qd hlen IU kU
   have agR:acc.length≤2 ^ 40:=by rcases sf with sf | sf<;>omega
   refine dw (by kernel_rfl) ?_
   have q1:I h ae none_:=bO.trans hk fun k hk hi=>by omega
   by_cases tP:k<(dec an 0 0).1
   ·have d1:decide ((k:Int)<(((dec an 0 0).1:Nat):Int))=true:=by simp;omega
    have gD:IntKind.u64.wrap ((k:Int)+1)=((k+1:Nat):Int):=by rw [IntKind.wrap_u64];omega
    rw [show (dec an 0 0).1 - k=((dec an 0 0).1 - (k+1))+1 by omega,od] at kW
    simp only [aa,Int.reduceNeg,Nat.reduceEqDiff,f6,f30,f31,d1]
    refine bU MD (Ae _ _ rest ae F5 kU (by omega)) fun r aA ⟨cg,jk,k3⟩=>?_
    subst cg
    have tY:I h aA none_:=q1.trans k3 fun k hk hi=>by omega
    have A9:Own aA 3 1 v (aO acc):=bc.aj k3 fun k hk hi=>by have:=dE k hk;omega
    have F6:=aU.aj tY (by simp [none_])
    by_cases mL:(dec rest 0 0).2.2=0
    rotate_left
    ·have uZ:((((dec rest 0 0).2.2:Nat):Int) !=0)=true:=by simp;omega
     rw [if_pos mL] at kW
     have bj:hh an most=([],an,(dec rest 0 0).2.2):=by
      unfold hh;rw [if_neg (by omega),if_neg pL,←kW,if_pos mL]
     simp only [aa,Int.reduceNeg,Nat.reduceEqDiff,uZ,aI,Tryz.results214,cW]
     exact au ⟨_,_,yC _ _,by rw [bj];rfl,by rw [bj];exact F6,tY.up⟩
    ·have uZ:((((dec rest 0 0).2.2:Nat):Int) !=0)=false:=by simp [mL]
     rw [if_neg (by omega)] at kW
     have agS:=TZ kU mL
     by_cases lh:eV (dec rest 0 0).1 < -2147483648∨2147483647<eV (dec rest 0 0).1
     ·rw [if_pos lh] at kW
      have bj:hh an most=([],an,2):=by
       unfold hh;rw [if_neg (by omega),if_neg pL,←kW];rfl
      by_cases uc:eV (dec rest 0 0).1 < -2147483648
      ·have g1:decide (eV (dec rest 0 0).1<(-2147483648:Int))=true:=by simpa using uc
       simp only [aa,Int.reduceNeg,Nat.reduceEqDiff,uZ,g1,aI,Tryz.results214,cW]
       exact au ⟨_,_,yC _ _,by rw [bj];rfl,by rw [bj];exact F6,tY.up⟩
      ·have g1:decide (eV (dec rest 0 0).1<(-2147483648:Int))=false:=by simpa using uc
       have g2:decide ((2147483647:Int)<eV (dec rest 0 0).1)=true:=by simp;omega
       simp only [aa,Int.reduceNeg,Nat.reduceEqDiff,uZ,g1,g2,aI,Tryz.results214,cW]
       exact au ⟨_,_,yC _ _,by rw [bj];rfl,by rw [bj];exact F6,tY.up⟩
     ·rw [if_neg lh] at kW
      have g1:decide (eV (dec rest 0 0).1<(-2147483648:Int))=false:=by simp;omega
      have g2:decide ((2147483647:Int)<eV (dec rest 0 0).1)=false:=by simp;omega
      obtain ⟨v4,bk,cq,cP,ey,iD⟩:=Ma (P:=Tryz.prog) tc (by decide) A9 (xs:=[.int .i64 (eV (dec rest 0 0).1)]) rfl rfl (by simp [pb,lim];omega) (by simp [pb,lim];omega)
      simp only [aa,Int.reduceNeg,Nat.reduceEqDiff,f9,f31,uZ,g1,g2,aew,cq,gD]
      have tL:¬bn v h.n:=fun U=>by have:=dE _ U;omega
      refine au ⟨(v4,k+1,rest.drop (dec rest 0 0).2.1,acc++[eV (dec rest 0 0).1]),⟨f0,f6,rfl,f30,rfl,?_,?_,?_,jk.aj ey tL,kW,by simp only;omega,?_,T1 kU _⟩,by simp only;omega⟩
      ·simp only [aO,List.map_append,List.map_cons,List.map_nil];exact cP
      ·intro k' fq
       rcases iD with iD | iD
       ·exact dE k' (by rw [←iD];exact fq)
       ·have:=iD k' fq;have:=hk.n;have:=k3.n;omega
      ·refine (hk.trans' k3).trans ey fun k' fq hi=>?_
       have:=dE k' hi;omega
      ·simp only [List.length_append,List.length_drop,List.length_cons,List.length_nil];omega
   ·have d1:decide ((k:Int)<(((dec an 0 0).1:Nat):Int))=false:=by simp;omega
    rw [show (dec an 0 0).1 - k=0 by omega,od] at kW
    have bj:hh an most=(acc,rest,0):=by
     unfold hh;rw [if_neg (by omega),if_neg pL,←kW];rfl
    have VL:=aU.aj q1 (by simp [none_])
    obtain ⟨rfl,_,lV⟩:=VL
    obtain ⟨_,_,j8⟩:=F5
    simp only [aa,Int.reduceNeg,Nat.reduceEqDiff,reduceCtorEq,EN,ES,MR,f0,f6,f9,f30,f31,d1,lV,j8,aI,Tryz.results214,cW]
    have B5:I ae (ae.set i (.cells [.ag rest.length (ep rest)] 278 none)) (·=i):=I.set _ _ _
    have q4:Own (ae.set i (.cells [.ag rest.length (ep rest)] 278 none)) 3 1 v (aO acc):=bc.aj B5 fun k' fq hi=>by have:=dE k' fq;omega
    obtain ⟨bN,c5,cG⟩:=aK.own q4 (n:=acc.length) (by rw [pb,Nat.mul_one]) (by omega)
    have tL:¬bn v i:=fun U=>by have:=dE _ U;omega
    have CZ:cU (ae.set i (.cells [.ag rest.length (ep rest)] 278 none)) (.ptr i 0) i rest:=⟨rfl,by rw [iw];exact Nat.lt_of_lt_of_le bS q1.n,aL⟩
    refine au ⟨_,bN,aK.tuple (az.cons c5 (az.refl _ _)),by rw [bj];rfl,by rw [bj];exact CZ.aj cG tL,?_⟩
    refine (q1.up.trans' B5).trans cG fun k' fq hi=>?_
    have:=dE k' hi;omega
theorem agT (op:Int):∀ (s:Nat) (e:bF) (h:J),dF e=s→fa e→Pure Tryz.prog 274 [.agg (aq e),.int .i64 op] h (.bool (sA op e)):=by
 intro s
 induction s using Nat.strongRecOn with
 | _ s ih=>
 intro e h ad ba
 obtain ⟨o,n,ax⟩:=e
 refine Pure.val (bh.bool _) ?_
 have hlen:=ba.len
 simp only [bF.ax] at hlen
 refine ab.ao (c:=_) Tryz.func274 rfl (by kernel_rfl) (by simp) ?_
 have aF:(V.agg (aq (.mk o n ax))).cells=some (aq (.mk o n ax)):=rfl
 have eQ:da (aV.cells (aq (.mk o n ax)) 27 none) 0=some [.int .i64 o,.int .i64 n,.ag ax.length (ax.flatMap aq)]:=by rw [hT];rfl
 have hS:da (aV.cells (aq (.mk o n ax)) 27 none) 2=some [.ag ax.length (ax.flatMap aq)]:=by rw [hT];rfl
 by_cases bc:o=op
 ·have c:(o==op)=true:=by simp [bc]
  simp only [aa,Nat.reduceEqDiff,lT,a7,aF,eQ,c,aI,Tryz.results274,ac]
  exact au ⟨by simp [sA,bc],I.push _ _ _⟩
 have c:(o==op)=false:=by simp [bc]
 have bj:sA op (.mk o n ax)=pD op ax:=by simp [sA,c]
 simp only [aa,Nat.reduceEqDiff,lT,nE,tw,oV,a7,aF,eQ,hS,c]
 refine aP.bG (α:=Nat) (fun i f h'=>f 1=.int .i64 op∧f 12=.ag ax.length (ax.flatMap aq)∧f 13=.int .i64 ((ax.length:Nat):Int)∧f 14=.int .i64 (i:Nat)∧i≤ax.length∧I h h' none_∧pD op ax=pD op (ax.drop i)) (fun i=>ax.length - i) 0 ⟨rfl,rfl,rfl,rfl,Nat.zero_le _,I.push _ _ _,rfl⟩ ?_
 rintro i f h' ⟨f1,f12,f13,f14,hi,hk,bC⟩
 refine dw (by kernel_rfl) ?_
 by_cases aH:i<ax.length
 rotate_left
 ·have c3:decide ((i:Int)<((ax.length:Nat):Int))=false:=by simp only [decide_eq_false_iff_not];omega
  rw [List.drop_of_length_le (by omega)] at bC
  simp only [aa,Nat.reduceEqDiff,f13,f14,c3,aI,Tryz.results274,ac]
  exact au ⟨by rw [bj,bC];simp [pD],hk⟩
 ·have c3:decide ((i:Int)<((ax.length:Nat):Int))=true:=by simp only [decide_eq_true_eq];omega
  rw [List.drop_eq_getElem_cons aH] at bC
  have eo:=DM (kk:=.i64) aH
  have u0:ax[i] ∈ (bF.mk o n ax).ax:=List.getElem_mem aH
  have hC:=MV _ u0
  have AG:=ba.yA _ u0
  generalize ax[i]=A at *
  have ib:∀ (q:List V),cX (some (some 3)) (some (aq A++q))=some (.agg (aq A)):=fun q=>lC (na A)
  have b3:(V.agg (aq A)).cells=some (aq A):=rfl
  have cK:bM (some 3) (aV.cells [.int .i64 0,.int .i64 0,.ah] 27 none) 0 (aq A)=some (.cells (aq A) 27 none):=by
   rw [rl (n:=3) (na A) (EV A),if_pos (by decide)];cases A;rfl
  have EW:da (aV.cells (aq A) 27 none) 0=some (aq A):=by cases A;rfl
  have fN:cX (some (some 3)) (some (aq A))=some (.agg (aq A)):=by cases A;rfl
  have b0:IntKind.i64.wrap (((i:Nat):Int)+1)=((i+1:Nat):Int):=by rw [Go.IntWalk.i64_in _ (by omega)];omega
  simp only [aa,Nat.reduceEqDiff,eG,my,lp,f1,f12,f13,f14,c3,eo,ib,b3,cK,EW,fN]
  refine bB S0 (ih (dF A) (by omega) A _ rfl AG) ?_
  cases hu:sA op A with
  | true=>
   simp only [aa,Nat.reduceEqDiff,aI,Tryz.results274,ac]
   exact au ⟨by rw [bj,bC];simp [pD,hu],hk.a8 _⟩
  | false=>
   simp only [aa,Nat.reduceEqDiff,f14,b0]
   exact au ⟨i+1,⟨f1,f12,f13,rfl,by omega,hk.a8 _,by rw [bC];simp [pD,hu]⟩,by omega⟩
theorem xl (v:bu):(al v).all (·.one)=true:=by
 have:=EV v.e
 simp only [al,List.all_append,this]
 rfl
theorem oo (v:bu):al v=[.int .i64 v.kind,.ag v.aS.length (aO v.aS),.int .i64 v.e.op,.int .i64 v.e.num,.ag v.e.ax.length (v.e.ax.flatMap aq),.int .i64 v.n]:=by
 obtain ⟨k,f,⟨o,m,ax⟩,n⟩:=v
 simp [al,hT,bF.op,bF.num,bF.ax]
def hy (x:Int):Prop:=-2 ^ 63≤x∧x<2 ^ 63
def tp (v:bu):Prop:=fa v.e∧v.aS.length<2 ^ 47∧hy v.kind∧hy v.n∧∀ f ∈ v.aS,hy f
abbrev xm:=Int×Int×Int×Int
def iV:List xm:=[(0,0,0,0),(0,0,0,7),(1,1,0,0),(1,1,0,0),(1,1,0,0),(1,1,0,0),(1,2,0,0),(1,2,1,1048576),(1,2,1,1048576),(2,2,0,0),(1,0,0,7)]
def IV (q:xm):List V:=[.int .i64 q.1,.int .i64 q.2.1,.int .i64 q.2.2.1,.int .i64 q.2.2.2]
def l9:List V:=iV.flatMap IV
def lP (h:J):Prop:=fc h∧h.glob 2=some l9
theorem lP.aj {h h':J} {M:Nat→Prop} (aB:lP h) (hk:I h h' M):lP h':=⟨aB.1.aj hk,by rw [hk.glob];exact aB.2⟩
theorem lP.or {h ad h':J} {M:Nat→Prop} (aB:lP ad) (lV:lP h) (hk:I ad h' M∨h'=h):lP h':=by
 rcases hk with hk | rfl
 ·exact aB.aj hk
 ·exact lV
def vV (e:bF) (k:Int):Bool:=if k=0 then (e.op==0&&(e.num==0&&e.ax.isEmpty)) else (cv e&&(k==2||!sA 5 e))
def rN (v:bu) (q:xm):Bool:=decide ((v.aS.length:Int)=q.1)&&(vV v.e q.2.1&&(decide (q.2.2.1≤v.n)&&decide (v.n≤q.2.2.2)))
def iE (v:bu):Bool:=rN v (iV.getD v.kind.toNat (0,0,0,0))
def fE (l:List bu) (f:Int):Int:=((l[f.toNat]?).map bu.kind).getD 0
def AH (l:List bu) (i:Nat) (v:bu):Bool:=(v.kind==1||v.kind==10)&&(l.take i).any fun u=>u.kind==v.kind&&u.n==v.n
def cL (l:List bu) (i:Nat) (v:bu):Int :=
 if v.kind<1∨10<v.kind then 1 else
 if (v.aS.any fun f=>decide (f<0∨(i:Int)≤f))=true then 2 else
 if iE v=false then 5 else
 if AH l i v=true then 12 else
 if (v.aS.any fun f=>fE l f==10)=true then 5 else
 if v.kind=9∧fE l (v.aS.getD 1 0)≠6 then 5 else 0
def ma (l:List bu):Nat→List bu→Int×Int
 | _,[]=>(-1,0)
 | i,v::r=>if cL l i v=0 then ma l (i+1) r else ((i:Int),cL l i v)
def ct (p:Int) (l:List bu):Int×Int:=if p<1∨8<p∨l.length=0∨24<l.length then (-1,2) else ma l 0 l
def ft (v:Int):Nat→List bu→List Int
 | _,[]=>[]
 | i,u::r=>(if u.aS.contains v then [(i:Int)] else [])++ft v (i+1) r
theorem VM (v:Int) (u:bu):∀ (l:List bu) (j:Nat),ft v j (l++[u])=ft v j l++(if u.aS.contains v then [((j+l.length:Nat):Int)] else [])
 | [],j=>by simp [ft]
 | a::r,j=>by
  simp only [List.cons_append,ft,VM v u r (j+1),List.length_cons,List.append_assoc]
  rw [show j+1+r.length=j+(r.length+1) by omega]
theorem B6 {v k:Int}:∀ {l:List bu} {j:Nat},k ∈ ft v j l↔∃ (m:Nat) (u:bu),k=((j+m:Nat):Int)∧l[m]?=some u∧v ∈ u.aS
 | [],j=>by simp [ft]
 | a::r,j=>by
  simp only [ft,List.mem_append,B6 (l:=r)]
  constructor
  ·rintro (h | ⟨m,u,h1,ae,aA⟩)
   ·split at h
    ·rename_i aF
     exact ⟨0,a,by simpa using h,rfl,by simpa using aF⟩
    ·simp at h
   ·exact ⟨m+1,u,by omega,by simpa using ae,aA⟩
  ·rintro ⟨m,u,h1,ae,aA⟩
   cases m with
   | zero=>
    left
    simp at ae
    subst ae
    rw [if_pos (by simpa using aA)]
    simpa using h1
   | succ m=>exact .inr ⟨m,u,by omega,by simpa using ae,aA⟩
theorem AJ {v:Int}:∀ {l:List bu} {j:Nat},(ft v j l).length≤l.length
 | [],j=>by simp [ft]
 | a::r,j=>by
  have:=AJ (v:=v) (l:=r) (j:=j+1)
  simp only [ft,List.length_append,List.length_cons]
  split<;>simp<;>omega
theorem N5 {l:List bu}:∀ {a:List bu} {i:Nat},(ma l i a).2=0→ma l i a=(-1,0)∧∀ k v,a[k]?=some v→cL l (i+k) v=0
 | [],i,h=>⟨rfl,by simp⟩
 | u::a,i,h=>by
  unfold ma at h⊢
  split at h
  ·rename_i h0
   rw [if_pos h0]
   obtain ⟨h1,ae⟩:=N5 h
   refine ⟨h1,fun k v hk=>?_⟩
   cases k with
   | zero=>simp at hk;subst hk;exact h0
   | succ k=>rw [show i+(k+1)=i+1+k by omega];exact ae k v (by simpa using hk)
  ·rename_i h0
   exact absurd h h0
theorem agU (e:bF) (k:Int) (ba:fa e) (h:J) (aB:fc h):Pure Tryz.prog 257 [.agg (aq e),.int .i64 k] h (.bool (vV e k)):=by
 refine Pure.val (bh.bool _) ?_
 have bC:aq e=[.int .i64 e.op,.int .i64 e.num,.ag e.ax.length (e.ax.flatMap aq)]:=by obtain ⟨o,n,l⟩:=e;rw [hT];rfl
 have eO:∀ a,fc (h.push a):=fun a=>by unfold fc;rw [DF];exact aB
 have aF:(V.agg (aq e)).cells=some (aq e):=rfl
 have de:cX (some none) (some (aq e))=some (.int .i64 e.op):=by rw [bC];rfl
 have eQ:da (aV.cells (aq e) 27 none) 0=some (aq e):=by rw [bC];rfl
 have hY:da (aV.cells (aq e) 27 none) 1=some [.int .i64 e.num,.ag e.ax.length (e.ax.flatMap aq)]:=by rw [bC];rfl
 have hS:da (aV.cells (aq e) 27 none) 2=some [.ag e.ax.length (e.ax.flatMap aq)]:=by rw [bC];rfl
 have ig:cX (some (some 3)) (some (aq e))=some (.agg (aq e)):=by rw [bC];rfl
 refine ab.ao (c:=_) Tryz.func257 rfl (by kernel_rfl) (by simp) ?_
 by_cases hk:k=0
 ·have c:(k==0)=true:=by simp [hk]
  have aM:(((e.ax.length:Nat):Int)==0)=e.ax.isEmpty:=by cases e.ax<;>simp;omega
  cases bd:(e.op==0)<;>cases bH:(e.num==0) <;>
  ·simp only [aa,Nat.reduceEqDiff,lT,CQ,nE,tw,br,oV,a7,aF,c,de,eQ,hY,hS,bd,bH,aM,aI,Tryz.results257,ac]
   exact au ⟨by simp [vV,hk,bd,bH],I.push _ _ _⟩
 ·have c:(k==0)=false:=by simp [hk]
  have bj:vV e k=(cv e&&(k==2||!sA 5 e)):=by simp [vV,hk]
  simp only [aa,Nat.reduceEqDiff,eG,aF,c,eQ,ig]
  refine bB My (Aa e _ (eO _)) ?_
  cases bd:cv e
  ·simp only [aa,Nat.reduceEqDiff,aI,Tryz.results257,ac]
   exact au ⟨by rw [bj,bd];rfl,I.push _ _ _⟩
  ·cases bH:(k==2)
   ·simp only [aa,Nat.reduceEqDiff,eG,eQ,ig,bH]
    refine bB S0 (agT 5 _ e _ rfl ba) ?_
    simp only [aa,Nat.reduceEqDiff,aI,Tryz.results257,ac]
    exact au ⟨by rw [bj,bd,bH];simp,I.push _ _ _⟩
   ·simp only [aa,Nat.reduceEqDiff,bH,aI,Tryz.results257,ac]
    exact au ⟨by rw [bj,bd,bH];rfl,I.push _ _ _⟩
theorem agV (v:bu) (q:xm) (ba:fa v.e) (h:J) (aB:fc h):Pure Tryz.prog 213 [.agg (al v),.agg (IV q)] h (.bool (rN v q)):=by
 refine Pure.val (bh.bool _) ?_
 obtain ⟨tX,cq,cP,ey⟩:=q
 have fp:=oo v
 have aF:(V.agg (al v)).cells=some (al v):=rfl
 have iJ:(V.agg (IV (tX,cq,cP,ey))).cells=some [.int .i64 tX,.int .i64 cq,.int .i64 cP,.int .i64 ey]:=rfl
 have hY:da (aV.cells (al v) 29 none) 1=some [.ag v.aS.length (aO v.aS),.int .i64 v.e.op,.int .i64 v.e.num,.ag v.e.ax.length (v.e.ax.flatMap aq),.int .i64 v.n]:=by rw [fp];rfl
 have hS:da (aV.cells (al v) 29 none) 2=some (aq v.e++[.int .i64 v.n]):=rfl
 have rO:da (aV.cells (al v) 29 none) 5=some [.int .i64 v.n]:=by rw [fp];rfl
 have ig:cX (some (some 3)) (some (aq v.e++[.int .i64 v.n]))=some (.agg (aq v.e)):=lC (na v.e)
 refine ab.ao (c:=_) Tryz.func213 rfl (by kernel_rfl) (by simp) ?_
 obtain ⟨H,hH⟩:∃ x,x=(h.push (.cells (al v) 29 none)).push (.cells [.int .i64 tX,.int .i64 cq,.int .i64 cP,.int .i64 ey] 338 none):=⟨_,rfl⟩
 have g3:H.get h.n=.cells (al v) 29 none:=by rw [hH];exact ve
 have g4:H.get (h.n+1)=.cells [.int .i64 tX,.int .i64 cq,.int .i64 cP,.int .i64 ey] 338 none:=by rw [hH];exact wq
 have bq:I h H none_:=by rw [hH];exact (I.push _ _ _).a8 _
 have hW:fc H:=aB.aj bq
 cases mE:(((v.aS.length:Nat):Int)==tX)
 ·have d0:decide (((v.aS.length:Nat):Int)=tX)=false:=by simpa using mE
  simp only [aa,Nat.reduceEqDiff,Nat.reduceAdd,oU,Tg,mh,lb,a7,aF,iJ,←hH,g3,g4,hY,mE,aI,Tryz.results213,ac]
  exact au ⟨by simp [rN,d0],bq⟩
 ·have d0:decide (((v.aS.length:Nat):Int)=tX)=true:=by simpa using mE
  simp only [aa,Nat.reduceEqDiff,Nat.reduceAdd,Nat.reduceLeDiff,oU,nF,Tg,adq,mh,lb,eG,a7,aF,iJ,←hH,g3,g4,hY,hS,ig,mE]
  refine bB ada (agU v.e cq ba _ hW) ?_
  cases bd:vV v.e cq
  ·simp only [aa,Nat.reduceEqDiff,aI,Tryz.results213,ac]
   exact au ⟨by simp [rN,bd],bq⟩
  cases bH:decide (cP≤v.n)
  ·simp only [aa,Nat.reduceEqDiff,Nat.reduceAdd,Nat.reduceLeDiff,vM,Th,br,g3,g4,rO,bH,aI,Tryz.results213,ac]
   exact au ⟨by simp [rN,bH],bq⟩
  ·simp only [aa,Nat.reduceEqDiff,Nat.reduceAdd,Nat.reduceLeDiff,vM,Th,adr,br,g3,g4,rO,bH,aI,Tryz.results213,ac]
   exact au ⟨by simp only [rN,d0,bd,bH,Bool.true_and],bq⟩
end Go.Proofs.YtedkjhifbibpmaaGreatDoor.Pk
