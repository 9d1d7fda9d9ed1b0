/-
  What functions of the program do, told of abstract states. Conditions: as each theorem says.
-/
import Derived.Test.YtceanabgcnieeaaGreatDoorEvA
import Derived.Test.YtceanabgcnieeaaGreatDoorPA
import Derived.Test.YtceanabgcnieeaaGreatDoorAbC
import Derived.Test.YtceanabgcnieeaaGreatDoorPC
import Derived.Test.YtceanabgcnieeaaGreatDoorPD
set_option linter.unusedVariables false
set_option linter.unusedSimpArgs false
set_option maxHeartbeats 8000000
set_option maxRecDepth 10000
namespace Go.Proofs.YtceanabgcnieeaaGreatDoor.Pk
open Go Go.Proofs Go.Proofs.YtceanabgcnieeaaGreatDoor.Ab
theorem alU (p q:Value) (w:World):CallsD Tryz.prog 304 #[p,q] .returning w fun e p0 w'=>e=.returned (.tuple #[])∧p0=.returning∧w'=w:=by
 refine callsD_of_wpS Tryz.func304 rfl fun c₀ cs hu=>?_
 apply wpS_seq
 apply wpS_region
 simp [wpOpsS,go_sem,recoverD,hu,Tryz.ntmps304,Exit.thenS]
 refine wpS_cond (t:=false) (by simp [Act.eval,Array.replicate]) ?_
 simp only [Bool.false_eq_true,if_false]
 refine wpS_of_wp (wp_skip ?_)
 cases c₀
 simp_all [bodyPostS,results,Tryz.results304]
theorem alV {h:I} {fJ fK:V} {R:I→Prop} (ed:R h):Mn Tryz.prog 304 [fJ,fK] h R:=by
 intro ρ B aG w args' hw aL
 obtain ⟨p,t1,aK,az,AU⟩:=aL.dF
 obtain ⟨q,t2,rfl,ae,xy⟩:=AU.dF
 have:=xy.eq_nil
 subst this
 obtain rfl:args'=#[p,q]:=Array.ext' (by simpa using aK)
 exact (alU p q w).mono fun e p0 w' ⟨h1,ab,aI⟩=>⟨h1,ab,ρ,h,aI ▸ hw,Ren.le.refl ρ,ed⟩
theorem Pe:l4 Tryz.prog 231:=⟨_,Tryz.func231,by kernel_rfl,by kernel_rfl,by kernel_rfl,by kernel_rfl,382,2,by kernel_rfl,by decide⟩
theorem Pf:l3 Tryz.prog 232:=⟨_,Tryz.func232,by kernel_rfl,by kernel_rfl,by kernel_rfl,by kernel_rfl,382,by kernel_rfl⟩
theorem Pg:mY Tryz.prog 349:=⟨_,Tryz.func349,by kernel_rfl,by kernel_rfl,by kernel_rfl,by kernel_rfl,431,492,2,4,by kernel_rfl,by kernel_rfl,Tryz.underlying431,by kernel_rfl⟩
theorem Ph:mY Tryz.prog 358:=⟨_,Tryz.func358,by kernel_rfl,by kernel_rfl,by kernel_rfl,by kernel_rfl,437,454,3,4,by kernel_rfl,by kernel_rfl,Tryz.underlying437,by kernel_rfl⟩
noncomputable def XL:List V:=[0,0,0,0,0,0,2,2,2,2,2,2,2,3,1,2,2].map (V.int .i64)
noncomputable def XM:List V:=[0,0,0,0,0,0,0,7,1,1,0,0,1,1,0,0,1,1,0,0,1,1,0,0,1,2,0,0,1,2,1,1048576,1,2,1,1048576,2,2,0,0,1,0,0,7].map (V.int .i64)
noncomputable def XN:List V:=[0,24,63,199,7,3,0].map (V.int .i64)
noncomputable def bR:List (Nat×List V):=[(0,XM),(1,XN),(2,XL)]
def GW : List (Nat × String × Nat) := [(116, "Bytes", 380), (116, "Cut", 381), (116, "Sync", 175), (116, "Append", 379)]
def wy (t:Nat) (s:String):List (Nat×String×Nat)→Option Nat
 | []=>none
 | p::l=>cond (Nat.beq p.1 t&&decide (p.2.1=s)) (some p.2.2) (wy t s l)
theorem XO {t:Nat} {s:String} {f:Nat}:∀ {l:List (Nat×String×Nat)},wy t s l=some f→(t,s,f) ∈ l
 | [],h=>by cases h
 | p::l,h=>by
  unfold wy at h
  cases al:(Nat.beq p.1 t&&decide (p.2.1=s)) with
  | true=>
   rw [al] at h
   obtain rfl:=Option.some.inj h
   simp only [Bool.and_eq_true,decide_eq_true_eq] at al
   obtain ⟨h1,ab⟩:=al
   have h1:=Nat.eq_of_beq_eq_true h1
   subst h1;subst ab
   exact List.mem_cons_self
  | false=>
   rw [al] at h
   exact List.mem_cons_of_mem _ (XO h)
theorem Pj:∀ p ∈ GW,dX Tryz.prog p.1 p.2.1 p.2.2:=by
 unfold GW
 simp only [List.forall_mem_cons,List.not_mem_nil,false_imp_iff,implies_true,and_true]
 refine ⟨?_,?_,?_,?_⟩<;>exact ⟨fun v w=>by kernel_rfl,by kernel_rfl⟩
theorem BC {a b:Nat} (h:a≠b):Nat.beq a b=false:=by
 cases e:Nat.beq a b
 ·rfl
 ·exact absurd (Nat.eq_of_beq_eq_true e) h
def yy (f:Nat):Nat:=cond (Nat.beq f 231) 3 (cond (Nat.beq f 232) 2 (cond (Nat.beq f 349||Nat.beq f 358) 1 0))
theorem Pl (f:Nat):(yy f=1→mY Tryz.prog f)∧(yy f=2→l3 Tryz.prog f)∧(yy f=3→l4 Tryz.prog f):=by
 unfold yy
 by_cases h1:f=231
 ·subst h1
  exact ⟨fun h=>(nomatch (show (3:Nat)=1 from h)),fun h=>(nomatch (show (3:Nat)=2 from h)),fun _=>Pe⟩
 ·have aK:Nat.beq f 231=false:=BC h1
  rw [aK]
  by_cases ab:f=232
  ·subst ab
   exact ⟨fun h=>(nomatch (show (2:Nat)=1 from h)),fun _=>Pf,fun h=>(nomatch (show (2:Nat)=3 from h))⟩
  ·have a6:Nat.beq f 232=false:=BC ab
   rw [a6]
   by_cases aI:f=349
   ·subst aI
    exact ⟨fun _=>Pg,fun h=>(nomatch (show (1:Nat)=2 from h)),fun h=>(nomatch (show (1:Nat)=3 from h))⟩
   ·have dB:Nat.beq f 349=false:=BC aI
    rw [dB]
    by_cases h4:f=358
    ·subst h4
     exact ⟨fun _=>Ph,fun h=>(nomatch (show (1:Nat)=2 from h)),fun h=>(nomatch (show (1:Nat)=3 from h))⟩
    ·have hj:Nat.beq f 358=false:=BC h4
     rw [hj]
     exact ⟨fun h=>(nomatch (show (0:Nat)=1 from h)),fun h=>(nomatch (show (0:Nat)=2 from h)),fun h=>(nomatch (show (0:Nat)=3 from h))⟩
noncomputable def Ak (fid:FuncId) (args:List V) (s:bg):Option (V×bg):=match args with
 | [.int .u8 c]=>cond (Nat.beq fid 275) (some (.int .u32 (jz (IntKind.u32.wrap c) 8),s)) none
 | _=>none
theorem alW {f:FuncId} {a:List V} {s bF:bg} {r:V} (h:Ak f a s=some (r,bF)):fj s bF∧ah Tryz.prog f a (s.a bR) fun x h=>x=r∧h=bF.a bR:=by
 unfold Ak at h
 split at h
 case h_2=>cases h
 rename_i c
 cases ar:Nat.beq f 275 with
 | false=>rw [ar] at h;cases h
 | true=>
  rw [ar] at h
  obtain rfl:=Nat.eq_of_beq_eq_true ar
  simp only [cond_true,Option.some.injEq,Prod.mk.injEq] at h
  obtain ⟨rfl,rfl⟩:=h
  exact ⟨fj.refl s,entry c (s.a bR)⟩
noncomputable def Al (T:List bW) (cV:∀ e ∈ T,e.Ok Tryz.prog bR):Ext Tryz.prog bR where
 mixed:=by kernel_rfl
 ext:=yy
 sl:=Pl
 zq:=fun t s=>wy t s GW
 dX:=fun t s f h=>Pj _ (XO h)
 vP:=fun f=>Nat.beq f 217
 sm:=fun f=>Nat.beq f 304
 A3:=fun g aE fJ fK h R ed=>by obtain rfl:=Nat.eq_of_beq_eq_true aE;exact alV ed
 sn:=fun f=>Nat.beq f 275||T.any fun e=>Nat.beq e.fid f
 Ez:=fun f a s=>cond (Nat.beq f 275) (Ak f a s) (MW T f a s)
 A4:=fun f a s r bF _ h=>by
  cases ar:Nat.beq f 275 with
  | true=>rw [ar] at h;exact alW h
  | false=>rw [ar] at h;exact afv cV h
noncomputable def hz:Ext Tryz.prog bR:=Al [] fun e he=>nomatch he
theorem XP:∀ k cs,cJ bR k=some cs→∀ v ∈ cs,∃ gF n,v=.int gF n:=by
 intro k cs hk v aN
 unfold cJ at hk
 rw [Option.map_eq_some_iff] at hk
 obtain ⟨p,az,rfl⟩:=hk
 have hm:=List.mem_of_find?_eq_some az
 unfold bR at hm
 simp only [List.mem_cons,List.not_mem_nil,or_false] at hm
 rcases hm with rfl | rfl | rfl
 all_goals
  simp only [XM,XN,XL,List.mem_map] at aN
  obtain ⟨n,_,rfl⟩:=aN
  exact ⟨_,n,rfl⟩
theorem Pm {h:I} (aE:h.glob=cJ bR):vU (cJ bR) h:=fun k cs hk=>⟨by rw [aE];exact hk,XP k cs hk⟩
theorem Am {e:bW} (he:e.Ok Tryz.prog bR) (ay:e.S.a bR=ta (cJ bR)) (aL:aO e.args) {h:I} (aE:h.glob=cJ bR) :
  ah Tryz.prog e.fid e.args h fun r U=>r=nG h.n 4 e.r∧U=nH 4 h (e.lb.a bR):=ah.shift 4 (ay ▸ he.2) aL (Pm aE)
def i8 (n:Int):V:=.int .i64 n
def u8 (n:Int):V:=.int .u8 n
def pe:V:=.agg [.an 3 [i8 1,.ag,i8 0,i8 0,.ag,i8 0,i8 6,.an 1 [i8 0],i8 6,i8 0,.an 2 [i8 5,i8 0,.ag,i8 3,i8 0,.ag],i8 0,i8 10,.an 1 [i8 1],i8 0,i8 0,.ag,i8 0],i8 2]
def yz:V:=.an 19 ([2,3,1,0,0,0,6,1,0,0,3,6,5,3,10,1,2,0,0].map u8)
theorem ny (n:Int):bb (i8 n):=bb.int _ _
theorem Pn:bb .ag:=fun ρ ρ' v' h _=>by cases h;exact .ag
theorem CV:bb pe:=by
 refine bb.agg (aO.cons (bb.an ?_) (aO.cons (ny _) aO.nil))
 intro v aN
 simp only [List.mem_cons,List.not_mem_nil,or_false] at aN
 rcases aN with rfl | rfl | rfl | rfl | rfl | rfl | rfl | rfl | rfl | rfl | rfl | rfl | rfl | rfl | rfl | rfl | rfl | rfl
 all_goals first
  | exact ny _
  | exact Pn
  | exact bb.an (aO.cons (ny _) aO.nil)
  | exact bb.an (aO.cons (ny _) (aO.cons (ny _) (aO.cons Pn (aO.cons (ny _) (aO.cons (ny _) (aO.cons Pn aO.nil))))))
theorem XQ:bb yz:=bb.an fun v aN=>by
 obtain ⟨n,_,rfl⟩:=List.mem_map.1 aN
 exact bb.int _ _
def mr (f:FuncId) (a:List V) (r:V) (n:Nat) (L:List (Nat×aD)):bW:={ fid:=f,args:=a,n:=0,b:=0,w:=[],L:=[],r:=r,n':=n,w':=[],L':=L }
def mS:bW:=mr 9 [i8 2] (.agg [.aj 5 0 3 3,i8 2]) 6 [(1,.cells [i8 5,i8 0,.ag,i8 3,i8 0,.ag] 80 none),(3,.cells [i8 0] 3 none),(4,.cells [i8 1] 3 none),
 (5,.cells [i8 1,.ag,i8 0,i8 0,.ag,i8 0,i8 6,.aj 3 0 1 1,i8 6,i8 0,.aj 1 0 2 2,i8 0,i8 10,.aj 4 0 1 1,i8 0,i8 0,.ag,i8 0] 82 none)]
def vh:bW:=mr 24 [yz] (.tuple [.agg [.aj 46 0 3 ai,i8 2],i8 0]) 73 [(15,.cells [i8 0] 3 (some 1)),(33,.cells [i8 5,i8 0,.ag,i8 3,i8 0,.ag] 80 (some 3)),(41,.cells [i8 1] 3 (some 1)),
 (46,.cells [i8 1,.ag,i8 0,i8 0,.ag,i8 0,i8 6,.aj 15 0 1 ai,i8 6,i8 0,.aj 33 0 2 ai,i8 0,i8 10,.aj 41 0 1 ai,i8 0,i8 0,.ag,i8 0] 82 (some 6))]
def tW:bW:=mr 22 [pe] (.tuple [.aj 86 0 19 28,i8 0]) 88 [(86,.cells ([2,3,1,0,0,0,6,1,0,0,3,6,5,3,10,1,2,0,0,0,0,0,0,0,0,0,0,0].map u8) 5 none)]
def An:bW:=mr 11 [] (.aj 0 0 3 3) 1 [(0,.cells [.bool true,.bool true,.bool true] 4 none)]
def BD:List (Nat×V×V):=[(0,i8 1,.func (.func 58) [] []),(1,i8 2,.func (.func 59) [] []),(2,i8 3,.func (.func 60) [] []),(3,i8 4,.func (.func 61) [] []),(4,i8 5,.func (.func 62) [] []),(5,i8 6,.func (.func 63) [] []),(6,i8 7,.func (.func 64) [] [])]
def K2:bW:=mr 27 [] (.map 0) 1 [(0,.map BD 7)]
def GX:bW:=mr 39 [pe] (.bool true) 26 []
def GY:bW:=mr 26 [pe] (i8 2) 37 []
def GZ (p:Int):bW:=mr 18 [pe,i8 0,i8 0,i8 p] (i8 p) 27 []
def Po:bW:=mr 25 [.an 1 [i8 (-1)],i8 2] (.aj 0 0 2 2) 1 [(0,.cells [i8 (-1),i8 (-1)] 3 none)]
theorem alX:mS.gE Tryz.prog bR hz 100000=true:=by decide +kernel
theorem XR:vh.gE Tryz.prog bR hz 100000=true:=by decide +kernel
theorem alY:tW.gE Tryz.prog bR hz 100000=true:=by decide +kernel
theorem Pp:An.gE Tryz.prog bR hz 100000=true:=by decide +kernel
theorem XS:K2.gE Tryz.prog bR hz 100000=true:=by decide +kernel
theorem alZ:GX.gE Tryz.prog bR hz 100000=true:=by decide +kernel
theorem al0:GY.gE Tryz.prog bR hz 100000=true:=by decide +kernel
theorem al1:(GZ 0).gE Tryz.prog bR hz 100000=true:=by decide +kernel
theorem al2:(GZ 1).gE Tryz.prog bR hz 100000=true:=by decide +kernel
theorem Pq:Po.gE Tryz.prog bR hz 100000=true:=by decide +kernel
theorem aV.vi {h:I} {i n cap sz:Nat} {c cs:List V} {e:TypeId} {ex:Option Nat} (aE:h.get i=.cells c e ex) (cp:c.take (n * sz)=cs) (hlen:cs.length=n * sz):aV (.aj i 0 n cap) h (.an n cs) (h.set i .dead):=fun ρ B aG w r' hw aN=>by
 obtain ⟨ρ',hle,bo,b,bh,arr,aq,aB,al,aw⟩:=hw.freeze aE
 obtain ⟨cZ,hs,eN,gz,rfl⟩:=aN.ft
 rw [aq] at eN
 simp at eN
 obtain ⟨rfl,rfl⟩:=eN
 have cr:n * sz≤c.length:=by
  have:=congrArg List.length cp
  rw [List.length_take,hlen] at this
  omega
 refine ⟨ρ',hle,bo,.an 0 n _ aB gz (by rw [hlen];omega) fun k v v' h1 ab=>?_⟩
 have hk:k<n * sz:=by rw [←hlen];exact (List.getElem?_eq_some_iff.1 h1).1
 rw [←cp,List.getElem?_take,if_pos hk] at h1
 refine (aw.2 k v v' h1 ?_).mono hle
 rw [List.getElem?_take,if_pos (by omega),Array.getElem?_toList]
 simpa using ab
theorem G0 {l dN:List V} {h ab:I} (a:aS l h dN ab):aV (.tuple l) h (.tuple dN) ab:=fun ρ B aG w r' hw aN=>by
 cases aN with
 | tuple J af=>
  rename_i xs
  obtain ⟨ρ1,fg,bK,v1⟩:=a ρ B aG w xs.toList hw ⟨by simpa using J,by simpa using af⟩
  exact ⟨ρ1,fg,bK,.tuple (by simpa using v1.1) fun k v v' h1 ab=>v1.2 k v v' h1 (by simpa using ab)⟩
theorem XT {h:I} {v a k b fv Pr fQ cv:Nat} {aK a6 dB hj:TypeId} {fM oJ kQ JA:Option Nat} (aN:h.get v=.cells [i8 1,.ag,i8 0,i8 0,.ag,i8 0,i8 6,.aj a 0 1 fv,i8 6,i8 0,.aj k 0 2 Pr,i8 0,i8 10,.aj b 0 1 fQ,i8 0,i8 0,.ag,i8 0] aK fM)
  (aL:h.get a=.cells [i8 0] a6 oJ) (hk:h.get k=.cells [i8 5,i8 0,.ag,i8 3,i8 0,.ag] dB kQ) (ar:h.get b=.cells [i8 1] hj JA) (d:v≠a∧v≠k∧v≠b∧k≠a∧b≠a∧b≠k) :
  ∃ ab,aV (.agg [.aj v 0 3 cv,i8 2]) h pe ab∧aa h ab (fun x=>x=v∨x=a∨x=k∨x=b):=by
 obtain ⟨d1,d2,d3,d4,d5,d6⟩:=d
 have al3:aV (.aj a 0 1 fv) h (.an 1 [i8 0]) (h.set a .dead):=aV.vi (sz:=1) aL rfl rfl
 have al4:aV (.aj k 0 2 Pr) (h.set a .dead) (.an 2 [i8 5,i8 0,.ag,i8 3,i8 0,.ag]) ((h.set a .dead).set k .dead):=aV.vi (sz:=3) ((nS d4).trans hk) rfl rfl
 have al5:aV (.aj b 0 1 fQ) ((h.set a .dead).set k .dead) (.an 1 [i8 1]) (((h.set a .dead).set k .dead).set b .dead):=aV.vi (sz:=1) ((nS d6).trans ((nS d5).trans ar)) rfl rfl
 have R:∀ (x:V) (h:I),aV x h x h:=aV.refl
 have cr:aS [i8 1,.ag,i8 0,i8 0,.ag,i8 0,i8 6,.aj a 0 1 fv,i8 6,i8 0,.aj k 0 2 Pr,i8 0,i8 10,.aj b 0 1 fQ,i8 0,i8 0,.ag,i8 0] h
   [i8 1,.ag,i8 0,i8 0,.ag,i8 0,i8 6,.an 1 [i8 0],i8 6,i8 0,.an 2 [i8 5,i8 0,.ag,i8 3,i8 0,.ag],i8 0,i8 10,.an 1 [i8 1],i8 0,i8 0,.ag,i8 0] (((h.set a .dead).set k .dead).set b .dead) :=
  aS.cons (R _ _) <| aS.cons (R _ _) <| aS.cons (R _ _) <| aS.cons (R _ _) <| aS.cons (R _ _) <| aS.cons (R _ _) <| aS.cons (R _ _) <| aS.cons al3 <| aS.cons (R _ _) <| aS.cons (R _ _) <| aS.cons al4 <| aS.cons (R _ _) <|
   aS.cons (R _ _) <| aS.cons al5 <| aS.refl _ _
 have XU:=(nS (o:=.dead) d3 (h:=(h.set a .dead).set k .dead)).trans ((nS (o:=.dead) d2 (h:=h.set a .dead)).trans ((nS (o:=.dead) d1 (h:=h)).trans aN))
 have c5:=aV.sk aN cr XU rfl (.aj v 0 3 cv)
 have hg:=c5.trans (aV.vi (n:=3) (sz:=6) e4 rfl rfl)
 refine ⟨_,wm (aS.cons hg (aS.refl _ _)),?_⟩
 have kk:∀ (h:I) (i:Nat) (o:aD),aa h (h.set i o) (·=i):=fun h i o=>aa.set h i o
 refine ((((((kk _ a _).mono fun x af=>.inr (.inl af)).trans (kk _ k _) fun x _ af=>.inr (.inr (.inl af))).trans (kk _ b _) fun x _ af=>.inr (.inr (.inr af))).trans (kk _ v _) fun x _ af=>.inl af).trans (kk _ v _) fun x _ af=>.inl af)
theorem al6 {h:I} (aE:h.glob=cJ bR):Pure Tryz.prog 9 [i8 2] h pe:=by
 refine Pure.of CV ((Am (bW.da alX) rfl (aO.cons (ny _) aO.nil) aE).mono fun r U ⟨aK,a6⟩=>?_)
 have g5:(mS.lb.a bR).get 5=.cells [i8 1,.ag,i8 0,i8 0,.ag,i8 0,i8 6,.aj 3 0 1 1,i8 6,i8 0,.aj 1 0 2 2,i8 0,i8 10,.aj 4 0 1 1,i8 0,i8 0,.ag,i8 0] 82 none:=by kernel_rfl
 have g1:(mS.lb.a bR).get 1=.cells [i8 5,i8 0,.ag,i8 3,i8 0,.ag] 80 none:=by kernel_rfl
 have g3:(mS.lb.a bR).get 3=.cells [i8 0] 3 none:=by kernel_rfl
 have g4:(mS.lb.a bR).get 4=.cells [i8 1] 3 none:=by kernel_rfl
 obtain ⟨ab,c,k⟩:=XT (h:=nH 4 h (mS.lb.a bR)) (v:=5+h.n) (a:=3+h.n) (k:=1+h.n) (b:=4+h.n) (cv:=3) ((tm 5).trans (by rw [g5];rfl)) ((tm 3).trans (by rw [g3];rfl)) ((tm 1).trans (by rw [g1];rfl)) ((tm 4).trans (by rw [g4];rfl)) ⟨by omega,by omega,by omega,by omega,by omega,by omega⟩
 rw [aK,a6]
 exact ⟨ab,c,(zz 4 h _).trans k fun x af ad=>(show False by omega)⟩
theorem Ps {h:I} (aE:h.glob=cJ bR):Pure Tryz.prog 24 [yz] h (.tuple [pe,i8 0]):=by
 refine Pure.of (bb.tuple (aO.cons CV (aO.cons (ny _) aO.nil))) ((Am (bW.da XR) rfl (aO.cons XQ aO.nil) aE).mono fun r U ⟨aK,a6⟩=>?_)
 have XV:(vh.lb.a bR).get 46=.cells [i8 1,.ag,i8 0,i8 0,.ag,i8 0,i8 6,.aj 15 0 1 ai,i8 6,i8 0,.aj 33 0 2 ai,i8 0,i8 10,.aj 41 0 1 ai,i8 0,i8 0,.ag,i8 0] 82 (some 6):=by kernel_rfl
 have XW:(vh.lb.a bR).get 33=.cells [i8 5,i8 0,.ag,i8 3,i8 0,.ag] 80 (some 3):=by kernel_rfl
 have g15:(vh.lb.a bR).get 15=.cells [i8 0] 3 (some 1):=by kernel_rfl
 have XX:(vh.lb.a bR).get 41=.cells [i8 1] 3 (some 1):=by kernel_rfl
 obtain ⟨ab,c,k⟩:=XT (h:=nH 4 h (vh.lb.a bR)) (v:=46+h.n) (a:=15+h.n) (k:=33+h.n) (b:=41+h.n) (cv:=ai) ((tm 46).trans (by rw [XV];rfl)) ((tm 15).trans (by rw [g15];rfl)) ((tm 33).trans (by rw [XW];rfl)) ((tm 41).trans (by rw [XX];rfl)) ⟨by omega,by omega,by omega,by omega,by omega,by omega⟩
 rw [aK,a6]
 refine ⟨ab,?_,(zz 4 h _).trans k fun x af ad=>(show False by omega)⟩
 exact G0 (aS.cons c (aS.refl _ _))
theorem al7 {h:I} (aE:h.glob=cJ bR):Pure Tryz.prog 22 [pe] h (.tuple [yz,i8 0]):=by
 refine Pure.of (bb.tuple (aO.cons XQ (aO.cons (ny _) aO.nil))) ((Am (bW.da alY) rfl (aO.cons CV aO.nil) aE).mono fun r U ⟨aK,a6⟩=>?_)
 have g:(tW.lb.a bR).get 86=.cells ([2,3,1,0,0,0,6,1,0,0,3,6,5,3,10,1,2,0,0,0,0,0,0,0,0,0,0,0].map u8) 5 none:=by kernel_rfl
 have sQ:(nH 4 h (tW.lb.a bR)).get (86+h.n)=.cells ([2,3,1,0,0,0,6,1,0,0,3,6,5,3,10,1,2,0,0,0,0,0,0,0,0,0,0,0].map u8) 5 none:=(tm 86).trans (by rw [g];rfl)
 rw [aK,a6]
 refine ⟨_,G0 (aS.cons (aV.vi (sz:=1) (n:=19) (cap:=28) sQ rfl rfl) (aS.refl _ _)),(zz 4 h _).trans (aa.set _ _ _) fun x af ad=>(show False by have:x=86+h.n:=ad;omega)⟩
theorem Ao {h:I} (aE:h.glob=cJ bR):Pure Tryz.prog 11 [] h (.an 3 [.bool true,.bool true,.bool true]):=by
 refine Pure.of (bb.an (aO.cons (bb.bool _) (aO.cons (bb.bool _) (aO.cons (bb.bool _) aO.nil)))) ((Am (bW.da Pp) rfl aO.nil aE).mono fun r U ⟨aK,a6⟩=>?_)
 have g:(An.lb.a bR).get 0=.cells [.bool true,.bool true,.bool true] 4 none:=by kernel_rfl
 have sQ:(nH 4 h (An.lb.a bR)).get (0+h.n)=.cells [.bool true,.bool true,.bool true] 4 none:=(tm 0).trans (by rw [g];rfl)
 rw [aK,a6]
 refine ⟨_,aV.vi (sz:=1) (n:=3) (cap:=3) sQ rfl rfl,(zz 4 h _).trans (aa.set _ _ _) fun x af ad=>(show False by have:x=0+h.n:=ad;omega)⟩
theorem tX {e:bW} (he:e.Ok Tryz.prog bR) (ay:e.S.a bR=ta (cJ bR)) (aL:aO e.args) {v:V} (aN:bb v) (aq:∀ k,nG k 4 e.r=v) {h:I} (aE:h.glob=cJ bR):Pure Tryz.prog e.fid e.args h v :=
 Pure.val aN ((Am he ay aL aE).mono fun r U ⟨aK,a6⟩=>⟨by rw [aK,aq],by rw [a6];exact zz _ _ _⟩)
theorem FS {h:I} (aE:h.glob=cJ bR):Pure Tryz.prog 39 [pe] h (.bool true):=tX (bW.da alZ) rfl (aO.cons CV aO.nil) (bb.bool _) (fun _=>rfl) aE
theorem al8 {h:I} (aE:h.glob=cJ bR):Pure Tryz.prog 26 [pe] h (i8 2):=tX (bW.da al0) rfl (aO.cons CV aO.nil) (ny _) (fun _=>rfl) aE
theorem al9 {h:I} (aE:h.glob=cJ bR) {p:Int} (az:p=0∨p=1):Pure Tryz.prog 18 [pe,i8 0,i8 0,i8 p] h (i8 p):=by
 have a1:∀ p,aO [pe,i8 0,i8 0,i8 p]:=fun p=>aO.cons CV (aO.cons (ny _) (aO.cons (ny _) (aO.cons (ny _) aO.nil)))
 rcases az with rfl | rfl
 ·exact tX (bW.da al1) rfl (a1 0) (ny _) (fun _=>rfl) aE
 ·exact tX (bW.da al2) rfl (a1 1) (ny _) (fun _=>rfl) aE
theorem ama {h:I} (aE:h.glob=cJ bR):ah Tryz.prog 25 [.an 1 [i8 (-1)],i8 2] h fun r U=>r=.aj (0+h.n) 0 2 2∧aa h U none_ :=
 (Am (bW.da Pq) rfl (aO.cons (bb.an (aO.cons (ny _) aO.nil)) (aO.cons (ny _) aO.nil)) aE).mono fun r U ⟨aK,a6⟩=>⟨aK,by rw [a6];exact zz _ _ _⟩
theorem amb {h:I} (aE:h.glob=cJ bR):ah Tryz.prog 27 [] h fun r U=>∃ m,r=.map m∧h.n≤m∧m<U.n∧U.get m=.map BD 7∧aa h U none_ :=
 (Am (bW.da XS) rfl aO.nil aE).mono fun r U ⟨aK,a6⟩=>by
  have g:(K2.lb.a bR).get 0=.map BD 7:=by kernel_rfl
  refine ⟨0+h.n,aK,by omega,?_,?_,by rw [a6];exact zz _ _ _⟩
  ·rw [a6]
   show 0+h.n<h.n+1
   omega
  ·rw [a6]
   exact (tm 0).trans (by rw [g];rfl)
def kA:List V:=[i8 1,.ag,i8 0,i8 0,.ag,i8 0,i8 6,.an 1 [i8 0],i8 6,i8 0,.an 2 [i8 5,i8 0,.ag,i8 3,i8 0,.ag],i8 0,i8 10,.an 1 [i8 1],i8 0,i8 0,.ag,i8 0]
theorem XY:pe=.agg [.an 3 kA,.int .i64 2]:=rfl
structure iH (ay h:I) (C L:Nat) (rs:Nat→eg) (dv bL pv:V) (ow:Nat→Nat) (s:hd):Prop where
 log:dS ay h L 1048576 3 rs dv bL pv ow s
 get:∃ qP fr,h.get C=.cells [.an 3 kA,.int .i64 2,.ptr L 0,qP,fr] 74 none
 own:ow C=0
 lt:C<h.n
 cJ:h.glob=cJ bR
theorem iH.on {ay h U:I} {C L:Nat} {rs:Nat→eg} {dv bL pv:V} {ow:Nat→Nat} {s:hd} (w:iH ay h C L rs dv bL pv ow s) (k:aa h U none_):iH ay U C L rs dv bL pv ow s :=
 ⟨w.log.on k,let ⟨a,b,g⟩:=w.get;⟨a,b,(k.get C w.lt fun ad=>ad).trans g⟩,w.own,Nat.lt_of_lt_of_le w.lt k.n,k.glob.trans w.cJ⟩
theorem iH.after {ay h U:I} {C L:Nat} {rs db:Nat→eg} {dv bL pv bS:V} {ow ow':Nat→Nat} {s bF:hd} (w:iH ay h C L rs dv bL pv ow s) (l:dS ay U L 1048576 3 db dv bL bS ow' bF) (f:cY h U ow ow'):iH ay U C L db dv bL bS ow' bF :=
 ⟨l,let ⟨a,b,g⟩:=w.get;⟨a,b,(f.au.get C w.lt fun ad=>ad w.own).trans g⟩,f.z C w.lt w.own,Nat.lt_of_lt_of_le w.lt f.au.n,f.au.glob.trans w.cJ⟩
theorem amc (h:I) (i:Nat):iA Tryz.prog 72 1 [(0,.map i)] h=some (.aj h.n 0 1 1,h.push (.cells [.map i] 75 none)):=by rw [lN S9];rfl
theorem amd (h:I):iA Tryz.prog 50 1 [(0,.int .i64 (-1))] h=some (.aj h.n 0 1 1,h.push (.cells [.int .i64 (-1)] 3 none)):=by rw [lN xQ];rfl
theorem ame (h:I) (kt:h.glob=cJ bR) :
  ah Tryz.prog 8 [.agg [.an 3 kA,.int .i64 2],.int .i64 2,.int .i64 3,.int .i64 1048576] h fun r U=>∃ ay C L rs dv bL ow,r=.tuple [.ptr C 0,.int .i64 0]∧iH ay U C L rs dv bL .ag ow l1∧aa h U none_∧aa h ay none_:=by
 have BE:(V.agg [.an 3 kA,.int .i64 2]).cells=some [.an 3 kA,.int .i64 2]:=rfl
 obtain ⟨H,hH⟩:∃ x,x=h.push (.cells [.an 3 kA,.int .i64 2] 30 none):=⟨_,rfl⟩
 have gt:H.get h.n=.cells [.an 3 kA,.int .i64 2] 30 none:=by rw [hH];exact c4
 have c6:aa h H none_:=by rw [hH];exact aa.push _ _ _
 have o8:H.n=h.n+1:=by rw [hH];rfl
 have G1:H.glob=cJ bR:=c6.glob.trans kt
 have XZ:ca (some 2) (aD.cells [V.ag,.int .i64 0] 30 none) 0 [.an 3 kA,.int .i64 2]=some (.cells [.an 3 kA,.int .i64 2] 30 none):=rfl
 have tag:V.agg [.an 3 kA,.int .i64 2]=pe:=rfl
 have a6:((0:Int) !=0)=false:=rfl
 have dB:decide ((2:Int)<1)=false:=rfl
 have hj:decide ((16:Int)<2)=false:=rfl
 refine ah.aH (c:=_) Tryz.func8 rfl (by kernel_rfl) (by simp) ?_
 simp only [ao,Int.reduceNeg,Nat.reduceEqDiff,Nat.reduceAdd,Fb,BE,←hH,gt]
 refine cK agd (tag ▸ al7 G1) ?_
 unfold i8
 simp only [ao,Int.reduceLT,Int.reduceNeg,Nat.reduceEqDiff]
 refine cC age (ali H 3 (by decide) 1048576 (by decide)) fun r H1 ⟨L,rs,dv,bL,ow,j5,bK⟩=>?_
 subst j5
 have bj:aa h H1 none_:=c6.trans' bK.au
 have c9:=bK.au.n
 have rW:H1.glob=cJ bR:=bj.glob.trans kt
 simp only [ao,Int.reduceNeg,Nat.reduceEqDiff]
 refine cK agk (Ps rW) ?_
 rw [XY]
 unfold i8
 simp only [ao,Int.reduceNeg,Nat.reduceEqDiff,Nat.reduceAdd,Nat.reduceLeDiff,Fb,ahv,ahH,ahK,ahQ,BE,XZ]
 obtain ⟨cA,eU⟩:∃ x,x=(H1.push (.cells [.an 3 kA,.int .i64 2] 30 none)).push (.cells [.an 3 kA,.int .i64 2,.ptr L 0,.ag,.ag] 74 none):=⟨_,rfl⟩
 rw [←eU]
 have k2:aa H1 cA none_:=by rw [eU];exact (aa.push _ _ _).trans' (aa.push _ _ _)
 have fw:cA.n=H1.n+2:=by rw [eU];rfl
 have uo:cA.get H1.n=.cells [.an 3 kA,.int .i64 2] 30 none:=by rw [eU];exact (jN (by show H1.n<H1.n+1;omega)).trans c4
 have uI:cA.get (H1.n+1)=.cells [.an 3 kA,.int .i64 2,.ptr L 0,.ag,.ag] 74 none:=by rw [eU];exact c4
 clear eU
 refine aZ.cu (α:=Nat) (fun i f U=>i≤2∧f 13=.ptr H1.n 0∧f 15=.ptr (H1.n+1) 0∧f 48=.int .i64 2∧f 49=.int .i64 (i:Nat)∧aa H1 U none_∧cA.n≤U.n∧U.get H1.n=.cells [.an 3 kA,.int .i64 2] 30 none ∧
  ∃ qP cs,cs.length=i∧Own U 75 1 qP cs∧(∀ x,aA qP=some x→H1.n+1<x)∧U.get (H1.n+1)=.cells [.an 3 kA,.int .i64 2,.ptr L 0,qP,.ag] 74 none) (fun i=>2 - i) 0
  ⟨by omega,rfl,rfl,rfl,rfl,k2,Nat.le_refl _,uo,.ag,[],rfl,Own.ag _ _ _,fun x af=>by simp [aA] at af,uI⟩ ?_
 rintro i f ab ⟨hi,f13,f15,f48,f49,kk,GI,K3,qP,cs,dd,ea,BF,yA⟩
 refine gn (by kernel_rfl) ?_
 by_cases aT:i<2
 ·have d1:decide (((i:Nat):Int)<2)=true:=decide_eq_true (by omega)
  have hw:IntKind.i64.wrap (((i:Nat):Int)+1)=((i+1:Nat):Int):=by rw [Go.IntWalk.i64_in _ (by omega)];omega
  have lit:=amc (ab.push (.map [] 0)) ab.n
  have eu:aa ab (ab.push (.map [] 0)) none_:=aa.push _ _ _
  obtain ⟨bF,h4,hF,kG,iF,d4⟩:=bv (P:=Tryz.prog) (h:=ab.push (.map [] 0)) S9 (by decide) (ea.cP eu) (xs:=[.map ab.n]) rfl rfl (fun m hm=>by
   change m * 1=cs.length+1 at hm
   exact ⟨by simp only [lim];omega,by simp only [lim];omega⟩)
  have BG:aa ab h4 (aW qP):=(eu.up).trans iF fun q ae ad=>ad
  have n4:=BG.n
  have anH:=ea.lt
  have G2:=(BG.get (H1.n+1) (by omega) (fun ad=>by have:=BF _ ad;omega)).trans yA
  have X0:=(BG.get H1.n (by omega) (fun ad=>by have:=BF _ ad;omega)).trans K3
  obtain ⟨q,sB,bh,rfl⟩:∃ q sB bh,bF=.aj q 0 sB bh:=by
   rcases kG with ⟨_,e⟩ | ⟨q,sB,bh,_,_,e,_⟩
   ·simp at e
   ·exact ⟨q,sB,bh,e⟩
  have X1:k6 Tryz.prog 72 72 qP (.aj (ab.n+1) 0 1 1) ((ab.push (.map [] 0)).push (.cells [.map ab.n] 75 none))=some (.aj q 0 sB bh,h4):=hF
  have ae:H1.n+1<q:=by
   rcases d4 with d | d
   ·exact BF q (d ▸ rfl)
   ·have:=d q rfl;have:ab.n+1≤q:=this;omega
  have g3:∀ (a b c d e:V),cW (aD.cells [a,b,c,d,e] 74 none) 3=some [d,e]:=fun _ _ _ _ _=>rfl
  simp only [ao,Int.reduceNeg,Nat.reduceEqDiff,Nat.reduceAdd,Nat.reduceLeDiff,ag1,ahe,LE,f15,f48,f49,d1,yA,g3,lit,X1,G2,hw]
  refine aR ⟨i+1,⟨by omega,f13,f15,f48,rfl,((kk.trans BG fun q ae ad=>by have:=BF q ad;omega)).trans (aa.set _ _ _) fun q ae e=>(show False by have:q=H1.n+1:=e;omega),by show cA.n≤h4.n;omega,(nS (by omega)).trans X0,.aj q 0 sB bh,cs++[.map ab.n],by simp [dd],?_,fun x af=>by simp [aA] at af;omega,e4⟩,by omega⟩
  exact kG.au (aa.set _ _ _) fun x af ad=>by simp [aA] at af;have:x=H1.n+1:=ad;omega
 ·obtain rfl:i=2:=by omega
  have d1:decide ((((2:Nat):Int))<2)=false:=rfl
  have lit:=amd ab
  have eu:=aa.push ab (.cells [.int .i64 (-1)] 3 none) none_
  have X2:=(eu.get H1.n (by omega) (by simp [none_])).trans K3
  have X3:(ab.push (.cells [.int .i64 (-1)] 3 none)).glob=cJ bR:=(kk.trans' eu).glob.trans rW
  simp only [ao,Int.reduceNeg,Nat.reduceEqDiff,Nat.reduceAdd,Fb,f13,f15,f48,f49,d1,lit,X2]
  refine cK No (tag ▸ al8 X3) ?_
  unfold i8
  simp only [ao,Int.reduceNeg,Nat.reduceEqDiff]
  obtain ⟨aI,c3,b2⟩:=aV.lit (h:=ab) (c:=[.int .i64 (-1)]) (e:=3) (n:=1) (sz:=1) rfl (by decide) (by decide)
  have FB:aI.glob=cJ bR:=(kk.trans' b2).glob.trans rW
  refine cC agl (ah.args (aS.cons c3 (aS.refl _ _)) (ama FB)) fun r h4 ⟨j5,xJ⟩=>?_
  subst j5
  have gM:aa ab h4 none_:=b2.trans' xJ
  have G2:=(gM.get (H1.n+1) (by omega) (by simp [none_])).trans yA
  simp only [ao,Int.reduceNeg,Nat.reduceEqDiff,Nat.reduceAdd,ag2,NF,f15,G2,bd,Tryz.results8,ha]
  have hC:aa H1 (h4.set (H1.n+1) (.cells [.an 3 kA,.int .i64 2,.ptr L 0,qP,.aj aI.n 0 2 2] 74 none)) none_:=(kk.trans' gM).trans (aa.set _ _ _) fun q ae e=>(show False by have:q=H1.n+1:=e;omega)
  have n4:=gM.n
  exact aR ⟨H,H1.n+1,L,rs,dv,bL,ow,rfl,⟨bK.on hC,⟨qP,_,e4⟩,Classical.byContradiction fun ad=>by have:=bK.ns.bt _ ad;omega,(show H1.n+1<h4.n by omega),hC.glob.trans rW⟩,bj.trans' hC,c6⟩
def prt (k:Int):Int:=if k.tmod 2<0 then k.tmod 2+2 else k.tmod 2
theorem X4 (k:Int):-2<k.tmod 2∧k.tmod 2<2:=by
 have e:=Int.tmod_lt_of_pos k (show (0:Int)<2 by decide)
 have a6:=Int.tmod_lt_of_pos (-k) (show (0:Int)<2 by decide)
 rw [Int.neg_tmod] at a6
 omega
theorem JG (k:Int):prt k=0∨prt k=1:=by
 have:=X4 k
 unfold prt
 split<;>omega
theorem amf (k:Int) {h:I} (aE:h.glob=cJ bR):Pure Tryz.prog 91 [.agg [.an 3 kA,.int .i64 2],.int .i64 k] h (.int .i64 (prt k)):=by
 refine Pure.val (bb.int _ _) ?_
 have BE:(V.agg [.an 3 kA,.int .i64 2]).cells=some [.an 3 kA,.int .i64 2]:=rfl
 obtain ⟨H,hH⟩:∃ x,x=h.push (.cells [.an 3 kA,.int .i64 2] 30 none):=⟨_,rfl⟩
 have gt:H.get h.n=.cells [.an 3 kA,.int .i64 2] 30 none:=by rw [hH];exact c4
 have c6:aa h H none_:=by rw [hH];exact aa.push _ _ _
 have G1:H.glob=cJ bR:=c6.glob.trans aE
 have tag:V.agg [.an 3 kA,.int .i64 2]=pe:=rfl
 have ar:(2:Int)≠0:=by decide
 refine ah.aH (c:=_) Tryz.func91 rfl (by kernel_rfl) (by simp) ?_
 simp only [ao,Int.reduceNeg,Nat.reduceEqDiff,Nat.reduceAdd,Fb,BE,←hH,gt]
 refine cK agA (tag ▸ FS G1) ?_
 simp only [ao,Int.reduceNeg,Nat.reduceEqDiff,Nat.reduceAdd,Nat.reduceLeDiff,SK,bz,gt,LY ar]
 by_cases c:k.tmod 2<0
 ·have d:decide (k.tmod 2<0)=true:=decide_eq_true c
  have hw:IntKind.i64.wrap (k.tmod 2+2)=k.tmod 2+2:=by
   have:=X4 k
   exact Go.IntWalk.i64_in _ (by omega)
  simp only [ao,Nat.reduceEqDiff,Nat.reduceAdd,Nat.reduceLeDiff,SK,bz,gt,d,hw,bd,Tryz.results91,bT]
  exact aR ⟨by rw [prt,if_pos c],c6⟩
 ·have d:decide (k.tmod 2<0)=false:=decide_eq_false c
  simp only [ao,Nat.reduceEqDiff,d,bd,Tryz.results91,bT]
  exact aR ⟨by rw [prt,if_neg c],c6⟩
def iP (x:bk):List V:=[.int .i64 x.kind,.int .i64 x.task,.int .i64 x.aF,.int .i64 x.fV,.int .i64 x.log,.int .i64 x.r.k,.int .i64 x.r.v,.int .i64 x.r.t,.bool x.del,.ag,.ag]
def tY (rc:Nat→Bool) (x:bk) (s bF:hd) (e:Int):Prop :=
 (cy x=false∧e=1∧bF=s)∨(cy x=true∧e=(eG 1048576 3 rc (dc x) s).2.2∧bF=(eG 1048576 3 rc (dc x) s).1)
theorem G3 {h:I} (aE:h.glob=cJ bR):qy h:=by
 unfold qy
 rw [aE]
 all_goals rfl
theorem amg {ay h:I} {C L:Nat} {rs:Nat→eg} {dv bL pv:V} {ow:Nat→Nat} {s:hd} (w:iH ay h C L rs dv bL pv ow s) (x:bk) (af:GN x) (av:x.bA=[]) (aq:x.order=[]) (reach:List Bool) {rv:V} (hf:e7 h ow rv reach) (jG:reach.length≤2 ^ 47) :
  ah Tryz.prog 92 [.ptr C 0,.agg (iP x),rv] h fun r U=>∃ e bF db bS ow',r=.int .i64 e∧tY (bH reach) x s bF e∧iH ay U C L db dv bL bS ow' bF∧cY h U ow ow':=by
 have al:(V.agg (iP x)).cells=some (iP x):=rfl
 obtain ⟨H,hH⟩:∃ y,y=h.push (.cells (iP x) 140 none):=⟨_,rfl⟩
 have gt:H.get h.n=.cells (iP x) 140 none:=by rw [hH];exact c4
 have c6:aa h H none_:=by rw [hH];exact aa.push _ _ _
 have amh:cW (aD.cells (iP x) 140 none) 0=some (iP x):=rfl
 have lt:(if 11≤(iP x).length then some (V.agg ((iP x).take 11)) else none)=some (V.agg (iP x)):=rfl
 have X5:hI (some (some 11)) (some (iP x))=some (V.agg (iP x)):=rfl
 have fA:=w.on c6
 have d2:∀ (a b c d e:V),cW (aD.cells [a,b,c,d,e] 74 none) 2=some [c,d,e]:=fun _ _ _ _ _=>rfl
 obtain ⟨qP,fr,uI⟩:=fA.get
 have dH:oA x:=by unfold oA;rw [av,aq];simp
 have ami:aS [.agg (iP x)] H [.agg (aY x)] H:=by
  refine aS.cons (wm ?_) (aS.refl _ _)
  unfold iP aY
  rw [av,aq]
  have R:∀ (x:V),aV x H x H:=fun x=>aV.refl x H
  exact aS.cons (R _) <| aS.cons (R _) <| aS.cons (R _) <| aS.cons (R _) <| aS.cons (R _) <| aS.cons (R _) <| aS.cons (R _) <| aS.cons (R _) <| aS.cons (R _) <| aS.cons (aV.s4 H) <| aS.cons (aV.s4 H) <| aS.refl _ _
 refine ah.aH (c:=_) Tryz.func92 rfl (by kernel_rfl) (by simp) ?_
 simp only [ao,Nat.reduceEqDiff,mf,al,←hH,gt,amh,X5]
 refine cK afJ (Pure.args ami (alB x H (G3 fA.cJ) af dH)) ?_
 by_cases hm:cy x=true
 ·have aN:pX x=dc x:=if_pos hm
  have hk:Ai x=0:=if_pos hm
  have a6:((0:Int) !=0)=false:=rfl
  rw [aN,hk]
  simp only [ao,Nat.reduceEqDiff,reduceCtorEq,IQ,xP,uI,d2]
  refine cC afK (ale fA.log (by decide) (dc x) (Xm x) reach (hf.j8 (cY.none ow c6)) jG) fun r ab ⟨aK,db,bS,ow',bV,f2⟩=>?_
  subst aK
  simp only [ao,Nat.reduceEqDiff,bd,Tryz.results92,bT]
  exact aR ⟨_,_,db,bS,ow',rfl,.inr ⟨hm,rfl,rfl⟩,fA.after bV f2,(cY.none ow c6).trans f2⟩
 ·have fE:cy x=false:=by simpa using hm
  have hk:Ai x=1:=if_neg hm
  have a6:((1:Int) !=0)=true:=rfl
  rw [hk]
  simp only [ao,Nat.reduceEqDiff,a6,bd,Tryz.results92,bT]
  exact aR ⟨1,s,rs,pv,ow,rfl,.inl ⟨fE,rfl,rfl⟩,fA,cY.none ow c6⟩
def fY (gF:Int) (r:eP) (rv:V):List V:=[.int .i64 gF,.int .i64 0,.int .i64 0,.int .i64 0,.int .i64 0,.int .i64 0,.int .i64 r.k,.int .i64 r.v,.int .i64 r.t,rv]
theorem e7.one {h:I} {ow:Nat→Nat} {rv:V} {l:List Bool} (r:e7 h ow rv l):rv.one=true:=by
 rcases r.v with e | o
 ·rw [e];rfl
 ·rcases o with ⟨e | e,_⟩ | ⟨_,_,_,_,_,e,_⟩<;>rw [e]<;>rfl
theorem amj {ay h:I} {C L:Nat} {rs:Nat→eg} {dv bL pv:V} {ow:Nat→Nat} {s:hd} (w:iH ay h C L rs dv bL pv ow s) (he:0≤s.ep∧s.ep<2 ^ 40) (gF:Int) (r:eP) (reach:List Bool) {rv:V} (hf:e7 h ow rv reach) (jG:reach.length≤2 ^ 47) :
  ah Tryz.prog 59 [.ptr C 0,.agg (fY gF r rv)] h fun x U=>∃ e bF db bS ow',x=.tuple [.int .i64 0,.int .i64 e]∧qJ 1048576 3 (bH reach) s bF e∧iH ay U C L db dv bL bS ow' bF∧bF.ep=s.ep+1∧cY h U ow ow':=by
 have al:(V.agg (fY gF r rv)).cells=some (fY gF r rv):=rfl
 obtain ⟨H,hH⟩:∃ y,y=h.push (.cells (fY gF r rv) 39 none):=⟨_,rfl⟩
 have gt:H.get h.n=.cells (fY gF r rv) 39 none:=by rw [hH];exact c4
 have c6:aa h H none_:=by rw [hH];exact aa.push _ _ _
 have fA:=w.on c6
 have d2:∀ (a b c d e:V),cW (aD.cells [a,b,c,d,e] 74 none) 2=some [c,d,e]:=fun _ _ _ _ _=>rfl
 have d9:cW (aD.cells (fY gF r rv) 39 none) 9=some [rv]:=rfl
 have one:=hf.one
 obtain ⟨qP,fr,uI⟩:=fA.get
 refine ah.aH (c:=_) Tryz.func59 rfl (by kernel_rfl) (by simp) ?_
 simp only [ao,al,←hH]
 refine aZ.b4 none_ [6] (.q 0 (.q 1 (.q 2 (.q 3 (.q 4 (.q 5 (.a 6 (.q 7 (.q 8 .done))))))))) (by kernel_rfl) (by kernel_rfl) (by kernel_rfl) ?_
 simp only [ao,b6,Nat.reduceEqDiff,reduceCtorEq,SP,IQ,Fc,xP,uI,gt,d2,d9]
 refine cC agP (ala fA.log he (by decide) reach (hf.j8 (cY.none ow c6)) jG) fun x ab ⟨bF,e,db,bS,ow',o,aK,bV,ep,f2⟩=>?_
 subst aK
 simp only [ao,b6,Nat.reduceEqDiff,bd,Tryz.results59,ha]
 exact aR ⟨e,bF,db,bS,ow',rfl,o,fA.after bV f2,ep,(cY.none ow c6).trans f2⟩
def gQ (r:eP):bk:=⟨1,0,0,0,prt r.k,r,false,[],[]⟩
theorem amk {ay h:I} {C L:Nat} {rs:Nat→eg} {dv bL pv:V} {ow:Nat→Nat} {s:hd} (w:iH ay h C L rs dv bL pv ow s) (r:eP) (aq:ia r) (gF:Int) (reach:List Bool) {rv:V} (hf:e7 h ow rv reach) (jG:reach.length≤2 ^ 47) :
  ah Tryz.prog 58 [.ptr C 0,.agg (fY gF r rv)] h fun x U=>∃ e bF db bS ow',x=.tuple [.int .i64 0,.int .i64 e]∧tY (bH reach) (gQ r) s bF e∧iH ay U C L db dv bL bS ow' bF∧cY h U ow ow':=by
 have al:(V.agg (fY gF r rv)).cells=some (fY gF r rv):=rfl
 obtain ⟨H,hH⟩:∃ y,y=h.push (.cells (fY gF r rv) 39 none):=⟨_,rfl⟩
 have gt:H.get h.n=.cells (fY gF r rv) 39 none:=by rw [hH];exact c4
 have c6:aa h H none_:=by rw [hH];exact aa.push _ _ _
 have fA:=w.on c6
 have d0:∀ (a b c d e:V),cW (aD.cells [a,b,c,d,e] 74 none) 0=some [a,b,c,d,e]:=fun _ _ _ _ _=>rfl
 have h1:cW (aD.cells (fY gF r rv) 39 none) 1=some [.int .i64 0,.int .i64 0,.int .i64 0,.int .i64 0,.int .i64 0,.int .i64 r.k,.int .i64 r.v,.int .i64 r.t,rv]:=rfl
 have dT:cW (aD.cells (fY gF r rv) 39 none) 6=some [.int .i64 r.k,.int .i64 r.v,.int .i64 r.t,rv]:=rfl
 have NK:cW (aD.cells (fY gF r rv) 39 none) 9=some [rv]:=rfl
 have yR:ik Tryz.prog 28 (.an 3 kA) (.int .i64 0)=some (.at (.int .i64 1::kA.drop 1)):=by kernel_rfl
 have bf:decide ((0:Int)<0)=false:=rfl
 have bx:decide (((3:Nat):Int)≤0)=false:=rfl
 have c3:((1:Int) !=1)=false:=rfl
 obtain ⟨qP,fr,uI⟩:=fA.get
 have K4:∀ {M:Nat→Prop} {U:I},aa H U M∨U=H→U.glob=cJ bR:=fun hk=>by
  rcases hk with hk | hk
  ·exact hk.glob.trans fA.cJ
  ·rw [hk];exact fA.cJ
 refine ah.aH (c:=_) Tryz.func58 rfl (by kernel_rfl) (by simp) ?_
 simp only [ao,al,←hH]
 refine aZ.b4 none_ [] (.q 0 (.q 1 (.q 2 (.q 3 (.q 4 (.q 5 (.q 6 (.q 7 (.q 8 (.q 9 (.q 10 (.q 11 (.q 12 (.q 13 (.q 14 (.q 15 (.q 16 (.q 17 (.q 18 (.q 19 (.q 20 (.q 21 (.q 22 (.q 23 (.q 24 (.q 25 (.q 26 .done))))))))))))))))))))))))))) (by kernel_rfl) (by kernel_rfl) (by kernel_rfl) ?_
 simp only [ao,b6,Int.reduceLT,Nat.reduceEqDiff,reduceCtorEq,agU,SN,SR,ag3,ag7,ahb,bz,uI,gt,d0,h1,yR,bx]
 refine aZ.b4 none_ [] (.q 0 (.q 1 (.q 2 (.q 3 (.q 4 (.q 5 (.q 6 (.q 7 (.q 8 (.q 9 (.q 10 (.q 11 (.q 12 (.c 13 (.c 14 (.q 15 .done)))))))))))))))) (by kernel_rfl) (by kernel_rfl) (by kernel_rfl) ?_
 simp only [ao,b6,Nat.reduceEqDiff,Nat.reduceAdd,Nat.reduceLeDiff,reduceCtorEq,SM,SN,SO,SR,nj,bz,Fb,uI,gt,d0,h1,dT]
 refine jQ rfl rfl rfl (fun U hk=>amf r.k (K4 hk)) ?_
 simp only [b6]
 refine jQ rfl rfl rfl (fun U hk=>(show Pure Tryz.prog 18 [.agg [.an 3 kA,.int .i64 2],.int .i64 0,.int .i64 0,.int .i64 (prt r.k)] U (.int .i64 (prt r.k)) from al9 (K4 hk) (JG r.k))) ?_
 simp only [ao,b6,Nat.reduceEqDiff,Nat.reduceAdd,Nat.reduceLeDiff,reduceCtorEq,SO,SP,Fc,ux,tq,o6,gt,dT]
 have X6:(if 9≤(fY gF r rv).length then some (List.drop 9 (fY gF r rv)) else none)=some [rv]:=rfl
 simp only [ao,Nat.reduceEqDiff,X6]
 have af:GN (gQ r):=by
  have K5:=JG r.k
  refine ⟨?_,?_,?_,?_,?_,aq,by simp [gQ],by simp [gQ]⟩<;>simp only [gQ,hJ]<;>omega
 have jE:V.agg [.int .i64 1,.int .i64 0,.int .i64 0,.int .i64 0,.int .i64 (prt r.k),.int .i64 r.k,.int .i64 r.v,.int .i64 r.t,.bool false,.ag,.ag]=.agg (iP (gQ r)):=rfl
 rw [jE]
 refine cC agO (amg fA (gQ r) af rfl rfl reach (hf.j8 (cY.none ow c6)) jG) fun x ab ⟨e,bF,db,bS,ow',aK,a,bV,f2⟩=>?_
 subst aK
 simp only [ao,Nat.reduceEqDiff,bd,Tryz.results58,ha]
 exact aR ⟨e,bF,db,bS,ow',rfl,a,bV,(cY.none ow c6).trans f2⟩
def G4:List (Nat×Int×FuncId):=[(0,1,58),(1,2,59),(2,3,60),(3,4,61),(4,5,62),(5,6,63),(6,7,64)]
theorem aml {h:I} {m:Nat} (aE:h.get m=.map BD 7) {k:Int} {f:FuncId} (hk:bq G4 k=some f):nM Tryz.prog 85 (.map m) (.int .i64 k) true h=some (.tuple [.func (.func f) [] [],.bool true]):=by
 have bB:(jg Tryz.prog 83).isSome=true:=by kernel_rfl
 obtain ⟨z,bB⟩:=Option.isSome_iff_exists.1 bB
 have:=D4 (enc:=fun f:FuncId=>V.func (.func f) [] []) (ok:=true) (fT.ofInt S0) (k:=k) S0 bB (show h.get m=.map (cx (V.int .i64) _ G4) 7 from aE)
 rw [this,hk]
 all_goals rfl
theorem G5 {ay h:I} {C L:Nat} {rs:Nat→eg} {dv bL pv:V} {ow:Nat→Nat} {s:hd} (w:iH ay h C L rs dv bL pv ow s) (gF:Int) (r:eP) (rv:V) {f:FuncId} (hk:bq G4 gF=some f) (fx:bP Tryz.prog f=true) {R:V→I→Prop}
  (one:rv.one=true) (ed:∀ U,aa h U none_→ah Tryz.prog f [.ptr C 0,.agg (fY gF r rv)] U fun x ab=>∃ a b,x=.tuple [.int .i64 a,.int .i64 b]∧R x ab) :
  ah Tryz.prog 10 [.ptr C 0,.agg (fY gF r rv)] h R:=by
 have al:(V.agg (fY gF r rv)).cells=some (fY gF r rv):=rfl
 obtain ⟨H,hH⟩:∃ y,y=h.push (.cells (fY gF r rv) 39 none):=⟨_,rfl⟩
 have gt:H.get h.n=.cells (fY gF r rv) 39 none:=by rw [hH];exact c4
 have c6:aa h H none_:=by rw [hH];exact aa.push _ _ _
 have o8:H.n=h.n+1:=by rw [hH];rfl
 have fA:=w.on c6
 have h0':cW (aD.cells (fY gF r rv) 39 none) 0=some (.int .i64 gF::(fY gF r rv).drop 1):=rfl
 refine ah.aH (c:=_) Tryz.func10 rfl (by kernel_rfl) (by simp) ?_
 simp only [ao,Nat.reduceEqDiff,reduceCtorEq,Ni,al,←hH]
 refine aZ.b4 none_ [0] (.q 1 (.q 2 (.e 0 (.q 3 (.q 4 (.q 5 (.q 6 (.q 7 (.q 8 .done)))))) .stop))) (by kernel_rfl) (by kernel_rfl) (by kernel_rfl) ?_
 simp only [ao,b6,Nat.reduceEqDiff,agW,bz,gt,h0']
 refine cC ago (amb fA.cJ) fun x ab ⟨m,aK,m1,m2,uE,k2⟩=>?_
 subst aK
 have X7:=(k2.get h.n (by omega) (by simp [none_])).trans gt
 have yc:=aml uE hk
 simp only [ao,b6,Nat.reduceEqDiff,reduceCtorEq,ahc,yc]
 refine ⟨k2,?_⟩
 have lt:(if 10≤(fY gF r rv).length then some (V.agg ((fY gF r rv).take 10)) else none)=some (V.agg (fY gF r rv)):=rfl
 simp only [ao,Nat.reduceEqDiff,X7,lt]
 refine cC fx (ed ab (c6.trans' k2)) fun x aI ⟨a,b,e,af⟩=>?_
 subst e
 simp only [ao,Nat.reduceEqDiff,bd,Tryz.results10,ha]
 exact aR af
theorem amm (x:bk):(aY x).all (·.one)=true:=rfl
theorem amn (h:I) (x:bk):iA Tryz.prog 88 1 [(0,.agg (aY x))] h=some (.aj h.n 0 1 1,h.push (.cells (aY x) 140 none)):=by rw [lN Ta];rfl
def Ap (s:hd) (es:List bk):Prop:=s.row=es.map dc∧∀ x ∈ es,cy x=true∧ia x.r
def G6:List V:=[.int .i64 0,.int .i64 0,.int .i64 0,.int .i64 0,.int .i64 0,.int .i64 0,.int .i64 0,.int .i64 0,.bool false,.ag,.ag]
theorem amo {ay h:I} {C L:Nat} {rs:Nat→eg} {dv bL pv:V} {ow:Nat→Nat} {s:hd} (w:iH ay h C L rs dv bL pv ow s) {es:List bk} (iV:Ap s es) :
  ah Tryz.prog 29 [.ptr C 0] h fun r U=>Acc h U 140 11 r (es.flatMap aY):=by
 obtain ⟨gU,aU⟩:=iV
 have hlen:s.row.length=es.length:=by rw [gU,List.length_map]
 have aw:=w.log.sg
 have d2:∀ (a b c d e:V),cW (aD.cells [a,b,c,d,e] 74 none) 2=some [c,d,e]:=fun _ _ _ _ _=>rfl
 obtain ⟨qP,fr,uI⟩:=w.get
 refine ah.aH (c:=_) Tryz.func29 rfl (by kernel_rfl) (by simp) ?_
 simp only [ao,Nat.reduceEqDiff,reduceCtorEq,IQ,Ni,xP,uI,d2]
 refine cK SD (WV w.log) ?_
 rw [hlen]
 simp only [ao]
 refine aZ.cu (α:=Nat) (fun i f U=>i≤es.length∧f 0=.ptr C 0∧f 15=.int .i64 (es.length:Nat)∧f 16=.int .i64 (i:Nat)∧Acc h U 140 11 (f 3) ((es.take i).flatMap aY)) (fun i=>es.length - i) 0
  ⟨Nat.zero_le _,rfl,rfl,rfl,Acc.nil (aa.refl _ _)⟩ ?_
 rintro i f ab ⟨hi,f0,f15,f16,acc⟩
 refine gn (by kernel_rfl) ?_
 by_cases aT:i<es.length
 ·have d1:decide (((i:Nat):Int)<((es.length:Nat):Int))=true:=decide_eq_true (by omega)
  have hw:IntKind.i64.wrap (((i:Nat):Int)+1)=((i+1:Nat):Int):=by rw [Go.IntWalk.i64_in _ (by omega)];omega
  have bV:=w.on acc.au
  obtain ⟨anI,anJ,yA⟩:=bV.get
  have qn:i<s.row.length:=by omega
  have eh:s.row[i]=dc es[i]:=by simp only [gU,List.getElem_map]
  have af:=aU _ (List.getElem_mem aT)
  have fk:=ald bV.log qn
  rw [eh] at fk
  have ar:=Xm es[i]
  have hle:=alw af.2 af.1
  have D7:=alu af.2 af.1
  have c7:=alL (.an (dc es[i]).length (bp (dc es[i]))) (dc es[i]) ab (G3 bV.cJ) (Rd.an _ _) ar (by omega)
  rw [D7] at c7
  have r2:es.take (i+1)=es.take i++[es[i]]:=by rw [List.take_add_one,List.getElem?_eq_getElem aT];rfl
  generalize es[i]=x at fk c7 r2
  simp only [ao,Nat.reduceEqDiff,reduceCtorEq,IQ,xP,f0,f15,f16,d1,yA,d2]
  refine cK agJ fk ?_
  simp only [ao,Nat.reduceEqDiff]
  refine cK agK c7 ?_
  have al:(V.agg (aY x)).cells=some (aY x):=rfl
  have st:ca (some 11) (aD.cells G6 140 none) 0 (aY x)=some (.cells (aY x) 140 none):=rfl
  have gr:(((0:Nat):Int) !=0)=false:=rfl
  obtain ⟨je,hb⟩:∃ y,y=ab.push (.cells (aY x) 140 none):=⟨_,rfl⟩
  have b2:aa ab je none_:=by rw [hb];exact aa.push _ _ _
  have g3:je.get ab.n=.cells (aY x) 140 none:=by rw [hb];exact c4
  have a3:=acc.on b2
  have d0:cW (aD.cells (aY x) 140 none) 0=some (aY x):=rfl
  have lj:(if 11≤(aY x).length then some (V.agg ((aY x).take 11)) else none)=some (V.agg (aY x)):=rfl
  have lit:=amn je x
  obtain ⟨bF,h4,hF,kG,iF,d4⟩:=bv (P:=Tryz.prog) Ta (by decide) a3.own (xs:=aY x) rfl (amm x) (fun m hm=>by
   change m * 11=_+11 at hm
   rw [kF CC,List.length_take] at hm
   exact ⟨by simp only [lim];omega,by simp only [lim];omega⟩)
  have a4:=a3.step kG iF d4
  unfold G6 at st
  simp only [ao,Nat.reduceEqDiff,mf,o6,qw,al,st,gr]
  rw [←hb]
  simp only [ao,Nat.reduceEqDiff,lj,lit,hF,f16,hw]
  refine aR ⟨i+1,⟨by omega,f0,f15,rfl,a4.conv ?_⟩,by omega⟩
  rw [r2,List.flatMap_append]
  simp
 ·obtain rfl:i=es.length:=by omega
  have d1:decide (((es.length:Nat):Int)<((es.length:Nat):Int))=false:=decide_eq_false (by omega)
  rw [List.take_length] at acc
  simp only [ao,Nat.reduceEqDiff,f15,f16,d1,bd,Tryz.results29,bT]
  exact aR acc
theorem Pt {ay h:I} {C L:Nat} {rs:Nat→eg} {dv bL pv:V} {ow:Nat→Nat} {s:hd} (w:iH ay h C L rs dv bL pv ow s) {es:List bk} (iV:Ap s es):Pure Tryz.prog 12 [.ptr C 0] h (.agg (ig (toldOf es))):=by
 have aw:es.length≤4096:=by
  have:=w.log.sg
  rw [iV.1,List.length_map] at this
  exact this
 have he:∀ x ∈ es,oA x:=fun x af=>by
  obtain ⟨_,_,_,_,_,_,h1,_,aI,_⟩:=(nT x).1 (iV.2 x af).1
  exact ⟨by omega,by omega⟩
 refine Pure.of (bb.agg (Up _)) ?_
 obtain ⟨H,hH⟩:∃ y,y=h.push (.cells [.ag,.ag,.int .i64 0] 43 none):=⟨_,rfl⟩
 have c6:aa h H none_:=by rw [hH];exact aa.push _ _ _
 have amp:H.get h.n=.cells [.ag,.ag,.int .i64 0] 43 none:=by rw [hH];exact c4
 have o8:H.n=h.n+1:=by rw [hH];rfl
 have fA:=w.on c6
 refine ah.aH (c:=_) Tryz.func12 rfl (by kernel_rfl) (by simp) ?_
 simp only [ao,Nat.reduceEqDiff,reduceCtorEq,Fk,←hH]
 refine cC agr (amo fA iV) fun r ab a=>?_
 simp only [ao,Nat.reduceEqDiff]
 obtain ⟨aI,c3,b2⟩:=a.cast (n:=es.length) (kF CC es) (by decide)
 have g3:aI.glob=cJ bR:=b2.glob.trans fA.cJ
 refine cC Nm (ah.args (aS.cons c3 (aS.refl _ _)) (aj1 es (by omega) he aI (G3 g3))) fun r h4 ⟨aK,a6⟩=>?_
 subst aK
 subst a6
 have X8:=(b2.get h.n (by omega) (by simp [none_])).trans amp
 have al:(V.agg (ig (toldOf es))).cells=some (ig (toldOf es)):=rfl
 have st:ca (some 3) (aD.cells [.ag,.ag,.int .i64 0] 43 none) 0 (ig (toldOf es))=some (.cells (ig (toldOf es)) 43 none):=rfl
 have d0:cW (aD.cells (ig (toldOf es)) 43 none) 0=some (ig (toldOf es)):=rfl
 have lj:(if 3≤(ig (toldOf es)).length then some (V.agg ((ig (toldOf es)).take 3)) else none)=some (V.agg (ig (toldOf es))):=rfl
 simp only [ao,Nat.reduceEqDiff,Ns,I3,X8,al,st,d0,lj,bd,Tryz.results12,xm,jP]
 exact aR ⟨_,aV.refl _ _,(c6.trans' b2).trans (aa.set _ _ _) fun q ae e=>(show False by have:q=h.n:=e;omega)⟩
theorem Pu {ay h:I} {C L:Nat} {rs:Nat→eg} {dv bL pv:V} {ow:Nat→Nat} {s:hd} (w:iH ay h C L rs dv bL pv ow s) (he:0≤s.ep∧s.ep<2 ^ 40) (r:eP) (reach:List Bool) {rv:V} (hf:e7 h ow rv reach) (jG:reach.length≤2 ^ 47) :
  ah Tryz.prog 10 [.ptr C 0,.agg (fY 2 r rv)] h fun x U=>∃ e bF db bS ow',x=.tuple [.int .i64 0,.int .i64 e]∧qJ 1048576 3 (bH reach) s bF e∧iH ay U C L db dv bL bS ow' bF∧bF.ep=s.ep+1∧cY h U ow ow' :=
 G5 w 2 r rv (f:=59) rfl agF hf.one fun U k=>(amj (w.on k) he 2 r reach (hf.j8 (cY.none ow k)) jG).mono fun x ab ⟨e,bF,db,bS,ow',aK,o,bV,ep,f2⟩=>⟨0,e,aK,e,bF,db,bS,ow',aK,o,bV,ep,(cY.none ow k).trans f2⟩
theorem X9 {ay h:I} {C L:Nat} {rs:Nat→eg} {dv bL pv:V} {ow:Nat→Nat} {s:hd} (w:iH ay h C L rs dv bL pv ow s) (r:eP) (aq:ia r) (reach:List Bool) {rv:V} (hf:e7 h ow rv reach) (jG:reach.length≤2 ^ 47) :
  ah Tryz.prog 10 [.ptr C 0,.agg (fY 1 r rv)] h fun x U=>∃ e bF db bS ow',x=.tuple [.int .i64 0,.int .i64 e]∧tY (bH reach) (gQ r) s bF e∧iH ay U C L db dv bL bS ow' bF∧cY h U ow ow' :=
 G5 w 1 r rv (f:=58) rfl agE hf.one fun U k=>(amk (w.on k) r aq 1 reach (hf.j8 (cY.none ow k)) jG).mono fun x ab ⟨e,bF,db,bS,ow',aK,o,bV,f2⟩=>⟨0,e,aK,e,bF,db,bS,ow',aK,o,bV,(cY.none ow k).trans f2⟩
theorem G7 (r:eP):cy (gQ r)=ri r.t:=by
 have K5:=JG r.k
 cases bM:ri r.t with
 | false=>
  cases hm:cy (gQ r) with
  | false=>rfl
  | true=>
   have:=((nT _).1 hm).2.2.2.2.2.1
   rw [show (gQ r).r.t=r.t from rfl,bM] at this
   exact this.symm
 | true=>
  refine (nT _).2 ⟨?_,?_,?_,?_,?_,bM,?_,?_,?_,?_,?_⟩
  ·exact ⟨Int.le_refl _,by show (1:Int)≤6;decide⟩
  ·exact rfl
  ·exact rfl
  ·exact rfl
  ·rw [rj]
   show 0≤prt r.k∧prt r.k≤1048576
   omega
  ·exact Nat.zero_le _
  ·intro n aJ;cases aJ
  ·exact Nat.zero_le _
  ·intro n aJ;cases aJ
  ·rfl
theorem CW (n:Nat) (h:n<2 ^ 64):(enc n).length≤10:=(hB n h).2
theorem Ya (r:eP) (aq:ia r) (hm:ri r.t=true):(dc (gQ r)).length≠0∧(dc (gQ r)).length≤2048:=by
 have h1:=alv (x:=gQ r) aq (by rw [G7];exact hm)
 refine ⟨by omega,?_⟩
 have K5:=JG r.k
 obtain ⟨⟨bC,a2⟩,⟨hW,cZ⟩,bf,bx⟩:=aq
 have qu:=CW _ (zM _ bC a2)
 have z2:=CW _ (zM _ hW cZ)
 have z3:=CW _ (zM _ bf bx)
 have aK:=CW 1 (by decide)
 have gr:=CW 0 (by decide)
 have a6:=CW (prt r.k).toNat (by omega)
 have dB:(nm []).length≤10:=by
  unfold nm
  simpa using gr
 unfold dc oN
 simp only [gQ,List.flatMap_cons,List.flatMap_nil,List.length_append,List.append_nil]
 simp only [show (1:Int).toNat=1 from rfl,show (0:Int).toNat=0 from rfl,if_false,Bool.false_eq_true]
 omega
structure Aq (E:Int) (s:hd):Prop where
 row:s.row=[]
 ep:s.ep=E
 ex:∃ (es:List bk) (B:Nat),Good 3 s.nd E (es.map dc) B∧B≤2156+54 * E.toNat∧es.length≤1∧(∀ x ∈ es,cy x=true∧ia x.r∧(dc x).length≤2048)∧(es=[]∨∃ q,q<3∧Full (es.map dc) (s.nd q))∧(s.op=true→es=[]∧B≤54 * E.toNat)
theorem Ar:b9 (bH [true,true,true]) 3=3:=by decide
theorem amq {s:hd} {e:Int} (h:qJ 1048576 3 (bH [true,true,true]) l1 s e):e=0∧s.op=true∧Aq 1 s:=by
 obtain ⟨h1,ab,aI,h4,h5,_,_⟩:=Good.open_ (M:=2048) (Good.start 3 l1.nd [] fun q ae=>⟨fun k=>rfl,Int.le_refl _,Nat.le_refl _⟩) h (Nat.le_refl _) ⟨Int.le_refl _,by show (0:Int)<1048576;decide⟩ (by simp) (by simp) (by rw [Ar];decide) (.inl rfl) (by decide)
 exact ⟨h1,aI,⟨ab,h4,[],54,h5,by decide,by simp,by simp,.inl rfl,fun _=>⟨rfl,by decide⟩⟩⟩
theorem amr {rc:Nat→Bool} (al:b9 rc 3=1) (ae:∃ q,q<3∧rc q=true) {r:eP} (aq:ia r) {s bF:hd} {e:Int} (w:Aq 1 s) (h:tY rc (gQ r) s bF e):Aq 1 bF∧e≠0∧(ri r.t=true→e=8):=by
 rcases h with ⟨hm,rfl,rfl⟩ | ⟨hm,rfl,rfl⟩
 ·refine ⟨w,by decide,fun bM=>?_⟩
  rw [G7,bM] at hm
  cases hm
 ·cases br:s.op with
  | false=>
   rw [Wm br]
   exact ⟨w,by show (8:Int)≠0;decide,fun _=>rfl⟩
  | true=>
   obtain ⟨gU,oO,es,B,g,b3,aw,iV,aB,av⟩:=w
   obtain ⟨rfl,n2⟩:=av br
   have bM:ri r.t=true:=by rw [←G7];exact hm
   obtain ⟨gx,hW⟩:=Ya r aq bM
   have sQ:Good 3 s.nd s.ep s.row B:=by rw [gU,oO];exact g
   have anK:B≤54:=n2
   obtain ⟨bC,a2,a3,a4⟩:=sQ.app (room:=1048576) (rc:=rc) (b:=dc (gQ r)) (M:=2048) br (Nat.le_refl _) (by rw [oO];decide) gx hW (by rw [gU];decide) (by omega)
   rw [if_neg (by rw [al];decide)] at a4
   obtain ⟨a4,a5,uk⟩:=a4
   rw [oO] at bC a3
   rw [gU] at bC a2 a5
   have CL:(eG 1048576 3 rc (dc (gQ r)) s).2.2=8:=by rw [a4]
   refine ⟨⟨a5,a3,[gQ r],B+(54+2048),bC,?_,Nat.le_refl _,fun x af=>?_,?_,fun ad=>?_⟩,by rw [CL];decide,fun _=>CL⟩
   ·show B+(54+2048)≤2156+54 * 1
    omega
   ·rw [List.mem_singleton] at af
    subst af
    exact ⟨hm,aq,hW⟩
   ·obtain ⟨q,h1,ab⟩:=ae
    exact .inr ⟨q,h1,a2 q h1 ab fun i hi=>absurd hi (by simp)⟩
   ·rw [uk] at ad;cases ad
theorem ams {rc:Nat→Bool} (al:b9 rc 3=1) {s bF:hd} {e:Int} (w:Aq 1 s) (h:qJ 1048576 3 rc s bF e):e=8∧Aq 2 bF:=by
 have ae:¬3 / 2+1≤b9 rc 3:=by rw [al];decide
 have CL:=(akG h ae).1
 refine ⟨CL,?_⟩
 unfold qJ at h
 rw [if_neg (fun ad=>ae (Nat.le_trans ad (Gu fun q _ az=>(Wf az).1)))] at h
 obtain ⟨rfl,_⟩:=h
 obtain ⟨gU,oO,es,B,g,b3,aw,iV,aB,av⟩:=w
 have xe:B≤2210:=b3
 have key:∀ q,q<3→(cL 1048576 (s.ep+1) (s.nd q)).2=0∧used (cL 1048576 (s.ep+1) (s.nd q)).1≤used (s.nd q)+54∧gJ (cL 1048576 (s.ep+1) (s.nd q)).1=s.ep+1:=fun q ae=>
  Wd (by have:=g.ep q ae;omega) ⟨by omega,by omega⟩ (by have:=g.pO q ae;omega)
 have same:∀ q,q<3→∀ k,cellAt (cT (cL 1048576 (s.ep+1)) rc 3 s.nd q) k=cellAt (s.nd q) k:=fun q ae k=>by
  rw [tN ae]
  split
  ·exact (Wc 1048576 (s.ep+1) (s.nd q)).1 k
  ·rfl
 refine ⟨gU,by show s.ep+1=2;omega,es,B+54,⟨fun q ae=>?_,fun q ae=>?_,fun q ae k c al=>?_⟩,?_,aw,iV,?_,fun ad=>by cases ad⟩
 ·show gJ (cT (cL 1048576 (s.ep+1)) rc 3 s.nd q)≤2
  rw [tN ae]
  split
  ·rw [(key q ae).2.2];omega
  ·have:=g.ep q ae;omega
 ·show used (cT (cL 1048576 (s.ep+1)) rc 3 s.nd q)≤B+54
  rw [tN ae]
  have:=g.pO q ae
  have:=(key q ae).2.1
  split<;>omega
 ·have AL:cellAt (s.nd q) k=some c:=(same q ae k).symm.trans al
  obtain ⟨i,h1,ab,aI,h4⟩:=g.r0 q ae k c AL
  exact ⟨i,h1,ab,aI,by omega⟩
 ·show B+54≤2156+54 * 2
  omega
 ·rcases aB with aB | ⟨q,h1,ab⟩
  ·exact .inl aB
  ·exact .inr ⟨q,h1,fun i hi=>by
    obtain ⟨c,al⟩:=ab i hi
    exact ⟨c,(same q h1 _).trans al⟩⟩
theorem amt {s bF:hd} {e:Int} (w:Aq 2 s) (h:qJ 1048576 3 (bH [true,true,true]) s bF e):e=0∧bF.op=true∧bF.ep=3∧∃ (es:List bk) (B:Nat),bF.row=es.map dc∧es.length≤1∧(∀ x ∈ es,cy x=true∧ia x.r)∧Good 3 bF.nd 3 (es.map dc) B∧B≤10000:=by
 obtain ⟨gU,oO,es,B,g,b3,aw,iV,aB,av⟩:=w
 have xe:B≤2264:=b3
 have sQ:Good 3 s.nd s.ep (es.map dc) B:=by rw [oO];exact g
 have mZ:(es.map dc).length * (54+2048)≤1 * (54+2048):=Nat.mul_le_mul_right _ (by rw [List.length_map];exact aw)
 obtain ⟨h1,ab,aI,h4,h5,_,_⟩:=Good.open_ (M:=2048) sQ h (Nat.le_refl _) (by rw [oO];decide) (by rw [List.length_map];omega) (fun b ar=>by
  obtain ⟨x,af,rfl⟩:=List.mem_map.1 ar
  exact (iV x af).2.2) (by rw [Ar];decide) (by
  rcases aB with aB | ⟨q,h1,ab⟩
  ·exact .inl (by rw [aB];rfl)
  ·refine .inr ⟨q,h1,?_,ab⟩
   have:q=0∨q=1∨q=2:=by omega
   rcases this with rfl | rfl | rfl<;>rfl) (by generalize (es.map dc).length * (54+2048)=X at mZ;omega)
 rw [oO] at h4 h5
 refine ⟨h1,aI,h4,es,_,ab,aw,fun x af=>⟨(iV x af).1,(iV x af).2.1⟩,h5,?_⟩
 generalize (es.map dc).length * (54+2048)=X at mZ
 omega
def hP:eP:=⟨1,2,0⟩
theorem amu {s bF:hd} {e:Int} {es:List bk} {B:Nat} (br:s.op=true) (oO:s.ep=3) (gU:s.row=es.map dc) (aw:es.length≤1) (iV:∀ x ∈ es,cy x=true∧ia x.r) (g:Good 3 s.nd 3 (es.map dc) B) (b3:B≤10000)
  (h:tY (bH [true,true,true]) (gQ hP) s bF e):e=0∧Ap bF (es++[gQ hP]):=by
 have aq:ia hP:=⟨by unfold hJ hP;decide,by unfold hJ hP;decide,by unfold hJ hP;decide⟩
 have bM:ri hP.t=true:=rfl
 have hm:cy (gQ hP)=true:=by rw [G7];exact bM
 rcases h with ⟨h,_⟩ | ⟨_,rfl,rfl⟩
 ·rw [hm] at h;cases h
 ·obtain ⟨gx,hW⟩:=Ya hP aq bM
  have sQ:Good 3 s.nd s.ep s.row B:=by rw [gU,oO];exact g
  obtain ⟨bC,a2,a3,a4⟩:=sQ.app (room:=1048576) (rc:=bH [true,true,true]) (b:=dc (gQ hP)) (M:=2048) br (Nat.le_refl _) (by rw [oO];decide) gx hW (by rw [gU,List.length_map];omega) (by omega)
  rw [if_pos (by rw [Ar];decide)] at a4
  obtain ⟨a4,a5,uk⟩:=a4
  refine ⟨by rw [a4],by rw [a5,gU];simp,fun x af=>?_⟩
  rcases List.mem_append.1 af with af | af
  ·exact iV x af
  ·rw [List.mem_singleton] at af
   subst af
   exact ⟨hm,aq⟩
theorem amv (l:List bk) (n:Int):logAt (rn l) n=(jf l).logs n:=by
 have t:=CH l
 unfold logAt
 cases aB:(rn l).find? (fun c=>c.1==n) with
 | none=>
  have h6:=List.find?_eq_none.1 aB
  show []=_
  refine Classical.byContradiction fun ad=>?_
  have:=(t.lm (n,(jf l).logs n)).2 ⟨rfl,fun e=>ad e.symm⟩
  exact h6 _ this (by simp)
 | some c=>
  have h1:=List.mem_of_find?_eq_some aB
  have ab:c.1=n:=by simpa using List.find?_some aB
  show c.2=_
  rw [((t.lm c).1 h1).1,ab]
theorem AC {s:ky} (b:∀ t j,s.tasks t=some j→j.bA.length≤8) (x:bk) (i:Nat):∀ t j,(jT s x i).tasks t=some j→j.bA.length≤8:=by
 have uB:(b8 s x.task).bA.length≤8:=by
  unfold b8
  cases h:s.tasks x.task with
  | none=>exact Nat.zero_le _
  | some j=>exact b _ j h
 intro t j
 unfold jT
 split
 ·exact b t j
 rename_i hm
 split
 ·exact b t j
 split
 ·intro h
  simp only at h
  split at h
  ·injection h with h;subst h;unfold jD;split
   ·exact uB
   ·exact uB
  ·exact b t j h
 split
 ·exact b t j
 have fE:cy x=true:=by simpa using hm
 have av:=((nT x).1 fE).2.2.2.2.2.2.1
 intro h
 simp only at h
 split at h
 ·injection h with h;subst h;unfold kJ
  split
  ·exact uB
  split
  ·exact uB
  split
  ·exact av
  ·exact uB
 ·exact b t j h
theorem Yb:∀ (l:List bk) (s:ky) (i:Nat),(∀ t j,s.tasks t=some j→j.bA.length≤8)→∀ t j,(oD s i l).tasks t=some j→j.bA.length≤8
 | [],s,i,h=>h
 | x::l,s,i,h=>Yb l _ _ (AC h x i)
theorem Pv (l:List bk) (aw:l.length≤2 ^ 14):GV (toldOf l):=by
 have zm:=I9 _ l rfl
 have J:l.length * l.length≤2 ^ 14 * 2 ^ 14:=Nat.mul_le_mul aw aw
 have it:=CH l
 have j8:=Jb _ l rfl
 refine ⟨?_,?_,fun p az=>?_,fun x af=>?_⟩
 ·show (rn l).length≤_
  have h1:((rn l).map (·.1)).length≤(l.map (·.log)).length:=List.Nodup.length_le_of_subset (List.pairwise_map.2 (it.Ut.imp fun h=>by omega)) fun k hk=>by
   obtain ⟨p,az,rfl⟩:=List.mem_map.1 hk
   have:=(it.lm p).1 az
   exact j8.np _ (this.1 ▸ this.2)
  simp at h1
  omega
 ·show (uz l).length≤_
  have h1:((uz l).map (·.t)).length≤(l.map (·.task)).length:=List.Nodup.length_le_of_subset (List.pairwise_map.2 (it.Uu.imp fun h=>by omega)) fun k hk=>by
   obtain ⟨p,az,rfl⟩:=List.mem_map.1 hk
   obtain ⟨j,h1,ab⟩:=(it.bY p).1 az
   exact (j8.oE _ _ h1).1
  simp at h1
  omega
 ·have:=((it.lm p).1 az).1
  rw [this]
  have:=zm.np p.1
  omega
 ·obtain ⟨j,h1,ab⟩:=(it.bY x).1 af
  have aI:=Yb l Bn 0 (fun t j h=>by cases h) _ _ h1
  have h4:=zm.ord _ _ h1
  rw [ab]
  exact ⟨by show j.bA.length≤_;omega,by show j.ord.length≤_;omega⟩
theorem amw {h:I} (aE:h.glob=cJ bR) (hT:ah Tryz.prog 7 [] (ta (cJ bR)) fun x _=>x=.bool true):Pure Tryz.prog 7 [] h (.bool true) :=
 Pure.closed hT fun k cs hk=>⟨by rw [aE];exact hk,XP k cs hk⟩
def pY (k:Nat):List Bool:=[decide (k=0),decide (k=1),decide (k=2)]
theorem amx {k:Nat} (hk:k<3):b9 (bH (pY k)) 3=1∧∃ q,q<3∧bH (pY k) q=true:=by
 have:k=0∨k=1∨k=2:=by omega
 rcases this with rfl | rfl | rfl
 ·exact ⟨by decide,0,by decide,rfl⟩
 ·exact ⟨by decide,1,by decide,rfl⟩
 ·exact ⟨by decide,2,by decide,rfl⟩
def j2:List V:=ig (toldOf [])
theorem amy:j2=[.an 0 [],.an 0 [],.int .i64 0]:=rfl
def JH:bW:=mr 14 [.agg [.an 0 [],.an 0 [],i8 0],.agg [.an 0 [],.an 0 [],i8 0]] (.bool true) 2 []
theorem amz:JH.gE Tryz.prog bR hz 100000=true:=by decide +kernel
theorem amA {h:I} (aE:h.glob=cJ bR):Pure Tryz.prog 14 [.agg j2,.agg j2] h (.bool true):=by
 rw [amy]
 have mW:bb (.agg [.an 0 [],.an 0 [],i8 0]):=bb.agg (aO.cons (bb.an aO.nil) (aO.cons (bb.an aO.nil) (aO.cons (ny _) aO.nil)))
 exact tX (bW.da amz) rfl (aO.cons mW (aO.cons mW aO.nil)) (bb.bool _) (fun _=>rfl) aE
theorem Pw (es:List bk) (aw:es.length≤1):∃ bt:List dn,logAt (toldOf (es++[gQ hP])).logs 1=bt++[(hP,false)]∧bt.length≤4:=by
 have hm:cy (gQ hP)=true:=by rw [G7];rfl
 have zm:=(I9 _ es rfl).np 1
 have ab:es.length * es.length≤1 * 1:=Nat.mul_le_mul aw aw
 refine ⟨(jf es).logs 1,?_,by omega⟩
 show logAt (rn _) 1=_
 rw [amv,FE]
 unfold jT
 rw [if_neg (by rw [hm];decide),if_pos (show (gQ hP).kind=1 from rfl)]
 all_goals rfl
theorem amB {l:List eP} {k:Nat} (hk:k<l.length):ik Tryz.prog 22 (.an l.length (l.flatMap dh)) (.int .i64 (k:Int))=some (.at (dh l[k]++(l.drop (k+1)).flatMap dh)):=xt aib hk Tc
structure r3 (h:I) (ow:Nat→Nat) (i1 k i9:Nat):Prop where
 one:Own h 4 1 (.aj i1 0 3 3) (oL (pY k))
 c0:ow i1=0
 get:h.get i9=.cells j2 43 none
 JI:ow i9=0
 lt:i9<h.n
theorem r3.j8 {h U:I} {ow ow':Nat→Nat} {i1 k i9:Nat} (w:r3 h ow i1 k i9) (f:cY h U ow ow'):r3 U ow' i1 k i9 :=
 ⟨w.one.au f.au fun x af ad=>by
  have:i1=x:=by simpa [aA] using af
  exact ad (this ▸ w.c0),f.z i1 (w.one.lt i1 rfl) w.c0,(f.au.get i9 w.lt fun ad=>ad w.JI).trans w.get,f.z i9 w.lt w.JI,Nat.lt_of_lt_of_le w.lt f.au.n⟩
theorem r3.rv {h:I} {ow:Nat→Nat} {i1 k i9:Nat} (w:r3 h ow i1 k i9):e7 h ow (.aj i1 0 3 3) (pY k) :=
 ⟨.inr w.one,fun x af=>by
  have:i1=x:=by simpa [aA] using af
  exact this ▸ w.c0⟩
theorem amC (hT:ah Tryz.prog 7 [] (ta (cJ bR)) fun x _=>x=.bool true) (fN:List eP) (wz:∀ r ∈ fN,ia r) (aw:fN.length≤2 ^ 47) (wn:Nat) (hw:wn<256) (h:I) (aE:h.glob=cJ bR) :
  ah Tryz.prog 3 [.an fN.length (fN.flatMap dh),.int .u8 (wn:Int)] h (fun r U=>r=.bool true):=by
 have a6:((0:Int) !=0)=false:=rfl
 refine ah.aH (c:=_) Tryz.func3 rfl (by kernel_rfl) (by simp) ?_
 simp only [ao]
 refine cK M5 (amw aE hT) ?_
 simp only [ao,Nat.reduceEqDiff]
 refine cK M7 (al6 aE) ?_
 rw [XY]
 simp only [ao,Nat.reduceEqDiff]
 refine cC M6 (ame h aE) fun r H1 ⟨ay,C,L,rs,dv,bL,ow,j5,bK,bj,_⟩=>?_
 subst j5
 simp only [ao,Nat.reduceEqDiff,Ni]
 refine cK MY (Ao bK.cJ) ?_
 simp only [ao,Nat.reduceEqDiff,Nat.reduceAdd,Nat.reduceLeDiff,Fg,Fj]
 have G8:∀ (h:I) (ow:Nat→Nat),e7 h ow (.an 3 [.bool true,.bool true,.bool true]) [true,true,true]:=fun h ow=>⟨.inl rfl,fun x af=>by simp [aA] at af⟩
 refine cC ES (Pu bK (by decide) ⟨0,0,0⟩ [true,true,true] (G8 _ _) (by decide)) fun x cA ⟨e,s2,tP,Gy,ow2,aK,cw,bV,_,f2⟩=>?_
 subst aK
 obtain ⟨_,br,K6⟩:=amq cw
 have rD:i5 Tryz.prog 34 (.int .i64 3) (.int .i64 3) cA=some (.aj cA.n 0 3 3,cA.push (.cells [.bool false,.bool false,.bool false] 4 none)):=by
  rw [show (3:Int)=((3:Nat):Int) from rfl,HP Cv (Nat.le_refl _) (by simp only;omega) (by omega),P3]
  all_goals rfl
 obtain ⟨k,hk,Yc⟩:∃ k:Nat,k<3∧(wn:Int).tmod 3=(k:Nat):=⟨wn % 3,Nat.mod_lt _ (by decide),by rw [Int.tmod_eq_emod_of_nonneg (by omega)];rfl⟩
 have aI:(3:Int)≠0:=by decide
 obtain ⟨je,hb⟩:∃ y,y=cA.push (.cells [.bool false,.bool false,.bool false] 4 none):=⟨_,rfl⟩
 have b2:aa cA je none_:=by rw [hb];exact aa.push _ _ _
 have o3:Own je 4 1 (.aj cA.n 0 3 3) [.bool false,.bool false,.bool false]:=by rw [hb];exact Own.qj _ 3 rfl (by decide)
 obtain ⟨i,fM,oJ,_,JA⟩:=y2 (P:=Tryz.prog) (t:=34) (kk:=.u8) Nu o3 (k:=k) (by simpa using hk)
 obtain rfl:cA.n=i:=by simpa [aA] using oJ
 obtain ⟨ob,st1,kG,gM⟩:=JA (.bool true) rfl
 have j7:([V.bool false,.bool false,.bool false].set k (.bool true))=oL (pY k):=by
  have:k=0∨k=1∨k=2:=by omega
  rcases this with rfl | rfl | rfl<;>rfl
 rw [j7] at kG
 rw [←hb] at rD
 simp only [ao,Nat.reduceEqDiff,vX,rD,LY aI,Yc,fM,st1]
 obtain ⟨ml,K7⟩:∃ y,y=je.set cA.n ob:=⟨_,rfl⟩
 rw [←K7] at kG gM
 rw [←K7]
 have K8:aa cA ml none_:=b2.trans gM fun q ae ad=>(show False by have e:cA.n=q:=(by simpa [aW,aA] using ad);omega)
 have uj:=bV.on K8
 have n4:=kG.lt cA.n rfl
 refine cK M0 (Pt uj (es:=[]) ⟨K6.row,by simp⟩) ?_
 have cV:ig (toldOf ([]:List bk))=j2:=rfl
 rw [cV]
 have JF:(V.agg j2).cells=some j2:=rfl
 have Hl:ca (some 3) (aD.cells [.ag,.ag,.int .i64 0] 43 none) 0 j2=some (.cells j2 43 none):=rfl
 simp only [ao,Nat.reduceEqDiff,Fk,I3,JF,Hl]
 obtain ⟨uD,BH⟩:∃ y,y=ml.push (.cells j2 43 none):=⟨_,rfl⟩
 rw [←BH]
 have jF:aa ml uD none_:=by rw [BH];exact aa.push _ _ _
 have g5:uD.get ml.n=.cells j2 43 none:=by rw [BH];exact c4
 have alG:uD.n=ml.n+1:=by rw [BH];rfl
 have nf:=uj.on jF
 have qu:ow2 cA.n=0:=Classical.byContradiction fun ad=>by have:=bV.log.ns.bt _ ad;omega
 have z9:ow2 ml.n=0:=Classical.byContradiction fun ad=>by have:=bV.log.ns.bt _ ad;have:=K8.n;omega
 have tS:r3 uD ow2 cA.n k ml.n:=⟨kG.cP jF,qu,g5,z9,by omega⟩
 obtain ⟨sZ,Yd⟩:=amx hk
 refine aZ.cu (α:=Nat) (fun i f U=>i≤fN.length∧i≤10∧f 0=.an fN.length (fN.flatMap dh)∧f 5=.bool true∧f 6=.ptr C 0∧f 8=.aj cA.n 0 3 3∧f 9=.ptr ml.n 0∧f 10=.int .i64 (i:Nat) ∧
  ∃ s rs pv ow,iH ay U C L rs dv bL pv ow s∧Aq 1 s∧r3 U ow cA.n k ml.n) (fun i=>10 - i) 0
  ⟨Nat.zero_le _,Nat.zero_le _,rfl,rfl,rfl,rfl,rfl,rfl,s2,tP,Gy,ow2,nf,K6,tS⟩ ?_
 rintro i f dT ⟨uY,eN,f0,f5,f6,f8,f9,f10,aoU,GK,anL,vc,tT,BI,G9⟩
 refine gn (by kernel_rfl) ?_
 by_cases aT:i<fN.length∧i<10
 ·have d1:decide (((i:Nat):Int)<((fN.length:Nat):Int))=true:=decide_eq_true (by omega)
  have d2:decide (((i:Nat):Int)<10)=true:=decide_eq_true (by omega)
  have hw:IntKind.i64.wrap (((i:Nat):Int)+1)=((i+1:Nat):Int):=by rw [Go.IntWalk.i64_in _ (by omega)];omega
  have Px:=amB aT.1
  have aq:=wz _ (List.getElem_mem aT.1)
  generalize fN[i]=r at Px aq
  generalize (fN.drop (i+1)).flatMap dh=Ye at Px
  have BJ:ik Tryz.prog 22 (.an fN.length (fN.flatMap dh)) (.int .i64 ((i:Nat):Int))=some (.at (.int .i64 r.k::.int .i64 r.v::.int .i64 r.t::Ye)):=Px
  simp only [ao,Nat.reduceEqDiff,Nat.reduceAdd,Nat.reduceLeDiff,reduceCtorEq,uw,ux,Fg,Fj,f0,f6,f8,f10,d1,d2,BJ]
  refine cC ES (X9 tT r aq (pY k) G9.rv (by show 3≤2 ^ 47;decide)) fun x lP ⟨CA,amD,Yf,Yg,Yh,aK,Ii,GL,f7⟩=>?_
  subst aK
  obtain ⟨Yi,Yj,tr⟩:=amr sZ Yd aq BI Ii
  have Yk:=G9.j8 f7
  have bM:ri r.t=(decide (0≤r.t)&&decide (r.t≤1099511627776)):=rfl
  rw [bM] at tr
  have mW:(CA==0)=false:=by simpa using Yj
  generalize nL:decide (0≤r.t)=Py at tr
  generalize b3:decide (r.t≤1099511627776)=yz at tr
  have amE:(Py&&yz&&(CA !=8))=false:=by
   cases Py<;>cases yz<;>simp at tr⊢
   exact tr
  simp only [ao,Nat.reduceEqDiff,Nat.reduceLeDiff,reduceCtorEq,E4,nj,f0,f10,BJ,nL]
  cases Py
  case' false=>simp only [ao,Nat.reduceEqDiff,f10,mW,hw]
  case' true=>
   cases yz
   case' true=>
    obtain rfl:CA=8:=tr rfl
    have anM:((8:Int) !=8)=false:=rfl
    simp only [ao,Nat.reduceEqDiff,Nat.reduceLeDiff,reduceCtorEq,E4,nj,f0,f10,BJ,b3,mW,hw]
   case' false=>simp only [ao,Nat.reduceEqDiff,Nat.reduceLeDiff,reduceCtorEq,E4,nj,f0,f10,BJ,b3,mW,hw]
  all_goals exact aR ⟨i+1,⟨by omega,by omega,f0,f5,f6,f8,f9,rfl,amD,Yf,Yg,Yh,GL,Yi,Yk⟩,by omega⟩
 ·have qx:decide (((i:Nat):Int)<((fN.length:Nat):Int))=false∨(decide (((i:Nat):Int)<((fN.length:Nat):Int))=true∧decide (((i:Nat):Int)<10)=false):=by
   by_cases c:i<fN.length
   ·exact .inr ⟨decide_eq_true (by omega),decide_eq_false (by omega)⟩
   ·exact .inl (decide_eq_false (by omega))
  have K9:=Pt tT (es:=[]) ⟨BI.row,by simp⟩
  rw [cV] at K9
  obtain ⟨sd,BK⟩:∃ y,y=dT.push (.cells j2 43 none):=⟨_,rfl⟩
  have z1:aa dT sd none_:=by rw [BK];exact aa.push _ _ _
  have g8:sd.get dT.n=.cells j2 43 none:=by rw [BK];exact c4
  have n8:sd.n=dT.n+1:=by rw [BK];rfl
  have amF:=tT.on z1
  have BL:=G9.j8 (cY.none vc z1)
  have Yl:vc dT.n=0:=Classical.byContradiction fun ad=>by have:=tT.log.ns.bt _ ad;omega
  have Ym:r3 sd vc cA.n k dT.n:=⟨BL.one,BL.c0,g8,Yl,by omega⟩
  have yK:cW (aD.cells j2 43 none) 0=some j2:=rfl
  have amG:(if 3≤j2.length then some (V.agg (j2.take 3)) else none)=some (V.agg j2):=rfl
  have amE:((8:Int)==8)=true:=rfl
  have mW:((0:Int)==0)=true:=rfl
  have k0:cl Tryz.prog .eql 37 (.tmp 146) (.tmp 147) (.agg [.int .i64 1,.int .i64 2,.int .i64 0]) (.agg [.int .i64 1,.int .i64 2,.int .i64 0])=some (.bool true):=by kernel_rfl
  rcases qx with ar | ⟨kU,eC⟩
  case' inl=>simp only [ao,Nat.reduceEqDiff,reduceCtorEq,uw,f0,f10,ar]
  case' inr=>simp only [ao,Nat.reduceEqDiff,reduceCtorEq,uw,f0,f10,kU,eC]
  all_goals
   simp only [f6]
   refine cK M0 K9 ?_
   simp only [ao,Nat.reduceEqDiff,Nat.reduceAdd,Nat.reduceLeDiff,Fg,Fj,Fk,I3,JF,Hl]
   rw [←BK]
   simp only [ao,Nat.reduceEqDiff,Nat.reduceAdd,f6,f8]
   refine cC ES (Pu amF (by rw [BI.ep];decide) ⟨0,0,0⟩ (pY k) BL.rv (by show 3≤2 ^ 47;decide)) fun x CM ⟨aoV,aoW,anN,anO,anP,c2,JI,Yn,_,La⟩=>?_
   subst c2
   obtain ⟨rfl,Lb⟩:=ams sZ BI JI
   have Yo:=BL.j8 La
   have Yp:=Ym.j8 La
   simp only [ao,Nat.reduceEqDiff,f6]
   refine cK MY (Ao Yn.cJ) ?_
   simp only [ao,Nat.reduceEqDiff,Nat.reduceAdd,Nat.reduceLeDiff,Fg,Fj]
   refine cC ES (Pu Yn (by rw [Lb.ep];decide) ⟨0,0,0⟩ [true,true,true] (G8 _ _) (by decide)) fun x aoX ⟨aoY,Vx,anQ,anR,anS,c2,amH,Jw,_,Yq⟩=>?_
   subst c2
   obtain ⟨rfl,Pz,PA,es,B,JJ,Lc,PB,FX,Yr⟩:=amt Lb amH
   have Ys:=Yo.j8 Yq
   have Yt:=Yp.j8 Yq
   simp only [ao,Nat.reduceEqDiff,Nat.reduceAdd,Nat.reduceLeDiff,Ff,xR,f6]
   refine cK MY (Ao Jw.cJ) ?_
   simp only [ao,Nat.reduceEqDiff,Nat.reduceAdd,Nat.reduceLeDiff,Fg,Fj]
   refine cC ES (X9 Jw hP (by unfold hP ia hJ;decide) [true,true,true] (G8 _ _) (by decide)) fun x amI ⟨aoZ,ao0,anT,anU,anV,c2,amJ,Yu,Yv⟩=>?_
   subst c2
   obtain ⟨rfl,PC⟩:=amu Pz PA JJ Lc PB FX Yr amJ
   have Yw:=Ys.j8 Yv
   have Yx:=Yt.j8 Yv
   simp only [ao,Nat.reduceEqDiff,f6]
   refine cK M0 (Pt Yu PC) ?_
   simp only [ao,Nat.reduceEqDiff]
   refine cK afO (alT _ (Pv _ (by rw [List.length_append];show es.length+1≤2 ^ 14;omega)) 1 amI) ?_
   obtain ⟨bt,mZ,anW⟩:=Pw es Lc
   rw [mZ]
   have YZ:(bt++[(hP,false)]).length=bt.length+1:=by simp
   have dl:decide ((0:Int)<(((bt++[(hP,false)]).length:Nat):Int))=true:=decide_eq_true (by omega)
   have Yy:IntKind.i64.wrap ((((bt++[(hP,false)]).length:Nat):Int) - 1)=((bt.length:Nat):Int):=by rw [Go.IntWalk.i64_in _ (by omega)];omega
   have amK:ik Tryz.prog 22 (.an (bt++[(hP,false)]).length (dW (bt++[(hP,false)]))) (.int .i64 ((bt.length:Nat):Int))=some (.at [.int .i64 1,.int .i64 2,.int .i64 0]):=by
    have:=xt (P:=Tryz.prog) (t:=22) (enc:=fun p:dn=>dh p.1) (sz:=3) (l:=bt++[(hP,false)]) (k:=bt.length) (kk:=.i64) (fun _=>rfl) (by omega) Tc
    rw [List.getElem_append_right (Nat.le_refl _)] at this
    simpa [dW,dh,hP] using this
   unfold b5
   have Yz:=Yw.get
   have YA:=Yx.get
   simp only [ao,Nat.reduceEqDiff,Ns,ahw,f5,f9,Yz,YA,yK,amG]
   refine cK afQ (amA Yu.cJ) ?_
   simp only [ao,Nat.reduceEqDiff,Nat.reduceAdd,Nat.reduceLeDiff,uw,ux,Ff,xR,dl,Yy,amK,k0,bd,Tryz.results3,bT]
   exact aR rfl
end Go.Proofs.YtceanabgcnieeaaGreatDoor.Pk
