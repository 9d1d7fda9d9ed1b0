/-
  What functions of the program do, told of abstract states. Conditions: as each theorem says.
-/
import Derived.Test.YtedkjhifbibpmaaGreatDoorNb
import Derived.Test.YtedkjhifbibpmaaGreatDoorAcD
import Derived.Shelf.SlSortCmp.WholeK
import Derived.Test.YtedkjhifbibpmaaGreatDoorProg
import Derived.Test.YtedkjhifbibpmaaGreatDoorNa
import Derived.Test.YtedkjhifbibpmaaGreatDoorNd
import Derived.Test.YtedkjhifbibpmaaGreatDoorNc
set_option linter.unusedVariables false
set_option linter.unusedSimpArgs false
set_option maxHeartbeats 2000000
set_option maxRecDepth 20000
namespace Go.Proofs.YtedkjhifbibpmaaGreatDoor.Pk
open Go Go.Proofs Go.Proofs.YtedkjhifbibpmaaGreatDoor.Ab Go.Sort
theorem then_eq {K:e1} {x:Option V} {v:V} {d:Option Tmp} {f:ah} {h:I} (e:x=some v) (g:@ko (some v) d K f h):@ko x d K f h:=e ▸ g
theorem amE (h:I) (n:Int) (aG:n=0∨n=1):Pure Tryz.prog 226 [.int .u64 n] h (.int .i64 n):=by
 refine Pure.val (bj.int _ _) ?_
 refine ae.ax (c:=_) Tryz.func226 rfl (by kernel_rfl) (by simp) ?_
 have Y9:IntKind.u8.wrap 0=0:=by decide
 have Za:IntKind.u8.wrap 1=1:=by decide
 have c2:IntKind.i64.wrap 1=1:=by decide
 have aK:IntKind.i64.wrap 0=0:=by decide
 have bX:IntKind.i64.wrap (0+0)=0:=by decide
 have k8:IntKind.i64.wrap (0+1)=1:=by decide
 rcases aG with rfl | rfl
 ·simp only [af,Int.reduceLE,Nat.reduceEqDiff,reduceCtorEq,mY,mj,Y9]
  refine then_eq (v:=.int .u8 0) (by kernel_rfl) ?_
  simp only [af,Nat.reduceEqDiff,iB,mj,aK,bX,aU,Tryz.results226,ac]
  exact aF ⟨rfl,J.refl _ _⟩
 ·simp only [af,Int.reduceLE,Nat.reduceEqDiff,reduceCtorEq,mY,mj,Za]
  refine then_eq (v:=.int .u8 1) (by kernel_rfl) ?_
  simp only [af,Nat.reduceEqDiff,iB,mj,c2,k8,aU,Tryz.results226,ac]
  exact aF ⟨rfl,J.refl _ _⟩
theorem Rz (h:I) (n:Int) (aG:n=0∨n=1):Pure Tryz.prog 190 [.int .u64 n] h (.int .i64 n):=by
 refine Pure.val (bj.int _ _) ?_
 refine ae.ax (c:=_) Tryz.func190 rfl (by kernel_rfl) (by simp) ?_
 have hw:IntKind.u64.wrap n=n:=by rcases aG with rfl | rfl<;>decide
 simp only [af,Nat.reduceEqDiff,reduceCtorEq]
 refine bU ajj (amE h n aG) ?_
 simp only [af,Nat.reduceEqDiff,aU,Tryz.results190,ac]
 exact aF ⟨rfl,J.refl _ _⟩
open Go.Shelf
def amF:Go.Shelf.Ren:=⟨fun | 6=>163 | 15=>190 | 14=>201 | 28=>225 | 29=>226 | 20=>243 | 21=>244 | 22=>245 | 23=>246 | 24=>247 | 25=>248 | 26=>249 | 27=>250 | 46=>269 | 47=>259 | 48=>260 | 49=>270 | 50=>271 | 57=>278 | n=>n,fun | 22=>35 | 24=>40 | 25=>289 | 3=>3 | 39=>312 | 0=>0 | 53=>353 | 55=>221 | 4=>4 | 46=>346 | 45=>345 | 50=>265 | 5=>5 | 9=>9 | 66=>375 | 70=>379 | 76=>388 | 77=>172 | n=>n,fun | n=>n⟩
theorem Zb:Go.Proofs.SlLaysF0.n6 Tryz.prog amF:={
 mixed:=by kernel_rfl
 f6:=⟨Tryz.f163.name,by decide,Tryz.func163.trans (congrArg some (by kernel_rfl))⟩
 f14:=⟨Tryz.f201.name,by decide,Tryz.func201.trans (congrArg some (by kernel_rfl))⟩
 f15:=Tryz.func190.trans (congrArg some (by kernel_rfl))
 f20:=⟨Tryz.f243.name,by decide,Tryz.func243.trans (congrArg some (by kernel_rfl))⟩
 f21:=⟨Tryz.f244.name,by decide,Tryz.func244.trans (congrArg some (by kernel_rfl))⟩
 f22:=⟨Tryz.f245.name,by decide,Tryz.func245.trans (congrArg some (by kernel_rfl))⟩
 f23:=⟨Tryz.f246.name,by decide,Tryz.func246.trans (congrArg some (by kernel_rfl))⟩
 f24:=⟨Tryz.f247.name,by decide,Tryz.func247.trans (congrArg some (by kernel_rfl))⟩
 f25:=⟨Tryz.f248.name,by decide,Tryz.func248.trans (congrArg some (by kernel_rfl))⟩
 f26:=⟨Tryz.f249.name,by decide,Tryz.func249.trans (congrArg some (by kernel_rfl))⟩
 f27:=⟨Tryz.f250.name,by decide,Tryz.func250.trans (congrArg some (by kernel_rfl))⟩
 f28:=Tryz.func225.trans (congrArg some (by kernel_rfl))
 f29:=Tryz.func226.trans (congrArg some (by kernel_rfl))
 f46:=⟨Tryz.f269.name,by decide,Tryz.func269.trans (congrArg some (by kernel_rfl))⟩
 f47:=Tryz.func259.trans (congrArg some (by kernel_rfl))
 f48:=Tryz.func260.trans (congrArg some (by kernel_rfl))
 f49:=⟨Tryz.f270.name,by decide,Tryz.func270.trans (congrArg some (by kernel_rfl))⟩
 f50:=⟨Tryz.f271.name,by decide,Tryz.func271.trans (congrArg some (by kernel_rfl))⟩
 f57:=⟨Tryz.f278.name,by decide,Tryz.func278.trans (congrArg some (by kernel_rfl))⟩
 t0:=Tryz.underlying0
 a0:=Tryz.isAgg0
 z0:=Tryz.sizeOf0
 v0:=Tryz.zeroValue0
 t3:=Tryz.underlying3
 a3:=Tryz.isAgg3
 z3:=Tryz.sizeOf3
 v3:=Tryz.zeroValue3
 t4:=Tryz.underlying4
 a4:=Tryz.isAgg4
 z4:=Tryz.sizeOf4
 v4:=Tryz.zeroValue4
 t5:=Tryz.underlying5
 a5:=Tryz.isAgg5
 z5:=Tryz.sizeOf5
 v5:=Tryz.zeroValue5
 t9:=Tryz.underlying9
 a9:=Tryz.isAgg9
 z9:=Tryz.sizeOf9
 v9:=Tryz.zeroValue9
 t22:=Tryz.underlying35
 a22:=Tryz.isAgg35
 z22:=Tryz.sizeOf35
 v22:=Tryz.zeroValue35
 t25:=Tryz.underlying289
 a25:=Tryz.isAgg289
 z25:=Tryz.sizeOf289
 v25:=Tryz.zeroValue289
 t39:=Tryz.underlying312
 a39:=Tryz.isAgg312
 z39:=Tryz.sizeOf312
 v39:=Tryz.zeroValue312
 t45:=Tryz.underlying345
 a45:=Tryz.isAgg345
 z45:=Tryz.sizeOf345
 v45:=Tryz.zeroValue345
 t46:=Tryz.underlying346
 a46:=Tryz.isAgg346
 z46:=Tryz.sizeOf346
 v46:=Tryz.zeroValue346
 t50:=Tryz.underlying265
 a50:=Tryz.isAgg265
 z50:=Tryz.sizeOf265
 v50:=Tryz.zeroValue265
 t53:=Tryz.underlying353
 a53:=Tryz.isAgg353
 z53:=Tryz.sizeOf353
 v53:=Tryz.zeroValue353
 t55:=Tryz.underlying221
 a55:=Tryz.isAgg221
 z55:=Tryz.sizeOf221
 v55:=Tryz.zeroValue221
 t66:=Tryz.underlying375
 a66:=Tryz.isAgg375
 z66:=Tryz.sizeOf375
 v66:=Tryz.zeroValue375
 t70:=Tryz.underlying379
 a70:=Tryz.isAgg379
 z70:=Tryz.sizeOf379
 v70:=Tryz.zeroValue379
 t76:=Tryz.underlying388
 a76:=Tryz.isAgg388
 z76:=Tryz.sizeOf388
 v76:=Tryz.zeroValue388
 t77:=Tryz.underlying172
 a77:=Tryz.isAgg172
 z77:=Tryz.sizeOf172
 v77:=Tryz.zeroValue172 }
theorem amG (h:I) (x c:V) (n lim:Int) (aG:n≤1) (h0:0≤n):Pure Tryz.prog 243 [x,.int .i64 0,.int .i64 n,c] h (.tuple []):=by
 refine Pure.val (bj.tuple bo.nil) ?_
 refine ae.ax (c:=_) Tryz.func243 rfl (by kernel_rfl) (by simp) ?_
 have bK:IntKind.i64.wrap (0+1)=1:=by decide
 simp only [af,Nat.reduceEqDiff,bK]
 refine aX.b9 (α:=Unit) (fun _ f h'=>f 8=.int .i64 1∧f 2=.int .i64 n∧h'=h) (fun _=>0) () ⟨rfl,rfl,rfl⟩ ?_
 rintro _ f h' ⟨f8,f2,rfl⟩
 refine am (by kernel_rfl) ?_
 have d1:decide (1<n)=false:=decide_eq_false (by omega)
 simp only [af,Nat.reduceEqDiff,f8,f2,d1,om,Tryz.results243,ll]
 exact aF ⟨rfl,J.refl _ _⟩
theorem amH (h:I) (x c:V) (n l:Int) (aG:n≤1) (h0:0≤n):Pure Tryz.prog 201 [x,.int .i64 0,.int .i64 n,.int .i64 l,c] h (.tuple []):=by
 refine Pure.val (bj.tuple bo.nil) ?_
 refine ae.ax (c:=_) Tryz.func201 rfl (by kernel_rfl) (by simp) ?_
 simp only [af]
 refine aX.b9 (α:=Unit) (fun _ f h'=>f 0=x∧f 1=.int .i64 0∧f 2=.int .i64 n∧f 4=c∧h'=h) (fun _=>0) () ⟨rfl,rfl,rfl,rfl,rfl⟩ ?_
 rintro _ f h' ⟨f0,f1,f2,f4,rfl⟩
 refine am (by kernel_rfl) ?_
 have hw:IntKind.i64.wrap (n - 0)=n:=by rw [Go.IntWalk.i64_in _ (by omega)];omega
 have d1:decide (n≤12)=true:=decide_eq_true (by omega)
 simp only [af,Nat.reduceEqDiff,reduceCtorEq,f0,f1,f2,f4,hw,d1]
 refine bU ajk (amG _ x c n 0 aG h0) ?_
 simp only [af,aU,Tryz.results201,ll]
 exact aF ⟨rfl,J.refl _ _⟩
theorem amI (h:I) (x c:V) (n:Int) (aG:n=0∨n=1) (az:dU Tryz.prog 35 x h=some (.int .i64 n)):Pure Tryz.prog 163 [x,c] h (.tuple []):=by
 refine Pure.val (bj.tuple bo.nil) ?_
 refine ae.ax (c:=_) Tryz.func163 rfl (by kernel_rfl) (by simp) ?_
 have hw:IntKind.u64.wrap n=n:=by rcases aG with rfl | rfl<;>decide
 simp only [af,Nat.reduceEqDiff,reduceCtorEq,iB,Hn,az,hw]
 refine bU ai9 (Rz h n aG) ?_
 simp only [af,Nat.reduceEqDiff]
 refine bU ajd (amH h x c n n (by omega) (by omega)) ?_
 simp only [af,om,Tryz.results163,ll]
 exact aF ⟨rfl,J.refl _ _⟩
theorem amJ {g:FuncId} {cf:aj→aj→Int} (o1:SWO (ltOf cf)) (wK:∀ a b,ae Tryz.prog g [.agg (aL a),.agg (aL b)] ze fun r _=>r=.int .i64 (cf a b))
  (amK:∀ args w,(callFunc g args).run Tryz.prog w=.ok (.enter g args) w) (h:I) (x:V) (l:List aj) (aR:Own h 40 5 x (l.flatMap aL)) (az:l.length≤2 ^ 40) :
  ae Tryz.prog 163 [x,.func (.func g) [] []] h fun r h'=>r=.tuple []∧J h h' (bl x)∧∃ b0:List aj,b0.Perm l∧(b0.Pairwise fun a b=>ltOf cf b a=false)∧Own h' 40 5 x (b0.flatMap aL):=by
 refine ahd (by decide) lX (fun x=>rfl) A9 o1 wK
  (fun n enc hk h1 cf o1 hL cap d w au hH ak U=>AnyQ.slices_SortFunc Zb 5 Tryz.isAgg40 Tryz.sizeOf40 enc hk h1 cf o1 g #[] hL 0 cap d w amK au hH ak U) (fun aG=>?_) aR (by omega)
 subst aG
 have hlen:dU Tryz.prog 35 x h=some (.int .i64 0):=by
  rcases aR with ⟨rfl | rfl,_⟩ | ⟨i,len,cap,c,ex,rfl,_,_,az,_⟩
  ·exact Am wY
  ·exact BV wY
  ·have:len=0:=by simp at az;omega
   subst this
   exact BU wY
 exact amI h x _ 0 (.inl rfl) hlen
open Go Go.Proofs Go.Proofs.YtedkjhifbibpmaaGreatDoor.Ab
theorem amL (h:I) (a b:aj):ae Tryz.prog 164 [.agg (aL a),.agg (aL b)] h (fun r h'=>r=.int .i64 (lE [iF a.aJ b.aJ,iF a.key b.key])∧J h h' none_):=by
 refine ae.ax (c:=_) Tryz.func164 rfl (by kernel_rfl) (by simp) ?_
 have cc:∀ c:aj,(V.agg (aL c)).cells=some (aL c):=fun _=>rfl
 have cl:∀ c:aj,(aL c).length=5:=lX
 have Zc:∀ c:aj,List.drop 1 (aL c)=[.int .i64 c.aJ,.int .i64 c.to,.int .i64 c.val,.bool c.del]:=fun _=>rfl
 have Zd:∀ c:aj,dv (some none) (some (aL c))=some (.int .i64 c.key):=fun _=>rfl
 simp only [af,Nat.reduceEqDiff,cc]
 refine aX.bk none_ [10,11] (.q 0 (.q 1 (.q 2 (.q 3 (.c 4 (.q 5 (.q 6 (.q 7 (.q 8 (.c 9 (.e 10 (.a 11 (.q 12 .done)) .stop))))))))))) (by kernel_rfl) (by kernel_rfl) (by kernel_rfl) ?_
 simp only [af,bN,Nat.reduceEqDiff,Nat.reduceLeDiff,ou,bx,cl,Zc]
 refine ix rfl rfl rfl (fun h' _=>Ik h' a.aJ b.aJ) ?_
 simp only [af,bN,Nat.reduceEqDiff,E4,bx,cl,Zd]
 refine ix rfl rfl rfl (fun h' _=>Ik h' a.key b.key) ?_
 generalize iF a.aJ b.aJ=x
 generalize iF a.key b.key=y
 have RA:∀ H:I,kI Tryz.prog 24 2 [(0,.int .i64 x),(1,.int .i64 y)] H=some (.bc H.n 0 2 2,H.push (.cells (aY [x,y]) 3 none)):=fun H=>by rw [qA uA];rfl
 simp only [af,bN,Nat.reduceEqDiff,RA]
 obtain ⟨aa,bD,k2⟩:=aM.lit (h:=(h.push (.cells (aL a) 40 none)).push (.cells (aL b) 40 none)) (c:=aY [x,y]) (e:=3) (n:=2) (sz:=1) rfl (by decide) (by decide)
 refine cy V7 (ae.args (aB.cons bD (aB.refl _ _)) (Yf aa [x,y] (by simp only [List.length_cons,List.length_nil];omega))) fun r aC ⟨cJ,km⟩=>?_
 subst cJ
 simp only [af,bN,Nat.reduceEqDiff,aU,Tryz.results164,ac]
 refine aF ⟨rfl,?_⟩
 rw [km]
 exact ((J.push _ _ _).bg _).trans' k2
def DY (a b:aj):Int:=lE [iF a.aJ b.aJ,iF a.key b.key]
theorem amM (a b:aj):decide (DY a b<0)=p4 a b:=by
 unfold DY lE lE lE iF p4
 rw [Bool.eq_iff_iff]
 simp only [decide_eq_true_eq]
 by_cases h1:a.aJ<b.aJ
 ·simp [h1]
 ·by_cases aa:b.aJ<a.aJ
  ·have:¬a.aJ=b.aJ:=by omega
   simp [h1,aa,this]
  ·have e:a.aJ=b.aJ:=by omega
   by_cases aC:a.key<b.key
   ·simp [e,aC]
   ·by_cases bz:b.key<a.key
    ·simp [e,aC,bz]
    ·simp [e,aC,bz]
theorem amN (a:aj):p4 a a=false:=by unfold p4;exact decide_eq_false (by omega)
theorem amO (a b c:aj) (h1:p4 a b=true) (aa:p4 b c=true):p4 a c=true:=by
 unfold p4 at *
 simp only [decide_eq_true_eq] at *
 omega
theorem amP (a b c:aj) (h1:p4 a b=false) (aa:p4 b c=false):p4 a c=false:=by
 unfold p4 at *
 simp only [decide_eq_false_iff_not] at *
 omega
theorem DZ (a b:aj):ltOf DY a b=p4 a b:=amM a b
theorem amQ:YA Nb:=fun h x l aR az=>by
 refine (amJ (cf:=DY) ⟨fun a=>by rw [DZ];exact amN a,fun a b c h1 aa=>by rw [DZ] at *;exact amO a b c h1 aa,fun a b c h1 aa=>by rw [DZ] at *;exact amP a b c h1 aa⟩
  (fun a b=>(amL ze a b).mono fun r h' ab=>ab.1) (enters_of Tryz.func164 (by kernel_rfl) rfl) h x l aR az).mono fun r h' ⟨h1,aa,b0,aZ,U,aR⟩=>⟨h1,aa,b0,aZ,U.imp fun {a b} nP=>by rwa [DZ] at nP,aR⟩
theorem RB {t:Int}:lC t=true↔0≤t∧t≤1099511627776:=by simp [lC]
def kY:dR→TypeId
 | .kv=>194
 | .de _=>197
 | .dZ _=>200
inductive hz (h:I) (i:Nat):List Nat→dR→List aj→Prop
 | kv {v:V} {l:List dd} (k:eo h i v 1024 l):hz h i (i::(aV v).toList) .kv (l.map oO)
 | de {m cl:Nat} {g:Int} {e:eg} {l:List aj} (k:YM h i m g e cl) (r:eE g e l) (w:c8 (.de g) l):hz h i [i,m] (.de g) l
 | dZ {v:V} {g:Int} {l:List aj} (k:cW h i v 1024 g l):hz h i (i::(aV v).toList) (.dZ g) l
theorem mem_io {i:Nat} {v:V} {q:Nat}:q ∈ i::(aV v).toList↔q=i∨aV v=some q:=by
 cases h:aV v<;>simp [eq_comm]
def dA (h:I) (O ep:List Nat):Prop:=∀ x ∈ ep,x ∈ O∨h.n≤x
theorem dA.refl (h:I) (O:List Nat):dA h O O:=fun _ ag=>.inl ag
theorem dA.of {h:I} {i:Nat} {v v':V} (d:bV h v v'):dA h (i::(aV v).toList) (i::(aV v').toList):=fun x ag=>by
 rcases mem_io.1 ag with rfl | ag
 ·exact .inl (by simp)
 ·rcases d with d | d
  ·exact .inl (mem_io.2 (.inr (by rw [←d];exact ag)))
  ·exact .inr (d x ag)
section
variable {h h':I} {i:Nat} {O:List Nat} {K:dR} {l:List aj}
theorem hz.lt (k:hz h i O K l):∀ q ∈ O,q<h.n:=by
 cases k with
 | kv k=>intro q ad;rcases mem_io.1 ad with rfl | ad;exact k.lt;exact k.own.lt q ad
 | de k r w=>intro q ad;simp at ad;rcases ad with rfl | rfl;exact k.k.lt;exact k.k.ox
 | dZ k=>intro q ad;rcases mem_io.1 ad with rfl | ad;exact k.lt;exact k.own.lt q ad
theorem hz.al {M:Nat→Prop} (k:hz h i O K l) (hk:J h h' M) (hm:∀ q ∈ O,¬M q):hz h' i O K l:=by
 cases k with
 | kv k=>exact .kv (k.al hk (hm _ (by simp)) fun j aS=>hm j (mem_io.2 (.inr aS)))
 | de k r w=>exact .de ⟨k.k.al hk (hm _ (by simp)) (hm _ (by simp)),k.st,k.uR,k.aJ⟩ r w
 | dZ k=>exact .dZ (k.al hk (hm _ (by simp)) fun j aS=>hm j (mem_io.2 (.inr aS)))
theorem hz.ba (k:hz h i O K l) (hk:J h h' none_):hz h' i O K l:=k.al hk fun _ _=>by simp [none_]
theorem hz.wf (k:hz h i O K l):c8 K l:=by
 cases k with
 | kv k=>
  refine ⟨Fs k.hT,by rw [List.length_map];have:=k.len;omega,fun x ag=>?_,trivial⟩
  obtain ⟨a,b,_,rfl⟩:=(Bl k.hT).1 ag
  exact ⟨rfl,by simp [eS,lG]⟩
 | de k r w=>exact w
 | dZ k=>exact ⟨k.iV,k.len,fun x ag=>⟨(k.ok x ag).del,YZ (k.ok x ag)⟩,k.g1,by have:=k.g2;omega⟩
theorem Ze {t:Int}:jf t=lC t:=by simp [jf,lC]
theorem amR (k:hz h i O K l) (r:Rec) (bq:lC r.t=true):Pure Tryz.prog 60 [.iface (kY K) (.ptr i 0),.agg (aI r)] h (.int .i64 (Fq K l r.k r.t)):=by
 have iO:=RB.1 bq
 cases k with
 | kv k=>
  have:=alg k r
  rw [←Y7 (v:=0) (d:=false) k.hT] at this
  exact this
 | de k ja w=>
  have:=al2 k.k r iO.1 iO.2
  rw [←ja.val (v:=0) k.uR w.iV] at this
  exact this
 | dZ k=>
  have:=al6 k r
  rw [show uP _ _ _ _=found _ _ _ _ from by rw [uP,if_pos (by rw [Ze];exact bq)]] at this
  exact this
def hj (cs:List aj):V:=.ai cs.length (cs.flatMap aL)
theorem Zf {h':I} {j:Nat} {c:aj} (o:Own h' 40 5 (.bc j 0 1 1) (aL c)) (t mr:Int):∃ aa,aM (.tuple [.bc j 0 1 1,.int .i64 t,.int .i64 mr]) h' (.tuple [hj [c],.int .i64 t,.int .i64 mr]) aa∧J h' aa (fun q=>q=j):=by
 obtain ⟨aa,bh,bB⟩:=aM.own o (n:=1) rfl (by decide)
 refine ⟨aa,aM.tuple (aB.cons ?_ (aB.refl _ _)),bB.mono fun q ad=>by simpa [bl,aV,eq_comm] using ad⟩
 have:hj [c]=.ai 1 (aL c):=by simp [hj]
 rw [this];exact bh
theorem amS {m cl:Nat} {room size:Int} {e:eg} (k:c7 h i m room size (hC e) cl) (r:Rec) (n:Int) (h0:0≤r.t) (h1:r.t≤1099511627776) (aH:(b7 e (r.k,dF size r.t)).isSome=false) (az:room≤(e.length:Int)) :
  ae Tryz.prog 61 [.iface 197 (.ptr i 0),.agg (aI r),.int .i64 n] h (fun q h'=>∃ c t,q=.tuple [c,.int .i64 t,.int .i64 3]∧J h h' none_):=by
 obtain ⟨b6,cT,rt⟩:=r
 refine ae.ax (c:=_) Tryz.func61 rfl (by kernel_rfl) (by simp) ?_
 unfold aI
 obtain ⟨H,hH⟩:∃ y,y=h.push (.cells [.int .i64 b6,.int .i64 cT,.int .i64 rt] 38 none):=⟨_,rfl⟩
 have eJ:J h H none_:=by rw [hH];exact J.push _ _ _
 have qD:H.n=h.n+1:=by rw [hH];rfl
 simp only [af,Nat.reduceEqDiff,Nat.reduceAdd,Nat.reduceLeDiff,reduceCtorEq,vK,rk,bx,Rh,Ri]
 rw [←hH]
 clear hH
 refine cy P6 (alu H i m cl room size b6 rt n e (k.ba eJ) aH az h0 h1) fun q rf ⟨aw,hZ⟩=>?_
 subst aw
 obtain ⟨C,nx⟩:∃ y,y=(⟨0,0,0,0,false⟩:aj):=⟨_,rfl⟩
 rw [←nx]
 have cc:∀ c:aj,(V.agg (aL c)).cells=some (aL c):=fun _=>rfl
 have st:∀ c:aj,bR (some 5) (bb.cells [V.int .i64 0,V.int .i64 0,V.int .i64 0,V.int .i64 0,V.bool false] 40 none) 0 (aL c)=some (.cells (aL c) 40 none):=fun _=>rfl
 obtain ⟨bP,bE⟩:∃ y,y=rf.push (.cells (aL C) 40 none):=⟨_,rfl⟩
 have k2:J rf bP none_:=by rw [bE];exact J.push _ _ _
 have g2:bP.get rf.n=.cells (aL C) 40 none:=by rw [bE];exact cA
 have ft:bP.n=rf.n+1:=by rw [bE];rfl
 simp only [af,Nat.reduceEqDiff,ml,ow,cc,st]
 rw [←bE]
 clear bE
 have ey:=H6 bP C
 have ld:dv (some (some 5)) (some (aL C))=some (.agg (aL C)):=rfl
 have d0:dB (.cells (aL C) 40 none) 0=some (aL C):=rfl
 have d1:dB (.cells (aL C) 40 none) 1=some [.int .i64 C.aJ,.int .i64 C.to,.int .i64 C.val,.bool C.del]:=rfl
 generalize bF:aL C=E at *
 refine aX.bk none_ [1] (.q 0 (.q 2 (.q 3 (.q 4 (.e 1 (.q 5 (.q 6 (.q 7 .done))) .stop))))) (by kernel_rfl) (by kernel_rfl) (by kernel_rfl) ?_
 simp only [af,bN,Nat.reduceEqDiff,ou,bx,mH,g2,ey,ld,d0,d1,aU,Tryz.results61,sE]
 have k3:J bP (bP.push (.cells E 40 none)) none_:=J.push _ _ _
 exact aF ⟨_,_,rfl,(eJ.trans' hZ).trans' (k2.trans' k3)⟩
theorem amT (h:I) (i:Nat) (v:V) (room g key time val:Int) (l:List aj) (n2:jf time=true) (aq:found g l key time=[]) (aH:room≤(l.length:Int)) (k:cW h i v room g l) :
  ae Tryz.prog 121 [.ptr i 0,.int .i64 key,.int .i64 time,.int .i64 val] h (fun r h'=>r=.tuple [.ai 0 [],.int .i64 3]∧h'=h):=by
 refine ae.cast ?_
 refine ae.ax (c:=_) Tryz.func121 rfl (by kernel_rfl) (by simp) ?_
 have av:=k.get
 have jG:=k.rH h
 have d0:decide (room≤((l.length:Nat):Int))=true:=decide_eq_true aH
 simp only [af,Nat.reduceEqDiff,reduceCtorEq,E6]
 refine bU Cl (C0 time h) ?_
 simp only [af,Nat.reduceEqDiff,reduceCtorEq,n2]
 refine bU P5 (Rb h i v room g key time l k) ?_
 have Is:uP g l key time=[]:=by rw [uP,if_pos n2,aq]
 rw [Is]
 have pf:(((0:Nat):Int)==0)=true:=rfl
 simp only [af,Nat.reduceEqDiff]
 refine aX.bk none_ [] (.q 0 (.q 1 (.q 2 (.q 3 (.q 4 (.q 5 (.q 6 (.q 7 (.q 8 (.q 9 (.q 10 (.q 11 (.q 12 (.q 13 (.q 14 .done))))))))))))))) (by kernel_rfl) (by kernel_rfl) (by kernel_rfl) ?_
 simp only [af,bN,Nat.reduceEqDiff,Nat.reduceAdd,Nat.reduceLeDiff,reduceCtorEq,Qh,vJ,wY,zx,bn,av,jG,d0,pf,aU,Tryz.results121,dn]
 exact aF ⟨_,h,amj h 3,rfl,rfl⟩
theorem amU {v:V} {g:Int} (k:cW h i v 1024 g l) (r:Rec) (n:Int) (n2:jf r.t=true) (aq:found g l r.k r.t=[]) (az:1024≤l.length) :
  ae Tryz.prog 61 [.iface 200 (.ptr i 0),.agg (aI r),.int .i64 n] h (fun q h'=>∃ c t,q=.tuple [c,.int .i64 t,.int .i64 3]∧J h h' none_):=by
 obtain ⟨b6,cT,rt⟩:=r
 refine ae.ax (c:=_) Tryz.func61 rfl (by kernel_rfl) (by simp) ?_
 unfold aI
 obtain ⟨H,hH⟩:∃ y,y=h.push (.cells [.int .i64 b6,.int .i64 cT,.int .i64 rt] 38 none):=⟨_,rfl⟩
 have eJ:J h H none_:=by rw [hH];exact J.push _ _ _
 simp only [af,Nat.reduceEqDiff,Nat.reduceAdd,Nat.reduceLeDiff,reduceCtorEq,vK,rk,bx,Rj,Rk,Rl]
 rw [←hH]
 clear hH
 refine cy VX (amT H i v 1024 g b6 rt n l n2 aq (by omega) (k.ba eJ)) fun q h1 ⟨aw,hZ⟩=>?_
 subst aw hZ
 simp only [af,Int.reduceBNe,Nat.reduceEqDiff,aU,Tryz.results61,sE]
 exact aF ⟨_,_,rfl,eJ⟩
theorem amV (k:hz h i O K l) (r:Rec) (n:Int) (bq:lC r.t=true) :
  ae Tryz.prog 61 [.iface (kY K) (.ptr i 0),.agg (aI r),.int .i64 n] h (fun q h'=>∃ c t mr ep,q=.tuple [c,.int .i64 t,.int .i64 mr]∧J h h' (· ∈ O)∧dA h O ep ∧
   if qK K l r.k r.t=true then mr=3∧hz h' i ep K l else mr=0∧t=zH K l r.k r.t∧c=hj (qJ K l r.k r.t n)∧hz h' i ep K (p6 K l r.k r.t n)):=by
 have iO:=RB.1 bq
 cases k with
 | @kv v l k=>
  have Nn:qK .kv (l.map oO) r.k r.t=full 1024 l r.k:=by
   simp only [qK,n9,IF k.hT,full,List.length_map]
   congr 1
   rw [Bool.eq_iff_iff,decide_eq_true_eq,decide_eq_true_eq]
   omega
  refine ae.cast ((ali k r n).mono fun q h' ⟨v',j,e,bB,b8,d,o,aS,cB,Zg⟩=>?_)
  subst e
  have Np:J h h' (· ∈ i::(aV v).toList):=b8.mono fun q ad=>mem_io.2 ad
  cases aq:full 1024 l r.k with
  | true=>
   refine ⟨_,h',aM.refl _ _,_,_,_,_,rfl,Np,dA.of d,?_⟩
   rw [if_pos (by rw [Nn];exact aq)]
   refine ⟨by simp [mq,aq],?_⟩
   have:jR 1024 l r.k n=l:=by simp [jR,aq]
   rw [this] at bB
   exact .kv bB
  | false=>
   have fC:je 1024 l r.k n=⟨r.k,0,0,n,false⟩:=by simp [je,aq]
   have hW:jR 1024 l r.k n=put l r.k n:=by simp [jR,aq]
   rw [fC] at o
   rw [hW] at bB
   obtain ⟨aa,bD,dE⟩:=Zf o r.t (mq 1024 l r.k)
   refine ⟨_,aa,bD,_,_,_,_,rfl,Np.trans dE fun q ad ab=>by omega,dA.of d,?_⟩
   rw [if_neg (by rw [Nn,aq];decide)]
   refine ⟨by simp [mq,aq],rfl,rfl,?_⟩
   have aW:p6 .kv (l.map oO) r.k r.t n=(put l r.k n).map oO:=(Y8 k.hT r.k n).symm
   rw [aW]
   exact .kv (bB.al dE cB.symm fun q ad ab=>Zg (by rw [ad,ab]))
 | @de m cl g e l k ja w=>
  have ab:df l (n9 (.de g) r.k r.t 0)=(b7 e (r.k,dF g r.t)).isSome:=ja.has k.uR rfl
  have hlen:=ja.len
  cases aq:qK (.de g) l r.k r.t with
  | true=>
   simp only [qK,ab,Bool.and_eq_true,Bool.not_eq_true',decide_eq_true_eq] at aq
   refine (amS k.k r n iO.1 iO.2 aq.1 (by omega)).mono fun q h' ⟨c,t,aw,b8⟩=>⟨c,t,3,[i,m],aw,b8.up,dA.refl _ _,?_⟩
   rw [if_pos rfl]
   exact ⟨rfl,(hz.de k ja w).ba b8⟩
  | false=>
   have wM:=aq
   simp only [qK,ab,Bool.and_eq_false_iff,Bool.not_eq_false',decide_eq_false_iff_not] at aq
   refine ae.cast ((al3 k.k r n iO.1 iO.2 (aq.imp id fun q=>by omega)).mono fun q h' ⟨j,aw,bB,b8,o,aS⟩=>?_)
   subst aw
   obtain ⟨aa,bD,dE⟩:=Zf o (dF g r.t) 0
   have kr:=k.k.lt
   have fL:=k.k.ox
   refine ⟨_,aa,bD,_,_,_,[i,m],rfl,(b8.mono fun q ad=>by simp [ad]).trans dE fun q ad ab=>by omega,dA.refl _ _,?_⟩
   rw [if_neg (by decide)]
   refine ⟨rfl,rfl,rfl,?_⟩
   have aH:=CW (size:=g) iO.1 k.k.s1
   have st1:YM aa i m g (cC cl e (r.k,dF g r.t) n) (fT cl e (r.k,dF g r.t)):=⟨bB.al dE (by omega) (by omega),k.st.cC _ _,k.uR.set _ _ _,fun x ag=>by
    rcases Rq ag with ag | ag
    ·rw [ag];show 0≤dF g r.t∧dF g r.t≤2 ^ 41;omega
    ·exact k.aJ x ag⟩
   exact .de st1 (ja.set k.uR w.iV _ _ _ _) (w.jR n bq wM)
 | @dZ v g l k=>
  have n2:jf r.t=true:=by rw [Ze];exact bq
  cases aq:qK (.dZ g) l r.k r.t with
  | true=>
   simp only [qK,Bool.and_eq_true,List.isEmpty_iff,decide_eq_true_eq] at aq
   refine (amU k r n n2 aq.1 aq.2).mono fun q h' ⟨c,t,aw,b8⟩=>⟨c,t,3,i::(aV v).toList,aw,b8.up,dA.refl _ _,?_⟩
   rw [if_pos rfl]
   exact ⟨rfl,(hz.dZ k).ba b8⟩
  | false=>
   simp only [qK,Bool.and_eq_false_iff,List.isEmpty_eq_false_iff,decide_eq_false_iff_not] at aq
   refine (al7 k r n n2 (aq.imp id fun q=>by omega)).mono fun q h' ⟨v',aw,bB,b8,d⟩=>⟨_,_,_,i::(aV v').toList,aw,b8.mono fun q ad=>mem_io.2 ad,dA.of d,?_⟩
   rw [if_neg (by decide)]
   exact ⟨rfl,rfl,rfl,.dZ bB⟩
end
theorem amW {K:dR} {l:List aj} {c:aj} (a7:(hb K l c).2=0):eS K c=false∧((c.del=true∧df l c=true∧hb K l c=(eL l c,0))∨(c.del=false∧(!df l c&&decide (1024≤l.length))=false∧hb K l c=(p5 l c,0))):=by
 unfold hb at a7
 split at a7
 ·cases a7
 rename_i ak
 have ak:eS K c=false:=by simpa using ak
 refine ⟨ak,?_⟩
 split at a7
 ·rename_i sY
  split at a7
  ·rename_i ab
   exact .inl ⟨sY,ab,YV ak sY ab⟩
  ·cases a7
 ·rename_i sY
  have sY:c.del=false:=by simpa using sY
  split at a7
  ·cases a7
  ·rename_i aq
   have aq:(!df l c&&decide (1024≤l.length))=false:=by simpa using aq
   exact .inr ⟨sY,aq,YU ak sY aq⟩
theorem amX : gQ Tryz.prog 194 "Do" 295 := ⟨fun v w => by kernel_rfl, by kernel_rfl⟩
theorem amY : gQ Tryz.prog 197 "Do" 300 := ⟨fun v w => by kernel_rfl, by kernel_rfl⟩
theorem amZ : gQ Tryz.prog 200 "Do" 304 := ⟨fun v w => by kernel_rfl, by kernel_rfl⟩
def IG:dR→Nat
 | .kv=>295
 | .de _=>300
 | .dZ _=>304
theorem Nq (K : dR) : gQ Tryz.prog (kY K) "Do" (IG K) := by cases K; exact amX; exact amY; exact amZ
section
variable {h h':I} {i:Nat} {O:List Nat} {K:dR} {l:List aj}
theorem am0 {g aJ to:Int}:DX g aJ to=true↔(0≤aJ∧aJ≤1099511627776)∧dF g aJ=aJ∧to=aJ+g:=by
 simp only [DX,Bool.and_eq_true,decide_eq_true_eq,lC,and_assoc]
theorem RC (k:hz h i O K l) (c:aj) (a7:(hb K l c).2=0) :
  ae Tryz.prog (IG K) [.ptr i 0,.agg (aL c)] h (fun r h'=>∃ ep,r=.int .i64 0∧J h h' (· ∈ O)∧dA h O ep∧hz h' i ep K (hb K l c).1):=by
 obtain ⟨ak,au⟩:=amW a7
 cases k with
 | @kv v l k=>
  refine (QU h i v 1024 c l k).mono fun r h' ⟨v',e,bB,b8,d⟩=>⟨i::(aV v').toList,?_,b8.mono fun q ad=>mem_io.2 ad,dA.of d,?_⟩
  ·subst e
   have Bm:lB c=false:=by
    simp only [eS,lG,Bool.or_eq_false_iff,decide_eq_false_iff_not,Decidable.not_not,Bool.and_eq_false_iff] at ak
    simp only [lB,Bool.or_eq_false_iff,bne_eq_false_iff_eq,Bool.and_eq_false_iff]
    exact ak
   obtain ⟨ho,cf,kt,jz,p2⟩:=c
   simp only [eS,Bool.or_eq_false_iff,decide_eq_false_iff_not,Decidable.not_not] at ak
   obtain ⟨⟨rfl,rfl⟩,_⟩:=ak
   rcases au with ⟨h1,aa,_⟩ | ⟨h1,aa,_⟩
   ·rw [IF k.hT] at aa
    simp only at h1
    subst h1
    simp [xg,Bm,sT,aa]
   ·rw [IF k.hT,List.length_map] at aa
    simp only at h1
    subst h1
    have:full 1024 l ho=false:=by
     simp only [full]
     rw [Bool.and_eq_false_iff] at aa⊢
     rcases aa with aa | aa
     ·exact .inl aa
     ·right;simp only [decide_eq_false_iff_not] at aa⊢;omega
    simp [xg,Bm,mq,this]
  ·have Bm:lB c=false:=by
    simp only [eS,lG,Bool.or_eq_false_iff,decide_eq_false_iff_not,Decidable.not_not,Bool.and_eq_false_iff] at ak
    simp only [lB,Bool.or_eq_false_iff,bne_eq_false_iff_eq,Bool.and_eq_false_iff]
    exact ak
   obtain ⟨ho,cf,kt,jz,p2⟩:=c
   simp only [eS,Bool.or_eq_false_iff,decide_eq_false_iff_not,Decidable.not_not] at ak
   obtain ⟨⟨rfl,rfl⟩,_⟩:=ak
   have e:(hb .kv (l.map oO) ⟨ho,0,0,jz,p2⟩).1=(sm 1024 l ⟨ho,0,0,jz,p2⟩).map oO:=by
    rcases au with ⟨h1,aa,aC⟩ | ⟨h1,aa,aC⟩
    ·rw [aC]
     simp only at h1
     subst h1
     have:sm 1024 l ⟨ho,0,0,jz,true⟩=rm l ho:=by simp [sm,Bm]
     rw [this,amD k.hT ho jz true]
    ·rw [aC]
     simp only at h1
     subst h1
     rw [IF k.hT,List.length_map] at aa
     have aq:full 1024 l ho=false:=by
      simp only [full]
      rw [Bool.and_eq_false_iff] at aa⊢
      rcases aa with aa | aa
      ·exact .inl aa
      ·right;simp only [decide_eq_false_iff_not] at aa⊢;omega
     have:sm 1024 l ⟨ho,0,0,jz,false⟩=put l ho jz:=by simp [sm,Bm,jR,aq]
     rw [this,Y8 k.hT ho jz]
   rw [e]
   exact .kv bB
 | @de m cl g e l k ja w=>
  obtain ⟨ho,cf,kt,jz,p2⟩:=c
  simp only [eS,Bool.or_eq_false_iff,Bool.not_eq_false',lG] at ak
  obtain ⟨hw,aD⟩:=ak
  obtain ⟨⟨h0,h1⟩,aq,rfl⟩:=am0.1 hw
  have hlen:=ja.len
  rcases au with ⟨hv,ht,oK⟩ | ⟨hv,ht,oK⟩
  ·simp only at hv
   subst hv
   simp only [Bool.true_and,decide_eq_false_iff_not,Decidable.not_not] at aD
   subst aD
   rw [oK]
   have ag:(b7 e (ho,cf)).isSome=true:=by rw [←ja.has (x:=mv g ho cf 0) k.uR rfl];exact ht
   exact (al9 h i m cl 1024 g ho cf e k.k h0 h1 aq ag).mono fun r h' ⟨aw,bB,b8⟩=>⟨[i,m],aw,b8.mono fun q ad=>by simp [ad],dA.refl _ _,
    .de ⟨bB,k.st.fD _,k.uR.del _,fun x ag=>k.aJ x ((Kz _ _).subset ag)⟩ (ja.del k.uR w.iV (kx.2 ⟨rfl,rfl,rfl⟩)) (w.rm _)⟩
  ·simp only at hv
   subst hv
   rw [oK]
   have ag:df l ⟨ho,cf,cf+g,jz,false⟩=(b7 e (ho,cf)).isSome:=ja.has (v:=jz) k.uR rfl
   have RD:=ht
   rw [ag] at ht
   simp only [Bool.and_eq_false_iff,Bool.not_eq_false',decide_eq_false_iff_not] at ht
   exact (al8 h i m cl 1024 g ho cf jz e k.k h0 h1 aq (ht.imp id fun q=>by omega)).mono fun r h' ⟨aw,bB,b8⟩=>⟨[i,m],aw,b8.mono fun q ad=>by simp [ad],dA.refl _ _,
    .de ⟨bB,k.st.cC _ _,k.uR.set _ _ _,fun x ag=>by
     rcases Rq ag with ag | ag
     ·rw [ag];show 0≤cf∧cf≤2 ^ 41;omega
     ·exact k.aJ x ag⟩ (ja.set k.uR w.iV _ _ _ _) (w.set RD rfl (by simp only [eS,hw];rfl))⟩
 | @dZ v g l k=>
  obtain ⟨ho,cf,kt,jz,p2⟩:=c
  have ic:=ak
  simp only [eS,Bool.or_eq_false_iff,Bool.not_eq_false',lC,decide_eq_true_eq,decide_eq_false_iff_not,lG] at ak
  obtain ⟨⟨⟨iK,ki⟩,MT⟩,aD⟩:=ak
  rcases au with ⟨hv,ht,oK⟩ | ⟨hv,ht,oK⟩
  ·simp only at hv
   subst hv
   simp only [Bool.true_and,decide_eq_false_iff_not,Decidable.not_not] at aD
   subst aD
   rw [oK]
   exact (amp h i v 1024 g l ⟨ho,cf,kt,0,false⟩ ⟨iK.1,by show cf≤kt;omega,by show kt≤2 ^ 40;omega,rfl⟩ ht k).mono fun r h' ⟨v',e,bB,b8,d⟩=>⟨i::(aV v').toList,e,b8.mono fun q ad=>mem_io.2 ad,dA.of d,.dZ bB⟩
  ·simp only at hv
   subst hv
   rw [oK]
   simp only [Bool.and_eq_false_iff,Bool.not_eq_false',decide_eq_false_iff_not] at ht
   exact (amq h i v 1024 g l ⟨ho,cf,kt,jz,false⟩ ⟨iK.1,by show cf≤kt;omega,by show kt≤2 ^ 40;omega,rfl⟩ (ht.symm.imp (fun q=>by omega) id) (ht.symm.imp (fun q=>by omega) id) k).mono fun r h' ⟨v',e,bB,b8,d⟩=>⟨i::(aV v').toList,e,b8.mono fun q ad=>mem_io.2 ad,dA.of d,.dZ bB⟩
def D0:dR→Int→Prop
 | .kv,_=>True
 | .de g,n=>n=g
 | .dZ g,n=>n=g
theorem am1 (k:hz h i O K l) (n mark:Int) (aG:D0 K n) (hm:-2 ^ 63≤mark∧mark<2 ^ 63) :
  ae Tryz.prog 57 [.iface (kY K) (.ptr i 0),.int .i64 n,.int .i64 mark] h (fun r h'=>∃ ep,Own h' 40 5 r ((gA K mark l).flatMap aL)∧(∀ j,aV r=some j→h.n≤j∧j ∉ ep)∧J h h' (· ∈ O)∧dA h O ep∧hz h' i ep K (gM K mark l)):=by
 have Nr:∀ l:List aj,gA .kv mark l=[]∧gM .kv mark l=l:=fun l=>⟨by simp [gA,Bk,xn],by simp [gM,xn]⟩
 cases k with
 | @kv v l k=>
  refine ae.ax (c:=_) Tryz.func57 rfl (by kernel_rfl) (by simp) ?_
  have cG:hX Tryz.prog (.iface (kY .kv) (.ptr i 0)) 197 true=some (.tuple [.c9,.bool false]):=by unfold hX;rw [Tryz.underlying197];rfl
  have a2:hX Tryz.prog (.iface (kY .kv) (.ptr i 0)) 200 true=some (.tuple [.c9,.bool false]):=by unfold hX;rw [Tryz.underlying200];rfl
  simp only [af,Nat.reduceEqDiff,reduceCtorEq,cG,a2,aU,Tryz.results57,ac]
  refine aF ⟨_,?_,by simp [aV],J.refl _ _,dA.refl _ _,?_⟩
  ·rw [(Nr _).1];exact Own.an _ _ _
  ·rw [(Nr _).2];exact .kv k
 | @de m cl g e l k ja w=>
  obtain rfl:n=g:=aG
  have ef:=k.k.s1
  have lj:=k.k.s2
  have hlen:=ja.len
  have az:=w.len
  refine ae.ax (c:=_) Tryz.func57 rfl (by kernel_rfl) (by simp) ?_
  have cG:hX Tryz.prog (.iface (kY (.de n)) (.ptr i 0)) 197 true=some (.tuple [.ptr i 0,.bool true]):=by unfold hX;rw [Tryz.underlying197];rfl
  by_cases h0:0≤mark
  ·have d0:decide (0≤mark)=true:=decide_eq_true h0
   have hw:IntKind.i64.wrap (mark - n)=mark - n:=Go.IntWalk.i64_in _ (by omega)
   simp only [af,Nat.reduceEqDiff,reduceCtorEq,cG,d0,hw]
   refine cy aiJ (amf amQ h i m cl 1024 n (mark - n) e k.k k.st k.uR (by omega) k.aJ) fun r h1 ⟨bB,c2,lc,hZ,oo,js,gv⟩=>?_
   have l3:∀ x:aj,xn (.de n) mark x=decide (x.to≤mark - n):=fun x=>by simp [xn,h0]
   have Zh:lc=gA (.de n) mark l:=by
    rw [ja.exp w hZ oo]
    unfold gA Bk
    congr 2
    exact List.filter_congr fun x _=>(l3 x).symm
   have am2:gM (.de n) mark l=l.filter fun x=>!decide (x.to≤mark - n):=List.filter_congr fun x _=>by rw [l3 x]
   rw [Zh] at js
   simp only [af,Nat.reduceEqDiff,aU,Tryz.results57,ac]
   have kr:=k.k.lt
   have fL:=k.k.ox
   refine aF ⟨[i,m],js,fun j aS=>⟨gv j aS,fun hm=>by have:=gv j aS;simp at hm;omega⟩,bB.mono fun q ad=>by simp [ad],dA.refl _ _,?_⟩
   have wf:=w.gM mark
   rw [am2] at wf⊢
   refine .de ⟨c2,?_,?_,fun x ag=>k.aJ x (List.mem_filter.1 ag).1⟩ ja.filter wf
   ·have U:=k.st
    exact ⟨fun x ag=>U.1 x (by
     obtain ⟨y,bd,rfl⟩:=List.mem_map.1 ag
     exact List.mem_map_of_mem (List.mem_filter.1 bd).1),U.2.sublist ((List.filter_sublist.map _).map _)⟩
   ·exact k.uR.sublist (List.filter_sublist.map _)
  ·have d0:decide (0≤mark)=false:=decide_eq_false h0
   have aw:gA (.de n) mark l=[]:=by
    have:l.filter (xn (.de n) mark)=[]:=by rw [List.filter_eq_nil_iff];intro x _;simp [xn];omega
    simp [gA,Bk,this,C6]
   have aW:gM (.de n) mark l=l:=by
    unfold gM
    rw [List.filter_eq_self]
    intro x _
    simp [xn];omega
   simp only [af,Nat.reduceEqDiff,reduceCtorEq,cG,d0,aU,Tryz.results57,ac]
   refine aF ⟨_,?_,by simp [aV],J.refl _ _,dA.refl _ _,?_⟩
   ·rw [aw];exact Own.an _ _ _
   ·rw [aW];exact .de k ja w
 | @dZ v g l k=>
  refine ae.ax (c:=_) Tryz.func57 rfl (by kernel_rfl) (by simp) ?_
  have cG:hX Tryz.prog (.iface (kY (.dZ g)) (.ptr i 0)) 197 true=some (.tuple [.c9,.bool false]):=by unfold hX;rw [Tryz.underlying197];rfl
  have a2:hX Tryz.prog (.iface (kY (.dZ g)) (.ptr i 0)) 200 true=some (.tuple [.ptr i 0,.bool true]):=by unfold hX;rw [Tryz.underlying200];rfl
  simp only [af,Nat.reduceEqDiff,reduceCtorEq,cG,a2]
  refine cy aiK (aml h i v 1024 g mark l k) fun r h1 ⟨v',js,gv,bB,b8,d⟩=>?_
  simp only [af,Nat.reduceEqDiff,aU,Tryz.results57,ac]
  exact aF ⟨i::(aV v').toList,js,fun j aS=>⟨(gv j aS).1,fun hm=>by
   rcases mem_io.1 hm with rfl | hm
   ·have:=(gv j aS).1;have:=k.lt;omega
   ·exact (gv j aS).2 hm⟩,b8.mono fun q ad=>mem_io.2 ad,dA.of d,.dZ bB⟩
theorem am3 (k:hz h i O K l) (n t mark:Int) (aG:D0 K n) (bq:lC t=true) :
  Pure Tryz.prog 62 [.iface (kY K) (.ptr i 0),.int .i64 n,.int .i64 t,.int .i64 mark] h (.bool (Y2 K t mark)):=by
 have iO:=RB.1 bq
 refine Pure.val (bj.bool _) ?_
 cases k with
 | @kv v l k=>
  refine ae.ax (c:=_) Tryz.func62 rfl (by kernel_rfl) (by simp) ?_
  have cG:hX Tryz.prog (.iface (kY .kv) (.ptr i 0)) 197 true=some (.tuple [.c9,.bool false]):=by unfold hX;rw [Tryz.underlying197];rfl
  have a2:hX Tryz.prog (.iface (kY .kv) (.ptr i 0)) 200 true=some (.tuple [.c9,.bool false]):=by unfold hX;rw [Tryz.underlying200];rfl
  simp only [af,Nat.reduceEqDiff,reduceCtorEq,cG,a2,aU,Tryz.results62,ac]
  exact aF ⟨rfl,J.refl _ _⟩
 | @de m cl g e l k ja w=>
  obtain rfl:n=g:=aG
  have ef:=k.k.s1
  have lj:=k.k.s2
  have aH:=CW (size:=n) iO.1 ef
  refine ae.ax (c:=_) Tryz.func62 rfl (by kernel_rfl) (by simp) ?_
  have cG:hX Tryz.prog (.iface (kY (.de n)) (.ptr i 0)) 197 true=some (.tuple [.ptr i 0,.bool true]):=by unfold hX;rw [Tryz.underlying197];rfl
  have hw:IntKind.i64.wrap (dF n t+n)=dF n t+n:=Go.IntWalk.i64_in _ (by omega)
  simp only [af,Nat.reduceEqDiff,reduceCtorEq,cG]
  refine bU Hi (lw h i m cl 1024 n t _ k.k) ?_
  rw [Ia iO.1 iO.2]
  simp only [af,Nat.reduceEqDiff,hw,aU,Tryz.results62,ac]
  exact aF ⟨rfl,J.refl _ _⟩
 | @dZ v g l k=>
  obtain rfl:n=g:=aG
  have ef:=k.g1
  have lj:=k.g2
  refine ae.ax (c:=_) Tryz.func62 rfl (by kernel_rfl) (by simp) ?_
  have cG:hX Tryz.prog (.iface (kY (.dZ n)) (.ptr i 0)) 197 true=some (.tuple [.c9,.bool false]):=by unfold hX;rw [Tryz.underlying197];rfl
  have a2:hX Tryz.prog (.iface (kY (.dZ n)) (.ptr i 0)) 200 true=some (.tuple [.ptr i 0,.bool true]):=by unfold hX;rw [Tryz.underlying200];rfl
  have hw:IntKind.i64.wrap (t+n)=t+n:=Go.IntWalk.i64_in _ (by omega)
  simp only [af,Nat.reduceEqDiff,reduceCtorEq,cG,a2,hw,aU,Tryz.results62,ac]
  exact aF ⟨rfl,J.refl _ _⟩
end
def gH (h:I) (a:Nat) (O:List Nat) (K:dR) (e:bG) (n:Int) (l:List aj):Prop :=
 ∃ i mK,O=a::mK∧xh h a (kY K) i e n∧hz h i mK K l∧a ∉ mK∧D0 K n
section
variable {h h':I} {a:Nat} {O:List Nat} {K:dR} {e:bG} {n:Int} {l:List aj}
theorem gH.lt (s:gH h a O K e n l):∀ q ∈ O,q<h.n:=by
 obtain ⟨i,mK,rfl,jg,k,ne,mL⟩:=s
 intro q ad
 rcases List.mem_cons.1 ad with rfl | ad
 ·exact jg.lt
 ·exact k.lt q ad
theorem gH.al {M:Nat→Prop} (s:gH h a O K e n l) (hk:J h h' M) (hm:∀ q ∈ O,¬M q):gH h' a O K e n l:=by
 obtain ⟨i,mK,rfl,jg,k,ne,mL⟩:=s
 exact ⟨i,mK,rfl,jg.al hk (hm _ (by simp)),k.al hk (fun q ad=>hm q (by simp [ad])),ne,mL⟩
theorem gH.ba (s:gH h a O K e n l) (hk:J h h' none_):gH h' a O K e n l:=s.al hk fun _ _=>by simp [none_]
theorem gH.wf (s:gH h a O K e n l):c8 K l:=by obtain ⟨i,mK,rfl,jg,k,ne,mL⟩:=s;exact k.wf
def kZ (K:dR) (e:bG) (l:List aj) (r:Rec):Except Int Int :=
 if lC r.t=false then .error 2 else
 match cE r.k r.v r.t (Fq K l r.k r.t) 16 e with
 | none=>.error 10
 | some N=>if qK K l r.k r.t then .error 3 else .ok N
def pI (K:dR) (e:bG) (l:List aj) (r:Rec):V :=
 match kZ K e l r with
 | .error c=>p3 c
 | .ok N=>jn r.k N (zH K l r.k r.t) (hj (qJ K l r.k r.t N))
def k0 (K:dR) (e:bG) (l:List aj) (r:Rec):List aj :=
 match kZ K e l r with
 | .error _=>l
 | .ok N=>p6 K l r.k r.t N
theorem am4 (w:c8 K l) (r:Rec):c8 K (k0 K e l r):=by
 unfold k0 kZ
 cases bq:lC r.t with
 | false=>simpa using w
 | true=>
  rw [if_neg (by decide)]
  cases cE r.k r.v r.t (Fq K l r.k r.t) 16 e with
  | none=>exact w
  | some N=>
   cases aq:qK K l r.k r.t with
   | true=>simpa [aq] using w
   | false=>simpa [aq] using w.jR N bq aq
theorem am5 (w:c8 K l) (r:Rec) {N:Int} (lW:kZ K e l r=.ok N):gz K l (qJ K l r.k r.t N)=some (k0 K e l r):=by
 have h1:k0 K e l r=p6 K l r.k r.t N:=by unfold k0;rw [lW]
 rw [h1]
 unfold kZ at lW
 cases bq:lC r.t with
 | false=>rw [if_pos bq] at lW;cases lW
 | true=>
  rw [if_neg (by rw [bq];decide)] at lW
  cases aD:cE r.k r.v r.t (Fq K l r.k r.t) 16 e with
  | none=>rw [aD] at lW;cases lW
  | some M=>
   rw [aD] at lW
   cases aq:qK K l r.k r.t with
   | true=>simp [aq] at lW
   | false=>
    simp [aq] at lW
    subst lW
    exact w.ID bq aq
theorem am6 (s:gH h a O K e n l) (hm:cY e=true) (av:ga h) (r:Rec) :
  ae Tryz.prog 19 [.ptr a 0,.agg (aI r)] h (fun q h'=>∃ ep,q=pI K e l r∧J h h' (· ∈ O)∧dA h O ep∧gH h' a ep K e n (k0 K e l r)):=by
 have aN:=s.lt
 obtain ⟨i,mK,rfl,jg,k,ne,mL⟩:=s
 have jG:=jg.lt
 have kr:=k.lt
 refine (alj jg hm av r (Fq K l r.k r.t) (· ∈ mK) ne (fun q ad ab=>by have:=kr q ab;omega)
  (fun H aa N c t mr=>∃ ep,dA H mK ep∧if qK K l r.k r.t=true then mr=3∧hz aa i ep K l else mr=0∧t=zH K l r.k r.t∧c=hj (qJ K l r.k r.t N)∧hz aa i ep K (p6 K l r.k r.t N))
  (fun h' Fm cN=>amR (k.ba Fm) r cN)
  (fun h' N Fm cN _=>(amV (k.ba Fm) r N cN).mono fun q aa ⟨c,t,mr,ep,aw,b8,nl,au⟩=>⟨c,t,mr,aw,b8,ep,nl,au⟩)).mono fun q ab ⟨qn,aa,bB,gv,k2,P⟩=>?_
 have up:∀ {ep:List Nat},dA qn mK ep→dA h (a::mK) (a::ep):=fun nl x ag=>by
  rcases List.mem_cons.1 ag with rfl | ag
  ·exact .inl (by simp)
  ·rcases nl x ag with ag | ag
   ·exact .inl (by simp [ag])
   ·exact .inr (by omega)
 cases bq:lC r.t with
 | false=>
  have aw:pI K e l r=p3 2:=by unfold pI kZ;rw [if_pos bq]
  have aW:k0 K e l r=l:=by unfold k0 kZ;rw [if_pos bq]
  rw [if_pos bq] at P
  obtain ⟨rfl,rfl⟩:=P
  rw [aw,aW]
  refine ⟨a::mK,rfl,(bB.trans k2 fun q ad ab=>by omega).up,dA.refl _ _,i,mK,rfl,(jg.al bB (by simp [none_])).al k2 (by omega),(k.ba bB).al k2 fun q ad=>by have:=kr q ad;omega,ne,mL⟩
 | true=>
  rw [if_neg (by rw [bq];decide)] at P
  cases aD:cE r.k r.v r.t (Fq K l r.k r.t) 16 e with
  | none=>
   have fi:kZ K e l r=.error 10:=by unfold kZ;rw [if_neg (by rw [bq];decide),aD]
   have aw:pI K e l r=p3 10:=by unfold pI;rw [fi]
   have aW:k0 K e l r=l:=by unfold k0;rw [fi]
   rw [aD] at P
   obtain ⟨rfl,rfl⟩:=P
   rw [aw,aW]
   exact ⟨a::mK,rfl,(bB.trans k2 fun q ad ab=>by omega).up,dA.refl _ _,i,mK,rfl,(jg.al bB (by simp [none_])).al k2 (by omega),(k.ba bB).al k2 fun q ad=>by have:=kr q ad;omega,ne,mL⟩
  | some N=>
   rw [aD] at P
   obtain ⟨c,t,mr,b8,⟨ep,nl,au⟩,eq⟩:=P
   have sZ:J h ab (· ∈ a::mK):=((bB.up).trans' (b8.mono fun q ad=>by simp [ad])).trans k2 fun q ad e=>by omega
   have Ns:=((jg.al bB (by simp [none_])).al b8 ne).al k2 (by omega)
   have mJ:∀ {x},x ∈ ep→x≠h.n+1:=fun {x} ag=>by
    rcases nl x ag with ag | ag
    ·have:=kr x ag;omega
    ·omega
   have iU:a ∉ ep:=fun ag=>by
    rcases nl a ag with ag | ag
    ·exact ne ag
    ·omega
   cases aq:qK K l r.k r.t with
   | true=>
    rw [aq,if_pos rfl] at au
    obtain ⟨rfl,hk⟩:=au
    have fi:kZ K e l r=.error 3:=by unfold kZ;rw [if_neg (by rw [bq];decide),aD];simp only [aq,if_true]
    have aw:pI K e l r=p3 3:=by unfold pI;rw [fi]
    have aW:k0 K e l r=l:=by unfold k0;rw [fi]
    rw [if_neg (by decide)] at eq
    rw [aw,aW,eq]
    exact ⟨a::ep,rfl,sZ,up nl,i,ep,rfl,Ns,hk.al k2 fun q ad=>mJ ad,iU,mL⟩
   | false=>
    rw [aq,if_neg (by decide)] at au
    obtain ⟨rfl,rfl,rfl,hk⟩:=au
    have fi:kZ K e l r=.ok N:=by unfold kZ;rw [if_neg (by rw [bq];decide),aD];simp only [aq,Bool.false_eq_true,if_false]
    have aw:pI K e l r=jn r.k N (zH K l r.k r.t) (hj (qJ K l r.k r.t N)):=by unfold pI;rw [fi]
    have aW:k0 K e l r=p6 K l r.k r.t N:=by unfold k0;rw [fi]
    rw [if_pos rfl] at eq
    rw [aw,aW,eq]
    exact ⟨a::ep,rfl,sZ,up nl,i,ep,rfl,Ns,hk.al k2 fun q ad=>mJ ad,iU,mL⟩
theorem aqj (s:gH h a O K e n l) (c:aj) (a7:(hb K l c).2=0) :
  ae Tryz.prog 20 [.ptr a 0,.agg (aL c)] h (fun q h'=>∃ ep,q=.int .i64 0∧J h h' (· ∈ O)∧dA h O ep∧gH h' a ep K e n (hb K l c).1):=by
 obtain ⟨i,mK,rfl,jg,k,ne,mL⟩:=s
 have jG:=jg.lt
 have kr:=k.lt
 refine ae.ax (c:=_) Tryz.func20 rfl (by kernel_rfl) (by simp) ?_
 have cc:(V.agg (aL c)).cells=some (aL c):=rfl
 have ld:dv (some (some 5)) (some (aL c))=some (.agg (aL c)):=rfl
 have d0:dB (.cells (aL c) 40 none) 0=some (aL c):=rfl
 obtain ⟨H,hH⟩:∃ y,y=h.push (.cells (aL c) 40 none):=⟨_,rfl⟩
 have eJ:J h H none_:=by rw [hH];exact J.push _ _ _
 have g0:H.get h.n=.cells (aL c) 40 none:=by rw [hH];exact cA
 have qD:H.n=h.n+1:=by rw [hH];rfl
 have sR:=jg.al eJ (by simp [none_])
 have D1:=k.ba eJ
 have k6:=sR.get
 obtain ⟨o,m,aE⟩:=e
 rw [jv] at k6
 simp only [List.cons_append,List.nil_append] at k6
 have gm:bT Tryz.prog (IG K)=true:=(Nq K).2
 simp only [af,Nat.reduceEqDiff,reduceCtorEq,cc]
 rw [←hH]
 clear hH
 refine bU Cm (H8 sR) ?_
 simp only [af,Nat.reduceEqDiff]
 have f1:(a ∈ mK)=False:=eq_false ne
 have f2:(h.n ∈ mK)=False:=eq_false fun ab=>by have:=kr _ ab;omega
 refine aX.bk (fun x=>x ∈ mK) [5] (.q 0 (.q 1 (.q 2 (.q 3 (.q 4 (.a 5 (.q 6 .done))))))) (by kernel_rfl) (by kernel_rfl) (by kernel_rfl) ?_
 simp only [af,bN,h3,Nat.reduceEqDiff,Nat.reduceAdd,Nat.reduceLeDiff,reduceCtorEq,Cp,Cw,mH,k6,g0,ld,d0,f1,f2,aec (Nq K)]
 refine cy gm (RC D1 c a7) fun r aa ⟨ep,aW,b8,nl,k2⟩=>?_
 subst aW
 simp only [af,bN,h3,Nat.reduceEqDiff,aU,Tryz.results20,ac]
 refine aF ⟨a::ep,rfl,(eJ.up).trans' (b8.mono fun q ad=>by simp [ad]),fun x ag=>?_,i,ep,rfl,sR.al b8 ne,k2,fun ag=>?_,mL⟩
 ·rcases List.mem_cons.1 ag with rfl | ag
  ·exact .inl (by simp)
  ·rcases nl x ag with ag | ag
   ·exact .inl (by simp [ag])
   ·exact .inr (by omega)
 ·rcases nl a ag with ag | ag
  ·exact ne ag
  ·omega
theorem Zi (s:gH h a O K e n l) (mark:Int) (hm:-2 ^ 63≤mark∧mark<2 ^ 63) :
  ae Tryz.prog 18 [.ptr a 0,.int .i64 mark] h (fun r h'=>∃ ep,Own h' 40 5 r ((gA K mark l).flatMap aL)∧(∀ j,aV r=some j→h.n≤j∧j ∉ ep)∧J h h' (· ∈ O)∧dA h O ep∧gH h' a ep K e n (gM K mark l)):=by
 obtain ⟨i,mK,rfl,jg,k,ne,mL⟩:=s
 have jG:=jg.lt
 have kr:=k.lt
 refine ae.ax (c:=_) Tryz.func18 rfl (by kernel_rfl) (by simp) ?_
 have k6:=jg.get
 obtain ⟨o,m,aE⟩:=e
 rw [jv] at k6
 simp only [List.cons_append,List.nil_append] at k6
 simp only [af,Nat.reduceEqDiff,reduceCtorEq]
 refine bU Cm (H8 jg) ?_
 simp only [af,Nat.reduceEqDiff]
 have f1:(a ∈ mK)=False:=eq_false ne
 refine aX.bk (fun x=>x ∈ mK) [9] (.q 0 (.q 1 (.q 2 (.q 3 (.q 4 (.q 5 (.q 6 (.q 7 (.q 8 (.a 9 (.q 10 .done))))))))))) (by kernel_rfl) (by kernel_rfl) (by kernel_rfl) ?_
 simp only [af,bN,h3,Nat.reduceEqDiff,Nat.reduceAdd,Nat.reduceLeDiff,reduceCtorEq,Wj,Cp,Cw,bx,k6,f1]
 refine cy ajp (am1 k n mark mL hm) fun r aa ⟨ep,ei,ft,b8,nl,k2⟩=>?_
 simp only [af,bN,h3,Nat.reduceEqDiff,aU,Tryz.results18,ac]
 refine aF ⟨a::ep,ei,fun j aS=>⟨(ft j aS).1,fun ag=>?_⟩,b8.mono fun q ad=>by simp [ad],fun x ag=>?_,i,ep,rfl,jg.al b8 ne,k2,fun ag=>?_,mL⟩
 ·rcases List.mem_cons.1 ag with rfl | ag
  ·have:=(ft _ aS).1;omega
  ·exact (ft j aS).2 ag
 ·rcases List.mem_cons.1 ag with rfl | ag
  ·exact .inl (by simp)
  ·rcases nl x ag with ag | ag
   ·exact .inl (by simp [ag])
   ·exact .inr (by omega)
 ·rcases nl a ag with ag | ag
  ·exact ne ag
  ·omega
def Ly (K:dR) (r:Rec) (mark:Int):Bool:=lC r.t&&Y2 K r.t mark
theorem am7 (s:gH h a O K e n l) (r:Rec) (mark:Int):Pure Tryz.prog 23 [.ptr a 0,.agg (aI r),.int .i64 mark] h (.bool (Ly K r mark)):=by
 obtain ⟨i,mK,rfl,jg,k,ne,mL⟩:=s
 refine Pure.val (bj.bool _) ?_
 obtain ⟨b6,cT,rt⟩:=r
 refine ae.ax (c:=_) Tryz.func23 rfl (by kernel_rfl) (by simp) ?_
 unfold aI Ly
 obtain ⟨H,hH⟩:∃ y,y=h.push (.cells [.int .i64 b6,.int .i64 cT,.int .i64 rt] 38 none):=⟨_,rfl⟩
 have eJ:J h H none_:=by rw [hH];exact J.push _ _ _
 have g0:H.get h.n=.cells [.int .i64 b6,.int .i64 cT,.int .i64 rt] 38 none:=by rw [hH];exact cA
 have sR:=jg.al eJ (by simp [none_])
 have D1:=k.ba eJ
 have k6:=sR.get
 obtain ⟨o,m,aE⟩:=e
 rw [jv] at k6
 simp only [List.cons_append,List.nil_append] at k6
 simp only [af,Nat.reduceEqDiff,reduceCtorEq]
 rw [←hH]
 clear hH
 refine bU Cm (H8 sR) ?_
 simp only [af,Nat.reduceEqDiff,Nat.reduceAdd,Nat.reduceLeDiff,rk,bx,g0]
 refine bU Wf (XQ rt H) ?_
 cases cN:lC rt with
 | false=>
  rw [show decide (0≤rt∧rt≤1099511627776)=false from cN]
  simp only [af,Nat.reduceEqDiff,aU,Tryz.results23,ac]
  exact aF ⟨rfl,eJ⟩
 | true=>
  rw [show decide (0≤rt∧rt≤1099511627776)=true from cN]
  simp only [af,Nat.reduceEqDiff]
  refine aX.bk none_ [] (.q 0 (.q 1 (.q 2 (.q 3 (.q 4 (.q 5 (.q 6 (.q 7 (.q 8 (.q 9 (.q 10 (.c 11 (.q 12 .done))))))))))))) (by kernel_rfl) (by kernel_rfl) (by kernel_rfl) ?_
  simp only [af,bN,Nat.reduceEqDiff,Nat.reduceAdd,Nat.reduceLeDiff,reduceCtorEq,Wj,Cp,rk,Cw,bx,k6,g0]
  refine ix rfl rfl rfl (fun h' hk=>am3 (h:=h') (by rcases hk with hk | rfl;exact D1.ba hk;exact D1) n rt mark mL cN) ?_
  simp only [af,bN,Nat.reduceEqDiff,aU,Tryz.results23,ac]
  exact aF ⟨rfl,eJ⟩
def zI (K:dR) (l:List aj) (key:Int):Int:=match K with | .kv=>valOf l (n9 .kv key 0 0) | _=>0
theorem am8 (s:gH h a O K e n l) (key:Int):Pure Tryz.prog 52 [.ptr a 0,.int .i64 key] h (.int .i64 (zI K l key)):=by
 obtain ⟨i,mK,rfl,jg,k,ne,mL⟩:=s
 have k6:=jg.get
 obtain ⟨o,m,aE⟩:=e
 rw [jv] at k6
 simp only [List.cons_append,List.nil_append] at k6
 have vO:Pure Tryz.prog 103 [.iface (kY K) (.ptr i 0),.int .i64 key] h (.int .i64 (zI K l key)):=by
  cases k with
  | @kv v l k=>
   have:=alh k key
   rw [←Y7 (v:=0) (d:=false) k.hT] at this
   exact this
  | @de m cl g e l k ja w=>
   refine ae.ax (c:=_) Tryz.func103 rfl (by kernel_rfl) (by simp) ?_
   have cG:hX Tryz.prog (.iface (kY (.de g)) (.ptr i 0)) 194 true=some (.tuple [.c9,.bool false]):=by unfold hX;rw [Tryz.underlying194];rfl
   simp only [af,Nat.reduceEqDiff,reduceCtorEq,cG,aU,Tryz.results103,ac]
   exact aF ⟨rfl,rfl⟩
  | @dZ v g l k=>
   refine ae.ax (c:=_) Tryz.func103 rfl (by kernel_rfl) (by simp) ?_
   have cG:hX Tryz.prog (.iface (kY (.dZ g)) (.ptr i 0)) 194 true=some (.tuple [.c9,.bool false]):=by unfold hX;rw [Tryz.underlying194];rfl
   simp only [af,Nat.reduceEqDiff,reduceCtorEq,cG,aU,Tryz.results103,ac]
   exact aF ⟨rfl,rfl⟩
 refine ae.ax (c:=_) Tryz.func52 rfl (by kernel_rfl) (by simp) ?_
 simp only [af,Nat.reduceEqDiff,reduceCtorEq]
 refine bU Cm (H8 jg) ?_
 simp only [af,Nat.reduceEqDiff,Nat.reduceAdd,Nat.reduceLeDiff,reduceCtorEq,Cp,Cw,k6]
 refine bU aiF vO ?_
 simp only [af,Nat.reduceEqDiff,aU,Tryz.results52,ac]
 exact aF ⟨rfl,rfl⟩
end
theorem aiu {e:List V} (h:iR.gT (.cat (.int .i64) (.cat (.int .i64) (.cat (.int .i64) .unit))) e):∃ c:Rec,e=aI c:=by
 obtain ⟨ey,_,rfl,⟨a,rfl,_⟩,dm,_,rfl,⟨b,rfl,_⟩,vE,_,rfl,⟨c,rfl,_⟩,rfl⟩:=h
 exact ⟨⟨a,b,c⟩,rfl⟩
theorem am9 {α:Type} {s:iR} {enc:α→List V} (U:∀ e,s.gT e→∃ c,e=enc c):∀ {es:List (List V)},(∀ x ∈ es,s.gT x)→∃ l:List α,es.length=l.length∧es.flatten=l.flatMap enc
 | [],_=>⟨[],rfl,rfl⟩
 | e::es,h=>by
  obtain ⟨l,h1,aa⟩:=am9 U (es:=es) fun x ag=>h x (by simp [ag])
  obtain ⟨c,rfl⟩:=U e (h _ (by simp))
  exact ⟨c::l,by simp [h1],by simp [aa]⟩
theorem ait (a b:Rec) {xo yo:Operand}:c0 Tryz.prog .eql 38 xo yo (.agg [.int .i64 a.k,.int .i64 a.v,.int .i64 a.t]) (.agg [.int .i64 b.k,.int .i64 b.v,.int .i64 b.t])=some (.bool (decide (a=b))):=by
 have h:e2 [0,0,0] (aI a) (aI b)=some (decide (a=b)):=by
  simp only [aI,e2,if_true,Option.map_some,Option.some.injEq]
  rw [Bool.eq_iff_iff]
  simp only [Bool.and_eq_true,beq_iff_eq,decide_eq_true_eq,Bool.and_true]
  constructor
  ·rintro ⟨h1,aa,aC⟩;cases a;cases b;simp_all
  ·rintro rfl;simp
 exact y4 aj2 h
def oP (kind n:Int):Option dR :=
 if kind=6 then some .kv else
 if kind=7 then (if 1≤n∧n≤1048576 then some (.de n) else none) else
 if kind=8 then (if 1≤n∧n≤1048576 then some (.dZ n) else none) else none
theorem ana (x:bC) {K:dR} (bQ:oP x.kind x.n=some K) (hm:cY x.e=true) (a1:fP x.e) (h:I) (av:ga h) :
  ae Tryz.prog 17 [.agg (ar x)] h (fun r h'=>∃ a O,r=.tuple [.ptr a 0,.int .i64 0]∧J h h' none_∧(∀ q ∈ O,h.n≤q)∧gH h' a O K x.e x.n []):=by
 have fin:∀ (T:TypeId) (cN:T=kY K) (Nt:D0 K x.n) (CV:I→I→Nat→Prop) (cX:∀ H h1 i,J h H none_→CV H h1 i→∃ O,hz h1 i O K []∧∀ q ∈ O,H.n≤q)
   (hk:∀ H,J h H none_→ae Tryz.prog 54 [.agg (ar x)] H (fun r h'=>∃ i,r=.tuple [.iface T (.ptr i 0),.int .i64 0]∧J H h' none_∧CV H h' i)),
   ae Tryz.prog 17 [.agg (ar x)] h (fun r h'=>∃ a O,r=.tuple [.ptr a 0,.int .i64 0]∧J h h' none_∧(∀ q ∈ O,h.n≤q)∧gH h' a O K x.e x.n []):=fun T cN Nt CV cX hk=>by
  refine (aln x hm a1 h av T CV hk).mono fun r h' ⟨a,i,H,h1,e,bA,q,bB,kk,aO,yu,s⟩=>?_
  obtain ⟨O,o1,yv⟩:=cX H h1 i bA q
  subst cN
  have aG:=bA.n
  refine ⟨a,a::O,e,kk,fun q ad=>?_,i,O,rfl,s,o1.ba bB,fun ab=>by have:=o1.lt a ab;omega,Nt⟩
  rcases List.mem_cons.1 ad with rfl | ad
  ·exact aO
  ·exact Nat.le_trans aG (yv q ad)
 unfold oP at bQ
 split at bQ
 ·rename_i hk
  cases bQ
  refine fin 194 rfl trivial (fun H h1 i=>H.n≤i∧eo h1 i .an 1024 []) (fun H h1 i _ ⟨cn,cO⟩=>⟨[i],.kv cO,by simpa using cn⟩) fun H _=>?_
  exact (alf x hk H).mono fun r h' ⟨i,e,hi,k,b8⟩=>⟨i,e,b8,hi,k⟩
 split at bQ
 ·rename_i hk
  split at bQ
  case isFalse=>cases bQ
  rename_i aG
  cases bQ
  refine fin 197 rfl rfl (fun H h1 i=>∃ m,H.n≤i∧H.n≤m∧c7 h1 i m 1024 x.n [] 0) (fun H h1 i _ ⟨m,cn,cO,fg⟩=>⟨[i,m],.de (e:=[]) ⟨fg,⟨by simp [hC,dJ],by simp [hC,dJ]⟩,dD.nil,by simp⟩ (by simp [eE]) (c8.nil aG),by simp [cn,cO]⟩) fun H _=>?_
  exact (al0 x hk aG.1 aG.2 H).mono fun r h' ⟨i,e,b8,m,hi,hm,k⟩=>⟨i,e,b8,m,hi,hm,k⟩
 split at bQ
 ·rename_i hk
  split at bQ
  case isFalse=>cases bQ
  rename_i aG
  cases bQ
  refine fin 200 rfl rfl (fun H h1 i=>H.n≤i∧cW h1 i .an 1024 x.n []) (fun H h1 i _ ⟨cn,cO⟩=>⟨[i],.dZ cO,by simpa using cn⟩) fun H _=>?_
  exact (al1 x hk aG.1 aG.2 H).mono fun r h' ⟨i,e,b8,hi,k⟩=>⟨i,e,b8,hi,k⟩
 ·cases bQ
def yK (O uS:List Nat):Prop:=∀ q ∈ O,q ∉ uS
theorem yK.symm {O uS:List Nat} (d:yK O uS):yK uS O:=fun q ad ab=>d q ab ad
theorem yK.step {h:I} {b:Nat} {O ep uS:List Nat} {xp:dR} {aW:bG} {ft:Int} {dm:List aj} (s:gH h b uS xp aW ft dm) (nl:dA h O ep) (d:yK O uS):yK ep uS:=fun q ad ab=>by
 rcases nl q ad with ad | ad
 ·exact d q ad ab
 ·have:=s.lt q ab;omega
theorem anb {l:List Rec} {k:Nat} {kk:IntKind} (h:k<l.length):∃ r,hA Tryz.prog 49 (.ai l.length (l.flatMap aI)) (.int kk (k:Int))=some (.at (aI l[k]++r)) :=
 Kt AJ rfl (List.getElem?_eq_getElem h) PE
theorem anc (s x:V) (cs xs:List Nat) (h:I) (rd:Rd h s cs) (rx:Rd h x xs) (au:cs.length+xs.length≤2 ^ 45) :
  Pure Tryz.prog 127 [s,x] h (.ai (cs++x4 xs).length (e7 (cs++x4 xs))):=by
 refine Pure.acc (e:=5) (sz:=1) (AW _) (by rw [pB,Nat.mul_one]) (by omega) ?_
 refine ae.ax (c:=_) Tryz.func127 rfl (by kernel_rfl) (by simp) ?_
 have hw:IntKind.i64.wrap (10+(xs.length:Int))=((10+xs.length:Nat):Int):=by rw [Go.IntWalk.i64_in _ (by omega)];omega
 have hu:=HC (n:=xs.length) (by omega)
 simp only [af,Nat.reduceEqDiff,reduceCtorEq,rx.len h (J.refl _ _),hw]
 refine cy EZ (Xc s cs (10+xs.length) h rd (by omega)) fun cg h1 cG=>?_
 simp only [af,Nat.reduceEqDiff,rx.len h1 cG.al,lR iB mY,hu]
 refine cy Hj (QE cg cs xs.length h1 cG (by omega) (by omega)) fun cZ aa a2=>?_
 have az:=(pC xs.length (by omega)).2
 obtain ⟨v,aC,cJ,a3⟩:=a2.app (P:=Tryz.prog) (tx:=87) Hr (by decide) (rx.src aa a2.al) (by rw [pB,Nat.mul_one]) (by simp only [pB,List.length_append,lim];omega) (by simp only [pB,List.length_append,lim];omega)
 simp only [af,Nat.reduceEqDiff,cJ,aU,Tryz.results127,ac]
 exact aF (a3.conv (by rw [←Qw,List.append_assoc];rfl))
theorem ane (s:V) (cs:List Nat) (l:List Int) (h:I) (rd:Rd h s cs) (az:∀ n ∈ l,-2 ^ 63≤n∧n<2 ^ 63) (au:cs.length+10 * l.length≤2 ^ 45) :
  Pure Tryz.prog 125 [s,.ai l.length (aY l)] h (.ai (cs++w7 l).length (e7 (cs++w7 l))):=by
 refine Pure.acc (e:=5) (sz:=1) (AW _) (by rw [pB,Nat.mul_one]) (by omega) ?_
 refine ae.ax (c:=_) Tryz.func125 rfl (by kernel_rfl) (by simp) ?_
 have hw:IntKind.i64.wrap (10+(l.length:Int))=((10+l.length:Nat):Int):=by rw [Go.IntWalk.i64_in _ (by omega)];omega
 have hu:=HC (n:=l.length) (by omega)
 simp only [af,Nat.reduceEqDiff,reduceCtorEq,qF,hw]
 refine cy EZ (Xc s cs (10+l.length) h rd (by omega)) fun cg h1 cG=>?_
 simp only [af,Nat.reduceEqDiff,qF,lR iB mY,hu]
 refine cy Hj (QE cg cs l.length h1 cG (by omega) (by omega)) fun cZ aa a2=>?_
 simp only [af,Nat.reduceEqDiff,qF]
 refine aX.b9 (α:=V×Nat) (fun x f h'=>f 5=x.1∧f 17=.ai l.length (aY l)∧f 18=.int .i64 (l.length:Nat)∧f 19=.int .i64 (x.2:Nat)∧Acc h h' 5 1 x.1 (e7 (cs++enc l.length++(l.take x.2).flatMap fun n=>enc (jM n)))∧x.2≤l.length) (fun x=>l.length - x.2) (cZ,0)
  ⟨rfl,rfl,rfl,rfl,by simpa using a2,Nat.zero_le _⟩ ?_
 rintro ⟨v,i⟩ f aC ⟨f5,f17,f18,f19,a3,hi⟩
 simp only at f5 f19 a3 hi
 refine am (by kernel_rfl) ?_
 by_cases aN:i<l.length
 ·have bh:decide ((i:Int)<(l.length:Int))=true:=by simp;omega
  have hm:=az _ (List.getElem_mem aN)
  have eO:IntKind.i64.wrap ((i:Int)+1)=((i+1:Nat):Int):=by rw [Go.IntWalk.i64_in _ (by omega)];rfl
  have hlen:(cs++enc l.length++(l.take i).flatMap fun n=>enc (jM n)).length≤2 ^ 46:=by
   have h1:=Xd (l:=l.take i) fun n aG=>az n (List.mem_of_mem_take aG)
   have aa:=(pC l.length (by omega)).2
   rw [List.length_take] at h1
   simp only [List.length_append]
   omega
  simp only [af,Nat.reduceEqDiff,bn,f5,f17,f18,f19,bh,akD aN mF]
  refine bU V5 (W8 _ aC hm.1 hm.2) ?_
  simp only [af,Nat.reduceEqDiff]
  refine cy Hj (QE v _ _ aC a3 hlen (m8 _ hm.1 hm.2)) fun CH bz a4=>?_
  simp only [af,Nat.reduceEqDiff,f19,eO]
  refine aF ⟨(CH,i+1),⟨rfl,f17,f18,rfl,?_,by simp only;omega⟩,by simp only;omega⟩
  refine a4.conv ?_
  rw [ut l _ aN,List.append_assoc]
 ·have bh:decide ((i:Int)<(l.length:Int))=false:=by simp;omega
  simp only [af,Nat.reduceEqDiff,f5,f18,f19,bh,aU,Tryz.results125,ac]
  refine aF (a3.conv ?_)
  rw [List.take_of_length_le (by omega),List.append_assoc]
  rfl
theorem anf (p:V) (i:Nat) (ao:List Nat) (h:I) (aH:du h p i ao) (ak:∀ b ∈ ao,b<256) (au:ao.length≤2 ^ 47) :
  ae Tryz.prog 215 [p] h (fun r h'=>r=.tuple [.ai (hn ao).1.length (e7 (hn ao).1),.int .i64 ((hn ao).2.2:Nat)]∧du h' p i (hn ao).2.1∧J h h' (·=i)):=by
 refine ae.cast ?_
 refine ae.ax (c:=_) Tryz.func215 rfl (by kernel_rfl) (by simp) ?_
 simp only [af,Nat.reduceEqDiff,reduceCtorEq]
 refine bU KT (rest h p i ao aH) ?_
 simp only [af,Nat.reduceEqDiff]
 refine bU V6 (number ao h ak (by omega)) ?_
 by_cases hQ:(dec ao 0 0).2.2=0
 ·have bO:((((dec ao 0 0).2.2:Nat):Int) !=0)=false:=by simp [hQ]
  have Ld:=QC ao 0 0
  have aN:=dec_lt ao 0 0 (by omega) (by decide) ak
  obtain ⟨rfl,hi,av⟩:=aH
  have qi:=Xf ao (dec ao 0 0).2.1 (by omega) (kk:=.i64)
  have D2:=HC (n:=(ao.drop (dec ao 0 0).2.1).length) (by rw [List.length_drop];omega)
  by_cases eW:(ao.drop (dec ao 0 0).2.1).length<(dec ao 0 0).1
  ·have bh:decide ((((ao.drop (dec ao 0 0).2.1).length:Nat):Int)<(((dec ao 0 0).1:Nat):Int))=true:=by simpa using eW
   have bs:hn ao=([],ao,4):=by unfold hn;rw [if_neg (by omega),if_pos eW]
   simp only [af,Nat.reduceEqDiff,reduceCtorEq,Hl,rp,Hp,uK,bO,av,qi,lR iB mY,D2,bh,aU,Tryz.results215,dn]
   exact aF ⟨_,_,AX _ _,by rw [bs];rfl,by rw [bs];exact ⟨rfl,hi,av⟩,J.refl _ _⟩
  ·have bh:decide ((((ao.drop (dec ao 0 0).2.1).length:Nat):Int)<(((dec ao 0 0).1:Nat):Int))=false:=by simp only [decide_eq_false_iff_not];omega
   have bs:hn ao=((ao.drop (dec ao 0 0).2.1).take (dec ao 0 0).1,(ao.drop (dec ao 0 0).2.1).drop (dec ao 0 0).1,0):=by unfold hn;rw [if_neg (by omega),if_neg eW]
   have ie:(ao.drop (dec ao 0 0).2.1).length≤2 ^ 47:=by rw [List.length_drop];omega
   have s1:=Xf (ao.drop (dec ao 0 0).2.1) (dec ao 0 0).1 (by omega) (kk:=.u64)
   have s2:=akJ (ao.drop (dec ao 0 0).2.1) (dec ao 0 0).1 (by omega) (kk:=.u64)
   simp only [af,Nat.reduceEqDiff,reduceCtorEq,Hl,rp,Hp,Qp,uK,bO,av,qi,lR iB mY,D2,bh,s1,s2]
   refine bU EZ (W2 _ _ 0 _ (Rd.ai _ _) (by rw [List.length_take];omega)) ?_
   simp only [af,Nat.reduceEqDiff,aU,Tryz.results215,dn]
   exact aF ⟨_,_,aM.refl _ _,by rw [bs];rfl,by rw [bs];exact ⟨rfl,by rw [jt];exact hi,aP⟩,J.set _ _ _⟩
 ·have bO:((((dec ao 0 0).2.2:Nat):Int) !=0)=true:=by simp;omega
  have a7:=QB ao 0 0 hQ
  have bs:hn ao=([],ao,(dec ao 0 0).2.2):=by unfold hn;rw [if_pos hQ]
  simp only [af,Nat.reduceEqDiff,uK,bO,aU,Tryz.results215,dn]
  exact aF ⟨_,_,AX _ _,by rw [bs];rfl,by rw [bs];exact aH,J.refl _ _⟩
theorem ang (p:V) (i:Nat) (ao:List Nat) (most:Int) (h:I) (aH:du h p i ao) (ak:∀ b ∈ ao,b<256) (au:ao.length≤2 ^ 47) (qk:ao.length≤2 ^ 40∨most≤2 ^ 40) (hm:-2 ^ 63≤most∧most<2 ^ 63) :
  ae Tryz.prog 214 [p,.int .i64 most] h (fun r h'=>r=.tuple [.ai (jb ao most).1.length (aY (jb ao most).1),.int .i64 ((jb ao most).2.2:Nat)]∧du h' p i (jb ao most).2.1∧J h h' (·=i)):=by
 refine ae.cast ?_
 refine ae.ax (c:=_) Tryz.func214 rfl (by kernel_rfl) (by simp) ?_
 have ch:=aH.2.1
 simp only [af,Int.reduceNeg,Nat.reduceEqDiff,reduceCtorEq]
 refine bU KT (rest h p i ao aH) ?_
 simp only [af,Int.reduceNeg,Nat.reduceEqDiff,Wz,WD,akh]
 have eJ:J h (h.push (.cells [.ai ao.length (e7 ao)] 278 none)) none_:=J.push _ _ _
 have k9:du (h.push (.cells [.ai ao.length (e7 ao)] 278 none)) (.ptr h.n 0) h.n ao:=⟨rfl,by rw [eI];omega,cA⟩
 refine cy KS (Lc _ h.n ao _ k9 ak (by omega)) fun r h1 ⟨aw,cg,bB⟩=>?_
 subst aw
 have b8:J h h1 none_:=eJ.trans bB fun k hk hi=>by omega
 have RE:=aH.al b8 (by simp [none_])
 have h7:h.n<h1.n:=cg.2.1
 have aN:=dec_lt ao 0 0 (by omega) (by decide) ak
 by_cases hQ:(dec ao 0 0).2.2=0
 rotate_left
 ·have bO:((((dec ao 0 0).2.2:Nat):Int) !=0)=true:=by simp;omega
  have bs:jb ao most=([],ao,(dec ao 0 0).2.2):=by unfold jb;rw [if_pos hQ]
  simp only [af,Int.reduceNeg,Nat.reduceEqDiff,bO,aU,Tryz.results214,dn]
  exact aF ⟨_,_,AX _ _,by rw [bs];rfl,by rw [bs];exact RE,b8.up⟩
 ·have bO:((((dec ao 0 0).2.2:Nat):Int) !=0)=false:=by simp [hQ]
  have cR:=Xg ak hQ
  have B7:(decide (most<(0:Int))=true∨(decide (most<(0:Int))=false∧decide (IntKind.u64.wrap most<(((dec ao 0 0).1:Nat):Int))=decide (most<(((dec ao 0 0).1:Nat):Int)))):=by
   by_cases h0:most<0
   ·left;simpa using h0
   ·right
    refine ⟨by simp;omega,?_⟩
    rw [IntKind.wrap_u64,Int.emod_eq_of_lt (by omega) (by omega)]
  by_cases rL:most<0∨most<(((dec ao 0 0).1:Nat):Int)
  ·have bs:jb ao most=([],ao,2):=by unfold jb;rw [if_neg (by omega),if_pos rL]
   rcases B7 with bh | ⟨bh,bD⟩
   ·simp only [af,Int.reduceNeg,Nat.reduceEqDiff,bO,bh,aU,Tryz.results214,dn]
    exact aF ⟨_,_,AX _ _,by rw [bs];rfl,by rw [bs];exact RE,b8.up⟩
   ·have c3:decide (most<(((dec ao 0 0).1:Nat):Int))=true:=by
     rcases rL with h0 | h0
     ·simp at bh;omega
     ·simpa using h0
    simp only [af,Int.reduceNeg,Nat.reduceEqDiff,bO,bh,bD,c3,lR iB mY,aU,Tryz.results214,dn]
    exact aF ⟨_,_,AX _ _,by rw [bs];rfl,by rw [bs];exact RE,b8.up⟩
  ·have bh:decide (most<(0:Int))=false:=by simp;omega
   have bD:decide (IntKind.u64.wrap most<(((dec ao 0 0).1:Nat):Int))=false:=by
    rw [IntKind.wrap_u64,Int.emod_eq_of_lt (by omega) (by omega)]
    simp;omega
   simp only [af,Int.reduceNeg,Nat.reduceEqDiff,bO,bh,bD,lR iB mY]
   refine aX.b9 (α:=V×Nat×List Nat×List Int) (fun x f h'=>f 0=p∧f 6=.ptr h.n 0∧f 9=x.1∧f 30=.int .u64 ((dec ao 0 0).1:Nat)∧f 31=.int .u64 (x.2.1:Nat) ∧
     Own h' 3 1 x.1 (aY x.2.2.2)∧(∀ k,aV x.1=some k→h1.n≤k)∧J h1 h' (·=h.n)∧du h' (.ptr h.n 0) h.n x.2.2.1 ∧
     p0 ((dec ao 0 0).1 - x.2.1) x.2.2.1 x.2.2.2=p0 (dec ao 0 0).1 (ao.drop (dec ao 0 0).2.1) []∧x.2.1≤(dec ao 0 0).1∧(x.2.2.2.length+x.2.2.1.length≤ao.length∧x.2.2.2.length≤x.2.1)∧∀ b ∈ x.2.2.1,b<256)
    (fun x=>(dec ao 0 0).1 - x.2.1) (.an,0,ao.drop (dec ao 0 0).2.1,[])
    ⟨rfl,rfl,rfl,rfl,rfl,Own.an _ _ _,by simp [aV],J.refl _ _,cg,by simp,Nat.zero_le _,⟨by simp,by simp⟩,Xh ak _⟩ ?_
   rintro ⟨v,k,rest,acc⟩ f aa ⟨f0,f6,f9,f30,f31,aR,c4,hk,IH,l3,pg,⟨hlen,Lz⟩,ki⟩
   simp only at f9 f31 aR c4 IH l3 pg hlen Lz ki
   have anh:acc.length≤2 ^ 40:=by rcases qk with qk | qk<;>omega
   refine am (by kernel_rfl) ?_
   have sZ:J h aa none_:=b8.trans hk fun k hk hi=>by omega
   by_cases tb:k<(dec ao 0 0).1
   ·have d1:decide ((k:Int)<(((dec ao 0 0).1:Nat):Int))=true:=by simp;omega
    have eO:IntKind.u64.wrap ((k:Int)+1)=((k+1:Nat):Int):=by rw [IntKind.wrap_u64];omega
    rw [show (dec ao 0 0).1 - k=((dec ao 0 0).1 - (k+1))+1 by omega,p0] at l3
    simp only [af,Int.reduceNeg,Nat.reduceEqDiff,f6,f30,f31,d1]
    refine cy P8 (CG _ _ rest aa IH ki (by omega)) fun r aC ⟨cJ,gl,k3⟩=>?_
    subst cJ
    have vU:J h aC none_:=sZ.trans k3 fun k hk hi=>by omega
    have wa:Own aC 3 1 v (aY acc):=aR.al k3 fun k hk hi=>by have:=c4 k hk;omega
    have II:=aH.al vU (by simp [none_])
    by_cases oM:(dec rest 0 0).2.2=0
    rotate_left
    ·have xq:((((dec rest 0 0).2.2:Nat):Int) !=0)=true:=by simp;omega
     rw [if_pos oM] at l3
     have bs:jb ao most=([],ao,(dec rest 0 0).2.2):=by
      unfold jb;rw [if_neg (by omega),if_neg rL,←l3,if_pos oM]
     simp only [af,Int.reduceNeg,Nat.reduceEqDiff,xq,aU,Tryz.results214,dn]
     exact aF ⟨_,_,AX _ _,by rw [bs];rfl,by rw [bs];exact II,vU.up⟩
    ·have xq:((((dec rest 0 0).2.2:Nat):Int) !=0)=false:=by simp [oM]
     rw [if_neg (by omega)] at l3
     have ani:=Xg ki oM
     by_cases n5:fQ (dec rest 0 0).1 < -2147483648∨2147483647<fQ (dec rest 0 0).1
     ·rw [if_pos n5] at l3
      have bs:jb ao most=([],ao,2):=by
       unfold jb;rw [if_neg (by omega),if_neg rL,←l3];rfl
      by_cases yk:fQ (dec rest 0 0).1 < -2147483648
      ·have g1:decide (fQ (dec rest 0 0).1<(-2147483648:Int))=true:=by simpa using yk
       simp only [af,Int.reduceNeg,Nat.reduceEqDiff,xq,g1,aU,Tryz.results214,dn]
       exact aF ⟨_,_,AX _ _,by rw [bs];rfl,by rw [bs];exact II,vU.up⟩
      ·have g1:decide (fQ (dec rest 0 0).1<(-2147483648:Int))=false:=by simpa using yk
       have g2:decide ((2147483647:Int)<fQ (dec rest 0 0).1)=true:=by simp;omega
       simp only [af,Int.reduceNeg,Nat.reduceEqDiff,xq,g1,g2,aU,Tryz.results214,dn]
       exact aF ⟨_,_,AX _ _,by rw [bs];rfl,by rw [bs];exact II,vU.up⟩
     ·rw [if_neg n5] at l3
      have g1:decide (fQ (dec rest 0 0).1<(-2147483648:Int))=false:=by simp;omega
      have g2:decide ((2147483647:Int)<fQ (dec rest 0 0).1)=false:=by simp;omega
      obtain ⟨v4,bz,cn,cO,fg,ju⟩:=Ka (P:=Tryz.prog) uA (by decide) wa (xs:=[.int .i64 (fQ (dec rest 0 0).1)]) rfl rfl (by simp [pU,lim];omega) (by simp [pU,lim];omega)
      simp only [af,Int.reduceNeg,Nat.reduceEqDiff,f9,f31,xq,g1,g2,akK,cn,eO]
      have r9:¬bl v h.n:=fun ab=>by have:=c4 _ ab;omega
      refine aF ⟨(v4,k+1,rest.drop (dec rest 0 0).2.1,acc++[fQ (dec rest 0 0).1]),⟨f0,f6,rfl,f30,rfl,?_,?_,?_,gl.al fg r9,l3,by simp only;omega,?_,Xh ki _⟩,by simp only;omega⟩
      ·simp only [aY,List.map_append,List.map_cons,List.map_nil];exact cO
      ·intro k' eB
       rcases ju with ju | ju
       ·exact c4 k' (by rw [←ju];exact eB)
       ·have:=ju k' eB;have:=hk.n;have:=k3.n;omega
      ·refine (hk.trans' k3).trans fg fun k' eB hi=>?_
       have:=c4 k' hi;omega
      ·simp only [List.length_append,List.length_drop,List.length_cons,List.length_nil];omega
   ·have d1:decide ((k:Int)<(((dec ao 0 0).1:Nat):Int))=false:=by simp;omega
    rw [show (dec ao 0 0).1 - k=0 by omega,p0] at l3
    have bs:jb ao most=(acc,rest,0):=by
     unfold jb;rw [if_neg (by omega),if_neg rL,←l3];rfl
    have Zj:=aH.al sZ (by simp [none_])
    obtain ⟨rfl,_,lj⟩:=Zj
    obtain ⟨_,_,lH⟩:=IH
    simp only [af,Int.reduceNeg,Nat.reduceEqDiff,reduceCtorEq,Hl,Hp,Qp,f0,f6,f9,f30,f31,d1,lj,lH,aU,Tryz.results214,dn]
    have D3:J aa (aa.set i (.cells [.ai rest.length (e7 rest)] 278 none)) (·=i):=J.set _ _ _
    have ni:Own (aa.set i (.cells [.ai rest.length (e7 rest)] 278 none)) 3 1 v (aY acc):=aR.al D3 fun k' eB hi=>by have:=c4 k' eB;omega
    obtain ⟨bY,c5,eQ⟩:=aM.own ni (n:=acc.length) (by rw [pU,Nat.mul_one]) (by omega)
    have r9:¬bl v i:=fun ab=>by have:=c4 _ ab;omega
    have Ff:du (aa.set i (.cells [.ai rest.length (e7 rest)] 278 none)) (.ptr i 0) i rest:=⟨rfl,by rw [jt];exact Nat.lt_of_lt_of_le ch sZ.n,aP⟩
    refine aF ⟨_,bY,aM.tuple (aB.cons c5 (aB.refl _ _)),by rw [bs];rfl,by rw [bs];exact Ff.al eQ r9,?_⟩
    refine (sZ.up.trans' D3).trans eQ fun k' eB hi=>?_
    have:=c4 k' hi;omega
theorem anj (op:Int):∀ (s:Nat) (e:bG) (h:I),et e=s→fP e→Pure Tryz.prog 274 [.agg (ay e),.int .i64 op] h (.bool (uJ op e)):=by
 intro s
 induction s using Nat.strongRecOn with
 | _ s ih=>
 intro e h U a1
 obtain ⟨o,n,aE⟩:=e
 refine Pure.val (bj.bool _) ?_
 have hlen:=a1.len
 simp only [bG.aE] at hlen
 refine ae.ax (c:=_) Tryz.func274 rfl (by kernel_rfl) (by simp) ?_
 have au:(V.agg (ay (.mk o n aE))).cells=some (ay (.mk o n aE)):=rfl
 have fF:dB (bb.cells (ay (.mk o n aE)) 27 none) 0=some [.int .i64 o,.int .i64 n,.ai aE.length (aE.flatMap ay)]:=by rw [jv];rfl
 have jm:dB (bb.cells (ay (.mk o n aE)) 27 none) 2=some [.ai aE.length (aE.flatMap ay)]:=by rw [jv];rfl
 by_cases aR:o=op
 ·have c:(o==op)=true:=by simp [aR]
  simp only [af,Nat.reduceEqDiff,nv,bn,au,fF,c,aU,Tryz.results274,ac]
  exact aF ⟨by simp [uJ,aR],J.push _ _ _⟩
 have c:(o==op)=false:=by simp [aR]
 have bs:uJ op (.mk o n aE)=ry op aE:=by simp [uJ,c]
 simp only [af,Nat.reduceEqDiff,nv,pz,uF,qG,bn,au,fF,jm,c]
 refine aX.b9 (α:=Nat) (fun i f h'=>f 1=.int .i64 op∧f 12=.ai aE.length (aE.flatMap ay)∧f 13=.int .i64 ((aE.length:Nat):Int)∧f 14=.int .i64 (i:Nat)∧i≤aE.length∧J h h' none_∧ry op aE=ry op (aE.drop i)) (fun i=>aE.length - i) 0 ⟨rfl,rfl,rfl,rfl,Nat.zero_le _,J.push _ _ _,rfl⟩ ?_
 rintro i f h' ⟨f1,f12,f13,f14,hi,hk,bF⟩
 refine am (by kernel_rfl) ?_
 by_cases aN:i<aE.length
 rotate_left
 ·have c3:decide ((i:Int)<((aE.length:Nat):Int))=false:=by simp only [decide_eq_false_iff_not];omega
  rw [List.drop_of_length_le (by omega)] at bF
  simp only [af,Nat.reduceEqDiff,f13,f14,c3,aU,Tryz.results274,ac]
  exact aF ⟨by rw [bs,bF];simp [ry],hk⟩
 ·have c3:decide ((i:Int)<((aE.length:Nat):Int))=true:=by simp only [decide_eq_true_eq];omega
  rw [List.drop_eq_getElem_cons aN] at bF
  have gn:=EV (kk:=.i64) aN
  have xr:aE[i] ∈ (bG.mk o n aE).aE:=List.getElem_mem aN
  have ir:=Qt _ xr
  have C9:=a1.AV _ xr
  generalize aE[i]=A at *
  have kS:∀ (q:List V),dv (some (some 3)) (some (ay A++q))=some (.agg (ay A)):=fun q=>nN (ot A)
  have b5:(V.agg (ay A)).cells=some (ay A):=rfl
  have db:bR (some 3) (bb.cells [.int .i64 0,.int .i64 0,.an] 27 none) 0 (ay A)=some (.cells (ay A) 27 none):=by
   rw [sF (n:=3) (ot A) (Hu A),if_pos (by decide)];cases A;rfl
  have Hv:dB (bb.cells (ay A) 27 none) 0=some (ay A):=by cases A;rfl
  have gX:dv (some (some 3)) (some (ay A))=some (.agg (ay A)):=by cases A;rfl
  have bX:IntKind.i64.wrap (((i:Nat):Int)+1)=((i+1:Nat):Int):=by rw [Go.IntWalk.i64_in _ (by omega)];omega
  simp only [af,Nat.reduceEqDiff,fh,ov,mZ,f1,f12,f13,f14,c3,gn,kS,b5,db,Hv,gX]
  refine bU Wb (ih (et A) (by omega) A _ rfl C9) ?_
  cases hu:uJ op A with
  | true=>
   simp only [af,Nat.reduceEqDiff,aU,Tryz.results274,ac]
   exact aF ⟨by rw [bs,bF];simp [ry,hu],hk.bg _⟩
  | false=>
   simp only [af,Nat.reduceEqDiff,f14,bX]
   exact aF ⟨i+1,⟨f1,f12,f13,rfl,by omega,hk.bg _,by rw [bF];simp [ry,hu]⟩,by omega⟩
theorem zJ (v:bC):(ar v).all (·.one)=true:=by
 have:=Hu v.e
 simp only [ar,List.all_append,this]
 rfl
theorem p7 (v:bC):ar v=[.int .i64 v.kind,.ai v.a8.length (aY v.a8),.int .i64 v.e.op,.int .i64 v.e.num,.ai v.e.aE.length (v.e.aE.flatMap ay),.int .i64 v.n]:=by
 obtain ⟨k,f,⟨o,m,aE⟩,n⟩:=v
 simp [ar,jv,bG.op,bG.num,bG.aE]
def hx (x:Int):Prop:=-2 ^ 63≤x∧x<2 ^ 63
def vr (v:bC):Prop:=fP v.e∧v.a8.length<2 ^ 47∧hx v.kind∧hx v.n∧∀ f ∈ v.a8,hx f
abbrev zK:=Int×Int×Int×Int
def ky:List zK:=[(0,0,0,0),(0,0,0,7),(1,1,0,0),(1,1,0,0),(1,1,0,0),(1,1,0,0),(1,2,0,0),(1,2,1,1048576),(1,2,1,1048576),(2,2,0,0),(1,0,0,7)]
def LA (q:zK):List V:=[.int .i64 q.1,.int .i64 q.2.1,.int .i64 q.2.2.1,.int .i64 q.2.2.2]
def oa:List V:=ky.flatMap LA
def pY (h:I):Prop:=ga h∧h.glob 2=some oa
theorem pY.al {h h':I} {M:Nat→Prop} (av:pY h) (hk:J h h' M):pY h':=⟨av.1.al hk,by rw [hk.glob];exact av.2⟩
theorem pY.or {h U h':I} {M:Nat→Prop} (av:pY U) (lj:pY h) (hk:J U h' M∨h'=h):pY h':=by
 rcases hk with hk | rfl
 ·exact av.al hk
 ·exact lj
def ya (e:bG) (k:Int):Bool:=if k=0 then (e.op==0&&(e.num==0&&e.aE.isEmpty)) else (cY e&&(k==2||!uJ 5 e))
def tS (v:bC) (q:zK):Bool:=decide ((v.a8.length:Int)=q.1)&&(ya v.e q.2.1&&(decide (q.2.2.1≤v.n)&&decide (v.n≤q.2.2.2)))
def kb (v:bC):Bool:=tS v (ky.getD v.kind.toNat (0,0,0,0))
def gN (l:List bC) (f:Int):Int:=((l[f.toNat]?).map bC.kind).getD 0
def Da (l:List bC) (i:Nat) (v:bC):Bool:=(v.kind==1||v.kind==10)&&(l.take i).any fun u=>u.kind==v.kind&&u.n==v.n
def dg (l:List bC) (i:Nat) (v:bC):Int :=
 if v.kind<1∨10<v.kind then 1 else
 if (v.a8.any fun f=>decide (f<0∨(i:Int)≤f))=true then 2 else
 if kb v=false then 5 else
 if Da l i v=true then 12 else
 if (v.a8.any fun f=>gN l f==10)=true then 5 else
 if v.kind=9∧gN l (v.a8.getD 1 0)≠6 then 5 else 0
def oc (l:List bC):Nat→List bC→Int×Int
 | _,[]=>(-1,0)
 | i,v::r=>if dg l i v=0 then oc l (i+1) r else ((i:Int),dg l i v)
def c1 (p:Int) (l:List bC):Int×Int:=if p<1∨8<p∨l.length=0∨24<l.length then (-1,2) else oc l 0 l
def gu (v:Int):Nat→List bC→List Int
 | _,[]=>[]
 | i,u::r=>(if u.a8.contains v then [(i:Int)] else [])++gu v (i+1) r
theorem Zk (v:Int) (u:bC):∀ (l:List bC) (j:Nat),gu v j (l++[u])=gu v j l++(if u.a8.contains v then [((j+l.length:Nat):Int)] else [])
 | [],j=>by simp [gu]
 | a::r,j=>by
  simp only [List.cons_append,gu,Zk v u r (j+1),List.length_cons,List.append_assoc]
  rw [show j+1+r.length=j+(r.length+1) by omega]
theorem Ft {v k:Int}:∀ {l:List bC} {j:Nat},k ∈ gu v j l↔∃ (m:Nat) (u:bC),k=((j+m:Nat):Int)∧l[m]?=some u∧v ∈ u.a8
 | [],j=>by simp [gu]
 | a::r,j=>by
  simp only [gu,List.mem_append,Ft (l:=r)]
  constructor
  ·rintro (h | ⟨m,u,h1,aa,aC⟩)
   ·split at h
    ·rename_i au
     exact ⟨0,a,by simpa using h,rfl,by simpa using au⟩
    ·simp at h
   ·exact ⟨m+1,u,by omega,by simpa using aa,aC⟩
  ·rintro ⟨m,u,h1,aa,aC⟩
   cases m with
   | zero=>
    left
    simp at aa
    subst aa
    rw [if_pos (by simpa using aC)]
    simpa using h1
   | succ m=>exact .inr ⟨m,u,by omega,by simpa using aa,aC⟩
theorem Db {v:Int}:∀ {l:List bC} {j:Nat},(gu v j l).length≤l.length
 | [],j=>by simp [gu]
 | a::r,j=>by
  have:=Db (v:=v) (l:=r) (j:=j+1)
  simp only [gu,List.length_append,List.length_cons]
  split<;>simp<;>omega
theorem RF {l:List bC}:∀ {a:List bC} {i:Nat},(oc l i a).2=0→oc l i a=(-1,0)∧∀ k v,a[k]?=some v→dg l (i+k) v=0
 | [],i,h=>⟨rfl,by simp⟩
 | u::a,i,h=>by
  unfold oc at h⊢
  split at h
  ·rename_i h0
   rw [if_pos h0]
   obtain ⟨h1,aa⟩:=RF h
   refine ⟨h1,fun k v hk=>?_⟩
   cases k with
   | zero=>simp at hk;subst hk;exact h0
   | succ k=>rw [show i+(k+1)=i+1+k by omega];exact aa k v (by simpa using hk)
  ·rename_i h0
   exact absurd h h0
theorem ank (e:bG) (k:Int) (a1:fP e) (h:I) (av:ga h):Pure Tryz.prog 257 [.agg (ay e),.int .i64 k] h (.bool (ya e k)):=by
 refine Pure.val (bj.bool _) ?_
 have bF:ay e=[.int .i64 e.op,.int .i64 e.num,.ai e.aE.length (e.aE.flatMap ay)]:=by obtain ⟨o,n,l⟩:=e;rw [jv];rfl
 have ef:∀ a,ga (h.push a):=fun a=>by unfold ga;rw [EC];exact av
 have au:(V.agg (ay e)).cells=some (ay e):=rfl
 have dk:dv (some none) (some (ay e))=some (.int .i64 e.op):=by rw [bF];rfl
 have fF:dB (bb.cells (ay e) 27 none) 0=some (ay e):=by rw [bF];rfl
 have jN:dB (bb.cells (ay e) 27 none) 1=some [.int .i64 e.num,.ai e.aE.length (e.aE.flatMap ay)]:=by rw [bF];rfl
 have jm:dB (bb.cells (ay e) 27 none) 2=some [.ai e.aE.length (e.aE.flatMap ay)]:=by rw [bF];rfl
 have kX:dv (some (some 3)) (some (ay e))=some (.agg (ay e)):=by rw [bF];rfl
 refine ae.ax (c:=_) Tryz.func257 rfl (by kernel_rfl) (by simp) ?_
 by_cases hk:k=0
 ·have c:(k==0)=true:=by simp [hk]
  have az:(((e.aE.length:Nat):Int)==0)=e.aE.isEmpty:=by cases e.aE<;>simp;omega
  cases bh:(e.op==0)<;>cases bD:(e.num==0) <;>
  ·simp only [af,Nat.reduceEqDiff,nv,E3,pz,uF,bx,qG,bn,au,c,dk,fF,jN,jm,bh,bD,az,aU,Tryz.results257,ac]
   exact aF ⟨by simp [ya,hk,bh,bD],J.push _ _ _⟩
 ·have c:(k==0)=false:=by simp [hk]
  have bs:ya e k=(cY e&&(k==2||!uJ 5 e)):=by simp [ya,hk]
  simp only [af,Nat.reduceEqDiff,fh,au,c,fF,kX]
  refine bU P2 (CD e _ (ef _)) ?_
  cases bh:cY e
  ·simp only [af,Nat.reduceEqDiff,aU,Tryz.results257,ac]
   exact aF ⟨by rw [bs,bh];rfl,J.push _ _ _⟩
  ·cases bD:(k==2)
   ·simp only [af,Nat.reduceEqDiff,fh,fF,kX,bD]
    refine bU Wb (anj 5 _ e _ rfl a1) ?_
    simp only [af,Nat.reduceEqDiff,aU,Tryz.results257,ac]
    exact aF ⟨by rw [bs,bh,bD];simp,J.push _ _ _⟩
   ·simp only [af,Nat.reduceEqDiff,bD,aU,Tryz.results257,ac]
    exact aF ⟨by rw [bs,bh,bD];rfl,J.push _ _ _⟩
theorem anl (v:bC) (q:zK) (a1:fP v.e) (h:I) (av:ga h):Pure Tryz.prog 213 [.agg (ar v),.agg (LA q)] h (.bool (tS v q)):=by
 refine Pure.val (bj.bool _) ?_
 obtain ⟨xU,cn,cO,fg⟩:=q
 have fC:=p7 v
 have au:(V.agg (ar v)).cells=some (ar v):=rfl
 have ht:(V.agg (LA (xU,cn,cO,fg))).cells=some [.int .i64 xU,.int .i64 cn,.int .i64 cO,.int .i64 fg]:=rfl
 have jN:dB (bb.cells (ar v) 29 none) 1=some [.ai v.a8.length (aY v.a8),.int .i64 v.e.op,.int .i64 v.e.num,.ai v.e.aE.length (v.e.aE.flatMap ay),.int .i64 v.n]:=by rw [fC];rfl
 have jm:dB (bb.cells (ar v) 29 none) 2=some (ay v.e++[.int .i64 v.n]):=rfl
 have tT:dB (bb.cells (ar v) 29 none) 5=some [.int .i64 v.n]:=by rw [fC];rfl
 have kX:dv (some (some 3)) (some (ay v.e++[.int .i64 v.n]))=some (.agg (ay v.e)):=nN (ot v.e)
 refine ae.ax (c:=_) Tryz.func213 rfl (by kernel_rfl) (by simp) ?_
 obtain ⟨H,hH⟩:∃ x,x=(h.push (.cells (ar v) 29 none)).push (.cells [.int .i64 xU,.int .i64 cn,.int .i64 cO,.int .i64 fg] 338 none):=⟨_,rfl⟩
 have g3:H.get h.n=.cells (ar v) 29 none:=by rw [hH];exact wv
 have g4:H.get (h.n+1)=.cells [.int .i64 xU,.int .i64 cn,.int .i64 cO,.int .i64 fg] 338 none:=by rw [hH];exact d9
 have bA:J h H none_:=by rw [hH];exact (J.push _ _ _).bg _
 have jL:ga H:=av.al bA
 cases mB:(((v.a8.length:Nat):Int)==xU)
 ·have d0:decide (((v.a8.length:Nat):Int)=xU)=false:=by simpa using mB
  simp only [af,Nat.reduceEqDiff,Nat.reduceAdd,qE,Ws,qF,mW,bn,au,ht,←hH,g3,g4,jN,mB,aU,Tryz.results213,ac]
  exact aF ⟨by simp [tS,d0],bA⟩
 ·have d0:decide (((v.a8.length:Nat):Int)=xU)=true:=by simpa using mB
  simp only [af,Nat.reduceEqDiff,Nat.reduceAdd,Nat.reduceLeDiff,qE,co,Ws,ajB,qF,mW,fh,bn,au,ht,←hH,g3,g4,jN,jm,kX,mB]
  refine bU ajl (ank v.e cn a1 _ jL) ?_
  cases bh:ya v.e cn
  ·simp only [af,Nat.reduceEqDiff,aU,Tryz.results213,ac]
   exact aF ⟨by simp [tS,bh],bA⟩
  cases bD:decide (cO≤v.n)
  ·simp only [af,Nat.reduceEqDiff,Nat.reduceAdd,Nat.reduceLeDiff,xW,Wt,bx,g3,g4,tT,bD,aU,Tryz.results213,ac]
   exact aF ⟨by simp [tS,bD],bA⟩
  ·simp only [af,Nat.reduceEqDiff,Nat.reduceAdd,Nat.reduceLeDiff,xW,Wt,ajC,bx,g3,g4,tT,bD,aU,Tryz.results213,ac]
   exact aF ⟨by simp only [tS,d0,bh,bD,Bool.true_and],bA⟩
def xt (p:Int×Int):V:=.agg [.int .i64 p.1,.int .i64 p.2]
theorem anm:B3 Tryz.prog 341=some [0,0]:=by kernel_rfl
theorem ann (e:Bool) (a b:Int):vB Tryz.prog e 341 (xt (a,b))=true:=by
 cases e<;>kernel_rfl
theorem IJ:∃ d,e9 Tryz.prog 302=some (341,3,d)∧s9 d=false:=by
 have h:(e9 Tryz.prog 302).map (fun q=>(q.1,q.2.1,s9 q.2.2))=some (341,3,false):=by kernel_rfl
 cases hm:e9 Tryz.prog 302 with
 | none=>rw [hm] at h;cases h
 | some q=>
  rw [hm] at h
  obtain ⟨a,b,d⟩:=q
  simp only [Option.map_some,Option.some.injEq,Prod.mk.injEq] at h
  obtain ⟨rfl,rfl,h⟩:=h
  exact ⟨d,rfl,h⟩
theorem IK:lO Tryz.prog 3=some (.int .i64 0):=by kernel_rfl
theorem Nu {d:TypeDesc} (a7:s9 d=false):kp Tryz.prog 341 d xt where
 eq a b:=by
  have h:e2 [0,0] [.int .i64 a.1,.int .i64 a.2] [.int .i64 b.1,.int .i64 b.2]=some (a.1==b.1&&a.2==b.2):=by simp [e2]
  obtain ⟨dV,eC,ag,bd⟩:=EG h
  obtain ⟨h1,_⟩:=Ks anm h ag bd
  have:ta Tryz.prog 341 d (xt a) (xt b)=some (a.1==b.1&&a.2==b.2):=by
   unfold ta xt
   simp only [mz,ag,bd,Option.map_some,a7,h1]
   rfl
  rw [this,Option.some.injEq,Bool.eq_iff_iff]
  simp only [Bool.and_eq_true,beq_iff_eq,decide_eq_true_eq]
  exact ⟨fun h=>Prod.ext h.1 h.2,fun h=>⟨congrArg Prod.fst h,congrArg Prod.snd h⟩⟩
 ok b a:=ann b a.1 a.2
 bits a:=by
  refine ⟨_,rfl,?_⟩
  simp [Instr.sameBits]
abbrev rM:=List (Nat×(Int×Int)×Int)
def uT (l:rM):List (Nat×V×V):=dJ xt (V.int .i64) l
theorem ano {h:I} {i cl:Nat} (l:rM) (a b:Int) (av:h.get i=.map (uT l) cl):mD Tryz.prog 302 (.map i) (.agg [.int .i64 a,.int .i64 b]) true h=some (.tuple [.int .i64 ((b7 l (a,b)).getD 0),.bool (b7 l (a,b)).isSome]):=by
 obtain ⟨d,hm,a7⟩:=IJ
 have:=Pj (enc:=V.int .i64) (ok:=true) (Nu a7) (k:=(a,b)) hm IK av
 rw [show (V.agg [.int .i64 a,.int .i64 b])=xt (a,b) from rfl,this]
 cases b7 l (a,b)<;>simp [fj,fX]
theorem RG {h:I} {i cl:Nat} (l:rM) (a b v:Int) (av:h.get i=.map (uT l) cl):uk Tryz.prog 302 (.map i) (.agg [.int .i64 a,.int .i64 b]) (.int .i64 v) h=some (h.set i (.map (uT (cC cl l (a,b) v)) (fT cl l (a,b)))):=by
 obtain ⟨d,hm,a7⟩:=IJ
 exact Pl (enc:=V.int .i64) (Nu a7) (k:=(a,b)) hm av rfl
def tU (l:List bC) (es:rM):Prop:=∀ k n,(k=1∨k=10)→(b7 es (k,n)).isSome=l.any fun u=>u.kind==k&&u.n==n
theorem tU.nil:tU [] []:=fun k n _=>rfl
theorem tU.set {l:List bC} {es:rM} (a:tU l es) (v:bC) (cl:Nat) (x:Int):tU (l++[v]) (cC cl es (v.kind,v.n) x):=fun k n hk=>by
 rw [B6,List.any_append]
 simp only [List.any_cons,List.any_nil,Bool.or_false]
 by_cases he:(k,n)=(v.kind,v.n)
 ·rw [if_pos he]
  cases he
  simp
 ·rw [if_neg he,a k n hk]
  have:(v.kind==k&&v.n==n)=false:=by
   rw [Bool.eq_false_iff]
   intro ab
   simp only [Bool.and_eq_true,beq_iff_eq] at ab
   exact he (by rw [ab.1,ab.2])
  rw [this,Bool.or_false]
theorem tU.skip {l:List bC} {es:rM} (a:tU l es) {v:bC} (aD:¬(v.kind=1∨v.kind=10)):tU (l++[v]) es:=fun k n hk=>by
 rw [a k n hk,List.any_append]
 simp only [List.any_cons,List.any_nil,Bool.or_false]
 have:(v.kind==k&&v.n==n)=false:=by
  rw [Bool.eq_false_iff]
  intro ab
  simp only [Bool.and_eq_true,beq_iff_eq] at ab
  exact aD (by rw [ab.1];exact hk)
 rw [this,Bool.or_false]
theorem LB {α:Type} {l:List α} {j:Nat} (p:α→Bool) (aS:j<l.length):(l.take (j+1)).any p=((l.take j).any p||p l[j]):=by
 rw [List.take_succ_eq_append_getElem aS,List.any_append]
 simp
theorem jp {l:List bC} {q:Nat} (ad:q<l.length):hA Tryz.prog 54 (.ai l.length (l.flatMap ar)) (.int .i64 (q:Int))=some (.at (ar l[q]++(l.drop (q+1)).flatMap ar))∧(∀ r,dv (some none) (some (ar l[q]++r))=some (.int .i64 (gN l (q:Int))))∧gN l (q:Int)=l[q].kind:=by
 have hk:gN l (q:Int)=l[q].kind:=by unfold gN;rw [Int.toNat_natCast,List.getElem?_eq_getElem ad];rfl
 refine ⟨qC iA ad xR,fun r=>?_,hk⟩
 rw [hk,p7]
 rfl
theorem Dc {v:bC} (gd:v.kind=9) (Nv:kb v=true):v.a8.length=2:=by
 simp only [kb,gd,tS,Bool.and_eq_true,decide_eq_true_eq] at Nv
 have:=Nv.1
 simp [ky] at this
 omega
theorem RH {l:List Int} (az:1<l.length):(if (1:Int)<((l.length:Nat):Int)∧Int.toNat 1 * 1≤(aY l).length then some (V.at (List.drop (Int.toNat 1 * 1) (aY l))) else none)=some (V.at (V.int .i64 l[1]::aY (l.drop 2))):=by
 rw [if_pos ⟨by omega,by rw [pU];show 1 * 1≤_;omega⟩]
 show some (V.at ((l.map (V.int .i64)).drop 1))=_
 rw [←List.map_drop,List.drop_eq_getElem_cons az]
 rfl
theorem anp:∀ q:Nat,q<11→dv (some (some 4)) (some (oa.drop (q * 4)))=some (.agg (LA (ky.getD q (0,0,0,0))))
 | 0,_=>rfl
 | 1,_=>rfl
 | 2,_=>rfl
 | 3,_=>rfl
 | 4,_=>rfl
 | 5,_=>rfl
 | 6,_=>rfl
 | 7,_=>rfl
 | 8,_=>rfl
 | 9,_=>rfl
 | 10,_=>rfl
 | q+11,h=>by omega
theorem anq (l:List bC) (i m cl:Nat) (es:rM) (hi:i<l.length) (uU:l.length≤24) (v:bC) (aD:l[i]=v) (a1:fP v.e) (j0:v.a8.length<2 ^ 47) (h:I) (av:pY h) (hm:m<h.n) (fG:h.get m=.map (uT es) cl) (cN:tU (l.take i) es) :
  ae Tryz.prog 178 [.ai l.length (l.flatMap ar),.int .i64 (i:Nat),.map m] h (fun r h'=>r=.int .i64 (dg l i v)∧J h h' (·=m)∧(dg l i v=0→∃ fs xu,h'.get m=.map (uT fs) xu∧tU (l.take (i+1)) fs)):=by
 have fC:=p7 v
 have gn:=qC (kk:=.i64) (P:=Tryz.prog) iA hi xR
 rw [aD] at gn
 have AM:l.take (i+1)=l.take i++[v]:=by rw [List.take_succ_eq_append_getElem hi,aD]
 have kS:∀ (q:List V),dv (some (some 6)) (some (ar v++q))=some (.agg (ar v)):=fun q=>nN (iA v)
 have b5:(V.agg (ar v)).cells=some (ar v):=rfl
 have db:bR (some 6) (bb.cells [.int .i64 0,.an,.int .i64 0,.int .i64 0,.an,.int .i64 0] 29 none) 0 (ar v)=some (.cells (ar v) 29 none):=by
  rw [sF (n:=6) (iA v) (zJ v),if_pos (by decide),fC];rfl
 have dk:dv (some none) (some (ar v))=some (.int .i64 v.kind):=by rw [fC];rfl
 have fF:dB (bb.cells (ar v) 29 none) 0=some (ar v):=by rw [fC];rfl
 have jN:dB (bb.cells (ar v) 29 none) 1=some [.ai v.a8.length (aY v.a8),.int .i64 v.e.op,.int .i64 v.e.num,.ai v.e.aE.length (v.e.aE.flatMap ay),.int .i64 v.n]:=by rw [fC];rfl
 have tT:dB (bb.cells (ar v) 29 none) 5=some [.int .i64 v.n]:=by rw [fC];rfl
 have kX:dv (some (some 6)) (some (ar v))=some (.agg (ar v)):=by rw [fC];rfl
 obtain ⟨H,hH⟩:∃ x,x=h.push (.cells (ar v) 29 none):=⟨_,rfl⟩
 have o2:H.get h.n=.cells (ar v) 29 none:=by rw [hH];exact cA
 have bA:J h H none_:=by rw [hH];exact J.push _ _ _
 have j9:H.n=h.n+1:=by rw [hH];rfl
 have jL:pY H:=av.al bA
 have Nw:H.get m=.map (uT es) cl:=(bA.get m hm (by simp [none_])).trans fG
 refine ae.ax (c:=_) Tryz.func178 rfl (by kernel_rfl) (by simp) ?_
 by_cases h1:v.kind<1
 ·have bh:decide (v.kind<1)=true:=by simpa using h1
  have bs:dg l i v=1:=by unfold dg;rw [if_pos (.inl h1)]
  simp only [af,Nat.reduceEqDiff,reduceCtorEq,hl,nS,bn,nW,pZ,gn,kS,b5,db,←hH,o2,dk,fF,bh,aU,Tryz.results178,ac]
  exact aF ⟨by rw [bs],bA.up,fun ab=>by rw [bs] at ab;cases ab⟩
 have bh:decide (v.kind<1)=false:=by simpa using h1
 by_cases aa:10<v.kind
 ·have bD:decide (10<v.kind)=true:=by simpa using aa
  have bs:dg l i v=1:=by unfold dg;rw [if_pos (.inr aa)]
  simp only [af,Nat.reduceEqDiff,reduceCtorEq,hl,nS,bn,nW,pZ,gn,kS,b5,db,←hH,o2,dk,fF,bh,bD,aU,Tryz.results178,ac]
  exact aF ⟨by rw [bs],bA.up,fun ab=>by rw [bs] at ab;cases ab⟩
 have bD:decide (10<v.kind)=false:=by simpa using aa
 simp only [af,Nat.reduceEqDiff,reduceCtorEq,hl,qE,qF,mW,nS,bn,nW,pZ,gn,kS,b5,db,←hH,o2,dk,fF,jN,bh,bD]
 refine aX.b9 (α:=Nat) (fun j f h'=>f 0=.ai l.length (l.flatMap ar)∧f 1=.int .i64 (i:Nat)∧f 2=.map m∧f 7=.ptr h.n 0∧f 28=.ai v.a8.length (aY v.a8)∧f 29=.int .i64 ((v.a8.length:Nat):Int)∧f 30=.int .i64 (j:Nat)∧j≤v.a8.length∧h'=H∧((v.a8.take j).any fun f=>decide (f<0∨(i:Int)≤f))=false) (fun j=>v.a8.length - j) 0 ⟨rfl,rfl,rfl,rfl,rfl,rfl,rfl,Nat.zero_le _,rfl,rfl⟩ ?_
 rintro j f h' ⟨f0,f1,f2,f7,f28,f29,f30,aS,rfl,hI⟩
 refine am (by kernel_rfl) ?_
 by_cases aN:j<v.a8.length
 ·have c3:decide ((j:Int)<((v.a8.length:Nat):Int))=true:=by simp only [decide_eq_true_eq];omega
  have ck:=tk (P:=Tryz.prog) (kk:=.i64) aN mF
  have bX:IntKind.i64.wrap (((j:Nat):Int)+1)=((j+1:Nat):Int):=by rw [Go.IntWalk.i64_in _ (by omega)];omega
  have ia:=LB (fun f=>decide (f<0∨(i:Int)≤f)) aN
  have ch:v.a8[j] ∈ v.a8:=List.getElem_mem aN
  generalize v.a8[j]=A at ck ia ch
  have bad:∀ ak:A<0∨(i:Int)≤A,dg l i v=2:=fun ak=>by
   unfold dg
   rw [if_neg (by omega),if_pos (List.any_eq_true.2 ⟨A,ch,by simpa using ak⟩)]
  by_cases gv:A<0
  ·have d1:decide (A<0)=true:=by simpa using gv
   simp only [af,Nat.reduceEqDiff,bn,f28,f29,f30,c3,ck,d1,aU,Tryz.results178,ac]
   exact aF ⟨by rw [bad (.inl gv)],bA.up,fun ab=>by rw [bad (.inl gv)] at ab;cases ab⟩
  have d1:decide (A<0)=false:=by simpa using gv
  by_cases ft:(i:Int)≤A
  ·have d2:decide ((i:Int)≤A)=true:=by simpa using ft
   simp only [af,Nat.reduceEqDiff,bn,f1,f28,f29,f30,c3,ck,d1,d2,aU,Tryz.results178,ac]
   exact aF ⟨by rw [bad (.inr ft)],bA.up,fun ab=>by rw [bad (.inr ft)] at ab;cases ab⟩
  have d2:decide ((i:Int)≤A)=false:=by simpa using ft
  simp only [af,Nat.reduceEqDiff,bn,f1,f28,f29,f30,c3,ck,d1,d2,bX]
  exact aF ⟨j+1,⟨f0,f1,f2,f7,f28,f29,rfl,by omega,rfl,by rw [ia,hI];simp [gv,ft]⟩,by omega⟩
 have c3:decide ((j:Int)<((v.a8.length:Nat):Int))=false:=by simp only [decide_eq_false_iff_not];omega
 rw [List.take_of_length_le (by omega)] at hI
 have n5:∀ x ∈ v.a8,0≤x∧x<i:=fun x ag=>by
  rw [List.any_eq_false] at hI
  have:=hI x ag
  simp only [decide_eq_true_eq] at this
  omega
 simp only [af,f29,f30,c3]
 have tv:∀ f:ah,ah.eval f h' (.global 2)=.at oa:=fun f=>J1 jL.2
 have gk:(if (0:Int)≤v.kind∧v.kind<((11:Nat):Int)∧(v.kind.toNat * 4)≤oa.length then some (V.at (oa.drop (v.kind.toNat * 4))) else none)=some (.at (oa.drop (v.kind.toNat * 4))):=if_pos ⟨by omega,by omega,by show _≤44;omega⟩
 have RI:=anp v.kind.toNat (by omega)
 have hJ:¬(v.kind<1∨10<v.kind):=by omega
 have ku:¬((v.a8.any fun f=>decide (f<0∨(i:Int)≤f))=true):=by rw [hI];simp
 refine aX.bk none_ [] (.q 0 (.q 1 (.q 2 (.q 3 (.q 4 (.c 5 (.q 6 .done))))))) (by kernel_rfl) (by kernel_rfl) (by kernel_rfl) ?_
 simp only [af,bN,Nat.reduceEqDiff,aiE,hl,nS,bn,ajL,aj3,f7,o2,fF,dk,kX,tv,gk,RI]
 refine ix rfl rfl rfl (fun vt hk=>anl v _ a1 vt (jL.or jL hk).1) ?_
 have IL:tS v (ky.getD v.kind.toNat (0,0,0,0))=kb v:=rfl
 cases ew:kb v
 ·have bs:dg l i v=5:=by unfold dg;rw [if_neg hJ,if_neg ku,if_pos ew]
  simp only [af,bN,Nat.reduceEqDiff,IL,ew,aU,Tryz.results178,ac]
  exact aF ⟨by rw [bs],bA.up,fun ab=>by rw [bs] at ab;cases ab⟩
 simp only [af,bN,Nat.reduceEqDiff,hl,IL,ew]
 have o9:¬(kb v=false):=by rw [ew];simp
 have aG:(V.agg [.int .i64 v.kind,.int .i64 v.n]).cells=some [.int .i64 v.kind,.int .i64 v.n]:=rfl
 by_cases U:v.kind=1∨v.kind=10
 ·obtain ⟨Fu,xv⟩:∃ x,x=h'.push (.cells [.int .i64 v.kind,.int .i64 v.n] 341 none):=⟨_,rfl⟩
  have mL:Fu.get h'.n=.cells [.int .i64 v.kind,.int .i64 v.n] 341 none:=by rw [xv];exact cA
  have b8:J h' Fu none_:=by rw [xv];exact J.push _ _ _
  have Zl:Fu.get h.n=.cells (ar v) 29 none:=(b8.get h.n (by omega) (by simp [none_])).trans o2
  have Nx:Fu.get m=.map (uT es) cl:=(b8.get m (by omega) (by simp [none_])).trans Nw
  have gy:=ano es v.kind v.n Nx
  have tQ:=RG es v.kind v.n (i:Nat) Nx
  have RJ:(b7 es (v.kind,v.n)).isSome=Da l i v:=by
   rw [cN v.kind v.n U]
   unfold Da
   rcases U with U | U<;>rw [U]<;>rfl
  rw [RJ] at gy
  have Ny:((v.kind==1)=true∧(v.kind==10)=false)∨((v.kind==1)=false∧(v.kind==10)=true):=by
   rcases U with U | U<;>rw [U]<;>simp
  cases na:Da l i v
  ·rw [na] at gy
   obtain ⟨vP,tV⟩:∃ x,x=Fu.set m (.map (uT (cC cl es (v.kind,v.n) (i:Nat))) (fT cl es (v.kind,v.n))):=⟨_,rfl⟩
   have en:J Fu vP (·=m):=by rw [tV];exact J.set _ _ _
   have uV:vP.get h.n=.cells (ar v) 29 none:=(en.get h.n (by rw [xv,eI];omega) (by omega)).trans Zl
   have Zm:vP.get m=.map (uT (cC cl es (v.kind,v.n) (i:Nat))) (fT cl es (v.kind,v.n)):=by rw [tV];exact aP
   have uW:J h vP (·=m):=((bA.trans' b8).up).trans' en
   have mn:∃ fs xu,vP.get m=.map (uT fs) xu∧tU (l.take (i+1)) fs:=⟨_,_,Zm,by rw [AM];exact cN.set v _ _⟩
   rcases Ny with ⟨c5,jw⟩ | ⟨c5,jw⟩
   ·simp only [af,Nat.reduceEqDiff,Nat.reduceAdd,Nat.reduceLeDiff,hl,qE,xW,qF,bx,mW,bn,KZ,K3,K7,K9,f1,f2,f7,o2,dk,fF,jN,tT,c5,aG,←xv,mL,gy,tQ,←tV,uV]
    refine aX.b9 (α:=Nat) (fun j f h1=>f 0=.ai l.length (l.flatMap ar)∧f 7=.ptr h.n 0∧f 73=.ai v.a8.length (aY v.a8)∧f 74=.int .i64 ((v.a8.length:Nat):Int)∧f 75=.int .i64 (j:Nat)∧j≤v.a8.length∧h1=vP∧((v.a8.take j).any fun f=>gN l f==10)=false) (fun j=>v.a8.length - j) 0 ⟨f0,f7,rfl,rfl,rfl,Nat.zero_le _,rfl,rfl⟩ ?_
    rintro mo Nz h1 ⟨g0,g7,rN,k1,mM,NA,rfl,bM⟩
    refine am (by kernel_rfl) ?_
    by_cases ir:mo<v.a8.length
    ·have mm:decide ((mo:Int)<((v.a8.length:Nat):Int))=true:=by simp only [decide_eq_true_eq];omega
     have ck:=tk (P:=Tryz.prog) (kk:=.i64) ir mF
     have bX:IntKind.i64.wrap (((mo:Nat):Int)+1)=((mo+1:Nat):Int):=by rw [Go.IntWalk.i64_in _ (by omega)];omega
     have ia:=LB (fun f=>gN l f==10) ir
     have ch:v.a8[mo] ∈ v.a8:=List.getElem_mem ir
     generalize v.a8[mo]=A at ck ia ch
     obtain ⟨hZ,oo⟩:=n5 A ch
     obtain ⟨q,rfl⟩:∃ q:Nat,A=(q:Int):=⟨A.toNat,by omega⟩
     obtain ⟨dW,ij,la⟩:=jp (l:=l) (q:=q) (by omega)
     cases hP:(gN l (q:Int)==10)
     ·simp only [af,Nat.reduceEqDiff,reduceCtorEq,hl,bn,g0,rN,k1,mM,mm,ck,dW,ij,hP,bX]
      exact aF ⟨mo+1,⟨g0,g7,rN,k1,rfl,by omega,rfl,by rw [ia,bM,hP];rfl⟩,by omega⟩
     ·have bs:dg l i v=5:=by
       unfold dg
       rw [if_neg hJ,if_neg ku,if_neg o9,if_neg (by rw [na];simp),if_pos (List.any_eq_true.2 ⟨_,ch,hP⟩)]
      simp only [af,Nat.reduceEqDiff,reduceCtorEq,hl,bn,g0,rN,k1,mM,mm,ck,dW,ij,hP,aU,Tryz.results178,ac]
      exact aF ⟨by rw [bs],uW,fun ab=>by rw [bs] at ab;cases ab⟩
    have mm:decide ((mo:Int)<((v.a8.length:Nat):Int))=false:=by simp only [decide_eq_false_iff_not];omega
    rw [List.take_of_length_le (by omega)] at bM
    have j1:¬((v.a8.any fun f=>gN l f==10)=true):=by rw [bM];simp
    by_cases gd:v.kind=9
    ·have hP:(v.kind==9)=true:=by simp [gd]
     have hlen:v.a8.length=2:=Dc gd ew
     have ck:=RH (l:=v.a8) (by omega)
     have ph:v.a8.getD 1 0=v.a8[1]:=by rw [List.getD,List.getElem?_eq_getElem (by omega)];rfl
     have ch:v.a8[1] ∈ v.a8:=List.getElem_mem _
     have bs:dg l i v=if v.kind=9∧gN l v.a8[1]≠6 then 5 else 0:=by
      unfold dg
      rw [if_neg hJ,if_neg ku,if_neg o9,if_neg (by rw [na];simp),if_neg j1,ph]
     generalize v.a8[1]=A at ck ch bs
     obtain ⟨hZ,oo⟩:=n5 A ch
     obtain ⟨q,rfl⟩:∃ q:Nat,A=(q:Int):=⟨A.toNat,by omega⟩
     obtain ⟨dW,ij,la⟩:=jp (l:=l) (q:=q) (by omega)
     by_cases da:gN l (q:Int)=6
     ·have gF:(gN l (q:Int) !=6)=false:=by simp [da]
      rw [if_neg (by simp [da])] at bs
      simp only [af,Int.reduceLE,Nat.reduceEqDiff,reduceCtorEq,EY,hl,qE,mW,bn,mF,g0,g7,k1,mM,mm,hP,uV,dk,fF,jN,ck,dW,ij,gF,aU,Tryz.results178,ac]
      exact aF ⟨by rw [bs],uW,fun _=>mn⟩
     ·have gF:(gN l (q:Int) !=6)=true:=by simp [da]
      rw [if_pos ⟨gd,da⟩] at bs
      simp only [af,Int.reduceLE,Nat.reduceEqDiff,reduceCtorEq,EY,hl,qE,mW,bn,mF,g0,g7,k1,mM,mm,hP,uV,dk,fF,jN,ck,dW,ij,gF,aU,Tryz.results178,ac]
      exact aF ⟨by rw [bs],uW,fun ab=>by rw [bs] at ab;cases ab⟩
    ·have hP:(v.kind==9)=false:=by simp [gd]
     have bs:dg l i v=0:=by
      unfold dg
      rw [if_neg hJ,if_neg ku,if_neg o9,if_neg (by rw [na];simp),if_neg j1,if_neg (by simp [gd])]
     simp only [af,Nat.reduceEqDiff,hl,bn,g7,k1,mM,mm,hP,uV,dk,fF,aU,Tryz.results178,ac]
     exact aF ⟨by rw [bs],uW,fun _=>mn⟩
   ·simp only [af,Nat.reduceEqDiff,Nat.reduceAdd,Nat.reduceLeDiff,hl,qE,xW,qF,bx,mW,bn,KZ,K3,K7,K9,f1,f2,f7,o2,dk,fF,jN,tT,c5,jw,aG,←xv,mL,gy,tQ,←tV,uV]
    refine aX.b9 (α:=Nat) (fun j f h1=>f 0=.ai l.length (l.flatMap ar)∧f 7=.ptr h.n 0∧f 73=.ai v.a8.length (aY v.a8)∧f 74=.int .i64 ((v.a8.length:Nat):Int)∧f 75=.int .i64 (j:Nat)∧j≤v.a8.length∧h1=vP∧((v.a8.take j).any fun f=>gN l f==10)=false) (fun j=>v.a8.length - j) 0 ⟨f0,f7,rfl,rfl,rfl,Nat.zero_le _,rfl,rfl⟩ ?_
    rintro mo Nz h1 ⟨g0,g7,rN,k1,mM,NA,rfl,bM⟩
    refine am (by kernel_rfl) ?_
    by_cases ir:mo<v.a8.length
    ·have mm:decide ((mo:Int)<((v.a8.length:Nat):Int))=true:=by simp only [decide_eq_true_eq];omega
     have ck:=tk (P:=Tryz.prog) (kk:=.i64) ir mF
     have bX:IntKind.i64.wrap (((mo:Nat):Int)+1)=((mo+1:Nat):Int):=by rw [Go.IntWalk.i64_in _ (by omega)];omega
     have ia:=LB (fun f=>gN l f==10) ir
     have ch:v.a8[mo] ∈ v.a8:=List.getElem_mem ir
     generalize v.a8[mo]=A at ck ia ch
     obtain ⟨hZ,oo⟩:=n5 A ch
     obtain ⟨q,rfl⟩:∃ q:Nat,A=(q:Int):=⟨A.toNat,by omega⟩
     obtain ⟨dW,ij,la⟩:=jp (l:=l) (q:=q) (by omega)
     cases hP:(gN l (q:Int)==10)
     ·simp only [af,Nat.reduceEqDiff,reduceCtorEq,hl,bn,g0,rN,k1,mM,mm,ck,dW,ij,hP,bX]
      exact aF ⟨mo+1,⟨g0,g7,rN,k1,rfl,by omega,rfl,by rw [ia,bM,hP];rfl⟩,by omega⟩
     ·have bs:dg l i v=5:=by
       unfold dg
       rw [if_neg hJ,if_neg ku,if_neg o9,if_neg (by rw [na];simp),if_pos (List.any_eq_true.2 ⟨_,ch,hP⟩)]
      simp only [af,Nat.reduceEqDiff,reduceCtorEq,hl,bn,g0,rN,k1,mM,mm,ck,dW,ij,hP,aU,Tryz.results178,ac]
      exact aF ⟨by rw [bs],uW,fun ab=>by rw [bs] at ab;cases ab⟩
    have mm:decide ((mo:Int)<((v.a8.length:Nat):Int))=false:=by simp only [decide_eq_false_iff_not];omega
    rw [List.take_of_length_le (by omega)] at bM
    have j1:¬((v.a8.any fun f=>gN l f==10)=true):=by rw [bM];simp
    by_cases gd:v.kind=9
    ·have hP:(v.kind==9)=true:=by simp [gd]
     have hlen:v.a8.length=2:=Dc gd ew
     have ck:=RH (l:=v.a8) (by omega)
     have ph:v.a8.getD 1 0=v.a8[1]:=by rw [List.getD,List.getElem?_eq_getElem (by omega)];rfl
     have ch:v.a8[1] ∈ v.a8:=List.getElem_mem _
     have bs:dg l i v=if v.kind=9∧gN l v.a8[1]≠6 then 5 else 0:=by
      unfold dg
      rw [if_neg hJ,if_neg ku,if_neg o9,if_neg (by rw [na];simp),if_neg j1,ph]
     generalize v.a8[1]=A at ck ch bs
     obtain ⟨hZ,oo⟩:=n5 A ch
     obtain ⟨q,rfl⟩:∃ q:Nat,A=(q:Int):=⟨A.toNat,by omega⟩
     obtain ⟨dW,ij,la⟩:=jp (l:=l) (q:=q) (by omega)
     by_cases da:gN l (q:Int)=6
     ·have gF:(gN l (q:Int) !=6)=false:=by simp [da]
      rw [if_neg (by simp [da])] at bs
      simp only [af,Int.reduceLE,Nat.reduceEqDiff,reduceCtorEq,EY,hl,qE,mW,bn,mF,g0,g7,k1,mM,mm,hP,uV,dk,fF,jN,ck,dW,ij,gF,aU,Tryz.results178,ac]
      exact aF ⟨by rw [bs],uW,fun _=>mn⟩
     ·have gF:(gN l (q:Int) !=6)=true:=by simp [da]
      rw [if_pos ⟨gd,da⟩] at bs
      simp only [af,Int.reduceLE,Nat.reduceEqDiff,reduceCtorEq,EY,hl,qE,mW,bn,mF,g0,g7,k1,mM,mm,hP,uV,dk,fF,jN,ck,dW,ij,gF,aU,Tryz.results178,ac]
      exact aF ⟨by rw [bs],uW,fun ab=>by rw [bs] at ab;cases ab⟩
    ·have hP:(v.kind==9)=false:=by simp [gd]
     have bs:dg l i v=0:=by
      unfold dg
      rw [if_neg hJ,if_neg ku,if_neg o9,if_neg (by rw [na];simp),if_neg j1,if_neg (by simp [gd])]
     simp only [af,Nat.reduceEqDiff,hl,bn,g7,k1,mM,mm,hP,uV,dk,fF,aU,Tryz.results178,ac]
     exact aF ⟨by rw [bs],uW,fun _=>mn⟩
  ·rw [na] at gy
   have bs:dg l i v=12:=by unfold dg;rw [if_neg hJ,if_neg ku,if_neg o9,if_pos na]
   rcases Ny with ⟨c5,jw⟩ | ⟨c5,jw⟩
   ·simp only [af,Nat.reduceEqDiff,Nat.reduceAdd,Nat.reduceLeDiff,hl,xW,bx,bn,KZ,K3,K7,K9,f2,f7,o2,dk,fF,tT,c5,aG,←xv,mL,gy,aU,Tryz.results178,ac]
    exact aF ⟨by rw [bs],(bA.trans' b8).up,fun ab=>by rw [bs] at ab;cases ab⟩
   ·simp only [af,Nat.reduceEqDiff,Nat.reduceAdd,Nat.reduceLeDiff,hl,xW,bx,bn,KZ,K3,K7,K9,f2,f7,o2,dk,fF,tT,c5,jw,aG,←xv,mL,gy,aU,Tryz.results178,ac]
    exact aF ⟨by rw [bs],(bA.trans' b8).up,fun ab=>by rw [bs] at ab;cases ab⟩
 ·have c5:(v.kind==1)=false:=by simp;omega
  have jw:(v.kind==10)=false:=by simp;omega
  have na:Da l i v=false:=by unfold Da;rw [c5,jw];rfl
  obtain ⟨vP,tV⟩:∃ x,x=h':=⟨_,rfl⟩
  have mn:∃ fs xu,vP.get m=.map (uT fs) xu∧tU (l.take (i+1)) fs:=⟨_,_,by rw [tV];exact Nw,by rw [AM];exact cN.skip U⟩
  have uW:J h vP (·=m):=by rw [tV];exact bA.up
  have uV:vP.get h.n=.cells (ar v) 29 none:=by rw [tV];exact o2
  simp only [af,Nat.reduceEqDiff,hl,qE,qF,mW,bn,f7,←tV,uV,dk,fF,jN,c5,jw]
  refine aX.b9 (α:=Nat) (fun j f h1=>f 0=.ai l.length (l.flatMap ar)∧f 7=.ptr h.n 0∧f 73=.ai v.a8.length (aY v.a8)∧f 74=.int .i64 ((v.a8.length:Nat):Int)∧f 75=.int .i64 (j:Nat)∧j≤v.a8.length∧h1=vP∧((v.a8.take j).any fun f=>gN l f==10)=false) (fun j=>v.a8.length - j) 0 ⟨f0,f7,rfl,rfl,rfl,Nat.zero_le _,rfl,rfl⟩ ?_
  rintro mo Nz h1 ⟨g0,g7,rN,k1,mM,NA,rfl,bM⟩
  refine am (by kernel_rfl) ?_
  by_cases ir:mo<v.a8.length
  ·have mm:decide ((mo:Int)<((v.a8.length:Nat):Int))=true:=by simp only [decide_eq_true_eq];omega
   have ck:=tk (P:=Tryz.prog) (kk:=.i64) ir mF
   have bX:IntKind.i64.wrap (((mo:Nat):Int)+1)=((mo+1:Nat):Int):=by rw [Go.IntWalk.i64_in _ (by omega)];omega
   have ia:=LB (fun f=>gN l f==10) ir
   have ch:v.a8[mo] ∈ v.a8:=List.getElem_mem ir
   generalize v.a8[mo]=A at ck ia ch
   obtain ⟨hZ,oo⟩:=n5 A ch
   obtain ⟨q,rfl⟩:∃ q:Nat,A=(q:Int):=⟨A.toNat,by omega⟩
   obtain ⟨dW,ij,la⟩:=jp (l:=l) (q:=q) (by omega)
   cases hP:(gN l (q:Int)==10)
   ·simp only [af,Nat.reduceEqDiff,reduceCtorEq,hl,bn,g0,rN,k1,mM,mm,ck,dW,ij,hP,bX]
    exact aF ⟨mo+1,⟨g0,g7,rN,k1,rfl,by omega,rfl,by rw [ia,bM,hP];rfl⟩,by omega⟩
   ·have bs:dg l i v=5:=by
     unfold dg
     rw [if_neg hJ,if_neg ku,if_neg o9,if_neg (by rw [na];simp),if_pos (List.any_eq_true.2 ⟨_,ch,hP⟩)]
    simp only [af,Nat.reduceEqDiff,reduceCtorEq,hl,bn,g0,rN,k1,mM,mm,ck,dW,ij,hP,aU,Tryz.results178,ac]
    exact aF ⟨by rw [bs],uW,fun ab=>by rw [bs] at ab;cases ab⟩
  have mm:decide ((mo:Int)<((v.a8.length:Nat):Int))=false:=by simp only [decide_eq_false_iff_not];omega
  rw [List.take_of_length_le (by omega)] at bM
  have j1:¬((v.a8.any fun f=>gN l f==10)=true):=by rw [bM];simp
  by_cases gd:v.kind=9
  ·have hP:(v.kind==9)=true:=by simp [gd]
   have hlen:v.a8.length=2:=Dc gd ew
   have ck:=RH (l:=v.a8) (by omega)
   have ph:v.a8.getD 1 0=v.a8[1]:=by rw [List.getD,List.getElem?_eq_getElem (by omega)];rfl
   have ch:v.a8[1] ∈ v.a8:=List.getElem_mem _
   have bs:dg l i v=if v.kind=9∧gN l v.a8[1]≠6 then 5 else 0:=by
    unfold dg
    rw [if_neg hJ,if_neg ku,if_neg o9,if_neg (by rw [na];simp),if_neg j1,ph]
   generalize v.a8[1]=A at ck ch bs
   obtain ⟨hZ,oo⟩:=n5 A ch
   obtain ⟨q,rfl⟩:∃ q:Nat,A=(q:Int):=⟨A.toNat,by omega⟩
   obtain ⟨dW,ij,la⟩:=jp (l:=l) (q:=q) (by omega)
   by_cases da:gN l (q:Int)=6
   ·have gF:(gN l (q:Int) !=6)=false:=by simp [da]
    rw [if_neg (by simp [da])] at bs
    simp only [af,Int.reduceLE,Nat.reduceEqDiff,reduceCtorEq,EY,hl,qE,mW,bn,mF,g0,g7,k1,mM,mm,hP,uV,dk,fF,jN,ck,dW,ij,gF,aU,Tryz.results178,ac]
    exact aF ⟨by rw [bs],uW,fun _=>mn⟩
   ·have gF:(gN l (q:Int) !=6)=true:=by simp [da]
    rw [if_pos ⟨gd,da⟩] at bs
    simp only [af,Int.reduceLE,Nat.reduceEqDiff,reduceCtorEq,EY,hl,qE,mW,bn,mF,g0,g7,k1,mM,mm,hP,uV,dk,fF,jN,ck,dW,ij,gF,aU,Tryz.results178,ac]
    exact aF ⟨by rw [bs],uW,fun ab=>by rw [bs] at ab;cases ab⟩
  ·have hP:(v.kind==9)=false:=by simp [gd]
   have bs:dg l i v=0:=by
    unfold dg
    rw [if_neg hJ,if_neg ku,if_neg o9,if_neg (by rw [na];simp),if_neg j1,if_neg (by simp [gd])]
   simp only [af,Nat.reduceEqDiff,hl,bn,g7,k1,mM,mm,hP,uV,dk,fF,aU,Tryz.results178,ac]
   exact aF ⟨by rw [bs],uW,fun _=>mn⟩
end Go.Proofs.YtedkjhifbibpmaaGreatDoor.Pk
