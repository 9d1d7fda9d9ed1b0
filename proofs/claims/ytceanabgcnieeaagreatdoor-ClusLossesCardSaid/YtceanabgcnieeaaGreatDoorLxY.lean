/-
  What functions of the program do, told of abstract states. Conditions: as each theorem says.
-/
import Derived.Test.YtceanabgcnieeaaGreatDoorRA
import Derived.Test.YtceanabgcnieeaaGreatDoorEvU
import Derived.Test.YtceanabgcnieeaaGreatDoorAbC
import Derived.Test.YtceanabgcnieeaaGreatDoorAbB
import Derived.Lib.LaidTab
import Derived.Lib.LaidU8
import Derived.Stop.LaidErr
set_option linter.unusedVariables false
set_option linter.unusedSimpArgs false
namespace Go.Proofs.YtceanabgcnieeaaGreatDoor.Pk
open Go Go.Proofs Go.Proofs.YtceanabgcnieeaaGreatDoor.Ab
def oV:List Int:=[0,0,0,0,0,0,2,2,2,2,2,2,2,3,1,2,2]
def oW:List Int:=[0,24,63,199,7,3,0]
def lJ:List (List Int):=[[0,0,0,0],[0,0,0,7],[1,1,0,0],[1,1,0,0],[1,1,0,0],[1,1,0,0],[1,2,0,0],[1,2,1,1048576],[1,2,1,1048576],[2,2,0,0],[1,0,0,7]]
def oP:List Int:=lJ.flatten
def Hf {H:Type} (r:List Int):DataW H:=.agg (r.map fun z=>.lit (.int .i64 z))
def YM {H:Type}:DataW H:=.agg (lJ.map Hf)
theorem YN {α:Type}:∀ (n:Nat) (cs:List α) (f:Nat→List α),cs.length=n * 4→(∀ i,i<n→(cs.drop (i * 4)).take 4=f i)→cs=((List.range n).map f).flatten
 | 0,cs,f,aw,h=>by
  have:cs=[]:=List.eq_nil_of_length_eq_zero (by simpa using aw)
  subst this
  rfl
 | n+1,cs,f,aw,h=>by
  have ay:=h 0 (by omega)
  simp only [Nat.zero_mul,List.drop_zero] at ay
  have ih:=YN n (cs.drop 4) (fun i=>f (i+1)) (by rw [List.length_drop];omega) fun i hi=>by
   have:=h (i+1) (by omega)
   rw [List.drop_drop,show 4+i * 4=(i+1) * 4 by omega]
   exact this
  rw [List.range_succ_eq_map,List.map_cons,List.flatten_cons,List.map_map]
  show cs=f 0++((List.range n).map fun i=>f (i+1)).flatten
  rw [←ih,←ay,List.take_append_drop]
def PV (P:Program) (t:TypeId):Bool:=match P.underlying t with
 | some (.struct di)=>di.size==4&&(List.range 4).all fun i=>match di[i]? with
  | some f=>(match P.underlying f.type with | some (.int .i64)=>true | _=>false)&&(f.offset==i&&P.cellsOf f.type==1)
  | none=>false
 | _=>false
theorem amU {P:Program} {t:TypeId} (h:PV P t=true):∃ di,P.underlying t=some (.struct di)∧di.size=4∧∀ (i:Nat) (f:Field),di[i]?=some f→P.underlying f.type=some (.int .i64)∧f.offset=i∧P.cellsOf f.type=1:=by
 unfold PV at h
 split at h
 ·rename_i di hu
  simp only [Bool.and_eq_true,beq_iff_eq,List.all_eq_true,List.mem_range] at h
  refine ⟨di,hu,h.1,fun i f aB=>?_⟩
  have hi:i<4:=by
   have:=(Array.getElem?_eq_some_iff.1 aB).1
   omega
  have:=h.2 i hi
  rw [aB] at this
  simp only [Bool.and_eq_true,beq_iff_eq] at this
  obtain ⟨a,b,c⟩:=this
  refine ⟨?_,b,c⟩
  split at a
  ·assumption
  ·cases a
 ·cases h
theorem amV {P:Program} {w:World} {base:Nat} {sp:Nat→Bool} {held:Bool} {fuel:Nat} {t e:TypeId} {cs:List Value} {p:List MemPlace}
  (bM:P.underlying t=some (.array 11 e)) (aU:PV P e=true) (lZ:P.cellsOf e=4) (YO:P.cellsOf t=44)
  (h:DataW.trod (fun _=>()) P w base sp held fuel t cs=some ((YM:DataW Unit),p)):cs=oP.map fun z=>Value.int .i64 z:=by
 obtain ⟨di,hu,J,aB⟩:=amU aU
 have aw:cs.length=44:=by
  cases fuel with
  | zero=>simp [DataW.trod] at h
  | succ fuel=>
   simp only [DataW.trod,bM] at h
   split at h
   ·rename_i aw
    rw [YO] at aw
    exact aw
   ·cases h
 have gU:∀ i,i<11→(cs.drop (i * 4)).take 4=(lJ.getD i []).map fun z=>Value.int .i64 z:=by
  intro i hi
  obtain ⟨Y0,d,q,a7,Lv⟩:=Lib.array_elem bM h i hi
  rw [lZ] at Lv
  have YP:d=Hf (lJ.getD i []):=by
   rw [List.getElem?_map] at a7
   have:lJ[i]?=some (lJ.getD i []):=by
    rw [List.getD,List.getElem?_eq_getElem (show i<lJ.length from hi)]
    all_goals rfl
   rw [this] at a7
   simpa using a7.symm
  subst YP
  exact Lib.ints_of_struct hu aB (by rw [lZ,J]) Lv
 have:=YN 11 cs _ (by omega) gU
 rw [this]
 all_goals rfl
theorem amW {W : World} (h : laidMet Tryz.prog [("tidemill/expr.kids", Lib.tabData .i64 oV), ("tidemill/rec.uses", Lib.tabData .i64 oW), ("tidemill/topo.needs", YM)] W) : zj (cJ bR) W := by
 have t1 : Lib.TabIs Tryz.prog W "tidemill/expr.kids" .i64 oV := Lib.tabIs_of_head (k := .i64) (zs := oV) (g := 2) (t := 323) (e := 3) (n := 17) (by kernel_rfl) (by kernel_rfl) (by kernel_rfl) (by kernel_rfl) (by kernel_rfl) (by kernel_rfl) h
 have t3 : Lib.TabIs Tryz.prog W "tidemill/rec.uses" .i64 oW := Lib.tabIs_of_head (k := .i64) (zs := oW) (g := 1) (t := 254) (e := 3) (n := 7) (by kernel_rfl) (by kernel_rfl) (by kernel_rfl) (by kernel_rfl) (by kernel_rfl) (by kernel_rfl) (laidMet.tail h)
 have t2 : Lib.TabIs Tryz.prog W "tidemill/topo.needs" .i64 oP := by
  obtain ⟨ps,⟨sQ,k1,cs,fuel,p,q,FR,w1,PW,a7,_,_⟩,_⟩:=laidMet.tail (laidMet.tail h)
  have aE : Tryz.prog.globalNamed "tidemill/topo.needs" = some 0 := by kernel_rfl
  have YQ:(Tryz.prog.globals[0]?).map (·.type)=some 207:=by kernel_rfl
  obtain rfl:=Option.some.inj (aE.symm.trans FR)
  obtain rfl:=Option.some.inj (YQ.symm.trans w1)
  unfold Lib.TabIs
  rw [PW,←amV (e:=206) (by kernel_rfl) (by kernel_rfl) (by kernel_rfl) (by kernel_rfl) a7]
 intro k cs hk
 by_cases bf:k=2
 ·subst bf
  obtain rfl:oV.map (V.int .i64)=cs:=Option.some.inj (show some (oV.map (V.int .i64))=some cs from hk)
  exact Mr (by kernel_rfl) t1
 by_cases bx:k=0
 ·subst bx
  obtain rfl:oP.map (V.int .i64)=cs:=Option.some.inj (show some (oP.map (V.int .i64))=some cs from hk)
  exact Mr (by kernel_rfl) t2
 by_cases c3:k=1
 ·subst c3
  obtain rfl:oW.map (V.int .i64)=cs:=Option.some.inj (show some (oW.map (V.int .i64))=some cs from hk)
  exact Mr (by kernel_rfl) t3
 ·exfalso
  have:cJ bR k=none:=by
   unfold cJ bR
   simp only [List.find?_cons,List.find?_nil,beq_eq_false_iff_ne.2 (Ne.symm bf),beq_eq_false_iff_ne.2 (Ne.symm bx),beq_eq_false_iff_ne.2 (Ne.symm c3),Option.map_none]
  rw [this] at hk
  cases hk
abbrev amX:lx:=.cat (.int .i64) (.cat (.int .i64) (.cat (.int .i64) .unit))
theorem amY {l:List V} (h:lx.hv amX l):∃ r:eP,ia r∧l=dh r:=by
 obtain ⟨_,_,rfl,⟨a,rfl,On⟩,_,_,rfl,⟨b,rfl,amZ⟩,_,_,rfl,⟨c,rfl,O2⟩,rfl⟩:=h
 exact ⟨⟨a,b,c⟩,⟨Ab.wf_i64 On,Ab.wf_i64 amZ,Ab.wf_i64 O2⟩,rfl⟩
theorem YR {α:Type} {s:lx} {enc:α→List V} {Q:α→Prop} (J:∀ e,s.hv e→∃ c,e=enc c∧Q c):∀ {es:List (List V)},(∀ x ∈ es,s.hv x)→∃ l:List α,es.length=l.length∧es.flatten=l.flatMap enc∧∀ c ∈ l,Q c
 | [],_=>⟨[],rfl,rfl,by simp⟩
 | e::es,h=>by
  obtain ⟨l,h1,ab,aI⟩:=YR J (es:=es) fun x af=>h x (by simp [af])
  obtain ⟨c,rfl,ae⟩:=J e (h _ (by simp))
  exact ⟨c::l,by simp [h1],by simp [ab],fun x af=>by
   rcases List.mem_cons.1 af with rfl | af
   ·exact ae
   ·exact aI x af⟩
theorem wd (fN:List eP) (wz:∀ r ∈ fN,ia r) (aw:fN.length≤2 ^ 47) (wn:Nat) (hw:wn<256) :
  ah Tryz.prog 3 [.an fN.length (fN.flatMap dh),.int .u8 (wn:Int)] (ta (cJ bR)) (fun r U=>r=.bool true):=amC amT fN wz aw wn hw _ rfl
end Go.Proofs.YtceanabgcnieeaaGreatDoor.Pk
