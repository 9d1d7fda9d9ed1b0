/-
  Rules of the machine on abstract states. Conditions: as each theorem says.
-/
import Derived.Test.YtceanabgcnieeaaGreatDoorEvS0
import Derived.Test.YtceanabgcnieeaaGreatDoorEvS1
import Derived.Test.YtceanabgcnieeaaGreatDoorEvS4
set_option linter.unusedVariables false
set_option linter.unusedSimpArgs false
set_option maxRecDepth 1000000
namespace Go.Proofs.YtceanabgcnieeaaGreatDoor.Pk
open Go Go.Proofs Go.Proofs.YtceanabgcnieeaaGreatDoor.Ab
noncomputable def Ay:List bW:=[As,Au,Av,Aw,wG,wH]
theorem amQ:∀ e ∈ Ay,e.Ok Tryz.prog bR:=by
 unfold Ay
 simp only [List.forall_mem_cons,List.not_mem_nil,false_imp_iff,implies_true,and_true]
 exact ⟨YB,YC,YD,YE,PT,PU⟩
noncomputable def Lu:Ext Tryz.prog bR:=Al Ay amQ
def okB (o:Option (List (V×bg))):Bool:=match o with
 | some [(.bool true,_)]=>true
 | _=>false
theorem amR {o:Option (List (V×bg))} (h:okB o=true):∃ s,o=some [(.bool true,s)]:=by
 unfold okB at h
 split at h
 ·exact ⟨_,rfl⟩
 ·cases h
noncomputable def YL:bg:={ n:=0,t:=.e,b:=0,w:=[] }
theorem amS:okB (zu Tryz.prog bR Lu (vT Tryz.prog bR Lu 100000) 7 [] YL)=true:=by decide +kernel
theorem amT:ah Tryz.prog 7 [] (ta (cJ bR)) fun x _=>x=.bool true:=by
 obtain ⟨s,J⟩:=amR amS
 exact (ul J).2.mono fun x h ⟨h1,_⟩=>h1
end Go.Proofs.YtceanabgcnieeaaGreatDoor.Pk
