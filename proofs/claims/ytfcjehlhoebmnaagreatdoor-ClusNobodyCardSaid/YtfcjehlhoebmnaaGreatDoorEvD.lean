/-
  An evaluator upon abstract states that the kernel can run, and why what it answers holds. Conditions: as each theorem says.
-/
import Derived.Test.YtfcjehlhoebmnaaGreatDoorEvC
import Derived.Test.YtfcjehlhoebmnaaGreatDoorEvM
namespace Go.Proofs.YtfcjehlhoebmnaaGreatDoor.Ab
noncomputable section
open Go Go.RowKit
set_option linter.unusedVariables false

def opSel (op : Op) : Program → Oper → (Operand → V) → AHeap → Option Step := match op with
  | .move x => fun _ _ ev h => some (.val (ev x) h)
  | .assign x => fun _ _ ev h => some (.val (ev x) h)
  | .pick c a b => fun _ _ ev h => match ev c with
    | .bool t => some (.val (if t then ev a else ev b) h)
    | _ => none
  | .alloc e => fun P _ _ h => andH (aAlloc P e h)
  | .box e x => fun _ _ ev h => andH (aBox e (ev x) h)
  | .load t a => fun P _ ev h => justV (aLoad P t (ev a) h) h
  | .store t a x => fun P _ ev h => justH (aStore P t (ev a) (ev x) h)
  | .binOp op t x y _ => fun P _ ev h => justV (aBin P op t x y (ev x) (ev y)) h
  | .unOp op _ x => fun P _ ev h => justV (aUn P op (ev x)) h
  | .slice t x lo hi mx => fun P _ ev h => justV (aSlice P t (ev x) (lo.map ev) (hi.map ev) (mx.map ev)) h
  | .fieldAddr s x k => fun P _ ev h => justV (aField P s (ev x) k) h
  | .field t x k => fun P _ ev h => justV (aFieldOf P t (ev x) k) h
  | .indexAddr t x ix => fun P _ ev h => justV (aIndexAddr P t (ev x) (ev ix)) h
  | .index t x ix => fun P _ ev h => justV (aIndex P t (ev x) (ev ix)) h
  | .extract t k => fun _ _ ev h => match ev t with
    | .tuple vs => justV vs[k]? h
    | _ => none
  | .call c => fun P o ev h => aCall P c o.type ev h
  | _ => fun P o ev h => opEval P o ev h
theorem opSel_eq (P : Program) (o : Oper) (ev : Operand → V) (h : AHeap) : opSel o.op P o ev h = opEval P o ev h := by
  obtain ⟨dst, op, type, pos, after, guard⟩ := o
  cases op <;> rfl
def kindO (op : Op) {α : Type} : (Call → α) → (Operand → α) → α → α := match op with
  | .call c => (match c.callee with
    | .builtin _ => fun _ _ d => d
    | _ => fun a _ _ => a c)
  | .next it false => fun _ b _ => b it
  | _ => fun _ _ d => d
section
variable (P : Program) (G : List (Nat × List V)) (X : Ext P G)
def firstW (args : List V) : List Nat := match args with | x :: _ => wrV x | [] => []
def retR (fn : Func) (s : SH) : List Res → Option (List (V × SH))
  | [] => some []
  | (e, f, s1) :: l => match e with
    | .normal | .ret => match resultsA P fn.results.toList f.a (s1.a G), retR fn s l with
      | some r, some o => some ((r, s1) :: o)
      | _, _ => none
    | _ => none
noncomputable def callF0 (rc : Nat → Code → Fr → SH → Option (List Res)) (fid : FuncId) (args : List V) (s : SH) : Option (List (V × SH)) :=
  match P.funcs[fid]? with
    | none => none
    | some fn => match fn.body with
      | none => none
      | some c => cond (Nat.ble args.length fn.ntmps) (match rc fn.ntmps c (enterAt 0 args .e) s.enter with
        | some outs => match retR P G fn s outs with
          | some l => joinR s l
          | none => none
        | none => none) none
/-- The objects of a loop over a function, laid behind a state. -/
def SH.loopS (s : SH) (p : Tmp) (a b : Code) (vs : List V) : SH := { n := s.n + 1 + 1, t := (s.t.set (.pin .dfd []) s.n).set (.pin (.loop s.n p a b false) vs) (s.n + 1), b := s.n + 1 + 1, w := [] }
noncomputable def callR (rc : Nat → Code → Fr → SH → Option (List Res)) (fid : FuncId) (args : List V) (s : SH) : Option (List (V × SH)) :=
  match P.funcs[fid]? with
  | some fn => match fn.body with
    | some (.seq A (.seq A2 (.block bid (.rangeFunc (.tmp g) ps a b)))) => match ps.toList with
      | [p] => cond (Nat.ble args.length fn.ntmps) (match rc fn.ntmps A (enterAt 0 args .e) s.enter with
        | some [(.normal, f1, s1)] => match rc fn.ntmps A2 f1 s1 with
          | some [(.normal, f2, s2)] => match f2.a g with
            | .func (.func gf) [] caps => cond (callable P gf) (match callF0 P G rc gf (.func (.yield (s2.n + 1)) [] [] :: caps) (s2.loopS p a b ((List.range fn.ntmps).map f2.a)) with
              | some [(_, s4)] => cond (!s4.w.elem s2.n && !s4.w.elem (s2.n + 1)) (match resultsA P fn.results.toList f2.a (({ s4 with t := (s4.t.set .dead (s2.n + 1)).set .dead s2.n } : SH).a G) with
                | some r => some [(r, { n := s4.n, t := (s4.t.set .dead (s2.n + 1)).set .dead s2.n, b := s.b, w := (s2.w ++ s4.w).foldl (note s.b) s.w })]
                | none => none) none
              | _ => none) none
            | _ => none
          | _ => none
        | _ => none) none
      | _ => none
    | _ => none
  | none => none
def endsOk : AExit → Bool
  | .normal => true
  | .ret => true
  | _ => false
noncomputable def callD (rc : Nat → Code → Fr → SH → Option (List Res)) (fid : FuncId) (args : List V) (s : SH) : Option (List (V × SH)) :=
  match P.funcs[fid]? with
  | some fn => match fn.body with
    | some (.seq A (.seq A2 (.seq (.region rid ops false) C))) => match ops.toList with
      | [⟨some t, .makeFunc (.func g) xs ys, _, _, _, none⟩, ⟨none, .defer ⟨.value (.tmp t'), zs, _⟩, _, _, _, none⟩] => match xs.toList, ys.toList, zs.toList with
        | [], [.tmp x, .tmp y], [] => cond (Nat.beq t' t && Nat.blt t fn.ntmps && callable P g && X.isDfr g && Nat.ble args.length fn.ntmps) (match rc fn.ntmps A (enterAt 0 args .e) s.enter with
          | some [(.normal, f1, s1)] => match rc fn.ntmps A2 f1 s1 with
            | some [(.normal, f2, s2)] => match rc fn.ntmps C (f2.put (some t) .top) s2 with
              | some [(e, f3, s3)] => cond (endsOk e) (match resultsA P fn.results.toList f3.a (s3.a G) with
                | some r => some [(r, s.leave s3)]
                | none => none) none
              | _ => none
            | _ => none
          | _ => none) none
        | _, _, _ => none
      | _ => none
    | _ => none
  | none => none
def isDf (P : Program) (fid : FuncId) : Bool :=
  match P.funcs[fid]? with
  | none => false
  | some fn => match fn.body with
    | some (.seq _ (.seq _ (.seq (.region _ ops false) _))) => (match ops.toList with
      | [_, ⟨_, .defer _, _, _, _, _⟩] => true
      | _ => false)
    | _ => false
noncomputable def callF (rc : Nat → Code → Fr → SH → Option (List Res)) (fid : FuncId) (args : List V) (s : SH) : Option (List (V × SH)) :=
  match cond (X.isOrc fid) (X.orc fid args s) none with
  | some p => some [p]
  | none => cond (X.isRng fid) (callR P G rc fid args s) (cond (isDf P fid) (callD P G X rc fid args s) (callF0 P G rc fid args s))
noncomputable def extF (fid : FuncId) (args : List V) (s : SH) : Option (List (V × SH)) :=
  match X.ext fid with
  | 1 => (aOv (s.a G) args).map fun v => [(v, s)]
  | 2 => (aLd (s.a G) args).map fun v => [(v, s)]
  | 3 => cond (inN (firstW args) s.n) ((aAd (s.a G) args).map fun p => [(p.1, sync s p.2 (firstW args))]) none
  | _ => none
noncomputable def plainO (o : Oper) (f : Fr) (s : SH) : Option (List (V × SH)) :=
  cond (idleOp o.op) (match opSel o.op P o (f.a.eval (s.a G)) (s.a G) with
    | some (.val v _) => some [(v, s)]
    | _ => none) (match opSel o.op P o (f.a.eval (s.a G)) (s.a G) with
  | some (.val v h') => cond (inN (wrOp (f.a.eval (s.a G)) o.op) s.n) (some [(v, sync s h' (wrOp (f.a.eval (s.a G)) o.op))]) none
  | _ => none)
noncomputable def callO (rc : Nat → Code → Fr → SH → Option (List Res)) (y : Nat → List V → SH → Option (List (V × SH))) (c : Call) (f : Fr) (s : SH) : Option (List (V × SH)) :=
  match c.callee with
  | .builtin _ => none
  | .value g => match f.a.eval (s.a G) g with
    | .func (.func fid) xs ys => cond (callable P fid) (callF P G X rc fid (xs ++ c.args.toList.map (f.a.eval (s.a G)) ++ ys) s) (extF P G X fid (xs ++ c.args.toList.map (f.a.eval (s.a G)) ++ ys) s)
    | .func (.yield i) [] [] => y i (c.args.toList.map (f.a.eval (s.a G))) s
    | _ => none
  | .invoke r name => match f.a.eval (s.a G) r with
    | .iface t v => match X.meth t name with
      | some fid => callF P G X rc fid (v :: c.args.toList.map (f.a.eval (s.a G))) s
      | none => none
    | _ => none
def nextO (it : V) (s : SH) : Option (List (V × SH)) := cond (inN (wrV it) s.n) ((aNext it (s.a G)).map fun l => l.map fun p => (p.1, sync s p.2 (wrV it))) none
noncomputable def stepO (rc : Nat → Code → Fr → SH → Option (List Res)) (y : Nat → List V → SH → Option (List (V × SH))) (o : Oper) (f : Fr) (s : SH) : Option (List (V × SH)) :=
  kindO o.op (fun c => callO P G X rc y c f s) (fun it => nextO G (f.a.eval (s.a G) it) s) (plainO P G o f s)
noncomputable def opsC (rc : Nat → Code → Fr → SH → Option (List Res)) (y : Nat → List V → SH → Option (List (V × SH))) (ol l : List Oper) : Fr → SH → Option (List (Fr × SH)) :=
  List.rec (motive := fun _ => Fr → SH → Option (List (Fr × SH))) (fun f s => some [(f, s)]) (fun o _ ih f s => match wantedA ol o.guard f.a with
    | some true => match stepO P G X rc y o f s with
      | some outs => bindF outs fun p => ih (f.put o.dst p.1) p.2
      | none => none
    | some false => ih (f.put o.dst (.tuple [])) s
    | none => none) l
theorem opsC_cons (rc : Nat → Code → Fr → SH → Option (List Res)) (y : Nat → List V → SH → Option (List (V × SH))) (ol l : List Oper) (o : Oper) (f : Fr) (s : SH) : opsC P G X rc y ol (o :: l) f s = match wantedA ol o.guard f.a with
    | some true => match stepO P G X rc y o f s with
      | some outs => bindF outs fun p => opsC P G X rc y ol l (f.put o.dst p.1) p.2
      | none => none
    | some false => opsC P G X rc y ol l (f.put o.dst (.tuple [])) s
    | none => none := rfl
/-- What a plan comes to: what was read ahead, what effects wrote, which blocks each effect made, and the state. -/
structure PO where
  R : List Nat
  W : List Nat
  T : List (Nat × Nat × Nat)
  f : Fr
  s : SH
def PO.addR (r : Option Nat) (o : PO) : PO := { o with R := match r with | some i => i :: o.R | none => o.R }
def PO.addW (w : List Nat) (t : Nat × Nat × Nat) (o : PO) : PO := { o with W := w ++ o.W, T := t :: o.T }
noncomputable def planC (rc : Nat → Code → Fr → SH → Option (List Res)) (y : Nat → List V → SH → Option (List (V × SH))) (ol : List Oper) (s0 : SH) : Sch → Fr → SH → Option (List PO)
  | .done, f, s => some [⟨[], [], [], f, s⟩]
  | .stop, _, _ => some []
  | .q k sc, f, s => match ol[k]? with
    | some o => match wantedA ol o.guard f.a with
      | some true => cond (idleOp o.op) (match opSel o.op P o (f.a.eval (s0.a G)) (s0.a G) with
        | some (.val v _) => match planC rc y ol s0 sc (f.put o.dst v) s with
          | some (x :: l) => some ((x :: l).map (PO.addR (ridOp (f.a.eval (s0.a G)) o.op)))
          | _ => none
        | _ => none) none
      | some false => planC rc y ol s0 sc (f.put o.dst (.tuple [])) s
      | none => none
    | none => none
  | .c k sc, f, s => match ol[k]? with
    | some o => match wantedA ol o.guard f.a with
      | some true => cond (idleOp o.op) (match opSel o.op P o (f.a.eval (s.a G)) (s.a G) with
        | some (.val v _) => planC rc y ol s0 sc (f.put o.dst v) s
        | _ => none) none
      | some false => planC rc y ol s0 sc (f.put o.dst (.tuple [])) s
      | none => none
    | none => none
  | .a k sc, f, s => match ol[k]? with
    | some o => match wantedA ol o.guard f.a with
      | some true => match stepO P G X rc y o f s with
        | some [(v, s1)] => (planC rc y ol s0 sc (f.put o.dst v) s1).map fun l => l.map (PO.addW [] (k, s.n, s1.n))
        | _ => none
      | some false => planC rc y ol s0 sc (f.put o.dst (.tuple [])) s
      | none => none
    | none => none
  | .e k sc alt, f, s => match planC rc y ol s0 alt f s with
    | some m => (match ol[k]? with
      | some o => match wantedA ol o.guard f.a with
        | some true => match stepO P G X rc y o f s with
          | some [(v, s1)] => match planC rc y ol s0 sc (f.put o.dst v) s1 with
            | some (x :: l) => some ((x :: l).map (PO.addW s1.w (k, s.n, s1.n)) ++ m)
            | _ => none
          | _ => none
        | some false => match planC rc y ol s0 sc (f.put o.dst (.tuple [])) s with
          | some (x :: l) => some ((x :: l).map (PO.addW s.w (k, s.n, s.n)) ++ m)
          | _ => none
        | none => none
      | none => none)
    | none => none
def all2 {α : Type} (p : α → α → Bool) : List α → List α → Bool
  | [], [] => true
  | a :: l, b :: m => p a b && all2 p l m
  | _, _ => false
def eqR (π : Nat → Nat) : Nat → V → V → Bool
  | 0, _, _ => false
  | k + 1, a, b => match a, b with
    | .ptr i o, .ptr j p => π i == j && o == p
    | .sl i o n c, .sl j p m d => π i == j && o == p && n == m && c == d
    | .map i, .map j => π i == j
    | .imm n cs, .imm m ds => n == m && all2 (eqR π k) cs ds
    | .at cs, .at ds => all2 (eqR π k) cs ds
    | .agg cs, .agg ds => all2 (eqR π k) cs ds
    | .tuple cs, .tuple ds => all2 (eqR π k) cs ds
    | .func (.func f) cs es, .func (.func g) ds fs => f == g && all2 (eqR π k) cs ds && all2 (eqR π k) es fs
    | .iface t v, .iface u w => t == u && eqR π k v w
    | .top, .top => true
    | .bool a, .bool b => a == b
    | .int k a, .int l b => decide (k = l) && a == b
    | .snil, .snil => true
    | .pnil, .pnil => true
    | .mnil, .mnil => true
    | .z0, .z0 => true
    | .nilFunc, .nilFunc => true
    | .nilIface, .nilIface => true
    | _, _ => false
def eqOR (π : Nat → Nat) : AObj → AObj → Bool
  | .dead, .dead => true
  | .cells c e x, .cells d f y => all2 (eqR π 9) c d && e == f && x == y
  | .map es cl, .map fs dl => cl == dl && all2 (fun p q : Nat × V × V => p.1 == q.1 && eqR π 9 p.2.1 q.2.1 && eqR π 9 p.2.2 q.2.2) es fs
  | .iter m s a b, .iter m' s' a' b' => π m == m' && s == s' && a == a' && b == b'
  | _, _ => false
def pmOf (a b : Nat) (L : List (Nat × Nat)) (i : Nat) : Nat := cond (Nat.ble a i && Nat.blt i b) (match L.find? fun p => p.1 == i with | some p => p.2 | none => i) i
def trL (T1 T2 : List (Nat × Nat × Nat)) : List (Nat × Nat) := T2.flatMap fun t => match T1.find? fun u => u.1 == t.1 with | some u => (List.range' t.2.1 (t.2.2 - t.2.1)).zip (List.range' u.2.1 (u.2.2 - u.2.1)) | none => []
def permOk (n : Nat) (s0 : SH) (F : Fr) (s1 : SH) (T1 : List (Nat × Nat × Nat)) (o : PO) : Bool :=
  let L := trL T1 o.T
  let π := pmOf s0.n s1.n L
  let ι := pmOf s0.n s1.n (L.map fun p => (p.2, p.1))
  o.s.n == s1.n && o.s.w == s1.w && (List.range' s0.n (s1.n - s0.n)).all (fun i => ι (π i) == i && π (ι i) == i && Nat.ble s0.n (π i) && Nat.blt (π i) s1.n && eqOR π (o.s.obj i) (s1.obj (π i))) &&
    o.s.w.all (fun i => eqOR π (o.s.obj i) (s1.obj i)) && (List.range n).all fun t => eqR π 9 (o.f.a t) (F.a t)
def joinP (n : Nat) (s0 : SH) : List PO → Option (Fr × SH)
  | [] => none
  | [o] => some (o.f, o.s)
  | o :: l =>
    let F := enterAt 0 ((List.range n).map o.f.a) .e
    cond ((o :: l).all (permOk n s0 F o.s o.T)) (some (F, o.s)) none
def effs (ops : Array Oper) : List Nat := (List.range ops.size).filter fun k => match ops[k]? with | some o => !idleS o.op | none => true
def planM (ops : Array Oper) (T : Tr Nat) (es : List Nat) : Nat → Bool → Nat → Sch
  | 0, _, _ => .done
  | n + 1, kf, lm => match readyM ops lm with
    | [] => .done
    | k :: r => match (k :: r).find? fun i => !es.contains i && freeM ops lm i && (kf || orderedM T es lm i) with
      | some i => cond (orderedM T es lm i) (.c i (planM ops T es n kf (Nat.lor lm (bit i)))) (.q i (planM ops T es n kf (Nat.lor lm (bit i))))
      | none => match r with
        | [] => cond (aloneM ops.size T k && es.all fun e => Nat.beq e k || tb lm e) (.a k (planM ops T es n false (Nat.lor lm (bit k)))) (.e k (planM ops T es n true (Nat.lor lm (bit k))) .stop)
        | _ => (k :: r).foldr (fun i t => .e i (planM ops T es n true (Nat.lor lm (bit i))) t) .stop
theorem effs_lt {ops : Array Oper} : ∀ e ∈ effs ops, e < ops.size := fun e he => by
  unfold effs at he
  exact List.mem_range.1 (List.mem_filter.1 he).1
noncomputable def drawC (rc : Nat → Code → Fr → SH → Option (List Res)) (y : Nat → List V → SH → Option (List (V × SH))) (n : Nat) (ops : Array Oper) (sc : Sch) (f : Fr) (s : SH) : Option (List Res) :=
  cond (sc.okM ops (dtM ops) (effs ops) ops.size true true 0) (match planC P G X rc y ops.toList s.enter sc f s.enter with
    | some l => cond (l.all fun o => o.R.all fun r => l.all fun p => !p.W.elem r) (match joinP n s.enter l with
      | some (f', s1) => some [(.normal, f', s.leave s1)]
      | none => none) none
    | none => none) none
/-- A round of the loop at i. -/
noncomputable def yieldO (rc : Nat → Code → Fr → SH → Option (List Res)) (i : Nat) (args : List V) (s : SH) : Option (List (V × SH)) :=
  match s.obj i, args with
  | .pin (.loop jd p (.region r1 ops1 false) (.block bid (.region r2 ops2 false)) false) vs, [v] =>
    cond (Nat.blt p vs.length && Nat.blt i s.n && (ops1.toList.all fun o => dstOk vs.length o.dst) && (ops2.toList.all fun o => dstOk vs.length o.dst))
      (match opsC P G X rc (fun _ _ _ => none) ops1.toList ops1.toList ((enterAt 0 vs .e).put (some p) v) s.enter with
      | some [(f1, s1)] => cond (!s1.w.elem i) (match opsC P G X rc (fun _ _ _ => none) ops2.toList ops2.toList f1 ({ s1 with t := s1.t.set (.pin (.loop jd p (.region r1 ops1 false) (.block bid (.region r2 ops2 false)) true) vs) i } : SH).enter with
        | some [(_, s3)] => cond (!s3.w.elem i) (some [(.bool true, { n := s3.n, t := s3.t.set (.pin (.loop jd p (.region r1 ops1 false) (.block bid (.region r2 ops2 false)) false) vs) i, b := s.b, w := (s1.w ++ s3.w).foldl (note s.b) s.w })]) none
        | _ => none) none
      | _ => none) none
  | _, _ => none
noncomputable def loopN (rc : Nat → Code → Fr → SH → Option (List Res)) (n : Nat) (c : Code) (k : Nat) : Fr → SH → Option (List Res) :=
  Nat.rec (motive := fun _ => Fr → SH → Option (List Res)) (fun _ _ => none) (fun _ ih f s => match rc n c f s with
    | some l => bindF l fun r => match r.1 with
      | .normal => ih r.2.1 r.2.2
      | _ => some [r]
    | none => none) k
theorem loopN_succ (rc : Nat → Code → Fr → SH → Option (List Res)) (n : Nat) (c : Code) (k : Nat) (f : Fr) (s : SH) : loopN rc n c (k + 1) f s = match rc n c f s with
    | some l => bindF l fun r => match r.1 with
      | .normal => loopN rc n c k r.2.1 r.2.2
      | _ => some [r]
    | none => none := rfl
noncomputable def restN (rc : Nat → Code → Fr → SH → Option (List Res)) (n l : Nat) (c : Code) : Nat → Fr → SH → Option (List Res)
  | 0, _, _ => none
  | k + 1, f, s => match rc n c f s with
    | some [(.goto j, f1, s1)] => cond (Nat.beq j l) (restN rc n l c k f1 s1) none
    | some [(e, f1, s1)] => some [(e, f1, s1)]
    | _ => none
noncomputable def stepC0 (rc : Nat → Code → Fr → SH → Option (List Res)) (n : Nat) : Code → Fr → SH → Option (List Res)
  | .skip, f, s => some [(.normal, f, s)]
  | .label _, f, s => some [(.normal, f, s)]
  | .exit i, f, s => some [(.exit i, f, s)]
  | .goto l, f, s => some [(.goto l, f, s)]
  | .ret, f, s => some [(.ret, f, s)]
  | .seq a b, f, s => match rc n a f s with
    | some l => bindF l fun r => match r.1 with
      | .normal => rc n b r.2.1 r.2.2
      | _ => some [r]
    | none => none
  | .cond c a b, f, s => match f.a.eval (s.a G) c with
    | .bool true => rc n a f s
    | .bool false => rc n b f s
    | _ => none
  | .block i b, f, s => match rc n b f s with
    | some l => some (l.map fun r => match r.1 with
      | .exit j => (cond (Nat.beq j i) .normal (.exit j), r.2)
      | _ => r)
    | none => none
  | .loop b, f, s => loopN rc n b 5000 f s
  | .scope c, f, s => match rc n c f s with
    | some [(.goto l, f1, s1)] => match findLabel c l with
      | some r => restN rc n l r 100 f1 s1
      | none => none
    | some [(e, f1, s1)] => some [(e, f1, s1)]
    | _ => none
  | .region _ ops false, f, s => cond (ops.toList.all fun o => dstOk n o.dst) (match opsC P G X rc (yieldO P G X rc) ops.toList ops.toList f s with
    | some l => some (l.map fun p => (.normal, p))
    | none => none) none
  | .region _ ops true, f, s => cond (ops.toList.all fun o => dstOk n o.dst) (drawC P G X rc (yieldO P G X rc) n ops (planM ops (dtM ops) (effs ops) ops.size true 0) f s) none
  | _, _, _ => none
noncomputable def seqC (rc : Nat → Code → Fr → SH → Option (List Res)) (n : Nat) (a b : Code) (f : Fr) (s : SH) : Option (List Res) :=
  match rc n a f s with
    | some l => bindF l fun r => match r.1 with
      | .normal => rc n b r.2.1 r.2.2
      | _ => some [r]
    | none => none
noncomputable def condC (rc : Nat → Code → Fr → SH → Option (List Res)) (n : Nat) (c : Operand) (a b : Code) (f : Fr) (s : SH) : Option (List Res) :=
  match f.a.eval (s.a G) c with
    | .bool true => rc n a f s
    | .bool false => rc n b f s
    | _ => none
noncomputable def blockC (rc : Nat → Code → Fr → SH → Option (List Res)) (n : Nat) (i : Nat) (b : Code) (f : Fr) (s : SH) : Option (List Res) :=
  match rc n b f s with
    | some l => some (l.map fun r => match r.1 with
      | .exit j => (cond (Nat.beq j i) .normal (.exit j), r.2)
      | _ => r)
    | none => none
noncomputable def loopC (rc : Nat → Code → Fr → SH → Option (List Res)) (n : Nat) (b : Code) (f : Fr) (s : SH) : Option (List Res) :=
  loopN rc n b 5000 f s
noncomputable def scopeC (rc : Nat → Code → Fr → SH → Option (List Res)) (n : Nat) (c : Code) (f : Fr) (s : SH) : Option (List Res) :=
  match rc n c f s with
    | some [(.goto l, f1, s1)] => match findLabel c l with
      | some r => restN rc n l r 100 f1 s1
      | none => none
    | some [(e, f1, s1)] => some [(e, f1, s1)]
    | _ => none
noncomputable def regC (rc : Nat → Code → Fr → SH → Option (List Res)) (n : Nat) (ops : Array Oper) (f : Fr) (s : SH) : Option (List Res) :=
  cond (ops.toList.all fun o => dstOk n o.dst) (match opsC P G X rc (yieldO P G X rc) ops.toList ops.toList f s with
    | some l => some (l.map fun p => (.normal, p))
    | none => none) none
noncomputable def drawR (rc : Nat → Code → Fr → SH → Option (List Res)) (n : Nat) (ops : Array Oper) (f : Fr) (s : SH) : Option (List Res) :=
  cond (ops.toList.all fun o => dstOk n o.dst) (drawC P G X rc (yieldO P G X rc) n ops (planM ops (dtM ops) (effs ops) ops.size true 0) f s) none
end
def stepSel (c : Code) : (P : Program) → (G : List (Nat × List V)) → Ext P G → (Nat → Code → Fr → SH → Option (List Res)) → Nat → Fr → SH → Option (List Res) := match c with
  | .skip => fun _ _ _ _ _ f s => some [(.normal, f, s)]
  | .label _ => fun _ _ _ _ _ f s => some [(.normal, f, s)]
  | .exit i => fun _ _ _ _ _ f s => some [(.exit i, f, s)]
  | .goto l => fun _ _ _ _ _ f s => some [(.goto l, f, s)]
  | .ret => fun _ _ _ _ _ f s => some [(.ret, f, s)]
  | .seq a b => fun _ _ _ rc n f s => seqC rc n a b f s
  | .cond c a b => fun _ G _ rc n f s => condC G rc n c a b f s
  | .block i b => fun _ _ _ rc n f s => blockC rc n i b f s
  | .loop b => fun _ _ _ rc n f s => loopC rc n b f s
  | .scope c => fun _ _ _ rc n f s => scopeC rc n c f s
  | .region _ ops false => fun P G X rc n f s => regC P G X rc n ops f s
  | .region _ ops true => fun P G X rc n f s => drawR P G X rc n ops f s
  | _ => fun _ _ _ _ _ _ _ => none
section
variable (P : Program) (G : List (Nat × List V)) (X : Ext P G)
noncomputable def stepC (rc : Nat → Code → Fr → SH → Option (List Res)) (n : Nat) (c : Code) (f : Fr) (s : SH) : Option (List Res) := stepSel c P G X rc n f s
theorem stepC_eq (rc : Nat → Code → Fr → SH → Option (List Res)) (n : Nat) (c : Code) (f : Fr) (s : SH) : stepC P G X rc n c f s = stepC0 P G X rc n c f s := by
  unfold stepC
  cases c with
  | region i ops b => cases b <;> rfl
  | _ => rfl
noncomputable def runC (k : Nat) : Nat → Code → Fr → SH → Option (List Res) :=
  Nat.rec (motive := fun _ => Nat → Code → Fr → SH → Option (List Res)) (fun _ _ _ _ => none) (fun _ r => stepC P G X r) k
end
end
end Go.Proofs.YtfcjehlhoebmnaaGreatDoor.Ab
