import PyProof.Rows.All
import Wide.All
import OpenK.AllK
import Wide.FinOn
import Lean
import PyProof.EqAt
import PyProof.EqKinds
import PyProof.NeKinds
import PyProof.TupleCall
import PyProof.SetRoads
import PyProof.SetNew
import PyProof.Rows.Range3
import KE.KRevSl
import PyProof.SliceStr2
import PyProof.ListStr
import PyProof.TupleOfStr
import PyProof.StrCalls
import KE.KDictOf
import PyProof.AttrMissHeap
import PyProof.Rows.SumAny
import PyProof.ConsumeWalk
import PyProof.SeqI3
import KE.KStar
import PyProof.SumWalkG
import PyProof.DictValues
import PyProof.Rows.SetFrom
import PyProof.ZipIter
import PyProof.Draws
import PyProof.DictIter
import KE.KItemsList
import KE.KPairComp
import PyProof.Rows.SortWalk
import PyProof.StrOps2
import PySem.Challenge.RW_dearsigns_k53_sets_gone_through
set_option Elab.async false
set_option linter.all false
set_option maxRecDepth 100000
set_option maxHeartbeats 4000000
set_option exponentiation.threshold 5000
namespace HD
open PySem PySem.W PySem.Calls PyProof.Rows
noncomputable def bootT (P : Params) : BT := .node (boot_o_0 P) (.node (boot_o_1 P) (.node (boot_o_3 P) (.node (boot_o_7 P) .nil .nil) .nil) (.node (boot_o_5 P) (.node (boot_o_9 P) .nil .nil) .nil)) (.node (boot_o_2 P) (.node (boot_o_4 P) (.node (boot_o_8 P) .nil .nil) .nil) (.node (boot_o_6 P) (.node (boot_o_10 P) .nil .nil) .nil))
theorem size_boot (P : Params) : ((boot_heap P).isNs mainGlobals, (boot_heap P).objs.size, (boot_heap P).nsMap mainGlobals "__annotations__") = (true, 11, some (.ref 6)) := by kernel_rfl
structure SM where
  T : BT
  n : Nat
  k : Nat
  D : List DictEntry
  pl : List Value
  nm : Value
noncomputable def key (P : Params) (x : Str) (t : Nat) (v : Value) : DictEntry := ⟨PyData.keyHash P x, .str x t, v⟩
noncomputable def SM.put (s : SM) (o : Obj) : SM := { s with T := s.T.ins s.n o, n := s.n + 1 }
noncomputable def SM.puts (s : SM) : List Obj → SM
  | [] => s
  | o :: r => (s.put o).puts r
noncomputable def tup (vs : List Value) : Obj := { cls := .type "tuple", data := .seq vs.toArray }
noncomputable def txts : List Str → Nat → List Value
  | [], _ => []
  | x :: r, t => .str x t :: txts r (t + 1)
noncomputable def theFile : Str := "/claim/cut.py"
structure CO where
  objs : List Obj
  k : Nat
  a : Nat
noncomputable def raw (n : Nat) : Value := .int n 0
noncomputable def codeObjs (n k : Nat) (name qual : Str) (line argc flags : Nat) (fn : Bool) (free : List Str) (pls : List Value) (loc : Option (List Str × List Str)) (tm : Option FuncData) : CO :=
  let f := free.length
  let o1 := [tup (txts free (k + 3)), { cls := .none, data := .fields pls.toArray }]
  let k1 := k + 3 + f
  let (o2, k2, n2, l, c) := match loc with
    | none => ([], k1, n + 2, Value.none, Value.none)
    | some (ls, cs) => ([tup (txts ls k1), tup (txts cs (k1 + ls.length))], k1 + ls.length + cs.length, n + 4, Value.ref (n + 2), Value.ref (n + 3))
  let (o3, n3, t) := match tm with
    | none => ([], n2, Value.none)
    | some fd => ([({ cls := .none, data := .func fd } : Obj)], n2 + 1, Value.ref n2)
  { objs := o1 ++ o2 ++ o3 ++ [{ cls := .type "code", data := .fields #[.str name k, .str qual (k + 1), .str theFile (k + 2), raw line, raw argc, raw 0, raw 0, raw flags, .ref n, .bool fn, raw 181, .ref (n + 1), .none, l, c, t, raw k2, raw line, .str theFile (k2 + 1)] }]
    k := k2 + 2
    a := n3 }
noncomputable def SM.store (P : Params) (s : SM) (x : Str) (v : Value) : SM :=
  match s.D with
  | e :: r => match Fast.sEq x "__name__" with
    | true => { s with D := ⟨e.hash, e.key, v⟩ :: r, k := s.k + 1, nm := v }
    | false => { s with D := e :: r ++ [key P x s.k v], k := s.k + 1 }
  | [] => s
noncomputable def constVals : List Expr → Nat → List Value × Nat
  | .Constant (.int i) _ _ :: r, k => let (vs, k') := constVals r (k + 1); (.int i k :: vs, k')
  | .Constant (.str i) _ _ :: r, k => let (vs, k') := constVals r (k + 1); (.str i k :: vs, k')
  | .Constant (.bool b) _ _ :: r, k => let (vs, k') := constVals r k; (.bool b :: vs, k')
  | _ :: r, k => let (vs, k') := constVals r k; (.none :: vs, k')
  | [], k => ([], k)
noncomputable def templ (name qual : Str) (args : Arguments) (body : List Stmt) (scope : Scope) : FuncData :=
  { name, qualname := qual, params := args, body := .stmts body, scope, globals := builtinsNs, closure := [], defaults := .none, kwdefaults := .none }
noncomputable def simFn (P : Params) (s : SM) (name : Str) (args : Arguments) (body : List Stmt) (scope : Scope) (pos : Pos) : SM :=
  let (dv, s) := match args.defaults with
    | [] => (Value.none, s)
    | d :: ds => let (vs, k') := constVals (d :: ds) s.k; (Value.ref s.n, ({ s with k := k' } : SM).put (tup vs))
  let c := codeObjs s.n s.k name name pos.line args.args.length 3 true [] [] (localNames args scope (.stmts body)) (some (templ name name args body scope))
  let s1 := s.puts c.objs
  let s2 : SM := { s1 with k := c.k, pl := s1.pl ++ [raw pos.line, raw pos.col, .ref c.a] }
  let f := s2.n
  let s3 := s2.put { cls := .type "function", data := .func { templ name name args body scope with globals := mainNs, defaults := dv, pyModule := s.nm, code := .ref c.a } }
  s3.store P name (.ref f)
noncomputable def findD (x : Str) : List DictEntry → Value
  | [] => .none
  | e :: r => match e.key with
    | .str y _ => match Fast.sEq x y with
      | true => e.val
      | false => findD x r
    | _ => findD x r
noncomputable def addSub (v : Value) (o : Obj) : Obj := match o.data with
  | .cls c => { o with data := .cls { c with subclasses := c.subclasses ++ [v] } }
  | _ => o
structure IOb where
  objs : List Obj
  pls : List Value
  es : List DictEntry
  k : Nat
noncomputable def simInit (P : Params) (cell n k : Nat) (cn : Str) (nm : Value) : List Stmt → IOb
  | .FunctionDef name args body _ _ _ scope _ _ pos :: _ =>
    let qual : Str := cn ++ "." ++ name
    let c := codeObjs (n + 1) k name qual pos.line args.args.length 3 true ["__class__"] [] (localNames args scope (.stmts body)) (some (templ name qual args body scope))
    let f := c.a + 1
    { objs := tup [.ref cell] :: c.objs ++ [{ cls := .type "function", data := .func { templ name qual args body scope with globals := mainNs, closure := [("__class__", cell)], pyModule := nm, code := .ref c.a, closureTuple := .ref n } }]
      pls := [raw pos.line, raw pos.col, .ref c.a]
      es := [key P name c.k (.ref f)]
      k := c.k + 1 }
  | _ => ⟨[], [], [], k⟩
noncomputable def excTypes : List Value := [.type "ValueError", .type "Exception", .type "BaseException", .type "object"]
noncomputable def simCls (P : Params) (s : SM) (name base : Str) (body : List Stmt) (statics : List Str) (pos : Pos) : SM :=
  let root := Fast.sEq base "ValueError"
  let bv : Value := match root with | true => .type "ValueError" | false => findD base s.D
  let own := match body with | .FunctionDef .. :: _ => true | _ => false
  let (n, k) := (s.n, s.k)
  let nsA := n + 2
  let c0 := match own with | true => n + 4 | false => n + 3
  let fr := c0 + 3
  let i := simInit P (n + 3) (fr + 1) (k + 12) name s.nm body
  let cc := codeObjs c0 (k + 2) name name pos.line 0 0 false [] i.pls none none
  let a := fr + 1 + i.objs.length
  let st := i.k + statics.length
  let ns2 := a + 1
  let cls := a + 2
  let e1 := key P "__module__" (k + 7) s.nm
  let e3 := key P "__firstlineno__" (k + 11) (.int pos.line (k + 10))
  let e5 := key P "__static_attributes__" st (.ref a)
  let (k5, cellE, cellO) := match own with
    | true => (st + 2, [key P "__classcell__" (st + 1) (.ref (n + 3))], [({ cls := .type "cell", data := .cell (some (.ref cls)) } : Obj)])
    | false => (st + 1, [], [])
  let (k6, weakE, weakO) := match root with
    | true => (k5 + 2, [key P "__weakref__" (k5 + 1) (.ref (cls + 1))], [({ cls := .type "getset_descriptor", data := .fields #[.str "__weakref__" k5, .ref cls, .builtin "ExceptionGroup.__weakref__", .none] } : Obj)])
    | false => (k5, [], [])
  let nsE := [e1, key P "__qualname__" (k + 9) (.str name (k + 8)), e3] ++ i.es ++ [e5] ++ cellE
  let ns2E := [e1, e3] ++ i.es ++ [e5] ++ weakE ++ [key P "__doc__" k6 .none]
  let mro := match root with | true => Value.ref cls :: excTypes | false => Value.ref cls :: bv :: excTypes
  let objs : List Obj := [tup [bv], { cls := .type "builtin_function_or_method", data := .fields #[.builtin "type.__prepare__", .type "type"] }, { cls := .type "dict", data := .dict nsE.toArray nsE.length }] ++ cellO ++ cc.objs ++
    [{ cls := .type "frame", slots := #[some (.ref (c0 + 2)), some (.ref mainNs), some (.ref nsA), none, some s.nm, none, some (.ref builtinsNs)] }] ++ i.objs ++
    [tup (txts statics i.k), { cls := .type "dict", data := .dict ns2E.toArray (ns2E.length - 2) },
     { cls := .type "type", data := .cls { name, bases := [bv], mro, ns := ns2, qualname := name }, slots := #[some (.ref n), none, some (.str name k), some (.str name (k + 8)), some (.builtin "ValueError.__new__"), some (.bool true)] }] ++ weakO ++
    [{ cls := .type "super", data := .fields #[.ref cls, .ref cls, .ref cls] }, { cls := .type "builtin_function_or_method", data := .fields #[.builtin "object.__init_subclass__", .ref cls] }]
  let s1 := s.puts objs
  let s2 : SM := { s1 with k := k6 + 2, pl := s1.pl ++ [raw pos.line, raw pos.col, .ref (c0 + 2)], T := match bv with | .ref b => s1.T.set b (addSub (.ref cls)) | _ => s1.T }
  s2.store P name (.ref cls)
noncomputable def simOne (P : Params) (s : SM) : Stmt → SM
  | .Assign (.Name x _ :: _) (.Constant (.str v) _ _) _ => ({ s with k := s.k + 1 } : SM).store P x (.str v s.k)
  | .Assign (.Name x _ :: _) (.Constant (.int v) _ _) _ => ({ s with k := s.k + 1 } : SM).store P x (.int v s.k)
  | .Assign (.Name x _ :: _) (.BinOp (.Constant (.int a) _ _) _ (.Constant (.int b) _ _) _) _ => ({ s with k := s.k + 3 } : SM).store P x (.int (a ^ b.toNat) (s.k + 2))
  | .Assign (.Name x _ :: _) (.Tuple es _ _) _ => let (vs, k') := constVals es s.k; (({ s with k := k' } : SM).put (tup vs)).store P x (.ref s.n)
  | .FunctionDef name args body _ _ _ scope _ _ pos => simFn P s name args body scope pos
  | .ClassDef name (.Name b _ :: _) _ body _ _ _ _ _ statics pos => simCls P s name b body statics pos
  | _ => s
noncomputable def simAll (P : Params) (s : SM) : List Stmt → SM
  | [] => s
  | x :: r => simAll P (simOne P s x) r
noncomputable def endPos (p : Pos) : Stmt → Pos
  | .Assign (.Name _ q :: _) _ _ => q
  | .FunctionDef _ _ _ _ _ _ _ _ _ q => q
  | .ClassDef _ _ _ _ _ _ _ _ _ _ q => q
  | _ => p
noncomputable def endPoses (p : Pos) : List Stmt → Pos
  | [] => p
  | x :: r => endPoses (endPos p x) r
noncomputable def sim0 (P : Params) : SM :=
  SM.puts ⟨bootT P, 11, 187, [key P "__name__" 165 (.str "__main__" 164), key P "__doc__" 166 .none, key P "__package__" 167 .none, key P "__loader__" 168 (.builtin "__main__.__loader__#opaque"), key P "__spec__" 169 .none, key P "__annotations__" 170 (.ref 6),
    key P "__builtins__" 171 (.ref 4), key P "__file__" 173 (.str theFile 172), key P "__cached__" 174 .none], [], .str "__main__" 164⟩
    ((codeObjs 11 182 "<module>" "<module>" 1 0 0 false [] [] none none).objs ++ [{ cls := .type "frame", slots := #[some (.ref 13), some (.ref mainNs), some (.ref mainNs), none, some (.str "__main__" 164), none, some (.ref builtinsNs)] }])
structure St where
  sim : Params → SM
  pos : Pos
noncomputable def SM.tree (s : SM) : BT := (s.T.set mainNs fun _ => { cls := .type "dict", data := .dict s.D.toArray s.D.length }).set 12 fun _ => { cls := .none, data := .fields s.pl.toArray }
noncomputable def St.at (S : St) (P : Params) (os : OsState) : SharedT := ⟨(S.sim P).tree, (S.sim P).n, {}, Array.mk [], boot_drawn, (S.sim P).k, os⟩
noncomputable def St.step (S : St) (l : List Stmt) : St := ⟨fun P => simAll P (S.sim P) l, endPoses S.pos l⟩
noncomputable def St0 : St := ⟨sim0, ⟨0, 0, 0, 0⟩⟩
abbrev pos0 : Pos := ⟨0, 0, 0, 0⟩
noncomputable def envOf (p : Program) : Env := { scope := p.main.scope, locals := mainNs, globals := mainNs, cells := [], code := .ref 13, frame := some 14 }
noncomputable def cOf (p : Program) : Code := .body (behindTheImports p) (envOf p)
abbrev annO : Option Value := some (.ref 6)
abbrev Piece (p : Program) (l : List Stmt) (m : Nat) (A B : St) : Prop :=
  ∀ w : World, (fun os => segRunT treeTable p w 11 annO 1 m (A.at w.params os) (piecesOf l (envOf p) (cOf p) A.pos [topFrame pos0])) = fun os => some (.next, B.at w.params os, cOf p, B.pos)
inductive Chain (p : Program) : List Stmt → Nat → St → St → Prop
  | nil (S : St) : Chain p [] 0 S S
  | cons {l r : List Stmt} {m n : Nat} {A B C : St} (h : Piece p l m A B) (t : Chain p r n B C) : Chain p (l ++ r) (m + n) A C
theorem fin_run {tb : String → Option Builtin} {p : Program} {w : World} {n₀ : Nat} {ann : Option Value} {c : Code} {pos q : Pos} (s : Shared) : topRun tb p w n₀ ann 2 s ⟨doneF .next, c, pos, [topFrame q]⟩ = some s := by
  obtain ⟨a, b, d, e, f⟩ := s
  rfl
theorem chain_run {p : Program} {w : World} {os : OsState} {b : List Stmt} {n : Nat} {A C : St} (h : Chain p b n A C) :
    topRun treeTable p w 11 annO (n + 2) (A.at w.params os).abs (restOf b (envOf p) (cOf p) A.pos [topFrame pos0]) = some (C.at w.params os).abs := by
  induction h with
  | nil S => exact piece_nil (fin_run _)
  | cons h _ ih =>
    have e := segRun_of (congrFun (h w) os)
    rw [Nat.add_assoc]
    exact piece_app e ih
abbrev Pre (p : Program) : Prop := ∀ w : World, (fun os => topGo treeTable p w 11 annO 12 ⟨boot_heap w.params, Array.mk [], boot_drawn, boot_toks, os⟩ (topStub p)) = fun os => some ((St0.at w.params os).abs, ⟨denote treeTable (cOf p), cOf p, pos0, [topFrame pos0]⟩)
abbrev Blk (p : Program) : Prop := ∀ (w : World) (hp : Heap) (gs : Array GenState) (d : Drawn) (k : Nat) (os : OsState),
  segRun treeTable p w 11 annO 1 1 ⟨hp, gs, d, k, os⟩ (blockOf (behindTheImports p) (envOf p) (cOf p) pos0 [topFrame pos0]) = some (.next, ⟨hp, gs, d, k, os⟩, cOf p, pos0)
abbrev Look1 (p : Program) (C : St) : Prop := ∀ w : World, (fun os => staticsOk (importedModules p.main.body) (boot_heap w.params) (C.at w.params os).abs.heap && namesBound p (C.at w.params os).abs.heap && gensDone (C.at w.params os).abs && laidKept (boot_heap w.params) (C.at w.params os).abs.heap) = fun _ => true
theorem left_cut {p q : Program} {loose : List Str} {Xt : Shared → Bool} {α : Type} {Yf : Shared → α} {Ya : World → α} {N n : Nat} {g0 : Bool} {b : List Stmt} {C : St}
    (e : opening p = plainProg p.main.scope.names) (hN : Nat.ble 600 N = true) (f : ∀ s, fenceModules? p s = some s)
    (pre : Pre p) (blk : Blk p) (hb : behindTheImports p = b) (ch : Chain p b n St0 C) (le : Nat.ble (12 + (1 + (n + 2))) N = true)
    (k1 : Look1 p C) (k2 : ∀ w : World, (fun os => openSeen q loose (importedModules p.main.body) Xt g0 (C.at w.params os).abs) = fun _ => openGood q loose) (k3 : ∀ w : World, (fun os => Yf (C.at w.params os).abs) = fun _ => Ya w) :
    LeftO p q loose Xt Yf Ya N g0 := fun w => by
  obtain ⟨⟨hp, gs, d, k, os⟩, a, a'⟩ := Option.map_eq_some_iff.mp (boot_open e hN f w)
  obtain ⟨rfl, rfl, rfl, rfl⟩ : hp = boot_heap w.params ∧ gs = #[] ∧ d = boot_drawn ∧ k = boot_toks := by simpa using a'
  obtain ⟨z1, z2, z3⟩ : _ ∧ _ ∧ _ := by simpa only [Prod.mk.injEq] using size_boot w.params
  have r1 := chain_run (w := w) (os := os) ch
  rw [← hb] at r1
  have r2 := piece_block (blk w _ _ _ _ _) r1
  have r3 := go_top (congrFun (pre w) os) r2
  have r' := topRun_mono (N - (12 + (1 + (n + 2)))) _ _ _ _ r3
  rw [show 12 + (1 + (n + 2)) + (N - (12 + (1 + (n + 2)))) = N by have := Nat.le_of_ble_eq_true le; omega] at r'
  have l1 := congrFun (k1 w) os
  have t : topFrom treeTable p w N ⟨boot_heap w.params, #[], boot_drawn, boot_toks, os⟩ = some (C.at w.params os).abs := by
    unfold topFrom
    dsimp only
    rw [z1, z2, z3, r']
    show (match staticsOk (importedModules p.main.body) (boot_heap w.params) (C.at w.params os).abs.heap && namesBound p (C.at w.params os).abs.heap && gensDone (C.at w.params os).abs && laidKept (boot_heap w.params) (C.at w.params os).abs.heap with | true => _ | false => _) = _
    rw [l1]
  unfold openEnds
  rw [a]
  show (topFrom treeTable p w N _).map _ = _
  rw [t]
  exact congrArg some (Prod.ext (congrFun (k2 w) os) (congrFun (k3 w) os))
end HD
namespace HP
open PySem PySem.W HD
noncomputable def pq : Program := PySem.Challenge.pw_dearsigns_k53_sets_gone_through
theorem e1 : opening pq = plainProg pq.main.scope.names := by kernel_rfl
theorem e2 (s) : fenceModules? pq s = some s := by kernel_rfl
theorem pre : Pre pq := fun w => by kernel_rfl
theorem blk : Blk pq := fun w _ _ _ _ _ => by kernel_rfl
noncomputable def b0 : List Stmt := behindTheImports pq
noncomputable def S0 : St := St0
noncomputable def l0 : List Stmt := b0.take 28
noncomputable def b1 : List Stmt := b0.drop 28
noncomputable def S1 : St := S0.step l0
theorem q0 : Piece pq l0 997 S0 S1 := fun w => by kernel_rfl
noncomputable def l1 : List Stmt := b1.take 21
noncomputable def S2 : St := S1.step l1
theorem q1 : Piece pq l1 596 S1 S2 := fun w => by kernel_rfl
theorem chain : Chain pq (l0 ++ (l1 ++ [])) (997 + (596 + (0))) S0 S2 := .cons q0 (.cons q1 (Chain.nil S2))
theorem body : behindTheImports pq = l0 ++ (l1 ++ []) := by kernel_rfl
theorem look1 : Look1 pq S2 := fun w => by kernel_rfl
end HP
namespace L2
open PySem PySem.Spec PyProof.Rows
abbrev Key := Sum Int Str
def keyIs : Key → Value → Bool
  | .inl k, v => Value.isInt k v
  | .inr x, v => Value.isStrOf x v
def keyH (w : World) : Key → Int
  | .inl k => hashInt k
  | .inr x => hashStr w x
theorem keyIs_shape : ∀ {k : Key} {v : Value}, keyIs k v = true → (∃ i t, k = Sum.inl i ∧ v = Value.int i t) ∨ (∃ x t, k = Sum.inr x ∧ v = Value.str x t)
  | .inl i, v, h => by
    obtain ⟨t, e⟩ := Value.isInt_shape (k := i) (v := v) h
    exact .inl ⟨i, t, rfl, e⟩
  | .inr x, v, h => by
    obtain ⟨t, e⟩ := Value.isStrOf_shape (x := x) (v := v) h
    exact .inr ⟨x, t, rfl, e⟩
theorem keyIs_int (i : Int) (t : Tok) : keyIs (.inl i) (.int i t) = true := by simp [keyIs, Value.isInt]
theorem keyIs_str (x : Str) (t : Tok) : keyIs (.inr x) (.str x t) = true := by simp [keyIs, Value.isStrOf]
theorem key_ll (a b : Int) : decide ((Sum.inl a : Key) = Sum.inl b) = (a == b) := by
  by_cases e : a = b
  · subst e; simp
  · have h : ¬ (Sum.inl a : Key) = Sum.inl b := fun q => e (Sum.inl.inj q)
    rw [decide_eq_false h]
    exact (beq_eq_false_iff_ne.mpr e).symm
theorem key_rr (a b : Str) : decide ((Sum.inr a : Key) = Sum.inr b) = decide (a = b) := by
  by_cases e : a = b
  · subst e; simp
  · have h : ¬ (Sum.inr a : Key) = Sum.inr b := fun q => e (Sum.inr.inj q)
    rw [decide_eq_false h, decide_eq_false e]
theorem key_lr (a : Int) (b : Str) : decide ((Sum.inl a : Key) = Sum.inr b) = false := decide_eq_false (fun q => nomatch q)
theorem key_rl (a : Str) (b : Int) : decide ((Sum.inr a : Key) = Sum.inl b) = false := decide_eq_false (fun q => nomatch q)
def mixKind (prog : Program) (w : World) : PySem.KeyKind prog w Key where
  is := keyIs
  hash := keyH w
  inj := fun v a b ha hb => by
    rcases keyIs_shape ha with ⟨i, t, rfl, rfl⟩ | ⟨x, t, rfl, rfl⟩
    · rcases keyIs_shape hb with ⟨j, u, rfl, e⟩ | ⟨y, u, rfl, e⟩
      · injection e with e1 _; rw [e1]
      · exact nomatch e
    · rcases keyIs_shape hb with ⟨j, u, rfl, e⟩ | ⟨y, u, rfl, e⟩
      · exact nomatch e
      · injection e with e1 _; rw [e1]
  byValue := fun k v h => by
    rcases keyIs_shape h with ⟨i, t, rfl, rfl⟩ | ⟨x, t, rfl, rfl⟩ <;> rfl
  pyHash := fun hv h => by
    rcases keyIs_shape hv with ⟨i, t, rfl, rfl⟩ | ⟨x, t, rfl, rfl⟩
    · exact wpAny_pyHash_int h
    · exact wpAny_pyHash_str h
  eqBool := fun hu hv h => by
    rcases keyIs_shape hu with ⟨i, t, rfl, rfl⟩ | ⟨x, t, rfl, rfl⟩
    · rcases keyIs_shape hv with ⟨j, u, rfl, rfl⟩ | ⟨y, u, rfl, rfl⟩
      · rw [key_ll] at h; exact wpAny_eqBool_int h
      · rw [key_lr] at h; exact SeqAt.EqAt.int_str i t y u _ _ _ _ h
    · rcases keyIs_shape hv with ⟨j, u, rfl, rfl⟩ | ⟨y, u, rfl, rfl⟩
      · rw [key_rl] at h; exact SeqAt.EqAt.str_int x t j u _ _ _ _ h
      · rw [key_rr] at h; exact wpAny_eqBool_str h
  «strs» := fun k x t v h => by
    rcases keyIs_shape h with ⟨i, u, rfl, e⟩ | ⟨y, u, rfl, e⟩
    · exact nomatch e
    · injection e with e1 _
      subst e1
      cases v <;> rfl
theorem mixKind_int (prog : Program) (w : World) (i : Int) (t : Tok) : (mixKind prog w).is (.inl i) (.int i t) = true := keyIs_int i t
theorem mixKind_str (prog : Program) (w : World) (x : Str) (t : Tok) : (mixKind prog w).is (.inr x) (.str x t) = true := keyIs_str x t
end L2
namespace L2
open PySem PySem.Spec PyProof.Rows
inductive V where
  | non | bl (b : Bool) | int (i : Int) | str (x : Str) | byt (b : Array UInt8) | flt (b : UInt64) | ref (a : Addr) | ty (n : String)
  deriving DecidableEq
def RelV : V → Value → Prop
  | .non, u => u = Value.none
  | .bl b, u => u = Value.bool b
  | .int i, u => ∃ t, u = Value.int i t
  | .str x, u => ∃ t, u = Value.str x t
  | .byt b, u => ∃ t, u = Value.bytes b t
  | .flt b, u => ∃ t, u = Value.float b t
  | .ref a, u => u = Value.ref a
  | .ty n, u => u = Value.type n
abbrev Vals : List V → List Value → Prop := Paired RelV
theorem Vals.length {xs : List V} {us : List Value} (r : Vals xs us) : xs.length = us.length := Paired.length r
theorem Vals.get : ∀ {xs : List V} {us : List Value} {i : Nat} {x : V}, Vals xs us → xs[i]? = some x → ∃ u, us[i]? = some u ∧ RelV x u
  | _, _, _, _, .nil, e => by simp at e
  | _, _, 0, _, .cons r _, e => by simp at e; subst e; exact ⟨_, rfl, r⟩
  | _, _, i + 1, x, .cons _ t, e => by
    obtain ⟨u, h1, h2⟩ := Vals.get (i := i) (x := x) t (by simpa using e)
    exact ⟨u, by simpa using h1, h2⟩
theorem Vals.append : ∀ {xs ys : List V} {us ws : List Value}, Vals xs us → Vals ys ws → Vals (xs ++ ys) (us ++ ws)
  | _, _, _, _, .nil, s => s
  | _, _, _, _, .cons r t, s => .cons r (Vals.append t s)
theorem Vals.take : ∀ {xs : List V} {us : List Value} (n : Nat), Vals xs us → Vals (xs.take n) (us.take n)
  | _, _, 0, _ => .nil
  | _, _, _ + 1, .nil => .nil
  | _, _, n + 1, .cons r t => .cons r (Vals.take n t)
theorem Vals.drop : ∀ {xs : List V} {us : List Value} (n : Nat), Vals xs us → Vals (xs.drop n) (us.drop n)
  | _, _, 0, r => r
  | _, _, _ + 1, .nil => .nil
  | _, _, n + 1, .cons _ t => Vals.drop n t
def RelO : Option V → Option Value → Prop
  | some v, some u => RelV v u
  | none, none => True
  | _, _ => False
def KV {κ : Type} : List (κ × V) → List (κ × Value) → Prop := Paired fun (p : κ × V) (q : κ × Value) => p.1 = q.1 ∧ RelV p.2 q.2
def kV : Key → V
  | .inl i => .int i
  | .inr x => .str x
inductive HO where
    | lst (xs : List V)
    | tup (xs : List V)
    | dK (kvs : List (Key × V)) | dT (kvs : List (List Key × V))
    | set (S : Int → Bool) (n : Nat)
    | ins (C dx : Addr) (fs : List (Str × V))
    | own (x : Addr)
    | xd (fs : List (Str × V))
    | met (f x : Addr)
    | rng (lo hi : Int)
    | frz (o : Obj) (u : HO)
    | tbl (ps : Array Value)
    | ext (φ : Heap → Prop)
abbrev Hp := Addr → Option HO
def upd (H : Hp) (a : Addr) (o : HO) : Hp := fun b => if b = a then some o else H b
theorem upd_same {H : Hp} {a : Addr} {o : HO} : upd H a o a = some o := by unfold upd; rw [if_pos rfl]
theorem upd_ne {H : Hp} {a b : Addr} {o : HO} (h : b ≠ a) : upd H a o b = H b := by unfold upd; rw [if_neg h]
theorem ne_of_none {H : Hp} {a b : Addr} {o : HO} (h : H a = some o) (h' : H b = none) : a ≠ b := by
  intro e; subst e; rw [h] at h'; cases h'
section
variable (P : Program) (w : World)
def ObjOk (H : Hp) (h : Heap) (a : Addr) : HO → Prop
  | .lst xs => xs.length ≤ sizeLine ∧ ∃ (its : List Value) (n : Nat), Vals xs its ∧ h.get? a = some { cls := .type "list", data := .seq its.toArray n }
  | .tup xs => xs.length ≤ sizeLine ∧ ∃ its : List Value, Vals xs its ∧ IsTup h a its.toArray
  | .dK kvs => kvs.length ≤ sizeLine ∧ (a == sysModules) = false ∧ ∃ vs, KV kvs vs ∧ h.DictOf (mixKind P w) a vs
  | .dT kvs => kvs.length ≤ sizeLine ∧ (a == sysModules) = false ∧ ∃ xs : List (List Key × Addr × Value),
      Paired (fun (p : List Key × V) (q : List Key × Addr × Value) => p.1 = q.1 ∧ H q.2.1 = some (.tup (p.1.map kV)) ∧ RelV p.2 q.2.2) kvs xs ∧
      ∃ o es ep, h.get? a = some o ∧ o.ExactDict ∧ o.data = .dict es ep ∧ es.toList = xs.map (entryOfKey (tupleKind (mixKind P w))) ∧ (xs.map (·.1)).Nodup
  | .set S n => h.SetOf (intKind P w) a S n
  | .ins C dx fs => H dx = some (.own a) ∧ fs.length ≤ 1000 ∧ dx ≠ a ∧ h.get? a = some (PySem.W.instObj C dx) ∧
      ∃ mA, h.Ns1 dx mA ∧ (∀ f, RelO (fs.lookup f) (mA f)) ∧ PySem.Within mA (fs.map (·.1))
  | .own _ => ∃ o, h.get? a = some o
  | .xd fs => ∃ mA, h.Ns1 a mA ∧ ∀ f, RelO (fs.lookup f) (mA f)
  | .rng lo hi => ∃ t u v, h.get? a = some { cls := .type "range", data := .fields #[.int lo t, .int hi u, .int 1 v] }
  | .frz o u => h.get? a = some o ∧ ObjOk H h a u
  | .tbl ps => h.get? a = some { cls := .none, data := .fields ps }
  | .met f x => h.get? a = some (PySem.W.methodObj (.ref f) (.ref x))
  | .ext φ => φ h ∧ (∃ o, h.get? a = some o) ∧ ∀ h1 h2 : Heap, φ h1 → (∀ o, h1.get? a = some o → h2.get? a = some o) → φ h2
def HOk (H : Hp) (h : Heap) : Prop := ∀ a o, H a = some o → ObjOk P w H h a o
end
section
variable {P : Program} {w : World} {H H' : Hp} {h h' : Heap} {a : Addr} {o : HO}
theorem ObjOk.lt (x : ObjOk P w H h a o) : a < h.objs.size := by
  cases o with
  | lst xs => obtain ⟨_, _, _, _, e⟩ := x; exact Heap.lt_size e
  | tup xs => obtain ⟨_, _, _, p⟩ := x; exact p.lt
  | dK kvs => obtain ⟨_, _, _, _, o, _, _, e, _⟩ := x; exact Heap.lt_size e
  | dT kvs => obtain ⟨_, _, _, _, o, _, _, e, _⟩ := x; exact Heap.lt_size e
  | set S n => obtain ⟨o, _, _, _, e, _⟩ := x; exact Heap.lt_size e
  | ins C dx fs => obtain ⟨_, _, _, e, _⟩ := x; exact Heap.lt_size e
  | own y => obtain ⟨_, e⟩ := x; exact Heap.lt_size e
  | xd fs => obtain ⟨_, ⟨_, _, _, e, _⟩, _⟩ := x; exact Heap.lt_size e
  | rng lo hi => obtain ⟨_, _, _, e⟩ := x; exact Heap.lt_size e
  | frz ob u => obtain ⟨e, _⟩ := x; exact Heap.lt_size e
  | tbl ps => exact Heap.lt_size (show h.get? a = some _ from x)
  | met f y => exact Heap.lt_size (show h.get? a = some _ from x)
  | ext φ => obtain ⟨_, ⟨_, e⟩, _⟩ := x; exact Heap.lt_size e
theorem Paired.mapP {α β : Type} {F G : α → β → Prop} : ∀ {l₁ : List α} {l₂ : List β}, Paired F l₁ l₂ → (∀ a b, F a b → G a b) → Paired G l₁ l₂
  | _, _, .nil, _ => .nil
  | _, _, .cons r t, f => .cons (f _ _ r) (Paired.mapP t f)
theorem ObjOk.stay (x : ObjOk P w H h a o) (k : ∀ b u, (b = a ∨ H b = some (.own a)) → h.get? b = some u → h'.get? b = some u)
    (ho : ∀ b, H b = some (.own a) → H' b = some (.own a)) (ht : ∀ b xs, H b = some (.tup xs) → H' b = some (.tup xs)) : ObjOk P w H' h' a o := by
  induction o with
  | lst xs => obtain ⟨z, its, n, r, e⟩ := x; exact ⟨z, its, n, r, k _ _ (.inl rfl) e⟩
  | tup xs => obtain ⟨z, its, r, ob, e, c⟩ := x; exact ⟨z, its, r, ob, k _ _ (.inl rfl) e, c⟩
  | dK kvs => obtain ⟨z, y, vs, r, ob, es, ep, e, c⟩ := x; exact ⟨z, y, vs, r, ob, es, ep, k _ _ (.inl rfl) e, c⟩
  | dT kvs =>
    obtain ⟨z, y, xs, r, ob, es, ep, e, c⟩ := x
    exact ⟨z, y, xs, Paired.mapP r fun p q z => ⟨z.1, ht _ _ z.2.1, z.2.2⟩, ob, es, ep, k _ _ (.inl rfl) e, c⟩
  | set S n => obtain ⟨ob, es, ep, t, e, c⟩ := x; exact ⟨ob, es, ep, t, k _ _ (.inl rfl) e, c⟩
  | ins C dx fs =>
    obtain ⟨d, z, ne, e, mA, ⟨od, es, ep, e2, c⟩, r⟩ := x
    exact ⟨ho _ d, z, ne, k _ _ (.inl rfl) e, mA, ⟨od, es, ep, k _ _ (.inr d) e2, c⟩, r⟩
  | own y => obtain ⟨ob, e⟩ := x; exact ⟨ob, k _ _ (.inl rfl) e⟩
  | xd fs => obtain ⟨mA, ⟨od, es, ep, e, c⟩, r⟩ := x; exact ⟨mA, ⟨od, es, ep, k _ _ (.inl rfl) e, c⟩, r⟩
  | rng lo hi => obtain ⟨t, u, v, e⟩ := x; exact ⟨t, u, v, k _ _ (.inl rfl) e⟩
  | frz ob u ih => obtain ⟨e, q⟩ := x; exact ⟨k _ _ (.inl rfl) e, ih q⟩
  | tbl ps =>
    have e : h.get? a = some { cls := .none, data := .fields ps } := x
    show h'.get? a = some { cls := .none, data := .fields ps }
    exact k a _ (.inl rfl) e
  | met f y =>
    have e : h.get? a = some (PySem.W.methodObj (.ref f) (.ref y)) := x
    show h'.get? a = some (PySem.W.methodObj (.ref f) (.ref y))
    exact k a _ (.inl rfl) e
  | ext φ => obtain ⟨p, ⟨o, e⟩, st⟩ := x; exact ⟨st _ _ p fun o q => k _ _ (.inl rfl) q, ⟨o, k _ _ (.inl rfl) e⟩, st⟩
theorem HOk.lt (x : HOk P w H h) (e : H a = some o) : a < h.objs.size := (x a o e).lt
theorem HOk.fresh (x : HOk P w H h) (e : h.objs.size ≤ a) : H a = none := by
  cases q : H a with
  | none => rfl
  | some u => exact absurd (Nat.lt_of_lt_of_le (x.lt q) e) (Nat.lt_irrefl _)
theorem HOk.kept (x : HOk P w H h) (k : ∀ b u, h.get? b = some u → h'.get? b = some u) : HOk P w H h' := fun a o e =>
  (x a o e).stay (fun b u _ q => k b u q) (fun _ q => q) fun _ _ q => q
theorem HOk.laid (x : HOk P w H h) (k : ∀ b u, h.get? b = some u → h'.get? b = some u) (hp : h.objs.size ≤ a) (new : ObjOk P w (upd H a o) h' a o) : HOk P w (upd H a o) h' := fun b u e => by
  have hn := x.fresh hp
  by_cases hb : b = a
  · subst hb; rw [upd_same] at e; cases e; exact new
  · rw [upd_ne hb] at e
    exact (x b u e).stay (fun c v _ q => k c v q) (fun c q => by rw [upd_ne (ne_of_none q hn)]; exact q) fun c xs q => by rw [upd_ne (ne_of_none q hn)]; exact q
end
def Rd (H : Hp) (a : Addr) (u : HO) : Prop := H a = some u ∨ ∃ o, H a = some (.frz o u)
theorem Rd.ok {P : Program} {w : World} {H : Hp} {h : Heap} {a : Addr} {u : HO} (r : Rd H a u) (x : HOk P w H h) : ObjOk P w H h a u := by
  rcases r with r | ⟨o, r⟩
  · exact x a u r
  · obtain ⟨_, q⟩ := x a _ r
    exact q
def Mut : Option HO → Prop
  | some (.lst _) => True
  | some (.dK _) => True
  | some (.dT _) => True
  | some (.set _ _) => True
  | some (.ins _ _ _) => True
  | some (.ext _) => True
  | _ => False
section
variable {P : Program} {w : World} {H : Hp} {h h' : Heap} {x e : Addr} {o' : HO}
theorem HOk.write (ok : HOk P w H h) (mu : Mut (H x)) (he : e = x ∨ H e = some (.own x)) (k : ∀ b u, b ≠ e → h.get? b = some u → h'.get? b = some u) (heo : ∃ u, h'.get? e = some u)
    (new : ObjOk P w (upd H x o') h' x o') : HOk P w (upd H x o') h' := fun b u q => by
  have nown : ∀ c y, H c = some (.own y) → c ≠ x := fun c y r z => by subst z; rw [r] at mu; exact mu
  have ntup : ∀ c xs, H c = some (.tup xs) → c ≠ x := fun c xs r z => by subst z; rw [r] at mu; exact mu
  by_cases hb : b = x
  · subst hb; rw [upd_same] at q; cases q; exact new
  · rw [upd_ne hb] at q
    by_cases hbe : b = e
    · have q' : H b = some (.own x) := by
        rcases he with z | z
        · exact absurd (hbe.trans z) hb
        · rw [hbe]; exact z
      rw [q] at q'; cases q'
      obtain ⟨v, hv⟩ := heo
      exact ⟨v, by rw [hbe]; exact hv⟩
    · refine (ok b u q).stay (fun c v hc r => k c v ?_ r) (fun c r => by rw [upd_ne (nown c b r)]; exact r) fun c xs r => by rw [upd_ne (ntup c xs r)]; exact r
      rcases hc with rfl | hc
      · exact hbe
      · rintro rfl
        rcases he with z | z
        · exact nown c b hc z
        · rw [hc] at z; cases z; exact hb rfl
end
structure Un (fs ex : List Addr) (H H' : Hp) (h h' : Heap) : Prop where
  keep : ∀ b o, h.get? b = some o → H b = none → b ∉ fs → b ∉ ex → h'.get? b = some o
  slot : ∀ b o, h.get? b = some o → H b = none → b ∈ fs → b ∉ ex → ∃ sl, h'.get? b = some { o with slots := sl }
  free : ∀ b o, h.get? b = some o → H b = none → b ∉ ex → H' b = none
  there : ∀ b o, h.get? b = some o → b ∉ ex → ∃ o', h'.get? b = some o'
  tups : ∀ b xs, H b = some (.tup xs) → H' b = some (.tup xs)
  frzs : ∀ b o u, H b = some (.frz o u) → H' b = some (.frz o u)
  tbls : ∀ b ps, H b = some (.tbl ps) → ∃ more, H' b = some (.tbl (ps ++ more))
section
variable {fs fs' ex ex' : List Addr} {H H1 H2 : Hp} {h h1 h2 h' : Heap} {a x e : Addr} {o : HO}
theorem Un.any (u : Un fs ex H H1 h h1) {b : Addr} {ob : Obj} (q : h.get? b = some ob) (n : H b = none) (hx : b ∉ ex) : ∃ sl, h1.get? b = some { ob with slots := sl } := by
  by_cases hb : b ∈ fs
  · exact u.slot b ob q n hb hx
  · exact ⟨ob.slots, u.keep b ob q n hb hx⟩
theorem Un.kept (k : ∀ b u, h.get? b = some u → h'.get? b = some u) : Un fs ex H H h h' :=
  ⟨fun b ob q _ _ _ => k b ob q, fun b ob q _ _ _ => ⟨ob.slots, k b ob q⟩, fun _ _ _ n _ => n, fun b ob q _ => ⟨ob, k b ob q⟩, fun _ _ q => q, fun _ _ _ q => q, fun _ ps q => ⟨#[], by rw [q]; simp⟩⟩
theorem Un.refl : Un fs ex H H h h := Un.kept fun _ _ q => q
theorem Un.laid (k : ∀ b u, h.get? b = some u → h'.get? b = some u) (hp : h.objs.size ≤ a) (hn : H a = none) : Un fs ex H (upd H a o) h h' where
  keep := fun b u q _ _ _ => k b u q
  slot := fun b u q _ _ _ => ⟨u.slots, k b u q⟩
  free := fun b u q n _ => by rw [upd_ne (Nat.ne_of_lt (Nat.lt_of_lt_of_le (Heap.lt_size q) hp))]; exact n
  there := fun b u q _ => ⟨u, k b u q⟩
  tups := fun b xs q => by rw [upd_ne (ne_of_none q hn)]; exact q
  frzs := fun b u xs q => by rw [upd_ne (ne_of_none q hn)]; exact q
  tbls := fun b ps q => ⟨#[], by rw [upd_ne (ne_of_none q hn), q]; simp⟩
theorem Un.write (mu : Mut (H x)) (he : e = x ∨ H e = some (.own x)) (k : ∀ b u, b ≠ e → h.get? b = some u → h'.get? b = some u) (heo : ∃ u, h'.get? e = some u) : Un fs ex H (upd H x o) h h' := by
  have hx : ∀ b, H b = none → b ≠ x := fun b n z => by subst z; rw [n] at mu; exact mu
  have hb : ∀ b, H b = none → b ≠ e := fun b n z => by
    subst z
    rcases he with r | r
    · exact hx b n r
    · rw [n] at r; cases r
  have hm : ∀ b u, H b = some u → ¬ Mut (some u) → b ≠ x := fun b u q nm z => by subst z; rw [q] at mu; exact nm mu
  refine ⟨fun b u q n _ _ => k b u (hb b n) q, fun b u q n _ _ => ⟨u.slots, k b u (hb b n) q⟩, fun b u q n _ => by rw [upd_ne (hx b n)]; exact n, fun b u q _ => ?_,
    fun b xs q => by rw [upd_ne (hm b _ q fun z => z)]; exact q, fun b u xs q => by rw [upd_ne (hm b _ q fun z => z)]; exact q, fun b ps q => ⟨#[], by rw [upd_ne (hm b _ q fun z => z), q]; simp⟩⟩
  by_cases hbe : b = e
  · subst hbe; exact heo
  · exact ⟨u, k b u hbe q⟩
end
def trk (h : Heap) (H : Hp) : List Addr := (List.range h.objs.size).filter fun a => (H a).isSome
def hidT (h : Heap) (H : Hp) : Heap := PySem.W.hideAll h (trk h H)
theorem hidT_size (h : Heap) (H : Hp) : (hidT h H).objs.size = h.objs.size := PySem.W.hideAll_size _ _
theorem hidT_get {h : Heap} {H : Hp} {b : Addr} {o : Obj} (e : h.get? b = some o) (n : H b = none) : (hidT h H).get? b = some o :=
  PySem.W.hideAll_get _ e fun hm => by
    have q : (H b).isSome = true := (List.mem_filter.mp hm).2
    rw [n] at q; simp at q
theorem of_hidT {h : Heap} {H : Hp} {b : Addr} {o : Obj} (e : (hidT h H).get? b = some o) : h.get? b = some o ∧ H b = none := by
  have e' : h.get? b = some o := PySem.W.of_hideAll (trk h H) e
  refine ⟨e', ?_⟩
  cases q : H b with
  | none => rfl
  | some x =>
    have hm : b ∈ trk h H := List.mem_filter.mpr ⟨List.mem_range.mpr (Heap.lt_size e'), by simp [q]⟩
    have z : (hidT h H).get? b = none := PySem.W.hideAll_none (trk h H) hm
    rw [z] at e; cases e
end L2
namespace L2
open PySem PySem.Spec PyProof.Rows
structure Mod (K : PySem.W.Frag) (mg : Str → Option Value) (base : Heap) : Prop where
  kin : K.In base
  glob : base.Ns mainGlobals mg
  blt : ∃ mb, base.Ns builtinsNs mb ∧ ∀ x : Str, x ≠ "__name__" → mb x = bootBuiltins x
  nolimit : base.NoLimit
structure Cx where
  prog : Program
  w : World
  K : PySem.W.Frag
  mg : Str → Option Value
  base : Heap
  A : Around
  N : List Str
  s₀ : Shared
  H₀ : Hp
  env : Env
  outer : List Env
  stack : List Env
  ex : List Addr
  fn : Str → Bool
  calm : Bool
  pn : List (Addr × Obj)
  xe : Value → Shared → Prop
def frs (l : List Env) : List Addr := l.filterMap (·.frame)
abbrev Cx.fs (X : Cx) : List Addr := frs X.outer
def Vis (sc : Scope) (x : Str) : Prop := sc.names.lookup x = some .local ∨ sc.names.lookup x = some .cell ∨ sc.names.lookup x = some .free
def Loc (sc : Scope) (x : Str) : Prop := sc.names.lookup x = some .local ∨ sc.names.lookup x = some .cell
def Look (env : Env) (h : Heap) (m : Str → Option Value) (x : Str) (u : Value) : Prop :=
  (env.kindOf x = some .local ∧ m x = some u) ∨ ((env.kindOf x = some .cell ∨ env.kindOf x = some .free) ∧ ∃ c, env.cells.lookup x = some c ∧ h.IsCell c (some u))
structure Cx.Ok (X : Cx) : Prop where
  mod : Mod X.K X.mg X.base
  kind : X.env.scope.kind = .function
  glob : X.env.globals = mainGlobals
  blt : X.env.builtins = builtinsNs
  above : X.s₀.heap.objs.size ≤ X.env.locals
  inj : ∀ x y c, X.env.cells.lookup x = some c → X.env.cells.lookup y = some c → x = y
  has : ∀ x, (X.env.kindOf x = some .cell ∨ X.env.kindOf x = some .free) → ∃ c, X.env.cells.lookup x = some c
  cab : ∀ x c, X.fn x = true → X.env.cells.lookup x = some c → X.s₀.heap.objs.size ≤ c
  hd : X.calm = true → X.A.handled = none
  frames : X.A.frames = some X.stack
  stk : X.stack = X.outer ∨ (X.stack = X.env :: X.outer ∧ X.env.frame = some X.env.locals)
  exf : ∀ b ∈ X.ex, b ≠ X.env.locals ∧ ∀ x c, X.env.cells.lookup x = some c → c ≠ b
  bs : ∀ b o, X.base.get? b = some o → X.s₀.heap.get? b = some o ∧ X.H₀ b = none
  bsz : X.base.objs.size ≤ X.s₀.heap.objs.size
  noex : ∀ b o, X.base.get? b = some o → b ∉ X.ex
  exfs : ∀ b ∈ X.ex, b ∉ X.fs
  funs : X.s₀.heap.FunFrames X.base X.outer
  frf : ∀ b ∈ X.fs, X.H₀ b = none
structure Inv (X : Cx) (pins : List (Addr × Obj)) (σ : List (Option V)) (H : Hp) (s : Shared) : Prop where
  ok : X.Ok
  os : s.os = X.s₀.os
  bare : AllBare s.gens
  base : Un X.fs X.ex X.H₀ H X.s₀.heap s.heap
  loc : ∃ m, s.heap.Ns X.env.locals m ∧ ∀ (i : Nat) (x : Str) (v : V), X.N[i]? = some x → σ[i]? = some (some v) → Vis X.env.scope x → ∃ u, RelV v u ∧ Look X.env s.heap m x u
  cell : ∀ x c, X.env.cells.lookup x = some c → ∃ v, s.heap.IsCell c v
  free : H X.env.locals = none
  freeC : ∀ x c, X.env.cells.lookup x = some c → H c = none
  pin : ∀ p ∈ X.pn ++ pins, s.heap.get? p.1 = some p.2 ∧ H p.1 = none ∧ p.1 ≠ X.env.locals ∧ p.1 ∉ X.fs ∧ ∀ v, p.2.data ≠ .cell v
  hok : HOk X.prog X.w H s.heap
  len : σ.length = X.N.length
section
variable {X : Cx} {pins : List (Addr × Obj)} {σ : List (Option V)} {H H' : Hp} {s : Shared} {h' : Heap}
theorem Cx.Ok.nofr (ok : X.Ok) {b : Addr} {o : Obj} (e : X.base.get? b = some o) : b ∉ X.fs := fun hb => by
  have := (ok.funs.mem hb).1
  rw [e] at this; cases this
theorem Inv.bs (I : Inv X pins σ H s) : ∀ b o, X.base.get? b = some o → s.heap.get? b = some o ∧ H b = none := fun b o e =>
  ⟨I.base.keep b o (I.ok.bs b o e).1 (I.ok.bs b o e).2 (I.ok.nofr e) (I.ok.noex b o e), I.base.free b o (I.ok.bs b o e).1 (I.ok.bs b o e).2 (I.ok.noex b o e)⟩
theorem Inv.bk (I : Inv X pins σ H s) : ∀ b o, X.base.get? b = some o → s.heap.get? b = some o := fun b o e => (I.bs b o e).1
theorem Inv.mod (I : Inv X pins σ H s) : Mod X.K X.mg X.base := I.ok.mod
theorem Inv.kIn (I : Inv X pins σ H s) : X.K.In s.heap := I.ok.mod.kin.keeps I.bk
theorem Inv.nolimit (I : Inv X pins σ H s) : s.heap.NoLimit := I.ok.mod.nolimit.keeps I.bk
theorem Inv.lt (I : Inv X pins σ H s) : X.env.locals < s.heap.objs.size := let ⟨_, hn, _⟩ := I.loc; hn.lt
theorem Inv.sz (I : Inv X pins σ H s) : X.s₀.heap.objs.size ≤ s.heap.objs.size := Nat.le_trans I.ok.above (Nat.le_of_lt I.lt)
theorem Inv.nofs (I : Inv X pins σ H s) {a : Addr} (h : s.heap.objs.size ≤ a) : a ∉ X.fs := fun hb => by
  obtain ⟨_, o, ho, _⟩ := I.ok.funs.mem hb
  exact absurd (Nat.lt_of_lt_of_le (Heap.lt_size ho) (Nat.le_trans I.sz h)) (Nat.lt_irrefl _)
theorem Inv.cne (I : Inv X pins σ H s) : ∀ x c, X.env.cells.lookup x = some c → c ≠ X.env.locals := fun x c e z => by
  obtain ⟨v, o, ho, hd⟩ := I.cell x c e
  obtain ⟨m, ⟨o', es, ep, ho', hd', _⟩, _⟩ := I.loc
  rw [z, ho'] at ho; cases ho; rw [hd'] at hd; cases hd
theorem Inv.funs (I : Inv X pins σ H s) : s.heap.FunFrames X.base X.outer := by
  have all : ∀ (l : List Env), (∀ b ∈ frs l, b ∈ X.fs) → X.s₀.heap.FunFrames X.base l → s.heap.FunFrames X.base l := by
    intro l
    induction l with
    | nil => intro _ _; trivial
    | cons env r ih =>
      intro hs hl
      obtain ⟨hk, ⟨L, o, hf, hn, ho, hd⟩, hr⟩ := hl
      have hL : L ∈ X.fs := hs L (by unfold frs; rw [List.filterMap_cons, hf]; exact List.mem_cons_self)
      obtain ⟨sl, e⟩ := I.base.slot L o ho (I.ok.frf L hL) hL fun z => I.ok.exfs L z hL
      exact ⟨hk, ⟨L, _, hf, hn, e, hd⟩, ih (fun b hb => hs b (by unfold frs; rw [List.filterMap_cons, hf]; exact List.mem_cons_of_mem _ hb)) hr⟩
  exact all X.outer (fun _ hb => hb) I.ok.funs
theorem Inv.stack (I : Inv X pins σ H s) : s.heap.FunFrames X.base X.stack := by
  rcases I.ok.stk with e | ⟨e, hf⟩
  · rw [e]; exact I.funs
  · rw [e]
    obtain ⟨m, hn, _⟩ := I.loc
    refine .cons (by rw [I.ok.kind]; decide) hf hn ?_ I.funs
    exact Heap.get?_none_of_le (Nat.le_trans I.ok.bsz I.ok.above)
theorem Inv.stkSub (I : Inv X pins σ H s) : ∀ b ∈ frs X.stack, b ∈ X.env.locals :: X.fs := fun b hb => by
  rcases I.ok.stk with e | ⟨e, hf⟩
  · rw [e] at hb; exact List.mem_cons_of_mem _ hb
  · rw [e] at hb
    unfold frs at hb
    rw [List.filterMap_cons, hf] at hb
    exact hb
theorem Inv.stkFree (I : Inv X pins σ H s) : ∀ b ∈ frs X.stack, H b = none := fun b hb => by
  rcases List.mem_cons.mp (I.stkSub b hb) with e | hb
  · rw [e]; exact I.free
  · obtain ⟨_, o, ho, _⟩ := I.ok.funs.mem hb
    exact I.base.free b o ho (I.ok.frf b hb) fun z => I.ok.exfs b z hb
theorem Inv.step {g' : Array GenState} {t' : Nat} {d' : Drawn} {ch : List Addr} (I : Inv X pins σ H s)
    (hch : ∀ b ∈ ch, (b ∈ X.ex ∨ X.s₀.heap.objs.size ≤ b) ∧ b ≠ X.env.locals ∧ (∀ x c, X.env.cells.lookup x = some c → c ≠ b) ∧ ∀ p ∈ X.pn ++ pins, p.1 ≠ b)
    (keep : ∀ b o, b ≠ X.env.locals → b ∉ X.fs → b ∉ ch → s.heap.get? b = some o → H b = none → h'.get? b = some o)
    (slot : ∀ b o, b ≠ X.env.locals → b ∈ X.fs → b ∉ ch → s.heap.get? b = some o → H b = none → ∃ sl, h'.get? b = some { o with slots := sl }) (free : ∀ b o, b ∉ ch → s.heap.get? b = some o → H b = none → H' b = none)
    (there : ∀ b o, b ∉ ch → s.heap.get? b = some o → ∃ o', h'.get? b = some o')
    (tups : ∀ b xs, H b = some (.tup xs) → H' b = some (.tup xs)) (frzs : ∀ b o u, H b = some (.frz o u) → H' b = some (.frz o u)) (tbls : ∀ b ps, H b = some (.tbl ps) → ∃ more, H' b = some (.tbl (ps ++ more)))
    (ns : ∀ m, s.heap.Ns X.env.locals m → h'.Ns X.env.locals m) (hok : HOk X.prog X.w H' h') (hg : AllBare g') :
    Inv X pins σ H' { s with heap := h', gens := g', drawn := d', toks := t' } := by
  have neL : ∀ b o, X.s₀.heap.get? b = some o → b ≠ X.env.locals := fun b o e => Nat.ne_of_lt (Nat.lt_of_lt_of_le (Heap.lt_size e) I.ok.above)
  have neC : ∀ b o, X.s₀.heap.get? b = some o → b ∉ X.ex → b ∉ ch := fun b o e hx hb => by
    rcases (hch b hb).1 with z | z
    · exact hx z
    · exact absurd (Nat.lt_of_lt_of_le (Heap.lt_size e) z) (Nat.lt_irrefl _)
  have cellK : ∀ x c, X.env.cells.lookup x = some c → ∀ v, s.heap.IsCell c v → h'.IsCell c v := fun x c e v ⟨o, ho, hd⟩ => by
    have nch : c ∉ ch := fun z => (hch c z).2.2.1 x c e rfl
    by_cases hc : c ∈ X.fs
    · obtain ⟨sl, q⟩ := slot c o (I.cne x c e) hc nch ho (I.freeC x c e)
      exact ⟨_, q, hd⟩
    · exact ⟨o, keep c o (I.cne x c e) hc nch ho (I.freeC x c e), hd⟩
  refine ⟨I.ok, I.os, hg, ⟨fun b o e n hb hx => ?_, fun b o e n hb hx => ?_, fun b o e n hx => ?_, fun b o e hx => ?_, fun b xs e => tups b xs (I.base.tups b xs e), fun b o xs e => frzs b o xs (I.base.frzs b o xs e), fun b ps e => ?_⟩, ?_, fun x c e => ?_, ?_, fun x c e => ?_, fun p hp => ?_, hok, I.len⟩
  · exact keep b o (neL b o e) hb (neC b o e hx) (I.base.keep b o e n hb hx) (I.base.free b o e n hx)
  · obtain ⟨sl, e1⟩ := I.base.slot b o e n hb hx
    obtain ⟨sl', e2⟩ := slot b _ (neL b o e) hb (neC b o e hx) e1 (I.base.free b o e n hx)
    exact ⟨sl', e2⟩
  · obtain ⟨o', e1⟩ := I.base.there b o e hx
    exact free b o' (neC b o e hx) e1 (I.base.free b o e n hx)
  · obtain ⟨o', e1⟩ := I.base.there b o e hx
    exact there b o' (neC b o e hx) e1
  · obtain ⟨m1, e1⟩ := I.base.tbls b ps e
    obtain ⟨m2, e2⟩ := tbls b _ e1
    exact ⟨m1 ++ m2, by rw [e2, Array.append_assoc]⟩
  · obtain ⟨m, hn, hl⟩ := I.loc
    refine ⟨m, ns m hn, fun i x v e1 e2 e3 => ?_⟩
    obtain ⟨u, r, l⟩ := hl i x v e1 e2 e3
    refine ⟨u, r, ?_⟩
    rcases l with l | ⟨k, c, e, z⟩
    · exact .inl l
    · exact .inr ⟨k, c, e, cellK x c e _ z⟩
  · obtain ⟨v, z⟩ := I.cell x c e
    exact ⟨v, cellK x c e v z⟩
  · obtain ⟨m, ⟨o, _, _, ho, _⟩, _⟩ := I.loc
    exact free _ o (fun z => (hch _ z).2.1 rfl) ho I.free
  · obtain ⟨v, o, ho, hd⟩ := I.cell x c e
    exact free c o (fun z => (hch c z).2.2.1 x c e rfl) ho (I.freeC x c e)
  · obtain ⟨e, n, ne, nf, d⟩ := I.pin p hp
    have nch : p.1 ∉ ch := fun z => (hch p.1 z).2.2.2 p hp rfl
    exact ⟨keep p.1 p.2 ne nf nch e n, free p.1 p.2 nch e n, ne, nf, d⟩
theorem Inv.un {t' : Nat} (I : Inv X pins σ H s) (u : Un X.fs [] H H' s.heap h') (hok : HOk X.prog X.w H' h') : Inv X pins σ H' { s with heap := h', toks := t' } := by
  obtain ⟨m, ⟨o, es, ep, ho, r⟩, _⟩ := id I.loc
  obtain ⟨sl, hL⟩ := u.any ho I.free (by simp)
  exact I.step (g' := s.gens) (d' := s.drawn) (ch := []) (fun _ z => nomatch z) (fun b o _ hb _ e n => u.keep b o e n hb (by simp)) (fun b o _ hb _ e n => u.slot b o e n hb (by simp)) (fun b o _ e n => u.free b o e n (by simp)) (fun b o _ e => u.there b o e (by simp)) u.tups u.frzs u.tbls (fun m' hm => by
    obtain ⟨o', es', ep', ho', r'⟩ := hm
    rw [ho] at ho'; cases ho'
    exact ⟨_, es', ep', hL, r'⟩) hok I.bare
theorem Inv.call {g' : Array GenState} {t' : Nat} {d' : Drawn} {ch : List Addr} (I : Inv X pins σ H s) (u : Un (frs X.stack) ch H H' s.heap h') (hok : HOk X.prog X.w H' h') (hg : AllBare g')
    (hch : ∀ b ∈ ch, (b ∈ X.ex ∨ X.s₀.heap.objs.size ≤ b) ∧ b ≠ X.env.locals ∧ (∀ x c, X.env.cells.lookup x = some c → c ≠ b) ∧ ∀ p ∈ X.pn ++ pins, p.1 ≠ b) :
    Inv X pins σ H' { s with heap := h', gens := g', drawn := d', toks := t' } := by
  obtain ⟨m, ⟨o, es, ep, ho, r⟩, _⟩ := id I.loc
  obtain ⟨sl, hL⟩ := u.any ho I.free fun z => (hch _ z).2.1 rfl
  exact I.step (ch := ch) hch (fun b o hL hb hc e n => u.keep b o e n (fun z => (List.mem_cons.mp (I.stkSub b z)).elim hL hb) hc) (fun b o _ _ hc e n => u.any e n hc) (fun b o hc e n => u.free b o e n hc) (fun b o hc e => u.there b o e hc) u.tups u.frzs u.tbls (fun m' hm => by
    obtain ⟨o', es', ep', ho', r'⟩ := hm
    rw [ho] at ho'; cases ho'
    exact ⟨_, es', ep', hL, r'⟩) hok hg
theorem Inv.turned {t' : Nat} {it : Addr} (I : Inv X pins σ H s) (k : ∀ b o, b ≠ it → s.heap.get? b = some o → h'.get? b = some o) (hn : H it = none) (hL : it ≠ X.env.locals)
    (h1 : it ∈ X.ex ∨ X.s₀.heap.objs.size ≤ it) (h2 : ∀ x c, X.env.cells.lookup x = some c → c ≠ it) (h3 : ∀ p ∈ X.pn ++ pins, p.1 ≠ it) : Inv X pins σ H { s with heap := h', toks := t' } := by
  have nit : ∀ b u, H b = some u → b ≠ it := fun b u e z => by rw [z, hn] at e; cases e
  refine I.step (g' := s.gens) (d' := s.drawn) (ch := [it]) (fun b hb => ?_) (fun b o _ _ hc e _ => k b o (fun z => hc (by simp [z])) e) (fun b o _ _ hc e _ => ⟨o.slots, k b o (fun z => hc (by simp [z])) e⟩) (fun _ _ _ _ n => n)
    (fun b o hc e => ⟨o, k b o (fun z => hc (by simp [z])) e⟩) (fun _ _ e => e) (fun _ _ _ e => e) (fun b ps e => ⟨#[], by rw [e]; simp⟩) (fun m hm => ?_) (fun b u e => ?_) I.bare
  · have e : b = it := by simpa using hb
    subst e
    exact ⟨h1, hL, h2, h3⟩
  · obtain ⟨o, es, ep, ho, r⟩ := hm
    exact ⟨o, es, ep, k _ o (Ne.symm hL) ho, r⟩
  · refine (I.hok b u e).stay (fun c v hc q => k c v ?_ q) (fun _ q => q) fun _ _ q => q
    rcases hc with z | z
    · rw [z]; exact nit b u e
    · exact nit c _ z
theorem Inv.tok (I : Inv X pins σ H s) (t : Nat) : Inv X pins σ H { s with toks := t } := I.un (h' := s.heap) (t' := t) Un.refl I.hok
theorem Inv.kept {t' : Nat} (I : Inv X pins σ H s) (k : ∀ b u, s.heap.get? b = some u → h'.get? b = some u) : Inv X pins σ H { s with heap := h', toks := t' } := I.un (Un.kept k) (I.hok.kept k)
theorem Inv.laid {a : Addr} {o : HO} {t' : Nat} (I : Inv X pins σ H s) (k : ∀ b u, s.heap.get? b = some u → h'.get? b = some u) (hp : s.heap.objs.size ≤ a) (new : ObjOk X.prog X.w (upd H a o) h' a o) :
    Inv X pins σ (upd H a o) { s with heap := h', toks := t' } := I.un (Un.laid k hp (I.hok.fresh hp)) (I.hok.laid k hp new)
theorem Inv.write {x e : Addr} {o : HO} {t' : Nat} (I : Inv X pins σ H s) (mu : Mut (H x)) (he : e = x ∨ H e = some (.own x)) (k : ∀ b u, b ≠ e → s.heap.get? b = some u → h'.get? b = some u) (heo : ∃ u, h'.get? e = some u)
    (new : ObjOk X.prog X.w (upd H x o) h' x o) : Inv X pins σ (upd H x o) { s with heap := h', toks := t' } := I.un (Un.write mu he k heo) (I.hok.write mu he k heo new)
theorem Inv.pins_of {pins' : List (Addr × Obj)} (I : Inv X pins σ H s) (h : ∀ p ∈ pins', s.heap.get? p.1 = some p.2 ∧ H p.1 = none ∧ p.1 ≠ X.env.locals ∧ p.1 ∉ X.fs ∧ ∀ v, p.2.data ≠ .cell v) : Inv X pins' σ H s :=
  ⟨I.ok, I.os, I.bare, I.base, I.loc, I.cell, I.free, I.freeC, fun p hp => (List.mem_append.mp hp).elim (fun z => I.pin p (List.mem_append_left _ z)) (h p), I.hok, I.len⟩
theorem nodup_ix {N : List Str} (hN : N.Nodup) {i j : Nat} {x : Str} (a : N[i]? = some x) (b : N[j]? = some x) : i = j := by
  obtain ⟨h1, e1⟩ := List.getElem?_eq_some_iff.mp a
  obtain ⟨h2, e2⟩ := List.getElem?_eq_some_iff.mp b
  exact (List.getElem_inj hN).mp (e1.trans e2.symm)
theorem store_ok2 {M : Model} {A : Around} {E : Value → Shared → Prop} {i : Nat} {x : Str} {v : V} {u : Value} {Q : Unit → Shared → Prop} (I : Inv X pins σ H s) (hN : X.N.Nodup) (hi : X.N[i]? = some x) (hx : Loc X.env.scope x) (r : RelV v u)
    (h : ∀ s', Inv X pins (σ.set i (some v)) H s' → (∃ a, Heap.SameBut a s.heap s'.heap ∧ (a = X.env.locals ∨ X.env.cells.lookup x = some a)) → Q () s') (hf : X.fn x = true ∨ X.env.scope.names.lookup x = some .local := by first | exact .inl rfl | exact .inr rfl | assumption) : wpAny M A (storeName X.env x u) Q E s := by
  obtain ⟨m, hn, hl⟩ := id I.loc
  have hcls : (X.env.scope.kind == .class || (X.env.scope.kind == .module && X.env.locals != X.env.globals)) = false := by rw [I.ok.kind]; rfl
  have hiσ : i < σ.length := by rw [I.len]; exact (List.getElem?_eq_some_iff.mp hi).1
  have cne := I.cne
  have tracked : ∀ {a : Addr} {h' : Heap}, (∃ o, s.heap.get? a = some o ∧ H a = none) → Heap.SameBut a s.heap h' → HOk X.prog X.w H h' := fun {a h'} ha hs b ob e => by
    obtain ⟨_, _, hfree⟩ := ha
    refine (I.hok b ob e).stay (fun c w' hc q => (hs.2 c ?_).trans q) (fun _ q => q) fun _ _ q => q
    rintro rfl
    rcases hc with rfl | hc
    · rw [hfree] at e; cases e
    · rw [hfree] at hc; cases hc
  rcases hx with hk | hk
  · refine wpAny_storeName_local hk hn (fun h' hn' hs => ?_) hcls
    obtain ⟨oL, _, _, hoL, _⟩ := id hn
    refine h _ ⟨I.ok, I.os, I.bare, ⟨fun b o e n hb hx => ?_, fun b o e n hb hx => ?_, I.base.free, fun b o e hx => ?_, I.base.tups, I.base.frzs, I.base.tbls⟩, ⟨_, hn', fun j y v' e1 e2 e3 => ?_⟩, fun y c e => ?_, I.free, I.freeC, fun p hp => ?_, tracked ⟨oL, hoL, I.free⟩ hs, by simpa using I.len⟩ ⟨_, hs, .inl rfl⟩
    · exact (hs.2 b (Nat.ne_of_lt (Nat.lt_of_lt_of_le (Heap.lt_size e) I.ok.above))).trans (I.base.keep b o e n hb hx)
    · obtain ⟨sl, e1⟩ := I.base.slot b o e n hb hx
      exact ⟨sl, (hs.2 b (Nat.ne_of_lt (Nat.lt_of_lt_of_le (Heap.lt_size e) I.ok.above))).trans e1⟩
    · obtain ⟨o', e1⟩ := I.base.there b o e hx
      exact ⟨o', (hs.2 b (Nat.ne_of_lt (Nat.lt_of_lt_of_le (Heap.lt_size e) I.ok.above))).trans e1⟩
    · by_cases hj : j = i
      · subst hj
        rw [hi] at e1; cases e1
        rw [List.getElem?_set_self hiσ] at e2
        cases e2
        exact ⟨u, r, .inl ⟨hk, by simp⟩⟩
      · rw [List.getElem?_set_ne (Ne.symm hj)] at e2
        obtain ⟨u', r', q⟩ := hl j y v' e1 e2 e3
        refine ⟨u', r', ?_⟩
        rcases q with ⟨k, e⟩ | ⟨k, c, e, z⟩
        · refine .inl ⟨k, ?_⟩
          have : y ≠ x := fun e => hj (nodup_ix hN e1 (e ▸ hi))
          simp [this, e]
        · exact .inr ⟨k, c, e, z.sameBut hs (cne y c e)⟩
    · obtain ⟨w', z⟩ := I.cell y c e
      exact ⟨w', z.sameBut hs (cne y c e)⟩
    · obtain ⟨e, n, ne, nf, d⟩ := I.pin p hp
      exact ⟨(hs.2 p.1 ne).trans e, n, ne, nf, d⟩
  · have hfn : X.fn x = true := by
      rcases hf with z | z
      · exact z
      · rw [z] at hk; cases hk
    obtain ⟨c, hc⟩ := I.ok.has x (.inl hk)
    obtain ⟨w', z⟩ := I.cell x c hc
    refine wpAny_storeName_cell I.ok.kind hk hc z (fun h' hc' hs => ?_)
    obtain ⟨oc, hoc, hocd⟩ := id z
    refine h { s with heap := h' } ⟨I.ok, I.os, I.bare, ⟨fun b o e n hb hx => ?_, fun b o e n hb hx => ?_, I.base.free, fun b o e hx => ?_, I.base.tups, I.base.frzs, I.base.tbls⟩, ⟨m, hn.sameBut hs (Ne.symm (cne x c hc)), fun j y v' e1 e2 e3 => ?_⟩, fun y c' e => ?_, I.free, I.freeC, fun p hp => ?_, tracked ⟨oc, hoc, I.freeC x c hc⟩ hs, by simpa using I.len⟩ ⟨c, hs, .inr hc⟩
    · exact (hs.2 b (Nat.ne_of_lt (Nat.lt_of_lt_of_le (Heap.lt_size e) (I.ok.cab x c hfn hc)))).trans (I.base.keep b o e n hb hx)
    · obtain ⟨sl, e1⟩ := I.base.slot b o e n hb hx
      exact ⟨sl, (hs.2 b (Nat.ne_of_lt (Nat.lt_of_lt_of_le (Heap.lt_size e) (I.ok.cab x c hfn hc)))).trans e1⟩
    · obtain ⟨o', e1⟩ := I.base.there b o e hx
      exact ⟨o', (hs.2 b (Nat.ne_of_lt (Nat.lt_of_lt_of_le (Heap.lt_size e) (I.ok.cab x c hfn hc)))).trans e1⟩
    · by_cases hj : j = i
      · subst hj
        rw [hi] at e1; cases e1
        rw [List.getElem?_set_self hiσ] at e2
        cases e2
        exact ⟨u, r, .inr ⟨.inl hk, c, hc, hc'⟩⟩
      · rw [List.getElem?_set_ne (Ne.symm hj)] at e2
        obtain ⟨u', r', q⟩ := hl j y v' e1 e2 e3
        refine ⟨u', r', ?_⟩
        rcases q with q | ⟨k, c', e, z'⟩
        · exact .inl q
        · refine .inr ⟨k, c', e, z'.sameBut hs ?_⟩
          rintro rfl
          exact hj (nodup_ix hN e1 (I.ok.inj _ _ _ e hc ▸ hi))
    · by_cases hcc : c' = c
      · subst hcc; exact ⟨_, hc'⟩
      · obtain ⟨w2, z2⟩ := I.cell y c' e
        exact ⟨w2, z2.sameBut hs hcc⟩
    · obtain ⟨e, n, ne, nf, d⟩ := I.pin p hp
      refine ⟨(hs.2 p.1 ?_).trans e, n, ne, nf, d⟩
      intro q
      rw [q, hoc] at e
      have q' : oc = p.2 := Option.some.inj e
      exact d w' (by rw [← q']; exact hocd)
theorem store_ok {M : Model} {A : Around} {E : Value → Shared → Prop} {i : Nat} {x : Str} {v : V} {u : Value} {Q : Unit → Shared → Prop} (I : Inv X pins σ H s) (hN : X.N.Nodup) (hi : X.N[i]? = some x) (hx : Loc X.env.scope x) (r : RelV v u)
    (h : ∀ s', Inv X pins (σ.set i (some v)) H s' → Q () s') (hf : X.fn x = true ∨ X.env.scope.names.lookup x = some .local := by first | exact .inl rfl | exact .inr rfl | assumption) : wpAny M A (storeName X.env x u) Q E s :=
  store_ok2 I hN hi hx r (fun s' I' _ => h s' I') hf
end
abbrev XK := Value → Option Addr → Hp → Prop
abbrev St := List (Option V)
abbrev VK := V → Hp → Prop
abbrev TE := St → Hp → VK → Prop
abbrev TT := St → Hp → (Bool → Hp → Prop) → Prop
abbrev TA := St → Hp → (List V → Hp → Prop) → Prop
structure Ends where
  nx : St → Hp → Prop
  rt : VK
  bk : St → Hp → Prop := fun _ _ => False
  ct : St → Hp → Prop := fun _ _ => False
abbrev TS := Ends → St → Hp → Prop
def EP (X : Cx) (pins : List (Addr × Obj)) (σ : St) (Q : VK) (u : Value) (s' : Shared) : Prop := ∃ v H', Inv X pins σ H' s' ∧ RelV v u ∧ Q v H'
def TP (X : Cx) (pins : List (Addr × Obj)) (σ : St) (Q : Bool → Hp → Prop) (b : Bool) (s' : Shared) : Prop := ∃ H', Inv X pins σ H' s' ∧ Q b H'
def AP (X : Cx) (pins : List (Addr × Obj)) (σ : St) (Q : List V → Hp → Prop) (us : List Value) (s' : Shared) : Prop := ∃ vs H', Inv X pins σ H' s' ∧ Vals vs us ∧ Q vs H'
def SP (X : Cx) (pins : List (Addr × Obj)) (D : Ends) (f : Flow) (s' : Shared) : Prop :=
  match f with
  | .next => ∃ σ' H', Inv X pins σ' H' s' ∧ D.nx σ' H'
  | .brk => ∃ σ' H', Inv X pins σ' H' s' ∧ D.bk σ' H'
  | .cont => ∃ σ' H', Inv X pins σ' H' s' ∧ D.ct σ' H'
  | .ret u => ∃ v σ' H', Inv X pins σ' H' s' ∧ RelV v u ∧ D.rt v H'
def PE (X : Cx) (e : Expr) (t : TE) : Prop :=
  ∀ (pins : List (Addr × Obj)) (s : Shared) (σ : St) (H : Hp) (Q : VK), Inv X pins σ H s → t σ H Q → wpAny (model X.prog X.w) X.A (eval e X.env) (EP X pins σ Q) X.xe s
def PT (X : Cx) (e : Expr) (t : TT) : Prop :=
  ∀ (pins : List (Addr × Obj)) (s : Shared) (σ : St) (H : Hp) (Q : Bool → Hp → Prop), Inv X pins σ H s → t σ H Q → wpAny (model X.prog X.w) X.A (isTrue e X.env (eval e X.env)) (TP X pins σ Q) X.xe s
def PW (X : Cx) (e : Expr) (t : TT) : Prop :=
  ∀ (whole : Sem Value) (pins : List (Addr × Obj)) (s : Shared) (σ : St) (H : Hp) (Q : Bool → Hp → Prop), Inv X pins σ H s → t σ H Q → wpAny (model X.prog X.w) X.A (isTrue e X.env whole) (TP X pins σ Q) X.xe s
theorem PW.pt {X : Cx} {e : Expr} {t : TT} (h : PW X e t) : PT X e t := h _
def PA (X : Cx) (es : List Expr) (t : TA) : Prop :=
  ∀ (pos : Pos) (pins : List (Addr × Obj)) (s : Shared) (σ : St) (H : Hp) (Q : List V → Hp → Prop), Inv X pins σ H s → t σ H Q → wpAny (model X.prog X.w) X.A (spliced (backTo pos (starEach es X.env))) (AP X pins σ Q) X.xe s
def PS (X : Cx) (st : Stmt) (t : TS) : Prop :=
  ∀ (pins : List (Addr × Obj)) (s : Shared) (σ : St) (H : Hp) (D : Ends), Inv X pins σ H s → t D σ H → wpAny (model X.prog X.w) X.A (exec st X.env) (SP X pins D) X.xe s
def PSs (X : Cx) (st : List Stmt) (t : TS) : Prop :=
  ∀ (pins : List (Addr × Obj)) (s : Shared) (σ : St) (H : Hp) (D : Ends), Inv X pins σ H s → t D σ H → wpAny (model X.prog X.w) X.A (execs st X.env) (SP X pins D) X.xe s
theorem thn {α : Type} {t : Sem α} {Q Q' : α → Shared → Prop} {M : Model} {A : Around} {E : Value → Shared → Prop} {s : Shared} (h : wpAny M A t Q E s) (hQ : ∀ a s, Q a s → Q' a s) : wpAny M A t Q' E s := wpAny_mono h hQ fun _ _ x => x
end L2
namespace L2
open PySem PySem.Spec PyProof.Rows
section
variable {X : Cx}
def tVar (i : Nat) : TE := fun σ H Q => ∃ v, σ[i]? = some (some v) ∧ Q v H
def tC (v : V) : TE := fun _ H Q => Q v H
theorem pe_var {i : Nat} {x : Str} {pos : Pos} (hN : X.N[i]? = some x) (hv : Vis X.env.scope x) (hd : (x == ("__debug__" : Str)) = false := by decide) (hcd : (x == ("__classdict__" : Str)) = false := by decide) : PE X (.Name x pos) (tVar i) := by
  intro pins s σ H Q I h
  obtain ⟨v, e, h⟩ := h
  obtain ⟨m, hn, hl⟩ := I.loc
  obtain ⟨u, r, l⟩ := hl i x v hN e hv
  have fin : EP X pins σ Q u s := ⟨v, H, I, r, h⟩
  rcases l with ⟨hk, hm⟩ | ⟨hk, c, hc, hcell⟩
  · exact wpAny_Name (wpAny_loadName_local I.ok.kind hk hn hm fin) hd
  · rcases hk with hk | hk
    · exact wpAny_Name (wpAny_loadName_cell I.ok.kind hk hc hcell fin) hd
    · exact wpAny_Name (wpAny_loadName_free I.ok.kind hk hc hcell fin hcd) hd
theorem pe_int {i j pos} : PE X (.Constant (.int i) j pos) (tC (.int i)) := fun _ _ _ H _ I h => wpAny_Constant_int ⟨.int i, H, I.tok _, ⟨_, rfl⟩, h⟩
theorem pe_bl {b j pos} : PE X (.Constant (.bool b) j pos) (tC (.bl b)) := fun _ _ _ H _ I h => Constant_bool ⟨.bl b, H, I, rfl, h⟩
theorem pe_non {j pos} : PE X (.Constant .none j pos) (tC .non) := fun _ _ _ H _ I h => Constant_none ⟨.non, H, I, rfl, h⟩
theorem pe_str {x j pos} : PE X (.Constant (.str x) j pos) (tC (.str x)) := fun _ _ _ H _ I h => Calls.Constant_str ⟨.str x, H, I.tok _, ⟨_, rfl⟩, h⟩
def Gl (X : Cx) (x : Str) : Prop := X.env.kindOf x = some .globalImplicit
theorem ld_glob {E : Value → Shared → Prop} {pins : List (Addr × Obj)} {s : Shared} {σ : St} {H : Hp} {x : Str} {u : Value} {pos : Pos} {Q : Value → Shared → Prop} (I : Inv X pins σ H s) (hg : Gl X x) (hm : X.mg x = some u) (h : Q u s)
    (hd : (x == ("__debug__" : Str)) = false := by decide) : wpAny (model X.prog X.w) X.A (eval (.Name x pos) X.env) Q E s :=
  Calls.Name_function_global I.ok.kind hg (Calls.loadGlobal_global (by rw [I.ok.glob]; exact I.mod.glob.keeps I.bk) hm h) hd
theorem ld_blt {E : Value → Shared → Prop} {pins : List (Addr × Obj)} {s : Shared} {σ : St} {H : Hp} {x : Str} {u : Value} {pos : Pos} {Q : Value → Shared → Prop} (I : Inv X pins σ H s) (hg : Gl X x) (hm : X.mg x = none) (hv : bootBuiltins x = some u) (h : Q u s)
    (hn : x ≠ "__name__" := by decide) (hd : (x == ("__debug__" : Str)) = false := by decide) : wpAny (model X.prog X.w) X.A (eval (.Name x pos) X.env) Q E s := by
  obtain ⟨mb, h1, h2⟩ := I.mod.blt
  exact Calls.Name_function_global I.ok.kind hg (Calls.loadGlobal_builtin (by rw [I.ok.glob]; exact I.mod.glob.keeps I.bk) hm (by rw [I.ok.blt]; exact h1.keeps I.bk) ((h2 x hn).trans hv) h) hd
theorem pe_glob {x : Str} {v : V} {u : Value} {pos : Pos} (hg : Gl X x) (hm : X.mg x = some u) (r : RelV v u) (hd : (x == ("__debug__" : Str)) = false := by decide) : PE X (.Name x pos) (tC v) :=
  fun _ _ _ H _ I h => ld_glob I hg hm ⟨v, H, I, r, h⟩ hd
theorem pe_bltn {x : Str} {v : V} {u : Value} {pos : Pos} (hg : Gl X x) (hm : X.mg x = none) (hv : bootBuiltins x = some u) (r : RelV v u) (hn : x ≠ "__name__" := by decide) (hd : (x == ("__debug__" : Str)) = false := by decide) : PE X (.Name x pos) (tC v) :=
  fun _ _ _ H _ I h => ld_blt I hg hm hv ⟨v, H, I, r, h⟩ hn hd
variable {a b : Expr} {ta tb : TE} {pos : Pos}
def PC (X : Cx) (op : CmpOp) (a b : Expr) (t : TE) : Prop :=
  ∀ (pins : List (Addr × Obj)) (s : Shared) (σ : St) (H : Hp) (Q : VK), Inv X pins σ H s → t σ H Q →
    wpAny (model X.prog X.w) X.A (eval a X.env) (fun v s₁ => wpAny (model X.prog X.w) X.A (eval b X.env) (fun u s₂ => wpAny (model X.prog X.w) X.A (compareOp op v u) (EP X pins σ Q) X.xe s₂) X.xe s₁) X.xe s
theorem nobehind (b : Expr) {op : CmpOp} (h : op ≠ .In) (h2 : op ≠ .NotIn) : behindInMarks op b = false := by
  have e1 : (op == CmpOp.In) = false := by cases op <;> first | rfl | exact absurd rfl h
  have e2 : (op == CmpOp.NotIn) = false := by cases op <;> first | rfl | exact absurd rfl h2
  cases b <;> simp [behindInMarks, e1, e2]
def tNotN (ta : TE) : TE := fun σ H Q => ta σ H fun x H1 => Q (.bl (!decide (x = .non))) H1
theorem RelV.none_iff {x : V} {v : Value} (r : RelV x v) : (v == Value.none) = decide (x = .non) := by
  cases x with
  | non => cases r; rfl
  | bl _ => cases r; rfl
  | int _ => obtain ⟨t, rfl⟩ := r; rfl
  | str _ => obtain ⟨t, rfl⟩ := r; rfl
  | byt _ => obtain ⟨t, rfl⟩ := r; rfl
  | flt _ => obtain ⟨t, rfl⟩ := r; rfl
  | ref _ => cases r; rfl
  | ty _ => cases r; rfl
theorem pc_notN {j pos'} (ha : PE X a ta) : PC X .IsNot a (.Constant .none j pos') (tNotN ta) := by
  intro pins s σ H Q I h
  refine thn (ha pins s σ H _ I h) fun v s1 ⟨x, H1, I1, r1, q1⟩ => ?_
  exact Constant_none (isnot_none_gen ⟨.bl _, H1, I1, by rw [r1.none_iff]; rfl, q1⟩)
def tB (t : TE) : TT := fun σ H Q => t σ H fun x H1 => ∃ c, x = .bl c ∧ Q c H1
theorem pt_cmp {op : CmpOp} {t : TE} (h : PC X op a b t) (h1 : behindInMarks op b = false := by first | exact nobehind _ (by decide) (by decide) | rfl) : PT X (.Compare a [op] [b] pos) (tB t) := by
  intro pins s σ H Q I hw
  refine wpAny_isTrue_Compare1 (thn (h pins s σ H _ I hw) fun v s1 h1 => thn h1 fun u s2 h2 => thn h2 fun c s3 ⟨x, H1, I1, r1, q1⟩ => ?_) h1
  obtain ⟨d, rfl, q⟩ := q1
  cases r1
  exact wpAny_truthy_bool ⟨H1, I1, q⟩
theorem pt_val {e : Expr} {t : TE} (h : PE X e t) (he : ∀ whole, isTrue e X.env whole = (do let v ← whole; standAt e.pos; holding [v] (truthy v)) := by intro _; rfl) : PT X e (tB t) := by
  intro pins s σ H Q I hw
  refine isTrue_plain (thn (h pins s σ H _ I hw) fun v s1 ⟨x, H1, I1, r1, q1⟩ => ?_) (he _)
  obtain ⟨d, rfl, q⟩ := q1
  cases r1
  exact wpAny_truthy_bool ⟨H1, I1, q⟩
variable {tA tB' : TT} {rest : List Expr}
def tAnd (t u : TT) : TT := fun σ H Q => t σ H fun c H1 => if c = true then u σ H1 Q else Q false H1
def tOr (t u : TT) : TT := fun σ H Q => t σ H fun c H1 => if c = true then Q true H1 else u σ H1 Q
def tNot (t : TT) : TT := fun σ H Q => t σ H fun c H1 => Q (!c) H1
theorem pw_and1 (ha : PT X a tA) : PW X (.BoolOp .And [a] pos) tA := by
  intro wh pins s σ H Q I h
  refine isTrue_and (thn (ha pins s σ H Q I h) fun c s1 e => ?_)
  cases c with
  | true => exact isTrue_and_nil e
  | false => exact e
theorem pw_or1 (ha : PT X a tA) : PW X (.BoolOp .Or [a] pos) tA := by
  intro wh pins s σ H Q I h
  refine isTrue_or (thn (ha pins s σ H Q I h) fun c s1 e => ?_)
  cases c with
  | false => exact isTrue_or_nil e
  | true => exact e
theorem pw_and (ha : PT X a tA) (hb : PW X (.BoolOp .And (b :: rest) pos) tB') : PW X (.BoolOp .And (a :: b :: rest) pos) (tAnd tA tB') := by
  intro wh pins s σ H Q I h
  refine isTrue_and (thn (ha pins s σ H _ I h) fun c s1 ⟨H1, I1, q1⟩ => ?_)
  cases c with
  | true => exact hb wh pins s1 σ H1 Q I1 q1
  | false => exact ⟨H1, I1, q1⟩
theorem pw_or (ha : PT X a tA) (hb : PW X (.BoolOp .Or (b :: rest) pos) tB') : PW X (.BoolOp .Or (a :: b :: rest) pos) (tOr tA tB') := by
  intro wh pins s σ H Q I h
  refine isTrue_or (thn (ha pins s σ H _ I h) fun c s1 ⟨H1, I1, q1⟩ => ?_)
  cases c with
  | true => exact ⟨H1, I1, q1⟩
  | false => exact hb wh pins s1 σ H1 Q I1 q1
theorem pt_not (ha : PT X a tA) : PT X (.UnaryOp .Not a pos) (tNot tA) := by
  intro pins s σ H Q I h
  exact isTrue_not (ha pins s σ H (fun c H1 => Q (!c) H1) I h)
def tAndV (ta tb : TE) : TE := fun σ H Q => ta σ H fun x H1 => ∃ c, x = .bl c ∧ if c = true then tb σ H1 Q else Q (.bl false) H1
def tOrV (ta tb : TE) : TE := fun σ H Q => ta σ H fun x H1 => ∃ c, x = .bl c ∧ if c = true then Q (.bl true) H1 else tb σ H1 Q
def tNotV (ta : TE) : TE := fun σ H Q => ta σ H fun x H1 => ∃ c, x = .bl c ∧ Q (.bl (!c)) H1
theorem pe_one {op} {t : TE} (h : PE X a t) : PE X (.BoolOp op [a] pos) t := fun pins s σ H Q I hw => BoolOp_one (h pins s σ H Q I hw)
theorem pe_and (ha : PE X a ta) (hb : PE X (.BoolOp .And (b :: rest) pos) tb) : PE X (.BoolOp .And (a :: b :: rest) pos) (tAndV ta tb) := by
  intro pins s σ H Q I h
  refine BoolOp_and (thn (ha pins s σ H _ I h) fun v s1 ⟨x, H1, I1, r1, q1⟩ => ?_)
  obtain ⟨c, rfl, q1⟩ := q1
  cases r1
  refine wpAny_truthy_bool ?_
  cases c with
  | true => exact hb pins s1 σ H1 Q I1 q1
  | false => exact ⟨.bl false, H1, I1, rfl, q1⟩
theorem pe_or (ha : PE X a ta) (hb : PE X (.BoolOp .Or (b :: rest) pos) tb) : PE X (.BoolOp .Or (a :: b :: rest) pos) (tOrV ta tb) := by
  intro pins s σ H Q I h
  refine BoolOp_or (thn (ha pins s σ H _ I h) fun v s1 ⟨x, H1, I1, r1, q1⟩ => ?_)
  obtain ⟨c, rfl, q1⟩ := q1
  cases r1
  refine wpAny_truthy_bool ?_
  cases c with
  | false => exact hb pins s1 σ H1 Q I1 q1
  | true => exact ⟨.bl true, H1, I1, rfl, q1⟩
theorem pe_not (ha : PE X a ta) : PE X (.UnaryOp .Not a pos) (tNotV ta) := by
  intro pins s σ H Q I h
  refine UnaryOp_ (thn (ha pins s σ H _ I h) fun v s1 ⟨x, H1, I1, r1, q1⟩ => ?_)
  obtain ⟨c, rfl, q1⟩ := q1
  cases r1
  exact not_of (wpAny_truthy_bool ⟨.bl (!c), H1, I1, rfl, q1⟩)
def tIf (t : TT) (ta tb : TE) : TE := fun σ H Q => t σ H fun c H1 => if c = true then ta σ H1 Q else tb σ H1 Q
theorem pe_ifExp {c : Expr} (hc : PT X c tA) (ha : PE X a ta) (hb : PE X b tb) : PE X (.IfExp c a b pos) (tIf tA ta tb) := by
  intro pins s σ H Q I h
  refine wpAny_IfExp (thn (hc pins s σ H _ I h) fun d s1 ⟨H1, I1, q1⟩ => ?_)
  cases d with
  | true => exact ha pins s1 σ H1 Q I1 q1
  | false => exact hb pins s1 σ H1 Q I1 q1
end
end L2
namespace L2
open PySem PySem.Spec PyProof.Rows
def SqL (K : PySem.W.Frag) (H : Hp) (a : Addr) (xs : List V) : Prop :=
  Rd H a (.lst xs) ∨
    ∃ (o : Obj) (its : Array Value) (n : Nat), K.lookup a = some o ∧ o.cls = .type "list" ∧ o.dict = none ∧ o.data = .seq its n ∧ its.size ≤ sizeLine ∧ Vals xs its.toList
def SqT (K : PySem.W.Frag) (H : Hp) (a : Addr) (xs : List V) : Prop :=
  Rd H a (.tup xs) ∨
    ∃ (o : Obj) (its : Array Value) (n : Nat), K.lookup a = some o ∧ o.cls = .type "tuple" ∧ o.data = .seq its n ∧ its.size ≤ sizeLine ∧ Vals xs its.toList
def absV : Value → Option V
  | .none => some .non
  | .bool b => some (.bl b)
  | .int i _ => some (.int i)
  | .str x _ => some (.str x)
  | .bytes b _ => some (.byt b)
  | .float b _ => some (.flt b)
  | .ref a => some (.ref a)
  | .type n => some (.ty n)
  | _ => none
theorem RelV.abs {x : V} {u : Value} (r : RelV x u) : absV u = some x := by
  cases x with
  | non => cases r; rfl
  | bl _ => cases r; rfl
  | int _ => obtain ⟨t, rfl⟩ := r; rfl
  | str _ => obtain ⟨t, rfl⟩ := r; rfl
  | byt _ => obtain ⟨t, rfl⟩ := r; rfl
  | flt _ => obtain ⟨t, rfl⟩ := r; rfl
  | ref _ => cases r; rfl
  | ty _ => cases r; rfl
theorem RelV.inj {x y : V} {u : Value} (r : RelV x u) (q : RelV y u) : x = y := Option.some.inj (r.abs.symm.trans q.abs)
theorem Vals.inj : ∀ {xs ys : List V} {us : List Value}, Vals xs us → Vals ys us → xs = ys
  | _, _, _, .nil, .nil => rfl
  | _, _, _, .cons r t, .cons r' t' => by rw [r.inj r', Vals.inj t t']
section
variable {X : Cx} {pins : List (Addr × Obj)} {σ : St} {H : Hp} {s : Shared} {a : Addr} {xs ys : List V}
theorem SqL.of {K : PySem.W.Frag} (h : H a = some (.lst xs)) : SqL K H a xs := .inl (.inl h)
theorem SqT.of {K : PySem.W.Frag} (h : H a = some (.tup xs)) : SqT K H a xs := .inl (.inl h)
theorem Inv.list (I : Inv X pins σ H s) (h : SqL X.K H a xs) : ∃ its : List Value, Vals xs its ∧ PlainL s.heap a its.toArray ∧ xs.length ≤ sizeLine := by
  rcases h with h | ⟨o, its, n, hk, hc, hd, hs, hz, r⟩
  · obtain ⟨z, its, n, r, e⟩ := h.ok I.hok
    exact ⟨its, r, ⟨_, n, e, rfl, rfl, rfl⟩, z⟩
  · refine ⟨its.toList, r, ⟨o, n, I.kIn a o hk, hc, hd, by simpa using hs⟩, ?_⟩
    have e := r.length
    simp only [Array.length_toList] at e
    omega
theorem Inv.tuple (I : Inv X pins σ H s) (h : SqT X.K H a xs) : ∃ its : List Value, Vals xs its ∧ IsTup s.heap a its.toArray ∧ xs.length ≤ sizeLine := by
  rcases h with h | ⟨o, its, n, hk, hc, hs, hz, r⟩
  · obtain ⟨z, its, r, p⟩ := h.ok I.hok
    exact ⟨its, r, p, z⟩
  · refine ⟨its.toList, r, ⟨o, I.kIn a o hk, hc, n, by simpa using hs⟩, ?_⟩
    have e := r.length
    simp only [Array.length_toList] at e
    omega
theorem Inv.list_inj (I : Inv X pins σ H s) (h : SqL X.K H a xs) (h' : SqL X.K H a ys) : xs = ys := by
  obtain ⟨its, r, ⟨o, n, e, _, _, d⟩, _⟩ := I.list h
  obtain ⟨its', r', ⟨o', n', e', _, _, d'⟩, _⟩ := I.list h'
  rw [e] at e'; cases e'
  rw [d] at d'
  injection d' with d1 _
  have : its = its' := by simpa using congrArg Array.toList d1
  subst this
  exact r.inj r'
end
abbrev Cx.wish (X : Cx) (E : Value → Shared → Prop) : Cx := { X with xe := E }
abbrev Cx.nox (X : Cx) : Cx := X.wish fun _ _ => False
theorem Cx.Ok.wish {X : Cx} (ok : X.Ok) (E : Value → Shared → Prop) : (X.wish E).Ok :=
  ⟨ok.mod, ok.kind, ok.glob, ok.blt, ok.above, ok.inj, ok.has, ok.cab, ok.hd, ok.frames, ok.stk, ok.exf, ok.bs, ok.bsz, ok.noex, ok.exfs, ok.funs, ok.frf⟩
theorem Cx.Ok.unwish {X : Cx} {E : Value → Shared → Prop} (ok : (X.wish E).Ok) : X.Ok :=
  ⟨ok.mod, ok.kind, ok.glob, ok.blt, ok.above, ok.inj, ok.has, ok.cab, ok.hd, ok.frames, ok.stk, ok.exf, ok.bs, ok.bsz, ok.noex, ok.exfs, ok.funs, ok.frf⟩
section
variable {X : Cx} {pins : List (Addr × Obj)} {σ : St} {H : Hp} {s : Shared} {E : Value → Shared → Prop}
theorem Inv.wish (I : Inv X pins σ H s) (E : Value → Shared → Prop) : Inv (X.wish E) pins σ H s := ⟨I.ok.wish E, I.os, I.bare, I.base, I.loc, I.cell, I.free, I.freeC, I.pin, I.hok, I.len⟩
theorem Inv.unwish (I : Inv (X.wish E) pins σ H s) : Inv X pins σ H s := ⟨I.ok.unwish, I.os, I.bare, I.base, I.loc, I.cell, I.free, I.freeC, I.pin, I.hok, I.len⟩
theorem SP.unwish {D : Ends} {f : Flow} {s' : Shared} (h : SP (X.wish E) pins D f s') : SP X pins D f s' := by
  cases f with
  | next => obtain ⟨σ', H', I, q⟩ := h; exact ⟨σ', H', I.unwish, q⟩
  | brk => obtain ⟨σ', H', I, q⟩ := h; exact ⟨σ', H', I.unwish, q⟩
  | cont => obtain ⟨σ', H', I, q⟩ := h; exact ⟨σ', H', I.unwish, q⟩
  | ret u => obtain ⟨v, σ', H', I, r, q⟩ := h; exact ⟨v, σ', H', I.unwish, r, q⟩
theorem PSs.nox {st : List Stmt} {t : TS} (h : PSs X.nox st t) : PSs X st t := fun pins s σ H D I hw =>
  wpAny_mono (h pins s σ H D (I.wish _) hw) (fun _ _ q => q.unwish) fun _ _ z => False.elim z
end
section
variable {X : Cx} {st : Stmt} {rest : List Stmt} {t u : TS} {e : Expr} {te : TE} {pos : Pos}
def tNext : TS := fun D σ H => D.nx σ H
def tSeq (t u : TS) : TS := fun D σ H => t { D with nx := u D } σ H
theorem pss_nil : PSs X [] tNext := fun _ _ σ H _ I h => wpAny_execs_nil ⟨σ, H, I, h⟩
theorem pss_cons (h1 : PS X st t) (h2 : PSs X rest u) : PSs X (st :: rest) (tSeq t u) := by
  intro pins s σ H D I h
  refine wpAny_execs_cons (thn (h1 pins s σ H { D with nx := u D } I h) fun f s1 q => ?_)
  cases f with
  | next =>
    obtain ⟨σ', H', I', q⟩ := q
    exact h2 pins s1 σ' H' D I' q
  | ret v => exact q
  | brk => exact q
  | cont => exact q
theorem pss_one (h1 : PS X st t) : PSs X [st] t := by
  intro pins s σ H D I h
  refine wpAny_execs_cons (thn (h1 pins s σ H D I h) fun f s1 q => ?_)
  cases f with
  | next => exact wpAny_execs_nil q
  | ret v => exact q
  | brk => exact q
  | cont => exact q
theorem Inv.quiet {pins : List (Addr × Obj)} {σ : St} {H : Hp} {s : Shared} (I : Inv X pins σ H s) : interactive X.env = false := by simp [interactive, I.ok.kind]
def tDrop (te : TE) : TS := fun D σ H => te σ H fun _ H1 => D.nx σ H1
theorem ps_expr (he : PE X e te) (hs : swapsWith e none pos.line X.env = pure false := by rfl) : PS X (.Expr e pos) (tDrop te) := by
  intro pins s σ H D I h
  exact wpAny_Expr_any (thn (he pins s σ H _ I h) fun v s1 ⟨x, H1, I1, r1, q1⟩ => ⟨σ, H1, I1, q1⟩) I.quiet hs
def tRet (te : TE) : TS := fun D σ H => te σ H D.rt
theorem ps_ret (he : PE X e te) : PS X (.Return (some e) pos) (tRet te) := by
  intro pins s σ H D I h
  exact wpAny_Return_some (thn (he pins s σ H _ I h) fun v s1 ⟨x, H1, I1, r1, q1⟩ => ⟨x, σ, H1, I1, r1, q1⟩)
def tIfS (c : TT) (t u : TS) : TS := fun D σ H => c σ H fun b H1 => if b = true then t D σ H1 else u D σ H1
theorem ps_if {c : Expr} {a b : List Stmt} {tc : TT} (hc : PT X c tc) (ha : PSs X a t) (hb : PSs X b u) : PS X (.If c a b pos) (tIfS tc t u) := by
  intro pins s σ H D I h
  refine wpAny_If (thn (hc pins s σ H _ I h) fun d s1 ⟨H1, I1, q1⟩ => ?_)
  cases d with
  | true => exact ha pins s1 σ H1 D I1 q1
  | false => exact hb pins s1 σ H1 D I1 q1
def tNever : TS := fun _ _ _ => False
theorem pss_never {sts : List Stmt} : PSs X sts tNever := fun _ _ _ _ _ _ h => h.elim
end
abbrev TG := V → St → Hp → (St → Hp → Prop) → Prop
abbrev TGs := List V → St → Hp → (St → Hp → Prop) → Prop
def PG (X : Cx) (target : Expr) (t : TG) : Prop :=
  ∀ (pins : List (Addr × Obj)) (s : Shared) (σ : St) (H : Hp) (v : V) (u : Value) (Q : St → Hp → Prop), Inv X pins σ H s → RelV v u → t v σ H Q →
    wpAny (model X.prog X.w) X.A (assign target X.env u) (fun _ s' => ∃ σ' H', Inv X pins σ' H' s' ∧ Q σ' H') X.xe s
def PGs (X : Cx) (ts : List Expr) (t : TGs) : Prop :=
  ∀ (pins : List (Addr × Obj)) (s : Shared) (σ : St) (H : Hp) (vs : List V) (us : List Value) (Q : St → Hp → Prop), Inv X pins σ H s → Vals vs us → t vs σ H Q →
    wpAny (model X.prog X.w) X.A (assignInOrder ((assignEach ts X.env).map (·.2)) us) (fun _ s' => ∃ σ' H', Inv X pins σ' H' s' ∧ Q σ' H') X.xe s
abbrev TIp := V → V → Hp → VK → Prop
def PIp (X : Cx) (op : Operator) (t : TIp) : Prop :=
  ∀ (pins : List (Addr × Obj)) (s : Shared) (σ : St) (H : Hp) (x y : V) (v u : Value) (Q : VK), Inv X pins σ H s → RelV x v → RelV y u → t x y H Q →
    wpAny (model X.prog X.w) X.A (inplaceOp op v u) (EP X pins σ Q) X.xe s
section
variable {X : Cx} {pos : Pos}
def gName (i : Nat) : TG := fun v σ H Q => Q (σ.set i (some v)) H
theorem pg_name {i : Nat} {x : Str} (hN : X.N.Nodup) (hi : X.N[i]? = some x) (hx : Loc X.env.scope x) (hf : X.fn x = true ∨ X.env.scope.names.lookup x = some .local := by first | exact .inl rfl | exact .inr rfl | assumption) : PG X (.Name x pos) (gName i) := by
  intro pins s σ H v u Q I r h
  exact wpAny_assign_Name (store_ok I hN hi hx r (fun s' I' => ⟨_, H, I', h⟩) hf)
def gNil : TGs := fun vs σ H Q => vs = [] ∧ Q σ H
def gCons (t : TG) (u : TGs) : TGs := fun vs σ H Q => ∃ v r, vs = v :: r ∧ t v σ H fun σ' H' => u r σ' H' Q
theorem pgs_nil : PGs X [] gNil := by
  intro pins s σ H vs us Q I r h
  obtain ⟨e, h⟩ := h
  subst e
  cases r
  exact assignInOrder_nil ⟨σ, H, I, h⟩
theorem pgs_cons {e : Expr} {es : List Expr} {t : TG} {u : TGs} (h1 : PG X e t) (h2 : PGs X es u)
    (hs : (assignEach (e :: es) X.env).map (·.2) = assign e X.env :: (assignEach es X.env).map (·.2) := by rfl) : PGs X (e :: es) (gCons t u) := by
  intro pins s σ H vs us Q I r h
  obtain ⟨v, vr, e1, h⟩ := h
  subst e1
  cases r with
  | cons r rr =>
    rw [hs]
    refine assignInOrder_cons (thn (h1 pins s σ H _ _ _ I r h) fun _ s1 ⟨σ1, H1, I1, q1⟩ => ?_)
    exact h2 pins s1 σ1 H1 _ _ Q I1 rr q1
def gTup (K : PySem.W.Frag) (n : Nat) (t : TGs) : TG := fun v σ H Q => ∃ a xs, v = .ref a ∧ SqT K H a xs ∧ xs.length = n ∧ t xs σ H Q
theorem pg_tup {es : List Expr} {k : Nat} {t : TGs} {n : Nat} (hc : X.calm = true) (h : PGs X es t)
    (hn : (assignEach es X.env).length = n := by rfl) (hst : (assignEach es X.env).findIdx? (·.1) = none := by rfl) : PG X (.Tuple es k pos) (gTup X.K n t) := by
  intro pins s σ H v u Q I r hw
  obtain ⟨a, xs, e1, hq, hl, hw⟩ := hw
  subst e1
  cases r
  obtain ⟨its, rv, ht, hz⟩ := I.tuple hq
  refine assign_Tuple_tuple (I.ok.hd hc) ht (by simp [hn, ← hl, rv.length]) hst fun h' hx => ?_
  have I1 : Inv X pins σ H { s with heap := h' } := I.kept (t' := s.toks) fun b o e => hx b o (Nat.ne_of_lt (Heap.lt_size e)) e
  exact h pins _ σ H xs _ Q I1 (by simpa using rv) hw
def tAsg (te : TE) (g : TG) : TS := fun D σ H => te σ H fun x H1 => g x σ H1 D.nx
theorem ps_asg {tg e : Expr} {te : TE} {g : TG} (he : PE X e te) (hg : PG X tg g) (hs : swapsWithSole [tg] e pos.line X.env = pure false := by rfl) (hw : swappedStores [tg] e X.env = pure none := by rfl)
    (h1 : (assignEach [tg] X.env).map (·.2) = [assign tg X.env] := by rfl) : PS X (.Assign [tg] e pos) (tAsg te g) := by
  intro pins s σ H D I h
  refine wpAny_Assign_stores (thn (he pins s σ H _ I h) fun v s1 ⟨x, H1, I1, r1, q1⟩ => ?_) hs hw
  rw [h1]
  exact thn (hg pins s1 σ H1 x v _ I1 r1 q1) fun _ s2 q => q
theorem ps_set {i : Nat} {x : Str} {e : Expr} {te : TE} {pos' : Pos} (hN : X.N.Nodup) (hi : X.N[i]? = some x) (hx : Loc X.env.scope x) (he : PE X e te) (hs : swapsWith e (some (.Name x pos')) pos.line X.env = pure false := by rfl) (hf : X.fn x = true ∨ X.env.scope.names.lookup x = some .local := by first | exact .inl rfl | exact .inr rfl | assumption) :
    PS X (.Assign [.Name x pos'] e pos) (tAsg te (gName i)) := by
  intro pins s σ H D I h
  refine wpAny_Assign_Name (thn (he pins s σ H _ I h) fun v s1 ⟨y, H1, I1, r1, q1⟩ => ?_) hs
  exact store_ok I1 hN hi hx r1 (fun s2 I2 => ⟨_, H1, I2, q1⟩) hf
def tPar (i j : Nat) (ta : TA) : TS := fun D σ H => ta σ H fun vs H1 => ∃ v w, vs = [v, w] ∧ D.nx ((σ.set i (some v)).set j (some w)) H1
theorem ps_par {i j : Nat} {x y : Str} {a b : Expr} {ta : TA} {px py pt : Pos} {kt k2 pt2} (hc : X.calm = true) (hN : X.N.Nodup) (hi : X.N[i]? = some x) (hj : X.N[j]? = some y) (hij : i ≠ j)
    (hx : X.env.scope.names.lookup x = some .local) (hy : X.env.scope.names.lookup y = some .local) (ha : PA X [a, b] ta)
    (hw : swappedStores [.Tuple [.Name x px, .Name y py] kt pt] (.Tuple [a, b] k2 pt2) X.env = pure (some [x, y]))
    (hs : swapsWithSole [.Tuple [.Name x px, .Name y py] kt pt] (.Tuple [a, b] k2 pt2) pos.line X.env = pure false := by rfl) :
    PS X (.Assign [.Tuple [.Name x px, .Name y py] kt pt] (.Tuple [a, b] k2 pt2) pos) (tPar i j ta) := by
  intro pins s σ H D I h
  rw [exec_Assign_arm]
  refine wpAny_bind (wpAny_standAt ?_)
  rw [hs]
  refine wpAny_bind (wpAny_pure ?_)
  rw [if_neg (by decide)]
  refine wpAny_bind (Tuple_ (thn (ha _ pins s σ H _ I h) fun us s1 ⟨vs, H1, I1, r1, q1⟩ => ?_))
  obtain ⟨v, w, e1, q1⟩ := q1
  subst e1
  obtain ⟨u1, u2, rfl, rv, rw'⟩ : ∃ u1 u2, us = [u1, u2] ∧ RelV v u1 ∧ RelV w u2 := by
    cases r1 with
    | cons p q =>
      cases q with
      | cons p' q' =>
        cases q'
        exact ⟨_, _, rfl, p, p'⟩
  refine wpAny_newObj_type ?_ (by show 2 ≤ sizeLine; decide)
  have I2 : Inv X pins σ H1 { s1 with heap := s1.heap.push { cls := .type "tuple", data := .seq [u1, u2].toArray } } := I1.kept (t' := s1.toks) fun b o e => Heap.get?_push_of_some _ e
  rw [hw]
  refine wpAny_bind (wpAny_pure ?_)
  show wpAny (model X.prog X.w) X.A (do rule "assign.swapped-stores"; let items ← unpackItems (.ref s1.heap.objs.size) 2 none; assignInOrder [fun v => bindName X.env y v, fun v => bindName X.env x v] items.reverse; pure Flow.next) _ _ _
  refine wpAny_bind (wpAny_rule (wpAny_bind (unpackItems_tuple (items := #[u1, u2]) (I.ok.hd hc) (IsTup.new s1.heap _) fun h' hx' => ?_)))
  have I3 := I2.kept (h' := h') (t' := s1.toks) fun b o e => hx' b o (Nat.ne_of_lt (Heap.lt_size e)) e
  show wpAny _ _ (assignInOrder [fun v => bindName X.env y v, fun v => bindName X.env x v] [u2, u1] >>= fun _ => pure Flow.next) _ _ _
  refine wpAny_bind (assignInOrder_cons (wpAny_bindName (store_ok I3 hN hj (.inl hy) rw' (fun s2 I4 => ?_) (.inr hy))))
  refine assignInOrder_cons (wpAny_bindName (store_ok I4 hN hi (.inl hx) rv (fun s3 I5 => assignInOrder_nil (wpAny_pure ?_)) (.inr hx)))
  rw [List.set_comm _ _ (Ne.symm hij)] at I5
  exact ⟨_, H1, I5, q1⟩
def tAug (i : Nat) (te : TE) (ti : TIp) : TS := fun D σ H => ∃ x, σ[i]? = some (some x) ∧ te σ H fun y H1 => ti x y H1 fun z H2 => D.nx (σ.set i (some z)) H2
theorem ps_aug {i : Nat} {x : Str} {e : Expr} {te : TE} {op : Operator} {ti : TIp} {pos' : Pos} (hN : X.N.Nodup) (hi : X.N[i]? = some x) (hx : Loc X.env.scope x) (he : PE X e te) (ho : PIp X op ti) (hf : X.fn x = true ∨ X.env.scope.names.lookup x = some .local := by first | exact .inl rfl | exact .inr rfl | assumption) :
    PS X (.AugAssign (.Name x pos') op e pos) (tAug i te ti) := by
  intro pins s σ H D I h
  obtain ⟨v, e1, h⟩ := h
  obtain ⟨m, hn, hl⟩ := I.loc
  have vis : Vis X.env.scope x := by rcases hx with k | k; exact .inl k; exact .inr (.inl k)
  obtain ⟨u, r, l⟩ := hl i x v hi e1 vis
  refine wpAny_AugAssign_Name ?_
  have go : wpAny (model X.prog X.w) X.A (eval e X.env) (fun w s₂ => wpAny (model X.prog X.w) X.A (inplaceOp op u w) (fun r s₃ => wpAny (model X.prog X.w) X.A (storeName X.env x r) (fun _ => SP X pins D .next) X.xe s₃) X.xe s₂) X.xe s := by
    refine thn (he pins s σ H _ I h) fun w s1 ⟨y, H1, I1, r1, q1⟩ => ?_
    refine thn (ho pins s1 σ H1 v y u w _ I1 r r1 q1) fun z s2 ⟨zv, H2, I2, r2, q2⟩ => ?_
    exact store_ok I2 hN hi hx r2 (fun s3 I3 => ⟨_, H2, I3, q2⟩) hf
  rcases l with ⟨hk, hm⟩ | ⟨hk, c, hc, hcell⟩
  · exact wpAny_loadName_local I.ok.kind hk hn hm go
  · rcases hk with hk | hk
    · exact wpAny_loadName_cell I.ok.kind hk hc hcell go
    · rcases hx with k | k
      · have : X.env.scope.names.lookup x = some .free := hk
        rw [k] at this; cases this
      · have : X.env.scope.names.lookup x = some .free := hk
        rw [k] at this; cases this
end
section
variable {X : Cx} {pos : Pos}
def tWhile (c : TT) (tb : TS) : TS := fun D σ H => ∃ W : Nat → St → Hp → Prop, (∃ m, W m σ H) ∧ ∀ m σ H, W m σ H →
  c σ H fun b H1 => if b = true then ∃ N : St → Hp → Prop, (∀ σ' H', N σ' H' → ∃ m', m' < m ∧ W m' σ' H') ∧ tb { D with nx := N, ct := N, bk := D.nx } σ H1 else D.nx σ H1
theorem ps_while {c : Expr} {body : List Stmt} {tc : TT} {tb : TS} (hp : PassesOwn (model X.prog X.w) X.A X.env X.xe) (hc : PT X c tc) (hb : PSs X body tb) : PS X (.While c body [] pos) (tWhile tc tb) := by
  intro pins s σ H D I h
  obtain ⟨W, ⟨m0, w0⟩, turn⟩ := h
  refine wpAny_While (codeAny_whileLoop (fun n s' => ∃ σ' H', Inv X pins σ' H' s' ∧ W n σ' H') ?_ m0 ⟨σ, H, I, w0⟩)
  rintro n s1 ⟨σ1, H1, I1, w1⟩
  refine wpAny_passesOwn hp (thn (hc pins s1 σ1 H1 _ I1 (turn n σ1 H1 w1)) fun b s2 ⟨H2, I2, q2⟩ => ?_)
  cases b with
  | true =>
    obtain ⟨N, hN, q2⟩ := q2
    rw [if_pos rfl]
    refine wpAny_passesOwn hp (thn (hb pins s2 σ1 H2 _ I2 q2) fun f s3 q3 => ?_)
    cases f with
    | next =>
      obtain ⟨σ3, H3, I3, n3⟩ := q3
      obtain ⟨m', hm, w3⟩ := hN σ3 H3 n3
      exact ⟨m', hm, σ3, H3, I3, w3⟩
    | cont =>
      obtain ⟨σ3, H3, I3, n3⟩ := q3
      obtain ⟨m', hm, w3⟩ := hN σ3 H3 n3
      exact ⟨m', hm, σ3, H3, I3, w3⟩
    | brk => exact q3
    | ret v => exact q3
  | false =>
    rw [if_neg Bool.false_ne_true]
    exact wpAny_execs_nil ⟨σ1, H2, I2, q2⟩
end
structure It where
  go : Nat → Hp → Prop
  yld : Nat → Hp → V → Hp → Prop
  stop : Nat → Hp → Prop
def FpOk (X : Cx) (pins : List (Addr × Obj)) (H : Hp) (b : Addr) : Prop :=
  H b = none ∧ b ≠ X.env.locals ∧ b ∉ X.fs ∧ (b ∈ X.ex ∨ X.s₀.heap.objs.size ≤ b) ∧ (∀ x c, X.env.cells.lookup x = some c → c ≠ b) ∧ ∀ p ∈ X.pn ++ pins, p.1 ≠ b
theorem Inv.fpOk {X : Cx} {pins : List (Addr × Obj)} {σ : St} {H H' : Hp} {s : Shared} {b : Addr} (I : Inv X pins σ H s) (hb : s.heap.objs.size ≤ b) (hn : H' b = none) : FpOk X pins H' b := by
  refine ⟨hn, Nat.ne_of_gt (Nat.lt_of_lt_of_le I.lt hb), I.nofs hb, .inr (Nat.le_trans I.sz hb), fun x c e z => ?_, fun p hp z => ?_⟩
  · obtain ⟨v, q⟩ := I.cell x c e
    exact absurd (Nat.lt_of_lt_of_le q.lt (by rw [z]; exact hb)) (Nat.lt_irrefl _)
  · exact absurd (Nat.lt_of_lt_of_le (Heap.lt_size (I.pin p hp).1) (by rw [z]; exact hb)) (Nat.lt_irrefl _)
structure Turn (P : Program) (w : World) (K : PySem.W.Frag) (tg : Expr) (J : It) (fp : List Addr) (it : Addr) (tn : Nat → Heap → Prop) : Prop where
  mem : it ∈ fp
  obj : ∀ i h, tn i h → ∀ b ∈ fp, ∃ o, h.get? b = some o ∧ ∀ v, o.data ≠ .cell v
  keep : ∀ i h h', tn i h → (∀ b ∈ fp, ∀ o, h.get? b = some o → h'.get? b = some o) → tn i h'
  item : ∀ (X : Cx), X.prog = P → X.w = w → X.K = K → X.calm = true → ∀ (i : Nat) (pins : List (Addr × Obj)) (s : Shared) (σ : St) (H : Hp) (E : Value → Shared → Prop), Inv X pins σ H s → (∀ b ∈ fp, FpOk X pins H b) → tn i s.heap → J.go i H →
    wpAny (model P w) X.A (pyNext (.ref it)) (fun r s1 => ∃ u, r = some u ∧
      wpAny (model P w) X.A (letOwnedTupleGo tg (.ref it) u) (fun _ s2 => ∃ x H', Inv X pins σ H' s2 ∧ RelV x u ∧ J.yld i H x H' ∧ tn (i + 1) s2.heap ∧ ∀ b ∈ fp, H' b = none) E s1) E s
  done : ∀ (X : Cx), X.prog = P → X.w = w → X.K = K → X.calm = true → ∀ (i : Nat) (pins : List (Addr × Obj)) (s : Shared) (σ : St) (H : Hp) (E : Value → Shared → Prop), Inv X pins σ H s → (∀ b ∈ fp, FpOk X pins H b) → tn i s.heap → J.stop i H →
    wpAny (model P w) X.A (pyNext (.ref it)) (fun r s1 => r = none ∧ Inv X pins σ H s1) E s
  self : ∀ (A : Around) (i : Nat) (s : Shared) (Q : Value → Shared → Prop) (E : Value → Shared → Prop), tn i s.heap → Q (.ref it) s → wpAny (model P w) A (pyIter (.ref it)) Q E s
abbrev TI := St → Hp → (It → Hp → Prop) → Prop
def PIE (X : Cx) (pins : List (Addr × Obj)) (σ : St) (tg : Expr) (R : It → Hp → Prop) (itv : Value) (s2 : Shared) : Prop :=
  ∃ (it : Addr) (fp : List Addr) (tn : Nat → Heap → Prop) (J : It) (H' : Hp), itv = .ref it ∧ Inv X pins σ H' s2 ∧ Turn X.prog X.w X.K tg J fp it tn ∧ tn 0 s2.heap ∧ (∀ b ∈ fp, FpOk X pins H' b) ∧ R J H'
def PI (X : Cx) (tg iter : Expr) (wi : TI) : Prop :=
  ∀ (pins : List (Addr × Obj)) (s : Shared) (σ : St) (H : Hp) (R : It → Hp → Prop), Inv X pins σ H s → wi σ H R →
    wpAny (model X.prog X.w) X.A (eval iter X.env) (fun v s1 => wpAny (model X.prog X.w) X.A (pyIter v) (PIE X pins σ tg R) X.xe s1) X.xe s
theorem go_of {M : Model} {A : Around} {E : Value → Shared → Prop} {s : Shared} {tg : Expr} {it : Addr} {u : Value} {o : Obj} {n : String} {vs : Array Value} {Q : Unit → Shared → Prop} (ho : s.heap.get? it = some o) (hc : o.cls = .type n) (hd : o.data = .fields vs)
    (hn : ["enumerate", "zip", "dict_itemiterator", "dict_reverseitemiterator", "odict_iterator", "itertools.zip_longest", "itertools.pairwise"].contains n = false) (hQ : Q () s) : wpAny M A (letOwnedTupleGo tg (.ref it) u) Q E s := by
  unfold letOwnedTupleGo
  cases tg <;> first
    | exact wpAny_pure hQ
    | (cases u <;> first
        | exact wpAny_pure hQ
        | (refine wpAny_bind (wpAny_load ho ?_)
           rw [hc, hd]
           show wpAny M A (if (["enumerate", "zip", "dict_itemiterator", "dict_reverseitemiterator", "odict_iterator", "itertools.zip_longest", "itertools.pairwise"].contains n && vs[0]? == some (rawInt _)) = true then _ else _) Q E s
           rw [if_neg (by intro h; rw [hn, Bool.false_and] at h; cases h)]
           exact wpAny_pure hQ))
def Itl (K : PySem.W.Frag) (a : Addr) : It :=
  ⟨fun i H => ∃ xs x, SqL K H a xs ∧ xs[i]? = some x, fun i H x H' => H' = H ∧ ∀ xs, SqL K H a xs → xs[i]? = some x, fun i H => ∃ xs, SqL K H a xs ∧ xs.length ≤ i⟩
def Itr (lo : Int) (n : Nat) : It := ⟨fun i _ => i < n, fun i H x H' => H' = H ∧ x = .int (lo + i), fun i _ => n ≤ i⟩
theorem turn_list {P : Program} {w : World} {K : PySem.W.Frag} {tg : Expr} (a it : Addr) : Turn P w K tg (Itl K a) [it] it (fun i h => h.IsListIter it a i) where
  mem := by simp
  obj := fun i h st b hb => by
    have e : b = it := by simpa using hb
    subst e
    obtain ⟨o, e, c, d⟩ := st
    exact ⟨o, e, fun v z => by rw [d] at z; cases z⟩
  keep := fun i h h' st k => st.at fun o e => k it (by simp) o e
  item := by
    intro X hP hw hK hc i pins s σ H E I hf st hg
    subst hP hw hK
    obtain ⟨xs, x, hq, hx⟩ := hg
    obtain ⟨its, rv, p, hz⟩ := I.list hq
    obtain ⟨u, hu, ru⟩ := rv.get hx
    obtain ⟨f0, f1, f2, f3, f4, f5⟩ := hf it (by simp)
    refine wpAny_pyNext_list_item st p.isList (x := u) (by simpa using hu) fun h' st' sb => ?_
    have I1 : Inv X pins σ H { s with heap := h' } := I.turned (t' := s.toks) (fun b o hb e => (sb.2 b hb).trans e) f0 f1 f3 f4 f5
    obtain ⟨o, e, c, d⟩ := id st'
    exact ⟨u, rfl, go_of (s := { s with heap := h' }) e c d (by decide) ⟨x, H, I1, ru, ⟨rfl, fun ys hy => by rw [I.list_inj hy hq]; exact hx⟩, st', fun b hb => (hf b hb).1⟩⟩
  done := by
    intro X hP hw hK hc i pins s σ H E I hf st hg
    subst hP hw hK
    obtain ⟨xs, hq, hx⟩ := hg
    obtain ⟨its, rv, p, hz⟩ := I.list hq
    obtain ⟨f0, f1, f2, f3, f4, f5⟩ := hf it (by simp)
    have hl := rv.length
    exact wpAny_pyNext_list_end (I.ok.hd hc) st p.isList (by simp; omega) fun h' eb => ⟨rfl, I.turned (t' := s.toks) (fun b o hb e => eb b o hb e) f0 f1 f3 f4 f5⟩
  self := fun _ _ _ _ _ st h => wpAny_pyIter_listiter st h
theorem turn_range {P : Program} {w : World} {K : PySem.W.Frag} {tg : Expr} (it : Addr) (lo : Int) (n : Nat) : Turn P w K tg (Itr lo n) [it] it (fun i h => IsRangeIter h it (lo + (i : Nat) * 1) ((n : Int) - (i : Nat)) 1) where
  mem := by simp
  obj := fun i h st b hb => by
    have e : b = it := by simpa using hb
    subst e
    exact ⟨_, st, fun v z => by
      have z' : Data.fields _ = Data.cell v := z
      cases z'⟩
  keep := fun i h h' st k => k it (by simp) _ st
  item := by
    intro X hP hw hK hc i pins s σ H E I hf st hg
    subst hP hw hK
    obtain ⟨f0, f1, f2, f3, f4, f5⟩ := hf it (by simp)
    have W := Walks.range (prog := X.prog) (w := X.w) (I.ok.hd hc) it lo 1 n
    refine W.item i s _ _ hg st fun v h' tk hv st' kk => ?_
    obtain ⟨t, rfl⟩ := hv
    have I1 : Inv X pins σ H { s with heap := h', toks := tk } := I.turned (fun b o hb e => kk b o (by simpa using hb) e) f0 f1 f3 f4 f5
    refine ⟨_, rfl, go_of (s := { s with heap := h', toks := tk }) (n := "range_iterator") st' rfl rfl (by decide) ⟨.int (lo + i), H, I1, ⟨t, ?_⟩, ⟨rfl, rfl⟩, st', fun b hb => (hf b hb).1⟩⟩
    rw [Int.mul_one]
  done := by
    intro X hP hw hK hc i pins s σ H E I hf st hg
    subst hP hw hK
    obtain ⟨f0, f1, f2, f3, f4, f5⟩ := hf it (by simp)
    exact wpAny_pyNext_range_end (I.ok.hd hc) st (by have : n ≤ i := hg; omega) fun h' eb => ⟨rfl, I.turned (t' := s.toks) (fun b o hb e => eb b o hb e) f0 f1 f3 f4 f5⟩
  self := fun _ _ _ _ _ st h => wpAny_pyIter_rangeiter st h
end L2
namespace L2
open PySem PySem.Spec PyProof.Rows
section
variable {X : Cx} {tg : Expr}
def iList (K : PySem.W.Frag) (tl : TE) : TI := fun σ H R => tl σ H fun x H1 => ∃ a, x = .ref a ∧ (∃ xs, SqL K H1 a xs) ∧ R (Itl K a) H1
theorem pi_list {l : Expr} {tl : TE} (hl : PE X l tl) : PI X tg l (iList X.K tl) := by
  intro pins s σ H R I h
  refine thn (hl pins s σ H _ I h) fun v s1 ⟨x, H1, I1, r1, q1⟩ => ?_
  obtain ⟨a, e, ⟨xs, hq⟩, q⟩ := q1
  subst e
  cases r1
  obtain ⟨its, rv, p, hz⟩ := I1.list hq
  refine wpAny_pyIter_list p.isList ?_
  refine ⟨s1.heap.objs.size, [s1.heap.objs.size], _, _, H1, rfl, I1.kept (t' := s1.toks) fun b o e => Heap.get?_push_of_some _ e, turn_list a _, ⟨_, Heap.get?_push_size _ rfl, rfl, rfl⟩, fun b hb => ?_, q⟩
  have e : b = s1.heap.objs.size := by simpa using hb
  subst e
  exact I1.fpOk (Nat.le_refl _) (I1.hok.fresh (Nat.le_refl _))
theorem range_it {pins : List (Addr × Obj)} {σ : St} {H : Hp} {s : Shared} {R : It → Hp → Prop} {E : Value → Shared → Prop} {lo hi : Int} {t u v : Tok} {tk : Nat} (I : Inv X pins σ H s) (h1 : -(2 ^ 62) ≤ lo) (h2 : lo < 2 ^ 62) (h3 : -(2 ^ 62) ≤ hi) (h4 : hi < 2 ^ 62)
    (q : R (Itr lo (hi - lo).toNat) H) : wpAny (model X.prog X.w) X.A (pyIter (.ref s.heap.objs.size)) (PIE X pins σ tg R) E { s with heap := s.heap.push { cls := .type "range", data := .fields #[.int lo t, .int hi u, .int 1 v] }, toks := tk } := by
  refine wpAny_pyIter_range (IsRange.new ..) (small_one h1 h2 h3 h4) ?_
  have I1 : Inv X pins σ H { s with heap := s.heap.push { cls := .type "range", data := .fields #[.int lo t, .int hi u, .int 1 v] }, toks := tk } := I.kept fun b o e => Heap.get?_push_of_some _ e
  refine ⟨(s.heap.push { cls := .type "range", data := .fields #[.int lo t, .int hi u, .int 1 v] }).objs.size, [(s.heap.push { cls := .type "range", data := .fields #[.int lo t, .int hi u, .int 1 v] }).objs.size], _, _, H, rfl,
    I1.kept (t' := tk) fun b o e => Heap.get?_push_of_some _ e, turn_range _ lo (hi - lo).toNat, ?_, fun b hb => ?_, q⟩
  · have e1 : lo + ((0 : Nat) : Int) * 1 = lo := by simp
    have e2 : (((hi - lo).toNat : Nat) : Int) - ((0 : Nat) : Int) = Builtin.Range.rangeSize lo hi 1 := by rw [rangeSize_one]; split <;> omega
    show IsRangeIter _ _ (lo + ((0 : Nat) : Int) * 1) ((((hi - lo).toNat : Nat) : Int) - ((0 : Nat) : Int)) 1
    rw [e1, e2]
    exact Heap.get?_push_size _ rfl
  · have e : b = (s.heap.push { cls := .type "range", data := .fields #[.int lo t, .int hi u, .int 1 v] }).objs.size := by simpa using hb
    subst e
    exact I1.fpOk (Nat.le_refl _) (I1.hok.fresh (Nat.le_refl _))
def iRng1 (ta : TA) : TI := fun σ H R => ta σ H fun vs H1 => ∃ j : Int, vs = [.int j] ∧ -(2 ^ 62) ≤ j ∧ j < 2 ^ 62 ∧ R (Itr 0 j.toNat) H1
def iRng2 (ta : TA) : TI := fun σ H R => ta σ H fun vs H1 => ∃ i j : Int, vs = [.int i, .int j] ∧ (-(2 ^ 62) ≤ i ∧ i < 2 ^ 62 ∧ -(2 ^ 62) ≤ j ∧ j < 2 ^ 62) ∧ R (Itr i (j - i).toNat) H1
theorem pi_range1 {a : Expr} {ta : TA} {p pos : Pos} (hg : Gl X "range") (hm : X.mg "range" = none) (ha : PA X [a] ta) (hs : starEach [a] X.env = [(false, eval a X.env)] := by rfl) : PI X tg (.Call (.Name "range" p) [a] [] pos) (iRng1 ta) := by
  intro pins s σ H R I h
  refine Call_ (ld_blt I hg hm boot_range (PyProof.Rows.callWith_type1 (thn (ha pos pins s σ H _ I h) fun us s1 ⟨vs, H1, I1, r1, q1⟩ => ?_) hs rfl))
  obtain ⟨j, e, q1, q2, q⟩ := q1
  subst e
  cases r1 with
  | cons r rr =>
    cases rr
    obtain ⟨t, rfl⟩ := r
    exact call_range_1 (range_it I1 (by omega) (by omega) q1 q2 (by simpa using q))
theorem pi_range2 {a b : Expr} {ta : TA} {p pos : Pos} (hg : Gl X "range") (hm : X.mg "range" = none) (ha : PA X [a, b] ta) (hs : starEach [a, b] X.env = [(false, eval a X.env), (false, eval b X.env)] := by rfl) (hs2 : starEach [b] X.env = [(false, eval b X.env)] := by rfl) :
    PI X tg (.Call (.Name "range" p) [a, b] [] pos) (iRng2 ta) := by
  intro pins s σ H R I h
  refine Call_ (ld_blt I hg hm boot_range (PyProof.Rows.callWith_type1 (thn (ha pos pins s σ H _ I h) fun us s1 ⟨vs, H1, I1, r1, q1⟩ => ?_) (by rw [hs, hs2]) (by rw [hs2]; rfl)))
  obtain ⟨i, j, e, ⟨q1, q2, q3, q4⟩, q⟩ := q1
  subst e
  cases r1 with
  | cons r rr =>
    cases rr with
    | cons r' rr =>
      cases rr
      obtain ⟨t, rfl⟩ := r
      obtain ⟨t', rfl⟩ := r'
      exact call_range_2 (range_it I1 q1 q2 q3 q4 q)
def tFor (wi : TI) (g : TG) (tb : TS) : TS := fun D σ H => wi σ H fun J H1 => ∃ W : Nat → Nat → St → Hp → Prop, (∃ m, W 0 m σ H1) ∧ ∀ i m σ H, W i m σ H →
  (J.stop i H ∧ D.nx σ H) ∨ (J.go i H ∧ ∃ N : St → Hp → Prop, (∀ σ' H', N σ' H' → ∃ m', m' < m ∧ W (i + 1) m' σ' H') ∧ ∀ x H', J.yld i H x H' → g x σ H' fun σ2 H2 => tb { D with nx := N, ct := N, bk := D.nx } σ2 H2)
def pinsAt (fp : List Addr) (h : Heap) : List (Addr × Obj) := fp.filterMap fun b => (h.get? b).map fun o => (b, o)
theorem mem_pinsAt {fp : List Addr} {h : Heap} {b : Addr} {o : Obj} (hb : b ∈ fp) (e : h.get? b = some o) : (b, o) ∈ pinsAt fp h := List.mem_filterMap.mpr ⟨b, hb, by rw [e]; rfl⟩
theorem of_pinsAt {fp : List Addr} {h : Heap} {p : Addr × Obj} (hp : p ∈ pinsAt fp h) : p.1 ∈ fp ∧ h.get? p.1 = some p.2 := by
  obtain ⟨b, hb, e⟩ := List.mem_filterMap.mp hp
  cases q : h.get? b with
  | none => rw [q] at e; cases e
  | some o =>
    rw [q] at e
    have e' : (b, o) = p := Option.some.inj e
    subst e'
    exact ⟨hb, q⟩
theorem Inv.pinned {pins : List (Addr × Obj)} {σ : St} {H : Hp} {s : Shared} {fp : List Addr} (I : Inv X pins σ H s) (hf : ∀ b ∈ fp, FpOk X pins H b) (ho : ∀ b ∈ fp, ∃ o, s.heap.get? b = some o ∧ ∀ v, o.data ≠ .cell v) : Inv X (pins ++ pinsAt fp s.heap) σ H s :=
  I.pins_of fun p hp => (List.mem_append.mp hp).elim (fun z => I.pin p (List.mem_append_right _ z)) fun z => by
    obtain ⟨hb, e⟩ := of_pinsAt z
    obtain ⟨f0, f1, f2, _⟩ := hf p.1 hb
    obtain ⟨o, e', d⟩ := ho p.1 hb
    rw [e] at e'; cases e'
    exact ⟨e, f0, f1, f2, d⟩
theorem Inv.unpinned {pins pl : List (Addr × Obj)} {σ : St} {H : Hp} {s : Shared} (I : Inv X (pins ++ pl) σ H s) : Inv X pins σ H s := I.pins_of fun p hp => I.pin p (List.mem_append_right _ (List.mem_append_left _ hp))
theorem ps_for {iter : Expr} {body : List Stmt} {wi : TI} {g : TG} {tb : TS} {pos : Pos} (hp : PassesOwn (model X.prog X.w) X.A X.env X.xe) (hc : X.calm = true) (hi : PI X tg iter wi) (hg : PG X tg g) (hb : PSs X body tb)
    (hs : ∀ x, foldedSetIterable iter X.env x = pure x := by intro _; rfl) : PS X (.For tg iter body [] pos) (tFor wi g tb) := by
  intro pins s σ H D I h
  refine wpAny_For (thn (hi pins s σ H _ I h) fun v s1 h1 => thn h1 fun itv s2 h2 => ?_) hs
  obtain ⟨it, fp, tn, J, H2, e, I2, T, st2, f2, W, ⟨m0, w0⟩, turn⟩ := h2
  subst e
  have stat : ∀ {H' : Hp}, (∀ b ∈ fp, H' b = none) → ∀ b ∈ fp, FpOk X pins H' b := fun hn b hb => ⟨hn b hb, (f2 b hb).2⟩
  refine codeAny_forLoop_any (fun n s' => ∃ i σ' H', Inv X pins σ' H' s' ∧ tn i s'.heap ∧ (∀ b ∈ fp, H' b = none) ∧ W i n σ' H') ?_ m0 ⟨0, σ, H2, I2, st2, fun b hb => (f2 b hb).1, w0⟩
  rintro n s3 ⟨i, σ3, H3, I3, st3, fr3, w3⟩
  rcases turn i n σ3 H3 w3 with ⟨stop, qn⟩ | ⟨go, N, hN, step⟩
  · refine wpAny_passesOwn hp (thn (T.done X rfl rfl rfl hc i pins s3 σ3 H3 X.xe I3 (stat fr3) st3 stop) fun r s4 ⟨hr, I4⟩ => ?_)
    subst hr
    exact wpAny_execs_nil ⟨σ3, H3, I4, qn⟩
  · refine wpAny_passesOwn hp (thn (T.item X rfl rfl rfl hc i pins s3 σ3 H3 X.xe I3 (stat fr3) st3 go) fun r s4 ⟨u, hr, h4⟩ => ?_)
    subst hr
    refine wpAny_passesOwn hp (thn h4 fun _ s5 ⟨x, H5, I5, r5, y5, st5, fr5⟩ => ?_)
    have I5' := I5.pinned (stat fr5) (T.obj _ _ st5)
    refine wpAny_passesOwn hp (thn (hg _ s5 σ3 H5 x u _ I5' r5 (step x H5 y5)) fun _ s6 ⟨σ6, H6, I6, q6⟩ => ?_)
    refine wpAny_passesOwn hp (thn (hb _ s6 σ6 H6 _ I6 q6) fun f s7 q7 => ?_)
    have again : ∀ {σ7 : St} {H7 : Hp}, Inv X (pins ++ pinsAt fp s5.heap) σ7 H7 s7 → N σ7 H7 → ∃ m, m < n ∧ ∃ i σ' H', Inv X pins σ' H' s7 ∧ tn i s7.heap ∧ (∀ b ∈ fp, H' b = none) ∧ W i m σ' H' := fun {σ7 H7} I7 n7 => by
      obtain ⟨m', hm, w7⟩ := hN σ7 H7 n7
      refine ⟨m', hm, i + 1, σ7, H7, I7.unpinned, T.keep _ _ _ st5 fun b hb o e => (I7.pin (b, o) (List.mem_append_right _ (List.mem_append_right _ (mem_pinsAt hb e)))).1, fun b hb => ?_, w7⟩
      obtain ⟨o, e, d⟩ := T.obj _ _ st5 b hb
      exact (I7.pin (b, o) (List.mem_append_right _ (List.mem_append_right _ (mem_pinsAt hb e)))).2.1
    cases f with
    | next => obtain ⟨σ7, H7, I7, n7⟩ := q7; exact again I7 n7
    | cont => obtain ⟨σ7, H7, I7, n7⟩ := q7; exact again I7 n7
    | brk => obtain ⟨σ7, H7, I7, q7⟩ := q7; exact ⟨σ7, H7, I7.unpinned, q7⟩
    | ret v => obtain ⟨x7, σ7, H7, I7, r7, q7⟩ := q7; exact ⟨x7, σ7, H7, I7.unpinned, r7, q7⟩
end
theorem for_list {K : PySem.W.Frag} {a : Addr} {xs : List V} {g : TG} {tb : TS} {D : Ends} {σ : St} {H : Hp} (Pv : Nat → St → Hp → Prop) (h0 : Pv 0 σ H) (hl : ∀ i σ H, i ≤ xs.length → Pv i σ H → SqL K H a xs)
    (hs : ∀ i x σ H, xs[i]? = some x → Pv i σ H → g x σ H fun σ2 H2 => tb { D with nx := Pv (i + 1), ct := Pv (i + 1), bk := D.nx } σ2 H2) (hd : ∀ σ H, Pv xs.length σ H → D.nx σ H) :
    ∃ W : Nat → Nat → St → Hp → Prop, (∃ m, W 0 m σ H) ∧ ∀ i m σ H, W i m σ H →
      ((Itl K a).stop i H ∧ D.nx σ H) ∨ ((Itl K a).go i H ∧ ∃ N : St → Hp → Prop, (∀ σ' H', N σ' H' → ∃ m', m' < m ∧ W (i + 1) m' σ' H') ∧ ∀ x H', (Itl K a).yld i H x H' → g x σ H' fun σ2 H2 => tb { D with nx := N, ct := N, bk := D.nx } σ2 H2) := by
  refine ⟨fun i m σ H => m = xs.length - i ∧ i ≤ xs.length ∧ Pv i σ H, ⟨xs.length, by simp, Nat.zero_le _, h0⟩, ?_⟩
  rintro i m σ H ⟨rfl, hi, p⟩
  have q := hl i σ H hi p
  by_cases hlt : i < xs.length
  · refine .inr ⟨⟨xs, xs[i], q, by simp [hlt]⟩, Pv (i + 1), fun σ' H' p' => ⟨xs.length - (i + 1), by omega, rfl, hlt, p'⟩, fun x H' y => ?_⟩
    obtain ⟨e, y⟩ := y
    subst e
    exact hs i x σ _ (y xs q) p
  · have e : i = xs.length := by omega
    subst e
    exact .inl ⟨⟨xs, q, Nat.le_refl _⟩, hd σ H p⟩
theorem for_range {lo : Int} {n : Nat} {g : TG} {tb : TS} {D : Ends} {σ : St} {H : Hp} (Pv : Nat → St → Hp → Prop) (h0 : Pv 0 σ H)
    (hs : ∀ i σ H, i < n → Pv i σ H → g (.int (lo + i)) σ H fun σ2 H2 => tb { D with nx := Pv (i + 1), ct := Pv (i + 1), bk := D.nx } σ2 H2) (hd : ∀ σ H, Pv n σ H → D.nx σ H) :
    ∃ W : Nat → Nat → St → Hp → Prop, (∃ m, W 0 m σ H) ∧ ∀ i m σ H, W i m σ H →
      ((Itr lo n).stop i H ∧ D.nx σ H) ∨ ((Itr lo n).go i H ∧ ∃ N : St → Hp → Prop, (∀ σ' H', N σ' H' → ∃ m', m' < m ∧ W (i + 1) m' σ' H') ∧ ∀ x H', (Itr lo n).yld i H x H' → g x σ H' fun σ2 H2 => tb { D with nx := N, ct := N, bk := D.nx } σ2 H2) := by
  refine ⟨fun i m σ H => m = n - i ∧ i ≤ n ∧ Pv i σ H, ⟨n, by simp, Nat.zero_le _, h0⟩, ?_⟩
  rintro i m σ H ⟨rfl, hi, p⟩
  by_cases hlt : i < n
  · refine .inr ⟨hlt, Pv (i + 1), fun σ' H' p' => ⟨n - (i + 1), by omega, rfl, hlt, p'⟩, fun x H' y => ?_⟩
    obtain ⟨e, y⟩ := y
    subst e y
    exact hs i σ _ hlt p
  · have e : i = n := by omega
    subst e
    exact .inl ⟨Nat.le_refl _, hd σ H p⟩
theorem while_by {c : TT} {tb : TS} {D : Ends} {σ : St} {H : Hp} (Pv : St → Hp → Prop) (μ : St → Hp → Nat) (h0 : Pv σ H)
    (hs : ∀ σ H, Pv σ H → c σ H fun b H1 => if b = true then tb { D with nx := fun σ' H' => Pv σ' H' ∧ μ σ' H' < μ σ H, ct := fun σ' H' => Pv σ' H' ∧ μ σ' H' < μ σ H, bk := D.nx } σ H1 else D.nx σ H1)
    (mono : ∀ σ H Q Q', (∀ b H1, Q b H1 → Q' b H1) → c σ H Q → c σ H Q') : tWhile c tb D σ H := by
  refine ⟨fun m σ H => m = μ σ H ∧ Pv σ H, ⟨_, rfl, h0⟩, ?_⟩
  rintro m σ H ⟨rfl, p⟩
  refine mono σ H _ _ (fun b H1 q => ?_) (hs σ H p)
  cases b with
  | true => exact ⟨_, fun σ' H' ⟨p', l⟩ => ⟨_, l, rfl, p'⟩, q⟩
  | false => exact q
end L2
namespace L2
open PySem PySem.Spec PyProof.Rows
abbrev R2 := V → V → Hp → VK → Prop
def OpR (X : Cx) (f : Value → Value → Sem Value) (r : R2) : Prop :=
  ∀ (pins : List (Addr × Obj)) (s : Shared) (σ : St) (H : Hp) (x y : V) (v u : Value) (Q : VK), Inv X pins σ H s → RelV x v → RelV y u → r x y H Q →
    wpAny (model X.prog X.w) X.A (f v u) (EP X pins σ Q) X.xe s
def UnR (X : Cx) (f : Value → Sem Value) (r : V → Hp → VK → Prop) : Prop :=
  ∀ (pins : List (Addr × Obj)) (s : Shared) (σ : St) (H : Hp) (x : V) (v : Value) (Q : VK), Inv X pins σ H s → RelV x v → r x H Q →
    wpAny (model X.prog X.w) X.A (f v) (EP X pins σ Q) X.xe s
def CallR (X : Cx) (f : Value) (r : List V → Hp → VK → Prop) : Prop :=
  ∀ (pins : List (Addr × Obj)) (s : Shared) (σ : St) (H : Hp) (xs : List V) (us : List Value) (Q : VK), Inv X pins σ H s → Vals xs us → r xs H Q →
    wpAny (model X.prog X.w) X.A (call f us) (EP X pins σ Q) X.xe s
def tOp (r : R2) (ta tb : TE) : TE := fun σ H Q => ta σ H fun x H1 => tb σ H1 fun y H2 => r x y H2 Q
def tUn (r : V → Hp → VK → Prop) (ta : TE) : TE := fun σ H Q => ta σ H fun x H1 => r x H1 Q
def rI (C : Int → Int → Prop) (g : Int → Int → V) : R2 := fun x y H Q => ∃ i j, x = .int i ∧ y = .int j ∧ C i j ∧ Q (g i j) H
def rI0 (g : Int → Int → V) : R2 := fun x y H Q => ∃ i j, x = .int i ∧ y = .int j ∧ Q (g i j) H
def rU (g : Int → V) : V → Hp → VK → Prop := fun x H Q => ∃ i, x = .int i ∧ Q (g i) H
section
variable {X : Cx} {a b c : Expr} {ta tb tc : TE} {pos : Pos}
theorem binT (ha : PE X a ta) (hb : PE X b tb) {pins : List (Addr × Obj)} {s : Shared} {σ : St} {H : Hp} {R : V → V → Hp → Prop} (I : Inv X pins σ H s)
    (h : ta σ H fun x H1 => tb σ H1 fun y H2 => R x y H2) {Q : Value → Shared → Prop} {f : Value → Value → Sem Value}
    (hf : ∀ v u s2 x y H2, Inv X pins σ H2 s2 → RelV x v → RelV y u → R x y H2 → wpAny (model X.prog X.w) X.A (f v u) Q X.xe s2) :
    wpAny (model X.prog X.w) X.A (eval a X.env) (fun v s₁ => wpAny (model X.prog X.w) X.A (eval b X.env) (fun u s₂ => wpAny (model X.prog X.w) X.A (f v u) Q X.xe s₂) X.xe s₁) X.xe s := by
  refine thn (ha pins s σ H _ I h) fun v s1 ⟨x, H1, I1, r1, q1⟩ => ?_
  refine thn (hb pins s1 σ H1 _ I1 q1) fun u s2 ⟨y, H2, I2, r2, q2⟩ => ?_
  exact hf v u s2 x y H2 I2 r1 r2 q2
theorem pe_op {op : Operator} {r : R2} (ho : OpR X (binaryOp op) r) (ha : PE X a ta) (hb : PE X b tb) : PE X (.BinOp a op b pos) (tOp r ta tb) := by
  intro pins s σ H Q I h
  exact wpAny_BinOp (binT ha hb I h fun v u s2 x y H2 I2 rx ry q => ho pins s2 σ H2 x y v u Q I2 rx ry q)
theorem pe_un {op : UnaryOp} {r : V → Hp → VK → Prop} (ho : UnR X (unaryOp op) r) (ha : PE X a ta) : PE X (.UnaryOp op a pos) (tUn r ta) := by
  intro pins s σ H Q I h
  exact UnaryOp_ (thn (ha pins s σ H _ I h) fun v s1 ⟨x, H1, I1, r1, q1⟩ => ho pins s1 σ H1 x v Q I1 r1 q1)
theorem opI {f : Value → Value → Sem Value} {C : Int → Int → Prop} {g : Int → Int → Int}
    (rule : ∀ (i j : Int) (t u : Tok) (s : Shared) (Q : Value → Shared → Prop) (E : Value → Shared → Prop), C i j → Q (.int (g i j) s.toks) { s with toks := s.toks + 1 } → wpAny (model X.prog X.w) X.A (f (.int i t) (.int j u)) Q E s) :
    OpR X f (rI C fun i j => .int (g i j)) := by
  intro pins s σ H x y v u Q I rx ry h
  obtain ⟨i, j, rfl, rfl, hc, q⟩ := h
  obtain ⟨t, rfl⟩ := rx
  obtain ⟨t', rfl⟩ := ry
  exact rule i j t t' s _ _ hc ⟨.int (g i j), H, I.tok _, ⟨_, rfl⟩, q⟩
theorem opI0 {f : Value → Value → Sem Value} {g : Int → Int → Int}
    (rule : ∀ (i j : Int) (t u : Tok) (s : Shared) (Q : Value → Shared → Prop) (E : Value → Shared → Prop), Q (.int (g i j) s.toks) { s with toks := s.toks + 1 } → wpAny (model X.prog X.w) X.A (f (.int i t) (.int j u)) Q E s) :
    OpR X f (rI0 fun i j => .int (g i j)) := by
  intro pins s σ H x y v u Q I rx ry h
  obtain ⟨i, j, rfl, rfl, q⟩ := h
  obtain ⟨t, rfl⟩ := rx
  obtain ⟨t', rfl⟩ := ry
  exact rule i j t t' s _ _ ⟨.int (g i j), H, I.tok _, ⟨_, rfl⟩, q⟩
theorem opB0 {f : Value → Value → Sem Value} {g : Int → Int → Bool}
    (rule : ∀ (i j : Int) (t u : Tok) (s : Shared) (Q : Value → Shared → Prop) (E : Value → Shared → Prop), Q (.bool (g i j)) s → wpAny (model X.prog X.w) X.A (f (.int i t) (.int j u)) Q E s) :
    OpR X f (rI0 fun i j => .bl (g i j)) := by
  intro pins s σ H x y v u Q I rx ry h
  obtain ⟨i, j, rfl, rfl, q⟩ := h
  obtain ⟨t, rfl⟩ := rx
  obtain ⟨t', rfl⟩ := ry
  exact rule i j t t' s _ _ ⟨.bl (g i j), H, I, rfl, q⟩
def CDiv (i j : Int) : Prop := 0 < j ∧ j < 1073741824
def CPow (i j : Int) : Prop := 0 ≤ j ∧ j ≤ 1000000 ∧ i.natAbs < 2 ^ 64
def CMul (i j : Int) : Prop := (-(2 ^ 64) < i ∧ i < 2 ^ 64) ∨ (-(2 ^ 64) < j ∧ j < 2 ^ 64)
theorem CMul.ok {i j : Int} (h : CMul i j) : IntMulOk i j := by
  rcases h with ⟨h1, h2⟩ | ⟨h1, h2⟩
  · exact .of_left (intBits_le_64 h1 h2)
  · exact .of_right (intBits_le_64 h1 h2)
theorem op_add : OpR X (binaryOp .Add) (rI0 fun i j => .int (i + j)) := opI0 fun _ _ _ _ _ _ _ q => add_int q
theorem op_sub : OpR X (binaryOp .Sub) (rI0 fun i j => .int (i - j)) := opI0 fun _ _ _ _ _ _ _ q => sub_int q
theorem op_mul : OpR X (binaryOp .Mult) (rI CMul fun i j => .int (i * j)) := opI fun _ _ _ _ _ _ _ hc q => mul_int q hc.ok
theorem op_fdiv : OpR X (binaryOp .FloorDiv) (rI CDiv fun i j => .int (i / j)) := opI fun i j _ _ _ _ _ hc q => by
  have h1 : (0 : Int) < j := hc.1
  have h2 : j < 1073741824 := hc.2
  exact floordiv_int (by omega) (by rw [Int.fdiv_eq_ediv_of_nonneg i (by omega)]; exact q) (.inl (PyProof.noPylong_small (by omega)))
theorem op_mod : OpR X (binaryOp .Mod) (rI (fun _ j => 0 < j) fun i j => .int (i % j)) := opI fun i j _ _ _ _ _ hc q => by
  have h1 : (0 : Int) < j := hc
  exact mod_int' (by omega) (by rw [Int.fmod_eq_emod_of_nonneg i (by omega)]; exact q)
theorem op_pow : OpR X (binaryOp .Pow) (rI CPow fun i j => .int (i ^ j.toNat)) := opI fun _ _ _ _ _ _ _ hc q => pow_int_small hc.1 hc.2.1 hc.2.2 q
theorem unI {f : Value → Sem Value} {g : Int → Int}
    (rule : ∀ (i : Int) (t : Tok) (s : Shared) (Q : Value → Shared → Prop) (E : Value → Shared → Prop), Q (.int (g i) s.toks) { s with toks := s.toks + 1 } → wpAny (model X.prog X.w) X.A (f (.int i t)) Q E s) :
    UnR X f (rU fun i => .int (g i)) := by
  intro pins s σ H x v Q I rx h
  obtain ⟨i, rfl, q⟩ := h
  obtain ⟨t, rfl⟩ := rx
  exact rule i t s _ _ ⟨.int (g i), H, I.tok _, ⟨_, rfl⟩, q⟩
theorem un_neg : UnR X (unaryOp .USub) (rU fun i => .int (-i)) := unI fun _ _ _ _ _ q => neg_int q
end
def scal : V → V → Bool
  | .non, .non => true | .non, .int _ => true | .int _, .non => true | .non, .bl _ => true | .bl _, .non => true | .non, .str _ => true | .str _, .non => true
  | .int _, .int _ => true | .bl _, .bl _ => true | .str _, .str _ => true | .byt _, .byt _ => true
  | .int _, .str _ => true | .str _, .int _ => true | .bl _, .str _ => true | .str _, .bl _ => true
  | _, _ => false
def rEq : R2 := fun x y H Q => scal x y = true ∧ Q (.bl (decide (x = y))) H
def rNe : R2 := fun x y H Q => scal x y = true ∧ Q (.bl (!decide (x = y))) H
theorem dec_int {i j : Int} : decide (V.int i = V.int j) = (i == j) := by
  rw [Bool.eq_iff_iff]
  simp
theorem dec_bl {i j : Bool} : decide (V.bl i = V.bl j) = (i == j) := by
  rw [Bool.eq_iff_iff]
  simp
theorem dec_str {i j : Str} : decide (V.str i = V.str j) = (i == j) := by
  rw [Bool.eq_iff_iff]
  simp
theorem dec_byt {i j : Array UInt8} : decide (V.byt i = V.byt j) = (i.toList == j.toList) := by
  rw [Bool.eq_iff_iff]
  cases i
  cases j
  simp
section
variable {X : Cx} {a b c : Expr} {ta tb tc : TE} {pos : Pos}
theorem fin_bl {pins : List (Addr × Obj)} {σ : St} {H : Hp} {s : Shared} {Q : VK} {k k' : Bool} (I : Inv X pins σ H s) (q : Q (.bl k) H) (e : k = k') : EP X pins σ Q (.bool k') s := by
  subst e
  exact ⟨.bl k, H, I, rfl, q⟩
theorem op_eq : OpR X (compareOp .Eq) rEq := by
  intro pins s σ H x y v u Q I rx ry h
  obtain ⟨hs, q⟩ := h
  cases x with
  | non =>
    cases rx
    cases y with
    | non => cases ry; exact PySem.EqNone.eq_none_none (fin_bl I q (by simp))
    | bl j => cases ry; exact PySem.EqNone.eq_none_bool (fin_bl I q (by simp))
    | int j => obtain ⟨t', rfl⟩ := ry; exact PySem.EqNone.eq_none_int (fin_bl I q (by simp))
    | str j => obtain ⟨t', rfl⟩ := ry; exact PySem.EqNone.eq_none_str (fin_bl I q (by simp))
    | _ => exact absurd (show false = true from hs) Bool.false_ne_true
  | bl i =>
    cases rx
    cases y with
    | non => cases ry; exact PySem.EqNone.eq_bool_none (fin_bl I q (by simp))
    | bl j => cases ry; exact eq_bool (fin_bl I q dec_bl)
    | str j => obtain ⟨t', rfl⟩ := ry; exact PySem.EqMixed.eq_bool_str (fin_bl I q (by simp))
    | _ => exact absurd (show false = true from hs) Bool.false_ne_true
  | int i =>
    obtain ⟨t, rfl⟩ := rx
    cases y with
    | non => cases ry; exact PySem.EqNone.eq_int_none (fin_bl I q (by simp))
    | int j => obtain ⟨t', rfl⟩ := ry; exact eq_int (fin_bl I q dec_int)
    | str j => obtain ⟨t', rfl⟩ := ry; exact PySem.EqMixed.eq_int_str (fin_bl I q (by simp))
    | _ => exact absurd (show false = true from hs) Bool.false_ne_true
  | str i =>
    obtain ⟨t, rfl⟩ := rx
    cases y with
    | non => cases ry; exact PySem.EqNone.eq_str_none (fin_bl I q (by simp))
    | bl j => cases ry; exact PySem.EqMixed.eq_str_bool (fin_bl I q (by simp))
    | int j => obtain ⟨t', rfl⟩ := ry; exact PySem.EqMixed.eq_str_int (fin_bl I q (by simp))
    | str j => obtain ⟨t', rfl⟩ := ry; exact eq_str (fin_bl I q dec_str)
    | _ => exact absurd (show false = true from hs) Bool.false_ne_true
  | byt i =>
    obtain ⟨t, rfl⟩ := rx
    cases y with
    | byt j => obtain ⟨t', rfl⟩ := ry; exact PySem.W.eq_bytes (fin_bl I q dec_byt)
    | _ => exact absurd (show false = true from hs) Bool.false_ne_true
  | _ => cases y <;> exact absurd (show false = true from hs) Bool.false_ne_true
theorem op_ne : OpR X (compareOp .NotEq) rNe := by
  intro pins s σ H x y v u Q I rx ry h
  obtain ⟨hs, q⟩ := h
  cases x with
  | non =>
    cases rx
    cases y with
    | non => cases ry; exact PySem.EqNone.ne_none_none (fin_bl I q (by simp))
    | bl j => cases ry; exact PySem.EqNone.ne_none_bool (fin_bl I q (by simp))
    | int j => obtain ⟨t', rfl⟩ := ry; exact PySem.EqNone.ne_none_int (fin_bl I q (by simp))
    | str j => obtain ⟨t', rfl⟩ := ry; exact PySem.EqNone.ne_none_str (fin_bl I q (by simp))
    | _ => exact absurd (show false = true from hs) Bool.false_ne_true
  | bl i =>
    cases rx
    cases y with
    | non => cases ry; exact PySem.EqNone.ne_bool_none (fin_bl I q (by simp))
    | bl j => cases ry; exact ne_bool (fin_bl I q (congrArg not dec_bl))
    | str j => obtain ⟨t', rfl⟩ := ry; exact PySem.EqMixed.ne_bool_str (fin_bl I q (by simp))
    | _ => exact absurd (show false = true from hs) Bool.false_ne_true
  | int i =>
    obtain ⟨t, rfl⟩ := rx
    cases y with
    | non => cases ry; exact PySem.EqNone.ne_int_none (fin_bl I q (by simp))
    | int j => obtain ⟨t', rfl⟩ := ry; exact ne_int (fin_bl I q (congrArg not dec_int))
    | str j => obtain ⟨t', rfl⟩ := ry; exact PySem.EqMixed.ne_int_str (fin_bl I q (by simp))
    | _ => exact absurd (show false = true from hs) Bool.false_ne_true
  | str i =>
    obtain ⟨t, rfl⟩ := rx
    cases y with
    | non => cases ry; exact PySem.EqNone.ne_str_none (fin_bl I q (by simp))
    | bl j => cases ry; exact PySem.EqMixed.ne_str_bool (fin_bl I q (by simp))
    | int j => obtain ⟨t', rfl⟩ := ry; exact PySem.EqMixed.ne_str_int (fin_bl I q (by simp))
    | str j => obtain ⟨t', rfl⟩ := ry; exact ne_str (fin_bl I q (congrArg not dec_str))
    | _ => exact absurd (show false = true from hs) Bool.false_ne_true
  | byt i =>
    obtain ⟨t, rfl⟩ := rx
    cases y with
    | byt j => obtain ⟨t', rfl⟩ := ry; exact PySem.W.ne_bytes (fin_bl I q (congrArg not dec_byt))
    | _ => exact absurd (show false = true from hs) Bool.false_ne_true
  | _ => cases y <;> exact absurd (show false = true from hs) Bool.false_ne_true
theorem op_lt : OpR X (compareOp .Lt) (rI0 fun i j => .bl (decide (i < j))) := opB0 fun _ _ _ _ _ _ _ q => lt_int q
theorem op_le : OpR X (compareOp .LtE) (rI0 fun i j => .bl (decide (i ≤ j))) := opB0 fun _ _ _ _ _ _ _ q => le_int q
theorem op_gt : OpR X (compareOp .Gt) (rI0 fun i j => .bl (decide (j < i))) := opB0 fun _ _ _ _ _ _ _ q => gt_int q
theorem op_ge : OpR X (compareOp .GtE) (rI0 fun i j => .bl (decide (j ≤ i))) := opB0 fun _ _ _ _ _ _ _ q => ge_int q
theorem op_in_str : OpR X (compareOp .In) (fun x y H Q => ∃ i j, x = .str i ∧ y = .str j ∧ Q (.bl (!(Builtin.Str.occurrences j i 0 j.length 1).isEmpty)) H) := by
  intro pins s σ H x y v u Q I rx ry h
  obtain ⟨i, j, rfl, rfl, q⟩ := h
  obtain ⟨t, rfl⟩ := rx
  obtain ⟨t', rfl⟩ := ry
  exact in_str (fin_bl I q rfl)
theorem op_isN : OpR X (compareOp .Is) (fun x y H Q => y = .non ∧ Q (.bl (decide (x = .non))) H) := by
  intro pins s σ H x y v u Q I rx ry h
  obtain ⟨rfl, q⟩ := h
  cases ry
  refine is_none_gen (fin_bl I q ?_)
  cases x <;> first
    | (cases rx; rfl)
    | (obtain ⟨t, rfl⟩ := rx; rfl)
theorem nomark (b : Expr) {op : CmpOp} (h : op ≠ .In := by decide) (h2 : op ≠ .NotIn := by decide) : behindInMarks op b = false := by
  have e1 : (op == CmpOp.In) = false := by cases op <;> first | rfl | exact absurd rfl h
  have e2 : (op == CmpOp.NotIn) = false := by cases op <;> first | rfl | exact absurd rfl h2
  cases b <;> simp [behindInMarks, e1, e2]
theorem pe_cmpR {op : CmpOp} {r : R2} (ho : OpR X (compareOp op) r) (ha : PE X a ta) (hb : PE X b tb) (hm : behindInMarks op b = false) : PE X (.Compare a [op] [b] pos) (tOp r ta tb) := by
  intro pins s σ H Q I h
  exact wpAny_Compare1 (binT ha hb I h fun v u s2 x y H2 I2 rx ry q => ho pins s2 σ H2 x y v u Q I2 rx ry q) hm
def tTest (t : TE) : TT := fun σ H Q => t σ H fun x H' => ∃ k, x = .bl k ∧ Q k H'
theorem pt_cmpR {op : CmpOp} {r : R2} (ho : OpR X (compareOp op) r) (ha : PE X a ta) (hb : PE X b tb) (hm : behindInMarks op b = false) : PT X (.Compare a [op] [b] pos) (tTest (tOp r ta tb)) := by
  intro pins s σ H Q I h
  refine wpAny_isTrue_Compare1 (thn (ha pins s σ H _ I h) fun v s1 ⟨x, H1, I1, r1, q1⟩ => thn (hb pins s1 σ H1 _ I1 q1) fun u s2 ⟨y, H2, I2, r2, q2⟩ =>
    thn (ho pins s2 σ H2 x y v u _ I2 r1 r2 q2) fun c s3 ⟨z, H3, I3, r3, k, e, q3⟩ => ?_) hm
  subst e
  cases r3
  exact wpAny_truthy_bool ⟨H3, I3, q3⟩
theorem line63 : (sizeLine : Nat) < 2 ^ 63 := by rw [sizeLine_eq]; decide
theorem op_add_str : OpR X (binaryOp .Add) (fun x y H Q => ∃ i j, x = .str i ∧ y = .str j ∧ i.length + j.length ≤ sizeLine ∧ Q (.str (i ++ j)) H) := by
  intro pins s σ H x y v u Q I rx ry h
  obtain ⟨i, j, rfl, rfl, hz, q⟩ := h
  obtain ⟨t, rfl⟩ := rx
  obtain ⟨t', rfl⟩ := ry
  exact add_str (fun t' tk => ⟨.str (i ++ j), H, I.tok _, ⟨_, rfl⟩, q⟩) hz
theorem vals1 {x : V} {us : List Value} (r : Vals [x] us) : ∃ u, us = [u] ∧ RelV x u := by
  cases r with
  | cons r1 r2 => cases r2; exact ⟨_, rfl, r1⟩
theorem vals2 {x y : V} {us : List Value} (r : Vals [x, y] us) : ∃ u w', us = [u, w'] ∧ RelV x u ∧ RelV y w' := by
  cases r with
  | cons r1 r2 =>
    cases r2 with
    | cons r3 r4 => cases r4; exact ⟨_, _, rfl, r1, r3⟩
theorem call_abs : CallR X (.builtin "abs") (fun xs H Q => ∃ i, xs = [.int i] ∧ Q (.int (if i < 0 then -i else i)) H) := by
  intro pins s σ H xs us Q I r h
  obtain ⟨i, rfl, q⟩ := h
  obtain ⟨u, rfl, t, rfl⟩ := vals1 r
  exact call_abs_int fun u tk => ⟨.int (if i < 0 then -i else i), H, I.tok _, ⟨_, rfl⟩, q⟩
theorem call_min2 (hc : X.calm = true) : CallR X (.builtin "min") (fun xs H Q => ∃ i j, xs = [.int i, .int j] ∧ Q (.int (if j < i then j else i)) H) := by
  intro pins s σ H xs us Q I r h
  obtain ⟨i, j, rfl, q⟩ := h
  obtain ⟨u, w', rfl, ⟨t, rfl⟩, ⟨t', rfl⟩⟩ := vals2 r
  refine min_two_ints (I.ok.hd hc) fun h' tk k => ⟨_, H, I.kept k, ?_, q⟩
  by_cases hj : j < i
  · rw [if_pos hj, if_pos hj]; exact ⟨_, rfl⟩
  · rw [if_neg hj, if_neg hj]; exact ⟨_, rfl⟩
end
end L2
namespace L2
open PySem PySem.Spec PyProof.Rows
structure ObjM (h : Heap) (x dx C : Addr) (mA : Str → Option Value) : Prop where
  obj : h.get? x = some (PySem.W.instObj C dx)
  ns : h.Ns1 dx mA
  ne : dx ≠ x
theorem lookIn_ns {h : Heap} {dx : Addr} {mA : Str → Option Value} (n : h.Ns1 dx mA) : ∃ od, h.get? dx = some od ∧ ∀ name, PySem.W.lookIn name od = some (mA name) := by
  obtain ⟨o, es, ep, ho, hd, hk, _, hm⟩ := n
  refine ⟨o, ho, fun name => ?_⟩
  have e := hm name
  unfold nsFind findBy at e
  rw [← Array.find?_toList] at e
  unfold PySem.W.lookIn
  rw [hd]
  dsimp only
  split
  · rename_i y q
    rw [q] at e
    exact congrArg some e
  · rename_i q
    rw [q] at e
    have a : es.toList.any (·.refKey) = false := by
      rw [List.any_eq_false]
      intro y hy
      obtain ⟨z, t, hkey⟩ := hk y (Array.mem_toList_iff.mp hy)
      simp [DictEntry.refKey, hkey]
    have a' : ¬ es.toList.any (·.refKey) = true := by rw [a]; exact Bool.false_ne_true
    rw [if_neg a']
    exact congrArg some e
theorem ObjM.look {h : Heap} {x dx C : Addr} {mA : Str → Option Value} (I : ObjM h x dx C mA) : ∃ od, PySem.W.InstAt h x (PySem.W.instObj C dx) C (some od) ∧ ∀ name, PySem.W.lookIn name od = some (mA name) :=
  let ⟨od, ho, hl⟩ := lookIn_ns I.ns
  ⟨od, ⟨I.obj, rfl, rfl, ho⟩, hl⟩
section
variable {prog : Program} {w : World} {A : Around} {E : Value → Shared → Prop} {s : Shared} {K : PySem.W.Frag} {x dx C f : Addr} {mA : Str → Option Value} {name : Str} {v : Value}
end
theorem RelO.some_of {v : V} {o : Option Value} (r : RelO (some v) o) : ∃ u, o = some u ∧ RelV v u := by
  cases o with
  | none => exact (show False from r).elim
  | some u => exact ⟨u, rfl, r⟩
section
variable {P : Program} {w : World} {H H' : Hp} {h h' : Heap} {a C dx : Addr} {fs fs' : List (Str × V)}
theorem ins_get (hok : HOk P w H h) (e : H a = some (.ins C dx fs)) : ∃ mA, ObjM h a dx C mA ∧ (∀ f, RelO (fs.lookup f) (mA f)) ∧ PySem.Within mA (fs.map (·.1)) ∧ fs.length ≤ 1000 ∧ H dx = some (.own a) := by
  obtain ⟨d, z, ne, ob, mA, n, r, q⟩ := (show ObjOk P w H h a (.ins C dx fs) from hok a _ e)
  exact ⟨mA, ⟨ob, n, ne⟩, r, q, z, d⟩
end
structure Cls (K : PySem.W.Frag) (C : Addr) : Prop where
  pg : PySem.W.plainGet K C Str.empty = true
  hd : PySem.W.hasDictIn K C = true
  po : PySem.W.plainOver K C = true
  sa : PySem.W.findIn K (.ref C) "__setattr__" = some (some (.builtin "object.__setattr__"))
theorem Cls.get {K : PySem.W.Frag} {C : Addr} (c : Cls K C) (f : Str) : PySem.W.plainGet K C f = true := c.pg
section
variable {X : Cx} {pins : List (Addr × Obj)} {σ : St} {H : Hp} {s : Shared} {a C dx : Addr} {fs : List (Str × V)} {f : Str} {v : V} {A : Around} {E : Value → Shared → Prop}
end
section
variable {X : Cx} {o e value : Expr} {f : Str} {pos pos' tpos : Pos} {ta tv : TE}
end
section
variable {X : Cx} {pins : List (Addr × Obj)} {σ : St} {H : Hp} {s : Shared} {A : Around} {E : Value → Shared → Prop} {Q : Value → Shared → Prop} {c : Value} {b : Bool}
inductive TyOf (K : PySem.W.Frag) (H : Hp) : V → Value → Prop where
  | non : TyOf K H .non (.type "NoneType")
  | bl (x : Bool) : TyOf K H (.bl x) (.type "bool")
  | int (i : Int) : TyOf K H (.int i) (.type "int")
  | str (x : Str) : TyOf K H (.str x) (.type "str")
  | flt (x : UInt64) : TyOf K H (.flt x) (.type "float")
  | lst {a : Addr} {xs : List V} (e : H a = some (.lst xs)) : TyOf K H (.ref a) (.type "list")
  | frz {a : Addr} {o : Obj} {xs : List V} (e : H a = some (.frz o (.lst xs))) : TyOf K H (.ref a) (.type "list")
  | tup {a : Addr} {xs : List V} (e : H a = some (.tup xs)) : TyOf K H (.ref a) (.type "tuple")
  | dK {a : Addr} {kvs : List (Key × V)} (e : H a = some (.dK kvs)) : TyOf K H (.ref a) (.type "dict")
  | dT {a : Addr} {kvs : List (List Key × V)} (e : H a = some (.dT kvs)) : TyOf K H (.ref a) (.type "dict")
  | ins {a C dx : Addr} {fs : List (Str × V)} (e : H a = some (.ins C dx fs)) (cl : Cls K C) (ha : PySem.W.findIn K (.ref C) "__class__" = some (some (.builtin "object.__class__")))
      (hn : PySem.W.specialIn K (.builtin "object.__class__") "__get__" = some (some (.builtin "getset_descriptor.__get__"))) (htk : PySem.W.takesIn K (.builtin "object.__class__") = some true)
      (hm : PySem.W.mroIn K C (.type "object") = some true) : TyOf K H (.ref a) (.ref C)
end
end L2
namespace L2
open PySem PySem.Spec PyProof.Rows
structure Room (k : Nat) (A : Around) : Prop where
  hd : A.handled = none
  dp : A.depth + 3 * k + 5 < recursionLimit
  un : A.units + 16 * k + 200 < cLine
theorem Room.mono {j k : Nat} {A : Around} (r : Room k A) (h : j ≤ k) : Room j A := ⟨r.hd, by have := r.dp; omega, by have := r.un; omega⟩
theorem Room.deeper {k : Nat} {A : Around} (r : Room (k + 1) A) (env : Env) : Room k (A.deeper env) :=
  ⟨r.hd, by have := r.dp; show A.depth + 1 + 3 * k + 5 < _; omega, by have := r.un; show A.units + 3 + 16 * k + 200 < _; omega⟩
theorem Room.depth {k : Nat} {A : Around} (r : Room k A) : A.depth < recursionLimit := by have := r.dp; omega
def tNil : TA := fun _ H Q => Q [] H
def tCons (ta : TE) (tr : TA) : TA := fun σ H Q => ta σ H fun x H1 => tr σ H1 fun xs H2 => Q (x :: xs) H2
section
variable {X : Cx} {e : Expr} {es : List Expr} {te : TE} {t : TA} {pos : Pos}
theorem pa_nil : PA X [] tNil := fun _ _ _ _ H Q I h => Calls.spliced_nil ⟨[], H, I, .nil, h⟩
theorem pa_cons (ha : PE X e te) (hr : PA X es t) (hs : starEach (e :: es) X.env = (false, eval e X.env) :: starEach es X.env := by rfl) : PA X (e :: es) (tCons te t) := by
  intro pos pins s σ H Q I h
  rw [hs]
  show wpAny _ _ (spliced ((false, eval e X.env) :: backTo pos (starEach es X.env))) _ _ s
  refine Calls.spliced_cons (thn (ha pins s σ H _ I h) fun u s1 ⟨x, H1, I1, r1, q1⟩ => ?_)
  exact thn (hr pos pins s1 σ H1 _ I1 q1) fun us s2 ⟨xs, H2, I2, r2, q2⟩ => ⟨x :: xs, H2, I2, .cons r1 r2, q2⟩
def tTup (t : TA) : TE := fun σ H Q => t σ H fun xs H1 => xs.length ≤ sizeLine ∧ ∀ p, H1 p = none → Q (.ref p) (upd H1 p (.tup xs))
def tLst (t : TA) : TE := fun σ H Q => t σ H fun xs H1 => xs.length ≤ sizeLine ∧ ∀ p, H1 p = none → Q (.ref p) (upd H1 p (.lst xs))
theorem pe_tup {x1} (h : PA X es t) : PE X (.Tuple es x1 pos) (tTup t) := by
  intro pins s σ H Q I hq
  refine wpAny_Tuple_spliced (thn (h pos pins s σ H _ I hq) fun us s1 ⟨xs, H1, I1, r, z, q⟩ => ⟨by rw [← r.length]; exact z, ?_⟩)
  have hf : H1 s1.heap.objs.size = none := I1.hok.fresh (Nat.le_refl _)
  refine ⟨.ref s1.heap.objs.size, upd H1 s1.heap.objs.size (.tup xs), I1.laid (t' := s1.toks) (fun b u e => Heap.get?_push_of_some _ e) (Nat.le_refl _) ?_, rfl, q _ hf⟩
  exact ⟨z, us, r, ⟨_, Heap.get?_push_size _ rfl, rfl, _, rfl⟩⟩
theorem pe_lst (h : PA X es t) : PE X (.List es pos) (tLst t) := by
  intro pins s σ H Q I hq
  refine wpAny_List_spliced (thn (h pos pins s σ H _ I hq) fun us s1 ⟨xs, H1, I1, r, z, q⟩ => ⟨by rw [← r.length]; exact z, ?_⟩)
  have hf : H1 s1.heap.objs.size = none := I1.hok.fresh (Nat.le_refl _)
  refine ⟨.ref s1.heap.objs.size, upd H1 s1.heap.objs.size (.lst xs), I1.laid (t' := s1.toks) (fun b u e => Heap.get?_push_of_some _ e) (Nat.le_refl _) ?_, rfl, q _ hf⟩
  exact ⟨z, us, 0, r, Heap.get?_push_size _ rfl⟩
end
abbrev Sp := List V → Hp → VK → XK → Prop
abbrev CXT := List Env → Hp → Shared → XK → Value → Shared → Prop
structure Env0 (P : Program) (w : World) (K : PySem.W.Frag) (mg : Str → Option Value) (base : Heap) (A : Around) (outer : List Env) (s : Shared) (H : Hp) : Prop where
  frames : A.frames = some outer
  mod : Mod K mg base
  bs : ∀ b o, base.get? b = some o → s.heap.get? b = some o ∧ H b = none
  bsz : base.objs.size ≤ s.heap.objs.size
  funs : s.heap.FunFrames base outer
  frf : ∀ b ∈ frs outer, H b = none
  hok : HOk P w H s.heap
  bare : AllBare s.gens
def CE (outer : List Env) (P : Program) (w : World) (H : Hp) (s : Shared) (Q : VK) (u : Value) (s' : Shared) : Prop :=
  ∃ v H', s'.os = s.os ∧ AllBare s'.gens ∧ Un (frs outer) [] H H' s.heap s'.heap ∧ HOk P w H' s'.heap ∧ RelV v u ∧ Q v H'
def CR (CX : CXT) (outer : List Env) (P : Program) (w : World) (H : Hp) (s : Shared) (Q : VK) (E : XK) (r : Result) (s' : Shared) : Prop :=
  match r with
  | .ok (.ret u) => CE outer P w H s Q u s'
  | .ok _ => False
  | .error e => CX outer H s E e s'
structure FnOk (P : Program) (w : World) (K : PySem.W.Frag) (mg : Str → Option Value) (base : Heap) (CX : CXT) (k : Nat) (f : Addr) (fd : FuncData) (ps : List Str) (sp : Sp) : Prop where
  len : ∀ vs H Q E, sp vs H Q E → vs.length = ps.length
  run : ∀ (A : Around) (outer : List Env) (s : Shared) (H : Hp) (args : Args) (us : List Value) (vs : List V) (Q : VK) (E : XK), Room k A → Env0 P w K mg base A outer s H → BindsTo s fd args (ps.zip us) → Vals vs us → sp vs H Q E →
    codeAny (model P w) A (.call (.ref f) args) (CR CX outer P w H s Q E) s
section
variable {X : Cx} {pins : List (Addr × Obj)} {σ : St} {H : Hp} {s s' : Shared}
theorem Inv.env0 (I : Inv X pins σ H s) : Env0 X.prog X.w X.K X.mg X.base X.A X.stack s H :=
  ⟨I.ok.frames, I.ok.mod, I.bs, Nat.le_trans I.ok.bsz I.sz, I.stack, I.stkFree, I.hok, I.bare⟩
theorem Inv.after {Q : VK} {u : Value} (I : Inv X pins σ H s) (h : CE X.stack X.prog X.w H s Q u s') : EP X pins σ Q u s' := by
  obtain ⟨v, H', os, bare, un, hok, r, q⟩ := h
  obtain ⟨hh, g, d, t, os'⟩ := s'
  obtain rfl : os' = s.os := os
  exact ⟨v, H', I.call (h' := hh) (g' := g) (d' := d) (t' := t) (ch := []) un hok bare (fun b z => absurd z (by simp)), r, q⟩
end
def tCall (sp : Sp) (dvs : List V) (E : XK) (t : TA) : TE := fun σ H Q => t σ H fun vs H1 => sp (vs ++ dvs) H1 Q E
def Binds (K : PySem.W.Frag) (fd : FuncData) (ps : List Str) (ds : List Value) : Prop :=
  ∀ (s : Shared) (us : List Value), K.In s.heap → (us ++ ds).length = ps.length → BindsTo s fd ⟨us, []⟩ (ps.zip (us ++ ds))
theorem Binds.all {K : PySem.W.Frag} {fd : FuncData} {ps : List Str} (h : ∀ us : List Value, us.length = ps.length → bindArgs fd ⟨us, []⟩ = pure (ps.zip us)) : Binds K fd ps [] := fun s us _ hl => by
  rw [List.append_nil] at hl ⊢
  exact .of_eq (h us hl)
def Passes (CX : CXT) (X : Cx) (E : XK) : Prop := ∀ (pins : List (Addr × Obj)) (σ : St) (H : Hp) (s : Shared) (e : Value) (s' : Shared), Inv X pins σ H s → CX X.stack H s E e s' → X.xe e s'
section
variable {X : Cx} {CX : CXT} {k : Nat} {f C : Addr} {fd : FuncData} {ps : List Str} {sp : Sp} {dvs : List V} {ds : List Value} {E : XK} {x m : Str} {p pos apos : Pos} {e o : Expr} {es : List Expr} {ta : TE} {t : TA}
theorem run_fn {pins : List (Addr × Obj)} {σ : St} {H : Hp} {s : Shared} {Q : VK} {us : List Value} {vs : List V} (F : FnOk X.prog X.w X.K X.mg X.base CX k f fd ps sp) (hr : Room k X.A) (hb : Binds X.K fd ps ds) (hd : Vals dvs ds) (hx : Passes CX X E)
    (I : Inv X pins σ H s) (r : Vals vs us) (h : sp (vs ++ dvs) H Q E) : wpAny (model X.prog X.w) X.A (call (.ref f) us) (EP X pins σ Q) X.xe s := by
  have r2 : Vals (vs ++ dvs) (us ++ ds) := r.append hd
  have hl : (us ++ ds).length = ps.length := by rw [← r2.length]; exact F.len _ _ _ _ h
  refine wpAny_call (codeAny_mono (F.run X.A X.stack s H ⟨us, []⟩ (us ++ ds) (vs ++ dvs) Q E hr I.env0 (hb s us I.kIn hl) r2 h) fun r s' hq => ?_)
  cases r with
  | error e => exact hx pins σ H s e s' I hq
  | ok fl =>
    cases fl with
    | ret u => exact I.after hq
    | next => exact False.elim hq
    | brk => exact False.elim hq
    | cont => exact False.elim hq
theorem pe_call (F : FnOk X.prog X.w X.K X.mg X.base CX k f fd ps sp) (hr : Room k X.A) (hg : Gl X x) (hm : X.mg x = some (.ref f)) (hk : PySem.W.keepIn X.K (.ref f) = true) (hb : Binds X.K fd ps ds) (hd : Vals dvs ds) (hx : Passes CX X E)
    (ha : PA X (e :: es) t) (hdb : (x == ("__debug__" : Str)) = false := by decide) (he : starEach (e :: es) X.env = (false, eval e X.env) :: starEach es X.env := by rfl) (hpl : (backTo pos (starEach es X.env)).any (·.1) = false := by rfl) :
    PE X (.Call (.Name x p) (e :: es) [] pos) (tCall sp dvs E t) := by
  intro pins s σ H Q I h
  refine wpAny_Call_Name_kw (ld_glob I hg hm ?_ hdb)
  refine PySem.W.callWith_K (h₀ := X.base) I.ok.mod.kin hk (thn (ha pos pins s σ H _ I h) fun us s1 ⟨vs, H1, I1, r, q⟩ => ⟨I1.kIn, ?_⟩) he hpl
  exact run_fn F hr hb hd hx I1 r q
end
section
variable {X : Cx} {CX : CXT} {k : Nat} {f C : Addr} {fd : FuncData} {ps ks : List Str} {sp : Sp} {E : XK} {x m : Str} {p pos apos kpos : Pos} {e o : Expr} {es : List Expr} {kws : List Keyword} {te ta : TE} {t tk : TA} {nm : Option Str}
variable {g : List Value → List Value → List Value} {gV : List V → List V → List V}
end
structure FnScope (N P : List Str) (sc : Scope) : Prop where
  kind : sc.kind = .function
  co : sc.isCoroutine = false
  gen : sc.isGenerator = false
  nd : N.Nodup
  pre : N.take P.length = P
  par : ∀ x ∈ P, sc.names.lookup x = some .local ∨ sc.names.lookup x = some .cell
  nofree : ∀ y ∈ sc.names, y.2 ≠ .free
theorem bindL_out {kindOf : Str → Option NameKind} {x : Str} : ∀ {binds : List (Str × Value)} {m : Str → Option Value}, (∀ v, (x, v) ∉ binds) → bindL kindOf binds m x = m x
  | [], _, _ => rfl
  | (n, v) :: r, m, h => by
    unfold bindL
    rw [bindL_out fun w hw => h w (List.mem_cons_of_mem _ hw)]
    split
    · have : x ≠ n := by rintro rfl; exact h v List.mem_cons_self
      simp [this]
    · rfl
theorem bindC_out {kindOf : Str → Option NameKind} {x : Str} : ∀ {binds : List (Str × Value)} {m : Str → Option Value}, (∀ v, (x, v) ∉ binds) → bindC kindOf binds m x = m x
  | [], _, _ => rfl
  | (n, v) :: r, m, h => by
    unfold bindC
    rw [bindC_out fun w hw => h w (List.mem_cons_of_mem _ hw)]
    split
    · rfl
    · have : x ≠ n := by rintro rfl; exact h v List.mem_cons_self
      simp [this]
theorem bindL_get {kindOf : Str → Option NameKind} {x : Str} {v : Value} : ∀ {P : List Str} {vs : List Value} {i : Nat} {m : Str → Option Value}, P.Nodup → P[i]? = some x → vs[i]? = some v → kindOf x = some .local →
    bindL kindOf (P.zip vs) m x = some v
  | [], _, _, _, _, h, _, _ => by simp at h
  | _ :: _, [], _, _, _, _, h, _ => by simp at h
  | p :: P, w :: vs, 0, m, nd, h1, h2, hk => by
    simp at h1 h2; subst h1; subst h2
    show bindL kindOf ((p, w) :: P.zip vs) m p = _
    unfold bindL
    rw [bindL_out fun v hv => (List.nodup_cons.mp nd).1 (List.of_mem_zip hv).1, if_pos hk]
    simp
  | p :: P, w :: vs, i + 1, m, nd, h1, h2, hk => by
    show bindL kindOf ((p, w) :: P.zip vs) m x = _
    unfold bindL
    exact bindL_get (i := i) (List.nodup_cons.mp nd).2 (by simpa using h1) (by simpa using h2) hk
theorem bindC_get {kindOf : Str → Option NameKind} {x : Str} {v : Value} : ∀ {P : List Str} {vs : List Value} {i : Nat} {m : Str → Option Value}, P.Nodup → P[i]? = some x → vs[i]? = some v → kindOf x ≠ some .local →
    bindC kindOf (P.zip vs) m x = some v
  | [], _, _, _, _, h, _, _ => by simp at h
  | _ :: _, [], _, _, _, _, h, _ => by simp at h
  | p :: P, w :: vs, 0, m, nd, h1, h2, hk => by
    simp at h1 h2; subst h1; subst h2
    show bindC kindOf ((p, w) :: P.zip vs) m p = _
    unfold bindC
    rw [bindC_out fun v hv => (List.nodup_cons.mp nd).1 (List.of_mem_zip hv).1, if_neg hk]
    simp
  | p :: P, w :: vs, i + 1, m, nd, h1, h2, hk => by
    show bindC kindOf ((p, w) :: P.zip vs) m x = _
    unfold bindC
    exact bindC_get (i := i) (List.nodup_cons.mp nd).2 (by simpa using h1) (by simpa using h2) hk
def start (N : List Str) (vs : List V) : St := vs.map some ++ List.replicate (N.length - vs.length) none
def cxOf (CX : CXT) (P : Program) (w : World) (K : PySem.W.Frag) (mg : Str → Option Value) (base : Heap) (N : List Str) (qual : Str) (scope : Scope) (f : Addr) (cd : Value) (A : Around) (outer : List Env) (s : Shared) (H : Hp) (E : XK) : Cx where
  prog := P
  w := w
  K := K
  mg := mg
  base := base
  A := A.deeper (envOfC qual scope s.heap.objs.size f cd)
  N := N
  s₀ := s
  H₀ := H
  env := envOfC qual scope s.heap.objs.size f cd
  outer := outer
  stack := envOfC qual scope s.heap.objs.size f cd :: outer
  ex := []
  calm := true
  fn := fun _ => true
  pn := []
  xe := fun e s' => wpAny (model P w) (A.deeper (envOfC qual scope s.heap.objs.size f cd)) (leaving (envOfC qual scope s.heap.objs.size f cd) e) (fun _ s'' => CX outer H s E e s'') (fun e' s'' => CX outer H s E e' s'') s'
theorem cell_has {sc : Scope} {n : Nat} {x : Str} (h : sc.names.lookup x = some .cell) : ∃ c, (cellsFrom n sc.names []).lookup x = some c := by
  have q := PySem.W.cellsFrom_some sc.names n [] (.inl h)
  exact Option.isSome_iff_exists.mp q
theorem inv_start {CX : CXT} {P : Program} {w : World} {K : PySem.W.Frag} {mg : Str → Option Value} {base : Heap} {N ps : List Str} {qual : Str} {scope : Scope} {f : Addr} {cd : Value} {A : Around} {outer : List Env} {s s1 : Shared} {H : Hp} {E : XK} {us : List Value} {vs : List V}
    (S : FnScope N ps scope) (hd : A.handled = none) (e0 : Env0 P w K mg base A outer s H) (hl : vs.length = ps.length) (r : Vals vs us)
    (x : InCallC s s.heap.objs.size (bindL (envOfC qual scope s.heap.objs.size f cd).kindOf (ps.zip us) fun _ => none) (cellsFrom (s.heap.objs.size + 1) scope.names []) (bindC (envOfC qual scope s.heap.objs.size f cd).kindOf (ps.zip us) fun _ => none) s1) :
    Inv (cxOf CX P w K mg base N qual scope f cd A outer s H E) [] (start N vs) H s1 := by
  have hpl : ps.length ≤ N.length := by have := congrArg List.length S.pre; rw [List.length_take] at this; omega
  obtain ⟨h1, tk, rfl, hk⟩ := x.done
  have noA : ∀ b : Addr, b ∉ (cxOf CX P w K mg base N qual scope f cd A outer s H E).ex := fun b z => absurd (show b ∈ ([] : List Addr) from z) (by simp)
  refine ⟨⟨e0.mod, S.kind, rfl, rfl, Nat.le_refl _, fun y z c h1 h2 => ?_, fun y hy => ?_, fun y c _ h => ?_, fun _ => hd, Around.frames_deeper e0.frames, .inr ⟨rfl, rfl⟩, fun b z => absurd z (noA b), e0.bs, e0.bsz, fun b _ _ => noA b, fun b z => absurd z (noA b), e0.funs, e0.frf⟩,
    rfl, e0.bare, Un.kept hk, ⟨_, x.toInCall.ns, fun i y v h1 h2 h3 => ?_⟩, fun y c h => ⟨_, x.cell y c h⟩, e0.hok.fresh (Nat.le_refl _), fun y c h => ?_, fun p hp => absurd (show p ∈ ([] : List (Addr × Obj)) from hp) (by simp), e0.hok.kept hk, ?_⟩
  · exact name_of_addr x.apart (PySem.mem_of_lookup h1) (PySem.mem_of_lookup h2)
  · have hy : scope.names.lookup y = some .cell ∨ scope.names.lookup y = some .free := hy
    rcases hy with hy | hy
    · exact cell_has hy
    · exact absurd rfl (S.nofree _ (PySem.mem_of_lookup hy))
  · exact Nat.le_of_lt (x.above y c (PySem.mem_of_lookup h))
  · have hi : i < vs.length := by
      unfold start at h2
      by_cases hi : i < vs.length
      · exact hi
      · rw [List.getElem?_append_right (by simpa using hi)] at h2
        rw [List.getElem?_replicate] at h2
        split at h2 <;> cases h2
    have ha : vs[i]? = some v := by
      unfold start at h2
      rw [List.getElem?_append_left (by simpa using hi), List.getElem?_map] at h2
      cases e : vs[i]? with
      | none => rw [e] at h2; cases h2
      | some a => rw [e] at h2; cases h2; rfl
    obtain ⟨u, hu, rv⟩ := r.get ha
    have hp : ps[i]? = some y := by
      rw [← S.pre, List.getElem?_take_of_lt (by omega)]; exact h1
    have ndP : ps.Nodup := by rw [← S.pre]; exact S.nd.sublist (List.take_sublist _ _)
    refine ⟨u, rv, ?_⟩
    rcases S.par y (List.mem_of_getElem? hp) with k | k
    · exact .inl ⟨k, bindL_get ndP hp hu k⟩
    · obtain ⟨c, e⟩ := cell_has (n := s.heap.objs.size + 1) k
      refine .inr ⟨.inl k, c, e, ?_⟩
      have q := x.cell y c e
      rw [bindC_get ndP hp hu (by show scope.names.lookup y ≠ _; rw [k]; decide)] at q
      exact q
  · exact e0.hok.fresh (Nat.le_of_lt (x.above y c (PySem.mem_of_lookup h)))
  · unfold start
    show _ = N.length
    rw [List.length_append, List.length_map, List.length_replicate]
    omega
theorem fn_of {CX : CXT} {P : Program} {w : World} {K : PySem.W.Frag} {mg : Str → Option Value} {base : Heap} {k : Nat} {f : Addr} {name qual : Str} {params : Arguments} {body : List Stmt} {scope : Scope} {dV kV doc pm cdv ct oc : Value} {an od : Option Addr}
    {osl : Array (Option Value)} {N ps : List Str} {sp : Sp} (lk : K.lookup f = some ⟨oc, od, .func (PySem.W.fnOf name qual params body scope dV kV doc pm an cdv ct), osl⟩) (hcd : PySem.W.codeIn K cdv qual = true) (S : FnScope N ps scope)
    (len : ∀ vs H Q E, sp vs H Q E → vs.length = ps.length)
    (hbody : ∀ (A : Around) (outer : List Env) (s : Shared) (H : Hp) (vs : List V) (Q : VK) (E : XK), Room k (A.deeper (envOfC qual scope s.heap.objs.size f cdv)) → sp vs H Q E →
      ∃ t, PSs (cxOf CX P w K mg base N qual scope f cdv A outer s H E) body t ∧ t { nx := fun _ H' => Q .non H', rt := Q } (start N vs) H) :
    FnOk P w K mg base CX (k + 1) f (PySem.W.fnOf name qual params body scope dV kV doc pm an cdv ct) ps sp := by
  refine ⟨len, fun A outer s H args us vs Q E hr e0 hb r hsp => ?_⟩
  have hl := len _ _ _ _ hsp
  have KX : K.In s.heap := e0.mod.kin.keeps fun b o e => (e0.bs b o e).1
  have lim : s.heap.NoLimit := e0.mod.nolimit.keeps fun b o e => (e0.bs b o e).1
  have hkind : ∀ y ∈ ps.zip us, scope.names.lookup y.1 = some .local ∨ (scope.names.lookup y.1 = some .cell ∧ ((cellsFrom (s.heap.objs.size + 1) scope.names []).lookup y.1).isSome = true) := fun ⟨n, v⟩ hy => by
    rcases S.par n (List.of_mem_zip hy).1 with q | q
    · exact .inl q
    · exact .inr ⟨q, PySem.W.cellsFrom_some _ _ _ (.inl q)⟩
  refine codeAny_call_function hr.depth (KX _ _ lk) rfl S.co S.gen rfl (PySem.W.codeRec_of KX hcd) (hb _ _ _ _ ?_)
  refine wpAny_newFunctionEnv_cells S.kind hkind fun env he s1 x => ?_
  subst he
  refine ⟨lim.keeps x.toInCall.keep, codeAny_func ?_⟩
  obtain ⟨t, ht, hq⟩ := hbody A outer s H vs Q E (hr.deeper _) hsp
  have I : Inv (cxOf CX P w K mg base N qual scope f cdv A outer s H E) [] (start N vs) H s1 := inv_start S hr.hd e0 hl r x
  refine wpAny_mono (ht [] s1 (start N vs) H _ I hq) (fun fl s' hs => ?_) fun e s' hs => hs
  have fin : ∀ {σ' : St} {H' : Hp} {v : V} {u : Value}, Inv (cxOf CX P w K mg base N qual scope f cdv A outer s H E) [] σ' H' s' → RelV v u → Q v H' → CE outer P w H s Q u s' :=
    fun {σ' H' v u} J rv q => ⟨v, H', J.os, J.bare, J.base, J.hok, rv, q⟩
  cases fl with
  | ret u =>
    obtain ⟨v, σ', H', J, rv, q⟩ := hs
    exact fin J rv q
  | next =>
    obtain ⟨σ', H', J, q⟩ := hs
    exact fin (v := V.non) (u := Value.none) J rfl q
  | brk =>
    obtain ⟨_, _, _, q⟩ := hs
    exact False.elim q
  | cont =>
    obtain ⟨_, _, _, q⟩ := hs
    exact False.elim q
end L2
namespace L2
open PySem PySem.Spec PyProof.Rows
section
variable {X : Cx} {x : Str} {p pos : Pos} {e : Expr} {es : List Expr} {t : TA} {id T : String} {r : List V → Hp → VK → Prop}
def tCB (r : List V → Hp → VK → Prop) (t : TA) : TE := fun σ H Q => t σ H fun vs H1 => r vs H1 Q
theorem pe_callB (hc : CallR X (.builtin id) r) (hg : Gl X x) (hm : X.mg x = none) (hv : bootBuiltins x = some (.builtin id)) (ha : PA X (e :: es) t) (hn : x ≠ "__name__" := by decide) (hdb : (x == ("__debug__" : Str)) = false := by decide)
    (he : starEach (e :: es) X.env = (false, eval e X.env) :: starEach es X.env := by rfl) (hpl : (backTo pos (starEach es X.env)).any (·.1) = false := by rfl) : PE X (.Call (.Name x p) (e :: es) [] pos) (tCB r t) := by
  intro pins s σ H Q I h
  refine wpAny_Call_Name_kw (ld_blt I hg hm hv ?_ hn hdb)
  exact PyProof.Rows.callWith_builtin1 (thn (ha pos pins s σ H _ I h) fun us s1 ⟨vs, H1, I1, r1, q1⟩ => hc pins s1 σ H1 vs us Q I1 r1 q1) he hpl
theorem pe_callTy (hc : CallR X (.type T) r) (hg : Gl X x) (hm : X.mg x = none) (hv : bootBuiltins x = some (.type T)) (ha : PA X (e :: es) t) (hn : x ≠ "__name__" := by decide) (hdb : (x == ("__debug__" : Str)) = false := by decide)
    (he : starEach (e :: es) X.env = (false, eval e X.env) :: starEach es X.env := by rfl) (hpl : (backTo pos (starEach es X.env)).any (·.1) = false := by rfl) : PE X (.Call (.Name x p) (e :: es) [] pos) (tCB r t) := by
  intro pins s σ H Q I h
  refine wpAny_Call_Name_kw (ld_blt I hg hm hv ?_ hn hdb)
  exact PyProof.Rows.callWith_type1 (thn (ha pos pins s σ H _ I h) fun us s1 ⟨vs, H1, I1, r1, q1⟩ => hc pins s1 σ H1 vs us Q I1 r1 q1) he hpl
theorem pe_callTy0 (hc : CallR X (.type T) r) (hg : Gl X x) (hm : X.mg x = none) (hv : bootBuiltins x = some (.type T)) (hn : x ≠ "__name__" := by decide) (hdb : (x == ("__debug__" : Str)) = false := by decide) :
    PE X (.Call (.Name x p) [] [] pos) (tCB r tNil) := by
  intro pins s σ H Q I h
  refine wpAny_Call_Name_kw (ld_blt I hg hm hv ?_ hn hdb)
  exact PyProof.Rows.callWith_type0 (hc pins s σ H [] [] Q I .nil h)
end
end L2
namespace HT
open PySem PyProof.Rows
section
open PySem.SeqAt
open PySem.AutoSeq1 (wpAny_loadPart')
open PySem.MeetsSeq PySem.MeetsSeq2 PySem.MeetsSeq3
end
section
variable {prog : Program} {w : World} {A : Around} {E : Value → Shared → Prop} {s : Shared}
def sIx (n d : Nat) : Option Int → Nat
  | none => d
  | some v => if v < 0 then (v + (n : Int)).toNat else min v.toNat n
theorem sIx_none (n d : Nat) : sIx n d none = d := rfl
theorem sIx_nat (n d k : Nat) : sIx n d (some (k : Int)) = min k n := by
  show (if (k : Int) < 0 then ((k : Int) + (n : Int)).toNat else min (k : Int).toNat n) = min k n
  rw [if_neg (by omega), Int.toNat_natCast]
end
end HT
namespace L2
open PySem PySem.Spec PyProof.Rows
abbrev TO := St → Hp → (Option Int → Hp → Prop) → Prop
def PO (X : Cx) (e : Option Expr) (t : TO) : Prop :=
  ∀ (pins : List (Addr × Obj)) (s : Shared) (σ : St) (H : Hp) (Q : Option Int → Hp → Prop), Inv X pins σ H s → t σ H Q →
    wpAny (model X.prog X.w) X.A (evalPart e X.env) (fun u s' => ∃ o H', Inv X pins σ H' s' ∧ IsPart u o ∧ Q o H') X.xe s
def tNoPart : TO := fun _ H Q => Q none H
def tPart (t : TE) : TO := fun σ H Q => t σ H fun x H1 => ∃ i, x = .int i ∧ Q (some i) H1
section
variable {X : Cx} {e : Expr} {te : TE} {lo hi : Option Expr} {tl th : TO} {pos p2 : Pos}
theorem po_none : PO X none tNoPart := by
  intro pins s σ H Q I h
  rw [evalPart_none]
  exact wpAny_pure ⟨none, H, I, .none, h⟩
theorem po_some (h : PE X e te) : PO X (some e) (tPart te) := by
  intro pins s σ H Q I hw
  rw [evalPart_some]
  refine thn (h pins s σ H _ I hw) fun u s1 ⟨x, H1, I1, r1, q1⟩ => ?_
  obtain ⟨i, rfl, q⟩ := q1
  obtain ⟨t, rfl⟩ := r1
  exact ⟨some i, H1, I1, .int i t, q⟩
def SlR (X : Cx) (r : V → Option Int → Option Int → Hp → VK → Prop) : Prop :=
  ∀ (pins : List (Addr × Obj)) (s : Shared) (σ : St) (H : Hp) (x : V) (v vl vu : Value) (lo hi : Option Int) (sl : Addr) (Q : VK), Inv X pins σ H s → RelV x v → s.heap.IsSliceOf sl vl vu .none → IsPart vl lo → IsPart vu hi → r x lo hi H Q →
    ∃ T id, typeLookup (.type T) "__getitem__" = pure (some (.builtin id)) ∧ s.TypeIs v T ∧ wpAny (model X.prog X.w) X.A (getItem v (.ref sl)) (EP X pins σ Q) X.xe s
def tSl (r : V → Option Int → Option Int → Hp → VK → Prop) (te : TE) (tl th : TO) : TE := fun σ H Q => te σ H fun x H1 => tl σ H1 fun l H2 => th σ H2 fun u H3 => r x l u H3 Q
theorem pe_slice {r : V → Option Int → Option Int → Hp → VK → Prop} (hr : SlR X r) (he : PE X e te) (hl : PO X lo tl) (hu : PO X hi th) : PE X (.Subscript e (.Slice lo hi none p2) pos) (tSl r te tl th) := by
  intro pins s σ H Q I h
  refine Subscript_ (thn (he pins s σ H _ I h) fun v s1 ⟨x, H1, I1, r1, q1⟩ => ?_)
  refine wpAny_Slice (thn (hl pins s1 σ H1 _ I1 q1) fun vl s2 ⟨l, H2, I2, pl, q2⟩ => thn (hu pins s2 σ H2 _ I2 q2) fun vu s3 ⟨u, H3, I3, pu, q3⟩ => ?_)
  rw [evalPart_none]
  refine wpAny_pure ?_
  have I4 : Inv X pins σ H3 { s3 with heap := s3.heap.push { cls := .type "slice", data := .fields #[vl, vu, .none] } } := I3.kept (t' := s3.toks) fun b ob q => Heap.get?_push_of_some _ q
  obtain ⟨T, id, hT, ht, hg⟩ := hr pins { s3 with heap := s3.heap.push { cls := .type "slice", data := .fields #[vl, vu, .none] } } σ H3 x v vl vu l u s3.heap.objs.size Q I4 r1 (Heap.IsSliceOf.new ..) pl pu q3
  show wpAny (model X.prog X.w) X.A (subscriptTail e (.Slice lo hi none p2) v (.ref s3.heap.objs.size)) (EP X pins σ Q) X.xe { s3 with heap := s3.heap.push { cls := .type "slice", data := .fields #[vl, vu, .none] } }
  exact tail_any (ops := [.ref s3.heap.objs.size, v]) ht hT hg (by with_unfolding_all rfl)
def cutV (xs : List V) (lo hi : Option Int) : List V := (xs.drop (HT.sIx xs.length 0 lo)).take (HT.sIx xs.length xs.length hi - HT.sIx xs.length 0 lo)
theorem cutV_length (xs : List V) (lo hi : Option Int) : (cutV xs lo hi).length ≤ xs.length := by
  unfold cutV
  rw [List.length_take, List.length_drop]
  omega
end
end L2
namespace L2
open PySem PySem.Spec PyProof.Rows
def ixN (n : Nat) (i : Int) : Option Nat := if 0 ≤ i then (if i < n then some i.toNat else none) else if -(n : Int) ≤ i then some (i + n).toNat else none
def atI {α : Type} (xs : List α) (i : Int) : Option α := (ixN xs.length i).bind fun j => xs[j]?
theorem ixN_seq {n : Nat} {i : Int} {j : Nat} (h : ixN n i = some j) : seqIndex? i n = some j ∧ j < n ∧ -(n : Int) ≤ i ∧ i < n := by
  unfold ixN at h
  by_cases h0 : 0 ≤ i
  · rw [if_pos h0] at h
    by_cases h1 : i < n
    · rw [if_pos h1] at h
      have e : i.toNat = j := Option.some.inj h
      exact ⟨by rw [seqIndex_of h0 h1, e], by omega, by omega, h1⟩
    · rw [if_neg h1] at h; cases h
  · rw [if_neg h0] at h
    by_cases h1 : -(n : Int) ≤ i
    · rw [if_pos h1] at h
      have e : (i + n).toNat = j := Option.some.inj h
      exact ⟨by rw [seqIndex_neg (by omega) h1, e], by omega, h1, by omega⟩
    · rw [if_neg h1] at h; cases h
theorem atI_get {α : Type} {xs : List α} {i : Int} {v : α} (h : atI xs i = some v) : ∃ j, seqIndex? i xs.length = some j ∧ xs[j]? = some v ∧ j < xs.length ∧ -(xs.length : Int) ≤ i ∧ i < xs.length := by
  unfold atI at h
  cases e : ixN xs.length i with
  | none => rw [e] at h; cases h
  | some j =>
    rw [e] at h
    obtain ⟨h1, h2, h3, h4⟩ := ixN_seq e
    exact ⟨j, h1, h, h2, h3, h4⟩
theorem atI_nat {α : Type} {xs : List α} {j : Nat} {v : α} (h : xs[j]? = some v) : atI xs (j : Int) = some v := by
  have hj : j < xs.length := (List.getElem?_eq_some_iff.mp h).1
  have e : ixN xs.length (j : Int) = some j := by
    unfold ixN
    rw [if_pos (by omega), if_pos (by omega)]; simp
  unfold atI; rw [e]; exact h
def PlainIx (b : Expr) : Prop := ∀ o i, subscripted b false o i = operate [o, i] (getItem o i)
def IxR (X : Cx) (r : R2) : Prop :=
  ∀ (value slice : Expr) (pins : List (Addr × Obj)) (s : Shared) (σ : St) (H : Hp) (x y : V) (v u : Value) (Q : VK), Inv X pins σ H s → RelV x v → RelV y u → r x y H Q →
    subscripted slice false v u = operate [v, u] (getItem v u) → wpAny (model X.prog X.w) X.A (subscriptTail value slice v u) (EP X pins σ Q) X.xe s
def MtR (X : Cx) (id : String) (r : V → List V → Hp → VK → Prop) : Prop :=
  ∀ (pins : List (Addr × Obj)) (s : Shared) (σ : St) (H : Hp) (x : V) (xs : List V) (v : Value) (us : List Value) (Q : VK), Inv X pins σ H s → RelV x v → Vals xs us → r x xs H Q →
    wpAny (model X.prog X.w) X.A (call (.builtin id) (v :: us)) (EP X pins σ Q) X.xe s
section
variable {X : Cx} {a b : Expr} {ta tb : TE} {pos : Pos}
theorem pe_ix {r : R2} (hr : IxR X r) (ha : PE X a ta) (hb : PE X b tb) (hs : PlainIx b) : PE X (.Subscript a b pos) (tOp r ta tb) := by
  intro pins s σ H Q I h
  exact Subscript_ (binT ha hb I h fun v u s2 x y H2 I2 rx ry q => hr a b pins s2 σ H2 x y v u Q I2 rx ry q (hs _ _))
def rIxL (K : PySem.W.Frag) : R2 := fun x y H Q => ∃ p xs i v, x = .ref p ∧ y = .int i ∧ SqL K H p xs ∧ atI xs i = some v ∧ Q v H
def rIxT (K : PySem.W.Frag) : R2 := fun x y H Q => ∃ p xs i v, x = .ref p ∧ y = .int i ∧ SqT K H p xs ∧ atI xs i = some v ∧ Q v H
def rIxS : R2 := fun x y H Q => ∃ z i c, x = .str z ∧ y = .int i ∧ z.length ≤ sizeLine ∧ atI z.cps.toList i = some c ∧ Q (.str ⟨#[c]⟩) H
theorem ix_list : IxR X (rIxL X.K) := by
  intro value slice pins s σ H x y v u Q I rx ry h hs
  obtain ⟨p, xs, i, z, rfl, rfl, hq, he, q⟩ := h
  cases rx
  obtain ⟨t, rfl⟩ := ry
  obtain ⟨its, r, pl, hz⟩ := I.list hq
  obtain ⟨j, h1, h2, h3, h4, h5⟩ := atI_get he
  obtain ⟨w, ew, rw'⟩ := r.get h2
  have hl := r.length
  have hn := line63
  have fin : EP X pins σ Q w s := ⟨z, H, I, rw', q⟩
  by_cases h0 : 0 ≤ i
  · have hj : i.toNat = j := by
      rw [seqIndex_of h0 h5] at h1
      exact Option.some.inj h1
    exact item_listR pl.isList h0 (by omega) (by rw [hj]; simpa using ew) fin hs
  · have hj : (i + (its.toArray.size : Int)).toNat = j := by
      rw [seqIndex_neg (by omega) h4] at h1
      rw [List.size_toArray, ← hl]
      exact Option.some.inj h1
    exact subscriptTail_builtinR (x := w) pl.isList.typeIs slot_list_getitem.lookup
      (wpAny_getItem_list_neg (Q := fun r s' => r = w ∧ EP X pins σ Q r s') pl.isList (by omega) (by rw [List.size_toArray] <;> omega) (by omega) (by rw [hj]; simpa using ew) ⟨rfl, fin⟩) hs
theorem ix_tup : IxR X (rIxT X.K) := by
  intro value slice pins s σ H x y v u Q I rx ry h hs
  obtain ⟨p, xs, i, z, rfl, rfl, hq, he, q⟩ := h
  cases rx
  obtain ⟨t, rfl⟩ := ry
  obtain ⟨its, r, pl, hz⟩ := I.tuple hq
  obtain ⟨j, h1, h2, h3, h4, h5⟩ := atI_get he
  obtain ⟨w, ew, rw'⟩ := r.get h2
  have hl := r.length
  have hn := line63
  have fin : EP X pins σ Q w s := ⟨z, H, I, rw', q⟩
  exact subscriptTail_builtinR (x := w) pl.typeIs slot_tuple_getitem.lookup
    (getItem_tuple (j := j) (Q := fun r s' => r = w ∧ EP X pins σ Q r s') pl (by omega) (by omega) (by rw [List.size_toArray, ← hl]; exact h1) (by simpa using ew) ⟨rfl, fin⟩) hs
theorem ix_str : IxR X rIxS := by
  intro value slice pins s σ H x y v u Q I rx ry h hs
  obtain ⟨z, i, c, rfl, rfl, hz, he, q⟩ := h
  obtain ⟨t, rfl⟩ := rx
  obtain ⟨t', rfl⟩ := ry
  obtain ⟨j, h1, h2, h3, h4, h5⟩ := atI_get he
  have hl : z.cps.toList.length = z.length := by simp [Str.length]
  rw [hl] at h1 h4 h5
  have hn := line63
  exact tail_any (typeIs_str s z t) slot_str_getitem.lookup (getItem_str (c := c) (by
    have e1 : decide (i < -(2 ^ 63 : Int)) = false := decide_eq_false (by omega)
    have e2 : decide (i ≥ 2 ^ 63) = false := decide_eq_false (by omega)
    rw [e1, e2, Bool.or_false]) (by rw [h1]; simpa using h2) ⟨.str ⟨#[c]⟩, H, I.tok _, ⟨_, rfl⟩, q⟩) hs
theorem slice_bounds (lo hi : Option Int) (n : Nat) : (sliceBounds lo hi none n).1 = ((HT.sIx n 0 lo : Nat) : Int) ∧ (sliceBounds lo hi none n).2.1 = ((HT.sIx n n hi : Nat) : Int) ∧ (sliceBounds lo hi none n).2.2 = 1 := by
  refine ⟨?_, ?_, rfl⟩
  · cases lo with
    | none => simp [sliceBounds, HT.sIx]
    | some i =>
      simp only [sliceBounds, HT.sIx, Option.getD_none, show (1 : Int) > 0 by decide, if_true]
      by_cases h : i < 0
      · simp only [h, if_true] <;> omega
      · simp only [h, if_false] <;> omega
  · cases hi with
    | none => simp [sliceBounds, HT.sIx]
    | some i =>
      simp only [sliceBounds, HT.sIx, Option.getD_none, show (1 : Int) > 0 by decide, if_true]
      by_cases h : i < 0
      · simp only [h, if_true] <;> omega
      · simp only [h, if_false] <;> omega
theorem slicePick_cut (its : List Value) (lo hi : Option Int) : slicePick its.toArray lo hi none = ((its.drop (HT.sIx its.length 0 lo)).take (HT.sIx its.length its.length hi - HT.sIx its.length 0 lo)).toArray := by
  obtain ⟨h1, h2, h3⟩ := slice_bounds lo hi its.toArray.size
  unfold slicePick
  rw [h1, h2, h3]
  simp only [sliceRange_one, pick_run, List.size_toArray] <;> rfl
def rSlL (K : PySem.W.Frag) : V → Option Int → Option Int → Hp → VK → Prop := fun x lo hi H Q => ∃ a xs, x = .ref a ∧ SqL K H a xs ∧ ∀ p, H p = none → Q (.ref p) (upd H p (.lst (cutV xs lo hi)))
theorem sl_list : SlR X (rSlL X.K) := by
  intro pins s σ H x v vl vu lo hi sl Q I rx hs pl pu h
  obtain ⟨a, xs, rfl, hx, q⟩ := h
  cases rx
  obtain ⟨its, r, ht, hz⟩ := I.list hx
  have hlen := r.length
  refine ⟨"list", _, slot_list_getitem.lookup, ht.isList.typeIs, ?_⟩
  refine wpAny_getItem_list_slice ht.isList hs pl pu .none (by simp) ?_ (by rw [List.size_toArray] <;> omega)
  rw [slicePick_cut, ← hlen]
  refine ⟨.ref s.heap.objs.size, _, I.laid (t' := s.toks) (o := .lst (cutV xs lo hi)) (fun b ob q => Heap.get?_push_of_some _ q) (Nat.le_refl _) ?_, rfl, q _ (I.hok.fresh (Nat.le_refl _))⟩
  exact ⟨Nat.le_trans (cutV_length xs lo hi) hz, _, 0, (r.drop (HT.sIx xs.length 0 lo)).take (HT.sIx xs.length xs.length hi - HT.sIx xs.length 0 lo), Heap.get?_push_size _ rfl⟩
def flatV : V → Bool
  | .non => true
  | .bl _ => true
  | .int _ => true
  | .str _ => true
  | _ => false
def eqV : V → V → Bool
  | .non, .non => true
  | .bl a, .bl b => a == b
  | .bl a, .int b => (if a then 1 else 0) == b
  | .int a, .bl b => a == (if b then 1 else 0)
  | .int a, .int b => a == b
  | .str a, .str b => a == b
  | _, _ => false
theorem eqAt_V {A : Around} {s : Shared} {y x : V} {u v : Value} (ry : RelV y u) (rx : RelV x v) (fy : flatV y = true) (fx : flatV x = true) : SeqAt.EqAt A s u v (eqV y x) := by
  cases y with
  | non =>
    cases ry
    cases x with
    | non => cases rx; exact SeqAt.EqAt.same _
    | bl b => cases rx; exact SeqAt.EqAt.none_bool b
    | int b => obtain ⟨t, rfl⟩ := rx; exact SeqAt.EqAt.none_int b t
    | str b => obtain ⟨t, rfl⟩ := rx; exact SeqAt.EqAt.none_str b t
    | _ => exact absurd (show false = true from fx) Bool.false_ne_true
  | bl a =>
    cases ry
    cases x with
    | non => cases rx; exact SeqAt.EqAt.bool_none a
    | bl b => cases rx; exact SeqAt.EqAt.bool_bool a b
    | int b => obtain ⟨t, rfl⟩ := rx; exact SeqAt.EqAt.bool_int a b t
    | str b => obtain ⟨t, rfl⟩ := rx; exact SeqAt.EqAt.bool_str a b t
    | _ => exact absurd (show false = true from fx) Bool.false_ne_true
  | int a =>
    obtain ⟨t', rfl⟩ := ry
    cases x with
    | non => cases rx; exact SeqAt.EqAt.int_none a t'
    | bl b => cases rx; exact SeqAt.EqAt.int_bool a t' b
    | int b => obtain ⟨t, rfl⟩ := rx; exact SeqAt.EqAt.int_int a t' b t
    | str b => obtain ⟨t, rfl⟩ := rx; exact SeqAt.EqAt.int_str a t' b t
    | _ => exact absurd (show false = true from fx) Bool.false_ne_true
  | str a =>
    obtain ⟨t', rfl⟩ := ry
    cases x with
    | non => cases rx; exact SeqAt.EqAt.str_none a t'
    | bl b => cases rx; exact SeqAt.EqAt.str_bool a t' b
    | int b => obtain ⟨t, rfl⟩ := rx; exact SeqAt.EqAt.str_int a t' b t
    | str b => obtain ⟨t, rfl⟩ := rx; exact SeqAt.EqAt.str_str a t' b t
    | _ => exact absurd (show false = true from fx) Bool.false_ne_true
  | _ => exact absurd (show false = true from fy) Bool.false_ne_true
def eqU (x : V) (u : Value) : Bool := match u with
  | .none => eqV .non x
  | .bool b => eqV (.bl b) x
  | .int i _ => eqV (.int i) x
  | .str z _ => eqV (.str z) x
  | _ => false
theorem eqU_of {x y : V} {u : Value} (r : RelV y u) (f : flatV y = true) : eqU x u = eqV y x := by
  cases y with
  | non => cases r; rfl
  | bl b => cases r; rfl
  | int i => obtain ⟨t, rfl⟩ := r; rfl
  | str z => obtain ⟨t, rfl⟩ := r; rfl
  | _ => exact absurd (show false = true from f) Bool.false_ne_true
theorem any_eqU {x : V} : ∀ {xs : List V} {us : List Value}, Vals xs us → xs.all flatV = true → us.any (eqU x) = xs.any fun y => eqV y x
  | _, _, .nil, _ => rfl
  | y :: xs, u :: us, .cons r t, f => by
    rw [List.all_cons, Bool.and_eq_true] at f
    rw [List.any_cons, List.any_cons, eqU_of r f.1, any_eqU t f.2]
theorem mem_eqAt {A : Around} {s : Shared} {x : V} {v : Value} (rx : RelV x v) (fx : flatV x = true) : ∀ {xs : List V} {us : List Value}, Vals xs us → xs.all flatV = true → ∀ u ∈ us, SeqAt.EqAt A s u v (eqU x u)
  | _, _, .nil, _ => fun u hu => by cases hu
  | y :: xs, u :: us, .cons r t, f => fun u' hu => by
    rw [List.all_cons, Bool.and_eq_true] at f
    rcases List.mem_cons.mp hu with rfl | hu
    · rw [eqU_of r f.1]; exact eqAt_V r rx f.1 fx
    · exact mem_eqAt rx fx t f.2 u' hu
def inV (x : V) (xs : List V) : Bool := xs.any fun y => eqV y x
def rIn (K : PySem.W.Frag) (neg : Bool) : R2 := fun x y H Q => ∃ p xs, y = .ref p ∧ (SqL K H p xs ∨ SqT K H p xs) ∧ flatV x = true ∧ xs.all flatV = true ∧ Q (.bl (if neg then !inV x xs else inV x xs)) H
theorem op_notIn_seq : OpR X (compareOp .NotIn) (rIn X.K true) := by
  intro pins s σ H x y v u Q I rx ry h
  obtain ⟨p, xs, rfl, hq, fx, fs, q⟩ := h
  cases ry
  rcases hq with hq | hq
  · obtain ⟨its, r, pl, hz⟩ := I.list hq
    refine SeqAt.notIn_listAt (eqU x) pl.isList (fun w hw => mem_eqAt rx fx r fs w (by simpa using hw)) ⟨.bl _, H, I, rfl, ?_⟩
    rw [show its.toArray.any (eqU x) = its.any (eqU x) by simp, any_eqU r fs]
    exact q
  · obtain ⟨its, r, pl, hz⟩ := I.tuple hq
    refine SeqAt.notIn_tupleAt (eqU x) pl (fun w hw => mem_eqAt rx fx r fs w (by simpa using hw)) ⟨.bl _, H, I, rfl, ?_⟩
    rw [show its.toArray.any (eqU x) = its.any (eqU x) by simp, any_eqU r fs]
    exact q
theorem call_len_seq : CallR X (.builtin "len") (fun xs H Q => ∃ p ys, xs = [.ref p] ∧ (SqL X.K H p ys ∨ SqT X.K H p ys) ∧ Q (.int ys.length) H) := by
  intro pins s σ H xs us Q I r h
  obtain ⟨p, ys, rfl, hq, q⟩ := h
  obtain ⟨u, rfl, rx⟩ := vals1 r
  cases rx
  have hn := line63
  rcases hq with hq | hq
  · obtain ⟨its, r', pl, hz⟩ := I.list hq
    have hlen := r'.length
    exact Calls.call_len_list pl.isList (by simp only [List.size_toArray] <;> omega) ⟨.int ys.length, H, I.tok _, ⟨s.toks + 1, by rw [List.size_toArray, hlen]⟩, q⟩
  · obtain ⟨its, r', pl, hz⟩ := I.tuple hq
    have hlen := r'.length
    exact len_tuple pl (by simp only [List.size_toArray] <;> omega) ⟨.int ys.length, H, I.tok _, ⟨s.toks + 1, by rw [List.size_toArray, hlen]⟩, q⟩
theorem call_len_str : CallR X (.builtin "len") (fun xs H Q => ∃ z, xs = [.str z] ∧ z.length ≤ sizeLine ∧ Q (.int z.length) H) := by
  intro pins s σ H xs us Q I r h
  obtain ⟨z, rfl, hz, q⟩ := h
  obtain ⟨u, rfl, t, rfl⟩ := vals1 r
  have hn := line63
  exact len_str (by omega) ⟨.int z.length, H, I.tok _, ⟨_, rfl⟩, q⟩
theorem call_list_of : CallR X (.type "list") (fun xs H Q => ∃ p ys, xs = [.ref p] ∧ (SqL X.K H p ys ∨ SqT X.K H p ys) ∧ ∀ l, H l = none → Q (.ref l) (upd H l (.lst ys))) := by
  intro pins s σ H xs us Q I r h
  obtain ⟨p, ys, rfl, hq, q⟩ := h
  obtain ⟨u, rfl, rx⟩ := vals1 r
  cases rx
  have fin : ∀ (its : List Value), Vals ys its → ys.length ≤ sizeLine → ∀ (h' : Heap) (c' : Nat), (∀ b o', s.heap.get? b = some o' → h'.get? b = some o') →
      h'.get? s.heap.objs.size = some { cls := .type "list", dict := none, data := .seq its.toArray c', slots := #[] } → EP X pins σ Q (.ref s.heap.objs.size) { s with heap := h' } := fun its r' hz h' c' kp e =>
    ⟨.ref s.heap.objs.size, _, I.laid (t' := s.toks) kp (Nat.le_refl _) (show ObjOk X.prog X.w _ h' _ (.lst ys) from ⟨hz, its, c', r', e⟩), rfl, q _ (I.hok.fresh (Nat.le_refl _))⟩
  rcases hq with hq | hq
  · obtain ⟨its, r', pl, hz⟩ := I.list hq
    have hlen := r'.length
    obtain ⟨o, ho, hc, n, hd⟩ := pl.isList
    exact call_list_seq p (.inl rfl) ho hc hd (fun h' c' kp e => fin its r' hz h' c' kp e) (by simp only [List.size_toArray] <;> omega)
  · obtain ⟨its, r', pl, hz⟩ := I.tuple hq
    have hlen := r'.length
    obtain ⟨o, ho, hc, n, hd⟩ := pl
    exact call_list_seq p (.inr rfl) ho hc hd (fun h' c' kp e => fin its r' hz h' c' kp e) (by simp only [List.size_toArray] <;> omega)
def tyV (K : PySem.W.Frag) (T : String) (x : V) (H : Hp) : Prop := match x with
  | .str _ => T = "str"
  | .int _ => T = "int"
  | .ref p => (T = "list" ∧ ∃ xs, SqL K H p xs) ∨ (T = "tuple" ∧ ∃ o, K.lookup p = some o ∧ o.cls = .type "tuple" ∧ o.dict = none) ∨
      (T = "dict" ∧ ((∃ kvs, H p = some (.dK kvs)) ∨ ∃ kvs, H p = some (.dT kvs))) ∨ (T = "set" ∧ ∃ S n, H p = some (.set S n))
  | _ => False
theorem tyV_is {pins : List (Addr × Obj)} {σ : St} {H : Hp} {s : Shared} {T : String} {x : V} {v : Value} (I : Inv X pins σ H s) (r : RelV x v) (ty : tyV X.K T x H) :
    s.TypeIs v T ∧ ∀ a, v = .ref a → ∃ ob, s.heap.get? a = some ob ∧ ob.dict = none := by
  cases x with
  | str z =>
    obtain ⟨t, rfl⟩ := r
    cases (show T = "str" from ty)
    exact ⟨typeIs_str s z t, fun _ e => nomatch e⟩
  | int i =>
    obtain ⟨t, rfl⟩ := r
    cases (show T = "int" from ty)
    exact ⟨typeIs_int s i t, fun _ e => nomatch e⟩
  | ref p =>
    cases r
    rcases ty with ⟨rfl, xs, hq⟩ | ⟨rfl, o, hk, hc, hd⟩ | ⟨rfl, hk⟩ | ⟨rfl, S, n, hk⟩
    · obtain ⟨its, _, pl, _⟩ := I.list hq
      refine ⟨pl.isList.typeIs, fun a e => ?_⟩
      cases e
      obtain ⟨o, n, e, c, hd, _⟩ := pl
      exact ⟨o, e, hd⟩
    · refine ⟨⟨o, I.kIn p o hk, hc⟩, fun a e => ?_⟩
      cases e
      exact ⟨o, I.kIn _ o hk, hd⟩
    · have z : ∃ o, s.heap.get? p = some o ∧ o.ExactDict := by
        rcases hk with ⟨kvs, hk⟩ | ⟨kvs, hk⟩
        · obtain ⟨_, _, _, _, o, _, _, e, ex, _⟩ := I.hok p _ hk
          exact ⟨o, e, ex⟩
        · obtain ⟨_, _, _, _, o, _, _, e, ex, _⟩ := I.hok p _ hk
          exact ⟨o, e, ex⟩
      obtain ⟨o, e, ex⟩ := z
      refine ⟨⟨o, e, ex.1⟩, fun a e2 => ?_⟩
      cases e2
      exact ⟨o, e, ex.2.1⟩
    · obtain ⟨o, _, _, _, e, ex, _⟩ := I.hok p _ hk
      refine ⟨⟨o, e, ex.1⟩, fun a e2 => ?_⟩
      cases e2
      exact ⟨o, e, ex.2.1⟩
  | _ => exact False.elim ty
def tBM0 (K : PySem.W.Frag) (T : String) (r : V → List V → Hp → VK → Prop) (to : TE) : TE := fun σ H Q => to σ H fun x H1 => tyV K T x H1 ∧ r x [] H1 Q
def tBM (K : PySem.W.Frag) (T : String) (r : V → List V → Hp → VK → Prop) (to : TE) (t : TA) : TE := fun σ H Q => to σ H fun x H1 => tyV K T x H1 ∧ t σ H1 fun xs H2 => r x xs H2 Q
variable {o e : Expr} {es : List Expr} {to : TE} {t : TA} {name : Str} {apos cpos : Pos} {T id : String} {r : V → List V → Hp → VK → Prop}
theorem pe_bm0 (pa : PlainAttrs T) (slot : Slot T name id) (hty : typeOf (.builtin id) = pure (.type "method_descriptor")) (hm : MtR X id r) (ho : PE X o to)
    (hbase : attributeBase o name X.env (eval o X.env) = eval o X.env := by rfl) (hline : (apos.endLine == cpos.line) = true := by rfl) : PE X (.Call (.Attribute o name apos) [] [] cpos) (tBM0 X.K T r to) := by
  intro pins s σ H Q I h
  refine wpAny_Call_method0_late hbase hline (thn (ho pins s σ H _ I h) fun v s1 ⟨x, H1, I1, r1, ty, q1⟩ => ?_)
  obtain ⟨h1, h2⟩ := tyV_is I1 r1 ty
  exact ⟨T, id, pa, slot, hty, h1, h2, Calls.callWith_builtin rfl (PySem.evalArgs_none (hm pins s1 σ H1 x [] v [] Q I1 r1 .nil q1))⟩
theorem pe_bm (pa : PlainAttrs T) (slot : Slot T name id) (hty : typeOf (.builtin id) = pure (.type "method_descriptor")) (hm : MtR X id r) (ho : PE X o to) (ha : PA X (e :: es) t)
    (hbase : attributeBase o name X.env (eval o X.env) = eval o X.env := by rfl)
    (hfew : ((backTo cpos (starEach (e :: es) X.env)).all (fun x => !x.1) && (backToKw cpos (keywordEach [] X.env)).all (fun x => x.1.isSome)
      && decide ((e :: es).length + ([] : List Keyword).length + (if ([] : List Keyword).isEmpty then 0 else 1) < 30)) = true := by rfl)
    (hline : (apos.endLine == cpos.line) = true := by rfl) (hs : starEach (e :: es) X.env = (false, eval e X.env) :: starEach es X.env := by rfl) (hplain : (backTo cpos (starEach es X.env)).any (·.1) = false := by rfl) :
    PE X (.Call (.Attribute o name apos) (e :: es) [] cpos) (tBM X.K T r to t) := by
  intro pins s σ H Q I h
  refine wpAny_Call_method_late hbase hfew hline rfl (thn (ho pins s σ H _ I h) fun v s1 ⟨x, H1, I1, r1, ty, q1⟩ => ?_)
  obtain ⟨h1, h2⟩ := tyV_is I1 r1 ty
  refine ⟨T, id, pa, slot, hty, h1, h2, ?_⟩
  have hA := ha cpos pins s1 σ H1 _ I1 q1
  rw [hs] at hA ⊢
  refine Calls.callWith_builtin (by show (false || (backTo cpos (starEach es X.env)).any (·.1)) = false; rw [hplain] <;> rfl) (Calls.evalArgs_plain ?_)
  exact thn hA fun us s2 ⟨vs, H2, I2, r2, q2⟩ => hm pins s2 σ H2 x vs v us Q I2 r1 r2 q2
/- xs.append(e), list.index on a module's tuple .. are MtR facts of 06m -/
end
end L2
namespace L2
open PySem PySem.Spec PyProof.Rows
def MtM (X : Cx) (id : String) (r : V → List V → Hp → VK → Prop) : Prop :=
  ∀ (pins : List (Addr × Obj)) (s : Shared) (σ : St) (H : Hp) (x : V) (xs : List V) (v : Value) (us : List Value) (Q : VK), Inv X pins σ H s → RelV x v → Vals xs us → r x xs H Q →
    wpAny (model X.prog X.w) X.A (call (.builtin id) (v :: us)) (EP X pins σ Q) X.xe s
theorem Vals.one : ∀ {x : V} {us : List Value}, Vals [x] us → ∃ u, us = [u] ∧ RelV x u
  | _, _, .cons r .nil => ⟨_, rfl, r⟩
theorem Vals.zero : ∀ {us : List Value}, Vals [] us → us = []
  | _, .nil => rfl
theorem Vals.reverse {xs : List V} {us : List Value} (h : Vals xs us) : Vals xs.reverse us.reverse := by
  induction h with
  | nil => exact .nil
  | cons r t ih => rw [List.reverse_cons, List.reverse_cons]; exact Vals.append ih (.cons r .nil)
theorem Vals.rep {xs : List V} {us : List Value} (h : Vals xs us) : ∀ k : Nat, Vals (List.replicate k xs).flatten (List.replicate k us).flatten
  | 0 => .nil
  | k + 1 => by
    rw [List.replicate_succ, List.replicate_succ, List.flatten_cons, List.flatten_cons]
    exact Vals.append h (Vals.rep h k)
theorem foldl_rep (its : List Value) : ∀ (k : Nat) (acc : List Value),
    List.foldl (fun x1 x2 => x1 ++ x2) acc.toArray (List.replicate k its.toArray) = (acc ++ (List.replicate k its).flatten).toArray
  | 0, acc => by simp
  | k + 1, acc => by
    have e : acc.toArray ++ its.toArray = (acc ++ its).toArray := by simp
    have e2 : (acc ++ its) ++ (List.replicate k its).flatten = acc ++ (List.replicate (k + 1) its).flatten := by
      rw [List.replicate_succ, List.flatten_cons, List.append_assoc]
    rw [← e2, ← foldl_rep its k (acc ++ its), ← e, List.replicate_succ, List.foldl_cons]
section
variable {X : Cx} {pins : List (Addr × Obj)} {σ : St} {H : Hp} {s : Shared} {l b : Addr} {xs ys zs : List V}
theorem Inv.lset {its its' : List Value} {n : Nat} {f : Array Value → Array Value} {t' : Nat} (I : Inv X pins σ H s) (hH : H l = some (.lst xs))
    (e : s.heap.get? l = some { cls := .type "list", data := .seq its.toArray n }) (hf : f its.toArray = its'.toArray) (hv : Vals ys its') (hz : ys.length ≤ sizeLine) :
    Inv X pins σ (upd H l (.lst ys)) { s with heap := s.heap.update l (Obj.mapSeq f), toks := t' } := by
  have q := PySem.IsL.update e f
  rw [hf] at q
  refine I.write (x := l) (e := l) (by rw [hH]; exact trivial) (.inl rfl) (fun b' u hb hu => (Heap.get?_update_other s.heap (Obj.mapSeq f) (Ne.symm hb)).trans hu) ⟨_, q⟩ ?_
  exact ⟨hz, its', _, hv, q⟩
theorem Inv.lnew {its : List Value} {t' : Nat} (I : Inv X pins σ H s) (hv : Vals ys its) (hz : ys.length ≤ sizeLine) :
    Inv X pins σ (upd H s.heap.objs.size (.lst ys)) { s with heap := s.heap.push { cls := .type "list", data := .seq its.toArray }, toks := t' } :=
  I.laid (fun _ _ q => Heap.get?_push_of_some _ q) (Nat.le_refl _) ⟨hz, its, 0, hv, Heap.get?_push_size _ rfl⟩
theorem Inv.fresh (I : Inv X pins σ H s) : H s.heap.objs.size = none := I.hok.fresh (Nat.le_refl _)
theorem Inv.lstM (I : Inv X pins σ H s) (hH : H l = some (.lst xs)) : xs.length ≤ sizeLine ∧ ∃ (its : List Value) (n : Nat), Vals xs its ∧ xs.length = its.length ∧ s.heap.get? l = some { cls := .type "list", data := .seq its.toArray n } := by
  obtain ⟨z, its, n, r, e⟩ := I.hok l _ hH
  exact ⟨z, its, n, r, r.length, e⟩
theorem notLongL {n : Nat} (h : n ≤ sizeLine) : Builtin.List.listTooLong n = false := by
  unfold Builtin.List.listTooLong
  exact decide_eq_false (by omega)
end
section
variable {X : Cx}
def rAppend : V → List V → Hp → VK → Prop := fun x vs H Q => ∃ l xs y, x = .ref l ∧ vs = [y] ∧ H l = some (.lst xs) ∧ xs.length < sizeLine ∧ Q .non (upd H l (.lst (xs ++ [y])))
theorem mt_append : MtM X "list.append" rAppend := by
  intro pins s σ H x vs v us Q I rx rv h
  obtain ⟨l, xs, y, rfl, rfl, hH, hz, q⟩ := h
  cases rx
  obtain ⟨u, rfl, ru⟩ := rv.one
  obtain ⟨z, its, n, r, hl, e⟩ := I.lstM hH
  refine call_meets F.slot_list_append ⟨_, e, rfl⟩ F.entry_list_append (F.args_list_append_2 _ _) (PySem.list_append l its.toArray n u (by rw [List.size_toArray]; omega)) ⟨e, ?_⟩
  refine ⟨.non, _, I.lset (its' := its ++ [u]) hH e (by simp) (r.append (.cons ru .nil)) ?_, rfl, q⟩
  rw [List.length_append, List.length_singleton]
  omega
def rClear : V → List V → Hp → VK → Prop := fun x vs H Q => ∃ l xs, x = .ref l ∧ vs = [] ∧ H l = some (.lst xs) ∧ Q .non (upd H l (.lst []))
theorem mt_clear : MtM X "list.clear" rClear := by
  intro pins s σ H x vs v us Q I rx rv h
  obtain ⟨l, xs, rfl, rfl, hH, q⟩ := h
  cases rx
  have hus := rv.zero
  subst hus
  obtain ⟨z, its, n, r, hl, e⟩ := I.lstM hH
  refine call_meets F.slot_list_clear ⟨_, e, rfl⟩ F.entry_list_clear (F.args_list_clear_1 _) (AutoSeq1.list_clear_list_0 l its.toArray n (by rw [List.size_toArray]; omega)) ⟨e, ?_⟩
  exact ⟨.non, _, I.lset (its' := []) (ys := []) hH e rfl .nil (Nat.zero_le _), rfl, q⟩
def rCat : R2 := fun x y H Q => ∃ l b xs zs, x = .ref l ∧ y = .ref b ∧ H l = some (.lst xs) ∧ H b = some (.lst zs) ∧ xs.length + zs.length ≤ sizeLine ∧ ∀ p, H p = none → Q (.ref p) (upd H p (.lst (xs ++ zs)))
theorem op_cat : OpR X (binaryOp .Add) rCat := by
  intro pins s σ H x y v u Q I rx ry h
  obtain ⟨l, b, xs, zs, rfl, rfl, hH, hB, hz, q⟩ := h
  cases rx
  cases ry
  obtain ⟨z, its, n, r, hl, e⟩ := I.lstM hH
  obtain ⟨z2, its2, n2, r2, hl2, e2⟩ := I.lstM hB
  refine PySem.P.add_list e e2 ?_ (by rw [List.size_toArray, List.size_toArray]; omega)
  have ea : its.toArray ++ its2.toArray = (its ++ its2).toArray := by simp
  rw [ea]
  exact ⟨.ref _, _, I.lnew (t' := s.toks) (r.append r2) (by rw [List.length_append]; omega), rfl, q _ I.fresh⟩
def rRep : R2 := fun x y H Q => ∃ l k xs, x = .ref l ∧ y = .int k ∧ H l = some (.lst xs) ∧ -(2 ^ 63) ≤ k ∧ k < 2 ^ 63 ∧ xs.length * k.toNat ≤ sizeLine ∧
  ∀ p, H p = none → Q (.ref p) (upd H p (.lst (List.replicate k.toNat xs).flatten))
theorem len_rep {α : Type} (xs : List α) (k : Nat) : (List.replicate k xs).flatten.length = k * xs.length := by
  induction k with
  | zero => simp
  | succ k ih => rw [List.replicate_succ, List.flatten_cons, List.length_append, ih, Nat.succ_mul, Nat.add_comm]
theorem op_rep : OpR X (binaryOp .Mult) rRep := by
  intro pins s σ H x y v u Q I rx ry h
  obtain ⟨l, k, xs, rfl, rfl, hH, h1, h2, hz, q⟩ := h
  cases rx
  obtain ⟨t, rfl⟩ := ry
  obtain ⟨z, its, n, r, hl, e⟩ := I.lstM hH
  have hlen : its.toArray.size * k.toNat ≤ sizeLine := by rw [List.size_toArray, ← hl]; exact hz
  have hcap : ¬ its.toArray.size * k.toNat > (2 ^ 63 - 1) / 8 := by
    have : (sizeLine : Nat) ≤ (2 ^ 63 - 1) / 8 := by decide
    omega
  have hfit : ¬ (!Builtin.List.listFitsIndex k) = true := by
    rw [fitsIndex_both h1 h2]
    exact Bool.false_ne_true
  have hlong : ¬ Builtin.List.listTooLong (its.toArray.size * k.toNat) = true := by
    rw [notLongL hlen]
    exact Bool.false_ne_true
  have hnew : List.foldl (fun x1 x2 => x1 ++ x2) #[] (List.replicate (if its.toArray.isEmpty = true then 0 else k.toNat) its.toArray) = (List.replicate k.toNat its).flatten.toArray := by
    have f0 : ∀ m : Nat, List.foldl (fun x1 x2 => x1 ++ x2) #[] (List.replicate m its.toArray) = (List.replicate m its).flatten.toArray := fun m => by
      have := foldl_rep its m []
      rw [List.nil_append] at this
      exact this
    rw [f0]
    cases its with
    | nil => simp
    | cons a r' => rw [if_neg (by simp)]
  refine wpAny_binaryOp_repeat_ref (T := "list") (U := "int") (by decide) ⟨_, e, rfl⟩ (fun s' => typeIs_int s' k t) noFill_list_mul F.fills_int_mul F.slot_int_rmul repeat_list F.slot_int_index.lookup
    (call_meets F.slot_int_rmul (typeIs_int s k t) F.entry_int_rmul (F.args_int_rmul_2 _ _) (int___rmul___int_list k t l its.toArray n)
      ⟨e, rfl, ⟨_, e, rfl⟩, call_meets F.slot_list_mul ⟨_, e, rfl⟩ F.entry_list_mul (F.args_list_mul_2 _ _) (AutoListH.list___mul___list_int_3 l its.toArray n k t hfit hcap hlong) ⟨e, ?_⟩⟩)
  rw [hnew]
  exact ⟨.ref _, _, I.lnew (t' := s.toks) (r.rep k.toNat) (by rw [len_rep, Nat.mul_comm]; exact hz), rfl, q _ I.fresh⟩
end
section
variable {prog : Program} {w : World} {A : Around} {E : Value → Shared → Prop} {s : Shared}
set_option maxRecDepth 100000 in
end
section
variable {X : Cx}
end
end L2
namespace Att
open PySem PySem.W PySem.Calls PyProof.Rows
theorem ints_of_wellAll {P : Params} {h : Heap} : ∀ (ns : List Int) (vs : List Value), WellAll P h vs (ns.map WData.int) → IntsAre vs ns := by
  intro ns
  induction ns with
  | nil =>
    intro vs w
    rw [List.map_nil] at w
    cases w
    exact .nil
  | cons n ns ih =>
    intro vs w
    rw [List.map_cons] at w
    cases w with
    | cons a b =>
      cases a
      exact .cons _ _ (ih _ b)
theorem script_of {l : OpenLaw} {n : Nat} (hn : l.most = some n) {P : Params} {h : Heap} {args : List WData} {vals : List Value}
    (hpre : l.row.toRowW.claim.pre args = true) (hwl : WellAll P h vals args) :
    ∃ a vs ns, vals = [Value.ref a] ∧ args = [WData.list (ns.map WData.int)] ∧ h.get? a = some { cls := .type "list", data := .seq vs.toArray } ∧ IntsAre vs ns ∧ ns.length ≤ n := by
  have hsh : WShape.hasAll [] args [.list .int] = true := (pre_splitW hpre).1
  have hc : l.pre.holds [] { args := args } = true := (pre_splitW hpre).2
  obtain ⟨d, r, rfl, h1, h2⟩ := hasAllW_cons hsh
  obtain rfl := hasAllW_nil h2
  obtain ⟨xs, rfl, h3⟩ := hasW_list h1
  obtain ⟨ns, rfl⟩ := items_int h3
  have hlen : ns.length ≤ n := by
    unfold OpenLaw.pre at hc
    have h4 : (WTm.not (.lt (.lit (.int (n : Int))) (.len (.arg 0)))).holds [] { args := [.list (ns.map .int)] } = true := by
      have h4 := (holds_andW hc).1
      rw [hn] at h4
      exact h4
    have h5 := condW_of h4 (w_not (w_lt w_lit (w_len_list (w_arg rfl))))
    rw [List.length_map] at h5
    refine Nat.le_of_not_lt fun q => ?_
    have q' : (n : Int) < ((ns.length : Nat) : Int) := by omega
    first
      | (rw [decide_eq_true q'] at h5; exact absurd h5 (by decide))
      | (simp at h5; omega)
  cases hwl with
  | cons w1 w2 =>
    cases w2
    cases w1 with
    | list ho hall => exact ⟨_, _, ns, rfl, rfl, ho, ints_of_wellAll ns _ hall, hlen⟩
theorem post_true (l : OpenLaw) (args : List WData) : l.row.toRowW.claim.post args (.bool true) args = true :=
  postW_of (r := l.row.toRowW) (X := (true == true))
    (show WShape.has [] (.bool true) .bool = true by first | rfl | decide | simp [WShape.has, WShape.arms, WShape.armsAll])
    (show (WTm.eq .res (.lit (.bool true))).value [] { args := args, res := some (.bool true), after := args } = some (.bool (true == true)) from w_eq_bool (w_res rfl) w_lit) rfl
theorem attach_call {l : OpenLaw} {n : Nat} {q : Program} {loose : List Str} {XP : (Str → Option Value) → Heap → Prop} {YP : World → Heap → Prop} {d : DefRec}
    (hn : l.most = some n) (hdf : d.params.defaults = [])
    (call : ∀ (w : World) (s₀ s₁ : Shared) (mg mb : Str → Option Value) (fa : Addr) (o : Obj) (pm cd doc : Value) (a : Addr) (vs : List Value) (ns : List Int),
      Ground q loose [] XP w s₀ mg mb s₁.heap → YP w s₁.heap →
      s₁.heap.get? fa = some o → o.data = .func (docDef d.name d.params d.body d.scope pm cd doc) → s₁.heap.CodeRec cd d.name → mg d.name = some (.ref fa) →
      s₁.heap.get? a = some { cls := .type "list", data := .seq vs.toArray } → IntsAre vs ns → ns.length ≤ n → s₁.gens = #[] →
      codeAny (model l.prog w) callerA (.call (.ref fa) ⟨[.ref a], []⟩) (fun r s' => r = .ok (.ret (.bool true)) ∧ OldK s₁.heap s'.heap ∧ s'.os = s₁.os ∧ AllBare s'.gens) s₁) :
    WalkO q loose XP YP l.row.toRowW d [] (fun f vs => PySem.call f vs) := by
  intro w s₀ s₁ mg mb G Y fa o pm cd doc dV kV ho hd hcd hD hmg hg args vals as hpre hlay hrd hwl hlo
  obtain rfl : dV = .none := Dflts.none hD hdf
  obtain rfl : kV = .none := Dflts.noKw hD
  obtain ⟨a, vs, ns, rfl, rfl, hobj, hints, hlen⟩ := script_of hn hpre hwl
  refine enter_call (codeAny_mono (call w s₀ s₁ mg mb fa o pm cd doc a vs ns G Y ho (fd_plain hd) hcd hmg hobj hints hlen hg) fun r s' hq => ?_)
  obtain ⟨rfl, h2, h3, h4⟩ := hq
  exact ⟨.inl ⟨.bool true, .bool true, [], rfl, fun _ => rfl, .bool true, post_true l _, fun _ => ⟨List.Pairwise.nil, fun _ hm => (nomatch hm)⟩⟩, h2, h3, h4⟩
section
variable {prog : Program} {w : World} {A : Around} {E : Value → Shared → Prop} {s : Shared} {K : Frag}
end
end Att
namespace L2
open PySem PySem.Spec PyProof.Rows
theorem vals_ints : ∀ {vs : List Value} {ns : List Int}, IntsAre vs ns → Vals (ns.map V.int) vs
  | _, _, .nil => .nil
  | _, _, .cons n t h => .cons ⟨t, rfl⟩ (vals_ints h)
end L2
namespace L2
open PySem PySem.Spec PyProof.Rows
end L2
/- THE LAST THEOREM (shape; LID, My.* are yours):
   My.Adr: a structure of the addresses that your layer names (classes, functions); My.Txt K t: a structure (Prop) of the equations over K;
   My.txt_mk : {K} {implicit addresses ..} (e1 : nsIn K mainGlobals "law" = some (some (.ref f))) (e2 : K.lookup f = some ⟨oc, od, .func (fnOf "law" "law" params body scope dV kV doc pm an cdv ct), sl⟩) (e3 : codeIn K cdv "law" = true) .. : ∃ t, My.Txt K t
set_option maxRecDepth 100000 in
set_option maxHeartbeats 0 in
theorem PySem.Challenge.cw_LID_holds : PySem.Challenge.rw_LID.Holds := by
  w_on; o_law; k_head; (case hw => w_witness2)
  k_fill
  refine L2.walk_of (l := PySem.Challenge.rw_LID) (n := 63) (k := 40) (x := "script") (CX := fun w => ..) (sp := fun _ => My.sp_law) rfl (by decide) rfl ⟨rfl, by decide, by decide⟩ (fun w h Y => PySem.W.kIn_of Y) ?F ?S ?C
  case F =>
    intro w mg fa h KX G hmg
    have T : ∃ t, My.Txt (L2.KOf KX) t := by
      dsimp only [L2.KOf]                          -- K must stand as «<heap const> w.params» for k_is
      refine' My.txt_mk ?e1 ?e2 ?e3 ..
      (case e1 => PySem.W.k_is)                    -- in the order: a name -> its address -> its object -> its parts
      (case e2 => PySem.W.k_is)
      ..
    obtain ⟨t, T⟩ := T
    have e0 := hmg.symm.trans (PySem.W.mg_of KX G T.law)
    cases e0                                       -- fa is the law's own address
    exact ⟨_, fun s u => .of_eq rfl, fun base kb nb => My.law_fn T kb nb⟩     -- if «.of_eq rfl» comes too early: refine' ⟨_, ?b, fun base kb nb => My.law_fn T kb nb⟩; exact fun s u => .of_eq rfl
  case S => exact fun w H a ns hl hO hS => ..
  case C => exact ..
(the tactic k_is has no namespace: write k_is) -/
namespace L2
open PySem PySem.Spec PyProof.Rows
def defArgs (s : Stmt) : Arguments := match s with
  | .FunctionDef _ a _ _ _ _ _ _ _ _ => a
  | _ => { posonlyargs := [], args := [], vararg := none, kwonlyargs := [], kw_defaults := [], kwarg := none, defaults := [] }
def defBody (s : Stmt) : List Stmt := match s with
  | .FunctionDef _ _ b _ _ _ _ _ _ _ => b
  | _ => []
def defScope (s : Stmt) : Scope := match s with
  | .FunctionDef _ _ _ _ _ _ sc _ _ _ => sc
  | _ => { kind := .function, names := [], isGenerator := false, isCoroutine := false }
abbrev E0 : XK := fun _ _ _ => False
section
variable {P : Program} {w : World} {K : PySem.W.Frag} {mg : Str → Option Value} {base : Heap}
end
section
variable {X : Cx}
theorem pv (i : Nat) {x : Str} {pos : Pos} (hN : X.N[i]? = some x := by rfl) (hv : Vis X.env.scope x := by first | exact Or.inl rfl | exact Or.inr (Or.inl rfl) | exact Or.inr (Or.inr rfl)) (hd : (x == ("__debug__" : Str)) = false := by decide)
    (hcd : (x == ("__classdict__" : Str)) = false := by decide) : PE X (.Name x pos) (tVar i) := pe_var hN hv hd hcd
end
theorem iteF {A B : Prop} (h : B) : if false = true then A else B := by
  rw [if_neg Bool.false_ne_true]
  exact h
theorem iteT {A B : Prop} (h : A) : if true = true then A else B := by
  rw [if_pos rfl]
  exact h
theorem ite2 {c A B : Prop} [Decidable c] (h1 : c → A) (h2 : ¬ c → B) : if c then A else B := by
  by_cases h : c
  · rw [if_pos h]
    exact h1 h
  · rw [if_neg h]
    exact h2 h
def Same (H H' : Hp) : Prop := ∀ b o, H b = some o → H' b = some o
theorem Same.refl (H : Hp) : Same H H := fun _ _ h => h
theorem Same.trans {H H1 H2 : Hp} (a : Same H H1) (b : Same H1 H2) : Same H H2 := fun c o h => b c o (a c o h)
theorem Same.free {H H' : Hp} (e : Same H H') {l : Addr} (h : H' l = Option.none) : H l = Option.none := by
  cases q : H l with
  | none => rfl
  | some o =>
    rw [e l o q] at h
    cases h
end L2
namespace L2
open PySem PySem.Spec PyProof.Rows
theorem Inv.turned2 {X : Cx} {pins : List (Addr × Obj)} {σ : St} {H : Hp} {s : Shared} {h' : Heap} {t' : Nat} {e it : Addr} (I : Inv X pins σ H s)
    (k : ∀ b o, b ≠ e → b ≠ it → s.heap.get? b = some o → h'.get? b = some o) (fe : FpOk X pins H e) (fi : FpOk X pins H it) : Inv X pins σ H { s with heap := h', toks := t' } := by
  have nit : ∀ b u, H b = some u → b ≠ e ∧ b ≠ it := fun b u q => ⟨(fun z => by rw [z, fe.1] at q; cases q), (fun z => by rw [z, fi.1] at q; cases q)⟩
  have out : ∀ b, b ∉ [e, it] → b ≠ e ∧ b ≠ it := fun b hb => ⟨fun z => hb (by simp [z]), fun z => hb (by simp [z])⟩
  refine I.step (g' := s.gens) (d' := s.drawn) (ch := [e, it]) (fun b hb => ?_) (fun b o _ _ hc q _ => k b o (out b hc).1 (out b hc).2 q) (fun b o _ _ hc q _ => ⟨o.slots, k b o (out b hc).1 (out b hc).2 q⟩) (fun _ _ _ _ n => n)
    (fun b o hc q => ⟨o, k b o (out b hc).1 (out b hc).2 q⟩) (fun _ _ q => q) (fun _ _ _ q => q) (fun b ps q => ⟨#[], by rw [q]; simp⟩) (fun m hm => ?_) (fun b u q => ?_) I.bare
  · rcases List.mem_cons.mp hb with z | hb
    · rw [z]; exact ⟨fe.2.2.2.1, fe.2.1, fe.2.2.2.2.1, fe.2.2.2.2.2⟩
    · have z : b = it := by simpa using hb
      rw [z]; exact ⟨fi.2.2.2.1, fi.2.1, fi.2.2.2.2.1, fi.2.2.2.2.2⟩
  · obtain ⟨o, es, ep, ho, r⟩ := hm
    exact ⟨o, es, ep, k _ o (Ne.symm fe.2.1) (Ne.symm fi.2.1) ho, r⟩
  · refine (I.hok b u q).stay (fun c v hc r => ?_) (fun _ r => r) fun _ _ r => r
    rcases hc with z | z
    · rw [z] at r ⊢; exact k b v (nit b u q).1 (nit b u q).2 r
    · exact k c v (nit c _ z).1 (nit c _ z).2 r
def Ite (K : PySem.W.Frag) (a : Addr) : It :=
  ⟨fun i H => ∃ xs x, SqL K H a xs ∧ xs[i]? = some x, fun i H x H' => ∃ t y, H t = none ∧ x = .ref t ∧ (∀ xs, SqL K H a xs → xs[i]? = some y) ∧ H' = upd H t (.tup [.int i, y]),
   fun i H => ∃ xs, SqL K H a xs ∧ xs.length ≤ i⟩
theorem turn_enum {P : Program} {w : World} {K : PySem.W.Frag} {es : List Expr} {k : Nat} {pos : Pos} (a e it : Addr) (hne : e ≠ it) :
    Turn P w K (.Tuple es k pos) (Ite K a) [e, it] e (fun i h => (∃ old, IsEnum h e it i old) ∧ h.IsListIter it a i) where
  mem := by simp
  obj := fun i h st b hb => by
    obtain ⟨⟨old, he⟩, o, e1, c, d⟩ := st
    rcases List.mem_cons.mp hb with z | hb
    · rw [z]; exact ⟨_, he, fun v z => by have z' : Data.fields _ = Data.cell v := z; cases z'⟩
    · have z : b = it := by simpa using hb
      rw [z]; exact ⟨o, e1, fun v z => by rw [d] at z; cases z⟩
  keep := fun i h h' st kk => by
    obtain ⟨⟨old, he⟩, st⟩ := st
    exact ⟨⟨old, kk e (by simp) _ he⟩, st.at fun o q => kk it (by simp) o q⟩
  item := by
    intro X hP hw hK hc i pins s σ H E I hf st hg
    subst hP hw hK
    obtain ⟨xs, x, hq, hx⟩ := hg
    obtain ⟨its, rv, p, hz⟩ := I.list hq
    obtain ⟨u, hu, ru⟩ := rv.get hx
    have fe := hf e (by simp)
    have fi := hf it (by simp)
    obtain ⟨⟨old, he⟩, hit⟩ := st
    refine wpAny_pyNext_enum_item he hit p.isList (x := u) (by simpa using hu) hne fun h1 eo it1 tp sz kk => ?_
    refine ⟨_, rfl, wpAny_letOwnedTupleGo_enum (s := { s with heap := h1, toks := s.toks + 1 }) eo fun h2 e2 sb2 => ?_⟩
    have hfr := I.hok.fresh (Nat.le_refl s.heap.objs.size)
    have I1 : Inv X pins σ (upd H s.heap.objs.size (.tup [.int i, x])) { s with heap := s.heap.push { cls := .type "tuple", data := .seq #[.int i s.toks, u] }, toks := s.toks } :=
      I.laid (o := .tup [.int i, x]) (fun b o q => Heap.get?_push_of_some _ q) (Nat.le_refl _) ⟨by show 2 ≤ sizeLine; decide, [.int i s.toks, u], .cons ⟨_, rfl⟩ (.cons ru .nil), IsTup.new _ _⟩
    have lt1 : e < s.heap.objs.size := Heap.lt_size he
    have lt2 : it < s.heap.objs.size := by obtain ⟨o, q, _⟩ := id hit; exact Heap.lt_size q
    have up : ∀ {b : Addr}, FpOk X pins H b → b < s.heap.objs.size → FpOk X pins (upd H s.heap.objs.size (.tup [.int i, x])) b := fun f l => ⟨by rw [upd_ne (Nat.ne_of_lt l)]; exact f.1, f.2⟩
    have I2 := I1.turned2 (h' := h2) (t' := s.toks + 1) (fun b o n1 n2 q => ?_) (up fe lt1) (up fi lt2)
    · refine ⟨.ref s.heap.objs.size, _, I2, rfl, ⟨_, x, hfr, rfl, fun ys hy => by rw [I.list_inj hy hq]; exact hx, rfl⟩, ⟨⟨u, ?_⟩, it1.extBut sb2.extBut (Ne.symm hne)⟩, fun b hb => ?_⟩
      · have e3 : ((i + 1 : Nat) : Int) = (i : Int) + 1 := by push_cast; rfl
        rw [e3]; exact e2
      · rcases List.mem_cons.mp hb with z | hb
        · rw [z]; exact (up fe lt1).1
        · have z : b = it := by simpa using hb
          rw [z]; exact (up fi lt2).1
    · have q1 : (s.heap.push { cls := .type "tuple", data := .seq #[.int i s.toks, u] }).get? b = some o := q
      refine sb2.extBut b o n1 ?_
      by_cases hb : b = s.heap.objs.size
      · subst hb
        rw [Heap.get?_push_size _ rfl] at q1
        cases q1
        exact tp
      · refine kk b o n1 n2 ?_
        rw [← q1]
        exact (Heap.get?_push_ne s.heap b _ hb).symm
  done := by
    intro X hP hw hK hc i pins s σ H E I hf st hg
    subst hP hw hK
    obtain ⟨xs, hq, hx⟩ := hg
    obtain ⟨its, rv, p, hz⟩ := I.list hq
    obtain ⟨⟨old, he⟩, hit⟩ := st
    obtain ⟨f0, f1, f2, f3, f4, f5⟩ := hf it (by simp)
    have hl := rv.length
    exact wpAny_pyNext_enum_end (I.ok.hd hc) he hit p.isList (by simp; omega) fun h' eb => ⟨rfl, I.turned (t' := s.toks) (fun b o hb q => eb b o hb q) f0 f1 f3 f4 f5⟩
  self := fun _ _ _ _ _ st h => by
    obtain ⟨⟨old, he⟩, _⟩ := st
    exact wpAny_pyIter_enum he h
section
variable {X : Cx} {es : List Expr} {tk : Nat} {tpos : Pos}
def iEnum (K : PySem.W.Frag) (ta : TA) : TI := fun σ H R => ta σ H fun vs H1 => ∃ a, vs = [.ref a] ∧ (∃ xs, SqL K H1 a xs) ∧ R (Ite K a) H1
theorem pi_enum {l : Expr} {ta : TA} {p pos : Pos} (hg : Gl X "enumerate") (hm : X.mg "enumerate" = none) (ha : PA X [l] ta) (hs : starEach [l] X.env = [(false, eval l X.env)] := by rfl) :
    PI X (.Tuple es tk tpos) (.Call (.Name "enumerate" p) [l] [] pos) (iEnum X.K ta) := by
  intro pins s σ H R I h
  refine Call_ (ld_blt I hg hm PyProof.Rows.boot_enumerate (PyProof.Rows.callWith_type1 (thn (ha pos pins s σ H _ I h) fun us s1 ⟨vs, H1, I1, r1, q1⟩ => ?_) hs rfl))
  obtain ⟨a, e, ⟨xs, hq⟩, q⟩ := q1
  subst e
  cases r1 with
  | cons r rr =>
    cases rr
    cases r
    obtain ⟨its, rv, pl, hz⟩ := I1.list hq
    refine call_enumerate_list pl.isList fun h' he hit hsz kk => wpAny_pyIter_enum he ?_
    refine ⟨_, [s1.heap.objs.size + 1, s1.heap.objs.size], _, _, H1, rfl, I1.kept (t' := s1.toks) kk, turn_enum a _ _ (Nat.succ_ne_self _), ⟨⟨_, he⟩, hit⟩, fun b hb => ?_, q⟩
    rcases List.mem_cons.mp hb with z | hb
    · rw [z]; exact I1.fpOk (Nat.le_succ _) (I1.hok.fresh (Nat.le_succ _))
    · have z : b = s1.heap.objs.size := by simpa using hb
      rw [z]; exact I1.fpOk (Nat.le_refl _) (I1.hok.fresh (Nat.le_refl _))
end
theorem for_enum {K : PySem.W.Frag} {a : Addr} {xs : List V} {g : TG} {tb : TS} {D : Ends} {σ : St} {H : Hp} (Pv : Nat → St → Hp → Prop) (h0 : Pv 0 σ H) (hl : ∀ i σ H, i ≤ xs.length → Pv i σ H → SqL K H a xs)
    (hs : ∀ i x t σ H, xs[i]? = some x → Pv i σ H → H t = none → g (.ref t) σ (upd H t (.tup [.int i, x])) fun σ2 H2 => tb { D with nx := Pv (i + 1), ct := Pv (i + 1), bk := D.nx } σ2 H2) (hd : ∀ σ H, Pv xs.length σ H → D.nx σ H) :
    ∃ W : Nat → Nat → St → Hp → Prop, (∃ m, W 0 m σ H) ∧ ∀ i m σ H, W i m σ H →
      ((Ite K a).stop i H ∧ D.nx σ H) ∨ ((Ite K a).go i H ∧ ∃ N : St → Hp → Prop, (∀ σ' H', N σ' H' → ∃ m', m' < m ∧ W (i + 1) m' σ' H') ∧ ∀ x H', (Ite K a).yld i H x H' → g x σ H' fun σ2 H2 => tb { D with nx := N, ct := N, bk := D.nx } σ2 H2) := by
  refine ⟨fun i m σ H => m = xs.length - i ∧ i ≤ xs.length ∧ Pv i σ H, ⟨xs.length, by simp, Nat.zero_le _, h0⟩, ?_⟩
  rintro i m σ H ⟨rfl, hi, p⟩
  have q := hl i σ H hi p
  by_cases hlt : i < xs.length
  · refine .inr ⟨⟨xs, xs[i], q, by simp [hlt]⟩, Pv (i + 1), fun σ' H' p' => ⟨xs.length - (i + 1), by omega, rfl, hlt, p'⟩, fun x H' y => ?_⟩
    obtain ⟨t, y, n, e1, e2, e3⟩ := y
    subst e1 e3
    exact hs i y t σ _ (e2 xs q) p n
  · have e : i = xs.length := by omega
    subst e
    exact .inl ⟨⟨xs, q, Nat.le_refl _⟩, hd σ H p⟩
def big : Nat := 2 ^ 4000
theorem big_log {n : Nat} (h : n < big) : n.log2 < 4000 := by
  by_cases h0 : n = 0
  · rw [h0]; decide +kernel
  · exact (Nat.log2_lt h0).mpr h
section
variable {X : Cx}
theorem op_fdivB : OpR X (binaryOp .FloorDiv) (rI (fun _ j => j ≠ 0 ∧ j.natAbs < big) fun i j => .int (i.fdiv j)) := opI fun _ _ _ _ _ _ _ hc q => floordiv_int hc.1 q (.inl (PyProof.noPylong_of_log2 (Nat.lt_trans (big_log hc.2) (by decide))))
theorem op_fdivP : OpR X (binaryOp .FloorDiv) (rI (fun _ j => 0 < j ∧ j.natAbs < big) fun i j => .int (i / j)) := opI fun i j _ _ _ _ _ hc q => by
  have h1 : (0 : Int) < j := hc.1
  exact floordiv_int (by omega) (by rw [Int.fdiv_eq_ediv_of_nonneg i (by omega)]; exact q) (.inl (PyProof.noPylong_of_log2 (Nat.lt_trans (big_log hc.2) (by decide))))
theorem bits_lt {k : Int} (h : k.natAbs < big) : Builtin.Int.intBits k ≤ 4000 := by
  unfold Builtin.Int.intBits
  split
  · exact Nat.zero_le _
  · have := big_log h
    omega
theorem mul_ok {i j : Int} (hi : i.natAbs < big) (hj : j.natAbs < big) : IntMulOk i j := by
  have h1 := bits_lt hi
  have h2 := bits_lt hj
  have h4 : 8000 ≤ bitsLine := by decide +kernel
  have h3 : Builtin.Int.intTooBig (Builtin.Int.intBits i + Builtin.Int.intBits j) = false := by
    unfold Builtin.Int.intTooBig
    generalize Builtin.Int.intBits i = a at *
    generalize Builtin.Int.intBits j = b at *
    clear hi hj
    simp
    omega
  unfold IntMulOk
  rw [h3]
  simp
theorem op_mulB : OpR X (binaryOp .Mult) (rI (fun i j => i.natAbs < big ∧ j.natAbs < big) fun i j => .int (i * j)) := opI fun _ _ _ _ _ _ _ hc q => mul_int q (mul_ok hc.1 hc.2)
def eqVs : List V → List V → Bool
  | [], [] => true
  | x :: xs, y :: ys => eqV x y && eqVs xs ys
  | _, _ => false
end
end L2
namespace L2
open PySem PySem.Spec PyProof.Rows
section
variable {M : Model} {A : Around} {E : Value → Shared → Prop} {s : Shared} {env : Env} {outer : List Env} {base : Heap} {L e : Addr} {oe : Obj} {vs : Array Value} {Q : Unit → Shared → Prop}
end
end L2
namespace L2
open PySem PySem.Spec PyProof.Rows
def dxOf (h : Heap) (e : Addr) : Option Addr := (h.get? e).bind fun o => o.dict
structure Thrown (h0 h : Heap) (e C T : Addr) : Prop where
  n0 : h0.get? e = none
  t0 : h0.get? T = none
  ne : T ≠ e
  ob : ∃ oe vs, h.get? e = some oe ∧ oe.cls = .ref C ∧ oe.data = .fields vs ∧ vs[1]? = some (.ref T)
  tb : ∃ oT ts, h.get? T = some oT ∧ oT.data = .fields ts ∧ ts[3]? = some .none
def CXE (P : Program) (w : World) : CXT := fun outer H s E ev s' => ∃ e C T H', ev = .ref e ∧ s'.os = s.os ∧ AllBare s'.gens ∧ Un (frs outer) [] H H' s.heap s'.heap ∧ HOk P w H' s'.heap ∧ H' e = none ∧ H' T = none ∧
  Thrown s.heap s'.heap e C T ∧ E (.ref C) (dxOf s'.heap e) H'
theorem passE0 {X : Cx} {P : Program} {w : World} : Passes (CXE P w) X E0 := fun _ _ _ _ _ _ _ h => by
  obtain ⟨_, _, _, _, _, _, _, _, _, _, _, _, z⟩ := h
  exact z.elim
section
variable {P : Program} {w : World} {K : PySem.W.Frag} {mg : Str → Option Value} {base : Heap} {N : List Str} {qual : Str} {scope : Scope} {f : Addr} {cd : Value} {A : Around} {outer : List Env} {s : Shared} {H : Hp} {E : XK}
end
section
variable {P : Program} {w : World} {K : PySem.W.Frag} {mg : Str → Option Value} {base : Heap}
end
end L2
namespace L2
open PySem PySem.Spec PyProof.Rows
section
variable {X : Cx} {k : Nat} {f : Addr} {fd : FuncData} {ps : List Str} {sp : Sp} {dvs : List V} {ds : List Value} {x : Str} {p pos : Pos} {e : Expr} {es : List Expr} {t : TA}
end
def excAtD (C e : Addr) (d : Option Addr) (h : Heap) : Prop := ∃ o, h.get? e = some o ∧ o.cls = .ref C ∧ o.dict = d ∧ PySem.W.notCls o = true
abbrev excAt (C e : Addr) (h : Heap) : Prop := excAtD C e none h
def ExcD (C e : Addr) (d : Option Addr) : HO := .ext (excAtD C e d)
abbrev ExcO (C e : Addr) : HO := ExcD C e none
theorem looks_isType {K : PySem.W.Frag} {M : Model} {h : Heap} {D : Addr} (X : K.In h) (c : (PySem.W.clsIn K D).isSome = true) : PySem.W.Looks M h (isType (.ref D)) true := by
  unfold PySem.W.clsIn at c
  split at c
  · rename_i a b cd sl lk
    intro A Q E s k q
    unfold isType loadHead
    exact wpAny_bind (wpAny_loadPart (k _ _ (X _ _ lk)) (wpAny_pure q))
  · cases c
end L2
namespace L2
open PySem PySem.Spec PyProof.Rows
structure ClsX (K : PySem.W.Frag) (C : Addr) : Prop where
  ga : PySem.W.findIn K (.ref C) "__getattribute__" = some (some (.builtin "BaseException.__getattribute__"))
  no : PySem.W.findIn K (.ref C) "__getattr__" = some none
  hd : PySem.W.hasDictIn K C = true
  ha : PySem.W.findIn K (.ref C) "__class__" = some (some (.builtin "object.__class__"))
  hn : PySem.W.specialIn K (.builtin "object.__class__") "__get__" = some (some (.builtin "getset_descriptor.__get__"))
  ht : PySem.W.takesIn K (.builtin "object.__class__") = some true
  hm : PySem.W.mroIn K C (.type "object") = some true
  hb : PySem.W.mroIn K C (.type "BaseException") = some true
section
variable {prog : Program} {w : World} {A : Around} {E : Value → Shared → Prop} {K : PySem.W.Frag} {C e : Addr} {ox : Obj} {od : Option Obj}
theorem ga_class {s : Shared} {tk : Tok} {Q : Fin → Shared → Prop} (c : ClsX K C) (X : K.In s.heap) (I : PySem.W.InstAt s.heap e ox C od) (h : Q (.done (.ret (.ref C))) s) :
    wpAny (model prog w) A (Builtin.«object.__getattribute__» ⟨[.ref e, .str "__class__" tk], []⟩) Q E s := by
  have hf : PySem.W.findObj K C od "__class__" = some (.bind (.builtin "getset_descriptor.__get__") (.builtin "object.__class__")) := by
    obtain ⟨cd, q, _⟩ := PySem.W.any_some c.hd
    unfold PySem.W.findObj
    rw [q, Option.bind_some, c.ha, Option.bind_some]
    simp [c.hn, c.ht]
  obtain ⟨hh, gg, d, t, os⟩ := s
  have L0 := I.type (M := model prog w)
  have L1 := PySem.W.looks_find (M := model prog w) X I hf
  unfold Builtin.«object.__getattribute__»
  repeat (first | with_reducible refine L0.at ?_ | with_reducible refine L1.at ?_ | wp_step)
  exact PySem.W.class_get (ox := ox) (od := od) X I c.hm (wpAny_pure h)
theorem ga_check {M : Model} {s : Shared} {nameV : Value} {Q : Unit → Shared → Prop} (c : ClsX K C) (X : K.In s.heap) (I : PySem.W.InstAt s.heap e ox C od) (h : Q () s) :
    wpAny M A (checkBuiltinCall "BaseException.__getattribute__" ⟨[.ref e, nameV], []⟩) Q E s := by
  have hk : builtinKind "BaseException.__getattribute__" = some .slot := by decide +kernel
  have hs : splitId "BaseException.__getattribute__" = some ("BaseException", "__getattribute__") := by decide +kernel
  have ha := F.args_bexc_ga (.ref e) nameV
  have LI : PySem.W.Looks M s.heap (isInstance (.ref e) (.type "BaseException")) true := (I.type (M := M)).andThen (PySem.W.looks_mroIn X c.hb)
  obtain ⟨hh, gg, d, t, os⟩ := s
  simp only [checkBuiltinCall, hk, hs]
  refine wpAny_bind (LI.at ?_)
  repeat (first | assumption | wp_step)
theorem exc_class {s : Shared} {Q : Option Value → Shared → Prop} (c : ClsX K C) (X : K.In s.heap) (I : PySem.W.InstAt s.heap e ox C od) (h : Q (some (.ref C)) { s with toks := s.toks + 1 }) :
    wpAny (model prog w) A (getAttr? (.ref e) "__class__") Q E s := by
  obtain ⟨hh, gg, d, t, os⟩ := s
  have L0 := I.type (M := model prog w)
  have L1 := PySem.W.looks_findIn (M := model prog w) X c.ga
  have L2 := PySem.W.looks_findIn (M := model prog w) X c.no
  have f3 := PySem.F.attr_ValueError.ga.bind (.ref e)
  unfold getAttr? getAttrBy? getAttrBy
  refine wpAny_bind (wpAny_mkText (wpAny_bind (wpAny_attempt (wpAny_holding (wpAny_bind (L0.at (wpAny_bind (L1.at ?_))))))))
  have e1 : (onTheHeap (Value.ref C) && Value.builtin "BaseException.__getattribute__" == Value.builtin "object.__getattribute__") = false := by rw [show (Value.builtin "BaseException.__getattribute__" == Value.builtin "object.__getattribute__") = false from by decide +kernel, Bool.and_false]
  dsimp only
  rw [e1]
  simp only [Bool.false_eq_true, if_false]
  unfold getAttrByItsOwn hookBefore
  repeat (first | with_reducible refine L2.at ?_ | assumption | wp_step)
  refine codeAny_call_builtin PySem.F.attr_ValueError.ga.plain F.entry_bexc_ga (ga_check c X I (ga_class c X I ?_))
  show wpAny (model prog w) A (handedOut (.ref C)) _ _ _
  exact PySem.W.handed_on rfl (wpAny_pure h)
end
end L2
namespace L2
open PySem PySem.Spec PyProof.Rows
theorem kitx_exc {K : PySem.W.Frag} {C e : Addr} (c : ClsX K C) : PySem.W.KitX K (.ref e) (.ref C) (excAt C e) where
  ty := fun M h _ ⟨o, h1, h2, _⟩ => h2 ▸ (PySem.W.Looks.ld h1).andThen .now
  it := fun M h X _ => by
    obtain ⟨cd, q, _⟩ := PySem.W.any_some c.hd
    exact looks_isType X (by rw [q]; rfl)
  ne := fun h tp dd its n sl X htp => by
    obtain ⟨cd, q, _⟩ := PySem.W.any_some c.hd
    refine Bool.eq_false_iff.mpr fun z => ?_
    have e : C = tp := Value.ref.inj (beq_iff_eq.mp z)
    subst e
    unfold PySem.W.clsIn at q
    split at q
    · rename_i lk
      have z := (X _ _ lk).symm.trans htp
      cases z
    · cases q
  ca := fun {prog w A E Q s} X ⟨o, h1, h2, h3, h4⟩ k => by
    have I : PySem.W.InstAt s.heap e o C none := ⟨h1, h2, h4, by rw [h3]; exact trivial⟩
    exact exc_class c X I k
theorem kitx_excD {K : PySem.W.Frag} {C e d : Addr} (c : ClsX K C) : PySem.W.KitX K (.ref e) (.ref C) (fun h => excAtD C e (some d) h ∧ ∃ od, h.get? d = some od) where
  ty := fun M h _ ⟨⟨o, h1, h2, _⟩, _⟩ => h2 ▸ (PySem.W.Looks.ld h1).andThen .now
  it := fun M h X _ => by
    obtain ⟨cd, q, _⟩ := PySem.W.any_some c.hd
    exact looks_isType X (by rw [q]; rfl)
  ne := fun h tp dd its n sl X htp => (kitx_exc (e := e) c).ne h tp dd its n sl X htp
  ca := fun {prog w A E Q s} X ⟨⟨o, h1, h2, h3, h4⟩, od, hod⟩ k => by
    have I : PySem.W.InstAt s.heap e o C (some od) := ⟨h1, h2, h4, by rw [h3]; exact hod⟩
    exact exc_class c X I k
inductive TyX (K : PySem.W.Frag) (H : Hp) : V → Value → Prop where
  | of {x : V} {t : Value} (h : TyOf K H x t) : TyX K H x t
  | exc {C e : Addr} (h : H e = some (ExcO C e)) (c : ClsX K C) : TyX K H (.ref e) (.ref C)
  | excD {C e d : Addr} {fs : List (Str × V)} (h : H e = some (ExcD C e (some d))) (hd : H d = some (.xd fs)) (c : ClsX K C) : TyX K H (.ref e) (.ref C)
def clsV : V → Option Value
  | .ty n => some (.type n)
  | .ref a => some (.ref a)
  | _ => none
theorem clsV_rel {c : V} {u cv : Value} (h : clsV c = some cv) (r : RelV c u) : u = cv := by
  cases c with
  | ty n => cases h; exact r
  | ref a => cases h; exact r
  | _ => cases h
theorem clsV_all : ∀ {xs : List V} {us cs : List Value}, Vals xs us → xs.map clsV = cs.map some → us = cs
  | _, _, [], .nil, _ => rfl
  | _, _, _ :: _, .nil, h => by simp at h
  | _, _, [], .cons _ _, h => by simp at h
  | _, _, c :: cs, .cons r t, h => by
    simp only [List.map_cons, List.cons.injEq] at h
    rw [clsV_rel h.1 r, clsV_all t h.2]
section
variable {X : Cx}
def rIsi (K : PySem.W.Frag) : List V → Hp → VK → Prop := fun vs H Q => ∃ x c t b, vs = [x, c] ∧ TyX K H x t ∧ ((∃ cv, clsV c = some cv ∧ PySem.W.kitOne K t cv = some b) ∨ ∃ p xs cs, c = .ref p ∧ SqT K H p xs ∧ xs.map clsV = cs.map some ∧ PySem.W.kitAny K t cs = some b) ∧ Q (.bl b) H
theorem kitx_of {pins : List (Addr × Obj)} {σ : St} {H : Hp} {s : Shared} {x : V} {t u : Value} (I : Inv X pins σ H s) (rx : RelV x u) (ty : TyX X.K H x t) : ∃ HH, PySem.W.KitX X.K u t HH ∧ HH s.heap ∧ u ≠ .builtin "__main__.__loader__#opaque" := by
  cases ty with
  | exc h c =>
    cases (show u = _ from rx)
    obtain ⟨p, _⟩ := I.hok _ _ h
    exact ⟨_, kitx_exc c, p, fun z => nomatch z⟩
  | excD h hd c =>
    cases (show u = _ from rx)
    obtain ⟨p, _⟩ := I.hok _ _ h
    obtain ⟨_, ⟨od, _, _, q, _⟩, _⟩ := I.hok _ _ hd
    exact ⟨_, kitx_excD c, ⟨p, od, q⟩, fun z => nomatch z⟩
  | of ty =>
    cases ty with
    | non => cases (show u = Value.none from rx); exact ⟨_, PySem.W.kitx_none, trivial, fun z => nomatch z⟩
    | bl y => cases (show u = Value.bool y from rx); exact ⟨_, PySem.W.kitx_bool, trivial, fun z => nomatch z⟩
    | int i => obtain ⟨t, q⟩ := (show ∃ t, u = Value.int i t from rx); cases q; exact ⟨_, PySem.W.kitx_int, trivial, fun z => nomatch z⟩
    | str y => obtain ⟨t, q⟩ := (show ∃ t, u = Value.str y t from rx); cases q; exact ⟨_, PySem.W.kitx_str, trivial, fun z => nomatch z⟩
    | flt y => obtain ⟨t, q⟩ := (show ∃ t, u = Value.float y t from rx); cases q; exact ⟨_, PySem.W.kitx_float, trivial, fun z => nomatch z⟩
    | @lst a xs ea =>
      cases (show u = Value.ref a from rx)
      obtain ⟨_, _, n, _, h1⟩ := (show ObjOk X.prog X.w H s.heap a (.lst xs) from I.hok a _ ea)
      exact ⟨_, PySem.W.kitx_list, ⟨_, h1, rfl⟩, fun z => nomatch z⟩
    | @frz a ob xs ea =>
      cases (show u = Value.ref a from rx)
      obtain ⟨_, _, _, n, _, h1⟩ := (show ObjOk X.prog X.w H s.heap a (.frz ob (.lst xs)) from I.hok a _ ea)
      exact ⟨_, PySem.W.kitx_list, ⟨_, h1, rfl⟩, fun z => nomatch z⟩
    | @tup a xs ea =>
      cases (show u = Value.ref a from rx)
      obtain ⟨_, _, _, p⟩ := (show ObjOk X.prog X.w H s.heap a (.tup xs) from I.hok a _ ea)
      obtain ⟨o, h1, h2, _⟩ := p
      exact ⟨_, PySem.W.kitx_tuple, ⟨o, h1, h2⟩, fun z => nomatch z⟩
    | @dK a kvs ea =>
      cases (show u = Value.ref a from rx)
      obtain ⟨_, _, vs, _, p⟩ := (show ObjOk X.prog X.w H s.heap a (.dK kvs) from I.hok a _ ea)
      obtain ⟨o, es, ep, h1, h2, _⟩ := p
      exact ⟨_, PySem.W.kitx_dict, ⟨o, h1, h2.1⟩, fun z => nomatch z⟩
    | @dT a kvs ea =>
      cases (show u = Value.ref a from rx)
      obtain ⟨_, _, xs, _, o, es, ep, h1, h2, _⟩ := (show ObjOk X.prog X.w H s.heap a (.dT kvs) from I.hok a _ ea)
      exact ⟨_, PySem.W.kitx_dict, ⟨o, h1, h2.1⟩, fun z => nomatch z⟩
    | @ins a C dx fs ea cl ha hn htk hm =>
      cases (show u = Value.ref a from rx)
      obtain ⟨mA, O, _⟩ := ins_get I.hok ea
      obtain ⟨od, J, _⟩ := O.look
      exact ⟨_, PySem.W.kitx_own (cl.get _) cl.hd ha hn htk hm, J, fun z => nomatch z⟩
theorem call_isi : CallR X (.builtin "isinstance") (rIsi X.K) := by
  intro pins s σ H xs us Q I r h
  obtain ⟨x, c, t, b, rfl, ty, hc, q⟩ := h
  obtain ⟨u, v, rfl, rx, rc⟩ := vals2 r
  obtain ⟨HH, Z, p, hx⟩ := kitx_of I rx ty
  rcases hc with ⟨cv, e1, e2⟩ | ⟨a, xs, cs, rfl, hs, e1, e2⟩
  · rw [clsV_rel e1 rc]
    exact PySem.W.kia_one Z I.kIn p e2 hx fun tk => ⟨.bl b, H, I.tok tk, rfl, q⟩
  · cases (show v = Value.ref a from rc)
    obtain ⟨its, rv, ⟨o, h1, h2, n, h3⟩, _⟩ := I.tuple hs
    have e3 := clsV_all rv e1
    subst e3
    obtain ⟨oc, od, oda, osl⟩ := o
    simp only at h2 h3
    subst h2 h3
    exact PySem.W.kia_tup Z I.kIn p h1 e2 hx fun tk => ⟨.bl b, H, I.tok tk, rfl, q⟩
theorem boot_isi : bootBuiltins "isinstance" = some (.builtin "isinstance") := by decide +kernel
def eAt (xs ys : List V) (j : Nat) : Bool := match xs[j]?, ys[j]? with
  | some x, some y => eqV x y
  | _, _ => false
theorem eqVs_all : ∀ xs ys : List V, ((List.range (min xs.length ys.length)).all (eAt xs ys) && xs.length == ys.length) = eqVs xs ys
  | [], [] => rfl
  | [], _ :: _ => by simp [eqVs]
  | _ :: _, [] => by simp [eqVs]
  | x :: xs, y :: ys => by
    have ih := eqVs_all xs ys
    show _ = (eqV x y && eqVs xs ys)
    rw [← ih]
    have e1 : min (x :: xs).length (y :: ys).length = (min xs.length ys.length) + 1 := by simp only [List.length_cons]; omega
    rw [e1, List.range_succ_eq_map, List.all_cons, List.all_map]
    have e2 : (eAt (x :: xs) (y :: ys)) 0 = eqV x y := rfl
    have e3 : (eAt (x :: xs) (y :: ys)) ∘ Nat.succ = eAt xs ys := by
      funext j
      simp [eAt, Function.comp]
    have e4 : ((x :: xs).length == (y :: ys).length) = (xs.length == ys.length) := by
      rw [Bool.eq_iff_iff]
      simp
    rw [e2, e3, e4, Bool.and_assoc]
theorem items_eq {A : Around} {s : Shared} {xs ys : List V} {us vs : List Value} (r1 : Vals xs us) (r2 : Vals ys vs) (f1 : xs.all flatV = true) (f2 : ys.all flatV = true) :
    ∀ j (h1 : j < us.toArray.size) (h2 : j < vs.toArray.size), SeqAt.EqAt A s us.toArray[j] vs.toArray[j] (eAt xs ys j) := fun j h1 h2 => by
  have l1 : j < xs.length := by rw [r1.length]; simpa using h1
  have l2 : j < ys.length := by rw [r2.length]; simpa using h2
  obtain ⟨u, q1, z1⟩ := r1.get (i := j) (x := xs[j]) (by simp [l1])
  obtain ⟨v, q2, z2⟩ := r2.get (i := j) (x := ys[j]) (by simp [l2])
  have e1 : us.toArray[j] = u := by
    have : us[j]? = some us.toArray[j] := by simp
    rw [this] at q1; exact Option.some.inj q1
  have e2 : vs.toArray[j] = v := by
    have : vs[j]? = some vs.toArray[j] := by simp
    rw [this] at q2; exact Option.some.inj q2
  have e3 : eAt xs ys j = eqV xs[j] ys[j] := by simp [eAt, l1, l2]
  rw [e1, e2, e3]
  exact eqAt_V z1 z2 (List.all_eq_true.mp f1 _ (List.getElem_mem l1)) (List.all_eq_true.mp f2 _ (List.getElem_mem l2))
end
theorem Inv.above {X : Cx} {pins : List (Addr × Obj)} {σ : St} {H : Hp} {s : Shared} (I : Inv X pins σ H s) : sysModules < s.heap.objs.size := by
  have h : mainGlobals < s.heap.objs.size := (I.mod.glob.keeps I.bk).lt
  exact Nat.lt_trans (by decide) h
end L2
namespace L2
open PySem PySem.Spec PyProof.Rows
section
variable {X : Cx}
end
end L2
namespace L2
open PySem PySem.Spec PyProof.Rows
def clOf (env : Env) : List (Str × NameKind) → List (Str × Addr) → List (Str × Addr)
  | [], cs => cs
  | (n, k) :: r, cs => clOf env r (if (k == .free) = true then (n, (env.cells.lookup n).getD 0) :: cs else cs)
theorem clOf_run {env : Env} : ∀ {names : List (Str × NameKind)} {cs : List (Str × Addr)}, (∀ y ∈ names, y.2 = .free → (env.cells.lookup y.1).isSome = true) →
    (forIn names cs fun (x : Str × NameKind) (r : List (Str × Addr)) => if (x.2 == .free) = true then (do let c ← cellOf env x.1; pure (ForInStep.yield ((x.1, c) :: r))) else pure (ForInStep.yield r) : Sem (List (Str × Addr))) = pure (clOf env names cs)
  | [], cs, _ => rfl
  | (n, k) :: r, cs, h => by
    have ih := fun cs' => clOf_run (env := env) (names := r) (cs := cs') fun y hy => h y (List.mem_cons_of_mem _ hy)
    rw [List.forIn_cons]
    by_cases hk : (k == NameKind.free) = true
    · have hs := h (n, k) List.mem_cons_self (by simpa using hk)
      obtain ⟨c, hc⟩ := Option.isSome_iff_exists.mp hs
      have e : cellOf env n = pure c := by unfold cellOf; rw [show env.cells.lookup n = some c from hc]
      simp only [hk, if_true, e, clOf]
      rw [show env.cells.lookup n = some c from hc]
      exact ih _
    · simp only [hk, clOf]
      exact ih _
theorem closure_eq {scope : Scope} {env : Env} (h : ∀ y ∈ scope.names, y.2 = .free → (env.cells.lookup y.1).isSome = true) : closureFor scope env = pure (clOf env scope.names []) := by
  have e := clOf_run (env := env) (cs := []) h
  unfold closureFor
  simp only [e]
  rfl
theorem clOf_sub {env : Env} {x : Str} {c : Addr} : ∀ {names : List (Str × NameKind)} {cs : List (Str × Addr)}, (clOf env names cs).lookup x = some c → cs.lookup x = some c ∨ ((x, NameKind.free) ∈ names ∧ (env.cells.lookup x).getD 0 = c)
  | [], cs, h => .inl h
  | (n, k) :: r, cs, h => by
    unfold clOf at h
    rcases clOf_sub (names := r) h with z | ⟨z1, z2⟩
    · by_cases hk : (k == NameKind.free) = true
      · rw [if_pos hk] at z
        rw [List.lookup_cons] at z
        cases hx : x == n with
        | true =>
          rw [hx] at z
          have e : x = n := by simpa using hx
          subst e
          have ek : k = .free := by simpa using hk
          subst ek
          exact .inr ⟨List.mem_cons_self, Option.some.inj z⟩
        | false => rw [hx] at z; exact .inl z
      · rw [if_neg hk] at z
        exact .inl z
    · exact .inr ⟨List.mem_cons_of_mem _ z1, z2⟩
theorem clOf_keep {env : Env} {x : Str} : ∀ {names : List (Str × NameKind)} {cs : List (Str × Addr)}, cs.lookup x = some ((env.cells.lookup x).getD 0) → (clOf env names cs).lookup x = some ((env.cells.lookup x).getD 0)
  | [], cs, h => h
  | (n, k) :: r, cs, h => by
    unfold clOf
    refine clOf_keep (names := r) ?_
    by_cases hk : (k == NameKind.free) = true
    · rw [if_pos hk, List.lookup_cons]
      cases hx : x == n with
      | true =>
        have e : x = n := by simpa using hx
        subst e
        rfl
      | false => exact h
    · rw [if_neg hk]; exact h
theorem clOf_has {env : Env} {x : Str} : ∀ {names : List (Str × NameKind)} {cs : List (Str × Addr)}, (x, NameKind.free) ∈ names → (clOf env names cs).lookup x = some ((env.cells.lookup x).getD 0)
  | [], cs, h => nomatch h
  | (n, k) :: r, cs, h => by
    unfold clOf
    rcases List.mem_cons.mp h with z | z
    · cases z
      refine clOf_keep (names := r) ?_
      rw [if_pos (by rfl), List.lookup_cons]
      simp
    · exact clOf_has (names := r) z
theorem mem_of_look {x : Str} {k : NameKind} : ∀ {names : List (Str × NameKind)}, names.lookup x = some k → (x, k) ∈ names
  | [], h => nomatch h
  | (n, k') :: r, h => by
    rw [List.lookup_cons] at h
    cases hx : x == n with
    | true =>
      rw [hx] at h
      have e : x = n := by simpa using hx
      subst e
      cases h
      exact List.mem_cons_self
    | false => rw [hx] at h; exact List.mem_cons_of_mem _ (mem_of_look h)
theorem relabel_look {env : Env} {x : Str} {k' : NameKind} : ∀ {names : List (Str × NameKind)},
    (names.map fun (n, k) => if (k == NameKind.free && env.scope.kind == .function && env.kindOf n == some .cell) then (n, NameKind.cell) else (n, k)).lookup x = some k' → ∃ k, names.lookup x = some k ∧ (k' = k ∨ (k = .free ∧ k' = .cell))
  | [], h => nomatch h
  | (n, k) :: r, h => by
    rw [List.map_cons] at h
    by_cases hc : (k == NameKind.free && env.scope.kind == .function && env.kindOf n == some .cell) = true
    · simp only [hc, if_true] at h
      rw [List.lookup_cons] at h ⊢
      cases hx : x == n with
      | true =>
        rw [hx] at h
        cases h
        have ek : k = .free := by
          rw [Bool.and_eq_true, Bool.and_eq_true] at hc
          simpa using hc.1.1
        exact ⟨k, rfl, .inr ⟨ek, rfl⟩⟩
      | false => rw [hx] at h; exact relabel_look h
    · simp only [hc, Bool.false_eq_true, if_false] at h
      rw [List.lookup_cons] at h ⊢
      cases hx : x == n with
      | true => rw [hx] at h; exact ⟨k', h, .inl rfl⟩
      | false => rw [hx] at h; exact relabel_look h
theorem relabel_free {env : Env} {x : Str} : ∀ {names : List (Str × NameKind)}, names.lookup x = some .free →
    (names.map fun (n, k) => if (k == NameKind.free && env.scope.kind == .function && env.kindOf n == some .cell) then (n, NameKind.cell) else (n, k)).lookup x = some .cell ∨
    (names.map fun (n, k) => if (k == NameKind.free && env.scope.kind == .function && env.kindOf n == some .cell) then (n, NameKind.cell) else (n, k)).lookup x = some .free
  | [], h => nomatch h
  | (n, k) :: r, h => by
    rw [List.map_cons]
    rw [List.lookup_cons] at h
    by_cases hc : (k == NameKind.free && env.scope.kind == .function && env.kindOf n == some .cell) = true
    · simp only [hc, if_true, List.lookup_cons]
      cases hx : x == n with
      | true => exact .inl rfl
      | false => rw [hx] at h; exact relabel_free h
    · simp only [hc, Bool.false_eq_true, if_false, List.lookup_cons]
      cases hx : x == n with
      | true => rw [hx] at h; cases h; exact .inr rfl
      | false => rw [hx] at h; exact relabel_free h
def blk (X : Cx) (scope : Scope) (N : List Str) (s : Shared) (H : Hp) (fp : List Addr) : Cx :=
  { X with N := N, s₀ := s, H₀ := H, env := compEnvC scope (clOf X.env scope.names []) s.heap.objs.size X.env, outer := X.stack, stack := X.stack, ex := fp, fn := fun _ => false, pn := [], xe := fun _ _ => False }
structure BlkOk (esc scope : Scope) (N : List Str) (fi : List Nat) : Prop where
  kind : scope.kind = .function
  nocell : ∀ y ∈ scope.names, y.2 ≠ .cell
  loc : ∀ y ∈ scope.names, y.2 = .local → scope.names.lookup y.1 = some .local
  free : ∀ y ∈ scope.names, y.2 = .free → esc.names.lookup y.1 = some .cell ∨ esc.names.lookup y.1 = some .free
  ix : ∀ i ∈ fi, scope.names.lookup (N.getD i "") = some .free
def nB (N os : List Str) (fi : List Nat) : List Str := os ++ fi.map fun i => N.getD i ""
def sB (σ : St) (os : List Str) (fi : List Nat) : St := os.map (fun _ => none) ++ fi.map fun i => (σ[i]?).join
section
variable {X : Cx} {pins : List (Addr × Obj)} {σ : St} {H : Hp} {s : Shared} {scope esc : Scope} {os : List Str} {fi : List Nat} {fp : List Addr}
theorem blk_cells (B : BlkOk esc scope X.N fi) (he : X.env.scope = esc) (I : Inv X pins σ H s) : ∀ y ∈ scope.names, y.2 = .free → (X.env.cells.lookup y.1).isSome = true := fun y hy hf => by
  have k := B.free y hy hf
  rw [← he] at k
  obtain ⟨c, e⟩ := I.ok.has y.1 k
  rw [e]; rfl
theorem blk_cl (B : BlkOk esc scope X.N fi) (he : X.env.scope = esc) (I : Inv X pins σ H s) {x : Str} {c : Addr} (h : (clOf X.env scope.names []).lookup x = some c) : X.env.cells.lookup x = some c := by
  rcases clOf_sub h with z | ⟨z1, z2⟩
  · cases z
  · obtain ⟨d, e⟩ := Option.isSome_iff_exists.mp (blk_cells B he I _ z1 rfl)
    rw [show X.env.cells.lookup x = some d from e] at z2 ⊢
    rw [← z2]; rfl
theorem blk_ok (B : BlkOk esc scope X.N fi) (he : X.env.scope = esc) (I : Inv X pins σ H s) (hf : ∀ b ∈ fp, FpOk X pins H b) (ho : ∀ b ∈ fp, ∃ o, s.heap.get? b = some o) : (blk X scope (nB X.N os fi) s H fp).Ok where
  mod := I.ok.mod
  kind := B.kind
  glob := I.ok.glob
  blt := I.ok.blt
  above := Nat.le_refl _
  inj := fun x y c h1 h2 => I.ok.inj x y c (blk_cl B he I h1) (blk_cl B he I h2)
  has := fun x h => by
    have q : ∃ k, scope.names.lookup x = some k ∧ (k = .cell ∨ k = .free) := by
      rcases h with h | h
      · obtain ⟨k, e, z | ⟨z, _⟩⟩ := relabel_look h
        · exact ⟨k, e, .inl z.symm⟩
        · exact ⟨k, e, .inr z⟩
      · obtain ⟨k, e, z | ⟨_, z⟩⟩ := relabel_look h
        · exact ⟨k, e, .inr z.symm⟩
        · cases z
    obtain ⟨k, e, z | z⟩ := q
    · subst z; exact absurd rfl (B.nocell _ (mem_of_look e))
    · subst z; exact ⟨_, clOf_has (mem_of_look e)⟩
  cab := fun x c h _ => nomatch h
  hd := I.ok.hd
  frames := I.ok.frames
  stk := .inl rfl
  exf := fun b hb => by
    obtain ⟨o, e⟩ := ho b hb
    exact ⟨Nat.ne_of_lt (Heap.lt_size e), fun x c h => (hf b hb).2.2.2.2.1 x c (blk_cl B he I h)⟩
  bs := I.bs
  bsz := Nat.le_trans I.ok.bsz I.sz
  noex := fun b o e hb => by
    rcases (hf b hb).2.2.2.1 with z | z
    · exact I.ok.noex b o e z
    · exact absurd (Nat.lt_of_lt_of_le (Heap.lt_size e) (Nat.le_trans I.ok.bsz z)) (Nat.lt_irrefl _)
  exfs := fun b hb z => by
    rcases List.mem_cons.mp (I.stkSub b z) with e | e
    · exact (hf b hb).2.1 e
    · exact (hf b hb).2.2.1 e
  funs := I.stack
  frf := I.stkFree
theorem blk_inv {h1 : Heap} {t1 : Nat} {m1 : Str → Option Value} (B : BlkOk esc scope X.N fi) (he : X.env.scope = esc) (I : Inv X pins σ H s) (hf : ∀ b ∈ fp, FpOk X pins H b) (ho : ∀ b ∈ fp, ∃ o, s.heap.get? b = some o)
    (k : ∀ b o, s.heap.get? b = some o → h1.get? b = some o) (hn : h1.Ns s.heap.objs.size m1) : Inv (blk X scope (nB X.N os fi) s H fp) [] (sB σ os fi) H { s with heap := h1, toks := t1 } where
  ok := blk_ok B he I hf ho
  os := rfl
  bare := I.bare
  base := Un.kept k
  loc := by
    refine ⟨m1, hn, fun j x v e1 e2 e3 => ?_⟩
    have hj : os.length ≤ j := by
      by_cases hj : j < os.length
      · have z : (sB σ os fi)[j]? = some (some v) := e2
        unfold sB at z
        rw [List.getElem?_append_left (by simpa using hj), List.getElem?_map] at z
        cases q : os[j]? with
        | none => rw [q] at z; cases z
        | some _ => rw [q] at z; cases z
      · omega
    have z1 : (nB X.N os fi)[j]? = some x := e1
    have z2 : (sB σ os fi)[j]? = some (some v) := e2
    unfold nB at z1
    unfold sB at z2
    rw [List.getElem?_append_right hj, List.getElem?_map] at z1
    rw [List.getElem?_append_right (by simpa using hj), List.length_map, List.getElem?_map] at z2
    cases q : fi[j - os.length]? with
    | none => rw [q] at z1; cases z1
    | some i =>
      rw [q] at z1 z2
      have w1 : X.N.getD i "" = x := Option.some.inj z1
      have w2 : (σ[i]?).join = some v := Option.some.inj z2
      have w3 : σ[i]? = some (some v) := by
        cases p : σ[i]? with
        | none => rw [p] at w2; cases w2
        | some y => rw [p] at w2; exact congrArg some w2
      have lx : scope.names.lookup x = some .free := by rw [← w1]; exact B.ix i (List.mem_of_getElem? q)
      have li : i < X.N.length := by rw [← I.len]; exact (List.getElem?_eq_some_iff.mp w3).1
      have w4 : X.N[i]? = some x := by
        rw [List.getD_eq_getElem?_getD, List.getElem?_eq_getElem li] at w1
        rw [List.getElem?_eq_getElem li]
        exact congrArg some w1
      have kx := B.free _ (mem_of_look lx) rfl
      rw [← he] at kx
      obtain ⟨m, hm, hl⟩ := I.loc
      obtain ⟨u, r, l⟩ := hl i x v w4 w3 (by rcases kx with kx | kx; exact .inr (.inl kx); exact .inr (.inr kx))
      refine ⟨u, r, .inr ⟨relabel_free lx, ?_⟩⟩
      rcases l with ⟨a, _⟩ | ⟨_, c, e, ic⟩
      · rcases kx with kx | kx <;> rw [show X.env.kindOf x = X.env.scope.names.lookup x from rfl, kx] at a <;> cases a
      · refine ⟨c, ?_, ?_⟩
        · have := clOf_has (env := X.env) (cs := []) (mem_of_look lx)
          rw [e] at this
          exact this
        · obtain ⟨o, ho, hd⟩ := ic
          exact ⟨o, k _ o ho, hd⟩
  cell := fun x c h => by
    obtain ⟨v, o, ho, hd⟩ := I.cell x c (blk_cl B he I h)
    exact ⟨v, o, k _ o ho, hd⟩
  free := I.hok.fresh (Nat.le_refl _)
  freeC := fun x c h => I.freeC x c (blk_cl B he I h)
  pin := fun p hp => nomatch hp
  hok := I.hok.kept k
  len := by
    show (sB σ os fi).length = (nB X.N os fi).length
    unfold sB nB
    simp
theorem blk_out {N : List Str} {s' : Shared} {H' : Hp} {σ' : St} {pins' : List (Addr × Obj)} {h' : Heap} (I : Inv X pins σ H s) (hf : ∀ b ∈ fp, FpOk X pins H b) (I' : Inv (blk X scope N s H fp) pins' σ' H' s') (sb : Heap.SameBut s.heap.objs.size s'.heap h') :
    Inv X pins σ H' { s' with heap := h' } := by
  have ne : ∀ b o, s.heap.get? b = some o → b ≠ s.heap.objs.size := fun b o e => Nat.ne_of_lt (Heap.lt_size e)
  have un : Un (frs X.stack) fp H H' s.heap h' := by
    have u : Un (frs X.stack) fp H H' s.heap s'.heap := I'.base
    exact ⟨fun b o e n hb hx => (sb.2 b (ne b o e)).trans (u.keep b o e n hb hx), fun b o e n hb hx => by
        obtain ⟨sl, q⟩ := u.slot b o e n hb hx
        exact ⟨sl, (sb.2 b (ne b o e)).trans q⟩, u.free, fun b o e hx => by
        obtain ⟨o', q⟩ := u.there b o e hx
        exact ⟨o', (sb.2 b (ne b o e)).trans q⟩, u.tups, u.frzs, u.tbls⟩
  have hok : HOk X.prog X.w H' h' := fun b ob e => by
    have fr : H' s.heap.objs.size = none := I'.free
    refine (I'.hok b ob e).stay (fun c w' hc q => (sb.2 c ?_).trans q) (fun _ q => q) fun _ _ q => q
    rintro rfl
    rcases hc with rfl | hc
    · rw [fr] at e; cases e
    · rw [fr] at hc; cases hc
  obtain ⟨hh, g, d, t, os'⟩ := s'
  obtain rfl : os' = s.os := I'.os
  have J := I.call (h' := h') (g' := g) (d' := d) (t' := t) (ch := fp) un hok I'.bare fun b hb => ⟨(hf b hb).2.2.2.1, (hf b hb).2.1, (hf b hb).2.2.2.2.1, (hf b hb).2.2.2.2.2⟩
  exact J
end
end L2
namespace L2
open PySem PySem.Spec PyProof.Rows
abbrev F0 : Value → Shared → Prop := fun _ _ => False
theorem of_F0 {α : Type} {M : Model} {A : Around} {t : Sem α} {Q Q' : α → Shared → Prop} {E : Value → Shared → Prop} {s : Shared} (h : wpAny M A t Q F0 s) (hQ : ∀ a s, Q a s → Q' a s) : wpAny M A t Q' E s := wpAny_mono h hQ fun _ _ z => z.elim
def PTs (X : Cx) (ifs : List Expr) (t : TT) : Prop :=
  ∀ (pins : List (Addr × Obj)) (s : Shared) (σ : St) (H : Hp) (Q : Bool → Hp → Prop), Inv X pins σ H s → t σ H Q →
    wpAny (model X.prog X.w) X.A (forIn ifs true fun e b => if b = true then (do let y ← isTrue e X.env (eval e X.env); pure (ForInStep.yield y)) else pure (ForInStep.yield b)) (TP X pins σ Q) X.xe s
theorem pts_nil {X : Cx} : PTs X [] (fun _ H Q => Q true H) := fun _ _ _ H _ I h => wpAny_pure ⟨H, I, h⟩
theorem pts_one {X : Cx} {e : Expr} {t : TT} (h : PT X e t) : PTs X [e] t := by
  intro pins s σ H Q I q
  rw [List.forIn_cons]
  simp only [if_true]
  exact wpAny_bind (wpAny_bind (thn (h pins s σ H Q I q) fun y s1 z => wpAny_pure (wpAny_pure z)))
theorem comp_loop {P : Program} {w : World} {A : Around} {elt tg iter : Expr} {ifs : List Expr} {scope : Scope} {pos : Pos} {it acc : Value} {env : Env} {R : Result → Shared → Prop} {s : Shared} (I : Nat → Shared → Prop)
    (turn : ∀ n s, I n s → wpAny (model P w) A (pyNext it) (fun r s1 => match r with
      | none => R (.ok .next) s1
      | some v => wpAny (model P w) A (letOwnedTupleGo tg it v) (fun _ s2 => wpAny (model P w) A (assign tg env v) (fun _ s3 =>
          wpAny (model P w) A (forIn ifs true fun e b => if b = true then (do let y ← isTrue e env (eval e env); pure (ForInStep.yield y)) else pure (ForInStep.yield b)) (fun ok s4 =>
            if ok = true then wpAny (model P w) A (eval elt env) (fun x s5 => wpAny (model P w) A (call (.builtin "list.append") [acc, x]) (fun _ s6 => ∃ m, m < n ∧ I m s6) F0 s5) F0 s4
            else ∃ m, m < n ∧ I m s4) F0 s3) F0 s2) F0 s1) F0 s)
    (n : Nat) (h : I n s) : codeAny (model P w) A (.compLoop (.ListComp elt [⟨tg, iter, ifs, 0⟩] scope pos) 0 it acc env) R s := by
  refine codeAny_loop rfl I (fun n s hI => ?_) n h
  show wpAny _ A ((compTurn (.ListComp elt [⟨tg, iter, ifs, 0⟩] scope pos) 0 it acc env).onRaise (fun x => do noteFrame x env; theTreesLotGoes x)) _ _ s
  refine wpAny_noted ?_
  rw [compTurn_list]
  refine wpAny_bind (wpAny_standAt (wpAny_bind (of_F0 (turn n s hI) fun r s1 h1 => ?_)))
  cases r with
  | none => exact wpAny_pure h1
  | some v =>
    refine wpAny_bind (of_F0 h1 fun _ s2 h2 => wpAny_bind (of_F0 h2 fun _ s3 h3 => wpAny_bind (of_F0 h3 fun ok s4 h4 => ?_)))
    cases ok with
    | false => exact wpAny_pure ⟨rfl, h4⟩
    | true => exact wpAny_bind (wpAny_bind (of_F0 h4 fun x s5 h5 => wpAny_bind (of_F0 h5 fun _ s6 h6 => wpAny_pure (wpAny_pure ⟨rfl, h6⟩))))
def LCr (l : Addr) (J : It) (g : TG) (tt : TT) (te : TE) (σb : St) (H : Hp) (Q : VK) : Prop := ∃ W : Nat → Nat → St → Hp → Prop, (∃ m, W 0 m σb H) ∧ ∀ i m σ2 H2, W i m σ2 H2 →
  (J.stop i H2 ∧ Q (.ref l) H2) ∨ (J.go i H2 ∧ ∀ x H3, J.yld i H2 x H3 → g x σ2 H3 fun σ4 H4 => tt σ4 H4 fun ok H5 =>
    if ok = true then te σ4 H5 fun v H6 => ∃ xs, H6 l = some (.lst xs) ∧ xs.length < sizeLine ∧ ∃ m', m' < m ∧ W (i + 1) m' σ4 (upd H6 l (.lst (xs ++ [v]))) else ∃ m', m' < m ∧ W (i + 1) m' σ4 H5)
def tLC (os : List Str) (fi : List Nat) (wi : TI) (g : TG) (tt : TT) (te : TE) : TE := fun σ H Q => wi σ H fun J H1 => ∀ l, H1 l = none → LCr l J g tt te (sB σ os fi) (upd H1 l (.lst [])) Q
section
variable {X : Cx} {tg iter elt : Expr} {ifs : List Expr} {scope esc : Scope} {pos : Pos} {N os : List Str} {fi : List Nat} {wi : TI} {g : TG} {tt : TT} {te : TE}
theorem comp_core {pins : List (Addr × Obj)} {σ : St} {H : Hp} {s : Shared} {E : Value → Shared → Prop} {it : Addr} {fp : List Addr} {tn : Nat → Heap → Prop} {J : It} {Q : VK} {RR : Value → Addr → Result → Shared → Prop} (hc : X.calm = true) (hN : X.N = N) (he : X.env.scope = esc) (B : BlkOk esc scope N fi)
    (hg : ∀ s H fp, PG (blk X scope (nB N os fi) s H fp) tg g) (ht : ∀ s H fp, PTs (blk X scope (nB N os fi) s H fp) ifs tt) (hel : ∀ s H fp, PE (blk X scope (nB N os fi) s H fp) elt te)
    (I : Inv X pins σ H s) (T : Turn X.prog X.w X.K tg J fp it tn) (st : tn 0 s.heap) (hf : ∀ b ∈ fp, FpOk X pins H b) (q : ∀ l, H l = none → LCr l J g tt te (sB σ os fi) (upd H l (.lst [])) Q)
    (hRR : ∀ D s3 H3 s' σ' H', Inv X pins σ H3 s3 → (∀ b ∈ fp, FpOk X pins H3 b) → Inv (blk X scope (nB N os fi) s3 H3 fp) [] σ' H' s' → Q (.ref D) H' → RR (.ref D) s3.heap.objs.size (.ok .next) s') :
    wpAny (model X.prog X.w) X.A (newList []) (fun acc s3 => wpAny (model X.prog X.w) X.A (newFunctionEnv scope X.env.globals (clOf X.env scope.names []) [] X.env.qual none .none (some X.env)) (fun cenv s4 =>
      codeAny (model X.prog X.w) X.A (.compStart (.ListComp elt [⟨tg, iter, ifs, 0⟩] scope pos) 0 (.ref it) acc { cenv with scope := relabel scope X.env }) (RR acc cenv.locals) s4) E s3) E s := by
  subst hN
  have fresh : H s.heap.objs.size = none := I.hok.fresh (Nat.le_refl _)
  refine wpAny_newObj_type ?_
  have I3 : Inv X pins σ (upd H s.heap.objs.size (.lst [])) { s with heap := s.heap.push { cls := .type "list", dict := none, data := .seq ([] : List Value).toArray } } :=
    I.laid (t' := s.toks) (fun b u e => Heap.get?_push_of_some _ e) (Nat.le_refl _) ⟨Nat.zero_le _, [], 0, .nil, Heap.get?_push_size _ rfl⟩
  have old : ∀ b ∈ fp, ∃ o, s.heap.get? b = some o := fun b hb => by
    obtain ⟨o, e, _⟩ := T.obj _ _ st b hb
    exact ⟨o, e⟩
  have hf3 : ∀ b ∈ fp, FpOk X pins (upd H s.heap.objs.size (.lst [])) b := fun b hb => by
    obtain ⟨o, e⟩ := old b hb
    exact ⟨by rw [upd_ne (Nat.ne_of_lt (Heap.lt_size e))]; exact (hf b hb).1, (hf b hb).2⟩
  have st3 : tn 0 (s.heap.push { cls := .type "list", dict := none, data := .seq ([] : List Value).toArray }) := T.keep _ _ _ st fun b hb o e => Heap.get?_push_of_some _ e
  have q3 := q _ fresh
  have ho3 : ∀ b ∈ fp, ∃ o, (s.heap.push { cls := .type "list", dict := none, data := .seq ([] : List Value).toArray }).get? b = some o := fun b hb => by
    obtain ⟨o, e⟩ := old b hb
    exact ⟨o, Heap.get?_push_of_some _ e⟩
  have RR3 := hRR s.heap.objs.size { s with heap := s.heap.push { cls := .type "list", dict := none, data := .seq ([] : List Value).toArray } } (upd H s.heap.objs.size (.lst []))
  generalize s.heap.objs.size = D at *
  generalize upd H D (.lst []) = H3 at *
  generalize s.heap.push { cls := .type "list", dict := none, data := .seq ([] : List Value).toArray } = h3 at *
  refine wpAny_newFunctionEnv B.nocell (by intro y hy; simp at hy) (fun h4 hn4 sb4 => ?_) B.kind
  have k4 : ∀ b o, h3.get? b = some o → h4.get? b = some o := fun b o e => (sb4.2 b (Nat.ne_of_lt (Heap.lt_size e))).trans (Heap.get?_push_of_some _ e)
  have I4 := blk_inv (os := os) (t1 := s.toks + ([] : List (Str × Value)).length) B he I3 hf3 ho3 k4 hn4
  have st4 : tn 0 h4 := T.keep _ _ _ st3 fun b hb o e => k4 b o e
  obtain ⟨W, ⟨m0, w0⟩, turn⟩ := q3
  have fpB : ∀ {H' : Hp}, (∀ b ∈ fp, H' b = none) → ∀ b ∈ fp, FpOk (blk X scope (nB X.N os fi) { s with heap := h3 } H3 fp) [] H' b := fun hn b hb => by
    refine ⟨hn b hb, (I4.ok.exf b hb).1, I4.ok.exfs b hb, .inl hb, (I4.ok.exf b hb).2, fun p hp => nomatch hp⟩
  have loop : ∀ s4 : Shared, Inv (blk X scope (nB X.N os fi) { s with heap := h3 } H3 fp) [] (sB σ os fi) H3 s4 → tn 0 s4.heap →
      codeAny (model X.prog X.w) X.A (.compLoop (.ListComp elt [⟨tg, iter, ifs, 0⟩] scope pos) 0 (.ref it) (.ref D) (compEnvC scope (clOf X.env scope.names []) h3.objs.size X.env)) (RR (.ref D) h3.objs.size) s4 := by
    intro s4 J4 t4
    refine comp_loop (fun n s' => ∃ i σ' H', Inv (blk X scope (nB X.N os fi) { s with heap := h3 } H3 fp) [] σ' H' s' ∧ tn i s'.heap ∧ (∀ b ∈ fp, H' b = none) ∧ W i n σ' H') ?_ m0 ⟨0, _, _, J4, t4, fun b hb => (hf3 b hb).1, w0⟩
    rintro n s5 ⟨i, σ5, H5, I5, t5, fr5, w5⟩
    rcases turn i n σ5 H5 w5 with ⟨stop, qn⟩ | ⟨go, step⟩
    · refine of_F0 (T.done (blk X scope (nB X.N os fi) { s with heap := h3 } H3 fp) rfl rfl rfl hc i [] s5 σ5 H5 F0 I5 (fpB fr5) t5 stop) fun r s6 ⟨hr, I6⟩ => ?_
      subst hr
      exact RR3 s6 σ5 H5 I3 hf3 I6 qn
    · refine of_F0 (T.item (blk X scope (nB X.N os fi) { s with heap := h3 } H3 fp) rfl rfl rfl hc i [] s5 σ5 H5 F0 I5 (fpB fr5) t5 go) fun r s6 ⟨u, hr, h6⟩ => ?_
      subst hr
      refine of_F0 h6 fun _ s7 ⟨x, H7, I7, r7, y7, t7, fr7⟩ => ?_
      have I7' := I7.pinned (fpB fr7) (T.obj _ _ t7)
      refine of_F0 (hg _ _ _ _ s7 σ5 H7 x u _ I7' r7 (step x H7 y7)) fun _ s8 ⟨σ8, H8, I8, q8⟩ => ?_
      refine of_F0 (ht _ _ _ _ s8 σ8 H8 _ I8 q8) fun ok s9 ⟨H9, I9, q9⟩ => ?_
      have again : ∀ {s' : Shared} {H' : Hp} {m : Nat}, Inv (blk X scope (nB X.N os fi) { s with heap := h3 } H3 fp) ([] ++ pinsAt fp s7.heap) σ8 H' s' → W (i + 1) m σ8 H' →
          ∃ i σ' H', Inv (blk X scope (nB X.N os fi) { s with heap := h3 } H3 fp) [] σ' H' s' ∧ tn i s'.heap ∧ (∀ b ∈ fp, H' b = none) ∧ W i m σ' H' := fun {s' H' m} J w => by
        refine ⟨i + 1, σ8, H', J.unpinned, T.keep _ _ _ t7 fun b hb o e => (J.pin (b, o) (List.mem_append_right _ (List.mem_append_right _ (mem_pinsAt hb e)))).1, fun b hb => ?_, w⟩
        obtain ⟨o, e, d⟩ := T.obj _ _ t7 b hb
        exact (J.pin (b, o) (List.mem_append_right _ (List.mem_append_right _ (mem_pinsAt hb e)))).2.1
      cases ok with
      | false =>
        obtain ⟨m', lt, w9⟩ := (show ∃ m', m' < n ∧ W (i + 1) m' σ8 H9 from q9)
        exact ⟨m', lt, again I9 w9⟩
      | true =>
        refine of_F0 (hel _ _ _ _ s9 σ8 H9 _ I9 q9) fun y sA ⟨v, HA, IA, rA, xs, hx, hz, m', lt, wA⟩ => ?_
        refine of_F0 (mt_append _ sA σ8 HA (.ref D) [v] (.ref D) [y] (fun _ H' => W (i + 1) m' σ8 H') IA rfl (.cons rA .nil) ⟨D, xs, v, rfl, rfl, hx, hz, wA⟩) fun _ sB' ⟨_, HB, IB, _, wB⟩ => ?_
        exact ⟨m', lt, again IB wB⟩
  exact codeAny_compStart_list (loop _ I4 st4) (T.self _ 0 _ _ _ st4 (loop _ I4 st4))
theorem pe_comp (hc : X.calm = true) (hN : X.N = N) (he : X.env.scope = esc) (B : BlkOk esc scope N fi) (hi : PI X tg iter wi)
    (hg : ∀ s H fp, PG (blk X scope (nB N os fi) s H fp) tg g) (ht : ∀ s H fp, PTs (blk X scope (nB N os fi) s H fp) ifs tt) (hel : ∀ s H fp, PE (blk X scope (nB N os fi) s H fp) elt te)
    (hs : ∀ x, foldedSetIterable iter X.env x = pure x := by intro _; rfl) : PE X (.ListComp elt [⟨tg, iter, ifs, 0⟩] scope pos) (tLC os fi wi g tt te) := by
  intro pins s σ H Q I h
  have cells := blk_cells (by rw [hN]; exact B) he I
  rw [eval_ListComp]
  refine wpAny_comprehension_free (use := none) rfl hs (closure_eq cells) B.kind B.loc (thn (hi pins s σ H _ I h) fun v s1 h1 => thn h1 fun itv s2 h2 => ?_)
  obtain ⟨it, fp, tn, J, H2, rfl, I2, T, st2, f2, q2⟩ := h2
  refine comp_core (RR := fun acc C => compPost (model X.prog X.w) X.A X.xe none (EP X pins σ Q) acc C) hc hN he B hg ht hel I2 T st2 f2 q2 ?_
  intro D s3 H3 s' σ' H' I3 f3 I' q
  obtain ⟨m, hn, _⟩ := I'.loc
  exact ⟨m, hn, fun h' sb => ⟨.ref D, H', blk_out I3 f3 I' sb, rfl, q⟩⟩
end
end L2
namespace L2
open PySem PySem.Spec PyProof.Rows
theorem runs_gens {M : Model} {G : PySem.Ctx} {p : Pos} {t : Sem Fin} {fs : List Frame} {a b : Shared} {e : End} (h : Runs M G p t fs a e b) : a.gens.size ≤ b.gens.size := by
  induction h <;> (try simp only [Shared.setGen, Array.size_setIfInBounds, Array.size_push] at *) <;> omega
theorem wakes_gens {M : Model} {G : PySem.Ctx} {p : Pos} {g : Nat} {r : Resume} {a b : Shared} {x : GenResult} (h : Wakes M G p g r a x b) : a.gens.size ≤ b.gens.size := by
  have sz : ∀ (s : Shared) (y : GenState), (s.setGen g y).gens.size = s.gens.size := fun s y => by simp [Shared.setGen]
  unfold Wakes at h
  split at h
  · exact h.elim
  · split at h
    · obtain ⟨e, c, q, _, _, rfl⟩ := h
      have := runs_gens q
      rw [sz] at this ⊢
      exact this
    · rw [h.2]; first | exact Nat.le_refl _ | (rw [sz]; exact Nat.le_refl _)
    · rw [h.2]; first | exact Nat.le_refl _ | (rw [sz]; exact Nat.le_refl _)
  · obtain ⟨e, c, q, _, _, rfl⟩ := h
    have := runs_gens q
    rw [sz] at this ⊢
    exact this
  · rw [h.2]; first | exact Nat.le_refl _ | (rw [sz]; exact Nat.le_refl _)
  · rw [h.2]; first | exact Nat.le_refl _ | (rw [sz]; exact Nat.le_refl _)
theorem wp_gens {α : Type} (M : Model) (G : PySem.Ctx) (k : Nat) (t : Sem α) : ∀ (Q : α → Pos → Shared → Prop) (E : Value → Pos → Shared → Prop) (p : Pos) (a : Shared), k ≤ a.gens.size → Sem.wp M G t Q E p a →
    Sem.wp M G t (fun x p' b => k ≤ b.gens.size ∧ Q x p' b) (fun e p' b => k ≤ b.gens.size ∧ E e p' b) p a := by
  induction t with
  | pure _ => intro Q E p a l h; exact ⟨l, h⟩
  | raise _ => intro Q E p a l h; exact ⟨l, h⟩
  | unsupported _ => intro Q E p a _ h; exact h
  | finish _ => intro Q E p a _ h; exact h
  | rule _ _ ih => intro Q E p a l h; exact ih () Q E p a l h
  | «at» p' _ ih => intro Q E p a l h; exact ih () Q E p' a l h
  | load _ _ _ ih => intro Q E p a l h; obtain ⟨o, z, h⟩ := h; exact ⟨o, z, ih o Q E p a l h⟩
  | update _ _ _ _ ih => intro Q E p a l h; exact ⟨h.1, ih () Q E p _ l h.2⟩
  | loadIfAlive _ _ ih => intro Q E p a l h; exact ih _ Q E p a l h
  | point _ _ ih => intro Q E p a l h; exact ih () Q E p a l h
  | register _ _ => intro Q E p a _ h; exact h
  | alloc _ _ ih => intro Q E p a l h; exact ih _ Q E p _ l h
  | fresh _ ih => intro Q E p a l h; exact ih _ Q E p _ l h
  | ask _ ih => intro Q E p a l h; exact ih _ Q E p a l h
  | choose _ _ _ ih => intro Q E p a l h; exact ⟨h.1, ih _ Q E p _ l h.2⟩
  | os _ _ _ ih => intro Q E p a l h; exact ih _ Q E p _ l h
  | call _ _ _ _ _ ih => intro Q E p a l h; obtain ⟨r, b, z, h⟩ := h; exact ⟨r, b, z, ih r Q E p b (Nat.le_trans l (runs_gens z)) h⟩
  | handled _ _ ih => intro Q E p a l h; exact ih _ Q E p a l h
  | genState _ _ ih => intro Q E p a l h; obtain ⟨x, z, h⟩ := h; exact ⟨x, z, ih _ Q E p a l h⟩
  | newGen _ _ ih => intro Q E p a l h; exact ih _ Q E p _ (by simp only [Array.size_push]; omega) h
  | resume _ _ _ _ ih => intro Q E p a l h; obtain ⟨r, b, z, h⟩ := h; exact ⟨r, b, z, ih r Q E p b (Nat.le_trans l (wakes_gens z)) h⟩
  | yield _ _ _ _ => intro Q E p a _ h; exact h
  | stack _ ih => intro Q E p a l h; exact ih _ Q E p a l h
  | fork _ _ => intro Q E p a _ h; exact h
  | thread _ ih => intro Q E p a l h; exact ih _ Q E p a l h
  | await _ _ _ _ _ => intro Q E p a _ h; exact h
theorem any_gens {α : Type} {M : Model} {A : Around} {t : Sem α} {Q : α → Shared → Prop} {E : Value → Shared → Prop} {a : Shared} {k : Nat} (l : k ≤ a.gens.size) (h : wpAny M A t Q E a) :
    wpAny M A t (fun x b => k ≤ b.gens.size ∧ Q x b) (fun e b => k ≤ b.gens.size ∧ E e b) a := fun G p hG => wp_gens M G k t _ _ p a l (h G p hG)
def gA (A : Around) (e : Env) : Around := ⟨A.handled, A.depth + 1, A.frames.map (e :: ·), A.guards, A.units + 3⟩
abbrev gE (X : Cx) (scope : Scope) (code : Value) (s : Shared) : Env := genEnv scope (clOf X.env scope.names []) s.heap.objs.size code builtinsNs X.env
def gblk (X : Cx) (scope : Scope) (N : List Str) (code : Value) (s : Shared) (H : Hp) (fp : List Addr) : Cx :=
  { X with A := gA X.A.in1.in1 (gE X scope code s), N := N, s₀ := s, H₀ := H, env := gE X scope code s, outer := X.stack, stack := gE X scope code s :: X.stack, ex := fp, fn := fun _ => false, pn := [], xe := fun _ _ => False }
section
variable {X : Cx} {pins : List (Addr × Obj)} {σ : St} {H : Hp} {s : Shared} {scope esc : Scope} {os : List Str} {fi : List Nat} {fp : List Addr} {code : Value}
theorem gblk_ok (B : BlkOk esc scope X.N fi) (he : X.env.scope = esc) (I : Inv X pins σ H s) (hf : ∀ b ∈ fp, FpOk X pins H b) (ho : ∀ b ∈ fp, ∃ o, s.heap.get? b = some o) : (gblk X scope (nB X.N os fi) code s H fp).Ok where
  mod := I.ok.mod
  kind := B.kind
  glob := I.ok.glob
  blt := rfl
  above := Nat.le_refl _
  inj := fun x y c h1 h2 => I.ok.inj x y c (blk_cl B he I h1) (blk_cl B he I h2)
  has := fun x h => by
    rcases h with h | h
    · exact absurd rfl (B.nocell _ (mem_of_look h))
    · exact ⟨_, clOf_has (mem_of_look h)⟩
  cab := fun x c h _ => nomatch h
  hd := I.ok.hd
  frames := by
    show (X.A.in1.in1.frames).map (gE X scope code s :: ·) = _
    rw [show X.A.in1.in1.frames = X.A.frames from rfl, I.ok.frames]
    rfl
  stk := .inr ⟨rfl, rfl⟩
  exf := fun b hb => by
    obtain ⟨o, e⟩ := ho b hb
    exact ⟨Nat.ne_of_lt (Heap.lt_size e), fun x c h => (hf b hb).2.2.2.2.1 x c (blk_cl B he I h)⟩
  bs := I.bs
  bsz := Nat.le_trans I.ok.bsz I.sz
  noex := (blk_ok (os := os) B he I hf ho).noex
  exfs := (blk_ok (os := os) B he I hf ho).exfs
  funs := I.stack
  frf := I.stkFree
theorem gblk_inv {h1 : Heap} {t1 : Nat} {g1 : Array GenState} {m1 : Str → Option Value} (B : BlkOk esc scope X.N fi) (he : X.env.scope = esc) (I : Inv X pins σ H s) (hf : ∀ b ∈ fp, FpOk X pins H b) (ho : ∀ b ∈ fp, ∃ o, s.heap.get? b = some o)
    (k : ∀ b o, s.heap.get? b = some o → h1.get? b = some o) (hn : h1.Ns s.heap.objs.size m1) (hb : AllBare g1) : Inv (gblk X scope (nB X.N os fi) code s H fp) [] (sB σ os fi) H { s with heap := h1, toks := t1, gens := g1 } where
  ok := gblk_ok B he I hf ho
  os := rfl
  bare := hb
  base := Un.kept k
  loc := by
    obtain ⟨m, hm, hl⟩ := (blk_inv (os := os) (t1 := t1) B he I hf ho k hn).loc
    refine ⟨m1, hn, fun j x v e1 e2 e3 => ?_⟩
    have e3' : Vis (relabel scope X.env) x := by
      rcases e3 with e3 | e3 | e3
      · exact .inl (lookup_relabel_local e3)
      · exact absurd rfl (B.nocell _ (mem_of_look e3))
      · rcases relabel_free (env := X.env) e3 with z | z
        · exact .inr (.inl z)
        · exact .inr (.inr z)
    obtain ⟨u, r, l⟩ := hl j x v e1 e2 e3'
    refine ⟨u, r, ?_⟩
    have kx : scope.names.lookup x = some .free := by
      rcases e3 with e3 | e3 | e3
      · have hj : os.length ≤ j := by
          by_cases hj : j < os.length
          · have z : (sB σ os fi)[j]? = some (some v) := e2
            unfold sB at z
            rw [List.getElem?_append_left (by simpa using hj), List.getElem?_map] at z
            cases q : os[j]? with
            | none => rw [q] at z; cases z
            | some _ => rw [q] at z; cases z
          · omega
        have z1 : (nB X.N os fi)[j]? = some x := e1
        unfold nB at z1
        rw [List.getElem?_append_right hj, List.getElem?_map] at z1
        cases q : fi[j - os.length]? with
        | none => rw [q] at z1; cases z1
        | some i =>
          rw [q] at z1
          have w1 : X.N.getD i "" = x := Option.some.inj z1
          rw [← w1]
          exact B.ix i (List.mem_of_getElem? q)
      · exact absurd rfl (B.nocell _ (mem_of_look e3))
      · exact e3
    rcases l with ⟨a, _⟩ | ⟨_, c, e, ic⟩
    · have a' : (relabel scope X.env).names.lookup x = some .local := a
      rcases relabel_free (env := X.env) kx with z | z
      · have z' : (relabel scope X.env).names.lookup x = some .cell := z
        rw [z'] at a'; cases a'
      · have z' : (relabel scope X.env).names.lookup x = some .free := z
        rw [z'] at a'; cases a'
    · exact .inr ⟨.inr kx, c, e, ic⟩
  cell := (blk_inv (os := os) (t1 := t1) B he I hf ho k hn).cell
  free := I.hok.fresh (Nat.le_refl _)
  freeC := fun x c h => I.freeC x c (blk_cl B he I h)
  pin := fun p hp => nomatch hp
  hok := I.hok.kept k
  len := by
    show (sB σ os fi).length = (nB X.N os fi).length
    unfold sB nB
    simp
theorem gblk_out {N : List Str} {s' : Shared} {H' : Hp} {σ' : St} {pins' : List (Addr × Obj)} {h' : Heap} {g' : Array GenState} (I : Inv X pins σ H s) (hf : ∀ b ∈ fp, FpOk X pins H b) (I' : Inv (gblk X scope N code s H fp) pins' σ' H' s')
    (k : ∀ b o, s'.heap.get? b = some o → h'.get? b = some o) (hb : AllBare g') : Inv X pins σ H' { s' with heap := h', gens := g' } := by
  have un : Un (frs X.stack) fp H H' s.heap h' := by
    have u : Un (frs X.stack) fp H H' s.heap s'.heap := I'.base
    exact ⟨fun b o e n hb hx => k b o (u.keep b o e n hb hx), fun b o e n hb hx => by
        obtain ⟨sl, q⟩ := u.slot b o e n hb hx
        exact ⟨sl, k b _ q⟩, u.free, fun b o e hx => by
        obtain ⟨o', q⟩ := u.there b o e hx
        exact ⟨o', k b o' q⟩, u.tups, u.frzs, u.tbls⟩
  have hok : HOk X.prog X.w H' h' := I'.hok.kept k
  obtain ⟨hh, g, d, t, os'⟩ := s'
  obtain rfl : os' = s.os := I'.os
  have J := I.call (h' := h') (g' := g') (d' := d) (t' := t) (ch := fp) un hok hb fun b hb => ⟨(hf b hb).2.2.2.1, (hf b hb).2.1, (hf b hb).2.2.2.2.1, (hf b hb).2.2.2.2.2⟩
  exact J
end
end L2
namespace L2
open PySem PySem.Spec PyProof.Rows
theorem bare_set {a : Array GenState} {g : Nat} {y : GenState} (h : AllBare a) (hy : y.bare = true) : AllBare (a.setIfInBounds g y) := fun z hz => by
  obtain ⟨i, hi, rfl⟩ := Array.mem_iff_getElem.mp hz
  have hi' : i < a.size := by simpa using hi
  rw [Array.getElem_setIfInBounds hi']
  split
  · exact hy
  · exact h _ (Array.getElem_mem _)
theorem setGen_size {s : Shared} {g : Nat} {y : GenState} : (s.setGen g y).gens.size = s.gens.size := by simp [Shared.setGen]
theorem setGen_get {s : Shared} {g : Nat} {y : GenState} (h : g < s.gens.size) : (s.setGen g y).gens[g]? = some y := by simp [Shared.setGen, h]
theorem setGen_two {s : Shared} {g : Nat} {x y : GenState} : (s.setGen g x).setGen g y = s.setGen g y := by
  simp [Shared.setGen]
theorem Inv.gens {X : Cx} {pins : List (Addr × Obj)} {σ : St} {H : Hp} {s : Shared} {g : Array GenState} (I : Inv X pins σ H s) (h : AllBare g) : Inv X pins σ H { s with gens := g } :=
  ⟨I.ok, I.os, h, I.base, I.loc, I.cell, I.free, I.freeC, I.pin, I.hok, I.len⟩
theorem Inv.setGen {X : Cx} {pins : List (Addr × Obj)} {σ : St} {H : Hp} {s : Shared} {g : Nat} {y : GenState} (I : Inv X pins σ H s) (h : y.bare = true) : Inv X pins σ H (s.setGen g y) := I.gens (bare_set I.bare h)
def GLr (J : It) (g : TG) (te : TE) (σb : St) (H : Hp) (Q : VK) : Prop := ∃ W : Nat → Nat → St → Hp → Prop, (∃ m, W 0 m σb H) ∧ ∀ i m σ2 H2, W i m σ2 H2 →
  (J.stop i H2 ∧ Q (.bl true) H2) ∨ (J.go i H2 ∧ ∀ x H3, J.yld i H2 x H3 → g x σ2 H3 fun σ4 H4 => te σ4 H4 fun v H5 => ∃ b, v = .bl b ∧ if b = true then ∃ m', m' < m ∧ W (i + 1) m' σ4 H5 else Q (.bl false) H5)
def gR (Y : Cx) (ps : List (Addr × Obj)) (Q : VK) : Nat → Shared → Shared → Prop := fun _ _ s => ∃ σ H, Inv Y ps σ H s ∧ Q (.bl true) H
def gY (Y : Cx) (ps : List (Addr × Obj)) (g : Nat) (Q : VK) : Protocol := fun _ _ v s kap => ∃ b, v = .bool b ∧ g < s.gens.size ∧ ∃ σ H, Inv Y ps σ H s ∧ if b = true then kap (.send .none) (s.setGen g .running) else Q (.bl false) H
section
variable {X Y : Cx} {tg iter elt : Expr} {scope : Scope} {pos : Pos} {g : TG} {te : TE} {it : Addr} {fp : List Addr} {tn : Nat → Heap → Prop} {J : It} {Q : VK} {gn : Nat} {ps : List (Addr × Obj)} {W : Nat → Nat → St → Hp → Prop}
theorem seg_gen (hY : Y.A = gA X.A.in1.in1 Y.env) (hx : Y.xe = F0) (hc : Y.calm = true) (hco : Y.env.scope.isCoroutine = false) (hg : PG Y tg g) (hel : PE Y elt te) (T : Turn Y.prog Y.w Y.K tg J fp it tn)
    (stat : ∀ {H : Hp}, (∀ b ∈ fp, H b = none) → ∀ b ∈ fp, FpOk Y ps H b)
    (turn : ∀ i m σ2 H2, W i m σ2 H2 → (J.stop i H2 ∧ Q (.bl true) H2) ∨ (J.go i H2 ∧ ∀ x H3, J.yld i H2 x H3 → g x σ2 H3 fun σ4 H4 => te σ4 H4 fun v H5 => ∃ b, v = .bl b ∧ if b = true then ∃ m', m' < m ∧ W (i + 1) m' σ4 H5 else Q (.bl false) H5)) :
    ∀ (n m i : Nat) (σ : St) (H : Hp) (s₀ s : Shared), m < n → gn < s.gens.size → Inv Y ps σ H s → tn i s.heap → (∀ b ∈ fp, H b = none) → W i m σ H →
      Seg (model Y.prog Y.w) X.A.in1.in1 (fun n s₀ r s₁ => r = .ok .next ∧ gR Y ps Q n s₀ s₁) (gY Y ps gn Q) n s₀ (.compLoop (.GeneratorExp elt [⟨tg, iter, [], 0⟩] scope pos) 0 (.ref it) .none Y.env)
        ((model Y.prog Y.w).den (.compLoop (.GeneratorExp elt [⟨tg, iter, [], 0⟩] scope pos) 0 (.ref it) .none Y.env)) [] s := by
  have up : ∀ {α : Type} {t : Sem α} {P P' : α → Shared → Prop} {E : Value → Shared → Prop} {s : Shared} {k : Nat}, k < s.gens.size → wpAny (model Y.prog Y.w) Y.A t P Y.xe s → (∀ a s', k < s'.gens.size → P a s' → P' a s') →
      wpAny (model Y.prog Y.w) (X.A.in1.in1.over (.compLoop (.GeneratorExp elt [⟨tg, iter, [], 0⟩] scope pos) 0 (.ref it) .none Y.env) []) t P' E s := fun {α t P P' E s k} l h f => by
    rw [hY, hx] at h
    exact wpAny_mono (any_gens (k := k + 1) l h) (fun a s' z => f a s' z.1 z.2) fun _ _ z => z.2.elim
  intro n
  induction n with
  | zero => intro m i σ H s₀ s lt; omega
  | succ n ih =>
    intro m i σ H s₀ s lt lg I t0 fr w
    show Seg _ _ _ _ _ s₀ _ ((compTurn (.GeneratorExp elt [⟨tg, iter, [], 0⟩] scope pos) 0 (.ref it) .none Y.env).onRaise (leaving Y.env)) [] s
    rw [compTurn_gen, Sem.onRaise_eq_wrap]
    refine seg_bind_wrap (wpAny_standAt ?_)
    rcases turn i m σ H w with ⟨stop, q⟩ | ⟨go, step⟩
    · refine seg_bind_wrap (up lg (T.done Y rfl rfl rfl hc i ps s σ H Y.xe I (stat fr) t0 stop) fun r s1 _ ⟨hr, I1⟩ => ?_)
      subst hr
      exact seg_end (.ok .next) ⟨rfl, σ, H, I1, q⟩
    · refine seg_bind_wrap (up lg (T.item Y rfl rfl rfl hc i ps s σ H Y.xe I (stat fr) t0 go) fun r s1 l1 ⟨u, hr, h1⟩ => ?_)
      subst hr
      refine seg_bind_wrap (up l1 h1 fun _ s2 l2 ⟨x, H2, I2, r2, y2, t2, fr2⟩ => ?_)
      have I2' := I2.pinned (stat fr2) (T.obj _ _ t2)
      refine seg_bind_wrap (up l2 (hg _ s2 σ H2 x u _ I2' r2 (step x H2 y2)) fun _ s3 l3 ⟨σ3, H3, I3, q3⟩ => ?_)
      refine seg_bind_wrap (wpAny_pure ?_)
      simp only [if_true]
      have hy : ∀ v, yieldOut Y.env v = yieldValue v := fun v => by simp only [yieldOut, hco, Bool.false_eq_true, if_false]
      simp only [hy]
      rw [Sem.bind_eq_wrap', Sem.bind_eq_wrap', Sem.wrap_wrap, Sem.wrap_wrap]
      refine seg_wrap (up l3 (hel _ s3 σ3 H3 _ I3 q3) fun y s4 l4 ⟨v, H4, I4, r4, b, hv, q4⟩ => ?_)
      subst hv
      obtain rfl : y = Value.bool b := r4
      refine seg_at (seg_yield rfl rfl rfl ⟨b, rfl, l4, σ3, H4, I4.unpinned, ?_⟩)
      cases b with
      | false => exact q4
      | true =>
        obtain ⟨m', lt', w'⟩ := (show ∃ m', m' < m ∧ W (i + 1) m' σ3 H4 from q4)
        have t4 : tn (i + 1) s4.heap := T.keep _ _ _ t2 fun b hb o e => (I4.pin (b, o) (List.mem_append_right _ (List.mem_append_right _ (mem_pinsAt hb e)))).1
        have fr4 : ∀ b ∈ fp, H4 b = none := fun b hb => by
          obtain ⟨o, e, d⟩ := T.obj _ _ t2 b hb
          exact (I4.pin (b, o) (List.mem_append_right _ (List.mem_append_right _ (mem_pinsAt hb e)))).2.1
        exact seg_again rfl (ih m' (i + 1) σ3 H4 _ _ (by omega) (by rw [setGen_size]; exact l4) (I4.unpinned.setGen rfl) t4 fr4 w')
theorem seg_gen0 (hY : Y.A = gA X.A.in1.in1 Y.env) (hx : Y.xe = F0) (T : Turn Y.prog Y.w Y.K tg J fp it tn) {n : Nat} {s₀ s : Shared} {R : GenEnd} {P : Protocol} (t0 : tn 0 s.heap)
    (h : Seg (model Y.prog Y.w) X.A.in1.in1 R P n s₀ (.compLoop (.GeneratorExp elt [⟨tg, iter, [], 0⟩] scope pos) 0 (.ref it) .none Y.env)
        ((model Y.prog Y.w).den (.compLoop (.GeneratorExp elt [⟨tg, iter, [], 0⟩] scope pos) 0 (.ref it) .none Y.env)) [] s) :
    Seg (model Y.prog Y.w) X.A.in1.in1 R P n s₀ (.compStart (.GeneratorExp elt [⟨tg, iter, [], 0⟩] scope pos) 0 (.ref it) .none Y.env)
        ((model Y.prog Y.w).den (.compStart (.GeneratorExp elt [⟨tg, iter, [], 0⟩] scope pos) 0 (.ref it) .none Y.env)) [] s := by
  show Seg _ _ _ _ _ s₀ _ ((compStart (.GeneratorExp elt [⟨tg, iter, [], 0⟩] scope pos) 0 (.ref it) .none Y.env).onRaise (leaving Y.env)) [] s
  unfold compStart
  rw [Sem.onRaise_eq_wrap]
  show Seg _ _ _ _ _ s₀ _ ((ask >>= _).wrap _ _ _ _) [] s
  refine seg_bind_wrap (wpAny_askSetting ?_)
  split
  · exact seg_again rfl h
  · refine seg_bind_wrap (wpAny_rule ?_)
    show Seg _ _ _ _ _ s₀ _ ((standAt iter.pos >>= _).wrap _ _ _ _) [] s
    exact seg_bind_wrap (wpAny_standAt (seg_bind_wrap (T.self _ 0 s _ _ t0 (seg_again rfl h))))
theorem all_gen {pins : List (Addr × Obj)} {σ : St} {a : Addr} {oa : Obj} {E : Value → Shared → Prop} {RR : Result → Shared → Prop} (hh : X.A.handled = none) (hroom : X.A.depth < recursionLimit) (hpa : (a, oa) ∈ ps) (hga : ∀ h : Heap, h.get? a = some oa → h.IsGen a gn)
    (ht : ∀ (s : Shared) (h' : Heap) (y : GenState) (σ' : St) (H' : Hp), Inv Y ps σ' H' s → (∀ b o, s.heap.get? b = some o → h'.get? b = some o) → y.bare = true → Q (.bl true) H' → RR (.ok (.ret (.bool true))) { s.setGen gn y with heap := h' })
    (hf : ∀ (s : Shared) (y : GenState) (σ' : St) (H' : Hp), Inv Y ps σ' H' s → y.bare = true → Q (.bl false) H' → RR (.ok (.ret (.bool false))) (s.setGen gn y)) :
    ∀ (n : Nat) (gs : GenState) (s : Shared), s.heap.IsGen a gn → s.heap.NoLimit → s.gens[gn]? = some gs →
      gs.Goes (model Y.prog Y.w) X.A.in1.in1 (fun n s₀ r s₁ => r = .ok .next ∧ gR Y ps Q n s₀ s₁) (gY Y ps gn Q) n (.send .none) (s.setGen gn .running) →
      codeAny (model Y.prog Y.w) X.A (.builtin "all.loop" ⟨[.ref a], []⟩) RR s := by
  intro n
  induction n with
  | zero =>
    intro gs s hg hl hgs go
    refine codeAny_builtin F.entry_all_loop ?_
    rw [Around.under_plainId F.plain_all_loop _]
    show wpAny _ X.A.in1 (pyNext (.ref a) >>= _) _ _ s
    refine wpAny_bind (wpAny_pyNext_genexpQ (P := gR Y ps Q) hh hl hroom hg hgs go (fun v s1 gs' hb hv => ?_) (fun s1 hp h' hk => ?_))
    · obtain ⟨b, rfl, lt, σ', H', I', q⟩ := hv
      refine wpAny_bind (wpAny_holding (wpAny_truthy_bool ?_))
      refine wpAny_bind (wpAny_letGo ?_)
      cases b with
      | true => exact False.elim q
      | false =>
        simp only [Bool.false_eq_true, if_false]
        exact wpAny_bind (wpAny_rule (wpAny_pure (hf s1 gs' σ' H' I' hb q)))
    · obtain ⟨σ', H', I', q⟩ := hp
      exact wpAny_bind (wpAny_rule (wpAny_pure (ht s1 h' .finished σ' H' I' hk rfl q)))
  | succ n ih =>
    intro gs s hg hl hgs go
    refine codeAny_builtin F.entry_all_loop ?_
    rw [Around.under_plainId F.plain_all_loop _]
    show wpAny _ X.A.in1 (pyNext (.ref a) >>= _) _ _ s
    refine wpAny_bind (wpAny_pyNext_genexpQ (P := gR Y ps Q) hh hl hroom hg hgs go (fun v s1 gs' hb hv => ?_) (fun s1 hp h' hk => ?_))
    · obtain ⟨b, rfl, lt, σ', H', I', q⟩ := hv
      refine wpAny_bind (wpAny_holding (wpAny_truthy_bool ?_))
      refine wpAny_bind (wpAny_letGo ?_)
      cases b with
      | true =>
        simp only [if_true]
        refine wpAny_pure ⟨plainId_quiet F.plain_all_loop _, ih gs' _ (hga _ (I'.pin _ (List.mem_append_right _ hpa)).1) I'.nolimit (setGen_get lt) ?_⟩
        rw [setGen_two]
        exact q
      | false =>
        simp only [Bool.false_eq_true, if_false]
        exact wpAny_bind (wpAny_rule (wpAny_pure (hf s1 gs' σ' H' I' hb q)))
    · obtain ⟨σ', H', I', q⟩ := hp
      exact wpAny_bind (wpAny_rule (wpAny_pure (ht s1 h' .finished σ' H' I' hk rfl q)))
end
end L2
namespace L2
open PySem PySem.Spec PyProof.Rows
structure CodeK (K : PySem.W.Frag) (c P : Addr) : Prop where
  ex : ∃ (o : Obj) (vs : Array Value) (file : Str) (tf : Tok) (flags : Int) (tk : Tok) (inF : Bool) (text : Int) (tt : Tok), K.lookup c = some o ∧ o.cls = .type "code" ∧ o.data = .fields vs ∧ vs[11]? = some (.ref P) ∧ vs.getD 18 .none = .str file tf ∧
    vs.getD 7 .none = .int flags tk ∧ vs.getD 9 .none = .bool inF ∧ vs.getD 10 .none = .int text tt
  ne : c ≠ P
structure BmK (X : Cx) : Prop where
  ex : ∃ (bm : Addr) (ob : Obj), X.mg "__builtins__" = some (.ref bm) ∧ bm ≠ builtinsNs ∧ X.base.get? bm = some ob ∧ ob.cls = .type "module" ∧ ob.dict = some builtinsNs ∧ ob.data = .plain
theorem upd_self {H : Hp} {p : Addr} {o : HO} (h : H p = some o) : upd H p o = H := by
  funext b
  by_cases e : b = p
  · subst e; rw [upd_same, h]
  · rw [upd_ne e]
section
variable {X : Cx} {pins : List (Addr × Obj)} {σ : St} {H : Hp} {s : Shared} {c P : Addr}
theorem tab_step {E : Value → Shared → Prop} {pos : Pos} {qn : Str} {scope : Scope} {ps : Array Value} (I : Inv X pins σ H s) (hc : X.env.code = .ref c) (C : CodeK X.K c P) (hP : H P = some (.tbl ps)) (tr : TriplesOk ps.toList) :
    wpAny (model X.prog X.w) X.A (genexprCode X.env pos qn scope) (fun code s' => ∃ ps', TriplesOk ps'.toList ∧ Inv X pins σ (upd H P (.tbl ps')) s' ∧ (∀ b o, b ≠ P → s.heap.get? b = some o → s'.heap.get? b = some o)) E s := by
  obtain ⟨o, vs, file, tf, flags, tk, inF, text, tt, lk, cl, d, h11, h18, h7, h9, h10⟩ := C.ex
  have ho := I.kIn c o lk
  have hp : s.heap.get? P = some { cls := .none, data := .fields ps } := I.hok P _ hP
  have g11 : vs.getD 11 .none = .ref P := by
    rw [Array.getD_eq_getD_getElem?, h11]; rfl
  have hok : s.heap.IsCode c P ps := ⟨o, vs, file, tf, flags, tk, inF, text, tt, _, ho, d, g11, h18, h7, h9, h10, hp, rfl, tr, C.ne⟩
  have htab : s.heap.TableAt c P ps := ⟨⟨o, vs, ho, cl, d, h11⟩, hp⟩
  cases hnf : codeAmong pos ps.toList with
  | some c' => exact wpAny_genexprCode_hit hc hok hnf ⟨ps, tr, by rw [upd_self hP]; exact I, fun b o _ e => e⟩
  | none =>
    refine wpAny_genexprCodeX hc hok htab hnf fun c' h' tk ext _ _ _ _ tab _ => ?_
    have tr' : TriplesOk (ps ++ #[rawInt pos.line, rawInt pos.col, .ref c']).toList := by
      rw [Array.toList_append]
      exact TriplesOk_snoc _ _ _ _ tr
    refine ⟨_, tr', ?_, fun b o hb e => ext b o hb e⟩
    have ne : ∀ b, H b = none → b ≠ P := fun b n z => by rw [z, hP] at n; cases n
    have neT : ∀ b u, H b = some u → (∀ q, u ≠ .tbl q) → b ≠ P := fun b u e n z => by rw [z, hP] at e; cases e; exact n _ rfl
    refine I.un (t' := tk) ⟨fun b o e n _ _ => ext b o (ne b n) e, fun b o e n _ _ => ⟨o.slots, ext b o (ne b n) e⟩, fun b o e n _ => by rw [upd_ne (ne b n)]; exact n, fun b o e _ => ?_, fun b xs e => by rw [upd_ne (neT b _ e fun _ z => nomatch z)]; exact e,
      fun b o u e => by rw [upd_ne (neT b _ e fun _ z => nomatch z)]; exact e, fun b qs e => ?_⟩ fun b u e => ?_
    · by_cases hb : b = P
      · subst hb; exact ⟨_, tab.2⟩
      · exact ⟨o, ext b o hb e⟩
    · by_cases hb : b = P
      · subst hb
        rw [hP] at e; cases e
        exact ⟨_, upd_same⟩
      · exact ⟨#[], by rw [upd_ne hb, e]; simp⟩
    · by_cases hb : b = P
      · subst hb
        rw [upd_same] at e; cases e
        exact tab.2
      · rw [upd_ne hb] at e
        refine (I.hok b u e).stay (fun d v hd q => ext d v ?_ q) (fun d q => by rw [upd_ne (neT d _ q fun _ z => nomatch z)]; exact q) fun d xs q => by rw [upd_ne (neT d _ q fun _ z => nomatch z)]; exact q
        rcases hd with z | z
        · rw [z]; exact hb
        · exact neT d _ z fun _ y => nomatch y
end
def tAll (P : Addr) (os : List Str) (fi : List Nat) (wi : TI) (g : TG) (te : TE) : TE := fun σ H Q => wi σ H fun J H1 => ∃ ps, H1 P = some (.tbl ps) ∧ TriplesOk ps.toList ∧ ∀ ps', TriplesOk ps'.toList → GLr J g te (sB σ os fi) (upd H1 P (.tbl ps')) Q
theorem Room.gen {k : Nat} {A : Around} {e : Env} (r : Room (k + 1) A) : Room k (gA A.in1.in1 e) :=
  ⟨r.hd, by have := r.dp; show A.depth + 1 + 3 * k + 5 < _; omega, by have := r.un; show A.units + 1 + 1 + 3 + 16 * k + 200 < _; omega⟩
section
variable {X : Cx} {tg iter elt : Expr} {scope esc : Scope} {pos gpos p : Pos} {N os : List Str} {fi : List Nat} {wi : TI} {g : TG} {te : TE} {c P : Addr} {k : Nat}
theorem pe_all (hc : X.calm = true) (hr : Room k X.A) (hgl : Gl X "all") (hm : X.mg "all" = none) (hcd : X.env.code = .ref c) (CK : CodeK X.K c P) (BM : BmK X) (hN : X.N = N) (he : X.env.scope = esc) (B : BlkOk esc scope N fi) (hco : scope.isCoroutine = false) (h0 : scope.names.lookup (".0" : Str) = some NameKind.local) (hi : PI X tg iter wi)
    (hg : ∀ code s H fp, PG (gblk X scope (nB N os fi) code s H fp) tg g) (hel : ∀ code s H fp, PE (gblk X scope (nB N os fi) code s H fp) elt te)
    (hs : ∀ x, genFold iter X.env x = pure x := by intro _; rfl) : PE X (.Call (.Name "all" p) [.GeneratorExp elt [⟨tg, iter, [], 0⟩] scope gpos] [] pos) (tAll P os fi wi g te) := by
  intro pins s σ H Q I h
  subst hN
  have cells := blk_cells B he I
  have hroom : X.A.depth < recursionLimit := by have := hr.dp; omega
  refine wpAny_Call_Name_kw (ld_blt I hgl hm boot_all ?_)
  refine PyProof.Rows.callWith_builtin1 ?_ rfl rfl
  show wpAny _ _ (spliced ((false, eval (.GeneratorExp elt [⟨tg, iter, [], 0⟩] scope gpos) X.env) :: backTo pos (starEach [] X.env))) _ _ s
  refine Calls.spliced_cons (wpAny_GeneratorExp_make hco (closure_eq cells) B.nocell h0 B.kind hroom (thn (hi pins s σ H _ I h) fun v s1 h1 => thn h1 fun itv s2 h2 => ?_) hs)
  obtain ⟨it, fp, tn, J, H2, rfl, I2, T, st2, f2, qs, hP, tr, q2⟩ := h2
  refine ⟨I2.nolimit, thn (tab_step I2 hcd CK hP tr) fun code s3 ⟨qs', tr', I3, k3⟩ => ?_⟩
  obtain ⟨bm, ob, b1, b2, b3, b4, b5, b6⟩ := BM.ex
  refine wpAny_builtinsFor (by rw [I3.ok.glob]; exact I3.mod.glob.keeps I3.bk) b1 b2 (I3.bk _ _ b3) b4 b5 b6 ?_
  intro h4 hn4 sb4
  refine Calls.spliced_nil ?_
  have q3 := q2 qs' tr'
  have fpP : ∀ b ∈ fp, b ≠ P := fun b hb z => by
    have := (f2 b hb).1
    rw [z, hP] at this; cases this
  have f3 : ∀ b ∈ fp, FpOk X pins (upd H2 P (.tbl qs')) b := fun b hb => ⟨by rw [upd_ne (fpP b hb)]; exact (f2 b hb).1, (f2 b hb).2⟩
  have st3 : tn 0 s3.heap := T.keep _ _ _ st2 fun b hb o e => k3 b o (fpP b hb) e
  generalize upd H2 P (.tbl qs') = H3 at *
  have k4 : ∀ b o, s3.heap.get? b = some o → h4.get? b = some o := fun b o e => (sb4.2 b (Nat.ne_of_lt (Heap.lt_size e))).trans (Heap.get?_push_of_some _ e)
  have ho3 : ∀ b ∈ fp, ∃ o, s3.heap.get? b = some o := fun b hb => by
    obtain ⟨o, e, _⟩ := T.obj _ _ st3 b hb
    exact ⟨o, e⟩
  have sz4 : s3.heap.objs.size < h4.objs.size := hn4.lt
  obtain ⟨oa, hoa⟩ : ∃ oa : Obj, oa = { cls := .type "generator", data := .fields #[.int s3.gens.size 0, .str "<genexpr>" (s3.toks + 1), .str (X.env.qual ++ "<genexpr>") (s3.toks + 1 + 1)] } := ⟨_, rfl⟩
  rw [← hoa]
  have ga : (h4.push oa).get? h4.objs.size = some oa := Heap.get?_push_size _ (by rw [hoa]; rfl)
  have isg : ∀ h : Heap, h.get? h4.objs.size = some oa → h.IsGen h4.objs.size s3.gens.size := fun h e => ⟨oa, _, _, e, by rw [hoa], by rw [hoa], by rw [hoa]⟩
  have hn5 : (h4.push oa).Ns s3.heap.objs.size (fun y => if y = ".0" then some (Value.ref it) else none) := hn4.keeps fun b o e => Heap.get?_push_of_some _ e
  have k5 : ∀ b o, s3.heap.get? b = some o → (h4.push oa).get? b = some o := fun b o e => Heap.get?_push_of_some _ (k4 b o e)
  have cde : ∃ gc : GenState, gc = .fresh (.compStart (.GeneratorExp elt [⟨tg, iter, [], 0⟩] scope gpos) 0 (.ref it) .none (gE X scope code s3)) := ⟨_, rfl⟩
  obtain ⟨gc, hgc⟩ := cde
  show wpAny _ _ (call (.builtin "all") [.ref h4.objs.size]) _ _ { s3 with gens := s3.gens.push (.fresh (.compStart (.GeneratorExp elt [⟨tg, iter, [], 0⟩] scope gpos) 0 (.ref it) .none (gE X scope code s3))), toks := s3.toks + 1 + 1 + 1, heap := h4.push oa }
  rw [← hgc]
  have bare5 : AllBare (s3.gens.push gc) := I3.bare.push (by rw [hgc]; rfl)
  obtain ⟨W, ⟨m0, w0⟩, turn⟩ := q3
  refine call_function_tree F.kind_all F.plain_all F.entry_all (F.args_all1 _) ?_
  unfold Builtin.«all»
  refine wpAny_bind (m := oneArg "all" _) (wpAny_pure ?_)
  refine wpAny_bind (wpAny_pyIter_gen (isg _ ga) ?_)
  refine wpAny_pure ⟨plainId_quiet F.plain_all_loop _, ?_⟩
  have IY : Inv (gblk X scope (nB X.N os fi) code s3 H3 fp) [(h4.objs.size, oa)] (sB σ os fi) H3 (({ s3 with gens := s3.gens.push gc, toks := s3.toks + 1 + 1 + 1, heap := h4.push oa } : Shared).setGen s3.gens.size .running) := by
    have J0 := gblk_inv (os := os) (code := code) (t1 := s3.toks + 1 + 1 + 1) B he I3 f3 ho3 k5 hn5 bare5
    refine (J0.pins_of fun p hp => ?_).setGen rfl
    obtain rfl := List.mem_singleton.mp hp
    refine ⟨ga, I3.hok.fresh (Nat.le_of_lt sz4), Nat.ne_of_gt sz4, fun z => ?_, fun v => by rw [hoa]; exact fun z => nomatch z⟩
    have z' : h4.objs.size ∈ frs X.stack := z
    rcases List.mem_cons.mp (I3.stkSub _ z') with e | e
    · exact absurd (Nat.lt_trans I3.lt sz4) (by rw [e]; exact Nat.lt_irrefl _)
    · exact I3.nofs (Nat.le_of_lt sz4) e
  have stat : ∀ {H' : Hp}, (∀ b ∈ fp, H' b = none) → ∀ b ∈ fp, FpOk (gblk X scope (nB X.N os fi) code s3 H3 fp) [(h4.objs.size, oa)] H' b := fun hn b hb => by
    refine ⟨hn b hb, (IY.ok.exf b hb).1, IY.ok.exfs b hb, .inl hb, (IY.ok.exf b hb).2, fun p hp => ?_⟩
    obtain rfl := List.mem_singleton.mp hp
    obtain ⟨o, e⟩ := ho3 b hb
    exact Nat.ne_of_gt (Nat.lt_trans (Heap.lt_size e) sz4)
  have lg : s3.gens.size < (s3.gens.push gc).size := by rw [Array.size_push]; omega
  refine all_gen (X := X) (Y := gblk X scope (nB X.N os fi) code s3 H3 fp) (Q := Q) (ps := [(h4.objs.size, oa)]) (pins := pins) (σ := σ) (E := X.xe) hr.hd hroom (List.mem_singleton.mpr rfl) isg
    (fun s' h' y σ' H' I' kk hb q => by
      have J := gblk_out (h' := h') I3 f3 I' kk (bare_set (g := s3.gens.size) I'.bare hb)
      exact ⟨.bl true, H', J, rfl, q⟩) (fun s' y σ' H' I' hb q => by
      have J := gblk_out (h' := s'.heap) I3 f3 I' (fun _ _ e => e) (bare_set (g := s3.gens.size) I'.bare hb)
      exact ⟨.bl false, H', J, rfl, q⟩)
    (m0 + 1) gc _ (isg _ ga) (I3.nolimit.keeps k5) (by simp) ?_
  subst hgc
  refine ⟨rfl, seg_gen0 (X := X) (Y := gblk X scope (nB X.N os fi) code s3 H3 fp) rfl rfl T (T.keep _ _ _ st3 fun b hb o e => k5 b o e) ?_⟩
  exact seg_gen (X := X) (Y := gblk X scope (nB X.N os fi) code s3 H3 fp) rfl rfl hc hco (hg _ _ _ _) (hel _ _ _ _) T stat turn (m0 + 1) m0 0 _ H3 _ _ (Nat.lt_succ_self _) (by rw [setGen_size]; exact lg) IY (T.keep _ _ _ st3 fun b hb o e => k5 b o e) (fun b hb => (f3 b hb).1) w0
end
end L2
namespace L2
open PySem PySem.Spec PyProof.Rows
def BmOf (mg : Str → Option Value) (h : Heap) : Prop := ∃ (bm : Addr) (ob : Obj), mg "__builtins__" = some (.ref bm) ∧ bm ≠ builtinsNs ∧ h.get? bm = some ob ∧ ob.cls = .type "module" ∧ ob.dict = some builtinsNs ∧ ob.data = .plain
structure OnlyT (Ts : List (Addr × Addr)) (H : Hp) : Prop where
  all : ∀ b, H b = none ∨ (∃ o xs, H b = some (.frz o (.lst xs))) ∨ (H b = some (.tbl #[]) ∧ ∃ t ∈ Ts, t.2 = b)
  tab : ∀ t ∈ Ts, H t.2 = some (.tbl #[])
theorem law_callT {P : Program} {w : World} {K : PySem.W.Frag} {mg mb : Str → Option Value} {CX : CXT} {k : Nat} {fa a : Addr} {fd : FuncData} {x : Str} {sp : Sp} {s : Shared} {vs : List Value} {ns : List Int} {Ts : List (Addr × Addr)}
    (KX : K.In s.heap) (hns : s.heap.Ns mainGlobals mg) (hb : s.heap.Ns builtinsNs mb) (hbb : ∀ x : Str, x ≠ "__name__" → mb x = bootBuiltins x) (hlim : s.heap.NoLimit) (hg : s.gens = #[]) (hT : ∀ t ∈ Ts, s.heap.TableAt t.1 t.2 #[]) (hKT : ∀ t ∈ Ts, K.lookup t.2 = none) (hbm : BmOf mg s.heap)
    (ha : s.heap.get? a = some { cls := .type "list", data := .seq vs.toArray }) (hi : IntsAre vs ns) (hl : ns.length ≤ sizeLine) (hr : Room k callerA)
    (F : ∀ base : Heap, K.In base → base.Ns mainGlobals mg → BmOf mg base → FnOk P w K mg base CX k fa fd [x] sp) (hbind : ∀ (s : Shared) (u : Value), BindsTo s fd ⟨[u], []⟩ [(x, u)])
    (hsp : ∀ H : Hp, OnlyT Ts H → SqL K H a (ns.map V.int) → sp [.ref a] H (fun v _ => v = .bl true) fun _ _ _ => False)
    (hCX : ∀ H e s', CX [] H s (fun _ _ _ => False) e s' → False) :
    codeAny (model P w) callerA (.call (.ref fa) ⟨[.ref a], []⟩) (fun r s' => r = .ok (.ret (.bool true)) ∧ OldK s.heap s'.heap ∧ s'.os = s.os ∧ AllBare s'.gens) s := by
  have rv := vals_ints hi
  have lenV := hi.length
  have aP : ∀ t ∈ Ts, t.2 ≠ a := fun t ht z => by
    have e := (hT t ht).2
    rw [z, ha] at e
    cases e
  have run : ∀ H : Hp, OnlyT Ts H → SqL K H a (ns.map V.int) → HOk P w H s.heap → (∀ b, H b ≠ none → b = a ∨ ∃ t ∈ Ts, t.2 = b) → (H a ≠ none → K.lookup a = none) →
      codeAny (model P w) callerA (.call (.ref fa) ⟨[.ref a], []⟩) (fun r s' => r = .ok (.ret (.bool true)) ∧ OldK s.heap s'.heap ∧ s'.os = s.os ∧ AllBare s'.gens) s := by
    intro H hO hS hok hA hK
    have lift : ∀ {b : Addr} {o : Obj}, s.heap.get? b = some o → H b = none → (hidT s.heap H).get? b = some o := fun e n => hidT_get e n
    have un0 : ∀ {b : Addr} {o : Obj}, s.heap.get? b = some o → (∀ its n, o.data ≠ .seq its n) → (∀ fs, o.data ≠ .fields fs) → H b = none := fun {b o} e d1 d2 => by
      cases q : H b with
      | none => rfl
      | some u =>
        rcases hA b (by rw [q]; simp) with z | ⟨t, ht, z⟩
        · subst z; rw [ha] at e; cases e; exact absurd rfl (d1 _ _)
        · subst z; rw [(hT t ht).2] at e; cases e; exact absurd rfl (d2 _)
    have ns1 : ∀ {b : Addr} {m : Str → Option Value}, s.heap.Ns b m → (hidT s.heap H).Ns b m := fun {b m} ⟨o, es, ep, e, d, r⟩ => ⟨o, es, ep, lift e (un0 e (fun _ _ z => by rw [d] at z; cases z) fun _ z => by rw [d] at z; cases z), d, r⟩
    have kb : K.In (hidT s.heap H) := fun b o e => lift (KX b o e) (by
      cases q : H b with
      | none => rfl
      | some u =>
        rcases hA b (by rw [q]; simp) with z | ⟨t, ht, z⟩
        · subst z; rw [hK (by rw [q]; simp)] at e; cases e
        · subst z; rw [hKT t ht] at e; cases e)
    have bmb : BmOf mg (hidT s.heap H) := by
      obtain ⟨bm, ob, b1, b2, b3, b4, b5, b6⟩ := hbm
      exact ⟨bm, ob, b1, b2, lift b3 (un0 b3 (fun _ _ z => by rw [b6] at z; cases z) fun _ z => by rw [b6] at z; cases z), b4, b5, b6⟩
    have hM : Mod K mg (hidT s.heap H) := ⟨kb, ns1 hns, ⟨mb, ns1 hb, hbb⟩, let ⟨mc, h1, h2⟩ := hlim; ⟨mc, ns1 h1, h2⟩⟩
    have e0 : Env0 P w K mg (hidT s.heap H) callerA [] s H := ⟨rfl, hM, fun b o e => of_hidT e, Nat.le_of_eq (hidT_size _ _), trivial, fun b hb => absurd (show b ∈ ([] : List Addr) from hb) (by simp), hok, .of_eq hg⟩
    refine codeAny_mono ((F _ kb (ns1 hns) bmb).run callerA [] s H ⟨[.ref a], []⟩ [.ref a] [.ref a] _ _ hr e0 (hbind s (.ref a)) (.cons rfl .nil) (hsp H hO hS)) fun r s' h => ?_
    cases r with
    | error e => exact (hCX H e s' h).elim
    | ok fl =>
      cases fl with
      | next => exact False.elim h
      | brk => exact False.elim h
      | cont => exact False.elim h
      | ret u =>
        obtain ⟨v, H', os, bare, un, hok', r', q⟩ := h
        have q' : v = .bl true := q
        subst q'
        obtain rfl : u = Value.bool true := r'
        refine ⟨rfl, ⟨fun b o e => ?_, fun b o e => un.there b o e (by simp)⟩, os, bare⟩
        rcases hO.all b with z | ⟨ob, xs, z⟩ | ⟨z, t, ht, rfl⟩
        · exact .inl (un.keep b o e z (by intro y; exact absurd (show b ∈ ([] : List Addr) from y) (by simp)) (by simp))
        · have z2 := un.frzs b ob _ z
          obtain ⟨e1, _⟩ := hok b _ z
          obtain ⟨e2, _⟩ := hok' b _ z2
          rw [e] at e1; cases e1
          exact .inl e2
        · obtain ⟨more, z2⟩ := un.tbls _ _ z
          have e1 : s.heap.get? t.2 = some { cls := .none, data := .fields #[] } := hok _ _ z
          have e2 : s'.heap.get? t.2 = some { cls := .none, data := .fields (#[] ++ more) } := hok' _ _ z2
          rw [e] at e1; cases e1
          exact .inr (.inl ⟨(hT t ht).isCodeTable, rfl, #[], more, rfl, e2⟩)
  have mem : ∀ b, (∃ t ∈ Ts, t.2 = b) ∨ ¬ ∃ t ∈ Ts, t.2 = b := fun b => Classical.em _
  have dc : ∀ b, Decidable (∃ t ∈ Ts, t.2 = b) := fun b => Classical.propDecidable _
  cases hk : K.lookup a with
  | some o =>
    have e := KX a o hk
    rw [ha] at e
    cases e
    refine run (fun b => if (∃ t ∈ Ts, t.2 = b) then some (.tbl #[]) else none) ⟨fun b => ?_, fun t ht => if_pos ⟨t, ht, rfl⟩⟩ (.inr ⟨_, vs.toArray, _, hk, rfl, rfl, rfl, by rw [List.size_toArray, lenV]; exact hl, by simpa using rv⟩) (fun b u z => ?_) (fun b z => ?_) fun z => ?_
    · rcases mem b with y | y
      · exact .inr (.inr ⟨if_pos y, y⟩)
      · exact .inl (if_neg y)
    · rcases mem b with y | y
      · have z' := (if_pos y).symm.trans z
        cases z'
        obtain ⟨t, ht, rfl⟩ := y
        exact (hT t ht).2
      · have z' := (if_neg y).symm.trans z
        cases z'
    · rcases mem b with y | y
      · exact .inr y
      · exact absurd (if_neg y) z
    · refine absurd (if_neg ?_) z
      rintro ⟨t, ht, e⟩
      exact aP t ht e
  | none =>
    refine run (fun b => if b = a then some (.frz { cls := .type "list", data := .seq vs.toArray } (.lst (ns.map V.int))) else if (∃ t ∈ Ts, t.2 = b) then some (.tbl #[]) else none) ⟨fun b => ?_, fun t ht => ?_⟩ (.inl (.inr ⟨{ cls := .type "list", data := .seq vs.toArray }, if_pos rfl⟩)) (fun b u z => ?_) (fun b z => ?_) fun _ => hk
    · by_cases hb : b = a
      · exact .inr (.inl ⟨_, _, if_pos hb⟩)
      · rcases mem b with y | y
        · exact .inr (.inr ⟨(if_neg hb).trans (if_pos y), y⟩)
        · exact .inl ((if_neg hb).trans (if_neg y))
    · exact (if_neg (aP t ht)).trans (if_pos ⟨t, ht, rfl⟩)
    · by_cases hb : b = a
      · have z' := (if_pos hb).symm.trans z
        cases z'
        subst hb
        exact ⟨ha, by rw [List.length_map]; exact hl, vs, _, rv, ha⟩
      · rcases mem b with y | y
        · have z' := ((if_neg hb).trans (if_pos y)).symm.trans z
          cases z'
          obtain ⟨t, ht, rfl⟩ := y
          exact (hT t ht).2
        · have z' := ((if_neg hb).trans (if_neg y)).symm.trans z
          cases z'
    · by_cases hb : b = a
      · exact .inl hb
      · rcases mem b with y | y
        · exact .inr y
        · exact absurd ((if_neg hb).trans (if_neg y)) z
theorem walk_ofT {l : PySem.W.OpenLaw} {n k : Nat} {q : Program} {loose : List Str} {XP : (Str → Option Value) → Heap → Prop} {YP : World → Heap → Prop} {d : DefRec} {K : Params → PySem.W.Frag} {CX : World → CXT} {sp : World → Sp} {x : Str} {Ts : World → List (Addr × Addr)}
    (hn : l.most = some n) (hn2 : n ≤ sizeLine) (hdf : d.params.defaults = []) (hr : Room k callerA)
    (hY : ∀ (w : World) (h : Heap), YP w h → (K w.params).In h)
    (hT : ∀ (w : World) (h : Heap) (lo : List Str) (mean : ExcName → Option Value) (mg mb : Str → Option Value), (K w.params).In h → Top q lo mean mg mb h → ∀ t ∈ Ts w, h.TableAt t.1 t.2 #[]) (hKT : ∀ (w : World), ∀ t ∈ Ts w, (K w.params).lookup t.2 = none)
    (F : ∀ (w : World) (mg : Str → Option Value) (fa : Addr) (h : Heap), (K w.params).In h → h.Ns mainGlobals mg → mg d.name = some (.ref fa) →
      ∃ fd : FuncData, (∀ (s : Shared) (u : Value), BindsTo s fd ⟨[u], []⟩ [(x, u)]) ∧
        ∀ base : Heap, (K w.params).In base → base.Ns mainGlobals mg → BmOf mg base → FnOk l.prog w (K w.params) mg base (CX w) k fa fd [x] (sp w))
    (hsp : ∀ (w : World) (H : Hp) (a : Addr) (ns : List Int), ns.length ≤ n → OnlyT (Ts w) H → SqL (K w.params) H a (ns.map V.int) → sp w [.ref a] H (fun v _ => v = .bl true) fun _ _ _ => False)
    (hCX : ∀ (w : World) (H : Hp) (s : Shared) (e : Value) (s' : Shared), CX w [] H s (fun _ _ _ => False) e s' → False) :
    PySem.W.WalkO q loose XP YP l.row.toRowW d [] (fun f vs => PySem.call f vs) := by
  refine Att.attach_call hn hdf fun w s₀ s₁ mg mb fa o pm cd doc a vs ns G Y ho hd hcd hmg hobj hints hlen hg => ?_
  have KX := hY w _ Y
  obtain ⟨fd, hb, hF⟩ := F w mg fa _ KX G.T.g hmg
  exact law_callT KX G.T.g G.T.b G.T.builtins G.T.nolimit hg (hT w _ _ _ _ _ KX G.T) (hKT w) G.T.bmain hobj hints (Nat.le_trans hlen hn2) hr hF hb (fun H hO hS => hsp w H a ns hlen hO hS) fun H e s' => hCX w H s₁ e s'
end L2
namespace L2
open PySem PySem.Spec PyProof.Rows
def Its (x : Str) : It := ⟨fun i _ => i < x.cps.size, fun i H v H' => H' = H ∧ ∃ c, x.cps[i]? = some c ∧ v = .str ⟨#[c]⟩, fun i _ => i = x.cps.size⟩
theorem turn_str {P : Program} {w : World} {K : PySem.W.Frag} {tg : Expr} {it : Addr} {x : Str} {t : Tok} {ty : String} (hn : ["enumerate", "zip", "dict_itemiterator", "dict_reverseitemiterator", "odict_iterator", "itertools.zip_longest", "itertools.pairwise"].contains ty = false)
    (W : ∀ A' : Around, A'.handled = none → Walks P w A' it [it] [it] x.cps.size (SignAt x) (fun i h => h.IsStrIter it ty x t i))
    (hself : ∀ (A : Around) (i : Nat) (s : Shared) (Q : Value → Shared → Prop) (E : Value → Shared → Prop), s.heap.IsStrIter it ty x t i → Q (.ref it) s → wpAny (model P w) A (pyIter (.ref it)) Q E s) : Turn P w K tg (Its x) [it] it (fun i h => h.IsStrIter it ty x t i) where
  mem := by simp
  obj := fun i h st b hb => by
    have e : b = it := by simpa using hb
    subst e
    obtain ⟨o, ho, _, d⟩ := st
    exact ⟨o, ho, fun v z => by rw [d] at z; cases z⟩
  keep := fun i h h' st k => by
    obtain ⟨o, ho, r⟩ := st
    exact ⟨o, k it (by simp) o ho, r⟩
  item := by
    intro X hP hw hK hc i pins s σ H E I hf st hg
    subst hP hw hK
    obtain ⟨f0, f1, f2, f3, f4, f5⟩ := hf it (by simp)
    refine (W X.A (I.ok.hd hc)).item i s _ _ hg st fun v h' tk hv st' kk => ?_
    obtain ⟨c, u, hcu, rfl⟩ := hv
    have I1 : Inv X pins σ H { s with heap := h', toks := tk } := I.turned (fun b o hb e => kk b o (by simpa using hb) e) f0 f1 f3 f4 f5
    obtain ⟨o, ho, hcl, d⟩ := id st'
    exact ⟨_, rfl, go_of (s := { s with heap := h', toks := tk }) ho hcl d hn ⟨.str ⟨#[c]⟩, H, I1, ⟨u, rfl⟩, ⟨rfl, c, hcu, rfl⟩, st', fun b hb => (hf b hb).1⟩⟩
  done := by
    intro X hP hw hK hc i pins s σ H E I hf st hg
    subst hP hw hK
    obtain ⟨f0, f1, f2, f3, f4, f5⟩ := hf it (by simp)
    have hi : i = x.cps.size := hg
    subst hi
    exact (W X.A (I.ok.hd hc)).done s _ _ st fun h' tk kk => ⟨rfl, I.turned (fun b o hb e => kk b o (by simpa using hb) e) f0 f1 f3 f4 f5⟩
  self := fun A i s Q E st h => hself A i s Q E st h
def iStr (tl : TE) : TI := fun σ H R => tl σ H fun v H1 => ∃ x, v = .str x ∧ R (Its x) H1
section
variable {X : Cx} {tg : Expr}
theorem pi_str {l : Expr} {tl : TE} (hl : PE X l tl) : PI X tg l (iStr tl) := by
  intro pins s σ H R I h
  refine thn (hl pins s σ H _ I h) fun v s1 ⟨y, H1, I1, r1, x, e, q⟩ => ?_
  subst e
  obtain ⟨t, rfl⟩ := r1
  have fin : ∀ b ∈ [s1.heap.objs.size], FpOk X pins H1 b := fun b hb => by
    have e : b = s1.heap.objs.size := by simpa using hb
    subst e
    exact I1.fpOk (Nat.le_refl _) (I1.hok.fresh (Nat.le_refl _))
  cases ha : x.cps.all (· < 128)
  · refine wpAny_pyIter_wide ha ?_
    exact ⟨s1.heap.objs.size, [s1.heap.objs.size], _, _, H1, rfl, I1.kept (t' := s1.toks) fun b o e => Heap.get?_push_of_some _ e, turn_str (by decide) (fun A' hA => Walks.strWide hA _ x t) (fun A i s Q E st h => wpAny_pyIter_striter_wide st h), ⟨_, Heap.get?_push_size _ rfl, rfl, rfl⟩, fin, q⟩
  · refine wpAny_pyIter_ascii ha ?_
    exact ⟨s1.heap.objs.size, [s1.heap.objs.size], _, _, H1, rfl, I1.kept (t' := s1.toks) fun b o e => Heap.get?_push_of_some _ e, turn_str (by decide) (fun A' hA => Walks.strAscii hA _ x t) (fun A i s Q E st h => wpAny_pyIter_striter_ascii st h), ⟨_, Heap.get?_push_size _ rfl, rfl, rfl⟩, fin, q⟩
def rEqL (K : PySem.W.Frag) (neg : Bool) : R2 := fun x y H Q => ∃ a b xs ys, x = .ref a ∧ y = .ref b ∧ SqL K H a xs ∧ SqL K H b ys ∧ xs.all flatV = true ∧ ys.all flatV = true ∧ Q (.bl (if neg then !eqVs xs ys else eqVs xs ys)) H
theorem eqVs_lens {xs ys : List V} (h : xs.length ≠ ys.length) : eqVs xs ys = false := by
  rw [← eqVs_all]
  have : (xs.length == ys.length) = false := by simpa using h
  rw [this, Bool.and_false]
theorem op_eqL (hu : X.A.units < cLine) : OpR X (compareOp .Eq) (rEqL X.K false) := by
  intro pins s σ H x y v u Q I rx ry h
  obtain ⟨a, b, xs, ys, rfl, rfl, ha, hb, f1, f2, q⟩ := h
  cases rx
  cases ry
  obtain ⟨its, r1, p1, _⟩ := I.list ha
  obtain ⟨its2, r2, p2, _⟩ := I.list hb
  by_cases hz : xs.length = ys.length
  · have hz2 : its.toArray.size = its2.toArray.size := by rw [List.size_toArray, List.size_toArray, ← r1.length, ← r2.length]; exact hz
    refine SeqAt.eq_listAt p1.isList p2.isList hz2 hu (items_eq r1 r2 f1 f2) ⟨.bl _, H, I, rfl, ?_⟩
    have e : (List.range its.toArray.size).all (eAt xs ys) = eqVs xs ys := by
      rw [← eqVs_all, List.size_toArray, ← r1.length, ← hz, Nat.min_self]; simp
    rw [e]
    exact q
  · have hz2 : (its.toArray.size != its2.toArray.size) = true := by
      rw [List.size_toArray, List.size_toArray, ← r1.length, ← r2.length]; simpa using hz
    have q' : Q (.bl false) H := by rw [eqVs_lens hz] at q; exact q
    exact SeqAt.eq_list_lengthsAt p1.isList p2.isList hz2 hu ⟨.bl _, H, I, rfl, q'⟩
theorem op_neV (hu : X.A.units < cLine) : OpR X (compareOp .NotEq) (rEqL X.K true) := by
  intro pins s σ H x y v u Q I rx ry h
  obtain ⟨a, b, xs, ys, rfl, rfl, ha, hb, f1, f2, q⟩ := h
  cases rx
  cases ry
  obtain ⟨its, r1, p1, _⟩ := I.list ha
  obtain ⟨its2, r2, p2, _⟩ := I.list hb
  by_cases hz : xs.length = ys.length
  · have hz2 : its.toArray.size = its2.toArray.size := by rw [List.size_toArray, List.size_toArray, ← r1.length, ← r2.length]; exact hz
    refine SeqAt.RcNeAt.lists p1.isList p2.isList hz2 hu (items_eq r1 r2 f1 f2) _ _ _ _ ⟨.bl _, H, I, rfl, ?_⟩
    have e : (List.range its.toArray.size).all (eAt xs ys) = eqVs xs ys := by
      rw [← eqVs_all, List.size_toArray, ← r1.length, ← hz, Nat.min_self]; simp
    rw [e]
    exact q
  · have hz2 : (its.toArray.size != its2.toArray.size) = true := by
      rw [List.size_toArray, List.size_toArray, ← r1.length, ← r2.length]; simpa using hz
    have q' : Q (.bl true) H := by rw [eqVs_lens hz] at q; exact q
    exact SeqAt.RcNeAt.lists_lengths p1.isList p2.isList hz2 hu _ _ _ _ ⟨.bl _, H, I, rfl, q'⟩
end
end L2
namespace L2
open PySem PySem.Spec PyProof.Rows
def cdOf (K : PySem.W.Frag) (n : Str) : Addr := match PySem.W.nsIn K mainGlobals n with
  | some (some (.ref f)) => (match K.lookup f with
    | some ⟨_, _, .func fd, _⟩ => (match fd.code with
      | .ref c => c
      | _ => 0)
    | _ => 0)
  | _ => 0
def tbOf (K : PySem.W.Frag) (n : Str) : Addr := match K.lookup (cdOf K n) with
  | some ⟨_, _, .fields vs, _⟩ => (match (vs[11]? : Option Value) with
    | some (.ref T) => T
    | _ => 0)
  | _ => 0
structure CodeN (K : PySem.W.Frag) (n : Str) (f c T : Addr) (fd : FuncData) : Prop where
  a : PySem.W.nsIn K mainGlobals n = some (some (.ref f))
  l : ∃ oc od sl, K.lookup f = some ⟨oc, od, .func fd, sl⟩
  hc : fd.code = .ref c
  lc : ∃ (od : Option Addr) (vs : Array Value) (sl : Array (Option Value)) (file : Str) (tf : Tok) (flags : Int) (tk : Tok) (inF : Bool) (text : Int) (tt : Tok), K.lookup c = some ⟨.type "code", od, .fields vs, sl⟩ ∧ vs[11]? = some (.ref T) ∧ vs.getD 18 .none = .str file tf ∧
    vs.getD 7 .none = .int flags tk ∧ vs.getD 9 .none = .bool inF ∧ vs.getD 10 .none = .int text tt
  ne : c ≠ T
section
variable {K : PySem.W.Frag} {n : Str} {f c T : Addr} {fd : FuncData}
theorem CodeN.cd (C : CodeN K n f c T fd) : cdOf K n = c := by
  obtain ⟨oc, od, sl, l⟩ := C.l
  unfold cdOf
  rw [C.a]
  simp only [l, C.hc]
theorem CodeN.tb (C : CodeN K n f c T fd) : tbOf K n = T := by
  obtain ⟨od, vs, sl, _, _, _, _, _, _, _, l, h11, _⟩ := C.lc
  unfold tbOf
  rw [C.cd]
  simp only [l, h11]
theorem CodeN.ck (C : CodeN K n f c T fd) : CodeK K c T := by
  obtain ⟨od, vs, sl, file, tf, flags, tk, inF, text, tt, l, h11, r⟩ := C.lc
  exact ⟨⟨_, vs, file, tf, flags, tk, inF, text, tt, l, rfl, rfl, h11, r⟩, C.ne⟩
theorem CodeN.tab {q : Program} {lo : List Str} {mean : ExcName → Option Value} {mg mb : Str → Option Value} {h : Heap} {d : DefRec} (C : CodeN K n f c T fd) (KX : K.In h) (Tp : Top q lo mean mg mb h) (hf : (recsOf q).find? (fun e => e.name == n) = some d) : h.TableAt (cdOf K n) (tbOf K n) #[] := by
  rw [C.cd, C.tb]
  have hn : d.name = n := beq_iff_eq.mp (List.find?_some (p := fun e : DefRec => e.name == n) hf)
  obtain ⟨a', o', fd', c', P', h1, h2, h3, h4, h5, h6⟩ := Tp.tab d (List.mem_of_find?_eq_some hf)
  have hm := PySem.W.mg_of KX Tp.g C.a
  rw [hn, hm] at h1; cases h1
  obtain ⟨oc, od, sl, l⟩ := C.l
  rw [KX _ _ l] at h2; cases h2
  cases h3
  rw [C.hc] at h4; cases h4
  obtain ⟨od2, vs, sl2, _, _, _, _, _, _, _, l2, h11, _⟩ := C.lc
  obtain ⟨⟨o3, vs3, e1, _, e2, e3⟩, _⟩ := id h6
  rw [KX _ _ l2] at e1; cases e1
  cases e2
  rw [h11] at e3; cases e3
  exact h6
theorem codeN_mk {oc : Value} {od odc : Option Addr} {sl slc : Array (Option Value)} {vs : Array Value} {file : Str} {tf : Tok} {flags : Int} {tk : Tok} {inF : Bool} {text : Int} {tt : Tok} (a : PySem.W.nsIn K mainGlobals n = some (some (.ref f))) (l : K.lookup f = some ⟨oc, od, .func fd, sl⟩) (hc : fd.code = .ref c)
    (lc : K.lookup c = some ⟨.type "code", odc, .fields vs, slc⟩) (h11 : vs[11]? = some (.ref T)) (h18 : vs.getD 18 .none = .str file tf) (h7 : vs.getD 7 .none = .int flags tk) (h9 : vs.getD 9 .none = .bool inF) (h10 : vs.getD 10 .none = .int text tt) (ne : c ≠ T) : CodeN K n f c T fd :=
  ⟨a, ⟨oc, od, sl, l⟩, hc, ⟨odc, vs, slc, file, tf, flags, tk, inF, text, tt, lc, h11, h18, h7, h9, h10⟩, ne⟩
end
end L2
namespace L2
open PySem PySem.Spec PyProof.Rows
abbrev TB := St → Hp → (St → Hp → Prop) → Prop
abbrev Fi := PySem.Fin
def PB (Y : Cx) (body : Sem Fi → Sem Fi) (t : TB) : Prop :=
  ∀ (pins : List (Addr × Obj)) (s : Shared) (σ : St) (H : Hp) (N : St → Hp → Prop) (k : Sem Fi) (R : Fi → Shared → Prop), Inv Y pins σ H s → t σ H N →
    (∀ σ' H' s', Inv Y pins σ' H' s' → N σ' H' → wpAny (model Y.prog Y.w) Y.A k R F0 s') → wpAny (model Y.prog Y.w) Y.A (body k) R F0 s
def turnOf (tg : Expr) (p : Pos) (ifs : List Expr) (it : Value) (env : Env) (body : Sem Fi → Sem Fi) (k : Sem Fi) : Sem Fi := do
  standAt p
  match ← pyNext it with
  | none => pure (.done .next)
  | some v =>
    letOwnedTupleGo tg it v
    assign tg env v
    let mut ok := true
    for c in ifs do
      if ok then ok ← isTrue c env (eval c env)
    if ok then body k else k
def LoopRule (P : Program) (w : World) (A : Around) (e : Expr) (d : Nat) : Prop := ∀ (it acc : Value) (env : Env) (R : Result → Shared → Prop) (I : Nat → Shared → Prop),
  (∀ n s, I n s → wpAny (model P w) A (compTurn e d it acc env) (fun fin s' => match fin with | .done f => R (.ok f) s' | .again c' => c' = .compLoop e d it acc env ∧ ∃ m, m < n ∧ I m s') F0 s) →
  ∀ n s, I n s → codeAny (model P w) A (.compLoop e d it acc env) R s
def StartRule (P : Program) (w : World) (A : Around) (e : Expr) (d : Nat) : Prop := ∀ (it acc : Value) (env : Env) (R : Result → Shared → Prop) (s : Shared),
  codeAny (model P w) A (.compLoop e d it acc env) R s → wpAny (model P w) A (pyIter it) (fun it' s' => codeAny (model P w) A (.compLoop e d it' acc env) R s') F0 s → codeAny (model P w) A (.compStart e d it acc env) R s
section
variable {P : Program} {w : World} {A : Around} {elt kx vx : Expr} {gens : List Comprehension} {scope : Scope} {pos : Pos} {d : Nat} {g : Comprehension}
theorem loop_list : LoopRule P w A (.ListComp elt gens scope pos) d := by
  intro it acc env R I turn n s h
  refine codeAny_loop rfl I (fun n s hI => ?_) n h
  show wpAny _ A ((compTurn (.ListComp elt gens scope pos) d it acc env).onRaise (fun x => do noteFrame x env; theTreesLotGoes x)) _ _ s
  exact wpAny_noted (of_F0 (turn n s hI) fun _ _ z => z)
theorem loop_set : LoopRule P w A (.SetComp elt gens scope pos) d := by
  intro it acc env R I turn n s h
  refine codeAny_loop rfl I (fun n s hI => ?_) n h
  show wpAny _ A ((compTurn (.SetComp elt gens scope pos) d it acc env).onRaise (fun x => do noteFrame x env; theTreesLotGoes x)) _ _ s
  exact wpAny_noted (of_F0 (turn n s hI) fun _ _ z => z)
theorem loop_dict : LoopRule P w A (.DictComp kx vx gens scope pos) d := by
  intro it acc env R I turn n s h
  refine codeAny_loop rfl I (fun n s hI => ?_) n h
  show wpAny _ A ((compTurn (.DictComp kx vx gens scope pos) d it acc env).onRaise (fun x => do noteFrame x env; theTreesLotGoes x)) _ _ s
  exact wpAny_noted (of_F0 (turn n s hI) fun _ _ z => z)
theorem start_any {e : Expr} {it acc : Value} {env : Env} {R : Result → Shared → Prop} {s : Shared} {E : Value → Shared → Prop} (hg : (clausesOf e)[d]? = some g) (ha : g.is_async = 0)
    (h0 : codeAny (model P w) A (.compLoop e d it acc env) R s) (h : wpAny (model P w) A (pyIter it) (fun it' s' => codeAny (model P w) A (.compLoop e d it' acc env) R s') F0 s) :
    wpAny (model P w) A (compStart e d it acc env) (fun fin s' => match fin with | .done f => R (.ok f) s' | .again c' => c'.quiet = true ∧ codeAny (model P w) A c' R s') E s := by
  unfold compStart
  rw [hg]
  simp only [Option.elim, ha]
  show wpAny _ _ (ask >>= _) _ _ s
  refine wpAny_bind (wpAny_askSetting (wpAny_ite ?_))
  split
  · first
      | exact wpAny_bind (wpAny_pure (wpAny_pure (And.intro rfl h0)))
      | exact wpAny_pure (And.intro rfl h0)
  · refine wpAny_bind (wpAny_rule ?_)
    exact wpAny_bind (wpAny_standAt (wpAny_bind (of_F0 h fun it' s' h' => wpAny_pure (And.intro rfl h'))))
theorem start_list (hg : gens[d]? = some g) (ha : g.is_async = 0) : StartRule P w A (.ListComp elt gens scope pos) d := by
  intro it acc env R s h0 h
  refine codeAny_of_tree ?_
  show wpAny _ _ ((compStart (.ListComp elt gens scope pos) d it acc env).onRaise (fun x => do noteFrame x env; standAt theWindowsPlace)) _ _ s
  exact wpAny_notedAt (start_any (e := .ListComp elt gens scope pos) hg ha h0 h)
theorem start_set (hg : gens[d]? = some g) (ha : g.is_async = 0) : StartRule P w A (.SetComp elt gens scope pos) d := by
  intro it acc env R s h0 h
  refine codeAny_of_tree ?_
  show wpAny _ _ ((compStart (.SetComp elt gens scope pos) d it acc env).onRaise (fun x => do noteFrame x env; standAt theWindowsPlace)) _ _ s
  exact wpAny_notedAt (start_any (e := .SetComp elt gens scope pos) hg ha h0 h)
theorem start_dict (hg : gens[d]? = some g) (ha : g.is_async = 0) : StartRule P w A (.DictComp kx vx gens scope pos) d := by
  intro it acc env R s h0 h
  refine codeAny_of_tree ?_
  show wpAny _ _ ((compStart (.DictComp kx vx gens scope pos) d it acc env).onRaise (fun x => do noteFrame x env; standAt theWindowsPlace)) _ _ s
  exact wpAny_notedAt (start_any (e := .DictComp kx vx gens scope pos) hg ha h0 h)
end
def LR (J : It) (g : TG) (tt : TT) (tb : TB) (σ : St) (H : Hp) (N : St → Hp → Prop) : Prop := ∃ W : Nat → Nat → St → Hp → Prop, (∃ m, W 0 m σ H) ∧ ∀ i m σ2 H2, W i m σ2 H2 →
  (J.stop i H2 ∧ N σ2 H2) ∨ (J.go i H2 ∧ ∀ x H3, J.yld i H2 x H3 → g x σ2 H3 fun σ4 H4 => tt σ4 H4 fun ok H5 =>
    if ok = true then tb σ4 H5 (fun σ6 H6 => ∃ m', m' < m ∧ W (i + 1) m' σ6 H6) else ∃ m', m' < m ∧ W (i + 1) m' σ4 H5)
section
variable {Y : Cx} {e tg iter : Expr} {ifs : List Expr} {d : Nat} {p : Pos} {body : Sem Fi → Sem Fi} {it : Addr} {acc : Value} {J : It} {g : TG} {tt : TT} {tb : TB} {wi : TI} {fp : List Addr} {tn : Nat → Heap → Prop} {pins : List (Addr × Obj)} {R : Result → Shared → Prop} {N : St → Hp → Prop} {s : Shared} {σ : St} {H : Hp}
theorem loop_any (hL : LoopRule Y.prog Y.w Y.A e d) (hc : Y.calm = true) (hx : Y.xe = F0) (hT : compTurn e d (.ref it) acc Y.env = turnOf tg p ifs (.ref it) Y.env body (again (.compLoop e d (.ref it) acc Y.env)))
    (hg : PG Y tg g) (ht : PTs Y ifs tt) (hb : PB Y body tb) (T : Turn Y.prog Y.w Y.K tg J fp it tn) (stat : ∀ {H' : Hp}, (∀ b ∈ fp, H' b = none) → ∀ b ∈ fp, FpOk Y pins H' b)
    (I : Inv Y pins σ H s) (st : tn 0 s.heap) (fr : ∀ b ∈ fp, H b = none) (q : LR J g tt tb σ H N) (hR : ∀ σ' H' s', Inv Y pins σ' H' s' → N σ' H' → R (.ok .next) s') :
    codeAny (model Y.prog Y.w) Y.A (.compLoop e d (.ref it) acc Y.env) R s := by
  obtain ⟨W, ⟨m0, w0⟩, turn⟩ := q
  refine hL _ _ _ _ (fun n s' => ∃ i σ' H', Inv Y pins σ' H' s' ∧ tn i s'.heap ∧ (∀ b ∈ fp, H' b = none) ∧ W i n σ' H') ?_ m0 s ⟨0, σ, H, I, st, fr, w0⟩
  rintro n s5 ⟨i, σ5, H5, I5, t5, fr5, w5⟩
  rw [hT]
  unfold turnOf
  refine wpAny_bind (wpAny_standAt (wpAny_bind ?_))
  rcases turn i n σ5 H5 w5 with ⟨stop, qn⟩ | ⟨go, step⟩
  · refine of_F0 (T.done Y rfl rfl rfl hc i pins s5 σ5 H5 F0 I5 (stat fr5) t5 stop) fun r s6 ⟨hr, I6⟩ => ?_
    subst hr
    exact wpAny_pure (hR _ _ _ I6 qn)
  · refine of_F0 (T.item Y rfl rfl rfl hc i pins s5 σ5 H5 F0 I5 (stat fr5) t5 go) fun r s6 ⟨u, hr, h6⟩ => ?_
    subst hr
    refine wpAny_bind (of_F0 h6 fun _ s7 ⟨x, H7, I7, r7, y7, t7, fr7⟩ => ?_)
    have I7' := I7.pinned (stat fr7) (T.obj _ _ t7)
    have a1 := hg _ s7 σ5 H7 x u _ I7' r7 (step x H7 y7)
    rw [hx] at a1
    refine wpAny_bind (of_F0 a1 fun _ s8 ⟨σ8, H8, I8, q8⟩ => ?_)
    have a2 := ht _ s8 σ8 H8 _ I8 q8
    rw [hx] at a2
    refine wpAny_bind (of_F0 a2 fun ok s9 ⟨H9, I9, q9⟩ => ?_)
    have again : ∀ {s' : Shared} {σ' : St} {H' : Hp} {m : Nat}, Inv Y (pins ++ pinsAt fp s7.heap) σ' H' s' → W (i + 1) m σ' H' →
        ∃ i σ' H', Inv Y pins σ' H' s' ∧ tn i s'.heap ∧ (∀ b ∈ fp, H' b = none) ∧ W i m σ' H' := fun {s' σ' H' m} J w => by
      refine ⟨i + 1, σ', H', J.unpinned, T.keep _ _ _ t7 fun b hb o e => (J.pin (b, o) (List.mem_append_right _ (List.mem_append_right _ (mem_pinsAt hb e)))).1, fun b hb => ?_, w⟩
      obtain ⟨o, e, d⟩ := T.obj _ _ t7 b hb
      exact (J.pin (b, o) (List.mem_append_right _ (List.mem_append_right _ (mem_pinsAt hb e)))).2.1
    cases ok with
    | false =>
      obtain ⟨m', lt, w9⟩ := (show ∃ m', m' < n ∧ W (i + 1) m' σ8 H9 from q9)
      exact wpAny_pure ⟨rfl, m', lt, again I9 w9⟩
    | true =>
      exact hb _ s9 σ8 H9 _ _ _ I9 q9 fun σA HA sA IA ⟨m', lt, wA⟩ => wpAny_pure ⟨rfl, m', lt, again IA wA⟩
def inBody (e : Expr) (d : Nat) (iter : Expr) (acc : Value) (env : Env) (k : Sem Fi) : Sem Fi := do
  let x ← eval iter env
  standAt iter.pos
  let x ← foldedSetIterable iter env x
  let _ ← runOwn (.compStart e d (← holding [x] (pyIter x)) acc env) env
  k
def tIn (wi : TI) (g : TG) (tt : TT) (tb : TB) : TB := fun σ H N => wi σ H fun J H1 => LR J g tt tb σ H1 N
theorem pb_in (hL : LoopRule Y.prog Y.w Y.A e d) (hS : StartRule Y.prog Y.w Y.A e d) (hc : Y.calm = true) (hx : Y.xe = F0) (hT : ∀ it : Addr, compTurn e d (.ref it) acc Y.env = turnOf tg p ifs (.ref it) Y.env body (again (.compLoop e d (.ref it) acc Y.env)))
    (hi : PI Y tg iter wi) (hg : PG Y tg g) (ht : PTs Y ifs tt) (hb : PB Y body tb) (hs : ∀ x, foldedSetIterable iter Y.env x = pure x := by intro _; rfl) : PB Y (inBody e d iter acc Y.env) (tIn wi g tt tb) := by
  intro pins s σ H N k R I h hk
  unfold inBody
  have a1 := hi pins s σ H _ I h
  rw [hx] at a1
  refine wpAny_bind (of_F0 a1 fun v s1 h1 => wpAny_bind (wpAny_standAt (wpAny_bind (wpAny_of_eq (hs v) (wpAny_bind (wpAny_holding (of_F0 h1 fun itv s2 h2 => ?_)))))))
  obtain ⟨it, fp, tn, J, H2, rfl, I2, T, st2, f2, q⟩ := h2
  refine wpAny_bind (wpAny_runOwn ?_)
  have lp : codeAny (model Y.prog Y.w) Y.A (.compLoop e d (.ref it) acc Y.env) (fun r s' => match r with | .ok f => wpAny (model Y.prog Y.w) Y.A k R F0 s' | .error e => cameBackBy (model Y.prog Y.w) Y.A Y.env F0 e s') s2 :=
    loop_any hL hc hx (hT it) hg ht hb T (fun hn b hb => ⟨hn b hb, (f2 b hb).2⟩) I2 st2 (fun b hb => (f2 b hb).1) q fun σ' H' s' I' n' => hk σ' H' s' I' n'
  exact hS _ _ _ _ _ lp (T.self _ 0 _ _ _ st2 lp)
def listBody (elt : Expr) (acc : Value) (env : Env) (k : Sem Fi) : Sem Fi := (do let _ ← call (.builtin "list.append") [acc, ← eval elt env]) >>= fun _ => k
def tEmL (D : Addr) (te : TE) : TB := fun σ H N => te σ H fun v H6 => ∃ xs, H6 D = some (.lst xs) ∧ xs.length < sizeLine ∧ N σ (upd H6 D (.lst (xs ++ [v])))
theorem pb_list {elt : Expr} {te : TE} {D : Addr} (hx : Y.xe = F0) (hel : PE Y elt te) : PB Y (listBody elt (.ref D) Y.env) (tEmL D te) := by
  intro pins s σ H N k R I h hk
  have a1 := hel pins s σ H _ I h
  rw [hx] at a1
  refine wpAny_bind (wpAny_bind (of_F0 a1 fun y sA ⟨v, HA, IA, rA, xs, hxs, hz, wA⟩ => wpAny_bind ?_))
  have a2 := mt_append pins sA σ HA (.ref D) [v] (.ref D) [y] (fun _ H' => N σ H') IA rfl (.cons rA .nil) ⟨D, xs, v, rfl, rfl, hxs, hz, wA⟩
  rw [hx] at a2
  exact of_F0 a2 fun _ sB' ⟨_, HB, IB, _, wB⟩ => wpAny_pure (hk σ HB sB' IB wB)
end
def NewRule (X : Cx) (mk : Sem Value) (o0 : Addr → HO) : Prop := ∀ (pins : List (Addr × Obj)) (s : Shared) (σ : St) (H : Hp) (E : Value → Shared → Prop) (Q : Value → Shared → Prop), Inv X pins σ H s →
  (∀ s3 : Shared, (∀ b o, s.heap.get? b = some o → s3.heap.get? b = some o) → Inv X pins σ (upd H s.heap.objs.size (o0 s.heap.objs.size)) s3 → Q (.ref s.heap.objs.size) s3) → wpAny (model X.prog X.w) X.A mk Q E s
theorem new_list {X : Cx} : NewRule X (newList []) (fun _ => .lst []) := by
  intro pins s σ H E Q I h
  refine wpAny_newObj_type ?_
  exact h _ (fun b o e => Heap.get?_push_of_some _ e) (I.laid (t' := s.toks) (fun b u e => Heap.get?_push_of_some _ e) (Nat.le_refl _) ⟨Nat.zero_le _, [], 0, .nil, Heap.get?_push_size _ rfl⟩)
section
variable {X : Cx} {e tg iter : Expr} {ifs : List Expr} {scope esc : Scope} {pos : Pos} {N os : List Str} {fi : List Nat} {wi : TI} {g : TG} {tt : TT} {tb : Addr → TB} {body : Addr → Env → Sem Fi → Sem Fi} {o0 : Addr → HO} {mk : Sem Value} {p : Pos}
theorem comp_coreG {pins : List (Addr × Obj)} {σ : St} {H : Hp} {s : Shared} {E : Value → Shared → Prop} {it : Addr} {fp : List Addr} {tn : Nat → Heap → Prop} {J : It} {Q : VK} {RR : Value → Addr → Result → Shared → Prop} (hc : X.calm = true) (hN : X.N = N) (he : X.env.scope = esc) (B : BlkOk esc scope N fi)
    (hL : LoopRule X.prog X.w X.A e 0) (hS : StartRule X.prog X.w X.A e 0) (hT : ∀ (it D : Addr) (env : Env), compTurn e 0 (.ref it) (.ref D) env = turnOf tg p ifs (.ref it) env (body D env) (again (.compLoop e 0 (.ref it) (.ref D) env)))
    (hmk : NewRule X mk o0)
    (hg : ∀ s H fp, PG (blk X scope (nB N os fi) s H fp) tg g) (ht : ∀ s H fp, PTs (blk X scope (nB N os fi) s H fp) ifs tt) (hb : ∀ D s H fp, PB (blk X scope (nB N os fi) s H fp) (body D (blk X scope (nB N os fi) s H fp).env) (tb D))
    (I : Inv X pins σ H s) (T : Turn X.prog X.w X.K tg J fp it tn) (st : tn 0 s.heap) (hf : ∀ b ∈ fp, FpOk X pins H b) (q : ∀ l, H l = none → LR J g tt (tb l) (sB σ os fi) (upd H l (o0 l)) fun _ H' => Q (.ref l) H')
    (hRR : ∀ D s3 H3 s' σ' H', Inv X pins σ H3 s3 → (∀ b ∈ fp, FpOk X pins H3 b) → Inv (blk X scope (nB N os fi) s3 H3 fp) [] σ' H' s' → Q (.ref D) H' → RR (.ref D) s3.heap.objs.size (.ok .next) s') :
    wpAny (model X.prog X.w) X.A mk (fun acc s3 => wpAny (model X.prog X.w) X.A (newFunctionEnv scope X.env.globals (clOf X.env scope.names []) [] X.env.qual none .none (some X.env)) (fun cenv s4 =>
      codeAny (model X.prog X.w) X.A (.compStart e 0 (.ref it) acc { cenv with scope := relabel scope X.env }) (RR acc cenv.locals) s4) E s3) E s := by
  subst hN
  have fresh : H s.heap.objs.size = none := I.hok.fresh (Nat.le_refl _)
  have old : ∀ b ∈ fp, ∃ o, s.heap.get? b = some o := fun b hb => by
    obtain ⟨o, e, _⟩ := T.obj _ _ st b hb
    exact ⟨o, e⟩
  refine hmk pins s σ H E _ I fun s3 k3 I3 => ?_
  have hf3 : ∀ b ∈ fp, FpOk X pins (upd H s.heap.objs.size (o0 s.heap.objs.size)) b := fun b hb => by
    obtain ⟨o, e⟩ := old b hb
    exact ⟨by rw [upd_ne (Nat.ne_of_lt (Heap.lt_size e))]; exact (hf b hb).1, (hf b hb).2⟩
  have st3 : tn 0 s3.heap := T.keep _ _ _ st fun b hb o e => k3 b o e
  have q3 := q _ fresh
  have ho3 : ∀ b ∈ fp, ∃ o, s3.heap.get? b = some o := fun b hb => by
    obtain ⟨o, e⟩ := old b hb
    exact ⟨o, k3 b o e⟩
  generalize s.heap.objs.size = D at *
  generalize upd H D (o0 D) = H3 at *
  refine wpAny_newFunctionEnv B.nocell (by intro y hy; simp at hy) (fun h4 hn4 sb4 => ?_) B.kind
  have k4 : ∀ b o, s3.heap.get? b = some o → h4.get? b = some o := fun b o e => (sb4.2 b (Nat.ne_of_lt (Heap.lt_size e))).trans (Heap.get?_push_of_some _ e)
  have I4 := blk_inv (os := os) (t1 := s3.toks + ([] : List (Str × Value)).length) B he I3 hf3 ho3 k4 hn4
  have st4 : tn 0 h4 := T.keep _ _ _ st3 fun b hb o e => k4 b o e
  have fpB : ∀ {H' : Hp}, (∀ b ∈ fp, H' b = none) → ∀ b ∈ fp, FpOk (blk X scope (nB X.N os fi) s3 H3 fp) [] H' b := fun hn b hb => by
    refine ⟨hn b hb, (I4.ok.exf b hb).1, I4.ok.exfs b hb, .inl hb, (I4.ok.exf b hb).2, fun p hp => nomatch hp⟩
  have lp := loop_any (Y := blk X scope (nB X.N os fi) s3 H3 fp) (R := RR (.ref D) s3.heap.objs.size) hL hc rfl (hT it D _) (hg s3 H3 fp) (ht s3 H3 fp) (hb D s3 H3 fp) T fpB I4 st4 (fun b hb => (hf3 b hb).1) q3
    fun σ' H' s' I' n' => hRR D s3 H3 s' σ' H' I3 hf3 I' n'
  exact hS _ _ _ _ _ lp (T.self _ 0 _ _ _ st4 lp)
def tCG (o0 : Addr → HO) (os : List Str) (fi : List Nat) (wi : TI) (g : TG) (tt : TT) (tb : Addr → TB) : TE := fun σ H Q => wi σ H fun J H1 => ∀ l, H1 l = none → LR J g tt (tb l) (sB σ os fi) (upd H1 l (o0 l)) fun _ H' => Q (.ref l) H'
theorem pe_compG {gs : List Comprehension} {p' : Pos} (hev : eval e X.env = comprehension e scope X.env p' mk false (eval iter X.env)) (hcl : clausesOf e = ⟨tg, iter, ifs, 0⟩ :: gs) (hc : X.calm = true) (hN : X.N = N) (he : X.env.scope = esc) (B : BlkOk esc scope N fi)
    (hL : LoopRule X.prog X.w X.A e 0) (hS : StartRule X.prog X.w X.A e 0) (hT : ∀ (it D : Addr) (env : Env), compTurn e 0 (.ref it) (.ref D) env = turnOf tg p ifs (.ref it) env (body D env) (again (.compLoop e 0 (.ref it) (.ref D) env)))
    (hmk : NewRule X mk o0) (hi : PI X tg iter wi)
    (hg : ∀ s H fp, PG (blk X scope (nB N os fi) s H fp) tg g) (ht : ∀ s H fp, PTs (blk X scope (nB N os fi) s H fp) ifs tt) (hb : ∀ D s H fp, PB (blk X scope (nB N os fi) s H fp) (body D (blk X scope (nB N os fi) s H fp).env) (tb D))
    (hs : ∀ x, foldedSetIterable iter X.env x = pure x := by intro _; rfl) : PE X e (tCG o0 os fi wi g tt tb) := by
  intro pins s σ H Q I h
  have cells := blk_cells (by rw [hN]; exact B) he I
  rw [hev]
  refine wpAny_comprehension_free (use := none) hcl hs (closure_eq cells) B.kind B.loc (thn (hi pins s σ H _ I h) fun v s1 h1 => thn h1 fun itv s2 h2 => ?_)
  obtain ⟨it, fp, tn, J, H2, rfl, I2, T, st2, f2, q2⟩ := h2
  refine comp_coreG (RR := fun acc C => compPost (model X.prog X.w) X.A X.xe none (EP X pins σ Q) acc C) hc hN he B hL hS hT hmk hg ht hb I2 T st2 f2 q2 ?_
  intro D s3 H3 s' σ' H' I3 f3 I' q
  obtain ⟨m, hn, _⟩ := I'.loc
  exact ⟨m, hn, fun h' sb => ⟨.ref D, H', blk_out I3 f3 I' sb, rfl, q⟩⟩
end
section
variable {X : Cx} {elt tg iter tg2 iter2 : Expr} {ifs ifs2 : List Expr} {scope esc : Scope} {pos : Pos} {N os : List Str} {fi : List Nat} {wi wi2 : TI} {g g2 : TG} {tt tt2 : TT} {te : TE}
theorem pe_comp2 (hc : X.calm = true) (hN : X.N = N) (he : X.env.scope = esc) (B : BlkOk esc scope N fi) (hi : PI X tg iter wi)
    (hg : ∀ s H fp, PG (blk X scope (nB N os fi) s H fp) tg g) (ht : ∀ s H fp, PTs (blk X scope (nB N os fi) s H fp) ifs tt)
    (hi2 : ∀ s H fp, PI (blk X scope (nB N os fi) s H fp) tg2 iter2 wi2) (hg2 : ∀ s H fp, PG (blk X scope (nB N os fi) s H fp) tg2 g2) (ht2 : ∀ s H fp, PTs (blk X scope (nB N os fi) s H fp) ifs2 tt2)
    (hel : ∀ s H fp, PE (blk X scope (nB N os fi) s H fp) elt te)
    (hs : ∀ x, foldedSetIterable iter X.env x = pure x := by intro _; rfl) (hs2 : ∀ env x, foldedSetIterable iter2 env x = pure x := by intro _ _; rfl) :
    PE X (.ListComp elt [⟨tg, iter, ifs, 0⟩, ⟨tg2, iter2, ifs2, 0⟩] scope pos) (tCG (fun _ => .lst []) os fi wi g tt fun D => tIn wi2 g2 tt2 (tEmL D te)) := by
  refine pe_compG (gs := [⟨tg2, iter2, ifs2, 0⟩]) (body := fun D env => inBody (.ListComp elt [⟨tg, iter, ifs, 0⟩, ⟨tg2, iter2, ifs2, 0⟩] scope pos) 1 iter2 (.ref D) env) rfl rfl hc hN he B loop_list (start_list rfl rfl) (fun _ _ _ => rfl) new_list hi hg ht (fun D s H fp => ?_) hs
  exact pb_in (body := listBody elt (.ref D) (blk X scope (nB N os fi) s H fp).env) loop_list (start_list rfl rfl) hc rfl (fun _ => rfl) (hi2 s H fp) (hg2 s H fp) (ht2 s H fp) (pb_list rfl (hel s H fp)) (hs2 _)
end
end L2
namespace L2
open PySem PySem.Spec PyProof.Rows
def ssOf (ks : List Str) : Key → Bool
  | .inr x => decide (x ∈ ks)
  | _ => false
def SetT (P : Program) (w : World) (a : Addr) (ks : List Str) : HO := .ext fun h => h.SetOf (mixKind P w) a (ssOf ks) ks.length
def insT (x : Str) (ks : List Str) : List Str := if x ∈ ks then ks else ks ++ [x]
theorem setT_ok {P : Program} {w : World} {H : Hp} {h : Heap} {a : Addr} {ks : List Str} (x : h.SetOf (mixKind P w) a (ssOf ks) ks.length) : ObjOk P w H h a (SetT P w a ks) :=
  ⟨x, let ⟨o, _, _, _, e, _⟩ := x; ⟨o, e⟩, fun h1 h2 ⟨o, es, ep, t, e, r⟩ k => ⟨o, es, ep, t, k o e, r⟩⟩
theorem ins_eq (x : Str) (ks : List Str) : (fun k' => ssOf ks k' || decide (k' = (.inr x : Key))) = ssOf (insT x ks) := by
  funext k
  cases k with
  | inl i => simp [ssOf]
  | inr y =>
    unfold insT
    by_cases h : x ∈ ks
    · rw [if_pos h]
      simp only [ssOf]
      by_cases e : y = x
      · subst e; simp [h]
      · simp [e]
    · rw [if_neg h]
      simp [ssOf, List.mem_append, Bool.decide_or]
theorem ins_len (x : Str) (ks : List Str) : (if ssOf ks (.inr x) = true then ks.length else ks.length + 1) = (insT x ks).length := by
  unfold insT
  by_cases h : x ∈ ks
  · rw [if_pos h, if_pos (show ssOf ks (.inr x) = true by simp [ssOf, h])]
  · rw [if_neg h, if_neg (by simp [ssOf, h]), List.length_append]; rfl
section
variable {X : Cx} {pins : List (Addr × Obj)} {σ : St} {H : Hp} {s : Shared} {a : Addr} {ks : List Str}
theorem Inv.setOf (I : Inv X pins σ H s) (h : H a = some (SetT X.prog X.w a ks)) : s.heap.SetOf (mixKind X.prog X.w) a (ssOf ks) ks.length := (I.hok a _ h).1
theorem Inv.setPut {h' : Heap} {ks' : List Str} {t' : Nat} (I : Inv X pins σ H s) (h : H a = some (SetT X.prog X.w a ks)) (sb : Heap.SameBut a s.heap h') (n : h'.SetOf (mixKind X.prog X.w) a (ssOf ks') ks'.length) : Inv X pins σ (upd H a (SetT X.prog X.w a ks')) { s with heap := h', toks := t' } :=
  I.write (x := a) (e := a) (by rw [h]; exact trivial) (.inl rfl) (fun b u hb e => (sb.2 b hb).trans e) (let ⟨o, _, _, _, e, _⟩ := n; ⟨o, e⟩) (setT_ok n)
theorem call_set0 : CallR X (.type "set") (fun xs H Q => xs = [] ∧ ∀ p, H p = none → Q (.ref p) (upd H p (SetT X.prog X.w p []))) := by
  intro pins s σ H xs us Q I r h
  obtain ⟨rfl, q⟩ := h
  cases r
  refine call_set_0 fun led => ?_
  have n : (s.heap.push { cls := .type "set", dict := none, data := .set #[] 0 (.fresh 0 0 led) }).SetOf (mixKind X.prog X.w) s.heap.objs.size (ssOf []) ([] : List Str).length :=
    ⟨_, #[], 0, _, Heap.get?_push_size _ rfl, ⟨rfl, rfl, rfl⟩, rfl, fun e he => by simp at he, fun k => by cases k <;> simp [ssOf], by decide, by rfl, rfl⟩
  exact ⟨.ref s.heap.objs.size, _, I.laid (t' := s.toks) (fun b u e => Heap.get?_push_of_some _ e) (Nat.le_refl _) (setT_ok n), rfl, q _ I.fresh⟩
theorem boot_set : bootBuiltins "set" = some (.type "set") := by decide +kernel
def rInS (P : Program) (w : World) (neg : Bool) : R2 := fun x y H Q => ∃ z a ks, x = .str z ∧ y = .ref a ∧ H a = some (SetT P w a ks) ∧ Q (.bl (if neg then !decide (z ∈ ks) else decide (z ∈ ks))) H
theorem op_in_set : OpR X (compareOp .In) (rInS X.prog X.w false) := by
  intro pins s σ H x y v u Q I rx ry h
  obtain ⟨z, a, ks, rfl, rfl, ha, q⟩ := h
  obtain ⟨t, rfl⟩ := rx
  cases ry
  exact wpAny_inSet_of (mixKind_str _ _ z t) rfl (I.setOf ha) ⟨.bl _, H, I.tok _, rfl, q⟩
def rAddS (P : Program) (w : World) : V → List V → Hp → VK → Prop := fun x xs H Q => ∃ a z ks, x = .ref a ∧ xs = [.str z] ∧ H a = some (SetT P w a ks) ∧ ks.length + 1 < 4096 ∧ Q .non (upd H a (SetT P w a (insT z ks)))
theorem mt_setadd : MtR X "set.add" (rAddS X.prog X.w) := by
  intro pins s σ H x xs v us Q I rx rv h
  obtain ⟨a, z, ks, rfl, rfl, ha, hz, q⟩ := h
  cases rx
  obtain ⟨u, rfl, t, rfl⟩ := vals1 rv
  refine call_set_add (mixKind_str _ _ z t) rfl (I.setOf ha) hz fun h' sb n => ?_
  rw [ins_eq, ins_len] at n
  exact ⟨.non, _, I.setPut ha sb n, rfl, q⟩
theorem call_len_setT : CallR X (.builtin "len") (fun xs H Q => ∃ a ks, xs = [.ref a] ∧ H a = some (SetT X.prog X.w a ks) ∧ Q (.int ks.length) H) := by
  intro pins s σ H xs us Q I r h
  obtain ⟨a, ks, rfl, ha, q⟩ := h
  obtain ⟨u, rfl, rx⟩ := vals1 r
  cases rx
  obtain ⟨o, es, ep, t, e, ex, d, _, _, b, f, n⟩ := I.setOf ha
  refine call_len_set e ex d f ?_ ⟨.int ks.length, H, I.tok _, ⟨_, by rw [n]⟩, q⟩
  have : es.size < 4096 := b
  omega
end
def tAddS (P : Program) (w : World) (to : TE) (t : TA) : TE := fun σ H Q => to σ H fun x H1 => (∃ a ks, x = .ref a ∧ H1 a = some (SetT P w a ks)) ∧ t σ H1 fun xs H2 => rAddS P w x xs H2 Q
theorem pe_setadd {X : Cx} {o e : Expr} {to : TE} {t : TA} {apos cpos : Pos} (ho : PE X o to) (ha : PA X [e] t)
    (hbase : attributeBase o "add" X.env (eval o X.env) = eval o X.env := by rfl)
    (hfew : ((backTo cpos (starEach [e] X.env)).all (fun x => !x.1) && (backToKw cpos (keywordEach [] X.env)).all (fun x => x.1.isSome)
      && decide ([e].length + ([] : List Keyword).length + (if ([] : List Keyword).isEmpty then 0 else 1) < 30)) = true := by rfl)
    (hline : (apos.endLine == cpos.line) = true := by rfl) (hs : starEach [e] X.env = (false, eval e X.env) :: starEach [] X.env := by rfl) (hplain : (backTo cpos (starEach [] X.env)).any (·.1) = false := by rfl) :
    PE X (.Call (.Attribute o "add" apos) [e] [] cpos) (tAddS X.prog X.w to t) := by
  intro pins s σ H Q I h
  refine wpAny_Call_method_late hbase hfew hline rfl (thn (ho pins s σ H _ I h) fun v s1 ⟨x, H1, I1, r1, ⟨a, ks, ea, hA⟩, q1⟩ => ?_)
  subst ea
  cases r1
  have S := I1.setOf hA
  refine ⟨"set", "set.add", F.plainAttrs_set, F.slot_set_add, F.type_set_add, S.typeIs, S.noDict, ?_⟩
  have hA := ha cpos pins s1 σ H1 _ I1 q1
  rw [hs] at hA ⊢
  refine Calls.callWith_builtin (by show (false || (backTo cpos (starEach [] X.env)).any (·.1)) = false; rw [hplain] <;> rfl) (Calls.evalArgs_plain ?_)
  exact thn hA fun us s2 ⟨vs, H2, I2, r2, q2⟩ => mt_setadd pins s2 σ H2 (.ref a) vs _ us Q I2 rfl r2 q2
theorem new_set {X : Cx} : NewRule X (newSet (.type "set")) (fun a => SetT X.prog X.w a []) := by
  intro pins s σ H E Q I h
  refine wpAny_newSet_of (knd := mixKind X.prog X.w) fun led n => ?_
  have n' : (s.heap.push { cls := .type "set", dict := none, data := .set #[] 0 (.fresh 0 0 led) }).SetOf (mixKind X.prog X.w) s.heap.objs.size (ssOf []) ([] : List Str).length := by
    have e : (fun _ : Key => false) = ssOf [] := by
      funext k; cases k <;> simp [ssOf]
    rw [← e]; exact n
  exact h _ (fun b o e => Heap.get?_push_of_some _ e) (I.laid (t' := s.toks) (fun b u e => Heap.get?_push_of_some _ e) (Nat.le_refl _) (setT_ok n'))
def setBody (elt : Expr) (acc : Value) (env : Env) (k : Sem Fi) : Sem Fi := (do let v ← eval elt env; standAt elt.pos; let _ ← call (.builtin "set.add") [acc, v]) >>= fun _ => k
def tEmS (P : Program) (w : World) (D : Addr) (te : TE) : TB := fun σ H N => te σ H fun v H6 => ∃ z ks, v = .str z ∧ H6 D = some (SetT P w D ks) ∧ ks.length + 1 < 4096 ∧ N σ (upd H6 D (SetT P w D (insT z ks)))
theorem pb_set {Y : Cx} {elt : Expr} {te : TE} {D : Addr} (hx : Y.xe = F0) (hel : PE Y elt te) : PB Y (setBody elt (.ref D) Y.env) (tEmS Y.prog Y.w D te) := by
  intro pins s σ H N k R I h hk
  have a1 := hel pins s σ H _ I h
  rw [hx] at a1
  refine wpAny_bind (wpAny_bind (of_F0 a1 fun y sA ⟨v, HA, IA, rA, z, ks, ev, hD, hz, wA⟩ => wpAny_bind (wpAny_standAt (wpAny_bind ?_))))
  have a2 := mt_setadd pins sA σ HA (.ref D) [v] (.ref D) [y] (fun _ H' => N σ H') IA rfl (.cons rA .nil) ⟨D, z, ks, rfl, by rw [ev], hD, hz, wA⟩
  rw [hx] at a2
  exact of_F0 a2 fun _ sB' ⟨_, HB, IB, _, wB⟩ => wpAny_pure (hk σ HB sB' IB wB)
section
variable {X : Cx} {elt tg iter : Expr} {ifs : List Expr} {scope esc : Scope} {pos : Pos} {N os : List Str} {fi : List Nat} {wi : TI} {g : TG} {tt : TT} {te : TE}
theorem pe_setcomp (hc : X.calm = true) (hN : X.N = N) (he : X.env.scope = esc) (B : BlkOk esc scope N fi) (hi : PI X tg iter wi)
    (hg : ∀ s H fp, PG (blk X scope (nB N os fi) s H fp) tg g) (ht : ∀ s H fp, PTs (blk X scope (nB N os fi) s H fp) ifs tt)
    (hel : ∀ s H fp, PE (blk X scope (nB N os fi) s H fp) elt te)
    (hs : ∀ x, foldedSetIterable iter X.env x = pure x := by intro _; rfl) :
    PE X (.SetComp elt [⟨tg, iter, ifs, 0⟩] scope pos) (tCG (fun a => SetT X.prog X.w a []) os fi wi g tt fun D => tEmS X.prog X.w D te) :=
  pe_compG (gs := []) (body := fun D env => setBody elt (.ref D) env) rfl rfl hc hN he B loop_set (start_set rfl rfl) (fun _ _ _ => rfl) new_set hi hg ht (fun D s H fp => pb_set rfl (hel s H fp)) hs
end
end L2
namespace L2
open PySem PySem.Spec PyProof.Rows
section
variable {X : Cx} {tg : Expr}
end
def tRev (K : PySem.W.Frag) (te : TE) : TE := fun σ H Q => te σ H fun x H1 => ∃ a xs, x = .ref a ∧ SqL K H1 a xs ∧ ∀ p, H1 p = none → Q (.ref p) (upd H1 p (.lst xs.reverse))
theorem pe_rev {X : Cx} {e : Expr} {te : TE} {k : Nat} {p1 p2 p3 pos : Pos} (he : PE X e te) : PE X (.Subscript e (.Slice none none (some (.UnaryOp .USub (.Constant (.int 1) k p1) p3)) p2) pos) (tRev X.K te) := by
  intro pins s σ H Q I h
  refine Subscript_ (thn (he pins s σ H _ I h) fun v s1 ⟨x, H1, I1, r1, q1⟩ => ?_)
  obtain ⟨a, xs, rfl, hx, q⟩ := q1
  cases r1
  have st := po_some (pe_un un_neg (pe_int (X := X) (i := 1) (j := k) (pos := p1)) (pos := p3))
  refine wpAny_Slice ?_
  rw [evalPart_none]
  refine wpAny_pure (wpAny_pure ?_)
  refine thn (st pins s1 σ H1 (fun o H' => o = some (-1) ∧ H' = H1) I1 ⟨_, rfl, _, rfl, rfl, rfl⟩) fun vs s3 ⟨o, H3, I3, pp, e1, e2⟩ => ?_
  subst e1
  rw [e2] at I3
  clear e2
  have I4 : Inv X pins σ H1 { s3 with heap := s3.heap.push { cls := .type "slice", data := .fields #[.none, .none, vs] } } := I3.kept (t' := s3.toks) fun b ob q => Heap.get?_push_of_some _ q
  obtain ⟨its, r, ht, hz⟩ := I4.list hx
  show wpAny (model X.prog X.w) X.A (subscriptTail e (.Slice none none (some (.UnaryOp .USub (.Constant (.int 1) k p1) p3)) p2) (.ref a) (.ref s3.heap.objs.size)) (EP X pins σ Q) X.xe { s3 with heap := s3.heap.push { cls := .type "slice", data := .fields #[.none, .none, vs] } }
  refine tail_any (ops := [.ref a, .ref s3.heap.objs.size]) ht.isList.typeIs slot_list_getitem.lookup ?_ (by with_unfolding_all rfl)
  refine wpAny_getItem_list_slice ht.isList (Heap.IsSliceOf.new ..) .none .none pp (by simp) ?_ (by rw [List.size_toArray, ← r.length]; omega)
  rw [PySem.W.krv_pick]
  refine ⟨.ref _, _, I4.laid (t' := s3.toks) (o := .lst xs.reverse) (fun b ob q => Heap.get?_push_of_some _ q) (Nat.le_refl _) ?_, rfl, q _ (I4.hok.fresh (Nat.le_refl _))⟩
  exact ⟨by rw [List.length_reverse]; exact hz, _, 0, r.reverse, Heap.get?_push_size _ rfl⟩
end L2
namespace L2
open PySem PySem.Spec PyProof.Rows
inductive TopR (K : PySem.W.Frag) (H : Hp) (R : V → V → Bool → Prop) : V → V → Bool → Prop where
  | lsts {a c : Addr} {xs ys : List V} (e : Nat → Bool) (ha : SqL K H a xs) (hc : SqL K H c ys) (hl : xs.length = ys.length) (h : ∀ j x y, xs[j]? = some x → ys[j]? = some y → R x y (e j)) : TopR K H R (.ref a) (.ref c) ((List.range xs.length).all e)
  | lens {a c : Addr} {xs ys : List V} (ha : SqL K H a xs) (hc : SqL K H c ys) (hl : xs.length ≠ ys.length) : TopR K H R (.ref a) (.ref c) false
  | tups {a c : Addr} {xs ys : List V} (e : Nat → Bool) (ha : SqT K H a xs) (hc : SqT K H c ys) (h : ∀ j x y, xs[j]? = some x → ys[j]? = some y → R x y (e j)) : TopR K H R (.ref a) (.ref c) ((List.range (min xs.length ys.length)).all e && xs.length == ys.length)
def EqD (K : PySem.W.Frag) (H : Hp) : Nat → V → V → Bool → Prop
  | 0, x, y, b => (flatV x = true ∧ flatV y = true ∧ b = eqV x y) ∨ ∃ a, x = .ref a ∧ y = .ref a ∧ b = true
  | n + 1, x, y, b => ((flatV x = true ∧ flatV y = true ∧ b = eqV x y) ∨ ∃ a, x = .ref a ∧ y = .ref a ∧ b = true) ∨ ∃ a c, x = .ref a ∧ y = .ref c ∧ a ≠ c ∧ TopR K H (EqD K H n) x y b
section
variable {X : Cx} {pins : List (Addr × Obj)} {σ : St} {H : Hp} {s : Shared}
theorem items_R {R : V → V → Bool → Prop} {A : Around} {xs ys : List V} {us vs : List Value} {e : Nat → Bool} (hR : ∀ x y b u v, R x y b → RelV x u → RelV y v → SeqAt.EqAt A s u v b) (r1 : Vals xs us) (r2 : Vals ys vs) (h : ∀ j x y, xs[j]? = some x → ys[j]? = some y → R x y (e j)) :
    ∀ j (h1 : j < us.toArray.size) (h2 : j < vs.toArray.size), SeqAt.EqAt A s us.toArray[j] vs.toArray[j] (e j) := fun j h1 h2 => by
  have l1 : j < xs.length := by rw [r1.length]; simpa using h1
  have l2 : j < ys.length := by rw [r2.length]; simpa using h2
  obtain ⟨u, q1, z1⟩ := r1.get (i := j) (x := xs[j]) (by simp [l1])
  obtain ⟨v, q2, z2⟩ := r2.get (i := j) (x := ys[j]) (by simp [l2])
  have e1 : us.toArray[j] = u := by
    have : us[j]? = some us.toArray[j] := by simp
    rw [this] at q1; exact Option.some.inj q1
  have e2 : vs.toArray[j] = v := by
    have : vs[j]? = some vs.toArray[j] := by simp
    rw [this] at q2; exact Option.some.inj q2
  rw [e1, e2]
  exact hR _ _ _ _ _ (h j _ _ (by simp [l1]) (by simp [l2])) z1 z2
theorem top_at {R : V → V → Bool → Prop} {A : Around} {x y : V} {b : Bool} {u v : Value} (I : Inv X pins σ H s) (hu : A.units < cLine) (hR : ∀ x y b u v, R x y b → RelV x u → RelV y v → SeqAt.EqAt A.in1 s u v b) (h : TopR X.K H R x y b) (rx : RelV x u) (ry : RelV y v) : SeqAt.RcAt A s u v b := by
  cases h with
  | lsts e ha hc hl h =>
    cases rx
    cases ry
    obtain ⟨its, r1, p1, _⟩ := I.list ha
    obtain ⟨its2, r2, p2, _⟩ := I.list hc
    have z := SeqAt.RcAt.lists (A := A) p1.isList p2.isList (by rw [List.size_toArray, List.size_toArray, ← r1.length, ← r2.length]; exact hl) hu (items_R hR r1 r2 h)
    rw [List.size_toArray, ← r1.length] at z
    exact z
  | lens ha hc hl =>
    cases rx
    cases ry
    obtain ⟨its, r1, p1, _⟩ := I.list ha
    obtain ⟨its2, r2, p2, _⟩ := I.list hc
    exact SeqAt.RcAt.lists_lengths (A := A) p1.isList p2.isList (by rw [List.size_toArray, List.size_toArray, ← r1.length, ← r2.length]; simpa using hl) hu
  | tups e ha hc h =>
    cases rx
    cases ry
    obtain ⟨its, r1, p1, _⟩ := I.tuple ha
    obtain ⟨its2, r2, p2, _⟩ := I.tuple hc
    have z := SeqAt.RcAt.tuples (A := A) (show s.heap.IsTuple _ its.toArray from p1) (show s.heap.IsTuple _ its2.toArray from p2) hu (items_R hR r1 r2 h)
    rw [List.size_toArray, List.size_toArray, ← r1.length, ← r2.length] at z
    exact z
theorem flat_at {A : Around} {x y : V} {b : Bool} {u v : Value} (h : (flatV x = true ∧ flatV y = true ∧ b = eqV x y) ∨ ∃ a, x = .ref a ∧ y = .ref a ∧ b = true) (rx : RelV x u) (ry : RelV y v) : SeqAt.EqAt A s u v b := by
  rcases h with ⟨f1, f2, rfl⟩ | ⟨a, rfl, rfl, rfl⟩
  · exact eqAt_V rx ry f1 f2
  · cases rx
    cases ry
    exact SeqAt.EqAt.same _
theorem eqd_at (I : Inv X pins σ H s) : ∀ (n : Nat) (A : Around), A.units + n < cLine → ∀ (x y : V) (b : Bool) (u v : Value), EqD X.K H n x y b → RelV x u → RelV y v → SeqAt.EqAt A s u v b
  | 0, A, hu, x, y, b, u, v, h, rx, ry => flat_at h rx ry
  | n + 1, A, hu, x, y, b, u, v, h, rx, ry => by
    rcases h with h | ⟨a, c, rfl, rfl, ne, h⟩
    · exact flat_at h rx ry
    · cases rx
      cases ry
      exact SeqAt.EqAt.of_refs ne (top_at I (by omega) (eqd_at I n A.in1 (by show A.units + 1 + n < cLine; omega)) h rfl rfl)
def rEqD (K : PySem.W.Frag) (neg : Bool) : R2 := fun x y H Q => ∃ n b, n ≤ 40 ∧ TopR K H (EqD K H n) x y b ∧ Q (.bl (if neg then !b else b)) H
theorem op_eqD (hu : X.A.units + 60 < cLine) : OpR X (compareOp .Eq) (rEqD X.K false) := by
  intro pins s σ H x y v u Q I rx ry h
  obtain ⟨n, b, hn, h, q⟩ := h
  exact top_at I (by omega) (eqd_at I n X.A.in1 (by show X.A.units + 1 + n < cLine; omega)) h rx ry _ _ _ _ ⟨.bl _, H, I, rfl, q⟩
end
theorem Room.units60 {k : Nat} {A : Around} (r : Room k A) : A.units + 60 < cLine := by have := r.un; omega
end L2
namespace L2
open PySem PySem.Spec PyProof.Rows
def HF (q : Program) : List Str → Prop
  | [] => True
  | n :: ns => (∃ d, (recsOf q).find? (fun e => e.name == n) = some d) ∧ HF q ns
def HC (K : PySem.W.Frag) : List Str → Prop
  | [] => True
  | n :: ns => (∃ f c T fd, CodeN K n f c T fd) ∧ HC K ns
def HT0 (K : PySem.W.Frag) : List Str → Prop
  | [] => True
  | n :: ns => K.lookup (tbOf K n) = none ∧ HT0 K ns
theorem HF.mem {q : Program} : ∀ {ns : List Str}, HF q ns → ∀ n ∈ ns, ∃ d, (recsOf q).find? (fun e => e.name == n) = some d
  | [], _, n, h => nomatch h
  | _ :: _, h, n, hn => by
    rcases List.mem_cons.mp hn with rfl | hn
    · exact h.1
    · exact HF.mem h.2 n hn
theorem HC.mem {K : PySem.W.Frag} : ∀ {ns : List Str}, HC K ns → ∀ n ∈ ns, ∃ f c T fd, CodeN K n f c T fd
  | [], _, n, h => nomatch h
  | _ :: _, h, n, hn => by
    rcases List.mem_cons.mp hn with rfl | hn
    · exact h.1
    · exact HC.mem h.2 n hn
theorem HT0.mem {K : PySem.W.Frag} : ∀ {ns : List Str}, HT0 K ns → ∀ n ∈ ns, K.lookup (tbOf K n) = none
  | [], _, n, h => nomatch h
  | _ :: _, h, n, hn => by
    rcases List.mem_cons.mp hn with rfl | hn
    · exact h.1
    · exact HT0.mem h.2 n hn
theorem walk_ofN (names : List Str) {l : PySem.W.OpenLaw} {n k : Nat} {q : Program} {loose : List Str} {XP : (Str → Option Value) → Heap → Prop} {YP : World → Heap → Prop} {d : DefRec} {K : Params → PySem.W.Frag} {CX : World → CXT} {sp : World → Sp} {x : Str}
    (hn : l.most = some n) (hn2 : n ≤ sizeLine) (hdf : d.params.defaults = []) (hr : Room k callerA)
    (hY : ∀ (w : World) (h : Heap), YP w h → (K w.params).In h) (hf : HF q names) (hC : ∀ w : World, HC (K w.params) names) (hKT : ∀ w : World, HT0 (K w.params) names)
    (F : ∀ (w : World) (mg : Str → Option Value) (fa : Addr) (h : Heap), (K w.params).In h → h.Ns mainGlobals mg → mg d.name = some (.ref fa) →
      ∃ fd : FuncData, (∀ (s : Shared) (u : Value), BindsTo s fd ⟨[u], []⟩ [(x, u)]) ∧
        ∀ base : Heap, (K w.params).In base → base.Ns mainGlobals mg → BmOf mg base → FnOk l.prog w (K w.params) mg base (CX w) k fa fd [x] (sp w))
    (hsp : ∀ (w : World) (H : Hp) (a : Addr) (ns : List Int), ns.length ≤ n → (∀ m ∈ names, H (tbOf (K w.params) m) = some (.tbl #[])) → SqL (K w.params) H a (ns.map V.int) → sp w [.ref a] H (fun v _ => v = .bl true) fun _ _ _ => False)
    (hCX : ∀ (w : World) (H : Hp) (s : Shared) (e : Value) (s' : Shared), CX w [] H s (fun _ _ _ => False) e s' → False) :
    PySem.W.WalkO q loose XP YP l.row.toRowW d [] (fun f vs => PySem.call f vs) := by
  refine walk_ofT (Ts := fun w => names.map fun m => (cdOf (K w.params) m, tbOf (K w.params) m)) hn hn2 hdf hr hY ?_ ?_ F ?_ hCX
  · intro w h lo mean mg mb KX Tp t ht
    obtain ⟨m, hm, rfl⟩ := List.mem_map.mp ht
    obtain ⟨f, c, T, fd, C⟩ := (hC w).mem m hm
    obtain ⟨d, hd⟩ := hf.mem m hm
    exact C.tab KX Tp hd
  · intro w t ht
    obtain ⟨m, hm, rfl⟩ := List.mem_map.mp ht
    exact (hKT w).mem m hm
  · intro w H a ns hl hO hS
    exact hsp w H a ns hl (fun m hm => hO.tab _ (List.mem_map.mpr ⟨m, hm, rfl⟩)) hS
end L2
namespace L2
open PySem PySem.Spec PyProof.Rows
section
variable {κ : Type} [DecidableEq κ]
def valV (kvs : List (κ × V)) (k : κ) : Option V := (kvs.find? fun kv => decide (kv.1 = k)).map (·.2)
def putK (kvs : List (κ × V)) (k : κ) (v : V) : List (κ × V) :=
  if (kvs.any fun kv => decide (kv.1 = k)) = true then kvs.map (fun kv => if kv.1 = k then (kv.1, v) else kv) else kvs ++ [(k, v)]
theorem valV_pos {p : κ × V} {r : List (κ × V)} {k : κ} (e : p.1 = k) : valV (p :: r) k = some p.2 := by simp [valV, List.find?_cons, e]
theorem valV_neg {p : κ × V} {r : List (κ × V)} {k : κ} (e : ¬ p.1 = k) : valV (p :: r) k = valV r k := by simp [valV, List.find?_cons, e]
theorem valV_any (k : κ) : ∀ kvs : List (κ × V), (kvs.any fun kv => decide (kv.1 = k)) = (valV kvs k).isSome
  | [] => rfl
  | p :: r => by
    rw [List.any_cons]
    by_cases e : p.1 = k
    · simp only [valV_pos e, decide_eq_true e, Bool.true_or, Option.isSome_some]
    · rw [valV_neg e, decide_eq_false e, Bool.false_or]; exact valV_any k r
theorem valV_map (k j : κ) (y : V) : ∀ kvs : List (κ × V), valV (kvs.map fun kv => if kv.1 = k then (kv.1, y) else kv) j = (valV kvs j).map fun x => if j = k then y else x
  | [] => rfl
  | p :: r => by
    have ih := valV_map k j y r
    rw [List.map_cons]
    by_cases h : p.1 = k
    · rw [if_pos h]
      by_cases e : p.1 = j
      · rw [valV_pos (p := (p.1, y)) e, valV_pos e, Option.map_some, if_pos (e.symm.trans h)]
      · rw [valV_neg (p := (p.1, y)) e, valV_neg e, ih]
    · rw [if_neg h]
      by_cases e : p.1 = j
      · rw [valV_pos (p := p) e, valV_pos e, Option.map_some, if_neg (fun z => h (e.trans z))]
      · rw [valV_neg (p := p) e, valV_neg e, ih]
theorem valV_snoc (k j : κ) (y : V) : ∀ kvs : List (κ × V), valV kvs k = none → valV (kvs ++ [(k, y)]) j = if j = k then some y else valV kvs j
  | [], _ => by
    by_cases e : k = j
    · rw [if_pos e.symm]; exact valV_pos (p := (k, y)) e
    · rw [if_neg (fun z => e z.symm)]; exact valV_neg (p := (k, y)) e
  | p :: r, hn => by
    rw [List.cons_append]
    have hk : ¬ p.1 = k := fun z => by rw [valV_pos z] at hn; cases hn
    rw [valV_neg hk] at hn
    have ih := valV_snoc k j y r hn
    by_cases e : p.1 = j
    · rw [valV_pos e, valV_pos e, if_neg (fun z => hk (e.trans z))]
    · rw [valV_neg e, valV_neg e, ih]
theorem valV_put (kvs : List (κ × V)) (k j : κ) (y : V) : valV (putK kvs k y) j = if j = k then some y else valV kvs j := by
  unfold putK
  by_cases a : (kvs.any fun kv => decide (kv.1 = k)) = true
  · rw [if_pos a, valV_map]
    rw [valV_any] at a
    by_cases e : j = k
    · obtain ⟨x, hx⟩ := Option.isSome_iff_exists.mp a
      rw [if_pos e, e, hx, Option.map_some, if_pos rfl]
    · rw [if_neg e]
      cases valV kvs j with
      | none => rfl
      | some x => rw [Option.map_some, if_neg e]
  · rw [if_neg a]
    refine valV_snoc k j y kvs ?_
    rw [valV_any] at a
    cases q : valV kvs k with
    | none => rfl
    | some x => rw [q] at a; exact (a rfl).elim
theorem length_putK (kvs : List (κ × V)) (k : κ) (v : V) : (putK kvs k v).length ≤ kvs.length + 1 := by
  unfold putK
  split
  · rw [List.length_map]; omega
  · rw [List.length_append, List.length_cons, List.length_nil]; omega
theorem putK_new {kvs : List (κ × V)} {k : κ} (v : V) (h : valV kvs k = none) : putK kvs k v = kvs ++ [(k, v)] := by
  unfold putK
  rw [valV_any, h]
  exact if_neg (by decide)
theorem KV.val {kvs : List (κ × V)} {vs : List (κ × Value)} (r : KV kvs vs) (k : κ) : RelO (valV kvs k) (valueAt vs k) := by
  unfold KV at r
  induction r with
  | nil => exact True.intro
  | @cons p q ps qs h t ih =>
    obtain ⟨h1, h2⟩ := h
    by_cases e : p.1 = k
    · have e' : q.1 = k := h1.symm.trans e
      have b : valueAt (q :: qs) k = some q.2 := by simp [valueAt, List.find?_cons, e']
      rw [valV_pos e, b]; exact h2
    · have e' : ¬ q.1 = k := fun z => e (h1.trans z)
      have b : valueAt (q :: qs) k = valueAt qs k := by simp [valueAt, List.find?_cons, e']
      rw [valV_neg e, b]; exact ih
theorem KV.any {kvs : List (κ × V)} {vs : List (κ × Value)} (r : KV kvs vs) (k : κ) : (kvs.any fun kv => decide (kv.1 = k)) = vs.any fun kv => decide (kv.1 = k) := by
  unfold KV at r
  induction r with
  | nil => rfl
  | cons h t ih => rw [List.any_cons, List.any_cons, ih, h.1]
theorem KV.repl {kvs : List (κ × V)} {vs : List (κ × Value)} (r : KV kvs vs) (k : κ) {y : V} {u : Value} (ry : RelV y u) :
    KV (kvs.map fun kv => if kv.1 = k then (kv.1, y) else kv) (vs.map fun kv => if kv.1 = k then (kv.1, u) else kv) := by
  unfold KV at r ⊢
  induction r with
  | nil => exact .nil
  | @cons p q ps qs h t ih =>
    rw [List.map_cons, List.map_cons]
    refine .cons ?_ ih
    obtain ⟨h1, h2⟩ := h
    by_cases e : p.1 = k
    · rw [if_pos e, if_pos (h1.symm.trans e)]; exact ⟨h1, ry⟩
    · rw [if_neg e, if_neg (fun z => e (h1.trans z))]; exact ⟨h1, h2⟩
theorem KV.put {kvs : List (κ × V)} {vs : List (κ × Value)} (r : KV kvs vs) (k : κ) {y : V} {u : Value} (ry : RelV y u) : KV (putK kvs k y) (stored vs k u) := by
  unfold putK stored
  rw [r.any k]
  by_cases e : (vs.any fun kv => decide (kv.1 = k)) = true
  · rw [if_pos e, if_pos e]; exact r.repl k ry
  · rw [if_neg e, if_neg e]; exact Paired.snoc r ⟨rfl, ry⟩
theorem KV.length {kvs : List (κ × V)} {vs : List (κ × Value)} (r : KV kvs vs) : kvs.length = vs.length := Paired.length r
end
theorem kV_is {P : Program} {w : World} {k : Key} {u : Value} (r : RelV (kV k) u) : (mixKind P w).is k u = true := by
  cases k with
  | inl i => obtain ⟨t, e⟩ := (show ∃ t, u = Value.int i t from r); subst e; exact mixKind_int P w i t
  | inr x => obtain ⟨t, e⟩ := (show ∃ t, u = Value.str x t from r); subst e; exact mixKind_str P w x t
theorem items_are {P : Program} {w : World} : ∀ {ks : List Key} {us : List Value}, Vals (ks.map kV) us → ItemsAre (mixKind P w) ks us
  | [], _, r => by rw [List.map_nil] at r; cases r; exact .nil
  | k :: ks, _, r => by
    rw [List.map_cons] at r
    cases r with
    | cons h t => exact .cons (kV_is h) (items_are t)
abbrev KT (H : Hp) : List (List Key × V) → List (List Key × Addr × Value) → Prop := Paired fun p q => p.1 = q.1 ∧ H q.2.1 = some (.tup (p.1.map kV)) ∧ RelV p.2 q.2.2
theorem KT.val {H : Hp} {kvs : List (List Key × V)} {xs : List (List Key × Addr × Value)} (r : KT H kvs xs) (k : List Key) : RelO (valV kvs k) ((atKey xs k).map (·.2)) := by
  induction r with
  | nil => exact True.intro
  | @cons p q ps qs h t ih =>
    obtain ⟨h1, _, h2⟩ := h
    by_cases e : p.1 = k
    · have e' : q.1 = k := h1.symm.trans e
      have b : atKey (q :: qs) k = some q.2 := by simp [atKey, List.find?_cons, e']
      rw [valV_pos e, b]; exact h2
    · have e' : ¬ q.1 = k := fun z => e (h1.trans z)
      have b : atKey (q :: qs) k = atKey qs k := by simp [atKey, List.find?_cons, e']
      rw [valV_neg e, b]; exact ih
section
variable {P : Program} {w : World} {H : Hp} {h : Heap} {a : Addr}
theorem rd_of {u : HO} (ok : HOk P w H h) (e : Rd H a u) : ObjOk P w H h a u := e.ok ok
theorem dk_rd {kvs : List (Key × V)} (ok : HOk P w H h) (e : Rd H a (.dK kvs)) : kvs.length ≤ sizeLine ∧ (a == sysModules) = false ∧ ∃ vs, KV kvs vs ∧ h.DictOf (mixKind P w) a vs :=
  show ObjOk P w H h a (.dK kvs) from rd_of ok e
theorem dk_of {kvs : List (Key × V)} (ok : HOk P w H h) (e : H a = some (.dK kvs)) : kvs.length ≤ sizeLine ∧ (a == sysModules) = false ∧ ∃ vs, KV kvs vs ∧ h.DictOf (mixKind P w) a vs := dk_rd ok (.inl e)
theorem key_of {ks : List Key} (ok : HOk P w H h) (e : H a = some (.tup (ks.map kV))) : (tupleKind (mixKind P w)).is h ks a := by
  obtain ⟨_, its, r, o, h1, h2, n, h3⟩ := (show ObjOk P w H h a (.tup (ks.map kV)) from ok a _ e)
  exact ⟨o, its.toArray, n, h1, h2, h3, by simpa using items_are r⟩
theorem dt_rd {kvs : List (List Key × V)} (ok : HOk P w H h) (e : Rd H a (.dT kvs)) : kvs.length ≤ sizeLine ∧ (a == sysModules) = false ∧
    ∃ xs, KT H kvs xs ∧ h.DictOfH (tupleKind (mixKind P w)) a xs := by
  obtain ⟨z, y, xs, r, o, es, ep, h1, h2, h3, h4, h5⟩ := (show ObjOk P w H h a (.dT kvs) from rd_of ok e)
  refine ⟨z, y, xs, r, o, es, ep, h1, h2, h3, h4, fun x hx => ?_, h5⟩
  have all : ∀ {l : List (List Key × V)} {m : List (List Key × Addr × Value)}, KT H l m → ∀ x ∈ m, (tupleKind (mixKind P w)).is h x.1 x.2.1 := by
    intro l m q
    induction q with
    | nil => intro x hx; exact nomatch hx
    | @cons p q ps qs hq t ih =>
      intro x hx
      rcases List.mem_cons.mp hx with e | hx
      · subst e
        exact key_of ok (by rw [← hq.1]; exact hq.2.1)
      · exact ih x hx
  exact all r x hx
end
def DGet (H : Hp) (a : Addr) (y : V) (r : Option V) : Prop :=
  (∃ kvs k, Rd H a (.dK kvs) ∧ y = kV k ∧ r = valV kvs k) ∨ ∃ kvs k b, Rd H a (.dT kvs) ∧ y = .ref b ∧ H b = some (.tup (k.map kV)) ∧ r = valV kvs k
theorem DGet.k {H : Hp} {a : Addr} {kvs : List (Key × V)} {k : Key} (e : H a = some (.dK kvs)) : DGet H a (kV k) (valV kvs k) := .inl ⟨kvs, k, .inl e, rfl, rfl⟩
section
variable {X : Cx} {pins : List (Addr × Obj)} {σ : St} {H : Hp} {s : Shared} {a : Addr} {y v : V} {u r : Value} {o : Option V} {A : Around} {E : Value → Shared → Prop}
theorem d_getItem {Q : Value → Shared → Prop} (hu : A.units + 1 < cLine) (I : Inv X pins σ H s) (g : DGet H a y (some v)) (ry : RelV y u) (h : ∀ w' s', Inv X pins σ H s' → RelV v w' → Q w' s') :
    wpAny (model X.prog X.w) A (getItem (.ref a) u) Q E s := by
  rcases g with ⟨kvs, k, e, ey, l⟩ | ⟨kvs, k, b, e, ey, eb, l⟩
  · subst ey
    obtain ⟨z, hd, vs, rel, dd⟩ := dk_rd I.hok e
    obtain ⟨w', hw, rw'⟩ := RelO.some_of (v := v) (o := valueAt vs k) (by rw [l]; exact rel.val k)
    exact wpAny_getItem_of (kV_is ry) dd.mapOf hw (h w' _ (I.tok _) rw')
  · subst ey
    cases (show u = Value.ref b from ry)
    obtain ⟨z, hd, xs, rel, dd⟩ := dt_rd I.hok e
    obtain ⟨w', hw, rw'⟩ := RelO.some_of (v := v) (o := (atKey xs k).map (·.2)) (by rw [l]; exact rel.val k)
    obtain ⟨p, hp, hp2⟩ := Option.map_eq_some_iff.mp hw
    refine wpAny_getItem_heap (tupleKind_room_in1 hu) (key_of I.hok eb) dd hp ?_
    rw [hp2]
    exact h w' _ (I.tok _) rw'
theorem d_write {h' : Heap} {t' : Nat} {ob : HO} (I : Inv X pins σ H s) (mu : Mut (H a)) (hs : Heap.SameBut a s.heap h') (he : ∃ q, h'.get? a = some q) (new : ObjOk X.prog X.w (upd H a ob) h' a ob) :
    Inv X pins σ (upd H a ob) { s with heap := h', toks := t' } :=
  I.write (x := a) (e := a) mu (.inl rfl) (fun b q hb z => (hs.2 b hb).trans z) he new
theorem dk_new {P : Program} {w : World} {H' : Hp} {h' : Heap} {kvs : List (Key × V)} {vs : List (Key × Value)} (z : kvs.length ≤ sizeLine) (hd : (a == sysModules) = false) (rel : KV kvs vs) (dd : h'.DictOf (mixKind P w) a vs) :
    ObjOk P w H' h' a (.dK kvs) := ⟨z, hd, vs, rel, dd⟩
end
section
variable {X : Cx} {pins : List (Addr × Obj)} {σ : St} {H : Hp} {s : Shared} {a : Addr} {kvs : List (Key × V)} {k : Key} {u : Value} {A : Around} {E : Value → Shared → Prop}
end
def NoSl (i : Expr) : Prop := ∀ ov iv, subscripted i false ov iv = operate [ov, iv] (getItem ov iv)
theorem subD_of {prog : Program} {w : World} {A : Around} {E : Value → Shared → Prop} {s : Shared} {env : Env} {value slice : Expr} {pos : Pos} {T id : String} {Q : Value → Shared → Prop}
    (hl : typeLookup (.type T) "__getitem__" = pure (some (.builtin id))) (hs : NoSl slice)
    (h : wpAny (model prog w) A (eval value env) (fun o s₁ => wpAny (model prog w) A (eval slice env) (fun i s₂ => s₂.TypeIs o T ∧ wpAny (model prog w) A (getItem o i) Q E s₂) E s₁) E s) :
    wpAny (model prog w) A (eval (.Subscript value slice pos) env) Q E s := by
  refine Subscript_ (wpAny_mono h (fun o s₁ h₁ => wpAny_mono h₁ (fun i s₂ h₂ => ?_) fun _ _ x => x) fun _ _ x => x)
  obtain ⟨hT, h₂⟩ := h₂
  unfold subscriptTail
  refine wpAny_bind ?_
  rw [getitemInPython_of_ne hT.not_modules]
  refine wpAny_bind (wpAny_specialOf hT hl ?_)
  have fin : wpAny (model prog w) A (subscripted slice false o i) (fun r s₃ => wpAny (model prog w) A (letTemporaryGo value o r >>= fun _ => pure r) Q E s₃) E s₂ := by
    rw [hs o i]
    exact wpAny_operating (wpAny_mono h₂ (fun r s₃ h₃ => wpAny_bind (wpAny_letTemporaryGo (wpAny_pure h₃))) fun _ _ x => x)
  first
    | exact wpAny_pure (wpAny_bind fin)
    | exact wpAny_bind (wpAny_pure (wpAny_bind fin))
    | exact wpAny_bind fin
theorem dict_typeIs {X : Cx} {pins : List (Addr × Obj)} {σ : St} {H : Hp} {s : Shared} {a : Addr} {y : V} {o : Option V} (I : Inv X pins σ H s) (g : DGet H a y o) : s.TypeIs (.ref a) "dict" := by
  rcases g with ⟨kvs, k, e, _, _⟩ | ⟨kvs, k, b, e, _, _, _⟩
  · obtain ⟨_, _, vs, _, dd⟩ := dk_rd I.hok e
    exact dd.typeIs
  · obtain ⟨_, _, xs, _, dd⟩ := dt_rd I.hok e
    exact dd.typeIs
def tDGet (td ty : TE) : TE := fun σ H Q => td σ H fun x H1 => ty σ H1 fun y H2 => ∃ a v, x = .ref a ∧ DGet H2 a y (some v) ∧ Q v H2
section
variable {X : Cx} {o i e value : Expr} {pos pos' tpos : Pos} {td ty tv : TE}
theorem pe_dget (hu : X.A.units + 1 < cLine) (ho : PE X o td) (hi : PE X i ty) (hs : NoSl i) : PE X (.Subscript o i pos) (tDGet td ty) := by
  intro pins s σ H Q I h
  refine subD_of PySem.F.slot_dict_getitem.lookup hs (thn (ho pins s σ H _ I h) fun u s1 ⟨x, H1, I1, rx, q1⟩ => thn (hi pins s1 σ H1 _ I1 q1) fun iv s2 ⟨y, H2, I2, ry, a, v, ex, g, q2⟩ => ?_)
  subst ex
  obtain rfl : u = Value.ref a := rx
  exact ⟨dict_typeIs I2 g, d_getItem hu I2 g ry fun w' s3 I3 rw' => ⟨v, H2, I3, rw', q2⟩⟩
end
section
variable {X : Cx} {pos : Pos}
end
def IsD (H : Hp) (a : Addr) : Prop := (∃ kvs, Rd H a (.dK kvs)) ∨ ∃ kvs, Rd H a (.dT kvs)
theorem isD_at {X : Cx} {pins : List (Addr × Obj)} {σ : St} {H : Hp} {s : Shared} {a : Addr} (I : Inv X pins σ H s) (d : IsD H a) :
    s.TypeIs (.ref a) "dict" ∧ (∀ b, Value.ref a = .ref b → ∃ ob, s.heap.get? b = some ob ∧ ob.dict = none) ∧ (a == sysModules) = false := by
  rcases d with ⟨kvs, e⟩ | ⟨kvs, e⟩
  · obtain ⟨_, hd, vs, _, dd⟩ := dk_rd I.hok e
    refine ⟨dd.typeIs, fun b q => ?_, hd⟩
    cases q
    obtain ⟨ob, _, _, h1, h2, _⟩ := dd
    exact ⟨ob, h1, h2.2.1⟩
  · obtain ⟨_, hd, xs, _, dd⟩ := dt_rd I.hok e
    refine ⟨dd.typeIs, fun b q => ?_, hd⟩
    cases q
    obtain ⟨ob, _, _, h1, h2, _⟩ := dd
    exact ⟨ob, h1, h2.2.1⟩
section
variable {X : Cx} {pins : List (Addr × Obj)} {σ : St} {H : Hp} {s : Shared} {a : Addr} {y d : V} {u r : Value} {o : Option V} {A : Around} {E : Value → Shared → Prop}
end
section
variable {X : Cx} {o e f : Expr} {apos cpos : Pos} {td ty tx : TE}
end
section
variable {X : Cx} {pins : List (Addr × Obj)} {σ : St} {H : Hp} {s : Shared} {a : Addr} {kvs : List (Key × V)} {A : Around} {E : Value → Shared → Prop}
end
section
variable {X : Cx} {pins : List (Addr × Obj)} {σ : St} {H : Hp} {s : Shared} {a : Addr} {y : V} {u : Value} {A : Around} {E : Value → Shared → Prop}
end
end L2
namespace L2
open PySem PySem.Spec PyProof.Rows
section
variable {κ : Type} [DecidableEq κ]
end
end L2
namespace L2
open PySem PySem.Spec PyProof.Rows
def cutS (z : Str) (lo hi : Option Int) : Str := ⟨((z.cps.toList.drop (HT.sIx z.length 0 lo)).take (HT.sIx z.length z.length hi - HT.sIx z.length 0 lo)).toArray⟩
theorem sIx_le (n d : Nat) (hd : d ≤ n) (v : Option Int) : HT.sIx n d v ≤ n := by
  cases v with
  | none => exact hd
  | some i =>
    show (if i < 0 then (i + (n : Int)).toNat else min i.toNat n) ≤ n
    by_cases h : i < 0
    · rw [if_pos h]; omega
    · rw [if_neg h]; omega
theorem pick_cut (z : Str) (lo hi : Option Int) : (Builtin.Str.strSliceIndices lo hi 1 z.length).filterMap (z.cps[·]?) = (z.cps.toList.drop (HT.sIx z.length 0 lo)).take (HT.sIx z.length z.length hi - HT.sIx z.length 0 lo) ∧
    (Builtin.Str.strSliceIndices lo hi 1 z.length).length = HT.sIx z.length z.length hi - HT.sIx z.length 0 lo := by
  obtain ⟨h1, h2, h3⟩ := slice_bounds lo hi z.length
  have e : Builtin.Str.strSliceIndices lo hi 1 z.length = sliceRange (sliceBounds lo hi none z.length).1 (sliceBounds lo hi none z.length).2.1 (sliceBounds lo hi none z.length).2.2 := rfl
  rw [e, h1, h2, h3, sliceRange_one]
  exact ⟨pick_run _ _ _, by simp⟩
theorem cutS_len (z : Str) (lo hi : Option Int) : (cutS z lo hi).length ≤ z.length := by
  unfold cutS Str.length
  simp
  omega
section
variable {X : Cx}
theorem part_of {v : Value} {o : Option Int} (h : IsPart v o) : ∃ p : Option (Int × Tok), v = partValue p ∧ p.map (·.1) = o := by
  cases h with
  | none => exact ⟨none, rfl, rfl⟩
  | int i t => exact ⟨some (i, t), rfl, rfl⟩
def rSlS : V → Option Int → Option Int → Hp → VK → Prop := fun x lo hi H Q => ∃ z, x = .str z ∧ z.length ≤ sizeLine ∧ Q (.str (cutS z lo hi)) H
theorem sl_str : SlR X rSlS := by
  intro pins s σ H x v vl vu lo hi sl Q I rx hs pl pu h
  obtain ⟨z, rfl, hz, q⟩ := h
  obtain ⟨t, rfl⟩ := rx
  obtain ⟨l, rfl, el⟩ := part_of pl
  obtain ⟨u, rfl, eu⟩ := part_of pu
  subst el eu
  refine ⟨"str", _, PySem.F.slot_str_getitem.lookup, typeIs_str s z t, ?_⟩
  refine wpAny_getItem_str_slice (l := l) (u := u) (st := none) hs rfl ?_
  obtain ⟨p1, p2⟩ := pick_cut z (l.map (·.1)) (u.map (·.1))
  have pk : slicePicked z l u none = Builtin.Str.strSliceIndices (l.map (·.1)) (u.map (·.1)) 1 z.length := rfl
  unfold sliceMade
  rw [pk]
  split
  · rename_i hh
    have len : (Builtin.Str.strSliceIndices (l.map (·.1)) (u.map (·.1)) 1 z.length).length = z.length := by
      have := (Bool.and_eq_true _ _ ▸ hh : _ ∧ _).2
      exact eq_of_beq this
    have e : cutS z (l.map (·.1)) (u.map (·.1)) = z := by
      rw [p2] at len
      unfold cutS
      rw [len]
      have sz : z.cps.toList.length = z.length := by simp [Str.length]
      by_cases h0 : z.length = 0
      · have : z.cps.toList = [] := List.length_eq_zero_iff.mp (by rw [sz]; exact h0)
        rw [this, h0]
        cases z with
        | mk c =>
          have : c = #[] := Array.size_eq_zero_iff.mp h0
          rw [this]; rfl
      · have hb : HT.sIx z.length z.length (u.map (·.1)) ≤ z.length := sIx_le _ _ (Nat.le_refl _) _
        have ha : HT.sIx z.length 0 (l.map (·.1)) = 0 := by omega
        rw [ha, List.drop_zero, List.take_of_length_le (by omega)]
    rw [e] at q
    exact ⟨.str z, H, I, ⟨t, rfl⟩, q⟩
  · rw [p1]
    exact ⟨by
      show ((List.take _ (List.drop _ z.cps.toList)).toArray).size ≤ _
      have := cutS_len z (l.map (·.1)) (u.map (·.1))
      exact Nat.le_trans this hz, .str _, H, I.tok _, ⟨_, rfl⟩, q⟩
end
theorem new_dict {X : Cx} : NewRule X newDict (fun _ => .dK []) := by
  intro pins s σ H E Q I h
  refine wpAny_newObj_type ?_
  have new : ObjOk X.prog X.w (upd H s.heap.objs.size (.dK [])) (s.heap.push { cls := .type "dict", data := .dict #[] }) s.heap.objs.size (.dK []) :=
    ⟨Nat.zero_le _, beq_eq_false_iff_ne.mpr (Ne.symm (Nat.ne_of_lt I.above)), [], .nil, Heap.DictOf.new s.heap⟩
  exact h _ (fun b o e => Heap.get?_push_of_some _ e) (I.laid (t' := s.toks) (fun b u e => Heap.get?_push_of_some _ e) (Nat.le_refl _) new)
def dictBody (kx vx : Expr) (D : Addr) (env : Env) (k : Sem Fi) : Sem Fi := (do
  let kv ← eval kx env
  let vv ← holding [kv] (eval vx env)
  standAt { kx.pos with endLine := vx.pos.endLine, endCol := vx.pos.endCol }
  holding [kv, vv] (dictSet D kv vv)) >>= fun _ => k
def tEmD (D : Addr) (tk tv : TE) : TB := fun σ H N => tk σ H fun y H1 => tv σ H1 fun v H2 => ∃ k kvs, y = kV k ∧ H2 D = some (.dK kvs) ∧ kvs.length < sizeLine ∧ N σ (upd H2 D (.dK (putK kvs k v)))
theorem pb_dict {Y : Cx} {kx vx : Expr} {tk tv : TE} {D : Addr} (hx : Y.xe = F0) (hk : PE Y kx tk) (hv : PE Y vx tv) : PB Y (dictBody kx vx D Y.env) (tEmD D tk tv) := by
  intro pins s σ H N k R I h hh
  have a1 := hk pins s σ H _ I h
  rw [hx] at a1
  refine wpAny_bind (wpAny_bind (of_F0 a1 fun u s1 ⟨y, H1, I1, ry, q1⟩ => wpAny_bind (wpAny_holding ?_)))
  have a2 := hv pins s1 σ H1 _ I1 q1
  rw [hx] at a2
  refine of_F0 a2 fun r s2 ⟨v, H2, I2, rv, kk, kvs, ey, hD, hz, n2⟩ => wpAny_bind (wpAny_standAt (wpAny_holding ?_))
  subst ey
  obtain ⟨z, hd, vs, rel, dd⟩ := dk_of I2.hok hD
  have hz' : vs.length ≤ sizeLine := by rw [← rel.length]; exact z
  have hl : (putK kvs kk v).length ≤ sizeLine := by have := length_putK kvs kk v; omega
  refine wpAny_dictSet_pairs (hsz := hz') (kV_is ry) dd fun h' dd' hs => ?_
  have he : ∃ q, h'.get? D = some q := let ⟨q, _, _, hq, _⟩ := dd'; ⟨q, hq⟩
  exact hh σ _ _ (d_write I2 (by rw [hD]; exact True.intro) hs he (dk_new hl hd (rel.put kk rv) dd')) n2
section
variable {X : Cx} {kx vx tg iter : Expr} {ifs : List Expr} {scope esc : Scope} {pos : Pos} {N os : List Str} {fi : List Nat} {wi : TI} {g : TG} {tt : TT} {tk tv : TE}
theorem pe_dictcomp (hc : X.calm = true) (hN : X.N = N) (he : X.env.scope = esc) (B : BlkOk esc scope N fi) (hi : PI X tg iter wi)
    (hg : ∀ s H fp, PG (blk X scope (nB N os fi) s H fp) tg g) (ht : ∀ s H fp, PTs (blk X scope (nB N os fi) s H fp) ifs tt)
    (hk : ∀ s H fp, PE (blk X scope (nB N os fi) s H fp) kx tk) (hv : ∀ s H fp, PE (blk X scope (nB N os fi) s H fp) vx tv)
    (hs : ∀ x, foldedSetIterable iter X.env x = pure x := by intro _; rfl) :
    PE X (.DictComp kx vx [⟨tg, iter, ifs, 0⟩] scope pos) (tCG (fun _ => .dK []) os fi wi g tt fun D => tEmD D tk tv) :=
  pe_compG (gs := []) (body := fun D env => dictBody kx vx D env) rfl rfl hc hN he B loop_dict (start_dict rfl rfl) (fun _ _ _ => rfl) new_dict hi hg ht (fun D s H fp => pb_dict rfl (hk s H fp) (hv s H fp)) hs
end
end L2
namespace PySem
theorem xr_miss_list {prog : Program} {w : World} {A : Around} {E : Value → Shared → Prop} {s : Shared} {a : Addr} {xs : Array Value} {k : Nat} {name : Str} {Q : Option Value → Shared → Prop}
    (hx : s.heap.get? a = some { cls := .type "list", data := .seq xs k }) (hmiss : typeLookup (.type "list") name = pure none) (hname : (["__module__", "__name__", "__qualname__", "__doc__", "__annotations__"] : List Str).contains name = false) (hA : A.handled = none)
    (h : ∀ h' tk, (∀ b ob, s.heap.get? b = some ob → h'.get? b = some ob) → Q none { s with heap := h', toks := tk }) (hsz : name.length + 100 ≤ sizeLine := by size_fits) :
    wpAny (model prog w) A (getAttr? (.ref a) name) Q E s := by
  obtain ⟨hp, g, d, tk, os⟩ := s
  have hT : ∀ tk', (⟨hp, g, d, tk', os⟩ : Shared).TypeIs (.ref a) "list" := fun _ => ⟨_, hx, rfl⟩
  have f1 := sub_AttributeError
  have f3 := F.slot_list_getattribute.lookup
  have f4 := F.slot_list_getattribute.bind (.ref a)
  have f5 := am_list_getattr_none
  unfold getAttr? getAttrBy? getAttrBy
  repeat (any_goals (first | assumption | exact hT _ | ((with_reducible show wpAny _ _ (call (Value.builtin "list.__getattribute__") _ _) _ _ _); refine call_meets F.slot_list_getattribute (hT _) am_entry_list_getattribute (F.args_list_getattribute_2 _ _) (meets_getattribute_miss_list a xs k #[] name _ hmiss hname hsz) ⟨hx, hA, fun h' tk' e hx' => ?_⟩) | wp_step))
  obtain ⟨t', u', he⟩ := hx'.there
  show wpAny _ _ (getattributeRaised _ _ _ _ _ _ _) _ _ _
  unfold getattributeRaised
  repeat (any_goals (first | assumption | wp_step))
  exact h _ _ hx'.keeps
namespace F
theorem xr_entry_loop : entryFor table "dict.update.loop" = some Builtin.«dict.update.loop» := entryFor_of_tree (by kernel_rfl)
theorem xr_plain_loop : plainId "dict.update.loop" = true := by decide +kernel
theorem xr_no_keys : typeLookup (.type "list") "keys" = pure none := by rw [typeLookup_type, builtinLookup_eq_fast]; kernel_rfl
end F
section
variable {prog : Program} {w : World} {K : Type} [DecidableEq K] {knd : KeyKind prog w K} {A : Around} {R : Result → Shared → Prop}
def XrPairs (knd : KeyKind prog w K) (h : Heap) (items : Array Value) (ps : List (K × Value)) : Prop := items.size = ps.length ∧ ∀ (j : Nat) (k : K) (v : Value), ps[j]? = some (k, v) → ∃ p kx, items[j]? = some (.ref p) ∧ knd.is k kx = true ∧ ∃ o n, h.get? p = some o ∧ o.cls = .type "tuple" ∧ o.data = .seq #[kx, v] n
theorem XrPairs.keeps {h h' : Heap} {items : Array Value} {ps : List (K × Value)} (x : XrPairs knd h items ps) (k : ∀ b o, o.cls = .type "tuple" → h.get? b = some o → h'.get? b = some o) : XrPairs knd h' items ps :=
  ⟨x.1, fun j a v e => by
    obtain ⟨p, kx, e1, e2, o, n, e3, e4, e5⟩ := x.2 j a v e
    exact ⟨p, kx, e1, e2, o, n, k _ _ e4 e3, e4, e5⟩⟩
theorem xr_dict_keeps {h h' : Heap} {d : Addr} {kvs : List (K × Value)} (x : h.DictOf knd d kvs) (k : ∀ o, h.get? d = some o → h'.get? d = some o) : h'.DictOf knd d kvs := by
  obtain ⟨o, es, ep, ho, r⟩ := x
  exact ⟨o, es, ep, k _ ho, r⟩
theorem xr_loop {it l d : Addr} {items : Array Value} {ps : List (K × Value)} {res : Value} (hh : A.handled = none) (len : ps.length ≤ sizeLine) :
    ∀ (k i : Nat) (z : Int) (tz : Tok) (s : Shared), ps.length - i = k → i ≤ ps.length → s.heap.IsListIter it l i → s.heap.IsList l items → XrPairs knd s.heap items ps → s.heap.DictOf knd d (merged [] (ps.take i)) →
    (∀ h' tk, h'.DictOf knd d (merged [] ps) → (∀ b o, b ≠ d → b ≠ it → s.heap.get? b = some o → h'.get? b = some o) → R (.ok (.ret res)) { s with heap := h', toks := tk }) →
    codeAny (model prog w) A (.builtin "dict.update.loop" ⟨[.ref d, .ref it, .int z tz, res], []⟩) R s := by
  intro k
  induction k with
  | zero =>
    intro i z tz s hk hi hit hl hp hd hR
    have hin : i = ps.length := by omega
    have hdi : d ≠ it := fun e => by
      obtain ⟨o, h1, _, h2⟩ := hit
      obtain ⟨o', es, ep, h3, _, h4, _⟩ := hd
      rw [e, h1] at h3; cases h3
      rw [h2] at h4; cases h4
    refine codeAny_builtin F.xr_entry_loop ?_
    rw [Around.under_plainId F.xr_plain_loop _]
    show wpAny _ A.in1 (pyNext (.ref it) >>= _) _ _ s
    refine wpAny_bind (wpAny_pyNext_list_end (show A.in1.handled = none from hh) hit hl (Array.getElem?_eq_none_iff.mpr (by rw [hp.1]; omega)) fun h' ex => ?_)
    show wpAny _ _ (Builtin.Dict.addKeywords d [] >>= _) _ _ _
    rw [hin, List.take_length] at hd
    exact wpAny_bind (wpAny_pure (wpAny_pure (hR h' s.toks (xr_dict_keeps hd fun o e => ex d o hdi e) fun b o _ h2 e => ex b o h2 e)))
  | succ k ih =>
    intro i z tz s hk hi hit hl hp hd hR
    have hlt : i < ps.length := by omega
    have hdi : d ≠ it := fun e => by
      obtain ⟨o, h1, _, h2⟩ := hit
      obtain ⟨o', es, ep, h3, _, h4, _⟩ := hd
      rw [e, h1] at h3; cases h3
      rw [h2] at h4; cases h4
    obtain ⟨⟨ky, v⟩, hkv⟩ : ∃ kv, ps[i]? = some kv := ⟨_, List.getElem?_eq_getElem hlt⟩
    obtain ⟨p, kx, e1, e2, op, np, e3, e4, e5⟩ := hp.2 i ky v hkv
    refine codeAny_builtin F.xr_entry_loop ?_
    rw [Around.under_plainId F.xr_plain_loop _]
    show wpAny _ A.in1 (pyNext (.ref it) >>= _) _ _ s
    refine wpAny_bind (wpAny_pyNext_list_item hit hl e1 fun h1 hit1 sb1 => ?_)
    have nit : ∀ b o, o.cls = .type "tuple" → s.heap.get? b = some o → b ≠ it := fun b o hc hb e => by
      obtain ⟨o', h1, h2, _⟩ := hit
      rw [e, h1] at hb; cases hb
      rw [h2] at hc; exact absurd (Value.type.inj hc) (by decide)
    have lit : l ≠ it := fun e => by
      obtain ⟨o', h1, h2, _⟩ := hit
      obtain ⟨o, h3, h4, _⟩ := hl
      rw [e, h1] at h3; cases h3
      rw [h2] at h4; exact absurd (Value.type.inj h4) (by decide)
    have hl1 : h1.IsList l items := by
      obtain ⟨o, h3, r⟩ := hl
      exact ⟨o, (sb1.2 l lit).trans h3, r⟩
    have hp1 : XrPairs knd h1 items ps := hp.keeps fun b o hc hb => (sb1.2 b (nit b o hc hb)).trans hb
    have hd1 : h1.DictOf knd d (merged [] (ps.take i)) := xr_dict_keeps hd fun o e => (sb1.2 d hdi).trans e
    have e31 : h1.get? p = some op := (sb1.2 p (nit p op e4 e3)).trans e3
    refine wpAny_bind (wpAny_holding (wpAny_bind (wpAny_tryCatch ?_)))
    unfold Builtin.Dict.pairItems
    refine wpAny_bind (wpAny_typeOf (T := "tuple") ⟨op, e31, e4⟩ ?_)
    rw [if_pos (by decide)]
    refine wpAny_bind (wpAny_seqItems e31 e5 (wpAny_pure ?_))
    show wpAny _ _ (holding [kx, v] (dictSet d kx v)) _ _ _
    have hsz : (merged ([] : List (K × Value)) (ps.take i)).length ≤ sizeLine := by
      have a := merged_length_le ([] : List (K × Value)) (ps.take i)
      rw [List.length_take] at a
      simp only [List.length_nil] at a
      omega
    refine wpAny_holding (wpAny_dictSet_pairs (hsz := hsz) e2 hd1 fun h2 hd2 sb2 => ?_)
    have dcl : ∀ b o, (∀ es ep, o.data ≠ .dict es ep) → h1.get? b = some o → b ≠ d := fun b o hn hb e => by
      obtain ⟨o', es, ep, h3, _, h4, _⟩ := hd1
      rw [e, h3] at hb; cases hb
      exact hn _ _ h4
    have hit2 : h2.IsListIter it l (i + 1) := by
      obtain ⟨o, a, b, c⟩ := hit1
      exact ⟨o, (sb2.2 it (Ne.symm hdi)).trans a, b, c⟩
    have hl2 : h2.IsList l items := by
      obtain ⟨o, h3, r, n, h4⟩ := hl1
      exact ⟨o, (sb2.2 l (dcl l o (fun es ep q => by rw [h4] at q; cases q) h3)).trans h3, r, n, h4⟩
    have hp2 : XrPairs knd h2 items ps := ⟨hp1.1, fun j a u e => by
      obtain ⟨p, kx, e1, e2, o, n, e3, e4, e5⟩ := hp1.2 j a u e
      exact ⟨p, kx, e1, e2, o, n, (sb2.2 p (dcl p o (fun es ep q => by rw [e5] at q; cases q) e3)).trans e3, e4, e5⟩⟩
    refine wpAny_pure ⟨plainId_quiet F.xr_plain_loop _, ih (i + 1) _ _ _ (by omega) hlt hit2 hl2 hp2 (by rw [merged_take_succ _ _ _ _ hkv]; exact hd2) fun h' tk hd' kp => hR h' tk hd' fun b o b1 b2 e => ?_⟩
    exact kp b o b1 b2 ((sb2.2 b b1).trans ((sb1.2 b b2).trans e))
end
section
variable {prog : Program} {w : World} {K : Type} [DecidableEq K] {knd : KeyKind prog w K} {A : Around} {E : Value → Shared → Prop} {s : Shared}
theorem xr_call_dict {l : Addr} {items : Array Value} {n : Nat} {ps : List (K × Value)} {Q : Value → Shared → Prop} (hh : A.handled = none) (hl : s.heap.get? l = some { cls := .type "list", data := .seq items n }) (hp : XrPairs knd s.heap items ps) (hsz : ps.length ≤ sizeLine)
    (h : ∀ h' tk, h'.DictOf knd s.heap.objs.size (merged [] ps) → (∀ b o, s.heap.get? b = some o → h'.get? b = some o) → Q (.ref s.heap.objs.size) { s with heap := h', toks := tk }) :
    wpAny (model prog w) A (call (.type "dict") [.ref l]) Q E s := by
  refine callType_codes (Q₁ := fun obj s₁ => obj = .ref s.heap.objs.size ∧ s₁ = { s with heap := s.heap.push { cls := .type "dict", data := .dict #[] } }) F.kt_called_dict (F.kt_typeCall_dict_1 _) F.entry_dict_init (kt_code_dict_new _ ⟨rfl, rfl⟩) ?_
  rintro obj s₁ ⟨rfl, rfl⟩
  have hnew : (s.heap.push { cls := .type "dict", data := .dict #[] }).DictOf knd s.heap.objs.size [] := Heap.DictOf.new s.heap
  have hl1 := Heap.get?_push_of_some { cls := .type "dict", data := .dict #[] } hl
  have hT : ({ s with heap := s.heap.push { cls := .type "dict", data := .dict #[] } } : Shared).TypeIs (.ref l) "list" := ⟨_, hl1, rfl⟩
  refine ⟨hnew.typeIs, F.args_dict_init_2 _ _, ?_⟩
  unfold Builtin.«dict.__init__»
  refine wpAny_bind ?_
  unfold Builtin.Dict.selfAndRest
  refine wpAny_bind (wpAny_notOrdered_dict hnew.typeIs ?_)
  show wpAny _ _ (pure (s.heap.objs.size, [Value.ref l])) _ _ _
  refine wpAny_pure ?_
  show wpAny _ _ (Builtin.Dict.updateFrom "dict.__init__" s.heap.objs.size (.ref l) [] .none) _ _ _
  unfold Builtin.Dict.updateFrom
  refine wpAny_bind (wpAny_typeOf hT ?_)
  rw [if_pos (by decide)]
  refine wpAny_bind (xr_miss_list (name := "keys") hl1 F.xr_no_keys (by decide +kernel) hh (fun h2 tk2 k2 => ?_))
  simp only [Option.isNone_none, if_true]
  refine wpAny_bind (wpAny_rule ?_)
  have hl2 := k2 _ _ hl1
  refine wpAny_bind (wpAny_pyIter_list ⟨_, hl2, rfl, n, rfl⟩ ?_)
  dsimp only
  have kp : ∀ b o, s.heap.get? b = some o → (h2.push { cls := .type "list_iterator", data := .fields #[.ref l, .int 0 0] }).get? b = some o := fun b o e => Heap.get?_push_of_some _ (k2 _ _ (Heap.get?_push_of_some _ e))
  refine wpAny_pure ⟨plainId_quiet F.xr_plain_loop _, xr_loop (A := A.in1) (knd := knd) (it := h2.objs.size) (l := l) (items := items) (ps := ps) (res := .none) (show A.in1.handled = none from hh) hsz ps.length 0 0 0 _ rfl (Nat.zero_le _) ⟨_, Heap.get?_push_size _ rfl, rfl, rfl⟩ ⟨_, kp _ _ hl, rfl, n, rfl⟩ (hp.keeps fun b o _ e => kp b o e)
    (xr_dict_keeps hnew fun o e => Heap.get?_push_of_some _ (k2 _ _ e)) fun h' tk hd' k' => ⟨rfl, h h' tk hd' fun b o e => ?_⟩⟩
  exact k' b o (fun z => Nat.lt_irrefl _ (z ▸ Heap.lt_size e)) (fun z => Nat.lt_irrefl _ (z ▸ Heap.lt_size (k2 _ _ (Heap.get?_push_of_some _ e)))) (kp b o e)
end
end PySem
namespace L2
open PySem
def putAll (kvs : List (Key × V)) : List (Key × V) := kvs.foldl (fun m p => putK m p.1 p.2) []
theorem kv_all : ∀ (kvs : List (Key × V)) (ps : List (Key × Value)), KV kvs ps → ∀ (acc : List (Key × V)) (vacc : List (Key × Value)), KV acc vacc → KV (kvs.foldl (fun m p => putK m p.1 p.2) acc) (merged vacc ps) := by
  intro kvs
  induction kvs with
  | nil =>
    intro ps r acc vacc a
    unfold KV at r
    cases r
    exact a
  | cons p kvs ih =>
    intro ps r acc vacc a
    unfold KV at r
    cases r with
    | cons e t =>
      rename_i q qs
      obtain ⟨k, v⟩ := p
      obtain ⟨k', u⟩ := q
      obtain ⟨ek, rv⟩ := e
      have ek : k = k' := ek
      subst ek
      exact ih qs t _ _ (KV.put a k rv)
theorem xr_ps {P : Program} {w : World} {H : Hp} {h : Heap} (ok : HOk P w H h) : ∀ (ts : List Addr) (kvs : List (Key × V)), ts.length = kvs.length → (∀ (j : Nat) (a : Addr) (k : Key) (v : V), ts[j]? = some a → kvs[j]? = some (k, v) → H a = some (.tup [kV k, v])) →
    ∃ ps : List (Key × Value), KV kvs ps ∧ ∀ (j : Nat) (k : Key) (u : Value), ps[j]? = some (k, u) → ∃ p kx, ts[j]? = some p ∧ (mixKind P w).is k kx = true ∧ ∃ o n, h.get? p = some o ∧ o.cls = .type "tuple" ∧ o.data = .seq #[kx, u] n := by
  intro ts
  induction ts with
  | nil =>
    intro kvs hl _
    cases kvs with
    | nil => exact ⟨[], .nil, fun j k u e => by simp at e⟩
    | cons _ _ => simp at hl
  | cons a ts ih =>
    intro kvs hl f
    cases kvs with
    | nil => simp at hl
    | cons kv kvs =>
      obtain ⟨k, v⟩ := kv
      have e := f 0 a k v rfl rfl
      obtain ⟨_, its, r, o, h1, h2, n, h3⟩ := (show ObjOk P w H h a (.tup [kV k, v]) from ok a _ e)
      obtain ⟨kx, u, rfl, rk, rv⟩ := vals2 r
      obtain ⟨ps, r', g⟩ := ih kvs (by simpa using hl) fun j b k2 v2 e1 e2 => f (j + 1) b k2 v2 (by simpa using e1) (by simpa using e2)
      refine ⟨(k, u) :: ps, .cons ⟨rfl, rv⟩ r', fun j k2 u2 e => ?_⟩
      cases j with
      | zero =>
        simp at e
        obtain ⟨rfl, rfl⟩ := e
        exact ⟨a, kx, rfl, kV_is rk, o, n, h1, h2, h3⟩
      | succ j =>
        obtain ⟨p, kx2, q⟩ := g j k2 u2 (by simpa using e)
        exact ⟨p, kx2, by simpa using q⟩
theorem boot_dict : bootBuiltins "dict" = some (.type "dict") := by decide +kernel
theorem call_dictP {X : Cx} (hc : X.calm = true) : CallR X (.type "dict") (fun xs H Q => ∃ (l : Addr) (ts : List Addr) (kvs : List (Key × V)), xs = [.ref l] ∧ H l = some (.lst (ts.map V.ref)) ∧ ts.length = kvs.length ∧
    (∀ (j : Nat) (a : Addr) (k : Key) (v : V), ts[j]? = some a → kvs[j]? = some (k, v) → H a = some (.tup [kV k, v])) ∧ ∀ D, H D = none → Q (.ref D) (upd H D (.dK (putAll kvs)))) := by
  intro pins s σ H xs us Q I r h
  obtain ⟨l, ts, kvs, rfl, hl, len, f, q⟩ := h
  obtain ⟨u, rfl, ru⟩ := vals1 r
  cases (show u = Value.ref l from ru)
  obtain ⟨z, its, n, vs, hget⟩ := (show ObjOk X.prog X.w H s.heap l (.lst (ts.map V.ref)) from I.hok l _ hl)
  obtain ⟨ps, rel, g⟩ := xr_ps I.hok ts kvs len f
  have pl : ps.length = ts.length := by rw [len]; exact (KV.length rel).symm
  have il : its.length = ts.length := by rw [← Vals.length vs, List.length_map]
  have tz : ts.length ≤ sizeLine := by simpa using z
  have hp : XrPairs (mixKind X.prog X.w) s.heap its.toArray ps := by
    refine ⟨by simp [il, pl], fun j k v e => ?_⟩
    obtain ⟨p, kx, e1, r⟩ := g j k v e
    obtain ⟨y, hy, ry⟩ := Vals.get (i := j) (x := .ref p) vs (by rw [List.getElem?_map, e1]; rfl)
    cases (show y = Value.ref p from ry)
    exact ⟨p, kx, by simpa using hy, r⟩
  refine xr_call_dict (knd := mixKind X.prog X.w) (I.ok.hd hc) hget hp (by omega) fun h' tk hd k => ?_
  have kv := kv_all kvs ps rel [] [] .nil
  have ml := merged_length_le ([] : List (Key × Value)) ps
  have new : ObjOk X.prog X.w (upd H s.heap.objs.size (.dK (putAll kvs))) h' s.heap.objs.size (.dK (putAll kvs)) :=
    ⟨by rw [show putAll kvs = kvs.foldl (fun m p => putK m p.1 p.2) [] from rfl, KV.length kv]; simp only [List.length_nil] at ml; omega, beq_eq_false_iff_ne.mpr (Ne.symm (Nat.ne_of_lt I.above)), _, kv, hd⟩
  exact ⟨.ref _, _, I.laid (t' := tk) k (Nat.le_refl _) new, rfl, q _ I.fresh⟩
end L2
namespace L2
open PySem
theorem vals_intP : ∀ (ns : List Int) (its : List Value), Vals (ns.map V.int) its → ∃ ps : List (Int × Tok), its = ps.map (fun p => Value.int p.1 p.2) ∧ ps.map (·.1) = ns := by
  intro ns
  induction ns with
  | nil =>
    intro its r
    cases r
    exact ⟨[], rfl, rfl⟩
  | cons n ns ih =>
    intro its r
    cases r with
    | cons e t =>
      obtain ⟨tk, rfl⟩ := (show ∃ t, _ = Value.int n t from e)
      obtain ⟨ps, rfl, e2⟩ := ih _ t
      exact ⟨(n, tk) :: ps, rfl, by rw [List.map_cons, e2]⟩
theorem boot_sum : bootBuiltins "sum" = some (.builtin "sum") := by decide +kernel
section
variable {X : Cx}
theorem call_sumL (hc : X.calm = true) : CallR X (.builtin "sum") (fun xs H Q => ∃ (l : Addr) (ns : List Int), xs = [.ref l] ∧ H l = some (.lst (ns.map V.int)) ∧ Q (.int ns.sum) H) := by
  intro pins s σ H xs us Q I r h
  obtain ⟨l, ns, rfl, hl, q⟩ := h
  obtain ⟨u, rfl, ru⟩ := vals1 r
  cases (show u = Value.ref l from ru)
  obtain ⟨z, its, n, vs, hget⟩ := (show ObjOk X.prog X.w H s.heap l (.lst (ns.map V.int)) from I.hok l _ hl)
  obtain ⟨ps, rfl, rfl⟩ := vals_intP ns its vs
  have il : s.heap.IsList l (intItems ps.toArray) := ⟨_, hget, rfl, n, by simp [intItems]⟩
  refine sum_intListG (I.ok.hd hc) il fun h' tk t' k => ?_
  rw [preSum_eq, List.take_of_length_le (by simp)]
  exact ⟨.int _, H, I.kept k, ⟨t', rfl⟩, q⟩
def tStar (te : TE) (tr : TA) : TA := fun σ H Q => te σ H fun x H1 => ∃ l xs, x = .ref l ∧ H1 l = some (.lst xs) ∧ tr σ H1 fun ys H2 => Q (xs ++ ys) H2
theorem vals_app : ∀ {xs : List V} {us : List Value}, Vals xs us → ∀ {ys : List V} {vs : List Value}, Vals ys vs → Vals (xs ++ ys) (us ++ vs)
  | _, _, .nil, _, _, h => h
  | _, _, .cons r t, _, _, h => .cons r (vals_app t h)
theorem pa_star {e : Expr} {es : List Expr} {te : TE} {t : TA} {p : Pos} (ha : PE X e te) (hr : PA X es t) : PA X (.Starred e p :: es) (tStar te t) := by
  intro pos pins s σ H Q I h
  refine PySem.W.items_star (thn (ha pins s σ H _ I h) fun u s1 ⟨x, H1, I1, r1, l, xs, ex, hl, q1⟩ => ?_)
  subst ex
  cases (show u = Value.ref l from r1)
  obtain ⟨z, its, n, vs, hget⟩ := (show ObjOk X.prog X.w H1 s1.heap l (.lst xs) from I1.hok l _ hl)
  unfold PySem.W.StarOf notIterableAtAll
  refine wpAny_bind (wpAny_specialOf (T := "list") ⟨_, hget, rfl⟩ PySem.F.slot_list_iter.lookup (wpAny_pure ⟨rfl, ?_⟩))
  have zl : its.toArray.size ≤ sizeLine := by rw [show its.toArray.size = its.length by simp, ← Vals.length vs]; exact z
  refine wpAny_collect_seq l (.inl rfl) hget rfl rfl (fun h' hk => ?_) zl
  exact thn (hr pos pins _ σ H1 _ (I1.kept hk) q1) fun us s2 ⟨ys, H2, I2, r2, q2⟩ => ⟨xs ++ ys, H2, I2, vals_app vs r2, q2⟩
end
end L2
namespace L2
open PySem PySem.Spec PyProof.Rows
section
variable {X : Cx}
end
end L2
namespace GF
open PySem L2
end GF
namespace L2
open PySem PySem.Spec PyProof.Rows PyProof
end L2
namespace L2
open PySem PySem.Spec PyProof.Rows
def mkC : Nat → List (Str × NameKind) → List (Str × Addr) → List (Str × Addr)
  | _, [], cs => cs
  | n, (x, k) :: r, cs => if (k == .cell) = true then mkC (n + 1) r ((x, n) :: cs) else mkC n r cs
theorem mkC_at {x : Str} {c : Addr} : ∀ {names : List (Str × NameKind)} {n : Nat} {cs : List (Str × Addr)}, (mkC n names cs).lookup x = some c → cs.lookup x = some c ∨ (n ≤ c ∧ (x, NameKind.cell) ∈ names)
  | [], n, cs, h => .inl h
  | (y, k) :: r, n, cs, h => by
    unfold mkC at h
    by_cases hk : (k == NameKind.cell) = true
    · rw [if_pos hk] at h
      have ek : k = .cell := by simpa using hk
      rcases mkC_at h with z | ⟨z1, z2⟩
      · rw [List.lookup_cons] at z
        cases hx : x == y with
        | true =>
          rw [hx] at z
          cases z
          have e : x = y := by simpa using hx
          subst e ek
          exact .inr ⟨Nat.le_refl _, List.mem_cons_self⟩
        | false => rw [hx] at z; exact .inl z
      · exact .inr ⟨by omega, List.mem_cons_of_mem _ z2⟩
    · rw [if_neg hk] at h
      rcases mkC_at h with z | ⟨z1, z2⟩
      · exact .inl z
      · exact .inr ⟨z1, List.mem_cons_of_mem _ z2⟩
theorem mkC_inj {x y : Str} {c : Addr} : ∀ {names : List (Str × NameKind)} {n : Nat} {cs : List (Str × Addr)}, (∀ x y c, cs.lookup x = some c → cs.lookup y = some c → x = y) → (∀ x c, cs.lookup x = some c → c < n) →
    (mkC n names cs).lookup x = some c → (mkC n names cs).lookup y = some c → x = y
  | [], n, cs, i, b, h1, h2 => i x y c h1 h2
  | (z, k) :: r, n, cs, i, b, h1, h2 => by
    unfold mkC at h1 h2
    by_cases hk : (k == NameKind.cell) = true
    · rw [if_pos hk] at h1 h2
      refine mkC_inj (fun x y c g1 g2 => ?_) (fun x c g => ?_) h1 h2
      · rw [List.lookup_cons] at g1 g2
        cases hx : x == z with
        | true =>
          have ex : x = z := by simpa using hx
          rw [hx] at g1; cases g1
          cases hy : y == z with
          | true => rw [ex]; exact (by simpa using hy : y = z).symm
          | false =>
            rw [hy] at g2
            exact absurd (b _ _ g2) (Nat.lt_irrefl _)
        | false =>
          rw [hx] at g1
          cases hy : y == z with
          | true =>
            rw [hy] at g2; cases g2
            exact absurd (b _ _ g1) (Nat.lt_irrefl _)
          | false => rw [hy] at g2; exact i _ _ _ g1 g2
      · rw [List.lookup_cons] at g
        cases hx : x == z with
        | true => rw [hx] at g; cases g; exact Nat.lt_succ_self _
        | false => rw [hx] at g; exact Nat.lt_succ_of_lt (b _ _ g)
    · rw [if_neg hk] at h1 h2
      exact mkC_inj i b h1 h2
theorem mkC_stay {x : Str} : ∀ {names : List (Str × NameKind)} {n : Nat} {cs : List (Str × Addr)}, (∃ c, cs.lookup x = some c) → ∃ c, (mkC n names cs).lookup x = some c
  | [], n, cs, h => h
  | (y, k) :: r, n, cs, h => by
    unfold mkC
    by_cases hk : (k == NameKind.cell) = true
    · rw [if_pos hk]
      refine mkC_stay ?_
      rw [List.lookup_cons]
      cases hx : x == y with
      | true => exact ⟨_, rfl⟩
      | false => exact h
    · rw [if_neg hk]
      exact mkC_stay h
theorem mkC_has {x : Str} : ∀ {names : List (Str × NameKind)} {n : Nat} {cs : List (Str × Addr)}, (x, NameKind.cell) ∈ names → ∃ c, (mkC n names cs).lookup x = some c
  | [], n, cs, h => nomatch h
  | (y, k) :: r, n, cs, h => by
    unfold mkC
    rcases List.mem_cons.mp h with z | z
    · cases z
      rw [if_pos (show (NameKind.cell == NameKind.cell) = true from rfl)]
      refine mkC_stay ⟨n, ?_⟩
      rw [List.lookup_cons]
      simp
    · by_cases hk : (k == NameKind.cell) = true
      · rw [if_pos hk]; exact mkC_has z
      · rw [if_neg hk]; exact mkC_has z
theorem mkC_other {x : Str} : ∀ {names : List (Str × NameKind)} {n : Nat} {cs : List (Str × Addr)}, (x, NameKind.cell) ∉ names → (mkC n names cs).lookup x = cs.lookup x
  | [], n, cs, h => rfl
  | (y, k) :: r, n, cs, h => by
    unfold mkC
    have hr : (x, NameKind.cell) ∉ r := fun z => h (List.mem_cons_of_mem _ z)
    by_cases hk : (k == NameKind.cell) = true
    · rw [if_pos hk, mkC_other hr, List.lookup_cons]
      cases hx : x == y with
      | true =>
        have ex : x = y := by simpa using hx
        have ek : k = .cell := by simpa using hk
        subst ex ek
        exact absurd List.mem_cons_self h
      | false => rfl
    · rw [if_neg hk]; exact mkC_other hr
theorem cells_run {M : Model} {A : Around} {E : Value → Shared → Prop} : ∀ (names : List (Str × NameKind)) (cs : List (Str × Addr)) (s : Shared) (Q : List (Str × Addr) → Shared → Prop),
    (∀ h', (∀ b o, s.heap.get? b = some o → h'.get? b = some o) → s.heap.objs.size ≤ h'.objs.size → (∀ x c, (mkC s.heap.objs.size names cs).lookup x = some c → cs.lookup x = some c ∨ h'.IsCell c none) → Q (mkC s.heap.objs.size names cs) { s with heap := h' }) →
    wpAny M A (forIn names cs fun (x : Str × NameKind) (r : List (Str × Addr)) => if (x.2 == NameKind.cell) = true then (do let c ← alloc { cls := Value.type "cell", data := Data.cell none }; pure (ForInStep.yield ((x.1, c) :: r))) else pure (ForInStep.yield r)) Q E s
  | [], cs, s, Q, h => wpAny_pure (h s.heap (fun _ _ e => e) (Nat.le_refl _) fun x c e => .inl e)
  | (y, k) :: r, cs, s, Q, h => by
    rw [List.forIn_cons]
    by_cases hk : (k == NameKind.cell) = true
    · simp only [hk, if_true]
      refine wpAny_bind (wpAny_bind (wpAny_alloc (wpAny_pure ?_)))
      refine cells_run r _ _ Q fun h' k1 k2 k3 => ?_
      have sz : (s.heap.push { cls := Value.type "cell", data := Data.cell none }).objs.size = s.heap.objs.size + 1 := by simp [Heap.push]
      have e1 : mkC s.heap.objs.size ((y, k) :: r) cs = mkC (s.heap.push { cls := Value.type "cell", data := Data.cell none }).objs.size r ((y, s.heap.objs.size) :: cs) := by
        rw [sz]
        show (if (k == NameKind.cell) = true then _ else _) = _
        rw [if_pos hk]
      have := h h' (fun b o e => k1 b o (Heap.get?_push_of_some _ e)) (Nat.le_trans (by rw [sz]; omega) k2) fun x c e => by
        rw [e1] at e
        rcases k3 x c e with z | z
        · rw [List.lookup_cons] at z
          cases hx : x == y with
          | true =>
            rw [hx] at z; cases z
            exact .inr ⟨_, k1 _ _ (Heap.get?_push_size _ rfl), rfl⟩
          | false => rw [hx] at z; exact .inl z
        · exact .inr z
      rw [e1] at this
      exact this
    · simp only [hk]
      refine wpAny_bind (wpAny_pure ?_)
      have e1 : mkC s.heap.objs.size ((y, k) :: r) cs = mkC s.heap.objs.size r cs := by
        show (if (k == NameKind.cell) = true then _ else _) = _
        rw [if_neg hk]
      refine cells_run r cs s Q fun h' k1 k2 k3 => ?_
      have := h h' k1 k2 fun x c e => k3 x c (by rw [e1] at e; exact e)
      rw [e1] at this
      exact this
theorem newEnvC {M : Model} {A : Around} {E : Value → Shared → Prop} {s : Shared} {scope : Scope} {g : Addr} {cl : List (Str × Addr)} {qual : Str} {env : Env} {Q : Env → Shared → Prop}
    (h : ∀ h', (∀ b o, s.heap.get? b = some o → h'.get? b = some o) → h'.Ns s.heap.objs.size (fun _ => none) → (∀ x c, (mkC (s.heap.objs.size + 1) scope.names cl).lookup x = some c → cl.lookup x = some c ∨ h'.IsCell c none) →
      Q { scope := scope, locals := s.heap.objs.size, globals := g, cells := mkC (s.heap.objs.size + 1) scope.names cl, qual := qual, func := none, code := env.code, frame := env.frame, builtins := env.builtins } { s with heap := h' }) :
    wpAny M A (newFunctionEnv scope g cl [] qual none .none (some env)) Q E s := by
  unfold newFunctionEnv
  refine wpAny_bind (wpAny_alloc ?_)
  have sz : (s.heap.push { cls := Value.type (if (some env).isSome = true then "dict" else "frame"), data := Data.dict #[] }).objs.size = s.heap.objs.size + 1 := by simp [Heap.push]
  refine wpAny_bind (cells_run scope.names cl _ _ fun h' k1 k2 k3 => ?_)
  refine wpAny_bind (wpAny_pure (wpAny_pure ?_))
  have ns := Heap.Ns.new s.heap (Value.type (if (some env).isSome = true then "dict" else "frame"))
  have := h h' (fun b o e => k1 b o (Heap.get?_push_of_some _ e)) (by
    obtain ⟨o, es, ep, q1, q2⟩ := ns
    exact ⟨o, es, ep, k1 _ _ q1, q2⟩) (by rw [← sz]; exact k3)
  rw [← sz] at this
  exact this
end L2
namespace L2
open PySem PySem.Spec PyProof.Rows
def blkC (X : Cx) (scope : Scope) (N : List Str) (s : Shared) (H : Hp) (fp : List Addr) : Cx :=
  { X with N := N, s₀ := s, H₀ := H, env := compEnvC scope (mkC (s.heap.objs.size + 1) scope.names (clOf X.env scope.names [])) s.heap.objs.size X.env, outer := X.stack, stack := X.stack, ex := fp, fn := fun x => scope.names.lookup x == some .cell, pn := [], xe := fun _ _ => False }
structure BlkC (esc scope : Scope) (N : List Str) (fi : List Nat) : Prop where
  kind : scope.kind = .function
  cel : ∀ y ∈ scope.names, y.2 = .cell → scope.names.lookup y.1 = some .cell
  loc : ∀ y ∈ scope.names, y.2 = .local → scope.names.lookup y.1 = some .local
  fre : ∀ y ∈ scope.names, y.2 = .free → scope.names.lookup y.1 = some .free
  free : ∀ y ∈ scope.names, y.2 = .free → esc.names.lookup y.1 = some .cell ∨ esc.names.lookup y.1 = some .free
  ix : ∀ i ∈ fi, scope.names.lookup (N.getD i "") = some .free
section
variable {X : Cx} {pins : List (Addr × Obj)} {σ : St} {H : Hp} {s : Shared} {scope esc : Scope} {os : List Str} {fi : List Nat} {fp : List Addr}
theorem blkC_cells (B : BlkC esc scope X.N fi) (he : X.env.scope = esc) (I : Inv X pins σ H s) : ∀ y ∈ scope.names, y.2 = .free → (X.env.cells.lookup y.1).isSome = true := fun y hy hf => by
  have k := B.free y hy hf
  rw [← he] at k
  obtain ⟨c, e⟩ := I.ok.has y.1 k
  rw [e]; rfl
theorem blkC_cl (B : BlkC esc scope X.N fi) (he : X.env.scope = esc) (I : Inv X pins σ H s) {x : Str} {c : Addr} (h : (clOf X.env scope.names []).lookup x = some c) : X.env.cells.lookup x = some c := by
  rcases clOf_sub h with z | ⟨z1, z2⟩
  · cases z
  · obtain ⟨d, e⟩ := Option.isSome_iff_exists.mp (blkC_cells B he I _ z1 rfl)
    rw [show X.env.cells.lookup x = some d from e] at z2 ⊢
    rw [← z2]; rfl
theorem cell_lt (I : Inv X pins σ H s) {x : Str} {c : Addr} (h : X.env.cells.lookup x = some c) : c < s.heap.objs.size := by
  obtain ⟨v, o, ho, _⟩ := I.cell x c h
  exact Heap.lt_size ho
theorem blkC_at (B : BlkC esc scope X.N fi) (he : X.env.scope = esc) (I : Inv X pins σ H s) {x : Str} {c : Addr} (h : (mkC (s.heap.objs.size + 1) scope.names (clOf X.env scope.names [])).lookup x = some c) : X.env.cells.lookup x = some c ∨ s.heap.objs.size < c := by
  rcases mkC_at h with z | ⟨z, _⟩
  · exact .inl (blkC_cl B he I z)
  · exact .inr (by omega)
theorem blkC_ok (B : BlkC esc scope X.N fi) (he : X.env.scope = esc) (I : Inv X pins σ H s) (hf : ∀ b ∈ fp, FpOk X pins H b) (ho : ∀ b ∈ fp, ∃ o, s.heap.get? b = some o) : (blkC X scope (nB X.N os fi) s H fp).Ok where
  mod := I.ok.mod
  kind := B.kind
  glob := I.ok.glob
  blt := I.ok.blt
  above := Nat.le_refl _
  inj := fun x y c h1 h2 => mkC_inj (fun x y c g1 g2 => I.ok.inj x y c (blkC_cl B he I g1) (blkC_cl B he I g2)) (fun x c g => Nat.lt_succ_of_lt (cell_lt I (blkC_cl B he I g))) h1 h2
  has := fun x h => by
    have q : ∃ k, scope.names.lookup x = some k ∧ (k = .cell ∨ k = .free) := by
      rcases h with h | h
      · obtain ⟨k, e, z | ⟨z, _⟩⟩ := relabel_look h
        · exact ⟨k, e, .inl z.symm⟩
        · exact ⟨k, e, .inr z⟩
      · obtain ⟨k, e, z | ⟨_, z⟩⟩ := relabel_look h
        · exact ⟨k, e, .inr z.symm⟩
        · cases z
    obtain ⟨k, e, z | z⟩ := q
    · subst z; exact mkC_has (mem_of_look e)
    · subst z; exact mkC_stay ⟨_, clOf_has (mem_of_look e)⟩
  cab := fun x c h g => by
    rcases mkC_at g with z | ⟨z, _⟩
    · rcases clOf_sub z with z | ⟨z1, _⟩
      · cases z
      · have e1 := B.fre _ z1 rfl
        have e2 : scope.names.lookup x = some .cell := by simpa [blkC] using h
        rw [e2] at e1; cases e1
    · show s.heap.objs.size ≤ c
      omega
  hd := I.ok.hd
  frames := I.ok.frames
  stk := .inl rfl
  exf := fun b hb => by
    obtain ⟨o, e⟩ := ho b hb
    have lt := Heap.lt_size e
    refine ⟨Nat.ne_of_lt lt, fun x c h => ?_⟩
    rcases blkC_at B he I h with z | z
    · exact (hf b hb).2.2.2.2.1 x c z
    · exact Nat.ne_of_gt (Nat.lt_trans lt z)
  bs := I.bs
  bsz := Nat.le_trans I.ok.bsz I.sz
  noex := fun b o e hb => by
    rcases (hf b hb).2.2.2.1 with z | z
    · exact I.ok.noex b o e z
    · exact absurd (Nat.lt_of_lt_of_le (Heap.lt_size e) (Nat.le_trans I.ok.bsz z)) (Nat.lt_irrefl _)
  exfs := fun b hb z => by
    rcases List.mem_cons.mp (I.stkSub b z) with e | e
    · exact (hf b hb).2.1 e
    · exact (hf b hb).2.2.1 e
  funs := I.stack
  frf := I.stkFree
theorem blkC_inv {h1 : Heap} {t1 : Nat} {m1 : Str → Option Value} (B : BlkC esc scope X.N fi) (he : X.env.scope = esc) (I : Inv X pins σ H s) (hf : ∀ b ∈ fp, FpOk X pins H b) (ho : ∀ b ∈ fp, ∃ o, s.heap.get? b = some o)
    (k : ∀ b o, s.heap.get? b = some o → h1.get? b = some o) (hn : h1.Ns s.heap.objs.size m1) (hc : ∀ x c, (mkC (s.heap.objs.size + 1) scope.names (clOf X.env scope.names [])).lookup x = some c → (clOf X.env scope.names []).lookup x = some c ∨ h1.IsCell c none) :
    Inv (blkC X scope (nB X.N os fi) s H fp) [] (sB σ os fi) H { s with heap := h1, toks := t1 } where
  ok := blkC_ok B he I hf ho
  os := rfl
  bare := I.bare
  base := Un.kept k
  loc := by
    refine ⟨m1, hn, fun j x v e1 e2 e3 => ?_⟩
    have hj : os.length ≤ j := by
      by_cases hj : j < os.length
      · have z : (sB σ os fi)[j]? = some (some v) := e2
        unfold sB at z
        rw [List.getElem?_append_left (by simpa using hj), List.getElem?_map] at z
        cases q : os[j]? with
        | none => rw [q] at z; cases z
        | some _ => rw [q] at z; cases z
      · omega
    have z1 : (nB X.N os fi)[j]? = some x := e1
    have z2 : (sB σ os fi)[j]? = some (some v) := e2
    unfold nB at z1
    unfold sB at z2
    rw [List.getElem?_append_right hj, List.getElem?_map] at z1
    rw [List.getElem?_append_right (by simpa using hj), List.length_map, List.getElem?_map] at z2
    cases q : fi[j - os.length]? with
    | none => rw [q] at z1; cases z1
    | some i =>
      rw [q] at z1 z2
      have w1 : X.N.getD i "" = x := Option.some.inj z1
      have w2 : (σ[i]?).join = some v := Option.some.inj z2
      have w3 : σ[i]? = some (some v) := by
        cases p : σ[i]? with
        | none => rw [p] at w2; cases w2
        | some y => rw [p] at w2; exact congrArg some w2
      have lx : scope.names.lookup x = some .free := by rw [← w1]; exact B.ix i (List.mem_of_getElem? q)
      have li : i < X.N.length := by rw [← I.len]; exact (List.getElem?_eq_some_iff.mp w3).1
      have w4 : X.N[i]? = some x := by
        rw [List.getD_eq_getElem?_getD, List.getElem?_eq_getElem li] at w1
        rw [List.getElem?_eq_getElem li]
        exact congrArg some w1
      have kx := B.free _ (mem_of_look lx) rfl
      rw [← he] at kx
      obtain ⟨m, hm, hl⟩ := I.loc
      obtain ⟨u, r, l⟩ := hl i x v w4 w3 (by rcases kx with kx | kx; exact .inr (.inl kx); exact .inr (.inr kx))
      refine ⟨u, r, .inr ⟨relabel_free lx, ?_⟩⟩
      rcases l with ⟨a, _⟩ | ⟨_, c, e, ic⟩
      · rcases kx with kx | kx <;> rw [show X.env.kindOf x = X.env.scope.names.lookup x from rfl, kx] at a <;> cases a
      · refine ⟨c, ?_, ?_⟩
        · have := clOf_has (env := X.env) (cs := []) (mem_of_look lx)
          rw [e] at this
          have no : (x, NameKind.cell) ∉ scope.names := fun z => by
            have := B.cel _ z rfl
            rw [lx] at this; cases this
          show (mkC (s.heap.objs.size + 1) scope.names (clOf X.env scope.names [])).lookup x = some c
          rw [mkC_other no]
          exact this
        · obtain ⟨o, ho, hd⟩ := ic
          exact ⟨o, k _ o ho, hd⟩
  cell := fun x c h => by
    rcases hc x c h with z | z
    · obtain ⟨v, o, ho, hd⟩ := I.cell x c (blkC_cl B he I z)
      exact ⟨v, o, k _ o ho, hd⟩
    · exact ⟨_, z⟩
  free := I.hok.fresh (Nat.le_refl _)
  freeC := fun x c h => by
    rcases blkC_at B he I h with z | z
    · exact I.freeC x c z
    · exact I.hok.fresh (Nat.le_of_lt z)
  pin := fun p hp => nomatch hp
  hok := I.hok.kept k
  len := by
    show (sB σ os fi).length = (nB X.N os fi).length
    unfold sB nB
    simp
theorem blkC_out {N : List Str} {s' : Shared} {H' : Hp} {σ' : St} {pins' : List (Addr × Obj)} {h' : Heap} (I : Inv X pins σ H s) (hf : ∀ b ∈ fp, FpOk X pins H b) (I' : Inv (blkC X scope N s H fp) pins' σ' H' s') (sb : Heap.SameBut s.heap.objs.size s'.heap h') :
    Inv X pins σ H' { s' with heap := h' } := by
  have ne : ∀ b o, s.heap.get? b = some o → b ≠ s.heap.objs.size := fun b o e => Nat.ne_of_lt (Heap.lt_size e)
  have un : Un (frs X.stack) fp H H' s.heap h' := by
    have u : Un (frs X.stack) fp H H' s.heap s'.heap := I'.base
    exact ⟨fun b o e n hb hx => (sb.2 b (ne b o e)).trans (u.keep b o e n hb hx), fun b o e n hb hx => by
        obtain ⟨sl, q⟩ := u.slot b o e n hb hx
        exact ⟨sl, (sb.2 b (ne b o e)).trans q⟩, u.free, fun b o e hx => by
        obtain ⟨o', q⟩ := u.there b o e hx
        exact ⟨o', (sb.2 b (ne b o e)).trans q⟩, u.tups, u.frzs, u.tbls⟩
  have hok : HOk X.prog X.w H' h' := fun b ob e => by
    have fr : H' s.heap.objs.size = none := I'.free
    refine (I'.hok b ob e).stay (fun c w' hc q => (sb.2 c ?_).trans q) (fun _ q => q) fun _ _ q => q
    rintro rfl
    rcases hc with rfl | hc
    · rw [fr] at e; cases e
    · rw [fr] at hc; cases hc
  obtain ⟨hh, g, d, t, os'⟩ := s'
  obtain rfl : os' = s.os := I'.os
  have J := I.call (h' := h') (g' := g) (d' := d) (t' := t) (ch := fp) un hok I'.bare fun b hb => ⟨(hf b hb).2.2.2.1, (hf b hb).2.1, (hf b hb).2.2.2.2.1, (hf b hb).2.2.2.2.2⟩
  exact J
end
section
variable {X : Cx} {e tg iter : Expr} {ifs : List Expr} {scope esc : Scope} {pos : Pos} {N os : List Str} {fi : List Nat} {wi : TI} {g : TG} {tt : TT} {tb : Addr → TB} {body : Addr → Env → Sem Fi → Sem Fi} {o0 : Addr → HO} {mk : Sem Value} {p : Pos}
theorem comp_coreC {pins : List (Addr × Obj)} {σ : St} {H : Hp} {s : Shared} {E : Value → Shared → Prop} {it : Addr} {fp : List Addr} {tn : Nat → Heap → Prop} {J : It} {Q : VK} {RR : Value → Addr → Result → Shared → Prop} (hc : X.calm = true) (hN : X.N = N) (he : X.env.scope = esc) (B : BlkC esc scope N fi)
    (hL : LoopRule X.prog X.w X.A e 0) (hS : StartRule X.prog X.w X.A e 0) (hT : ∀ (it D : Addr) (env : Env), compTurn e 0 (.ref it) (.ref D) env = turnOf tg p ifs (.ref it) env (body D env) (again (.compLoop e 0 (.ref it) (.ref D) env)))
    (hmk : NewRule X mk o0)
    (hg : ∀ s H fp, PG (blkC X scope (nB N os fi) s H fp) tg g) (ht : ∀ s H fp, PTs (blkC X scope (nB N os fi) s H fp) ifs tt) (hb : ∀ D s H fp, PB (blkC X scope (nB N os fi) s H fp) (body D (blkC X scope (nB N os fi) s H fp).env) (tb D))
    (I : Inv X pins σ H s) (T : Turn X.prog X.w X.K tg J fp it tn) (st : tn 0 s.heap) (hf : ∀ b ∈ fp, FpOk X pins H b) (q : ∀ l, H l = none → LR J g tt (tb l) (sB σ os fi) (upd H l (o0 l)) fun _ H' => Q (.ref l) H')
    (hRR : ∀ D s3 H3 s' σ' H', Inv X pins σ H3 s3 → (∀ b ∈ fp, FpOk X pins H3 b) → Inv (blkC X scope (nB N os fi) s3 H3 fp) [] σ' H' s' → Q (.ref D) H' → RR (.ref D) s3.heap.objs.size (.ok .next) s') :
    wpAny (model X.prog X.w) X.A mk (fun acc s3 => wpAny (model X.prog X.w) X.A (newFunctionEnv scope X.env.globals (clOf X.env scope.names []) [] X.env.qual none .none (some X.env)) (fun cenv s4 =>
      codeAny (model X.prog X.w) X.A (.compStart e 0 (.ref it) acc { cenv with scope := relabel scope X.env }) (RR acc cenv.locals) s4) E s3) E s := by
  subst hN
  have fresh : H s.heap.objs.size = none := I.hok.fresh (Nat.le_refl _)
  have old : ∀ b ∈ fp, ∃ o, s.heap.get? b = some o := fun b hb => by
    obtain ⟨o, e, _⟩ := T.obj _ _ st b hb
    exact ⟨o, e⟩
  refine hmk pins s σ H E _ I fun s3 k3 I3 => ?_
  have hf3 : ∀ b ∈ fp, FpOk X pins (upd H s.heap.objs.size (o0 s.heap.objs.size)) b := fun b hb => by
    obtain ⟨o, e⟩ := old b hb
    exact ⟨by rw [upd_ne (Nat.ne_of_lt (Heap.lt_size e))]; exact (hf b hb).1, (hf b hb).2⟩
  have st3 : tn 0 s3.heap := T.keep _ _ _ st fun b hb o e => k3 b o e
  have q3 := q _ fresh
  have ho3 : ∀ b ∈ fp, ∃ o, s3.heap.get? b = some o := fun b hb => by
    obtain ⟨o, e⟩ := old b hb
    exact ⟨o, k3 b o e⟩
  generalize s.heap.objs.size = D at *
  generalize upd H D (o0 D) = H3 at *
  refine newEnvC fun h4 k4 hn4 hc4 => ?_
  have I4 := blkC_inv (os := os) (t1 := s3.toks) B he I3 hf3 ho3 k4 hn4 hc4
  have st4 : tn 0 h4 := T.keep _ _ _ st3 fun b hb o e => k4 b o e
  have fpB : ∀ {H' : Hp}, (∀ b ∈ fp, H' b = none) → ∀ b ∈ fp, FpOk (blkC X scope (nB X.N os fi) s3 H3 fp) [] H' b := fun hn b hb => by
    refine ⟨hn b hb, (I4.ok.exf b hb).1, I4.ok.exfs b hb, .inl hb, (I4.ok.exf b hb).2, fun p hp => nomatch hp⟩
  have lp := loop_any (Y := blkC X scope (nB X.N os fi) s3 H3 fp) (R := RR (.ref D) s3.heap.objs.size) hL hc rfl (hT it D _) (hg s3 H3 fp) (ht s3 H3 fp) (hb D s3 H3 fp) T fpB I4 st4 (fun b hb => (hf3 b hb).1) q3
    fun σ' H' s' I' n' => hRR D s3 H3 s' σ' H' I3 hf3 I' n'
  exact hS _ _ _ _ _ lp (T.self _ 0 _ _ _ st4 lp)
theorem pe_compGC {gs : List Comprehension} {p' : Pos} (hev : eval e X.env = comprehension e scope X.env p' mk false (eval iter X.env)) (hcl : clausesOf e = ⟨tg, iter, ifs, 0⟩ :: gs) (hc : X.calm = true) (hN : X.N = N) (he : X.env.scope = esc) (B : BlkC esc scope N fi)
    (hL : LoopRule X.prog X.w X.A e 0) (hS : StartRule X.prog X.w X.A e 0) (hT : ∀ (it D : Addr) (env : Env), compTurn e 0 (.ref it) (.ref D) env = turnOf tg p ifs (.ref it) env (body D env) (again (.compLoop e 0 (.ref it) (.ref D) env)))
    (hmk : NewRule X mk o0) (hi : PI X tg iter wi)
    (hg : ∀ s H fp, PG (blkC X scope (nB N os fi) s H fp) tg g) (ht : ∀ s H fp, PTs (blkC X scope (nB N os fi) s H fp) ifs tt) (hb : ∀ D s H fp, PB (blkC X scope (nB N os fi) s H fp) (body D (blkC X scope (nB N os fi) s H fp).env) (tb D))
    (hs : ∀ x, foldedSetIterable iter X.env x = pure x := by intro _; rfl) : PE X e (tCG o0 os fi wi g tt tb) := by
  intro pins s σ H Q I h
  have cells := blkC_cells (by rw [hN]; exact B) he I
  rw [hev]
  refine wpAny_comprehension_free (use := none) hcl hs (closure_eq cells) B.kind B.loc (thn (hi pins s σ H _ I h) fun v s1 h1 => thn h1 fun itv s2 h2 => ?_)
  obtain ⟨it, fp, tn, J, H2, rfl, I2, T, st2, f2, q2⟩ := h2
  refine comp_coreC (RR := fun acc C => compPost (model X.prog X.w) X.A X.xe none (EP X pins σ Q) acc C) hc hN he B hL hS hT hmk hg ht hb I2 T st2 f2 q2 ?_
  intro D s3 H3 s' σ' H' I3 f3 I' q
  obtain ⟨m, hn, _⟩ := I'.loc
  exact ⟨m, hn, fun h' sb => ⟨.ref D, H', blkC_out I3 f3 I' sb, rfl, q⟩⟩
end
section
variable {X : Cx} {elt kx vx tg iter tg2 iter2 : Expr} {ifs ifs2 : List Expr} {scope esc : Scope} {pos : Pos} {N os : List Str} {fi : List Nat} {wi wi2 : TI} {g g2 : TG} {tt tt2 : TT} {te tk tv : TE}
theorem pe_dictcompC (hc : X.calm = true) (hN : X.N = N) (he : X.env.scope = esc) (B : BlkC esc scope N fi) (hi : PI X tg iter wi)
    (hg : ∀ s H fp, PG (blkC X scope (nB N os fi) s H fp) tg g) (ht : ∀ s H fp, PTs (blkC X scope (nB N os fi) s H fp) ifs tt)
    (hk : ∀ s H fp, PE (blkC X scope (nB N os fi) s H fp) kx tk) (hv : ∀ s H fp, PE (blkC X scope (nB N os fi) s H fp) vx tv)
    (hs : ∀ x, foldedSetIterable iter X.env x = pure x := by intro _; rfl) :
    PE X (.DictComp kx vx [⟨tg, iter, ifs, 0⟩] scope pos) (tCG (fun _ => .dK []) os fi wi g tt fun D => tEmD D tk tv) :=
  pe_compGC (gs := []) (body := fun D env => dictBody kx vx D env) rfl rfl hc hN he B loop_dict (start_dict rfl rfl) (fun _ _ _ => rfl) new_dict hi hg ht (fun D s H fp => pb_dict rfl (hk s H fp) (hv s H fp)) hs
theorem pe_compC (hc : X.calm = true) (hN : X.N = N) (he : X.env.scope = esc) (B : BlkC esc scope N fi) (hi : PI X tg iter wi)
    (hg : ∀ s H fp, PG (blkC X scope (nB N os fi) s H fp) tg g) (ht : ∀ s H fp, PTs (blkC X scope (nB N os fi) s H fp) ifs tt)
    (hel : ∀ s H fp, PE (blkC X scope (nB N os fi) s H fp) elt te)
    (hs : ∀ x, foldedSetIterable iter X.env x = pure x := by intro _; rfl) :
    PE X (.ListComp elt [⟨tg, iter, ifs, 0⟩] scope pos) (tCG (fun _ => .lst []) os fi wi g tt fun D => tEmL D te) :=
  pe_compGC (gs := []) (body := fun D env => listBody elt (.ref D) env) rfl rfl hc hN he B loop_list (start_list rfl rfl) (fun _ _ _ => rfl) new_list hi hg ht (fun D s H fp => pb_list rfl (hel s H fp)) hs
end
end L2
namespace L2
open PySem PySem.Spec PyProof.Rows
section
variable {X : Cx}
end
section
variable {prog : Program} {w : World} {A : Around} {E : Value → Shared → Prop} {s : Shared}
end
section
variable {X : Cx} {tg : Expr}
end
end L2
namespace L2
open PySem PySem.Spec PyProof.Rows
section
variable {X : Cx} {e tg iter : Expr} {ifs : List Expr} {scope esc : Scope} {pos : Pos} {N os : List Str} {fi : List Nat} {wi : TI} {g : TG} {tt : TT} {tb : Addr → TB} {body : Addr → Env → Sem Fi → Sem Fi} {o0 : Addr → HO} {mk : Sem Value} {p : Pos}
theorem ps_compG {gs : List Comprehension} {i : Nat} {y : Str} {py spos p' : Pos} (hev : ∀ use : Option (Value → Sem Unit), True) (hex : exec (.Assign [.Name y py] e spos) X.env = (do standAt spos; let _ ← (do let _ ← comprehension e scope X.env p' mk false (eval iter X.env) (some (assign (.Name y py) X.env))); pure .next)) (hcl : clausesOf e = ⟨tg, iter, ifs, 0⟩ :: gs) (hc : X.calm = true) (hN : X.N = N) (he : X.env.scope = esc) (B : BlkOk esc scope N fi)
    (hL : LoopRule X.prog X.w X.A e 0) (hS : StartRule X.prog X.w X.A e 0) (hT : ∀ (it D : Addr) (env : Env), compTurn e 0 (.ref it) (.ref D) env = turnOf tg p ifs (.ref it) env (body D env) (again (.compLoop e 0 (.ref it) (.ref D) env)))
    (hmk : NewRule X mk o0) (hnd : X.N.Nodup) (hy : X.N[i]? = some y) (hl : Loc X.env.scope y) (hi : PI X tg iter wi)
    (hg : ∀ s H fp, PG (blk X scope (nB N os fi) s H fp) tg g) (ht : ∀ s H fp, PTs (blk X scope (nB N os fi) s H fp) ifs tt) (hb : ∀ D s H fp, PB (blk X scope (nB N os fi) s H fp) (body D (blk X scope (nB N os fi) s H fp).env) (tb D))
    (hfn : X.fn y = true ∨ X.env.scope.names.lookup y = some .local := by first | exact .inl rfl | exact .inr rfl | assumption)
    (hs : ∀ x, foldedSetIterable iter X.env x = pure x := by intro _; rfl) : PS X (.Assign [.Name y py] e spos) (fun D σ H => tCG o0 os fi wi g tt tb σ H fun v H' => D.nx (σ.set i (some v)) H') := by
  intro pins s σ H D I h
  have cells := blk_cells (by rw [hN]; exact B) he I
  rw [hex]
  refine wpAny_bind (wpAny_standAt (wpAny_bind ?_))
  refine wpAny_bind (thn (wpAny_comprehension_free (use := some (assign (.Name y py) X.env)) (Q := fun _ s' => SP X pins D .next s') hcl hs (closure_eq cells) B.kind B.loc (thn (hi pins s σ H _ I h) fun v s1 h1 => thn h1 fun itv s2 h2 => ?_)) fun _ _ z => wpAny_pure (wpAny_pure z))
  obtain ⟨it, fp, tn, J, H2, rfl, I2, T, st2, f2, q2⟩ := h2
  refine comp_coreG (Q := fun v H' => D.nx (σ.set i (some v)) H') (RR := fun acc C => compPost (model X.prog X.w) X.A X.xe (some (assign (.Name y py) X.env)) (fun _ s' => SP X pins D .next s') acc C) hc hN he B hL hS hT hmk hg ht hb I2 T st2 f2 q2 ?_
  intro Dl s3 H3 s' σ' H' I3 f3 I' q
  have J' : Inv X pins σ H' s' := blk_out I3 f3 I' (Heap.SameBut.refl ..)
  show wpAny _ _ (assign (.Name y py) X.env (.ref Dl)) _ _ s'
  refine wpAny_assign_Name (store_ok2 (v := .ref Dl) J' hnd hy hl rfl (fun s'' J'' sb => ?_) hfn)
  obtain ⟨a, sb, ha⟩ := sb
  have cL : s3.heap.objs.size ≠ X.env.locals := Nat.ne_of_gt I3.lt
  have cC : ∀ x c, X.env.cells.lookup x = some c → c ≠ s3.heap.objs.size := fun x c e => by
    obtain ⟨v, ic⟩ := I3.cell x c e
    exact Nat.ne_of_lt ic.lt
  have ca : s3.heap.objs.size ≠ a := by
    rcases ha with z | z
    · rw [z]; exact cL
    · exact (cC _ _ z).symm
  obtain ⟨m, hn, _⟩ := I'.loc
  have hn'' : s''.heap.Ns s3.heap.objs.size m := by
    obtain ⟨o, es, ep, ho, r⟩ := hn
    exact ⟨o, es, ep, (sb.2 _ ca).trans ho, r⟩
  refine ⟨m, hn'', fun h' sb' => ⟨σ.set i (some (.ref Dl)), H', ?_, q⟩⟩
  exact J''.turned (t' := s''.toks) (it := s3.heap.objs.size) (fun b o hb e => (sb'.2 b hb).trans e) I'.free cL (.inr I3.sz) cC fun p hp => Nat.ne_of_lt (Heap.lt_size (I3.pin p hp).1)
end
section
variable {X : Cx} {elt kx vx tg iter tg2 iter2 : Expr} {ifs ifs2 : List Expr} {scope esc : Scope} {pos : Pos} {N os : List Str} {fi : List Nat} {wi wi2 : TI} {g g2 : TG} {tt tt2 : TT} {te tk tv : TE}
theorem pe_compL (hc : X.calm = true) (hN : X.N = N) (he : X.env.scope = esc) (B : BlkOk esc scope N fi) (hi : PI X tg iter wi)
    (hg : ∀ s H fp, PG (blk X scope (nB N os fi) s H fp) tg g) (ht : ∀ s H fp, PTs (blk X scope (nB N os fi) s H fp) ifs tt)
    (hel : ∀ s H fp, PE (blk X scope (nB N os fi) s H fp) elt te)
    (hs : ∀ x, foldedSetIterable iter X.env x = pure x := by intro _; rfl) :
    PE X (.ListComp elt [⟨tg, iter, ifs, 0⟩] scope pos) (tCG (fun _ => .lst []) os fi wi g tt fun D => tEmL D te) :=
  pe_compG (gs := []) (body := fun D env => listBody elt (.ref D) env) rfl rfl hc hN he B loop_list (start_list rfl rfl) (fun _ _ _ => rfl) new_list hi hg ht (fun D s H fp => pb_list rfl (hel s H fp)) hs
theorem ps_compL {i : Nat} {y : Str} {py spos : Pos} (hc : X.calm = true) (hN : X.N = N) (he : X.env.scope = esc) (B : BlkOk esc scope N fi) (hnd : X.N.Nodup) (hy : X.N[i]? = some y) (hl : Loc X.env.scope y) (hi : PI X tg iter wi)
    (hg : ∀ s H fp, PG (blk X scope (nB N os fi) s H fp) tg g) (ht : ∀ s H fp, PTs (blk X scope (nB N os fi) s H fp) ifs tt) (hel : ∀ s H fp, PE (blk X scope (nB N os fi) s H fp) elt te)
    (hsw : swapsWith (.ListComp elt [⟨tg, iter, ifs, 0⟩] scope pos) (some (.Name y py)) spos.line X.env = pure true := by rfl)
    (hfn : X.fn y = true ∨ X.env.scope.names.lookup y = some .local := by first | exact .inl rfl | exact .inr rfl | assumption)
    (hs : ∀ x, foldedSetIterable iter X.env x = pure x := by intro _; rfl) : PS X (.Assign [.Name y py] (.ListComp elt [⟨tg, iter, ifs, 0⟩] scope pos) spos) (fun D σ H => tCG (fun _ => .lst []) os fi wi g tt (fun D => tEmL D te) σ H fun v H' => D.nx (σ.set i (some v)) H') :=
  ps_compG (gs := []) (body := fun D env => listBody elt (.ref D) env) (fun _ => trivial) (exec_Assign_Name_used _ _ _ _ hsw) rfl hc hN he B loop_list (start_list rfl rfl) (fun _ _ _ => rfl) new_list hnd hy hl hi hg ht (fun D s H fp => pb_list rfl (hel s H fp)) hfn hs
theorem ps_dictcomp {i : Nat} {y : Str} {py spos : Pos} (hc : X.calm = true) (hN : X.N = N) (he : X.env.scope = esc) (B : BlkOk esc scope N fi) (hnd : X.N.Nodup) (hy : X.N[i]? = some y) (hl : Loc X.env.scope y) (hi : PI X tg iter wi)
    (hg : ∀ s H fp, PG (blk X scope (nB N os fi) s H fp) tg g) (ht : ∀ s H fp, PTs (blk X scope (nB N os fi) s H fp) ifs tt)
    (hk : ∀ s H fp, PE (blk X scope (nB N os fi) s H fp) kx tk) (hv : ∀ s H fp, PE (blk X scope (nB N os fi) s H fp) vx tv)
    (hsw : swapsWith (.DictComp kx vx [⟨tg, iter, ifs, 0⟩] scope pos) (some (.Name y py)) spos.line X.env = pure true := by rfl)
    (hfn : X.fn y = true ∨ X.env.scope.names.lookup y = some .local := by first | exact .inl rfl | exact .inr rfl | assumption)
    (hs : ∀ x, foldedSetIterable iter X.env x = pure x := by intro _; rfl) : PS X (.Assign [.Name y py] (.DictComp kx vx [⟨tg, iter, ifs, 0⟩] scope pos) spos) (fun D σ H => tCG (fun _ => .dK []) os fi wi g tt (fun D => tEmD D tk tv) σ H fun v H' => D.nx (σ.set i (some v)) H') :=
  ps_compG (gs := []) (body := fun D env => dictBody kx vx D env) (fun _ => trivial) (exec_Assign_Name_used _ _ _ _ hsw) rfl hc hN he B loop_dict (start_dict rfl rfl) (fun _ _ _ => rfl) new_dict hnd hy hl hi hg ht (fun D s H fp => pb_dict rfl (hk s H fp) (hv s H fp)) hfn hs
end
theorem lr_list {K : PySem.W.Frag} {S : Addr} {xs : List V} {g : TG} {tt : TT} {tb : TB} {σ : St} {H : Hp} {N : St → Hp → Prop} (Pv : Nat → St → Hp → Prop) (h0 : Pv 0 σ H) (hS : ∀ i σ H, Pv i σ H → SqL K H S xs)
    (step : ∀ (i : Nat) (x : V) (σ : St) (H : Hp) (C : St → Hp → Prop), xs[i]? = some x → Pv i σ H → (∀ σ' H', Pv (i + 1) σ' H' → C σ' H') → g x σ H fun σ4 H4 => tt σ4 H4 fun ok H5 => if ok = true then tb σ4 H5 C else C σ4 H5)
    (fin : ∀ σ H, Pv xs.length σ H → N σ H) : LR (Itl K S) g tt tb σ H N := by
  refine ⟨fun i m σ H => m = xs.length - i ∧ i ≤ xs.length ∧ Pv i σ H, ⟨_, rfl, Nat.zero_le _, h0⟩, ?_⟩
  rintro i m σ2 H2 ⟨rfl, hi, p⟩
  have sq := hS i σ2 H2 p
  by_cases hlt : i < xs.length
  · refine .inr ⟨⟨xs, _, sq, List.getElem?_eq_getElem hlt⟩, ?_⟩
    rintro x H3 ⟨rfl, hx⟩
    exact step i x σ2 H3 _ (hx _ sq) p fun σ' H' p' => ⟨xs.length - (i + 1), by omega, rfl, hlt, p'⟩
  · have e : i = xs.length := by omega
    subst e
    exact .inl ⟨⟨xs, sq, Nat.le_refl _⟩, fin σ2 H2 p⟩
end L2
namespace L2
open PySem PySem.Spec PyProof.Rows
theorem newH {H : Hp} {a : Addr} {o : HO} {H' : Hp} (h : upd H a o = H') (n : H a = none) : Same H H' ∧ H' a = some o ∧ ∀ b, b ≠ a → H' b = H b := by
  subst h
  exact ⟨fun b u e => by rw [upd_ne (ne_of_none e n)]; exact e, upd_same, fun b hb => upd_ne hb⟩
theorem newC {H : Hp} {a : Addr} {o : HO} {H' : Hp} {C : Prop} (h : upd H a o = H') (n : H a = none) (k : Same H H' → H' a = some o → (∀ b, b ≠ a → H' b = H b) → C) : C :=
  k (newH h n).1 (newH h n).2.1 (newH h n).2.2
theorem lr_range {lo : Int} {n : Nat} {g : TG} {tt : TT} {tb : TB} {σ : St} {H : Hp} {N : St → Hp → Prop} (Pv : Nat → St → Hp → Prop) (h0 : Pv 0 σ H)
    (step : ∀ (i : Nat) (σ : St) (H : Hp) (C : St → Hp → Prop), i < n → Pv i σ H → (∀ σ' H', Pv (i + 1) σ' H' → C σ' H') → g (.int (lo + i)) σ H fun σ4 H4 => tt σ4 H4 fun ok H5 => if ok = true then tb σ4 H5 C else C σ4 H5)
    (fin : ∀ σ H, Pv n σ H → N σ H) : LR (Itr lo n) g tt tb σ H N := by
  refine ⟨fun i m σ H => m = n - i ∧ i ≤ n ∧ Pv i σ H, ⟨_, rfl, Nat.zero_le _, h0⟩, ?_⟩
  rintro i m σ2 H2 ⟨rfl, hi, p⟩
  by_cases hlt : i < n
  · refine .inr ⟨hlt, ?_⟩
    rintro x H3 ⟨rfl, rfl⟩
    exact step i σ2 H3 _ hlt p fun σ' H' p' => ⟨n - (i + 1), by omega, rfl, hlt, p'⟩
  · have e : i = n := by omega
    subst e
    exact .inl ⟨Nat.le_refl _, fin _ _ p⟩
end L2
namespace L2
open PySem PySem.Spec PyProof.Rows
end L2
namespace L2
open PySem PySem.Spec PyProof.Rows
end L2
namespace L2
open PySem PySem.Spec PyProof.Rows
end L2
namespace L2
open PySem PySem.Spec PyProof.Rows
theorem lr_enum {K : PySem.W.Frag} {S : Addr} {xs : List V} {g : TG} {tt : TT} {tb : TB} {σ : St} {H : Hp} {N : St → Hp → Prop} (Pv : Nat → St → Hp → Prop) (h0 : Pv 0 σ H) (hS : ∀ i σ H, Pv i σ H → SqL K H S xs)
    (step : ∀ (i : Nat) (x : V) (t : Addr) (σ : St) (H : Hp) (C : St → Hp → Prop), xs[i]? = some x → Pv i σ H → H t = none → (∀ σ' H', Pv (i + 1) σ' H' → C σ' H') → g (.ref t) σ (upd H t (.tup [.int i, x])) fun σ4 H4 => tt σ4 H4 fun ok H5 => if ok = true then tb σ4 H5 C else C σ4 H5)
    (fin : ∀ σ H, Pv xs.length σ H → N σ H) : LR (Ite K S) g tt tb σ H N := by
  refine ⟨fun i m σ H => m = xs.length - i ∧ i ≤ xs.length ∧ Pv i σ H, ⟨_, rfl, Nat.zero_le _, h0⟩, ?_⟩
  rintro i m σ2 H2 ⟨rfl, hi, p⟩
  have sq := hS i σ2 H2 p
  by_cases hlt : i < xs.length
  · refine .inr ⟨⟨xs, _, sq, List.getElem?_eq_getElem hlt⟩, ?_⟩
    rintro x H3 ⟨t, y, n, rfl, hy, rfl⟩
    exact step i y t σ2 H2 _ (hy _ sq) p n fun σ' H' p' => ⟨xs.length - (i + 1), by omega, rfl, hlt, p'⟩
  · have e : i = xs.length := by omega
    subst e
    exact .inl ⟨⟨xs, sq, Nat.le_refl _⟩, fin σ2 H2 p⟩
end L2
namespace L2
open PySem
end L2
namespace L2
open PySem PySem.Spec PyProof.Rows
section
variable {pr : Program} {wd : World} {Ar : Around} {Rs : Result → Shared → Prop} {J : Addr} {fo wo : List Addr} {Ge : Array GenState → Array GenState → Prop} {m : Nat} {Pv : Nat → Value → Prop} {Sa : Nat → Shared → Prop}
end
section
variable {pr : Program} {wd : World} {Ar : Around} {Ex : Value → Shared → Prop} {s : Shared}
end
section
variable {X : Cx}
end
end L2
namespace L2
open PySem PySem.Spec PyProof.Rows
end L2
namespace L2
open PySem PySem.Spec PyProof.Rows
section
variable {prog : Program} {w : World} {A : Around} {E : Value → Shared → Prop} {s : Shared} {z TI TO i1 i2 : Addr} {n1 n2 k : Nat} {P1 P2 : Nat → Value → Prop} {St1 St2 : Nat → Heap → Prop} {fp1 fp2 : List Addr} {a b : Value}
end
section
variable {prog : Program} {w : World} {A : Around} {E : Value → Shared → Prop} {s : Shared} {z TI TO i1 i2 : Addr} {n1 n2 k : Nat} {P1 P2 : Nat → Value → Prop} {St1 St2 : Nat → Heap → Prop} {fp1 fp2 : List Addr} {a b : Value}
end
section
variable {prog : Program} {w : World} {A : Around} {E : Value → Shared → Prop} {s : Shared}
end
end L2
namespace L2
open PySem PySem.Spec PyProof.Rows
section
variable {prog : Program} {w : World} {A : Around} {E : Value → Shared → Prop} {s : Shared}
end
theorem Inv.turnedL {X : Cx} {pins : List (Addr × Obj)} {σ : St} {H : Hp} {s : Shared} {h' : Heap} {t' : Nat} {fp : List Addr} (I : Inv X pins σ H s)
    (k : ∀ b o, b ∉ fp → s.heap.get? b = some o → h'.get? b = some o) (f : ∀ b ∈ fp, FpOk X pins H b) : Inv X pins σ H { s with heap := h', toks := t' } := by
  have nit : ∀ b u, H b = some u → b ∉ fp := fun b u q z => by rw [(f b z).1] at q; cases q
  refine I.step (g' := s.gens) (d' := s.drawn) (ch := fp) (fun b hb => ?_) (fun b o _ _ hc q _ => k b o hc q) (fun b o _ _ hc q _ => ⟨o.slots, k b o hc q⟩) (fun _ _ _ _ n => n)
    (fun b o hc q => ⟨o, k b o hc q⟩) (fun _ _ q => q) (fun _ _ _ q => q) (fun b ps q => ⟨#[], by rw [q]; simp⟩) (fun m hm => ?_) (fun b u q => ?_) I.bare
  · exact ⟨(f b hb).2.2.2.1, (f b hb).2.1, (f b hb).2.2.2.2.1, (f b hb).2.2.2.2.2⟩
  · obtain ⟨o, es, ep, ho, r⟩ := hm
    exact ⟨o, es, ep, k _ o (fun z => (f _ z).2.1 rfl) ho, r⟩
  · refine (I.hok b u q).stay (fun c v hc r => ?_) (fun _ r => r) fun _ _ r => r
    rcases hc with z | z
    · rw [z] at r ⊢; exact k b v (nit b u q) r
    · exact k c v (nit c _ z) r
section
variable {X : Cx} {es : List Expr} {tk : Nat} {tpos : Pos}
end
theorem Inv.freeze {X : Cx} {pins : List (Addr × Obj)} {σ : St} {H : Hp} {s : Shared} {a : Addr} {kvs : List (Key × V)} (I : Inv X pins σ H s) (ha : H a = some (.dK kvs)) :
    ∃ o, s.heap.get? a = some o ∧ Inv X pins σ (upd H a (.frz o (.dK kvs))) s := by
  have ok := I.hok a _ ha
  obtain ⟨_, _, vs, rel, o, es, ep, ho, _⟩ := id ok
  refine ⟨o, ho, ?_⟩
  have nn : ∀ {b u}, H b = some u → (∀ kvs, u ≠ .dK kvs) → b ≠ a := fun e n z => by subst z; rw [ha] at e; cases e; exact n _ rfl
  have r := I.step (H' := upd H a (.frz o (.dK kvs))) (h' := s.heap) (g' := s.gens) (t' := s.toks) (d' := s.drawn) (ch := []) (fun _ z => nomatch z) (fun b o _ _ _ q _ => q) (fun b o _ _ _ q _ => ⟨o.slots, q⟩)
    (fun b o _ _ n => by rw [upd_ne (by intro z; subst z; rw [ha] at n; cases n)]; exact n) (fun b o _ q => ⟨o, q⟩)
    (fun b xs q => by rw [upd_ne (nn q (by intro _ z; cases z))]; exact q) (fun b o u q => by rw [upd_ne (nn q (by intro _ z; cases z))]; exact q)
    (fun b ps q => ⟨#[], by rw [upd_ne (nn q (by intro _ z; cases z)), q]; simp⟩) (fun m hm => hm) (fun b u q => ?_) I.bare
  · exact r
  · by_cases hb : b = a
    · subst hb
      rw [upd_same] at q
      cases q
      exact ⟨ho, ok.stay (fun _ _ _ r => r) (fun c r => by rw [upd_ne (nn r (by intro _ z; cases z))]; exact r) fun c xs r => by rw [upd_ne (nn r (by intro _ z; cases z))]; exact r⟩
    · rw [upd_ne hb] at q
      exact (I.hok b u q).stay (fun _ _ _ r => r) (fun c r => by rw [upd_ne (nn r (by intro _ z; cases z))]; exact r) fun c xs r => by rw [upd_ne (nn r (by intro _ z; cases z))]; exact r
def Itk (a : Addr) (o : Obj) (kvs : List (Key × V)) : It :=
  ⟨fun i H => H a = some (.frz o (.dK kvs)) ∧ i < kvs.length, fun i H x H' => H' = H ∧ ∃ k v, kvs[i]? = some (k, v) ∧ x = kV k, fun i H => H a = some (.frz o (.dK kvs)) ∧ i = kvs.length⟩
theorem kV_rel {k : Key} {u : Value} (h : keyIs k u = true) : RelV (kV k) u := by
  rcases keyIs_shape h with ⟨i, t, rfl, rfl⟩ | ⟨x, t, rfl, rfl⟩
  · exact ⟨t, rfl⟩
  · exact ⟨t, rfl⟩
theorem kv_get : ∀ {kvs : List (Key × V)} {vs : List (Key × Value)} (rel : KV kvs vs) {i : Nat} (hi : i < kvs.length), ∃ w', vs[i]? = some (kvs[i].1, w') ∧ RelV kvs[i].2 w'
  | p :: kvs, q :: vs, .cons r rs, 0, _ => ⟨q.2, by
      obtain ⟨e, _⟩ := r
      show some q = some (p.1, q.2)
      rw [e], r.2⟩
  | p :: kvs, q :: vs, .cons r rs, i + 1, hi => kv_get rs (Nat.lt_of_succ_lt_succ hi)
theorem turn_keys {P : Program} {w : World} {K : PySem.W.Frag} {tg : Expr} {kvs : List (Key × V)} {o : Obj} {es : Array DictEntry} {ep : Nat} (a it : Addr) (hd : o.data = .dict es ep) :
    Turn P w K tg (Itk a o kvs) [it] it (fun i h => h.IsKeyIter it a i kvs.length ep) where
  mem := by simp
  obj := fun i h st b hb => by
    have e : b = it := by simpa using hb
    subst e
    obtain ⟨o, e, c, d⟩ := st
    exact ⟨o, e, fun v z => by rw [d] at z; cases z⟩
  keep := fun i h h' st k => st.at fun o e => k it (by simp) o e
  item := by
    intro X hP hw hK hc i pins s σ H E I hf st hg
    subst hP hw hK
    obtain ⟨ha, hi⟩ := hg
    obtain ⟨ho, _, _, vs, rel, o', es', ep', ho', c1, c2, c3⟩ := I.hok a _ ha
    rw [ho] at ho'; cases ho'
    rw [hd] at c2; cases c2
    have dd : s.heap.DictAt (mixKind X.prog X.w) a vs ep := ⟨o, es, ho, c1, hd, c3⟩
    have ln : kvs.length = vs.length := KV.length rel
    obtain ⟨f0, f1, f2, f3, f4, f5⟩ := hf it (by simp)
    have st' : s.heap.IsKeyIter it a i vs.length ep := by rw [← ln]; exact st
    obtain ⟨w', hw, ek⟩ := kv_get rel hi
    refine wpAny_pyNext_dict_item (k := kvs[i].1) (v := w') st' dd hw fun key h' hk it' sb => ?_
    have I1 : Inv X pins σ H { s with heap := h' } := I.turned (t' := s.toks) (fun b o hb e => (sb.2 b hb).trans e) f0 f1 f3 f4 f5
    obtain ⟨o2, e2, cc2, d2⟩ := id it'
    refine ⟨key, rfl, go_of (s := { s with heap := h' }) e2 cc2 d2 (by decide) ⟨kV kvs[i].1, H, I1, kV_rel hk, ⟨rfl, kvs[i].1, kvs[i].2, by simp [hi], rfl⟩, by rw [ln]; exact it', fun b hb => (hf b hb).1⟩⟩
  done := by
    intro X hP hw hK hc i pins s σ H E I hf st hg
    subst hP hw hK
    obtain ⟨ha, hi⟩ := hg
    obtain ⟨ho, _, _, vs, rel, o', es', ep', ho', c1, c2, c3⟩ := I.hok a _ ha
    rw [ho] at ho'; cases ho'
    rw [hd] at c2; cases c2
    have dd : s.heap.DictAt (mixKind X.prog X.w) a vs ep := ⟨o, es, ho, c1, hd, c3⟩
    have ln : kvs.length = vs.length := KV.length rel
    obtain ⟨f0, f1, f2, f3, f4, f5⟩ := hf it (by simp)
    have st' : s.heap.IsKeyIter it a i vs.length ep := by rw [← ln]; exact st
    exact wpAny_pyNext_dict_end (I.ok.hd hc) st' dd (by simp; omega) fun h' eb => ⟨rfl, I.turned (t' := s.toks) (fun b o hb e => eb b o hb e) f0 f1 f3 f4 f5⟩
  self := fun _ _ _ _ _ st h => wpAny_pyIter_keyiter st h
def iKeys (tl : TE) : TI := fun σ H R => tl σ H fun v H1 => ∃ (a : Addr) (kvs : List (Key × V)), v = .ref a ∧ Rd H1 a (.dK kvs) ∧ ∀ o H2, H2 a = some (.frz o (.dK kvs)) → (∀ b, b ≠ a → H2 b = H1 b) → R (Itk a o kvs) H2
section
variable {X : Cx} {tg : Expr}
theorem pi_keys {l : Expr} {tl : TE} (hl : PE X l tl) : PI X tg l (iKeys tl) := by
  intro pins s σ H R I h
  refine thn (hl pins s σ H _ I h) fun v s1 ⟨y, H1, I1, r1, a, kvs, e, rd, q⟩ => ?_
  subst e
  cases r1
  have core : ∀ o H2, H2 a = some (.frz o (.dK kvs)) → (∀ b, b ≠ a → H2 b = H1 b) → Inv X pins σ H2 s1 → wpAny (model X.prog X.w) X.A (pyIter (.ref a)) (PIE X pins σ tg R) X.xe s1 := fun o H2 e2 ne I2 => by
    obtain ⟨ho, _, hs, vs, rel, o', es, ep, ho', c1, c2, c3⟩ := I2.hok a _ e2
    rw [ho] at ho'; cases ho'
    have dd : s1.heap.DictAt (mixKind X.prog X.w) a vs ep := ⟨o, es, ho, c1, c2, c3⟩
    refine wpAny_pyIter_dict hs dd ?_
    have ln : kvs.length = vs.length := KV.length rel
    refine ⟨s1.heap.objs.size, [s1.heap.objs.size], _, _, H2, rfl, I2.kept (t' := s1.toks) fun b o e => Heap.get?_push_of_some _ e, turn_keys (kvs := kvs) a s1.heap.objs.size c2, ?_, fun b hb => ?_, q o H2 e2 ne⟩
    · exact ⟨_, Heap.get?_push_size _ rfl, rfl, by rw [ln]; rfl⟩
    · have e : b = s1.heap.objs.size := by simpa using hb
      subst e
      exact I2.fpOk (Nat.le_refl _) (I2.hok.fresh (Nat.le_refl _))
  rcases rd with rd | ⟨o, rd⟩
  · obtain ⟨o, ho, I2⟩ := I1.freeze rd
    exact core o _ upd_same (fun b hb => upd_ne hb) I2
  · exact core o H1 rd (fun _ _ => rfl) I1
end
end L2
namespace L2
open PySem PySem.Spec PyProof.Rows PySem.W
section
variable {X : Cx} {o : Expr} {to : TE} {p pos apos cpos : Pos}
end
end L2
namespace L2
open PySem PySem.Spec PyProof.Rows
def Iti (a : Addr) (o : Obj) (kvs : List (Key × V)) : It :=
  ⟨fun i H => H a = some (.frz o (.dK kvs)) ∧ i < kvs.length, fun i H x H' => ∃ t k v, H t = none ∧ x = .ref t ∧ kvs[i]? = some (k, v) ∧ H' = upd H t (.tup [kV k, v]), fun i H => H a = some (.frz o (.dK kvs)) ∧ i = kvs.length⟩
theorem turn_items {P : Program} {w : World} {K : PySem.W.Frag} {xs : List Expr} {n : Nat} {pos : Pos} {kvs : List (Key × V)} {o : Obj} {es : Array DictEntry} {ep : Nat} (a it : Addr) (hd : o.data = .dict es ep) :
    Turn P w K (.Tuple xs n pos) (Iti a o kvs) [it] it (fun i h => ∃ ok ov, IsItemIter h it a i kvs.length ep ok ov) where
  mem := by simp
  obj := fun i h st b hb => by
    have e : b = it := by simpa using hb
    subst e
    obtain ⟨ok, ov, e⟩ := st
    exact ⟨_, e, fun v z => by cases (show Data.fields _ = Data.cell v from z)⟩
  keep := fun i h h' st k => by
    obtain ⟨ok, ov, e⟩ := st
    exact ⟨ok, ov, k it (by simp) _ e⟩
  item := by
    intro X hP hw hK hc i pins s σ H E I hf st hg
    subst hP hw hK
    obtain ⟨ha, hi⟩ := hg
    obtain ⟨ho, _, _, vs, rel, o', es', ep', ho', c1, c2, c3⟩ := I.hok a _ ha
    rw [ho] at ho'; cases ho'
    rw [hd] at c2; cases c2
    have dd : s.heap.DictAt (mixKind X.prog X.w) a vs ep := ⟨o, es, ho, c1, hd, c3⟩
    have ln : kvs.length = vs.length := KV.length rel
    have fp := hf it (by simp)
    obtain ⟨ok, ov, st⟩ := st
    rw [ln] at st
    obtain ⟨w', hw, ek⟩ := kv_get rel hi
    refine wpAny_pyNext_items_item (k := kvs[i].1) (v := w') st dd hw fun key h' hk it' ht hz kp => ?_
    refine ⟨_, rfl, wpAny_letOwnedTupleGo_items (s := { s with heap := h' }) it' fun h2' b1 sb => ?_⟩
    have hfr := I.hok.fresh (Nat.le_refl s.heap.objs.size)
    have I1 : Inv X pins σ (upd H s.heap.objs.size (.tup [kV kvs[i].1, kvs[i].2])) { s with heap := s.heap.push { cls := .type "tuple", data := .seq #[key, w'] }, toks := s.toks } :=
      I.laid (o := .tup [kV kvs[i].1, kvs[i].2]) (fun b o q => Heap.get?_push_of_some _ q) (Nat.le_refl _) ⟨by show 2 ≤ sizeLine; decide, [key, w'], .cons (kV_rel hk) (.cons ek .nil), IsTup.new _ _⟩
    have lt : it < s.heap.objs.size := Heap.lt_size st
    have up : ∀ b ∈ [it], FpOk X pins (upd H s.heap.objs.size (.tup [kV kvs[i].1, kvs[i].2])) b := fun b hb => by
      have e : b = it := by simpa using hb
      subst e
      exact ⟨by rw [upd_ne (Nat.ne_of_lt lt)]; exact fp.1, fp.2⟩
    have I2 := I1.turnedL (h' := h2') (t' := s.toks) (fun b o n q => ?_) up
    · refine ⟨.ref s.heap.objs.size, _, I2, rfl, ⟨_, _, _, hfr, rfl, by simp [hi], rfl⟩, ⟨_, _, by rw [ln]; exact b1⟩, fun b hb => (up b hb).1⟩
    · have q1 : (s.heap.push { cls := .type "tuple", data := .seq #[key, w'] }).get? b = some o := q
      have nb : b ≠ it := by simpa using n
      refine sb.extBut b o nb ?_
      by_cases hb : b = s.heap.objs.size
      · subst hb
        rw [Heap.get?_push_size _ rfl] at q1
        cases q1
        exact ht
      · refine kp b o nb ?_
        rw [← q1]
        exact (Heap.get?_push_ne s.heap b _ hb).symm
  done := by
    intro X hP hw hK hc i pins s σ H E I hf st hg
    subst hP hw hK
    obtain ⟨ha, hi⟩ := hg
    obtain ⟨ho, _, _, vs, rel, o', es', ep', ho', c1, c2, c3⟩ := I.hok a _ ha
    rw [ho] at ho'; cases ho'
    rw [hd] at c2; cases c2
    have dd : s.heap.DictAt (mixKind X.prog X.w) a vs ep := ⟨o, es, ho, c1, hd, c3⟩
    have ln : kvs.length = vs.length := KV.length rel
    obtain ⟨ok, ov, st⟩ := st
    rw [ln] at st
    exact wpAny_pyNext_items_end (I.ok.hd hc) st dd (by simp; omega) fun h' eb => ⟨rfl, I.turnedL (t' := s.toks) (fun b o n q => eb b o (by simpa using n) q) hf⟩
  self := fun _ _ _ _ _ st h => by
    obtain ⟨ok, ov, st⟩ := st
    exact PySem.W.kcp_self st h
def iItems (to : TE) : TI := fun σ H R => to σ H fun v H1 => ∃ (a : Addr) (kvs : List (Key × V)), v = .ref a ∧ Rd H1 a (.dK kvs) ∧ ∀ o H2, H2 a = some (.frz o (.dK kvs)) → (∀ b, b ≠ a → H2 b = H1 b) → R (Iti a o kvs) H2
section
variable {X : Cx} {es : List Expr} {tk : Nat} {tpos : Pos}
theorem pi_items {o : Expr} {to : TE} {apos cpos : Pos} (ho : PE X o to)
    (hbase : attributeBase o "items" X.env (eval o X.env) = eval o X.env := by rfl) (hline : (apos.endLine == cpos.line) = true := by rfl) :
    PI X (.Tuple es tk tpos) (.Call (.Attribute o "items" apos) [] [] cpos) (iItems to) := by
  intro pins s σ H R I h
  refine wpAny_Call_method0_late hbase hline (thn (ho pins s σ H _ I h) fun v s1 ⟨x, H1, I1, r1, a, kvs, ex, rd, q⟩ => ?_)
  subst ex
  obtain rfl : v = Value.ref a := r1
  obtain ⟨t1, t2, hs⟩ := isD_at I1 (.inl ⟨kvs, rd⟩)
  obtain ⟨_, _, vs0, _, dd0⟩ := dk_rd I1.hok rd
  refine ⟨"dict", "dict.items", PySem.F.plainAttrs_dict, PySem.F.slot_dict_items, PySem.F.type_dict_items, t1, t2, Calls.callWith_builtin rfl (PySem.evalArgs_none ?_)⟩
  refine call_meetsIn PySem.F.slot_dict_items dd0.typeIs PySem.F.entry_dict_items (PySem.F.args_dict_items_1 _) (meets_dict_items (mixKind X.prog X.w) a hs) ⟨⟨_, dd0⟩, ?_⟩
  have core : ∀ o H2, H2 a = some (.frz o (.dK kvs)) → (∀ b, b ≠ a → H2 b = H1 b) → Inv X pins σ H2 s1 → wpAny (model X.prog X.w) X.A (pyIter (.ref s1.heap.objs.size)) (PIE X pins σ (.Tuple es tk tpos) R) X.xe { s1 with heap := s1.heap.push { cls := .type "dict_items", data := .fields #[.ref a] } } := fun o H2 e2 ne I2 => by
    obtain ⟨ho, _, hs, vs, rel, o', es', ep, ho', c1, c2, c3⟩ := I2.hok a _ e2
    rw [ho] at ho'; cases ho'
    have dd : s1.heap.DictAt (mixKind X.prog X.w) a vs ep := ⟨o, es', ho, c1, c2, c3⟩
    have hview : (s1.heap.push { cls := .type "dict_items", data := .fields #[.ref a] }).IsItemsView s1.heap.objs.size a := ⟨_, Heap.get?_push_size _ rfl, rfl, rfl⟩
    refine wpAny_pyIter_items (s := { s1 with heap := s1.heap.push { cls := .type "dict_items", data := .fields #[.ref a] } }) hview (dd.push _) ?_
    have ln : kvs.length = vs.length := KV.length rel
    have I3 : Inv X pins σ H2 { s1 with heap := s1.heap.push { cls := .type "dict_items", data := .fields #[.ref a] } } := I2.kept (t' := s1.toks) fun b o e => Heap.get?_push_of_some _ e
    refine ⟨(s1.heap.push { cls := .type "dict_items", data := .fields #[.ref a] }).objs.size, [(s1.heap.push { cls := .type "dict_items", data := .fields #[.ref a] }).objs.size], _, _, H2, rfl, I3.kept (t' := s1.toks) fun b o e => Heap.get?_push_of_some _ e, turn_items (kvs := kvs) a _ c2, ?_, fun b hb => ?_, q o H2 e2 ne⟩
    · exact ⟨_, _, by rw [ln]; exact Heap.get?_push_size _ rfl⟩
    · have e : b = (s1.heap.push { cls := .type "dict_items", data := .fields #[.ref a] }).objs.size := by simpa using hb
      subst e
      exact I3.fpOk (Nat.le_refl _) (I3.hok.fresh (Nat.le_refl _))
  rcases rd with rd | ⟨o, rd⟩
  · obtain ⟨o, ho, I2⟩ := I1.freeze rd
    exact core o _ upd_same (fun b hb => upd_ne hb) I2
  · exact core o H1 rd (fun _ _ => rfl) I1
end
theorem lr_items {a : Addr} {o : Obj} {kvs : List (Key × V)} {g : TG} {tt : TT} {tb : TB} {σ : St} {H : Hp} {N : St → Hp → Prop} (Pv : Nat → St → Hp → Prop) (h0 : Pv 0 σ H) (hl : ∀ i σ H, i ≤ kvs.length → Pv i σ H → H a = some (.frz o (.dK kvs)))
    (step : ∀ (i : Nat) (k : Key) (v : V) (t : Addr) (σ : St) (H : Hp) (C : St → Hp → Prop), kvs[i]? = some (k, v) → H t = none → Pv i σ H → (∀ σ' H', Pv (i + 1) σ' H' → C σ' H') → g (.ref t) σ (upd H t (.tup [kV k, v])) fun σ4 H4 => tt σ4 H4 fun ok H5 => if ok = true then tb σ4 H5 C else C σ4 H5)
    (fin : ∀ σ H, Pv kvs.length σ H → N σ H) : LR (Iti a o kvs) g tt tb σ H N := by
  refine ⟨fun i m σ H => m = kvs.length - i ∧ i ≤ kvs.length ∧ Pv i σ H, ⟨_, rfl, Nat.zero_le _, h0⟩, ?_⟩
  rintro i m σ2 H2 ⟨rfl, hi, p⟩
  have fz := hl i σ2 H2 hi p
  by_cases hlt : i < kvs.length
  · refine .inr ⟨⟨fz, hlt⟩, ?_⟩
    rintro x H3 ⟨t, k, v, ht, rfl, hkv, rfl⟩
    exact step i k v t σ2 H2 _ hkv ht p fun σ' H' p' => ⟨kvs.length - (i + 1), by omega, rfl, hlt, p'⟩
  · have e : i = kvs.length := by omega
    subst e
    exact .inl ⟨⟨fz, rfl⟩, fin σ2 H2 p⟩
end L2
namespace L2
open PySem PySem.Spec PyProof.Rows
section
variable {X : Cx}
end
end L2
namespace L2
open PySem PySem.Spec PyProof.Rows
section
variable {X : Cx}
end
end L2
namespace L2
open PySem PySem.Spec PyProof.Rows
section
variable {X : Cx}
end
end L2
namespace L2
open PySem PySem.Spec PyProof.Rows
section
variable {X : Cx} {es : List Expr} {tk : Nat} {tpos : Pos}
end
end L2
namespace L2
open PySem PySem.Spec PyProof.Rows
end L2
namespace L2
open PySem PySem.Spec PyProof.Rows
section
variable {prog : Program} {w : World} {A : Around} {E : Value → Shared → Prop} {h : Heap} {g : Array GenState} {d : Drawn} {t : Nat} {os : OsState} {nm q : Str} {C N : Addr} {bs bm bmB : List Value} {hdct : Bool} {sn : List Str} {sub : List Value} {ab : Bool} {col : Option Bool}
  {dd : Option Addr} {k0 k1 k2 k3 k5 : Option Value} {B newId initId : String}
end
end L2
namespace L2
open PySem PySem.Spec PyProof.Rows
section
variable {prog : Program} {w : World} {A : Around} {E : Value → Shared → Prop} {h : Heap} {g : Array GenState} {d : Drawn} {t : Nat} {os : OsState}
end
end L2
namespace L2
open PySem PySem.Spec PyProof.Rows
section
variable {M : Model} {A : Around} {E : Value → Shared → Prop} {h : Heap} {g : Array GenState} {d : Drawn} {t : Nat} {os : OsState} {nm q : Str} {C N : Addr} {bs bm : List Value} {hdct : Bool} {sn : List Str} {sub : List Value} {ab : Bool} {col : Option Bool}
  {dd : Option Addr} {k0 k1 k2 k3 k5 : Option Value} {newId : String}
end
section
variable {prog : Program} {w : World} {A : Around} {E : Value → Shared → Prop} {h : Heap} {g : Array GenState} {d : Drawn} {t : Nat} {os : OsState}
end
end L2
namespace L2
open PySem PySem.Spec PyProof.Rows
open Builtin.ObjectAttr in
section
variable {prog : Program} {w : World} {A : Around} {E : Value → Shared → Prop} {s : Shared} {K : PySem.W.Frag} {x C : Addr} {ox : Obj} {name : Str} {v : Value}
end
end L2
namespace L2
open PySem PySem.Spec PyProof.Rows
section
variable {prog : Program} {w : World} {A : Around} {E : Value → Shared → Prop} {s : Shared} {K : PySem.W.Frag}
end
end L2
namespace L2
open PySem PySem.Spec PyProof.Rows
section
variable {prog : Program} {w : World} {A : Around} {E : Value → Shared → Prop} {s : Shared}
end
end L2
namespace L2
open PySem PySem.Spec PyProof.Rows
section
variable {prog : Program} {w : World} {A : Around} {s : Shared} {K : PySem.W.Frag}
end
end L2
namespace L2
open PySem PySem.Spec PyProof.Rows
section
variable {prog : Program} {w : World} {A : Around} {E : Value → Shared → Prop} {s : Shared}
end
end L2
namespace L2
open PySem PySem.Spec PyProof.Rows
section
variable {nm q : Str} {C N : Addr} {bs bm : List Value} {hdct : Bool} {sn : List Str} {sub : List Value} {ab : Bool} {col : Option Bool} {dd : Option Addr} {k0 k1 k2 k3 k5 : Option Value} {newId : String}
end
section
variable {P : Program} {w : World} {K : PySem.W.Frag} {mg : Str → Option Value} {base : Heap} {N : List Str} {qual : Str} {scope : Scope} {f : Addr} {cd : Value} {A : Around} {outer : List Env} {s : Shared} {H : Hp} {E : XK}
end
end L2
namespace L2
open PySem PySem.Spec PyProof.Rows
section
variable {prog : Program} {w : World} {A : Around} {E : Value → Shared → Prop} {K : PySem.W.Frag} {C e : Addr} {ox : Obj} {od : Option Obj}
end
end L2
namespace L2
open PySem PySem.Spec PyProof.Rows
end L2
namespace L2
open PySem PySem.Spec PyProof.Rows
structure FunG (K : PySem.W.Frag) (x qual : Str) (st : Stmt) (dV : Value) (f : Addr) (fd : FuncData) : Prop where
  ex : ∃ (oc : Value) (od : Option Addr) (kV doc pm : Value) (an : Option Addr) (cdv ct : Value) (osl : Array (Option Value)),
    fd = PySem.W.fnOf x qual (defArgs st) (defBody st) (defScope st) dV kV doc pm an cdv ct ∧ K.lookup f = some ⟨oc, od, .func fd, osl⟩ ∧ PySem.W.codeIn K cdv qual = true
  kp : PySem.W.keepIn K (.ref f) = true
section
variable {P : Program} {w : World} {K : PySem.W.Frag} {mg : Str → Option Value} {base : Heap} {x qual : Str} {st : Stmt} {dV : Value} {f : Addr} {fd : FuncData} {N ps : List Str} {k : Nat} {sp : Sp}
theorem FunG.okE (F : FunG K x qual st dV f fd) (S : FnScope N ps (defScope st)) (len : ∀ vs H Q E, sp vs H Q E → vs.length = ps.length)
    (hbody : ∀ (cdv : Value) (A : Around) (outer : List Env) (s : Shared) (H : Hp) (vs : List V) (Q : VK) (E : XK), Room k (A.deeper (envOfC qual (defScope st) s.heap.objs.size f cdv)) → sp vs H Q E →
      ∃ t, PSs (cxOf (CXE P w) P w K mg base N qual (defScope st) f cdv A outer s H E) (defBody st) t ∧ t { nx := fun _ H' => Q .non H', rt := Q } (start N vs) H) : FnOk P w K mg base (CXE P w) (k + 1) f fd ps sp := by
  obtain ⟨oc, od, kV, doc, pm, an, cdv, ct, osl, rfl, lk, hcd⟩ := F.ex
  exact fn_of lk hcd S len fun A outer s H vs Q E hr hsp => hbody cdv A outer s H vs Q E hr hsp
theorem FunG.okN (F : FunG K x qual st dV f fd) (S : FnScope N ps (defScope st)) (len : ∀ vs H Q E, sp vs H Q E → vs.length = ps.length)
    (hbody : ∀ (cdv : Value) (A : Around) (outer : List Env) (s : Shared) (H : Hp) (vs : List V) (Q : VK) (E : XK), Room k (A.deeper (envOfC qual (defScope st) s.heap.objs.size f cdv)) → sp vs H Q E →
      ∃ t, PSs (cxOf (CXE P w) P w K mg base N qual (defScope st) f cdv A outer s H E).nox (defBody st) t ∧ t { nx := fun _ H' => Q .non H', rt := Q } (start N vs) H) : FnOk P w K mg base (CXE P w) (k + 1) f fd ps sp :=
  F.okE S len fun cdv A outer s H vs Q E hr hsp => by
    obtain ⟨t, h, q⟩ := hbody cdv A outer s H vs Q E hr hsp
    exact ⟨t, h.nox, q⟩
theorem FunG.binds (F : FunG K x qual st .none f fd)
    (h : ∀ (kV doc pm : Value) (an : Option Addr) (cdv ct : Value) (us : List Value), us.length = ps.length → bindArgs (PySem.W.fnOf x qual (defArgs st) (defBody st) (defScope st) .none kV doc pm an cdv ct) ⟨us, []⟩ = pure (ps.zip us)) : Binds K fd ps [] := by
  obtain ⟨oc, od, kV, doc, pm, an, cdv, ct, osl, rfl, lk, hcd⟩ := F.ex
  exact .all (h kV doc pm an cdv ct)
theorem fung_mk {oc : Value} {od an : Option Addr} {osl : Array (Option Value)} {kV doc pm cdv ct : Value} (l : K.lookup f = some ⟨oc, od, .func (PySem.W.fnOf x qual (defArgs st) (defBody st) (defScope st) dV kV doc pm an cdv ct), osl⟩)
    (c : PySem.W.codeIn K cdv qual = true) (k : PySem.W.keepIn K (.ref f) = true) : FunG K x qual st dV f (PySem.W.fnOf x qual (defArgs st) (defBody st) (defScope st) dV kV doc pm an cdv ct) := ⟨⟨oc, od, kV, doc, pm, an, cdv, ct, osl, rfl, l, c⟩, k⟩
end
inductive Th (H : Hp) : V → Prop where
  | non : Th H .non
  | bl (b : Bool) : Th H (.bl b)
  | int (i : Int) : Th H (.int i)
  | str (x : Str) : Th H (.str x)
  | lst {a : Addr} {xs : List V} (h : H a = some (.lst xs)) : Th H (.ref a)
  | tup {a : Addr} {xs : List V} (h : H a = some (.tup xs)) : Th H (.ref a)
  | dK {a : Addr} {xs : List (Key × V)} (h : H a = some (.dK xs)) : Th H (.ref a)
def isI : V → Bool
  | .int _ => true
  | .bl _ => true
  | _ => false
def isB : V → Bool
  | .bl _ => true
  | _ => false
def isW : V → Bool
  | .int _ => true
  | _ => false
theorem isW_eq (x : V) : (if isI x = true then !isB x else false) = isW x := by cases x <;> rfl
theorem ki1 {K : PySem.W.Frag} : PySem.W.kitOne K (.type "int") (.type "int") = some true := by kernel_rfl
theorem ki2 {K : PySem.W.Frag} : PySem.W.kitOne K (.type "bool") (.type "int") = some true := by kernel_rfl
theorem ki3 {K : PySem.W.Frag} : PySem.W.kitOne K (.type "NoneType") (.type "int") = some false := by kernel_rfl
theorem ki4 {K : PySem.W.Frag} : PySem.W.kitOne K (.type "str") (.type "int") = some false := by kernel_rfl
theorem ki5 {K : PySem.W.Frag} : PySem.W.kitOne K (.type "list") (.type "int") = some false := by kernel_rfl
theorem ki6 {K : PySem.W.Frag} : PySem.W.kitOne K (.type "tuple") (.type "int") = some false := by kernel_rfl
theorem ki7 {K : PySem.W.Frag} : PySem.W.kitOne K (.type "dict") (.type "int") = some false := by kernel_rfl
theorem kb1 {K : PySem.W.Frag} : PySem.W.kitOne K (.type "int") (.type "bool") = some false := by kernel_rfl
theorem kb2 {K : PySem.W.Frag} : PySem.W.kitOne K (.type "bool") (.type "bool") = some true := by kernel_rfl
theorem kt1 {K : PySem.W.Frag} : PySem.W.kitOne K (.type "tuple") (.type "tuple") = some true := by kernel_rfl
theorem boot_int : bootBuiltins "int" = some (.type "int") := by decide +kernel
theorem boot_bool : bootBuiltins "bool" = some (.type "bool") := by decide +kernel
theorem boot_tuple : bootBuiltins "tuple" = some (.type "tuple") := by decide +kernel
theorem Th.ty {K : PySem.W.Frag} {H : Hp} {x : V} (h : Th H x) : ∃ t, TyX K H x t ∧ PySem.W.kitOne K t (.type "int") = some (isI x) ∧ (isI x = true → PySem.W.kitOne K t (.type "bool") = some (isB x)) := by
  cases h with
  | non => exact ⟨_, .of .non, ki3, fun z => nomatch z⟩
  | bl b => exact ⟨_, .of (.bl b), ki2, fun _ => kb2⟩
  | int i => exact ⟨_, .of (.int i), ki1, fun _ => kb1⟩
  | str x => exact ⟨_, .of (.str x), ki4, fun z => nomatch z⟩
  | lst h => exact ⟨_, .of (.lst h), ki5, fun z => nomatch z⟩
  | tup h => exact ⟨_, .of (.tup h), ki6, fun z => nomatch z⟩
  | dK h => exact ⟨_, .of (.dK h), ki7, fun z => nomatch z⟩
end L2
namespace G1
open PySem L2
def top (i : Nat) : Stmt := PySem.Challenge.pw_dearsigns_k53_sets_gone_through.main.body.getD i (.Pass ⟨0, 0, 0, 0⟩)
abbrev sWhole : Stmt := top 6
abbrev sWithin : Stmt := top 7
abbrev sIsF : Stmt := top 8
abbrev sAbove : Stmt := top 9
abbrev sName : Stmt := top 10
abbrev sLetter : Stmt := top 11
abbrev sGcd : Stmt := top 12
abbrev sLook : Stmt := top 17
abbrev sSigns : Stmt := top 18
abbrev sRow : Stmt := top 19
abbrev sUnlike : Stmt := top 20
abbrev sSignsOf : Stmt := top 21
abbrev sFollows : Stmt := top 23
abbrev sLasts : Stmt := top 24
abbrev sComers : Stmt := top 25
abbrev sSets : Stmt := top 27
abbrev sBooks : Stmt := top 28
abbrev sBegun : Stmt := top 29
abbrev sOfAll : Stmt := top 30
abbrev sCell : Stmt := top 32
abbrev sDraws : Stmt := top 33
abbrev sLow : Stmt := top 34
abbrev sLetters : Stmt := top 35
abbrev sSign : Stmt := top 36
abbrev sTongue : Stmt := top 37
abbrev sCopy : Stmt := top 46
abbrev sComes : Stmt := top 38
abbrev sLonger : Stmt := top 39
abbrev sTexts : Stmt := top 40
abbrev sLWords : Stmt := top 41
abbrev sSmall : Stmt := top 42
abbrev sClash : Stmt := top 43
abbrev sFree : Stmt := top 44
abbrev sLSets : Stmt := top 45
abbrev sOrders : Stmt := top 47
abbrev sLaw : Stmt := top 48
structure Bl (mg : Str → Option Value) : Prop where
  isi : mg "isinstance" = none
  int : mg "int" = none
  bool : mg "bool" = none
  tuple : mg "tuple" = none
  abs : mg "abs" = none
  len : mg "len" = none
  enum : mg "enumerate" = none
  str : mg "str" = none
  range : mg "range" = none
  max : mg "max" = none
  all : mg "all" = none
  set : mg "set" = none
  list : mg "list" = none
  min : mg "min" = none
  sum : mg "sum" = none
  dict : mg "dict" = none
section
variable {P : Program} {w : World} {K : PySem.W.Frag} {mg : Str → Option Value} {base : Heap}
def spWhole : Sp := fun vs H Q _ => ∃ x, vs = [x] ∧ Th H x ∧ Q (.bl (isW x)) H
theorem scW : FnScope ["thing"] ["thing"] (defScope sWhole) := ⟨rfl, rfl, rfl, by decide +kernel, rfl, by decide +kernel, by decide +kernel⟩
theorem ok_whole {f : Addr} {fd : FuncData} (F : FunG K "is_whole" "is_whole" sWhole .none f fd) (B : Bl mg) : FnOk P w K mg base (CXE P w) 1 f fd ["thing"] spWhole := by
  refine F.okN scW (fun vs H Q E h => ?_) (fun cdv A outer s H vs Q E hr h => ?_)
  · obtain ⟨x, rfl, _⟩ := h
    rfl
  · obtain ⟨x, rfl, hx, q⟩ := h
    obtain ⟨t, ty, e1, e2⟩ := hx.ty (K := K)
    refine ⟨_, pss_one (ps_ret (pe_and (pe_callB call_isi (by rfl) B.isi boot_isi (pa_cons (pv 0) (pa_cons (pe_bltn (by rfl) B.int boot_int (v := .ty "int") rfl) pa_nil)))
      (pe_one (pe_not (pe_callB call_isi (by rfl) B.isi boot_isi (pa_cons (pv 0) (pa_cons (pe_bltn (by rfl) B.bool boot_bool (v := .ty "bool") rfl) pa_nil))))))), ?_⟩
    refine ⟨x, rfl, x, _, t, isI x, rfl, ty, .inl ⟨_, rfl, e1⟩, _, rfl, ?_⟩
    rw [← isW_eq x] at q
    by_cases hi : isI x = true
    · rw [if_pos hi] at q ⊢
      exact ⟨x, rfl, x, _, t, isB x, rfl, ty, .inl ⟨_, rfl, e2 hi⟩, _, rfl, q⟩
    · rw [if_neg hi] at q ⊢
      exact q
end
end G1
namespace GM
theorem gcd_step (m n : Nat) : Nat.gcd n (m % n) = Nat.gcd m n := by
  rw [Nat.gcd_comm n, Nat.gcd_comm m, Nat.gcd_rec n m]
theorem abs_nat (i : Int) : (if i < 0 then -i else i) = (i.natAbs : Int) := by split <;> omega
def gd (a b : Int) : Int := ((Nat.gcd a.natAbs b.natAbs : Nat) : Int)
theorem gd_pos {a b : Int} (h : b ≠ 0) : 0 < gd a b := by
  unfold gd
  have : 0 < Nat.gcd a.natAbs b.natAbs := Nat.gcd_pos_of_pos_right _ (by omega)
  omega
theorem gd_dvd1 (a b : Int) : gd a b ∣ a := by
  unfold gd
  have h : (Nat.gcd a.natAbs b.natAbs) ∣ a.natAbs := Nat.gcd_dvd_left _ _
  exact Int.dvd_natAbs.mp (Int.natCast_dvd_natCast.mpr h)
theorem gd_dvd2 (a b : Int) : gd a b ∣ b := by
  unfold gd
  have h : (Nat.gcd a.natAbs b.natAbs) ∣ b.natAbs := Nat.gcd_dvd_right _ _
  exact Int.dvd_natAbs.mp (Int.natCast_dvd_natCast.mpr h)
theorem gd_le {a b : Int} (h : b ≠ 0) : (gd a b).natAbs ≤ b.natAbs := by
  unfold gd
  have : Nat.gcd a.natAbs b.natAbs ≤ b.natAbs := Nat.le_of_dvd (by omega) (Nat.gcd_dvd_right _ _)
  omega
theorem parted {a b g : Int} (hb : b ≠ 0) (hg : g = gd a b ∨ g = -gd a b) (hs : 0 < b ↔ 0 < g) :
    ∃ c d, a.fdiv g = c ∧ b.fdiv g = d ∧ a = g * c ∧ b = g * d ∧ 0 < d ∧ Nat.gcd c.natAbs d.natAbs = 1 ∧ c.natAbs ≤ a.natAbs ∧ d.natAbs ≤ b.natAbs := by
  have h0 := gd_pos (a := a) hb
  have g0 : g ≠ 0 := by omega
  have d1 : g ∣ a := by
    rcases hg with e | e
    · rw [e]; exact gd_dvd1 a b
    · rw [e]; exact (Int.neg_dvd).mpr (gd_dvd1 a b)
  have d2 : g ∣ b := by
    rcases hg with e | e
    · rw [e]; exact gd_dvd2 a b
    · rw [e]; exact (Int.neg_dvd).mpr (gd_dvd2 a b)
  obtain ⟨c, rfl⟩ := d1
  obtain ⟨d, rfl⟩ := d2
  have na : g.natAbs = Nat.gcd (g * c).natAbs (g * d).natAbs := by
    have e : gd (g * c) (g * d) = ((Nat.gcd (g * c).natAbs (g * d).natAbs : Nat) : Int) := rfl
    rcases hg with z | z <;> omega
  refine ⟨c, d, Int.mul_fdiv_cancel_left _ g0, Int.mul_fdiv_cancel_left _ g0, rfl, rfl, ?_, ?_, ?_, ?_⟩
  · by_cases hp : 0 < g
    · have z := hs.mpr hp
      rw [Int.mul_comm] at z
      exact Int.pos_of_mul_pos_left z hp
    · have gn : g < 0 := by omega
      have bn : ¬ 0 < g * d := fun z => hp (hs.mp z)
      have bn2 : g * d < 0 := by omega
      rcases Int.lt_trichotomy d 0 with z | z | z
      · have := Int.mul_pos_of_neg_of_neg gn z
        omega
      · rw [z] at hb; simp at hb
      · exact z
  · rw [Int.natAbs_mul, Int.natAbs_mul, Nat.gcd_mul_left] at na
    have gp : 0 < g.natAbs := by omega
    have : g.natAbs * 1 = g.natAbs * Nat.gcd c.natAbs d.natAbs := by rw [Nat.mul_one]; exact na
    exact (Nat.eq_of_mul_eq_mul_left gp this).symm
  · rw [Int.natAbs_mul]; exact Nat.le_mul_of_pos_left _ (by omega)
  · rw [Int.natAbs_mul]; exact Nat.le_mul_of_pos_left _ (by omega)
end GM
theorem boot_abs : PySem.bootBuiltins "abs" = some (.builtin "abs") := by decide +kernel
namespace G1
open PySem L2 GM
section
variable {P : Program} {w : World} {K : PySem.W.Frag} {mg : Str → Option Value} {base : Heap}
def spGcd : Sp := fun vs H Q _ => ∃ a b : Int, vs = [.int a, .int b] ∧ Q (.int (gd a b)) H
theorem scG : FnScope ["one", "other"] ["one", "other"] (defScope sGcd) := ⟨rfl, rfl, rfl, by decide +kernel, rfl, by decide +kernel, by decide +kernel⟩
theorem ok_gcd {f : Addr} {fd : FuncData} (F : FunG K "common_divisor" "common_divisor" sGcd .none f fd) (B : Bl mg) : FnOk P w K mg base (CXE P w) 1 f fd ["one", "other"] spGcd := by
  refine F.okN scG (fun vs H Q E h => ?_) (fun cdv A outer s H vs Q E hr h => ?_)
  · obtain ⟨a, b, rfl, _⟩ := h
    rfl
  · obtain ⟨a, b, rfl, q⟩ := h
    refine ⟨_, pss_cons (ps_set (i := 0) scG.nd rfl (Or.inl rfl) (pe_callB call_abs (by rfl) B.abs boot_abs (pa_cons (pv 0) pa_nil)))
      (pss_cons (ps_set (i := 1) scG.nd rfl (Or.inl rfl) (pe_callB call_abs (by rfl) B.abs boot_abs (pa_cons (pv 1) pa_nil)))
      (pss_cons (ps_while PassesOwn.never (pt_cmpR op_gt (pv 1) pe_int (nomark _))
        (pss_one (ps_par (i := 0) (j := 1) rfl scG.nd rfl rfl (by decide) rfl rfl (pa_cons (pv 1) (pa_cons (pe_op op_mod (pv 0) (pv 1)) pa_nil)) rfl)))
      (pss_one (ps_ret (pv 0))))), ?_⟩
    refine ⟨_, rfl, a, rfl, _, rfl, b, rfl, ?_⟩
    refine while_by (fun σ H' => H' = H ∧ ∃ m n : Nat, σ = [some (.int m), some (.int n)] ∧ Nat.gcd m n = Nat.gcd a.natAbs b.natAbs) (fun σ _ => match σ with | [_, some (.int n)] => n.toNat | _ => 0)
      ⟨rfl, a.natAbs, b.natAbs, by simp only [abs_nat]; rfl, rfl⟩ ?_ ?_
    · rintro σ H' ⟨rfl, m, n, rfl, hg⟩
      refine ⟨_, rfl, _, _, rfl, rfl, _, rfl, ?_⟩
      refine ite2 (fun hn => ?_) (fun hn => ?_)
      · have hn' : (0 : Int) < n := of_decide_eq_true hn
        refine ⟨_, rfl, _, rfl, _, rfl, _, _, rfl, rfl, hn', _, _, rfl, ⟨rfl, n, m % n, ?_, ?_⟩, ?_⟩
        · show [some (V.int n), some (V.int ((m : Int) % n))] = _
          rw [← Int.natCast_emod]
        · rw [gcd_step]; exact hg
        · show ((m : Int) % n).toNat < (n : Int).toNat
          have := Int.emod_lt_of_pos (m : Int) hn'
          have := Int.emod_nonneg (m : Int) (show (n : Int) ≠ 0 by omega)
          omega
      · have hn' : ¬ (0 : Int) < n := fun z => hn (decide_eq_true z)
        refine ⟨_, rfl, ?_⟩
        have n0 : n = 0 := by omega
        rw [n0, Nat.gcd_zero_right] at hg
        rw [hg]
        exact q
    · rintro σ H' Q1 Q2 h ⟨v, e, i, j, e1, e2, x, e3, z⟩
      exact ⟨v, e, i, j, e1, e2, x, e3, h _ _ z⟩
end
end G1
namespace G1
open PySem L2 GM
structure FracOf (a b c d : Int) : Prop where
  g : ∃ g : Int, g ≠ 0 ∧ a = g * c ∧ b = g * d
  pos : 0 < d
  low : Nat.gcd c.natAbs d.natAbs = 1
  top : c.natAbs ≤ a.natAbs
  bot : d.natAbs ≤ b.natAbs
section
variable {P : Program} {w : World} {K : PySem.W.Frag} {mg : Str → Option Value} {base : Heap}
end
end G1
namespace G1
open PySem L2 GM
section
variable {P : Program} {w : World} {K : PySem.W.Frag} {mg : Str → Option Value} {base : Heap} {c : List Addr}
theorem same_upd {H : Hp} {p : Addr} {o : HO} (h : H p = none) : Same H (upd H p o) := fun b u e => by rw [upd_ne (ne_of_none e h)]; exact e
end
end G1
namespace L2
open PySem PySem.Spec PyProof.Rows
def tCut (t : TS) : TS := fun D σ H => ∃ J : St → Hp → Prop, t { D with nx := J } σ H ∧ ∀ σ' H', J σ' H' → D.nx σ' H'
theorem ps_cut {X : Cx} {st : Stmt} {t : TS} (h : PS X st t) : PS X st (tCut t) := by
  intro pins s σ H D I hw
  obtain ⟨J, h1, h2⟩ := hw
  refine thn (h pins s σ H _ I h1) fun f s1 q => ?_
  cases f with
  | next =>
    obtain ⟨σ', H', I', q⟩ := q
    exact ⟨σ', H', I', h2 σ' H' q⟩
  | ret v => exact q
  | brk => exact q
  | cont => exact q
section
variable {X : Cx} {es : List Expr} {t : TA} {te : TE} {pos : Pos} {l r : List Expr} {k : Nat} {o : Operator} {a b : Expr} {cst : Const} {x : Str} {u : UnaryOp} {kw : List Keyword} {f : Expr}
theorem pac_c (ha : PE X (.Constant cst k pos) te) (hr : PA X es t) : PA X (.Constant cst k pos :: es) (tCons te t) := pa_cons ha hr rfl
theorem pac_n (ha : PE X (.Name x pos) te) (hr : PA X es t) : PA X (.Name x pos :: es) (tCons te t) := pa_cons ha hr rfl
theorem pac_l (ha : PE X (.List l pos) te) (hr : PA X es t) : PA X (.List l pos :: es) (tCons te t) := pa_cons ha hr rfl
theorem pac_t (ha : PE X (.Tuple l k pos) te) (hr : PA X es t) : PA X (.Tuple l k pos :: es) (tCons te t) := pa_cons ha hr rfl
theorem pac_b (ha : PE X (.BinOp a o b pos) te) (hr : PA X es t) : PA X (.BinOp a o b pos :: es) (tCons te t) := pa_cons ha hr rfl
theorem pac_f (ha : PE X (.Call f l kw pos) te) (hr : PA X es t) : PA X (.Call f l kw pos :: es) (tCons te t) := pa_cons ha hr rfl
theorem pac_s (ha : PE X (.Subscript a b pos) te) (hr : PA X es t) : PA X (.Subscript a b pos :: es) (tCons te t) := pa_cons ha hr rfl
end
end L2
namespace G1
open PySem L2 GM
def Ext (p : Addr) (H H' : Hp) : Prop := ∀ b o, b ≠ p → H b = some o → H' b = some o
theorem Ext.trans {p : Addr} {H H1 H2 : Hp} (a : Ext p H H1) (b : Ext p H1 H2) : Ext p H H2 := fun c o n h => b c o n (a c o n h)
theorem Ext.of_eq {p : Addr} {H H' : Hp} (h : ∀ b, b ≠ p → H' b = H b) : Ext p H H' := fun b o n e => (h b n).trans e
end G1
namespace L2
open PySem PySem.Spec PyProof.Rows
structure SPE (X : Cx) (e : Expr) (t : TE) : Prop where
  out : PE X e t
structure SPT (X : Cx) (e : Expr) (t : TT) : Prop where
  out : PT X e t
structure SPW (X : Cx) (e : Expr) (t : TT) : Prop where
  out : PW X e t
structure SPA (X : Cx) (es : List Expr) (t : TA) : Prop where
  out : PA X es t
structure SPS (X : Cx) (st : Stmt) (t : TS) : Prop where
  out : PS X st t
structure SPSs (X : Cx) (st : List Stmt) (t : TS) : Prop where
  out : PSs X st t
structure SPG (X : Cx) (e : Expr) (t : TG) : Prop where
  out : PG X e t
structure SPGs (X : Cx) (es : List Expr) (t : TGs) : Prop where
  out : PGs X es t
structure SPI (X : Cx) (tg e : Expr) (t : TI) : Prop where
  out : PI X tg e t
structure SPC (X : Cx) (op : CmpOp) (a b : Expr) (t : TE) : Prop where
  out : PC X op a b t
structure SPO (X : Cx) (e : Option Expr) (t : TO) : Prop where
  out : PO X e t
theorem SPW.pt {X : Cx} {e : Expr} {t : TT} (h : SPW X e t) : SPT X e t := ⟨h.out.pt⟩
section
variable {X : Cx}
theorem zpv (i : Nat) {x : Str} {pos : Pos} (hN : X.N[i]? = some x := by rfl) (hv : Vis X.env.scope x := by first | exact Or.inl rfl | exact Or.inr (Or.inl rfl) | exact Or.inr (Or.inr rfl)) (hd : (x == ("__debug__" : Str)) = false := by decide) (hcd : (x == ("__classdict__" : Str)) = false := by decide) : SPE X (.Name x pos) (tVar i) := ⟨pv i hN hv hd hcd⟩
end
section
variable {X : Cx}
theorem zpe_int {i j pos} : SPE X (.Constant (.int i) j pos) (tC (.int i)) := ⟨pe_int ⟩
end
section
variable {X : Cx}
theorem zpe_bl {b j pos} : SPE X (.Constant (.bool b) j pos) (tC (.bl b)) := ⟨pe_bl ⟩
end
section
variable {X : Cx}
theorem zpe_non {j pos} : SPE X (.Constant .none j pos) (tC .non) := ⟨pe_non ⟩
end
section
variable {X : Cx}
theorem zpe_str {x j pos} : SPE X (.Constant (.str x) j pos) (tC (.str x)) := ⟨pe_str ⟩
end
section
variable {X : Cx}
theorem zpe_glob {x : Str} {v : V} {u : Value} {pos : Pos} (hg : Gl X x) (hm : X.mg x = some u) (r : RelV v u) (hd : (x == ("__debug__" : Str)) = false := by decide) : SPE X (.Name x pos) (tC v) := ⟨pe_glob hg hm r hd⟩
end
section
variable {X : Cx}
theorem zpe_bltn {x : Str} {v : V} {u : Value} {pos : Pos} (hg : Gl X x) (hm : X.mg x = none) (hv : bootBuiltins x = some u) (r : RelV v u) (hn : x ≠ "__name__" := by decide) (hd : (x == ("__debug__" : Str)) = false := by decide) : SPE X (.Name x pos) (tC v) := ⟨pe_bltn hg hm hv r hn hd⟩
end
section
variable {X : Cx} {a b : Expr} {ta tb : TE} {pos : Pos} {tA tB' : TT} {rest : List Expr}
theorem zpe_one {op} {t : TE} (h : SPE X a t) : SPE X (.BoolOp op [a] pos) t := ⟨pe_one h.out⟩
end
section
variable {X : Cx} {a b : Expr} {ta tb : TE} {pos : Pos} {tA tB' : TT} {rest : List Expr}
theorem zpe_and (ha : SPE X a ta) (hb : SPE X (.BoolOp .And (b :: rest) pos) tb) : SPE X (.BoolOp .And (a :: b :: rest) pos) (tAndV ta tb) := ⟨pe_and ha.out hb.out⟩
end
section
variable {X : Cx} {a b : Expr} {ta tb : TE} {pos : Pos} {tA tB' : TT} {rest : List Expr}
theorem zpe_or (ha : SPE X a ta) (hb : SPE X (.BoolOp .Or (b :: rest) pos) tb) : SPE X (.BoolOp .Or (a :: b :: rest) pos) (tOrV ta tb) := ⟨pe_or ha.out hb.out⟩
end
section
variable {X : Cx} {a b : Expr} {ta tb : TE} {pos : Pos} {tA tB' : TT} {rest : List Expr}
end
section
variable {X : Cx} {a b : Expr} {ta tb : TE} {pos : Pos} {tA tB' : TT} {rest : List Expr}
theorem zpe_ifExp {c : Expr} (hc : SPT X c tA) (ha : SPE X a ta) (hb : SPE X b tb) : SPE X (.IfExp c a b pos) (tIf tA ta tb) := ⟨pe_ifExp hc.out ha.out hb.out⟩
end
section
variable {X : Cx} {a b : Expr} {ta tb : TE} {pos : Pos}
end
section
variable {X : Cx} {a b : Expr} {ta tb : TE} {pos : Pos}
end
section
variable {X : Cx} {a b : Expr} {ta tb : TE} {pos : Pos}
theorem zpc_notN {j pos'} (ha : SPE X a ta) : SPC X .IsNot a (.Constant .none j pos') (tNotN ta) := ⟨pc_notN ha.out⟩
end
section
variable {X : Cx} {a b : Expr} {ta tb : TE} {pos : Pos}
theorem zpt_cmp {op : CmpOp} {t : TE} (h : SPC X op a b t) (h1 : behindInMarks op b = false := by first | exact nobehind _ (by decide) (by decide) | rfl) : SPT X (.Compare a [op] [b] pos) (tB t) := ⟨pt_cmp h.out h1⟩
end
section
variable {X : Cx} {a b : Expr} {ta tb : TE} {pos : Pos}
theorem zpt_val {e : Expr} {t : TE} (h : SPE X e t) (he : ∀ whole, isTrue e X.env whole = (do let v ← whole; standAt e.pos; holding [v] (truthy v)) := by intro _; rfl) : SPT X e (tB t) := ⟨pt_val h.out he⟩
end
section
variable {X : Cx} {a b : Expr} {ta tb : TE} {pos : Pos} {tA tB' : TT} {rest : List Expr}
theorem zpw_and1 (ha : SPT X a tA) : SPW X (.BoolOp .And [a] pos) tA := ⟨pw_and1 ha.out⟩
end
section
variable {X : Cx} {a b : Expr} {ta tb : TE} {pos : Pos} {tA tB' : TT} {rest : List Expr}
theorem zpw_or1 (ha : SPT X a tA) : SPW X (.BoolOp .Or [a] pos) tA := ⟨pw_or1 ha.out⟩
end
section
variable {X : Cx} {a b : Expr} {ta tb : TE} {pos : Pos} {tA tB' : TT} {rest : List Expr}
theorem zpw_and (ha : SPT X a tA) (hb : SPW X (.BoolOp .And (b :: rest) pos) tB') : SPW X (.BoolOp .And (a :: b :: rest) pos) (tAnd tA tB') := ⟨pw_and ha.out hb.out⟩
end
section
variable {X : Cx} {a b : Expr} {ta tb : TE} {pos : Pos} {tA tB' : TT} {rest : List Expr}
theorem zpw_or (ha : SPT X a tA) (hb : SPW X (.BoolOp .Or (b :: rest) pos) tB') : SPW X (.BoolOp .Or (a :: b :: rest) pos) (tOr tA tB') := ⟨pw_or ha.out hb.out⟩
end
section
variable {X : Cx} {a b : Expr} {ta tb : TE} {pos : Pos} {tA tB' : TT} {rest : List Expr}
theorem zpt_not (ha : SPT X a tA) : SPT X (.UnaryOp .Not a pos) (tNot tA) := ⟨pt_not ha.out⟩
end
section
variable {X : Cx} {st : Stmt} {rest : List Stmt} {t u : TS} {e : Expr} {te : TE} {pos : Pos}
theorem zpss_nil  : SPSs X [] tNext := ⟨pss_nil ⟩
end
section
variable {X : Cx} {st : Stmt} {rest : List Stmt} {t u : TS} {e : Expr} {te : TE} {pos : Pos}
theorem zpss_cons (h1 : SPS X st t) (h2 : SPSs X rest u) : SPSs X (st :: rest) (tSeq t u) := ⟨pss_cons h1.out h2.out⟩
end
section
variable {X : Cx} {st : Stmt} {rest : List Stmt} {t u : TS} {e : Expr} {te : TE} {pos : Pos}
theorem zpss_one (h1 : SPS X st t) : SPSs X [st] t := ⟨pss_one h1.out⟩
end
section
variable {X : Cx} {st : Stmt} {rest : List Stmt} {t u : TS} {e : Expr} {te : TE} {pos : Pos}
end
section
variable {X : Cx} {st : Stmt} {rest : List Stmt} {t u : TS} {e : Expr} {te : TE} {pos : Pos}
end
section
variable {X : Cx} {st : Stmt} {rest : List Stmt} {t u : TS} {e : Expr} {te : TE} {pos : Pos}
end
section
variable {X : Cx} {st : Stmt} {rest : List Stmt} {t u : TS} {e : Expr} {te : TE} {pos : Pos}
theorem zps_expr (he : SPE X e te) (hs : swapsWith e none pos.line X.env = pure false := by rfl) : SPS X (.Expr e pos) (tDrop te) := ⟨ps_expr he.out hs⟩
end
section
variable {X : Cx} {st : Stmt} {rest : List Stmt} {t u : TS} {e : Expr} {te : TE} {pos : Pos}
theorem zps_ret (he : SPE X e te) : SPS X (.Return (some e) pos) (tRet te) := ⟨ps_ret he.out⟩
end
section
variable {X : Cx} {st : Stmt} {rest : List Stmt} {t u : TS} {e : Expr} {te : TE} {pos : Pos}
end
section
variable {X : Cx} {st : Stmt} {rest : List Stmt} {t u : TS} {e : Expr} {te : TE} {pos : Pos}
theorem zps_if {c : Expr} {a b : List Stmt} {tc : TT} (hc : SPT X c tc) (ha : SPSs X a t) (hb : SPSs X b u) : SPS X (.If c a b pos) (tIfS tc t u) := ⟨ps_if hc.out ha.out hb.out⟩
end
section
variable {X : Cx} {pos : Pos}
theorem zpg_name {i : Nat} {x : Str} (hN : X.N.Nodup) (hi : X.N[i]? = some x) (hx : Loc X.env.scope x) (hf : X.fn x = true ∨ X.env.scope.names.lookup x = some .local := by first | exact .inl rfl | exact .inr rfl | assumption) : SPG X (.Name x pos) (gName i) := ⟨pg_name hN hi hx hf⟩
end
section
variable {X : Cx} {pos : Pos}
theorem zpgs_nil  : SPGs X [] gNil := ⟨pgs_nil ⟩
end
section
variable {X : Cx} {pos : Pos}
theorem zpgs_cons {e : Expr} {es : List Expr} {t : TG} {u : TGs} (h1 : SPG X e t) (h2 : SPGs X es u) (hs : (assignEach (e :: es) X.env).map (·.2) = assign e X.env :: (assignEach es X.env).map (·.2) := by rfl) : SPGs X (e :: es) (gCons t u) := ⟨pgs_cons h1.out h2.out hs⟩
end
section
variable {X : Cx} {pos : Pos}
theorem zpg_tup {es : List Expr} {k : Nat} {t : TGs} {n : Nat} (hc : X.calm = true) (h : SPGs X es t) (hn : (assignEach es X.env).length = n := by rfl) (hst : (assignEach es X.env).findIdx? (·.1) = none := by rfl) : SPG X (.Tuple es k pos) (gTup X.K n t) := ⟨pg_tup hc h.out hn hst⟩
end
section
variable {X : Cx} {pos : Pos}
end
section
variable {X : Cx} {pos : Pos}
theorem zps_asg {tg e : Expr} {te : TE} {g : TG} (he : SPE X e te) (hg : SPG X tg g) (hs : swapsWithSole [tg] e pos.line X.env = pure false := by rfl) (hw : swappedStores [tg] e X.env = pure none := by rfl) (h1 : (assignEach [tg] X.env).map (·.2) = [assign tg X.env] := by rfl) : SPS X (.Assign [tg] e pos) (tAsg te g) := ⟨ps_asg he.out hg.out hs hw h1⟩
end
section
variable {X : Cx} {pos : Pos}
theorem zps_set {i : Nat} {x : Str} {e : Expr} {te : TE} {pos' : Pos} (hN : X.N.Nodup) (hi : X.N[i]? = some x) (hx : Loc X.env.scope x) (he : SPE X e te) (hs : swapsWith e (some (.Name x pos')) pos.line X.env = pure false := by rfl) (hf : X.fn x = true ∨ X.env.scope.names.lookup x = some .local := by first | exact .inl rfl | exact .inr rfl | assumption) : SPS X (.Assign [.Name x pos'] e pos) (tAsg te (gName i)) := ⟨ps_set hN hi hx he.out hs hf⟩
end
section
variable {X : Cx} {pos : Pos}
theorem zps_par {i j : Nat} {x y : Str} {a b : Expr} {ta : TA} {px py pt : Pos} {kt k2 pt2} (hc : X.calm = true) (hN : X.N.Nodup) (hi : X.N[i]? = some x) (hj : X.N[j]? = some y) (hij : i ≠ j) (hx : X.env.scope.names.lookup x = some .local) (hy : X.env.scope.names.lookup y = some .local) (ha : SPA X [a, b] ta) (hw : swappedStores [.Tuple [.Name x px, .Name y py] kt pt] (.Tuple [a, b] k2 pt2) X.env = pure (some [x, y])) (hs : swapsWithSole [.Tuple [.Name x px, .Name y py] kt pt] (.Tuple [a, b] k2 pt2) pos.line X.env = pure false := by rfl) : SPS X (.Assign [.Tuple [.Name x px, .Name y py] kt pt] (.Tuple [a, b] k2 pt2) pos) (tPar i j ta) := ⟨ps_par hc hN hi hj hij hx hy ha.out hw hs⟩
end
section
variable {X : Cx} {pos : Pos}
theorem zps_aug {i : Nat} {x : Str} {e : Expr} {te : TE} {op : Operator} {ti : TIp} {pos' : Pos} (hN : X.N.Nodup) (hi : X.N[i]? = some x) (hx : Loc X.env.scope x) (he : SPE X e te) (ho : PIp X op ti) (hf : X.fn x = true ∨ X.env.scope.names.lookup x = some .local := by first | exact .inl rfl | exact .inr rfl | assumption) : SPS X (.AugAssign (.Name x pos') op e pos) (tAug i te ti) := ⟨ps_aug hN hi hx he.out ho hf⟩
end
section
variable {X : Cx} {pos : Pos}
theorem zps_while {c : Expr} {body : List Stmt} {tc : TT} {tb : TS} (hp : PassesOwn (model X.prog X.w) X.A X.env X.xe) (hc : SPT X c tc) (hb : SPSs X body tb) : SPS X (.While c body [] pos) (tWhile tc tb) := ⟨ps_while hp hc.out hb.out⟩
end
section
variable {X : Cx} {tg : Expr}
theorem zpi_list {l : Expr} {tl : TE} (hl : SPE X l tl) : SPI X tg l (iList X.K tl) := ⟨pi_list hl.out⟩
end
section
variable {X : Cx} {tg : Expr}
end
section
variable {X : Cx} {tg : Expr}
theorem zpi_range1 {a : Expr} {ta : TA} {p pos : Pos} (hg : Gl X "range") (hm : X.mg "range" = none) (ha : SPA X [a] ta) (hs : starEach [a] X.env = [(false, eval a X.env)] := by rfl) : SPI X tg (.Call (.Name "range" p) [a] [] pos) (iRng1 ta) := ⟨pi_range1 hg hm ha.out hs⟩
end
section
variable {X : Cx} {tg : Expr}
theorem zpi_range2 {a b : Expr} {ta : TA} {p pos : Pos} (hg : Gl X "range") (hm : X.mg "range" = none) (ha : SPA X [a, b] ta) (hs : starEach [a, b] X.env = [(false, eval a X.env), (false, eval b X.env)] := by rfl) (hs2 : starEach [b] X.env = [(false, eval b X.env)] := by rfl) : SPI X tg (.Call (.Name "range" p) [a, b] [] pos) (iRng2 ta) := ⟨pi_range2 hg hm ha.out hs hs2⟩
end
section
variable {X : Cx} {es : List Expr} {tk : Nat} {tpos : Pos}
theorem zpi_enum {l : Expr} {ta : TA} {p pos : Pos} (hg : Gl X "enumerate") (hm : X.mg "enumerate" = none) (ha : SPA X [l] ta) (hs : starEach [l] X.env = [(false, eval l X.env)] := by rfl) : SPI X (.Tuple es tk tpos) (.Call (.Name "enumerate" p) [l] [] pos) (iEnum X.K ta) := ⟨pi_enum hg hm ha.out hs⟩
end
section
variable {X : Cx} {tg : Expr}
theorem zps_for {iter : Expr} {body : List Stmt} {wi : TI} {g : TG} {tb : TS} {pos : Pos} (hp : PassesOwn (model X.prog X.w) X.A X.env X.xe) (hc : X.calm = true) (hi : SPI X tg iter wi) (hg : SPG X tg g) (hb : SPSs X body tb) (hs : ∀ x, foldedSetIterable iter X.env x = pure x := by intro _; rfl) : SPS X (.For tg iter body [] pos) (tFor wi g tb) := ⟨ps_for hp hc hi.out hg.out hb.out hs⟩
end
section
variable {X : Cx} {a b c : Expr} {ta tb tc : TE} {pos : Pos}
theorem zpe_op {op : Operator} {r : R2} (ho : OpR X (binaryOp op) r) (ha : SPE X a ta) (hb : SPE X b tb) : SPE X (.BinOp a op b pos) (tOp r ta tb) := ⟨pe_op ho ha.out hb.out⟩
end
section
variable {X : Cx} {a b c : Expr} {ta tb tc : TE} {pos : Pos}
theorem zpe_un {op : UnaryOp} {r : V → Hp → VK → Prop} (ho : UnR X (unaryOp op) r) (ha : SPE X a ta) : SPE X (.UnaryOp op a pos) (tUn r ta) := ⟨pe_un ho ha.out⟩
end
section
variable {X : Cx} {a b c : Expr} {ta tb tc : TE} {pos : Pos}
theorem zpe_cmpR {op : CmpOp} {r : R2} (ho : OpR X (compareOp op) r) (ha : SPE X a ta) (hb : SPE X b tb) (hm : behindInMarks op b = false) : SPE X (.Compare a [op] [b] pos) (tOp r ta tb) := ⟨pe_cmpR ho ha.out hb.out hm⟩
end
section
variable {X : Cx} {a b c : Expr} {ta tb tc : TE} {pos : Pos}
theorem zpt_cmpR {op : CmpOp} {r : R2} (ho : OpR X (compareOp op) r) (ha : SPE X a ta) (hb : SPE X b tb) (hm : behindInMarks op b = false) : SPT X (.Compare a [op] [b] pos) (tTest (tOp r ta tb)) := ⟨pt_cmpR ho ha.out hb.out hm⟩
end
section
variable {X : Cx} {a b c : Expr} {ta tb tc : TE} {pos : Pos}
end
section
variable {X : Cx} {a b c : Expr} {ta tb tc : TE} {pos : Pos}
end
section
variable {X : Cx} {a b c : Expr} {ta tb tc : TE} {pos : Pos}
end
section
variable {X : Cx} {e : Expr} {es : List Expr} {te : TE} {t : TA} {pos : Pos}
theorem zpe_tup {x1} (h : SPA X es t) : SPE X (.Tuple es x1 pos) (tTup t) := ⟨pe_tup h.out⟩
end
section
variable {X : Cx} {e : Expr} {es : List Expr} {te : TE} {t : TA} {pos : Pos}
theorem zpe_lst (h : SPA X es t) : SPE X (.List es pos) (tLst t) := ⟨pe_lst h.out⟩
end
section
variable {X : Cx} {CX : CXT} {k : Nat} {f C : Addr} {fd : FuncData} {ps : List Str} {sp : Sp} {dvs : List V} {ds : List Value} {E : XK} {x m : Str} {p pos apos : Pos} {e o : Expr} {es : List Expr} {ta : TE} {t : TA}
theorem zpe_call (F : FnOk X.prog X.w X.K X.mg X.base CX k f fd ps sp) (hr : Room k X.A) (hg : Gl X x) (hm : X.mg x = some (.ref f)) (hk : PySem.W.keepIn X.K (.ref f) = true) (hb : Binds X.K fd ps ds) (hd : Vals dvs ds) (hx : Passes CX X E) (ha : SPA X (e :: es) t) (hdb : (x == ("__debug__" : Str)) = false := by decide) (he : starEach (e :: es) X.env = (false, eval e X.env) :: starEach es X.env := by rfl) (hpl : (backTo pos (starEach es X.env)).any (·.1) = false := by rfl) : SPE X (.Call (.Name x p) (e :: es) [] pos) (tCall sp dvs E t) := ⟨pe_call F hr hg hm hk hb hd hx ha.out hdb he hpl⟩
end
section
variable {X : Cx} {CX : CXT} {k : Nat} {f C : Addr} {fd : FuncData} {ps : List Str} {sp : Sp} {dvs : List V} {ds : List Value} {E : XK} {x m : Str} {p pos apos : Pos} {e o : Expr} {es : List Expr} {ta : TE} {t : TA}
end
section
variable {X : Cx} {x : Str} {p pos : Pos} {e : Expr} {es : List Expr} {t : TA} {id T : String} {r : List V → Hp → VK → Prop}
theorem zpe_callB (hc : CallR X (.builtin id) r) (hg : Gl X x) (hm : X.mg x = none) (hv : bootBuiltins x = some (.builtin id)) (ha : SPA X (e :: es) t) (hn : x ≠ "__name__" := by decide) (hdb : (x == ("__debug__" : Str)) = false := by decide) (he : starEach (e :: es) X.env = (false, eval e X.env) :: starEach es X.env := by rfl) (hpl : (backTo pos (starEach es X.env)).any (·.1) = false := by rfl) : SPE X (.Call (.Name x p) (e :: es) [] pos) (tCB r t) := ⟨pe_callB hc hg hm hv ha.out hn hdb he hpl⟩
end
section
variable {X : Cx} {x : Str} {p pos : Pos} {e : Expr} {es : List Expr} {t : TA} {id T : String} {r : List V → Hp → VK → Prop}
theorem zpe_callTy (hc : CallR X (.type T) r) (hg : Gl X x) (hm : X.mg x = none) (hv : bootBuiltins x = some (.type T)) (ha : SPA X (e :: es) t) (hn : x ≠ "__name__" := by decide) (hdb : (x == ("__debug__" : Str)) = false := by decide) (he : starEach (e :: es) X.env = (false, eval e X.env) :: starEach es X.env := by rfl) (hpl : (backTo pos (starEach es X.env)).any (·.1) = false := by rfl) : SPE X (.Call (.Name x p) (e :: es) [] pos) (tCB r t) := ⟨pe_callTy hc hg hm hv ha.out hn hdb he hpl⟩
end
section
variable {X : Cx} {x : Str} {p pos : Pos} {e : Expr} {es : List Expr} {t : TA} {id T : String} {r : List V → Hp → VK → Prop}
theorem zpe_callTy0 (hc : CallR X (.type T) r) (hg : Gl X x) (hm : X.mg x = none) (hv : bootBuiltins x = some (.type T)) (hn : x ≠ "__name__" := by decide) (hdb : (x == ("__debug__" : Str)) = false := by decide) : SPE X (.Call (.Name x p) [] [] pos) (tCB r tNil) := ⟨pe_callTy0 hc hg hm hv hn hdb⟩
end
section
variable {X : Cx} {e : Expr} {te : TE} {lo hi : Option Expr} {tl th : TO} {pos p2 : Pos}
theorem zpe_slice {r : V → Option Int → Option Int → Hp → VK → Prop} (hr : SlR X r) (he : SPE X e te) (hl : SPO X lo tl) (hu : SPO X hi th) : SPE X (.Subscript e (.Slice lo hi none p2) pos) (tSl r te tl th) := ⟨pe_slice hr he.out hl.out hu.out⟩
end
section
variable {X : Cx} {e : Expr} {te : TE} {lo hi : Option Expr} {tl th : TO} {pos p2 : Pos}
theorem zpo_none  : SPO X none tNoPart := ⟨po_none ⟩
end
section
variable {X : Cx} {e : Expr} {te : TE} {lo hi : Option Expr} {tl th : TO} {pos p2 : Pos}
theorem zpo_some (h : SPE X e te) : SPO X (some e) (tPart te) := ⟨po_some h.out⟩
end
section
variable {X : Cx} {a b : Expr} {ta tb : TE} {pos : Pos}
theorem zpe_ix {r : R2} (hr : IxR X r) (ha : SPE X a ta) (hb : SPE X b tb) (hs : PlainIx b) : SPE X (.Subscript a b pos) (tOp r ta tb) := ⟨pe_ix hr ha.out hb.out hs⟩
end
section
variable {X : Cx} {a b : Expr} {ta tb : TE} {pos : Pos} {o e : Expr} {es : List Expr} {to : TE} {t : TA} {name : Str} {apos cpos : Pos} {T id : String} {r : V → List V → Hp → VK → Prop}
theorem zpe_bm0 (pa : PlainAttrs T) (slot : Slot T name id) (hty : typeOf (.builtin id) = pure (.type "method_descriptor")) (hm : MtR X id r) (ho : SPE X o to) (hbase : attributeBase o name X.env (eval o X.env) = eval o X.env := by rfl) (hline : (apos.endLine == cpos.line) = true := by rfl) : SPE X (.Call (.Attribute o name apos) [] [] cpos) (tBM0 X.K T r to) := ⟨pe_bm0 pa slot hty hm ho.out hbase hline⟩
end
section
variable {X : Cx} {a b : Expr} {ta tb : TE} {pos : Pos} {o e : Expr} {es : List Expr} {to : TE} {t : TA} {name : Str} {apos cpos : Pos} {T id : String} {r : V → List V → Hp → VK → Prop}
theorem zpe_bm (pa : PlainAttrs T) (slot : Slot T name id) (hty : typeOf (.builtin id) = pure (.type "method_descriptor")) (hm : MtR X id r) (ho : SPE X o to) (ha : SPA X (e :: es) t) (hbase : attributeBase o name X.env (eval o X.env) = eval o X.env := by rfl) (hfew : ((backTo cpos (starEach (e :: es) X.env)).all (fun x => !x.1) && (backToKw cpos (keywordEach [] X.env)).all (fun x => x.1.isSome)
      && decide ((e :: es).length + ([] : List Keyword).length + (if ([] : List Keyword).isEmpty then 0 else 1) < 30)) = true := by rfl) (hline : (apos.endLine == cpos.line) = true := by rfl) (hs : starEach (e :: es) X.env = (false, eval e X.env) :: starEach es X.env := by rfl) (hplain : (backTo cpos (starEach es X.env)).any (·.1) = false := by rfl) : SPE X (.Call (.Attribute o name apos) (e :: es) [] cpos) (tBM X.K T r to t) := ⟨pe_bm pa slot hty hm ho.out ha.out hbase hfew hline hs hplain⟩
end
section
variable {X : Cx} {e : Expr} {es : List Expr} {te : TE} {t : TA} {pos : Pos}
theorem zpa_nil  : SPA X [] tNil := ⟨pa_nil ⟩
end
section
variable {X : Cx} {e : Expr} {es : List Expr} {te : TE} {t : TA} {pos : Pos}
end
section
end
section
end
section
variable {X : Cx} {k : Nat} {f : Addr} {fd : FuncData} {ps : List Str} {sp : Sp} {dvs : List V} {ds : List Value} {x : Str} {p pos : Pos} {e : Expr} {es : List Expr} {t : TA}
end
section
variable {X : Cx} {k : Nat} {f : Addr} {fd : FuncData} {ps : List Str} {sp : Sp} {dvs : List V} {ds : List Value} {x : Str} {p pos : Pos} {e : Expr} {es : List Expr} {t : TA}
end
section
variable {X : Cx} {k : Nat} {f : Addr} {fd : FuncData} {ps : List Str} {sp : Sp} {dvs : List V} {ds : List Value} {x : Str} {p pos : Pos} {e : Expr} {es : List Expr} {t : TA}
end
section
variable {X : Cx} {k : Nat} {f : Addr} {fd : FuncData} {ps : List Str} {sp : Sp} {dvs : List V} {ds : List Value} {x : Str} {p pos : Pos} {e : Expr} {es : List Expr} {t : TA}
end
section
variable {X : Cx} {k : Nat} {f : Addr} {fd : FuncData} {ps : List Str} {sp : Sp} {dvs : List V} {ds : List Value} {x : Str} {p pos : Pos} {e : Expr} {es : List Expr} {t : TA}
end
section
theorem zps_cut {X : Cx} {st : Stmt} {t : TS} (h : SPS X st t) : SPS X st (tCut t) := ⟨ps_cut h.out⟩
end
section
variable {X : Cx} {es : List Expr} {t : TA} {te : TE} {pos : Pos} {l r : List Expr} {k : Nat} {o : Operator} {a b : Expr} {cst : Const} {x : Str} {u : UnaryOp} {kw : List Keyword} {f : Expr}
theorem zpac_c (ha : SPE X (.Constant cst k pos) te) (hr : SPA X es t) : SPA X (.Constant cst k pos :: es) (tCons te t) := ⟨pac_c ha.out hr.out⟩
end
section
variable {X : Cx} {es : List Expr} {t : TA} {te : TE} {pos : Pos} {l r : List Expr} {k : Nat} {o : Operator} {a b : Expr} {cst : Const} {x : Str} {u : UnaryOp} {kw : List Keyword} {f : Expr}
theorem zpac_n (ha : SPE X (.Name x pos) te) (hr : SPA X es t) : SPA X (.Name x pos :: es) (tCons te t) := ⟨pac_n ha.out hr.out⟩
end
section
variable {X : Cx} {es : List Expr} {t : TA} {te : TE} {pos : Pos} {l r : List Expr} {k : Nat} {o : Operator} {a b : Expr} {cst : Const} {x : Str} {u : UnaryOp} {kw : List Keyword} {f : Expr}
theorem zpac_l (ha : SPE X (.List l pos) te) (hr : SPA X es t) : SPA X (.List l pos :: es) (tCons te t) := ⟨pac_l ha.out hr.out⟩
end
section
variable {X : Cx} {es : List Expr} {t : TA} {te : TE} {pos : Pos} {l r : List Expr} {k : Nat} {o : Operator} {a b : Expr} {cst : Const} {x : Str} {u : UnaryOp} {kw : List Keyword} {f : Expr}
theorem zpac_t (ha : SPE X (.Tuple l k pos) te) (hr : SPA X es t) : SPA X (.Tuple l k pos :: es) (tCons te t) := ⟨pac_t ha.out hr.out⟩
end
section
variable {X : Cx} {es : List Expr} {t : TA} {te : TE} {pos : Pos} {l r : List Expr} {k : Nat} {o : Operator} {a b : Expr} {cst : Const} {x : Str} {u : UnaryOp} {kw : List Keyword} {f : Expr}
end
section
variable {X : Cx} {es : List Expr} {t : TA} {te : TE} {pos : Pos} {l r : List Expr} {k : Nat} {o : Operator} {a b : Expr} {cst : Const} {x : Str} {u : UnaryOp} {kw : List Keyword} {f : Expr}
theorem zpac_b (ha : SPE X (.BinOp a o b pos) te) (hr : SPA X es t) : SPA X (.BinOp a o b pos :: es) (tCons te t) := ⟨pac_b ha.out hr.out⟩
end
section
variable {X : Cx} {es : List Expr} {t : TA} {te : TE} {pos : Pos} {l r : List Expr} {k : Nat} {o : Operator} {a b : Expr} {cst : Const} {x : Str} {u : UnaryOp} {kw : List Keyword} {f : Expr}
end
section
variable {X : Cx} {es : List Expr} {t : TA} {te : TE} {pos : Pos} {l r : List Expr} {k : Nat} {o : Operator} {a b : Expr} {cst : Const} {x : Str} {u : UnaryOp} {kw : List Keyword} {f : Expr}
theorem zpac_f (ha : SPE X (.Call f l kw pos) te) (hr : SPA X es t) : SPA X (.Call f l kw pos :: es) (tCons te t) := ⟨pac_f ha.out hr.out⟩
end
section
variable {X : Cx} {es : List Expr} {t : TA} {te : TE} {pos : Pos} {l r : List Expr} {k : Nat} {o : Operator} {a b : Expr} {cst : Const} {x : Str} {u : UnaryOp} {kw : List Keyword} {f : Expr}
theorem zpac_s (ha : SPE X (.Subscript a b pos) te) (hr : SPA X es t) : SPA X (.Subscript a b pos :: es) (tCons te t) := ⟨pac_s ha.out hr.out⟩
end
structure SPTs (X : Cx) (ifs : List Expr) (t : TT) : Prop where
  out : PTs X ifs t
theorem zpts_nil {X : Cx} : SPTs X [] (fun _ H Q => Q true H) := ⟨pts_nil⟩
theorem zpts_one {X : Cx} {e : Expr} {t : TT} (h : SPT X e t) : SPTs X [e] t := ⟨pts_one h.out⟩
section
variable {X : Cx} {tg iter elt : Expr} {ifs : List Expr} {scope esc : Scope} {pos gpos p : Pos} {N os : List Str} {fi : List Nat} {wi : TI} {g : TG} {tt : TT} {te : TE} {c P : Addr} {k : Nat}
theorem zpi_str {l : Expr} {tl : TE} (hl : SPE X l tl) : SPI X tg l (iStr tl) := ⟨pi_str hl.out⟩
theorem zpe_comp (N os : List Str) (fi : List Nat) (esc : Scope) (hc : X.calm = true) (hN : X.N = N) (he : X.env.scope = esc) (B : BlkOk esc scope N fi) (hi : SPI X tg iter wi)
    (hg : ∀ s H fp, SPG (blk X scope (nB N os fi) s H fp) tg g) (ht : ∀ s H fp, SPTs (blk X scope (nB N os fi) s H fp) ifs tt) (hel : ∀ s H fp, SPE (blk X scope (nB N os fi) s H fp) elt te)
    (hs : ∀ x, foldedSetIterable iter X.env x = pure x := by intro _; rfl) : SPE X (.ListComp elt [⟨tg, iter, ifs, 0⟩] scope pos) (tLC os fi wi g tt te) :=
  ⟨pe_comp hc hN he B hi.out (fun s H fp => (hg s H fp).out) (fun s H fp => (ht s H fp).out) (fun s H fp => (hel s H fp).out) hs⟩
theorem zpe_all (N os : List Str) (fi : List Nat) (esc : Scope) (hc : X.calm = true) (hr : Room k X.A) (hgl : Gl X "all") (hm : X.mg "all" = none) (hcd : X.env.code = .ref c) (CK : CodeK X.K c P) (BM : BmK X) (hN : X.N = N) (he : X.env.scope = esc) (B : BlkOk esc scope N fi) (hco : scope.isCoroutine = false) (h0 : scope.names.lookup (".0" : Str) = some NameKind.local) (hi : SPI X tg iter wi)
    (hg : ∀ code s H fp, SPG (gblk X scope (nB N os fi) code s H fp) tg g) (hel : ∀ code s H fp, SPE (gblk X scope (nB N os fi) code s H fp) elt te)
    (hs : ∀ x, genFold iter X.env x = pure x := by intro _; rfl) : SPE X (.Call (.Name "all" p) [.GeneratorExp elt [⟨tg, iter, [], 0⟩] scope gpos] [] pos) (tAll P os fi wi g te) :=
  ⟨pe_all hc hr hgl hm hcd CK BM hN he B hco h0 hi.out (fun code s H fp => (hg code s H fp).out) (fun code s H fp => (hel code s H fp).out) hs⟩
end
section
variable {X : Cx} {elt tg iter tg2 iter2 : Expr} {ifs ifs2 : List Expr} {scope esc : Scope} {pos p : Pos} {N os : List Str} {fi : List Nat} {wi wi2 : TI} {g g2 : TG} {tt tt2 : TT} {te : TE}
theorem zpe_comp2 (N os : List Str) (fi : List Nat) (esc : Scope) (hc : X.calm = true) (hN : X.N = N) (he : X.env.scope = esc) (B : BlkOk esc scope N fi) (hi : SPI X tg iter wi)
    (hg : ∀ s H fp, SPG (blk X scope (nB N os fi) s H fp) tg g) (ht : ∀ s H fp, SPTs (blk X scope (nB N os fi) s H fp) ifs tt)
    (hi2 : ∀ s H fp, SPI (blk X scope (nB N os fi) s H fp) tg2 iter2 wi2) (hg2 : ∀ s H fp, SPG (blk X scope (nB N os fi) s H fp) tg2 g2) (ht2 : ∀ s H fp, SPTs (blk X scope (nB N os fi) s H fp) ifs2 tt2)
    (hel : ∀ s H fp, SPE (blk X scope (nB N os fi) s H fp) elt te)
    (hs : ∀ x, foldedSetIterable iter X.env x = pure x := by intro _; rfl) (hs2 : ∀ env x, foldedSetIterable iter2 env x = pure x := by intro _ _; rfl) :
    SPE X (.ListComp elt [⟨tg, iter, ifs, 0⟩, ⟨tg2, iter2, ifs2, 0⟩] scope pos) (tCG (fun _ => .lst []) os fi wi g tt fun D => tIn wi2 g2 tt2 (tEmL D te)) :=
  ⟨pe_comp2 hc hN he B hi.out (fun s H fp => (hg s H fp).out) (fun s H fp => (ht s H fp).out) (fun s H fp => (hi2 s H fp).out) (fun s H fp => (hg2 s H fp).out) (fun s H fp => (ht2 s H fp).out) (fun s H fp => (hel s H fp).out) hs hs2⟩
theorem zpe_setcomp (N os : List Str) (fi : List Nat) (esc : Scope) (hc : X.calm = true) (hN : X.N = N) (he : X.env.scope = esc) (B : BlkOk esc scope N fi) (hi : SPI X tg iter wi)
    (hg : ∀ s H fp, SPG (blk X scope (nB N os fi) s H fp) tg g) (ht : ∀ s H fp, SPTs (blk X scope (nB N os fi) s H fp) ifs tt)
    (hel : ∀ s H fp, SPE (blk X scope (nB N os fi) s H fp) elt te)
    (hs : ∀ x, foldedSetIterable iter X.env x = pure x := by intro _; rfl) :
    SPE X (.SetComp elt [⟨tg, iter, ifs, 0⟩] scope pos) (tCG (fun a => SetT X.prog X.w a []) os fi wi g tt fun D => tEmS X.prog X.w D te) :=
  ⟨pe_setcomp hc hN he B hi.out (fun s H fp => (hg s H fp).out) (fun s H fp => (ht s H fp).out) (fun s H fp => (hel s H fp).out) hs⟩
theorem zpe_rev {e : Expr} {te : TE} {k : Nat} {p1 p2 p3 pos : Pos} (he : SPE X e te) : SPE X (.Subscript e (.Slice none none (some (.UnaryOp .USub (.Constant (.int 1) k p1) p3)) p2) pos) (tRev X.K te) := ⟨pe_rev he.out⟩
theorem zpe_setadd {o e : Expr} {to : TE} {t : TA} {apos cpos : Pos} (ho : SPE X o to) (ha : SPA X [e] t)
    (hbase : attributeBase o "add" X.env (eval o X.env) = eval o X.env := by rfl)
    (hfew : ((backTo cpos (starEach [e] X.env)).all (fun x => !x.1) && (backToKw cpos (keywordEach [] X.env)).all (fun x => x.1.isSome)
      && decide ([e].length + ([] : List Keyword).length + (if ([] : List Keyword).isEmpty then 0 else 1) < 30)) = true := by rfl)
    (hline : (apos.endLine == cpos.line) = true := by rfl) (hs : starEach [e] X.env = (false, eval e X.env) :: starEach [] X.env := by rfl) (hplain : (backTo cpos (starEach [] X.env)).any (·.1) = false := by rfl) :
    SPE X (.Call (.Attribute o "add" apos) [e] [] cpos) (tAddS X.prog X.w to t) := ⟨pe_setadd ho.out ha.out hbase hfew hline hs hplain⟩
theorem zpss_never {sts : List Stmt} : SPSs X sts tNever := ⟨pss_never⟩
theorem pac_x {e : Expr} {te : TE} {es : List Expr} {t : TA} (ha : PE X e te) (hr : PA X es t) (hs : starEach (e :: es) X.env = (false, eval e X.env) :: starEach es X.env := by rfl) : PA X (e :: es) (tCons te t) := pa_cons ha hr hs
theorem zpac_x {e : Expr} {te : TE} {es : List Expr} {t : TA} (ha : SPE X e te) (hr : SPA X es t) (hs : starEach (e :: es) X.env = (false, eval e X.env) :: starEach es X.env := by rfl) : SPA X (e :: es) (tCons te t) := ⟨pac_x ha.out hr.out hs⟩
end
theorem zpg_tupK {X : Cx} {es : List Expr} {k : Nat} {pos : Pos} {t : TGs} (K : PySem.W.Frag) (n : Nat) (hK : X.K = K) (hc : X.calm = true) (h : SPGs X es t) (hn : (assignEach es X.env).length = n := by rfl) (hst : (assignEach es X.env).findIdx? (·.1) = none := by rfl) : SPG X (.Tuple es k pos) (gTup K n t) := hK ▸ zpg_tup hc h hn hst
section
variable {X : Cx} {kx vx tg iter : Expr} {ifs : List Expr} {scope esc : Scope} {pos p : Pos} {N os : List Str} {fi : List Nat} {wi : TI} {g : TG} {tt : TT} {tk tv : TE}
theorem zpe_dictcomp (N os : List Str) (fi : List Nat) (esc : Scope) (hc : X.calm = true) (hN : X.N = N) (he : X.env.scope = esc) (B : BlkOk esc scope N fi) (hi : SPI X tg iter wi)
    (hg : ∀ s H fp, SPG (blk X scope (nB N os fi) s H fp) tg g) (ht : ∀ s H fp, SPTs (blk X scope (nB N os fi) s H fp) ifs tt)
    (hk : ∀ s H fp, SPE (blk X scope (nB N os fi) s H fp) kx tk) (hv : ∀ s H fp, SPE (blk X scope (nB N os fi) s H fp) vx tv)
    (hs : ∀ x, foldedSetIterable iter X.env x = pure x := by intro _; rfl) :
    SPE X (.DictComp kx vx [⟨tg, iter, ifs, 0⟩] scope pos) (tCG (fun _ => .dK []) os fi wi g tt fun D => tEmD D tk tv) :=
  ⟨pe_dictcomp hc hN he B hi.out (fun s H fp => (hg s H fp).out) (fun s H fp => (ht s H fp).out) (fun s H fp => (hk s H fp).out) (fun s H fp => (hv s H fp).out) hs⟩
theorem zpe_dget {o i : Expr} {td ty : TE} (hu : X.A.units + 1 < cLine) (ho : SPE X o td) (hi : SPE X i ty) (hs : NoSl i) : SPE X (.Subscript o i pos) (tDGet td ty) := ⟨pe_dget hu ho.out hi.out hs⟩
end
theorem Room.units1 {k : Nat} {A : Around} (r : Room k A) : A.units + 1 < cLine := by have := r.un; omega
theorem zpa_star {X : Cx} {e : Expr} {es : List Expr} {te : TE} {t : TA} {p : Pos} (ha : SPE X e te) (hr : SPA X es t) : SPA X (.Starred e p :: es) (tStar te t) := ⟨pa_star ha.out hr.out⟩
section
variable {X : Cx} {elt kx vx tg iter tg2 iter2 : Expr} {ifs ifs2 : List Expr} {scope esc : Scope} {pos p : Pos} {N os : List Str} {fi : List Nat} {wi wi2 : TI} {g g2 : TG} {tt tt2 : TT} {te tk tv : TE}
theorem zpe_compL (N os : List Str) (fi : List Nat) (esc : Scope) (hc : X.calm = true) (hN : X.N = N) (he : X.env.scope = esc) (B : BlkOk esc scope N fi) (hi : SPI X tg iter wi)
    (hg : ∀ s H fp, SPG (blk X scope (nB N os fi) s H fp) tg g) (ht : ∀ s H fp, SPTs (blk X scope (nB N os fi) s H fp) ifs tt) (hel : ∀ s H fp, SPE (blk X scope (nB N os fi) s H fp) elt te)
    (hs : ∀ x, foldedSetIterable iter X.env x = pure x := by intro _; rfl) : SPE X (.ListComp elt [⟨tg, iter, ifs, 0⟩] scope pos) (tCG (fun _ => .lst []) os fi wi g tt fun D => tEmL D te) :=
  ⟨pe_compL hc hN he B hi.out (fun s H fp => (hg s H fp).out) (fun s H fp => (ht s H fp).out) (fun s H fp => (hel s H fp).out) hs⟩
theorem zpe_compC (N os : List Str) (fi : List Nat) (esc : Scope) (hc : X.calm = true) (hN : X.N = N) (he : X.env.scope = esc) (B : BlkC esc scope N fi) (hi : SPI X tg iter wi)
    (hg : ∀ s H fp, SPG (blkC X scope (nB N os fi) s H fp) tg g) (ht : ∀ s H fp, SPTs (blkC X scope (nB N os fi) s H fp) ifs tt) (hel : ∀ s H fp, SPE (blkC X scope (nB N os fi) s H fp) elt te)
    (hs : ∀ x, foldedSetIterable iter X.env x = pure x := by intro _; rfl) : SPE X (.ListComp elt [⟨tg, iter, ifs, 0⟩] scope pos) (tCG (fun _ => .lst []) os fi wi g tt fun D => tEmL D te) :=
  ⟨pe_compC hc hN he B hi.out (fun s H fp => (hg s H fp).out) (fun s H fp => (ht s H fp).out) (fun s H fp => (hel s H fp).out) hs⟩
theorem zpe_dictcompC (N os : List Str) (fi : List Nat) (esc : Scope) (hc : X.calm = true) (hN : X.N = N) (he : X.env.scope = esc) (B : BlkC esc scope N fi) (hi : SPI X tg iter wi)
    (hg : ∀ s H fp, SPG (blkC X scope (nB N os fi) s H fp) tg g) (ht : ∀ s H fp, SPTs (blkC X scope (nB N os fi) s H fp) ifs tt) (hk : ∀ s H fp, SPE (blkC X scope (nB N os fi) s H fp) kx tk) (hv : ∀ s H fp, SPE (blkC X scope (nB N os fi) s H fp) vx tv)
    (hs : ∀ x, foldedSetIterable iter X.env x = pure x := by intro _; rfl) : SPE X (.DictComp kx vx [⟨tg, iter, ifs, 0⟩] scope pos) (tCG (fun _ => .dK []) os fi wi g tt fun D => tEmD D tk tv) :=
  ⟨pe_dictcompC hc hN he B hi.out (fun s H fp => (hg s H fp).out) (fun s H fp => (ht s H fp).out) (fun s H fp => (hk s H fp).out) (fun s H fp => (hv s H fp).out) hs⟩
theorem zps_compL (N os : List Str) (fi : List Nat) (esc : Scope) {i : Nat} {y : Str} {py spos : Pos} (hc : X.calm = true) (hN : X.N = N) (he : X.env.scope = esc) (B : BlkOk esc scope N fi) (hnd : X.N.Nodup) (hy : X.N[i]? = some y) (hl : Loc X.env.scope y) (hi : SPI X tg iter wi)
    (hg : ∀ s H fp, SPG (blk X scope (nB N os fi) s H fp) tg g) (ht : ∀ s H fp, SPTs (blk X scope (nB N os fi) s H fp) ifs tt) (hel : ∀ s H fp, SPE (blk X scope (nB N os fi) s H fp) elt te)
    (hsw : swapsWith (.ListComp elt [⟨tg, iter, ifs, 0⟩] scope pos) (some (.Name y py)) spos.line X.env = pure true := by rfl)
    (hfn : X.fn y = true ∨ X.env.scope.names.lookup y = some .local := by first | exact .inl rfl | exact .inr rfl | assumption)
    (hs : ∀ x, foldedSetIterable iter X.env x = pure x := by intro _; rfl) : SPS X (.Assign [.Name y py] (.ListComp elt [⟨tg, iter, ifs, 0⟩] scope pos) spos) (fun D σ H => tCG (fun _ => .lst []) os fi wi g tt (fun D => tEmL D te) σ H fun v H' => D.nx (σ.set i (some v)) H') :=
  ⟨ps_compL hc hN he B hnd hy hl hi.out (fun s H fp => (hg s H fp).out) (fun s H fp => (ht s H fp).out) (fun s H fp => (hel s H fp).out) hsw hfn hs⟩
theorem zps_dictcomp (N os : List Str) (fi : List Nat) (esc : Scope) {i : Nat} {y : Str} {py spos : Pos} (hc : X.calm = true) (hN : X.N = N) (he : X.env.scope = esc) (B : BlkOk esc scope N fi) (hnd : X.N.Nodup) (hy : X.N[i]? = some y) (hl : Loc X.env.scope y) (hi : SPI X tg iter wi)
    (hg : ∀ s H fp, SPG (blk X scope (nB N os fi) s H fp) tg g) (ht : ∀ s H fp, SPTs (blk X scope (nB N os fi) s H fp) ifs tt) (hk : ∀ s H fp, SPE (blk X scope (nB N os fi) s H fp) kx tk) (hv : ∀ s H fp, SPE (blk X scope (nB N os fi) s H fp) vx tv)
    (hsw : swapsWith (.DictComp kx vx [⟨tg, iter, ifs, 0⟩] scope pos) (some (.Name y py)) spos.line X.env = pure true := by rfl)
    (hfn : X.fn y = true ∨ X.env.scope.names.lookup y = some .local := by first | exact .inl rfl | exact .inr rfl | assumption)
    (hs : ∀ x, foldedSetIterable iter X.env x = pure x := by intro _; rfl) : SPS X (.Assign [.Name y py] (.DictComp kx vx [⟨tg, iter, ifs, 0⟩] scope pos) spos) (fun D σ H => tCG (fun _ => .dK []) os fi wi g tt (fun D => tEmD D tk tv) σ H fun v H' => D.nx (σ.set i (some v)) H') :=
  ⟨ps_dictcomp hc hN he B hnd hy hl hi.out (fun s H fp => (hg s H fp).out) (fun s H fp => (ht s H fp).out) (fun s H fp => (hk s H fp).out) (fun s H fp => (hv s H fp).out) hsw hfn hs⟩
end
theorem zpi_keys {X : Cx} {tg l : Expr} {tl : TE} (hl : SPE X l tl) : SPI X tg l (iKeys tl) := ⟨pi_keys hl.out⟩
end L2
namespace L2
open PySem PySem.Spec PyProof.Rows
section
variable {P : Program} {w : World} {K : PySem.W.Frag} {mg : Str → Option Value} {base : Heap} {x qual : Str} {st : Stmt} {dV : Value} {f : Addr} {fd : FuncData} {N ps : List Str} {k : Nat} {sp : Sp}
theorem FunG.zokN (F : FunG K x qual st dV f fd) (S : FnScope N ps (defScope st)) (len : ∀ vs H Q E, sp vs H Q E → vs.length = ps.length)
    (hbody : ∀ (cdv : Value) (A : Around) (outer : List Env) (s : Shared) (H : Hp) (vs : List V) (Q : VK) (E : XK), Room k (A.deeper (envOfC qual (defScope st) s.heap.objs.size f cdv)) → sp vs H Q E →
      ∃ t, SPSs (cxOf (CXE P w) P w K mg base N qual (defScope st) f cdv A outer s H E).nox (defBody st) t ∧ t { nx := fun _ H' => Q .non H', rt := Q } (start N vs) H) : FnOk P w K mg base (CXE P w) (k + 1) f fd ps sp :=
  F.okN S len fun cdv A outer s H vs Q E hr hsp => by
    obtain ⟨t, h, q⟩ := hbody cdv A outer s H vs Q E hr hsp
    exact ⟨t, h.out, q⟩
end
end L2
namespace L2
open PySem PySem.Spec PyProof.Rows
section
variable {P : Program} {w : World} {K : PySem.W.Frag} {mg : Str → Option Value} {base : Heap} {x qual : Str} {st : Stmt} {dV kV doc pm ct oc : Value} {an od : Option Addr} {osl : Array (Option Value)} {f c : Addr} {N ps : List Str} {k : Nat} {sp : Sp}
theorem okC (lk : K.lookup f = some ⟨oc, od, .func (PySem.W.fnOf x qual (defArgs st) (defBody st) (defScope st) dV kV doc pm an (.ref c) ct), osl⟩) (hcd : PySem.W.codeIn K (.ref c) qual = true) (S : FnScope N ps (defScope st)) (len : ∀ vs H Q E, sp vs H Q E → vs.length = ps.length)
    (hbody : ∀ (A : Around) (outer : List Env) (s : Shared) (H : Hp) (vs : List V) (Q : VK) (E : XK), Room k (A.deeper (envOfC qual (defScope st) s.heap.objs.size f (.ref c))) → sp vs H Q E →
      ∃ t, SPSs (cxOf (CXE P w) P w K mg base N qual (defScope st) f (.ref c) A outer s H E).nox (defBody st) t ∧ t { nx := fun _ H' => Q .non H', rt := Q } (start N vs) H) :
    FnOk P w K mg base (CXE P w) (k + 1) f (PySem.W.fnOf x qual (defArgs st) (defBody st) (defScope st) dV kV doc pm an (.ref c) ct) ps sp :=
  fn_of lk hcd S len fun A outer s H vs Q E hr h => by
    obtain ⟨t, h1, h2⟩ := hbody A outer s H vs Q E hr h
    exact ⟨t, h1.out.nox, h2⟩
end
theorem boot_str : bootBuiltins "str" = some (.type "str") := by decide +kernel
end L2
namespace G1
open PySem L2 GM
def letters : Str := "abcdefghijklmnopqrstuvwxyz"
def occ (c : Nat) : Bool := !(Builtin.Str.occurrences letters ⟨#[c]⟩ 0 letters.length 1).isEmpty
def nameB : V → Bool
  | .str z => decide (z ≠ "") && (decide (z.length ≤ 8) && z.cps.toList.all occ)
  | _ => false
def isS : V → Bool
  | .str _ => true
  | _ => false
section
variable {P : Program} {w : World} {K : PySem.W.Frag} {mg : Str → Option Value} {base : Heap}
theorem ks1 : PySem.W.kitOne K (.type "int") (.type "str") = some false := by kernel_rfl
theorem ks2 : PySem.W.kitOne K (.type "bool") (.type "str") = some false := by kernel_rfl
theorem ks3 : PySem.W.kitOne K (.type "NoneType") (.type "str") = some false := by kernel_rfl
theorem ks4 : PySem.W.kitOne K (.type "str") (.type "str") = some true := by kernel_rfl
theorem ks5 : PySem.W.kitOne K (.type "list") (.type "str") = some false := by kernel_rfl
theorem ks6 : PySem.W.kitOne K (.type "tuple") (.type "str") = some false := by kernel_rfl
theorem ks7 : PySem.W.kitOne K (.type "dict") (.type "str") = some false := by kernel_rfl
theorem _root_.L2.Th.tyS {H : Hp} {x : V} (h : Th H x) : ∃ t, TyX K H x t ∧ PySem.W.kitOne K t (.type "str") = some (isS x) := by
  cases h with
  | non => exact ⟨_, .of .non, ks3⟩
  | bl b => exact ⟨_, .of (.bl b), ks2⟩
  | int i => exact ⟨_, .of (.int i), ks1⟩
  | str x => exact ⟨_, .of (.str x), ks4⟩
  | lst h => exact ⟨_, .of (.lst h), ks5⟩
  | tup h => exact ⟨_, .of (.tup h), ks6⟩
  | dK h => exact ⟨_, .of (.dK h), ks7⟩
def spName (T : Addr) : Sp := fun vs H Q _ => ∃ x ps, vs = [x] ∧ Th H x ∧ (∀ z, x = .str z → z.length ≤ sizeLine) ∧ H T = some (.tbl ps) ∧ TriplesOk ps.toList ∧ ∀ ps', TriplesOk ps'.toList → Q (.bl (nameB x)) (upd H T (.tbl ps'))
theorem scN : FnScope ["thing"] ["thing"] (defScope sName) := ⟨rfl, rfl, rfl, by decide +kernel, rfl, by decide +kernel, by decide +kernel⟩
theorem ok_name {f c T : Addr} {kV doc pm ct oc : Value} {an od : Option Addr} {osl : Array (Option Value)} {t1 t2 : Tok}
    (lk : K.lookup f = some ⟨oc, od, .func (PySem.W.fnOf "is_name" "is_name" (defArgs sName) (defBody sName) (defScope sName) .none kV doc pm an (.ref c) ct), osl⟩) (hcd : PySem.W.codeIn K (.ref c) "is_name" = true)
    (B : Bl mg) (CK : CodeK K c T) (hbm : BmOf mg base) (mL : mg "LETTERS" = some (.str letters t1)) (mM : mg "LONGEST_NAME" = some (.int 8 t2)) :
    FnOk P w K mg base (CXE P w) 2 f (PySem.W.fnOf "is_name" "is_name" (defArgs sName) (defBody sName) (defScope sName) .none kV doc pm an (.ref c) ct) ["thing"] (spName T) := by
  refine okC lk hcd scN (fun vs H Q E h => ?_) (fun A outer s H vs Q E hr h => ?_)
  · obtain ⟨x, ps, rfl, _⟩ := h
    rfl
  · obtain ⟨x, ps, rfl, hx, len, hT, tr, q⟩ := h
    refine ⟨_, zpss_cons (zps_if (zpw_or (zpt_not (zpt_val (zpe_callB call_isi (by rfl) B.isi boot_isi (zpac_n (zpv 0) (zpac_n (zpe_bltn (by rfl) B.str boot_str (v := .ty "str") rfl) zpa_nil)))))
        (zpw_or (zpt_cmpR op_eq (zpv 0) zpe_str (nomark _)) (zpw_or1 (zpt_cmpR op_gt (zpe_callB call_len_str (by rfl) B.len PySem.boot_len (zpac_n (zpv 0) zpa_nil)) (zpe_glob (by rfl) mM (v := .int 8) ⟨_, rfl⟩) (nomark _))))).pt (zpss_one (zps_ret zpe_bl)) zpss_nil)
      (zpss_one (zps_ret (zpe_all ["thing"] ["sign"] [] (defScope sName) rfl hr (by rfl) B.all rfl CK ⟨hbm⟩ rfl rfl ⟨by decide +kernel, by decide +kernel, by decide +kernel, by decide +kernel, by decide +kernel⟩ (by decide +kernel) (by decide +kernel) (zpi_str (zpv 0))
        (fun code s H fp => zpg_name (i := 0) (show List.Nodup [("sign" : Str)] by decide +kernel) rfl (Or.inl rfl)) (fun code s H fp => zpe_cmpR op_in_str (zpv 0) (zpe_glob (by rfl) mL (v := .str letters) ⟨_, rfl⟩) rfl)))), ?_⟩
    obtain ⟨t, ty, e1⟩ := hx.tyS (K := K)
    refine ⟨_, rfl, _, _, t, isS x, rfl, ty, .inl ⟨_, rfl, e1⟩, _, rfl, ?_⟩
    have self : ∀ {b : Bool}, nameB x = b → Q (.bl b) H := fun {b} e => by
      have := q ps tr
      rw [upd_self hT, e] at this
      exact this
    cases x with
    | str z =>
      refine iteF ⟨_, rfl, rfl, _, rfl, ?_⟩
      refine ite2 (fun e => ?_) (fun e => ?_)
      · have e' : V.str z = V.str "" := of_decide_eq_true e
        injection e' with e'
        refine iteT (self ?_)
        simp [nameB, e']
      · have ne : z ≠ "" := fun y => e (decide_eq_true (by rw [y]))
        refine ⟨_, rfl, z, rfl, len z rfl, _, _, rfl, rfl, _, rfl, ?_⟩
        refine ite2 (fun e8 => ?_) (fun e8 => ?_)
        · have g8 : (8 : Int) < (z.length : Int) := of_decide_eq_true e8
          refine self ?_
          have : decide (z.length ≤ 8) = false := decide_eq_false (by omega)
          simp [nameB, this]
        · have l8 : z.length ≤ 8 := by
            have : ¬ (8 : Int) < (z.length : Int) := fun y => e8 (decide_eq_true y)
            omega
          refine ⟨_, rfl, z, rfl, ps, hT, tr, fun ps' tr' => ?_⟩
          refine ⟨fun i m σ2 H2 => H2 = upd H T (.tbl ps') ∧ i ≤ z.cps.size ∧ m = z.cps.size - i ∧ (∃ v, σ2 = [v]) ∧ (∀ j c, j < i → z.cps[j]? = some c → occ c = true), ⟨_, rfl, Nat.zero_le _, rfl, ⟨_, rfl⟩, fun j c hj => absurd hj (Nat.not_lt_zero _)⟩, ?_⟩
          rintro i m σ2 H2 ⟨rfl, hi, rfl, ⟨v, rfl⟩, ok⟩
          by_cases hlt : i < z.cps.size
          · refine .inr ⟨hlt, ?_⟩
            rintro y H3 ⟨rfl, c, hc, rfl⟩
            refine ⟨_, rfl, ⟨#[c]⟩, letters, rfl, rfl, _, rfl, ?_⟩
            cases ho : occ c with
            | true =>
              rw [if_pos (show (!(Builtin.Str.occurrences letters ⟨#[c]⟩ 0 letters.length 1).isEmpty) = true from ho)]
              refine ⟨z.cps.size - (i + 1), by omega, rfl, hlt, rfl, ⟨_, rfl⟩, fun j d hj hd => ?_⟩
              rcases Nat.lt_or_ge j i with h | h
              · exact ok j d h hd
              · have e : j = i := by omega
                subst e
                rw [hc] at hd; cases hd
                exact ho
            | false =>
              rw [if_neg (by rw [show (!(Builtin.Str.occurrences letters ⟨#[c]⟩ 0 letters.length 1).isEmpty) = false from ho]; decide)]
              have e : nameB (.str z) = false := by
                have a : z.cps.toList.all occ = false := by
                  rw [List.all_eq_false]
                  exact ⟨c, by
                    have : z.cps.toList[i]? = some c := by simpa using hc
                    exact List.mem_of_getElem? this, by rw [ho]; decide⟩
                simp [nameB, a]
              rw [← e, ← show (!(Builtin.Str.occurrences letters ⟨#[c]⟩ 0 letters.length 1).isEmpty) = nameB (.str z) from by rw [e]; exact ho]
              have := q ps' tr'
              rw [e] at this
              rw [show (!(Builtin.Str.occurrences letters ⟨#[c]⟩ 0 letters.length 1).isEmpty) = false from ho]
              exact this
          · have e : i = z.cps.size := by omega
            subst e
            refine .inl ⟨rfl, ?_⟩
            have a : z.cps.toList.all occ = true := by
              rw [List.all_eq_true]
              intro c hc
              obtain ⟨j, hj⟩ := List.getElem?_of_mem hc
              have hj' : z.cps[j]? = some c := by simpa using hj
              exact ok j c (Array.getElem?_eq_some_iff.mp hj').1 hj'
            have n1 : nameB (.str z) = true := by
              simp [nameB, ne, l8]
              simpa using a
            have := q ps' tr'
            rw [n1] at this
            exact this
    | _ => exact iteT (self rfl)
end
end G1
namespace G1
open PySem L2 GM
def FrP (H : Hp) (x : V) : Prop := ∃ a n d, x = .ref a ∧ H a = some (.tup [.int n, .int d]) ∧ 0 < d ∧ Nat.gcd n.natAbs d.natAbs = 1
noncomputable def frB (H : Hp) (x : V) : Bool := @decide (FrP H x) (Classical.propDecidable _)
theorem frB_t {H : Hp} {x : V} (h : FrP H x) : frB H x = true := by unfold frB; exact @decide_eq_true _ (Classical.propDecidable _) h
theorem frB_f {H : Hp} {x : V} (h : ¬ FrP H x) : frB H x = false := by unfold frB; exact @decide_eq_false _ (Classical.propDecidable _) h
structure ThD (H : Hp) (x : V) : Prop where
  th : Th H x
  parts : ∀ a xs, x = .ref a → H a = some (.tup xs) → ∀ y ∈ xs, Th H y
  few : ∀ a n d, x = .ref a → H a = some (.tup [.int n, .int d]) → d.natAbs < big
  str : ∀ z, x = .str z → z.length ≤ sizeLine
section
variable {P : Program} {w : World} {K : PySem.W.Frag} {mg : Str → Option Value} {base : Heap}
theorem kq1 : PySem.W.kitOne K (.type "int") (.type "tuple") = some false := by kernel_rfl
theorem kq2 : PySem.W.kitOne K (.type "bool") (.type "tuple") = some false := by kernel_rfl
theorem kq3 : PySem.W.kitOne K (.type "NoneType") (.type "tuple") = some false := by kernel_rfl
theorem kq4 : PySem.W.kitOne K (.type "str") (.type "tuple") = some false := by kernel_rfl
theorem kq5 : PySem.W.kitOne K (.type "list") (.type "tuple") = some false := by kernel_rfl
theorem kq7 : PySem.W.kitOne K (.type "dict") (.type "tuple") = some false := by kernel_rfl
theorem _root_.L2.Th.tyT {H : Hp} {x : V} (h : Th H x) : ∃ t b, TyX K H x t ∧ PySem.W.kitOne K t (.type "tuple") = some b ∧ ((b = true ∧ ∃ a xs, x = .ref a ∧ H a = some (.tup xs)) ∨ (b = false ∧ ∀ a xs, x = .ref a → H a ≠ some (.tup xs))) := by
  cases h with
  | non => exact ⟨_, _, .of .non, kq3, .inr ⟨rfl, nofun⟩⟩
  | bl b => exact ⟨_, _, .of (.bl b), kq2, .inr ⟨rfl, nofun⟩⟩
  | int i => exact ⟨_, _, .of (.int i), kq1, .inr ⟨rfl, nofun⟩⟩
  | str x => exact ⟨_, _, .of (.str x), kq4, .inr ⟨rfl, nofun⟩⟩
  | lst h => exact ⟨_, _, .of (.lst h), kq5, .inr ⟨rfl, fun a xs e z => by cases e; rw [h] at z; cases z⟩⟩
  | tup h => exact ⟨_, _, .of (.tup h), kt1, .inl ⟨rfl, _, _, rfl, h⟩⟩
  | dK h => exact ⟨_, _, .of (.dK h), kq7, .inr ⟨rfl, fun a xs e z => by cases e; rw [h] at z; cases z⟩⟩
def spIsF : Sp := fun vs H Q _ => ∃ x, vs = [x] ∧ ThD H x ∧ Q (.bl (frB H x)) H
theorem scIF : FnScope ["thing", "top", "bottom"] ["thing"] (defScope sIsF) := ⟨rfl, rfl, rfl, by decide +kernel, rfl, by decide +kernel, by decide +kernel⟩
theorem two_of {xs : List V} (h : xs.length = 2) : ∃ y z, xs = [y, z] := by
  match xs, h with
  | [y, z], _ => exact ⟨y, z, rfl⟩
theorem ok_isF {f fW fG : Addr} {fd fdW fdG : FuncData} (F : FunG K "is_fraction" "is_fraction" sIsF .none f fd) (B : Bl mg)
    (GW : FnOk P w K mg base (CXE P w) 1 fW fdW ["thing"] spWhole) (mW : mg "is_whole" = some (.ref fW)) (kW : PySem.W.keepIn K (.ref fW) = true) (bW : Binds K fdW ["thing"] [])
    (GG : FnOk P w K mg base (CXE P w) 1 fG fdG ["one", "other"] spGcd) (mG : mg "common_divisor" = some (.ref fG)) (kG : PySem.W.keepIn K (.ref fG) = true) (bG : Binds K fdG ["one", "other"] []) :
    FnOk P w K mg base (CXE P w) 2 f fd ["thing"] spIsF := by
  refine F.zokN scIF (fun vs H Q E h => ?_) (fun cdv A outer s H vs Q E hr h => ?_)
  · obtain ⟨x, rfl, _⟩ := h
    rfl
  · obtain ⟨x, rfl, hx, q⟩ := h
    refine ⟨_, zpss_cons (zps_if (zpw_or (zpt_not (zpt_val (zpe_callB call_isi (by rfl) B.isi boot_isi (zpac_n (zpv 0) (zpac_n (zpe_bltn (by rfl) B.tuple boot_tuple (v := .ty "tuple") rfl) zpa_nil)))))
        (zpw_or1 (zpt_cmpR op_ne (zpe_callB call_len_seq (by rfl) B.len PySem.boot_len (zpac_n (zpv 0) zpa_nil)) zpe_int (nomark _)))).pt (zpss_one (zps_ret zpe_bl)) zpss_nil)
      (zpss_cons (zps_asg (zpv 0) (zpg_tup rfl (zpgs_cons (zpg_name (i := 1) scIF.nd rfl (Or.inl rfl)) (zpgs_cons (zpg_name (i := 2) scIF.nd rfl (Or.inl rfl)) zpgs_nil))))
      (zpss_cons (zps_if (zpw_or (zpt_not (zpt_val (zpe_call GW hr (by rfl) mW kW bW .nil passE0 (zpac_n (zpv 1) zpa_nil)))) (zpw_or (zpt_not (zpt_val (zpe_call GW hr (by rfl) mW kW bW .nil passE0 (zpac_n (zpv 2) zpa_nil))))
        (zpw_or1 (zpt_cmpR op_lt (zpv 2) zpe_int (nomark _))))).pt (zpss_one (zps_ret zpe_bl)) zpss_nil)
      (zpss_one (zps_ret (zpe_cmpR op_eq (zpe_call GG hr (by rfl) mG kG bG .nil passE0 (zpac_n (zpv 1) (zpac_n (zpv 2) zpa_nil))) zpe_int (nomark _)))))), ?_⟩
    obtain ⟨t, b, ty, e1, hb⟩ := hx.th.tyT (K := K)
    refine ⟨_, rfl, _, _, t, b, rfl, ty, .inl ⟨_, rfl, e1⟩, _, rfl, ?_⟩
    rcases hb with ⟨rfl, a, xs, rfl, ha⟩ | ⟨rfl, no⟩
    · refine iteF ⟨_, rfl, a, xs, rfl, .inr (SqT.of ha), rfl, _, rfl, ?_⟩
      refine ite2 (fun e => ?_) (fun e => ?_)
      · rw [frB_f (by
          rintro ⟨a', n, d, e', h', _⟩
          cases e'
          rw [ha] at h'; cases h'
          simp at e)] at q
        exact q
      · have l2 : xs.length = 2 := by
          by_cases z : xs.length = 2
          · exact z
          · exfalso
            apply e
            simp
            omega
        obtain ⟨y, z, rfl⟩ := two_of l2
        have ty := hx.parts a _ rfl ha y (by simp)
        have tz := hx.parts a _ rfl ha z (by simp)
        refine ⟨_, rfl, a, _, rfl, SqT.of ha, rfl, _, _, rfl, _, _, rfl, rfl, ?_⟩
        refine ⟨_, rfl, y, rfl, ty, _, rfl, ?_⟩
        cases hy : isW y with
        | false =>
          refine iteT (iteT ?_)
          rw [frB_f (by
            rintro ⟨a', n, d, e', h', _⟩
            cases e'
            rw [ha] at h'; cases h'
            cases hy)] at q
          exact q
        | true =>
          refine iteF ⟨_, rfl, z, rfl, tz, _, rfl, ?_⟩
          cases hz : isW z with
          | false =>
            refine iteT (iteT ?_)
            rw [frB_f (by
              rintro ⟨a', n, d, e', h', _⟩
              cases e'
              rw [ha] at h'; cases h'
              cases hz)] at q
            exact q
          | true =>
            obtain ⟨n, rfl⟩ : ∃ n, y = .int n := by cases y <;> first | exact ⟨_, rfl⟩ | cases hy
            obtain ⟨d, rfl⟩ : ∃ d, z = .int d := by cases z <;> first | exact ⟨_, rfl⟩ | cases hz
            refine iteF ⟨_, rfl, _, _, rfl, rfl, _, rfl, ?_⟩
            refine ite2 (fun e1 => ?_) (fun e1 => ?_)
            · have d1 : d < 1 := of_decide_eq_true e1
              rw [frB_f (by
                rintro ⟨a', n', d', e', h', p, _⟩
                cases e'
                rw [ha] at h'; cases h'
                omega)] at q
              exact q
            · have d1 : ¬ d < 1 := fun z => e1 (decide_eq_true z)
              refine ⟨_, rfl, _, rfl, n, d, rfl, rfl, ?_⟩
              by_cases g1 : Nat.gcd n.natAbs d.natAbs = 1
              · rw [frB_t ⟨a, n, d, rfl, ha, by omega, g1⟩] at q
                rw [show decide (V.int (gd n d) = V.int 1) = true from decide_eq_true (by unfold gd; rw [g1]; rfl)]
                exact q
              · rw [frB_f (by
                  rintro ⟨a', n', d', e', h', p, g⟩
                  cases e'
                  rw [ha] at h'; cases h'
                  exact g1 g)] at q
                rw [show decide (V.int (gd n d) = V.int 1) = false from decide_eq_false (by
                  unfold gd
                  intro z
                  injection z with z
                  omega)]
                exact q
    · refine iteT (iteT ?_)
      rw [frB_f (by
        rintro ⟨a, n, d, e, h, _⟩
        exact no a _ e h)] at q
      exact q
end
end G1
namespace G1
open PySem L2 GM
def Kp (H H' : Hp) : Prop := ∀ b o, H b = some o → (∀ ps, o ≠ .tbl ps) → H' b = some o
theorem Kp.refl {H : Hp} : Kp H H := fun _ _ h _ => h
theorem Kp.trans {H H1 H2 : Hp} (a : Kp H H1) (b : Kp H1 H2) : Kp H H2 := fun c o h n => b c o (a c o h n) n
theorem Kp.same {H H' : Hp} (s : Same H H') : Kp H H' := fun b o h _ => s b o h
theorem Kp.new {H : Hp} {p : Addr} {o : HO} (h : H p = none) : Kp H (upd H p o) := Kp.same (same_upd h)
theorem Kp.lst {H H' : Hp} {a : Addr} {xs : List V} (k : Kp H H') (h : H a = some (.lst xs)) : H' a = some (.lst xs) := k a _ h nofun
theorem Kp.tup {H H' : Hp} {a : Addr} {xs : List V} (k : Kp H H') (h : H a = some (.tup xs)) : H' a = some (.tup xs) := k a _ h nofun
def Tab (T : Addr) (H : Hp) : Prop := ∃ ps, H T = some (.tbl ps) ∧ TriplesOk ps.toList
theorem Kp.tab {H : Hp} {T : Addr} {ps' : Array Value} (h : Tab T H) : Kp H (upd H T (.tbl ps')) := fun b o e n => by
  obtain ⟨ps, hp, _⟩ := h
  rw [upd_ne (fun z => by rw [z, hp] at e; cases e; exact n _ rfl)]; exact e
theorem Tab.new {H : Hp} {T p : Addr} {o : HO} (h : Tab T H) (n : H p = none) : Tab T (upd H p o) := by
  obtain ⟨ps, hp, t⟩ := h
  exact ⟨ps, by rw [upd_ne (ne_of_none hp n)]; exact hp, t⟩
theorem Tab.put {H : Hp} {T T' : Addr} {ps' : Array Value} (h : Tab T H) (t : TriplesOk ps'.toList) : Tab T (upd H T' (.tbl ps')) := by
  obtain ⟨ps, hp, t0⟩ := h
  by_cases e : T = T'
  · subst e; exact ⟨ps', upd_same, t⟩
  · exact ⟨ps, by rw [upd_ne e]; exact hp, t0⟩
theorem Tab.set {H : Hp} {T p : Addr} {o o' : HO} (h : Tab T H) (n : H p = some o') (no : ∀ ps, o' ≠ .tbl ps) : Tab T (upd H p o) := by
  obtain ⟨ps, hp, t⟩ := h
  exact ⟨ps, by rw [upd_ne (fun z => by rw [z, n] at hp; cases hp; exact no _ rfl)]; exact hp, t⟩
theorem Tab.same {H H' : Hp} {T : Addr} (h : Tab T H) (s : Same H H') : Tab T H' := by
  obtain ⟨ps, hp, t⟩ := h
  exact ⟨ps, s _ _ hp, t⟩
structure TabL (T : Addr) (Ts : List Addr) (H : Hp) : Prop where
  h : Tab T H
  all : ∀ U ∈ Ts, Tab U H
section
variable {T : Addr} {Ts : List Addr} {H H' : Hp}
theorem TabL.new {p : Addr} {o : HO} (x : TabL T Ts H) (n : H p = none) : TabL T Ts (upd H p o) := ⟨x.h.new n, fun U hU => (x.all U hU).new n⟩
theorem TabL.put {T' : Addr} {ps' : Array Value} (x : TabL T Ts H) (t : TriplesOk ps'.toList) : TabL T Ts (upd H T' (.tbl ps')) := ⟨x.h.put t, fun U hU => (x.all U hU).put t⟩
theorem TabL.set {p : Addr} {o o' : HO} (x : TabL T Ts H) (n : H p = some o') (no : ∀ ps, o' ≠ .tbl ps) : TabL T Ts (upd H p o) := ⟨x.h.set n no, fun U hU => (x.all U hU).set n no⟩
theorem TabL.same (x : TabL T Ts H) (s : Same H H') : TabL T Ts H' := ⟨x.h.same s, fun U hU => (x.all U hU).same s⟩
end
structure PrA (H : Hp) (x : V) : Prop where
  ex : ∃ a n d, x = .ref a ∧ H a = some (.tup [.int n, .int d]) ∧ 0 < n ∧ 0 < d ∧ Nat.gcd n.natAbs d.natAbs = 1 ∧ n ≤ 1000000000 ∧ d ≤ 1000000000
theorem PrA.kp {H H' : Hp} {x : V} (h : PrA H x) (k : Kp H H') : PrA H' x := by
  obtain ⟨a, n, d, e, ha, r⟩ := h.ex
  exact ⟨a, n, d, e, k.tup ha, r⟩
theorem small_big {d : Int} (h0 : 0 < d) (h : d ≤ 1000000000) : d.natAbs < big := Nat.lt_of_le_of_lt (show d.natAbs ≤ 1000000000 by omega) (by decide +kernel)
theorem PrA.thd {H : Hp} {x : V} (h : PrA H x) : ThD H x := by
  obtain ⟨a, n, d, rfl, ha, n0, d0, g, n1, d1⟩ := h.ex
  refine ⟨.tup ha, fun b xs e hb y hy => ?_, fun b n' d' e hb => ?_, nofun⟩
  · cases e
    rw [ha] at hb; cases hb
    rcases List.mem_cons.mp hy with rfl | hy
    · exact .int _
    · rw [List.mem_singleton.mp hy]; exact .int _
  · cases e
    rw [ha] at hb; cases hb
    exact small_big d0 d1
theorem PrA.fr {H : Hp} {x : V} (h : PrA H x) : frB H x = true := by
  obtain ⟨a, n, d, rfl, ha, n0, d0, g, _⟩ := h.ex
  exact frB_t ⟨a, n, d, rfl, ha, d0, g⟩
section
variable {P : Program} {w : World} {K : PySem.W.Frag} {mg : Str → Option Value} {base : Heap}
def inB : V → Int → Int → Bool
  | .int i, lo, hi => decide (lo ≤ i) && decide (i ≤ hi)
  | _, _, _ => false
def spWithin : Sp := fun vs H Q _ => ∃ (x : V) (lo hi : Int), vs = [x, .int lo, .int hi] ∧ Th H x ∧ Q (.bl (inB x lo hi)) H
theorem scWi : FnScope ["thing", "least", "most"] ["thing", "least", "most"] (defScope sWithin) := ⟨rfl, rfl, rfl, by decide +kernel, rfl, by decide +kernel, by decide +kernel⟩
theorem ok_within {f fW : Addr} {fd fdW : FuncData} (F : FunG K "is_whole_within" "is_whole_within" sWithin .none f fd)
    (GW : FnOk P w K mg base (CXE P w) 1 fW fdW ["thing"] spWhole) (mW : mg "is_whole" = some (.ref fW)) (kW : PySem.W.keepIn K (.ref fW) = true) (bW : Binds K fdW ["thing"] []) :
    FnOk P w K mg base (CXE P w) 2 f fd ["thing", "least", "most"] spWithin := by
  refine F.zokN scWi (fun vs H Q E h => ?_) (fun cdv A outer s H vs Q E hr h => ?_)
  · obtain ⟨x, lo, hi, rfl, _⟩ := h
    rfl
  · obtain ⟨x, lo, hi, rfl, hx, q⟩ := h
    refine ⟨_, zpss_one (zps_ret (zpe_and (zpe_call GW hr (by rfl) mW kW bW .nil passE0 (zpac_n (zpv 0) zpa_nil)) (zpe_and (zpe_cmpR op_le (zpv 1) (zpv 0) (nomark _)) (zpe_one (zpe_cmpR op_le (zpv 0) (zpv 2) (nomark _)))))), ?_⟩
    refine ⟨_, rfl, x, rfl, hx, _, rfl, ?_⟩
    cases x with
    | int i =>
      refine iteT ⟨_, rfl, _, rfl, _, _, rfl, rfl, _, rfl, ?_⟩
      refine ite2 (fun e => ?_) (fun e => ?_)
      · refine ⟨_, rfl, _, rfl, _, _, rfl, rfl, ?_⟩
        have : inB (.int i) lo hi = decide (i ≤ hi) := by simp [inB, of_decide_eq_true e]
        rw [this] at q
        exact q
      · have : inB (.int i) lo hi = false := by
          have : decide (lo ≤ i) = false := by simpa using e
          simp [inB, this]
        rw [this] at q
        exact q
    | _ => exact iteF q
def spAbove : Sp := fun vs H Q _ => ∃ x, vs = [x] ∧ PrA H x ∧ Q (.bl true) H
theorem scAb : FnScope ["thing"] ["thing"] (defScope sAbove) := ⟨rfl, rfl, rfl, by decide +kernel, rfl, by decide +kernel, by decide +kernel⟩
theorem ok_above {f fF : Addr} {fd fdF : FuncData} (F : FunG K "is_above_nought" "is_above_nought" sAbove .none f fd)
    (GF : FnOk P w K mg base (CXE P w) 2 fF fdF ["thing"] spIsF) (mF : mg "is_fraction" = some (.ref fF)) (kF : PySem.W.keepIn K (.ref fF) = true) (bF : Binds K fdF ["thing"] []) :
    FnOk P w K mg base (CXE P w) 3 f fd ["thing"] spAbove := by
  refine F.zokN scAb (fun vs H Q E h => ?_) (fun cdv A outer s H vs Q E hr h => ?_)
  · obtain ⟨x, rfl, _⟩ := h
    rfl
  · obtain ⟨x, rfl, hx, q⟩ := h
    refine ⟨_, zpss_one (zps_ret (zpe_and (zpe_call GF hr (by rfl) mF kF bF .nil passE0 (zpac_n (zpv 0) zpa_nil)) (zpe_one (zpe_cmpR op_gt (zpe_ix ix_tup (zpv 0) zpe_int (fun _ _ => rfl)) zpe_int (nomark _))))), ?_⟩
    refine ⟨_, rfl, x, rfl, hx.thd, _, rfl, ?_⟩
    rw [hx.fr]
    obtain ⟨a, n, d, rfl, ha, n0, d0, g, n1, d1⟩ := hx.ex
    refine iteT ⟨_, rfl, a, _, _, _, rfl, rfl, SqT.of ha, rfl, _, _, rfl, rfl, ?_⟩
    have : decide ((0 : Int) < n) = true := decide_eq_true (by omega)
    show Q (V.bl (decide ((0 : Int) < n))) H
    rw [this]
    exact q
def sg1 (c : Nat) : Str := ⟨#[c]⟩
structure Row (H : Hp) (x : V) (c : Nat) : Prop where
  ex : ∃ a p l, x = .ref a ∧ H a = some (.tup [.str (sg1 c), p, l]) ∧ PrA H p ∧ (l = .non ∨ PrA H l)
  oc : occ c = true
theorem Row.kp {H H' : Hp} {x : V} {c : Nat} (h : Row H x c) (k : Kp H H') : Row H' x c := by
  obtain ⟨a, p, l, e, ha, hp, hl⟩ := h.ex
  exact ⟨⟨a, p, l, e, k.tup ha, hp.kp k, hl.imp id fun z => z.kp k⟩, h.oc⟩
theorem name1 {c : Nat} (h : occ c = true) : nameB (.str (sg1 c)) = true := by
  have : sg1 c ≠ "" := fun z => by
    have : (sg1 c).length = ("" : Str).length := by rw [z]
    exact absurd this (by show (1 : Nat) ≠ 0; decide)
  have l : (sg1 c).length ≤ 8 := by show (1 : Nat) ≤ 8; decide
  have a : (sg1 c).cps.toList.all occ = true := by
    show [c].all occ = true
    simp [h]
  simp only [nameB, decide_eq_true this, decide_eq_true l, a, Bool.and_self]
def spLetter (T : Addr) : Sp := fun vs H Q _ => ∃ c, vs = [.str (sg1 c)] ∧ occ c = true ∧ Tab T H ∧ ∀ ps', TriplesOk ps'.toList → Q (.bl true) (upd H T (.tbl ps'))
theorem scLe : FnScope ["thing"] ["thing"] (defScope sLetter) := ⟨rfl, rfl, rfl, by decide +kernel, rfl, by decide +kernel, by decide +kernel⟩
theorem ok_letter {T f fN : Addr} {fd fdN : FuncData} (F : FunG K "is_letter" "is_letter" sLetter .none f fd) (B : Bl mg)
    (GN : FnOk P w K mg base (CXE P w) 2 fN fdN ["thing"] (spName T)) (mN : mg "is_name" = some (.ref fN)) (kN : PySem.W.keepIn K (.ref fN) = true) (bN : Binds K fdN ["thing"] []) :
    FnOk P w K mg base (CXE P w) 3 f fd ["thing"] (spLetter T) := by
  refine F.zokN scLe (fun vs H Q E h => ?_) (fun cdv A outer s H vs Q E hr h => ?_)
  · obtain ⟨c, rfl, _⟩ := h
    rfl
  · obtain ⟨c, rfl, hc, ht, q⟩ := h
    refine ⟨_, zpss_one (zps_ret (zpe_and (zpe_call GN hr (by rfl) mN kN bN .nil passE0 (zpac_n (zpv 0) zpa_nil)) (zpe_one (zpe_cmpR op_eq (zpe_callB call_len_str (by rfl) B.len PySem.boot_len (zpac_n (zpv 0) zpa_nil)) zpe_int (nomark _))))), ?_⟩
    obtain ⟨ps, hT, tr⟩ := id ht
    have len1 : (sg1 c).length = 1 := rfl
    refine ⟨_, rfl, _, ps, rfl, .str _, fun z e => by injection e with e; rw [← e, len1]; decide, hT, tr, fun ps' tr' => ⟨_, rfl, ?_⟩⟩
    rw [name1 hc]
    refine iteT ⟨_, rfl, sg1 c, rfl, by rw [len1]; decide, rfl, ?_⟩
    exact q ps' tr'
def spRow (T : Addr) : Sp := fun vs H Q _ => ∃ x c, vs = [x] ∧ Row H x c ∧ Tab T H ∧ ∀ ps', TriplesOk ps'.toList → Q (.bl true) (upd H T (.tbl ps'))
theorem scRo : FnScope ["thing", "sign", "price", "last"] ["thing"] (defScope sRow) := ⟨rfl, rfl, rfl, by decide +kernel, rfl, by decide +kernel, by decide +kernel⟩
theorem ok_row {T f fL fA : Addr} {fd fdL fdA : FuncData} (F : FunG K "is_sign_row" "is_sign_row" sRow .none f fd) (B : Bl mg)
    (GL : FnOk P w K mg base (CXE P w) 3 fL fdL ["thing"] (spLetter T)) (mL : mg "is_letter" = some (.ref fL)) (kL : PySem.W.keepIn K (.ref fL) = true) (bL : Binds K fdL ["thing"] [])
    (GA : FnOk P w K mg base (CXE P w) 3 fA fdA ["thing"] spAbove) (mA : mg "is_above_nought" = some (.ref fA)) (kA : PySem.W.keepIn K (.ref fA) = true) (bA : Binds K fdA ["thing"] []) :
    FnOk P w K mg base (CXE P w) 4 f fd ["thing"] (spRow T) := by
  refine F.zokN scRo (fun vs H Q E h => ?_) (fun cdv A outer s H vs Q E hr h => ?_)
  · obtain ⟨x, c, rfl, _⟩ := h
    rfl
  · obtain ⟨x, c, rfl, hx, ht, q⟩ := h
    refine ⟨_, zpss_cons (zps_if (zpw_or (zpt_not (zpt_val (zpe_callB call_isi (by rfl) B.isi boot_isi (zpac_n (zpv 0) (zpac_n (zpe_bltn (by rfl) B.tuple boot_tuple (v := .ty "tuple") rfl) zpa_nil)))))
        (zpw_or1 (zpt_cmpR op_ne (zpe_callB call_len_seq (by rfl) B.len PySem.boot_len (zpac_n (zpv 0) zpa_nil)) zpe_int (nomark _)))).pt zpss_never zpss_nil)
      (zpss_cons (zps_asg (zpv 0) (zpg_tup rfl (zpgs_cons (zpg_name (i := 1) scRo.nd rfl (Or.inl rfl)) (zpgs_cons (zpg_name (i := 2) scRo.nd rfl (Or.inl rfl)) (zpgs_cons (zpg_name (i := 3) scRo.nd rfl (Or.inl rfl)) zpgs_nil)))))
      (zpss_one (zps_ret (zpe_and (zpe_call GL hr (by rfl) mL kL bL .nil passE0 (zpac_n (zpv 1) zpa_nil)) (zpe_and (zpe_call GA hr (by rfl) mA kA bA .nil passE0 (zpac_n (zpv 2) zpa_nil)) (zpe_one (zpe_or (zpe_cmpR op_isN (zpv 3) zpe_non (nomark _)) (zpe_one (zpe_call GA hr (by rfl) mA kA bA .nil passE0 (zpac_n (zpv 3) zpa_nil)))))))))), ?_⟩
    obtain ⟨a, p, l, rfl, ha, hp, hl⟩ := hx.ex
    refine ⟨_, rfl, _, _, _, true, rfl, .of (.tup ha), .inl ⟨_, rfl, kt1⟩, _, rfl, iteF ?_⟩
    refine ⟨_, rfl, a, _, rfl, .inr (SqT.of ha), rfl, _, rfl, iteF ?_⟩
    refine ⟨_, rfl, a, _, rfl, SqT.of ha, rfl, _, _, rfl, _, _, rfl, _, _, rfl, rfl, ?_⟩
    refine ⟨_, rfl, c, rfl, hx.oc, ht, fun ps' tr' => ⟨_, rfl, iteT ?_⟩⟩
    have k : Kp H (upd H T (.tbl ps')) := Kp.tab ht
    refine ⟨_, rfl, _, rfl, hp.kp k, _, rfl, iteT ⟨_, rfl, rfl, _, rfl, ?_⟩⟩
    rcases hl with rfl | hl
    · exact iteT (q ps' tr')
    · have ne : l ≠ .non := fun z => by
        obtain ⟨_, _, _, e, _⟩ := hl.ex
        rw [z] at e; cases e
      rw [decide_eq_false ne]
      exact iteF ⟨_, rfl, _, rfl, hl.kp k, q ps' tr'⟩
end
end G1
namespace L2
open PySem
theorem boot_list : bootBuiltins "list" = some (.type "list") := by decide +kernel
theorem kl1 {K : PySem.W.Frag} : PySem.W.kitOne K (.type "list") (.type "list") = some true := by kernel_rfl
theorem kst1 {K : PySem.W.Frag} : PySem.W.kitOne K (.type "str") (.type "str") = some true := by kernel_rfl
theorem ix_tupK {X : Cx} (K : PySem.W.Frag) (h : X.K = K) : IxR X (rIxT K) := h ▸ ix_tup
end L2
namespace G1
open PySem L2 GM
theorem Kp.upd_new {H H1 H2 : Hp} {l : Addr} {o : HO} (k1 : Kp H H1) (n : H1 l = none) (k2 : Kp H H2) : Kp H (upd H2 l o) := fun b u h hn => by
  rw [upd_ne (ne_of_none (k1 b u h hn) n)]; exact k2 b u h hn
structure Rows (H : Hp) (xs : List V) (cs : List Nat) : Prop where
  len : xs.length = cs.length
  row : ∀ (i : Nat) (x : V) (c : Nat), xs[i]? = some x → cs[i]? = some c → Row H x c
theorem Rows.kp {H H' : Hp} {xs : List V} {cs : List Nat} (h : Rows H xs cs) (k : Kp H H') : Rows H' xs cs := ⟨h.len, fun i x c e1 e2 => (h.row i x c e1 e2).kp k⟩
theorem Rows.at {H : Hp} {xs : List V} {cs : List Nat} {i : Nat} {x : V} (h : Rows H xs cs) (e : xs[i]? = some x) : ∃ c, cs[i]? = some c ∧ Row H x c := by
  have hi : i < cs.length := by rw [← h.len]; exact (List.getElem?_eq_some_iff.mp e).1
  exact ⟨cs[i], List.getElem?_eq_getElem hi, h.row i x _ e (List.getElem?_eq_getElem hi)⟩
theorem sg1_inj {a b : Nat} (h : sg1 a = sg1 b) : a = b := by
  unfold sg1 at h
  injection h with h
  injection h with h
  injection h
theorem take_fresh {cs : List Nat} (h : cs.Nodup) {i c : Nat} (e : cs[i]? = some c) : sg1 c ∉ (cs.take i).map sg1 := fun m => by
  obtain ⟨d, hd, z⟩ := List.mem_map.mp m
  have := sg1_inj z
  subst this
  obtain ⟨j, hj⟩ := List.getElem?_of_mem hd
  have hj' : j < i := by
    have := (List.getElem?_eq_some_iff.mp hj).1
    rw [List.length_take] at this; omega
  rw [List.getElem?_take_of_lt hj'] at hj
  obtain ⟨hi1, hi2⟩ := List.getElem?_eq_some_iff.mp e
  obtain ⟨hj1, hj2⟩ := List.getElem?_eq_some_iff.mp hj
  have := (List.getElem_inj (h₀ := hj1) (h₁ := hi1) h).mp (by rw [hi2, hj2])
  omega
section
variable {P : Program} {w : World} {K : PySem.W.Frag} {mg : Str → Option Value} {base : Heap}
def spSigns (T1 T2 : Addr) (Ts : List Addr) : Sp := fun vs H Q _ => ∃ (L : Addr) (xs : List V) (cs : List Nat), vs = [.ref L] ∧ H L = some (.lst xs) ∧ Rows H xs cs ∧ cs.Nodup ∧ 2 ≤ cs.length ∧ cs.length ≤ 6 ∧ Tab T1 H ∧ TabL T2 Ts H ∧ ∀ H', Kp H H' → Tab T1 H' → TabL T2 Ts H' → Q (.bl true) H'
theorem scSi : FnScope ["thing"] ["thing"] (defScope sSigns) := ⟨rfl, rfl, rfl, by decide +kernel, rfl, by decide +kernel, by decide +kernel⟩
theorem ok_signs {T1 T2 f c fR : Addr} {Ts : List Addr} {fdR : FuncData} {kV doc pm ct oc : Value} {an od : Option Addr} {osl : Array (Option Value)} {t1 t2 : Tok}
    (lk : K.lookup f = some ⟨oc, od, .func (PySem.W.fnOf "are_signs" "are_signs" (defArgs sSigns) (defBody sSigns) (defScope sSigns) .none kV doc pm an (.ref c) ct), osl⟩) (hcd : PySem.W.codeIn K (.ref c) "are_signs" = true)
    (B : Bl mg) (CK : CodeK K c T2) (hbm : BmOf mg base) (mF : mg "FEWEST_SIGNS" = some (.int 2 t1)) (mM : mg "MOST_SIGNS" = some (.int 6 t2))
    (GR : FnOk P w K mg base (CXE P w) 4 fR fdR ["thing"] (spRow T1)) (mR : mg "is_sign_row" = some (.ref fR)) (kR : PySem.W.keepIn K (.ref fR) = true) (bR : Binds K fdR ["thing"] []) :
    FnOk P w K mg base (CXE P w) 6 f (PySem.W.fnOf "are_signs" "are_signs" (defArgs sSigns) (defBody sSigns) (defScope sSigns) .none kV doc pm an (.ref c) ct) ["thing"] (spSigns T1 T2 Ts) := by
  refine okC lk hcd scSi (fun vs H Q E h => ?_) (fun A outer s H vs Q E hr h => ?_)
  · obtain ⟨L, xs, cs, rfl, _⟩ := h
    rfl
  · obtain ⟨L, xs, cs, rfl, hL, rows, nd, c2, c6, ht1, ht2, q⟩ := h
    refine ⟨_, zpss_cons (zps_if (zpw_or (zpt_not (zpt_val (zpe_callB call_isi (by rfl) B.isi boot_isi (zpac_n (zpv 0) (zpac_n (zpe_bltn (by rfl) B.list boot_list (v := .ty "list") rfl) zpa_nil)))))
        (zpw_or (zpt_cmpR op_lt (zpe_callB call_len_seq (by rfl) B.len PySem.boot_len (zpac_n (zpv 0) zpa_nil)) (zpe_glob (by rfl) mF (v := .int 2) ⟨_, rfl⟩) (nomark _))
        (zpw_or1 (zpt_cmpR op_gt (zpe_callB call_len_seq (by rfl) B.len PySem.boot_len (zpac_n (zpv 0) zpa_nil)) (zpe_glob (by rfl) mM (v := .int 6) ⟨_, rfl⟩) (nomark _))))).pt zpss_never zpss_nil)
      (zpss_cons (zps_if (zpt_not (zpt_val (zpe_all ["thing"] ["row"] [] (defScope sSigns) rfl hr (by rfl) B.all rfl CK ⟨hbm⟩ rfl rfl ⟨by decide +kernel, by decide +kernel, by decide +kernel, by decide +kernel, by decide +kernel⟩ (by decide +kernel) (by decide +kernel) (zpi_list (zpv 0))
          (fun code s H fp => zpg_name (i := 0) (show List.Nodup [("row" : Str)] by decide +kernel) rfl (Or.inl rfl)) (fun code s H fp => zpe_call GR hr.gen (by rfl) mR kR bR .nil passE0 (zpac_n (zpv 0) zpa_nil))))) zpss_never zpss_nil)
      (zpss_one (zps_ret (zpe_cmpR op_eq (zpe_callB call_len_setT (by rfl) B.len PySem.boot_len (zpac_x (zpe_setcomp ["thing"] ["row"] [] (defScope sSigns) rfl rfl rfl ⟨by decide +kernel, by decide +kernel, by decide +kernel, by decide +kernel, by decide +kernel⟩ (zpi_list (zpv 0))
          (fun s H fp => zpg_name (i := 0) (show List.Nodup [("row" : Str)] by decide +kernel) rfl (Or.inl rfl)) (fun s H fp => zpts_nil) (fun s H fp => zpe_ix (ix_tupK K rfl) (zpv 0) zpe_int (fun _ _ => rfl))) zpa_nil))
        (zpe_callB call_len_seq (by rfl) B.len PySem.boot_len (zpac_n (zpv 0) zpa_nil)) (nomark _))))), ?_⟩
    have ln : xs.length = cs.length := rows.len
    refine ⟨_, rfl, _, _, _, true, rfl, .of (.lst hL), .inl ⟨_, rfl, kl1⟩, _, rfl, iteF ?_⟩
    refine ⟨_, rfl, L, _, rfl, .inl (SqL.of hL), _, _, rfl, rfl, _, rfl, ?_⟩
    refine ite2 (fun e => absurd (of_decide_eq_true e) (by omega)) (fun _ => ?_)
    refine ⟨_, rfl, L, _, rfl, .inl (SqL.of hL), _, _, rfl, rfl, _, rfl, ?_⟩
    refine ite2 (fun e => absurd (of_decide_eq_true e) (by omega)) (fun _ => ?_)
    obtain ⟨ps2, hT2, tr2⟩ := id ht2.h
    refine ⟨_, rfl, L, rfl, ⟨_, SqL.of hL⟩, ps2, hT2, tr2, fun ps' tr' => ?_⟩
    refine ⟨fun i m σ2 H2 => i ≤ cs.length ∧ m = cs.length - i ∧ (∃ v, σ2 = [v]) ∧ Kp H H2 ∧ Tab T1 H2 ∧ TabL T2 Ts H2, ⟨_, Nat.zero_le _, rfl, ⟨_, rfl⟩, Kp.tab ht2.h, ht1.put tr', ht2.put tr'⟩, ?_⟩
    rintro i m σ2 H2 ⟨hi, rfl, ⟨v, rfl⟩, k2, a2, b2⟩
    by_cases hlt : i < cs.length
    · refine .inr ⟨⟨_, _, SqL.of (k2.lst hL), List.getElem?_eq_getElem (show i < xs.length by omega)⟩, ?_⟩
      rintro x H3 ⟨rfl, hx⟩
      obtain ⟨cc, hc, row⟩ := rows.at (hx _ (SqL.of (k2.lst hL)))
      refine ⟨_, rfl, x, cc, rfl, row.kp k2, a2, fun ps'' tr'' => ⟨_, rfl, iteT ⟨cs.length - (i + 1), by omega, hlt, rfl, ⟨_, rfl⟩, k2.trans (Kp.tab a2), a2.put tr'', b2.put tr''⟩⟩⟩
    · refine .inl ⟨⟨_, SqL.of (k2.lst hL), by omega⟩, _, rfl, iteF ?_⟩
      clear hlt
      have hL2 := k2.lst hL
      refine ⟨_, rfl, L, rfl, ⟨_, SqL.of hL2⟩, fun l hl => ?_⟩
      refine ⟨fun i m σ3 H3 => i ≤ cs.length ∧ m = cs.length - i ∧ (∃ v, σ3 = [v]) ∧ H3 l = some (SetT P w l ((cs.take i).map sg1)) ∧ Kp H H3 ∧ Tab T1 H3 ∧ TabL T2 Ts H3,
        ⟨_, Nat.zero_le _, rfl, ⟨_, rfl⟩, upd_same, k2.trans (Kp.new hl), a2.new hl, b2.new hl⟩, ?_⟩
      rintro j m σ3 H3 ⟨hj, rfl, ⟨v, rfl⟩, hs3, k3, a3, b3⟩
      have hL3 := k3.lst hL
      by_cases hlt : j < cs.length
      · refine .inr ⟨⟨_, _, SqL.of hL3, List.getElem?_eq_getElem (show j < xs.length by omega)⟩, ?_⟩
        rintro x H4 ⟨rfl, hx⟩
        obtain ⟨cc, hc, row⟩ := rows.at (hx _ (SqL.of hL3))
        obtain ⟨a, p, la, rfl, ha, _⟩ := (row.kp k3).ex
        dsimp only [gName]
        rw [if_pos rfl]
        refine ⟨_, rfl, a, _, _, _, rfl, rfl, SqT.of ha, rfl, sg1 cc, _, rfl, hs3, ?_, ?_⟩
        · rw [List.length_map, List.length_take]; omega
        have ins : insT (sg1 cc) ((cs.take j).map sg1) = (cs.take (j + 1)).map sg1 := by
          unfold insT
          rw [if_neg (take_fresh nd hc), List.take_add_one, hc, List.map_append]
          rfl
        have no : ∀ q, SetT P w l ((cs.take j).map sg1) ≠ .tbl q := nofun
        refine ⟨cs.length - (j + 1), by omega, hlt, rfl, ⟨_, rfl⟩, by rw [ins]; exact upd_same, k2.upd_new hl k3, a3.set hs3 no, b3.set hs3 no⟩
      · have e : j = cs.length := by omega
        subst e
        refine .inl ⟨⟨_, SqL.of hL3, by omega⟩, l, _, rfl, hs3, _, rfl, L, _, rfl, .inl (SqL.of hL3), rfl, ?_⟩
        have e1 : (V.int ((List.map sg1 (List.take cs.length cs)).length : Nat)) = V.int (xs.length : Nat) := by rw [List.length_map, List.take_length, ln]
        rw [e1, decide_eq_true rfl]
        exact q _ k3 a3 b3
end
end G1
namespace G1
open PySem L2 GM
def txs (ts : List Str) : List V := ts.map V.str
theorem txs_flat (ts : List Str) : (txs ts).all flatV = true := by
  unfold txs
  rw [List.all_map]
  exact List.all_eq_true.mpr fun _ _ => rfl
theorem inV_txs (t : Str) (ts : List Str) : inV (.str t) (txs ts) = decide (t ∈ ts) := by
  unfold inV txs
  rw [List.any_map, Bool.eq_iff_iff, List.any_eq_true, decide_eq_true_iff]
  constructor
  · rintro ⟨y, hy, e⟩
    have : (y == t) = true := e
    rw [← eq_of_beq this]; exact hy
  · intro h
    exact ⟨t, h, by show (t == t) = true; exact beq_self_eq_true t⟩
def sgs (cs : List Nat) : List Str := cs.map sg1
section
variable {P : Program} {w : World} {K : PySem.W.Frag} {mg : Str → Option Value} {base : Heap}
def spSignsOf (K : PySem.W.Frag) : Sp := fun vs H Q _ => ∃ (t S : Addr) (f p lg : V) (xs : List V) (cs : List Nat), vs = [.ref t] ∧ SqT K H t [.ref S, f, p, lg] ∧ H S = some (.lst xs) ∧ Rows H xs cs ∧ cs.length ≤ 6 ∧ ∀ l H', H l = none → Same H H' → H' l = some (.lst (txs (sgs cs))) → Q (.ref l) H'
theorem scSo : FnScope ["tongue"] ["tongue"] (defScope sSignsOf) := ⟨rfl, rfl, rfl, by decide +kernel, rfl, by decide +kernel, by decide +kernel⟩
theorem ok_signsOf {f : Addr} {fd : FuncData} (F : FunG K "signs_of" "signs_of" sSignsOf .none f fd) : FnOk P w K mg base (CXE P w) 1 f fd ["tongue"] (spSignsOf K) := by
  refine F.zokN scSo (fun vs H Q E h => ?_) (fun cdv A outer s H vs Q E hr h => ?_)
  · obtain ⟨t, S, f, p, lg, xs, cs, rfl, _⟩ := h
    rfl
  · obtain ⟨t, S, f, p, lg, xs, cs, rfl, ht, hS, rows, c6, q⟩ := h
    refine ⟨_, zpss_one (zps_ret (zpe_comp ["tongue"] ["row"] [] (defScope sSignsOf) rfl rfl rfl ⟨by decide +kernel, by decide +kernel, by decide +kernel, by decide +kernel, by decide +kernel⟩ (zpi_list (zpe_ix ix_tup (zpv 0) zpe_int (fun _ _ => rfl)))
        (fun s H fp => zpg_name (i := 0) (show List.Nodup [("row" : Str)] by decide +kernel) rfl (Or.inl rfl)) (fun s H fp => zpts_nil) (fun s H fp => zpe_ix (ix_tupK K rfl) (zpv 0) zpe_int (fun _ _ => rfl)))), ?_⟩
    refine ⟨_, rfl, t, _, _, _, rfl, rfl, ht, rfl, S, rfl, ⟨_, SqL.of hS⟩, fun l hl => ?_⟩
    refine ⟨fun i m σ2 H2 => i ≤ cs.length ∧ m = cs.length - i ∧ (∃ v, σ2 = [v]) ∧ H2 l = some (.lst (txs (sgs (cs.take i)))) ∧ Same H H2, ⟨_, Nat.zero_le _, rfl, ⟨_, rfl⟩, upd_same, same_upd hl⟩, ?_⟩
    rintro i m σ2 H2 ⟨hi, rfl, ⟨v, rfl⟩, hl2, s2⟩
    have hS2 := s2 _ _ hS
    by_cases hlt : i < cs.length
    · refine .inr ⟨⟨_, _, SqL.of hS2, List.getElem?_eq_getElem (show i < xs.length by rw [rows.len]; exact hlt)⟩, ?_⟩
      rintro x H3 ⟨rfl, hx⟩
      obtain ⟨cc, hc, row⟩ := rows.at (hx _ (SqL.of hS2))
      obtain ⟨a, p, la, rfl, ha, _⟩ := (row.kp (Kp.same s2)).ex
      dsimp only [gName]
      rw [if_pos rfl]
      refine ⟨_, rfl, a, _, _, _, rfl, rfl, SqT.of ha, rfl, _, hl2, ?_, cs.length - (i + 1), by omega, hlt, rfl, ⟨_, rfl⟩, ?_, ?_⟩
      · unfold txs sgs
        rw [List.length_map, List.length_map, List.length_take]
        exact Nat.lt_of_le_of_lt (show min i cs.length ≤ 6 by omega) (by decide)
      · have : txs (sgs (cs.take i)) ++ [V.str (sg1 cc)] = txs (sgs (cs.take (i + 1))) := by
          unfold txs sgs
          rw [List.take_add_one, hc, List.map_append, List.map_append]; rfl
        rw [← this]; exact upd_same
      · intro b o hb
        rw [upd_ne (ne_of_none hb hl)]; exact s2 b o hb
    · have e : i = cs.length := by omega
      subst e
      rw [List.take_length] at hl2
      exact .inl ⟨⟨_, SqL.of hS2, by rw [rows.len]; exact Nat.le_refl _⟩, q l H2 hl s2 hl2⟩
def spUnlike (K : PySem.W.Frag) : Sp := fun vs H Q _ => ∃ (C L : Addr) (ks ts : List Str), vs = [.ref C, .ref L] ∧ H C = some (.lst (txs ks)) ∧ H L = some (.lst (txs ts)) ∧ ts.Nodup ∧ (∀ t ∈ ts, t ∈ ks) ∧ ts.length ≤ 100 ∧ ∀ H', Same H H' → Q (.bl true) H'
theorem scUl : FnScope ["choices", "thing", "seen", "text"] ["choices", "thing"] (defScope sUnlike) := ⟨rfl, rfl, rfl, by decide +kernel, rfl, by decide +kernel, by decide +kernel⟩
theorem take_freshT {ts : List Str} (h : ts.Nodup) {i : Nat} {t : Str} (e : ts[i]? = some t) : t ∉ ts.take i := fun m => by
  obtain ⟨j, hj⟩ := List.getElem?_of_mem m
  have hj' : j < i := by
    have := (List.getElem?_eq_some_iff.mp hj).1
    rw [List.length_take] at this; omega
  rw [List.getElem?_take_of_lt hj'] at hj
  obtain ⟨hi1, hi2⟩ := List.getElem?_eq_some_iff.mp e
  obtain ⟨hj1, hj2⟩ := List.getElem?_eq_some_iff.mp hj
  have := (List.getElem_inj (h₀ := hj1) (h₁ := hi1) h).mp (by rw [hi2, hj2])
  omega
theorem ok_unlike {f : Addr} {fd : FuncData} (F : FunG K "are_unlike_texts_of" "are_unlike_texts_of" sUnlike .none f fd) (B : Bl mg) : FnOk P w K mg base (CXE P w) 1 f fd ["choices", "thing"] (spUnlike K) := by
  refine F.zokN scUl (fun vs H Q E h => ?_) (fun cdv A outer s H vs Q E hr h => ?_)
  · obtain ⟨C, L, ks, ts, rfl, _⟩ := h
    rfl
  · obtain ⟨C, L, ks, ts, rfl, hC, hL, nd, sub, len, q⟩ := h
    refine ⟨_, zpss_cons (zps_if (zpt_not (zpt_val (zpe_callB call_isi (by rfl) B.isi boot_isi (zpac_n (zpv 1) (zpac_n (zpe_bltn (by rfl) B.list boot_list (v := .ty "list") rfl) zpa_nil))))) zpss_never zpss_nil)
      (zpss_cons (zps_set (i := 2) scUl.nd rfl (Or.inl rfl) (zpe_callTy0 call_set0 (by rfl) B.set boot_set))
      (zpss_cons (zps_for PassesOwn.never rfl (zpi_list (zpv 1)) (zpg_name (i := 3) scUl.nd rfl (Or.inl rfl))
        (zpss_cons (zps_if (zpw_or (zpt_not (zpt_val (zpe_callB call_isi (by rfl) B.isi boot_isi (zpac_n (zpv 3) (zpac_n (zpe_bltn (by rfl) B.str boot_str (v := .ty "str") rfl) zpa_nil)))))
            (zpw_or (zpt_cmpR op_notIn_seq (zpv 3) (zpv 0) rfl) (zpw_or1 (zpt_cmpR op_in_set (zpv 3) (zpv 2) rfl)))).pt zpss_never zpss_nil)
        (zpss_one (zps_expr (zpe_setadd (zpv 2) (zpac_n (zpv 3) zpa_nil))))))
      (zpss_one (zps_ret zpe_bl)))), ?_⟩
    refine ⟨_, rfl, _, _, _, true, rfl, .of (.lst hL), .inl ⟨_, rfl, kl1⟩, _, rfl, iteF ?_⟩
    refine ⟨rfl, fun p hp => ?_⟩
    refine ⟨_, rfl, L, rfl, ⟨_, SqL.of (same_upd hp _ _ hL)⟩, for_list (K := K) (a := L) (xs := txs ts)
      (fun i σ H2 => (∃ v, σ = [some (.ref C), some (.ref L), some (.ref p), v]) ∧ H2 p = some (SetT P w p (ts.take i)) ∧ Same H H2) ⟨⟨_, rfl⟩, upd_same, same_upd hp⟩ ?_ ?_ ?_⟩
    · rintro i σ H2 _ ⟨_, _, s2⟩
      exact SqL.of (s2 _ _ hL)
    · rintro i x σ H2 hx ⟨⟨v, rfl⟩, hp2, s2⟩
      obtain ⟨t, ht, rfl⟩ : ∃ t, ts[i]? = some t ∧ x = .str t := by
        unfold txs at hx
        rw [List.getElem?_map] at hx
        obtain ⟨t, h1, h2⟩ := Option.map_eq_some_iff.mp hx
        exact ⟨t, h1, h2.symm⟩
      have ilt := (List.getElem?_eq_some_iff.mp ht).1
      refine ⟨_, rfl, _, _, _, true, rfl, .of (.str t), .inl ⟨_, rfl, kst1⟩, _, rfl, iteF ?_⟩
      refine ⟨_, rfl, _, rfl, C, _, rfl, .inl (SqL.of (s2 _ _ hC)), rfl, txs_flat ks, _, rfl, ?_⟩
      have m1 : inV (.str t) (txs ks) = true := by rw [inV_txs]; exact decide_eq_true (sub t (List.mem_of_getElem? ht))
      refine ite2 (fun e => absurd e (by
        show ¬ ((!inV (.str t) (txs ks)) = true)
        rw [m1]; decide)) (fun _ => ?_)
      refine ⟨_, rfl, _, rfl, t, p, _, rfl, rfl, hp2, _, rfl, ?_⟩
      have fr := take_freshT nd ht
      refine ite2 (fun e => absurd e (by
        show ¬ (decide (t ∈ ts.take i) = true)
        rw [decide_eq_false fr]; decide)) (fun _ => ?_)
      refine ⟨_, rfl, ⟨p, _, rfl, hp2⟩, _, rfl, p, t, _, rfl, rfl, hp2, ?_, ?_⟩
      · rw [List.length_take]; omega
      refine ⟨⟨_, rfl⟩, ?_, fun b o hb => ?_⟩
      · have : insT t (ts.take i) = ts.take (i + 1) := by
          unfold insT
          rw [if_neg fr, List.take_add_one, ht]; rfl
        rw [this]; exact upd_same
      · rw [upd_ne (ne_of_none hb hp)]; exact s2 b o hb
    · rintro σ H2 ⟨⟨v, rfl⟩, _, s2⟩
      exact q H2 s2
end
end G1
namespace L2
theorem zpi_listK {X : Cx} {tg l : PySem.Expr} {tl : TE} (K : PySem.W.Frag) (h : X.K = K) (hl : SPE X l tl) : SPI X tg l (iList K tl) := h ▸ zpi_list hl
end L2
namespace G1
open PySem L2 GM
def prs (ks : List Str) : List Str := ks.flatMap fun a => ks.map fun b => a ++ b
structure Tg (H : Hp) (t : Addr) (cs : List Nat) (fs ps : List Str) (lg : Int) : Prop where
  ex : ∃ S F Pp xs, H t = some (.tup [.ref S, .ref F, .ref Pp, .int lg]) ∧ H S = some (.lst xs) ∧ Rows H xs cs ∧ H F = some (.lst (txs fs)) ∧ H Pp = some (.lst (txs ps))
  nd : cs.Nodup
  c2 : 2 ≤ cs.length
  c6 : cs.length ≤ 6
  fnd : fs.Nodup
  fsub : ∀ f ∈ fs, f ∈ sgs cs
  pnd : ps.Nodup
  psub : ∀ p ∈ ps, p ∈ prs (sgs cs)
  l1 : 1 ≤ lg
  l8 : lg ≤ 8
theorem Tg.kp {H H' : Hp} {t : Addr} {cs : List Nat} {fs ps : List Str} {lg : Int} (h : Tg H t cs fs ps lg) (k : Kp H H') : Tg H' t cs fs ps lg := by
  obtain ⟨S, F, Pp, xs, h1, h2, h3, h4, h5⟩ := h.ex
  exact { h with ex := ⟨S, F, Pp, xs, k.tup h1, k.lst h2, h3.kp k, k.lst h4, k.lst h5⟩ }
theorem nodup_le : ∀ {fs ks : List Str}, fs.Nodup → (∀ f ∈ fs, f ∈ ks) → fs.length ≤ ks.length
  | [], _, _, _ => Nat.zero_le _
  | f :: fs, ks, h, s => by
    have hf := s f List.mem_cons_self
    obtain ⟨a, b, rfl⟩ := List.append_of_mem hf
    have := nodup_le (fs := fs) (ks := a ++ b) (List.nodup_cons.mp h).2 fun g hg => by
      have := s g (List.mem_cons_of_mem _ hg)
      rcases List.mem_append.mp this with z | z
      · exact List.mem_append_left _ z
      · rcases List.mem_cons.mp z with rfl | z
        · exact absurd hg (List.nodup_cons.mp h).1
        · exact List.mem_append_right _ z
    simp only [List.length_append, List.length_cons] at this ⊢
    omega
theorem flat_len (ks : List Str) (f : Str → List Str) (n : Nat) (h : ∀ a, (f a).length = n) : (ks.flatMap f).length = ks.length * n := by
  induction ks with
  | nil => simp
  | cons k ks ih => rw [List.flatMap_cons, List.length_append, ih, h, List.length_cons, Nat.succ_mul, Nat.add_comm]
theorem prs_len (ks : List Str) : (prs ks).length = ks.length * ks.length := flat_len ks _ _ fun a => by rw [List.length_map]
theorem Tg.flen {H : Hp} {t : Addr} {cs : List Nat} {fs ps : List Str} {lg : Int} (h : Tg H t cs fs ps lg) : fs.length ≤ 6 := by
  have := nodup_le h.fnd h.fsub
  have := h.c6
  unfold sgs at *
  rw [List.length_map] at *
  omega
theorem Tg.plen {H : Hp} {t : Addr} {cs : List Nat} {fs ps : List Str} {lg : Int} (h : Tg H t cs fs ps lg) : ps.length ≤ 36 := by
  have e := nodup_le h.pnd h.psub
  have c6 := h.c6
  rw [prs_len] at e
  have : (sgs cs).length = cs.length := List.length_map ..
  rw [this] at e
  exact Nat.le_trans e (Nat.mul_le_mul c6 c6)
theorem prs_snoc {ks : List Str} {i : Nat} {a : Str} (e : ks[i]? = some a) : (ks.take (i + 1)).flatMap (fun a => ks.map fun b => a ++ b) = (ks.take i).flatMap (fun a => ks.map fun b => a ++ b) ++ ks.map fun b => a ++ b := by
  rw [List.take_add_one, e, List.flatMap_append]
  simp
section
variable {P : Program} {w : World} {K : PySem.W.Frag} {mg : Str → Option Value} {base : Heap}
def spLook (T1 T2 : Addr) (Ts : List Addr) : Sp := fun vs H Q _ => ∃ (t : Addr) (cs : List Nat) (fs ps : List Str) (lg : Int), vs = [.ref t] ∧ Tg H t cs fs ps lg ∧ Tab T1 H ∧ TabL T2 Ts H ∧ ∀ H', Kp H H' → Tab T1 H' → TabL T2 Ts H' → Q .non H'
theorem scLk : FnScope ["thing", "signs", "firsts", "pairs", "longest", "letters"] ["thing"] (defScope sLook) := ⟨rfl, rfl, rfl, by decide +kernel, rfl, by decide +kernel, by decide +kernel⟩
theorem ok_look {T1 T2 f fS fO fU fI : Addr} {Ts : List Addr} {fd fdS fdO fdU fdI : FuncData} {tk : Tok} (F : FunG K "look_at_tongue" "look_at_tongue" sLook .none f fd) (B : Bl mg) (mM : mg "LONGEST_WORD" = some (.int 8 tk))
    (GS : FnOk P w K mg base (CXE P w) 6 fS fdS ["thing"] (spSigns T1 T2 Ts)) (mS : mg "are_signs" = some (.ref fS)) (kS : PySem.W.keepIn K (.ref fS) = true) (bS : Binds K fdS ["thing"] [])
    (GO : FnOk P w K mg base (CXE P w) 1 fO fdO ["tongue"] (spSignsOf K)) (mO : mg "signs_of" = some (.ref fO)) (kO : PySem.W.keepIn K (.ref fO) = true) (bO : Binds K fdO ["tongue"] [])
    (GU : FnOk P w K mg base (CXE P w) 1 fU fdU ["choices", "thing"] (spUnlike K)) (mU : mg "are_unlike_texts_of" = some (.ref fU)) (kU : PySem.W.keepIn K (.ref fU) = true) (bU : Binds K fdU ["choices", "thing"] [])
    (GI : FnOk P w K mg base (CXE P w) 2 fI fdI ["thing", "least", "most"] spWithin) (mI : mg "is_whole_within" = some (.ref fI)) (kI : PySem.W.keepIn K (.ref fI) = true) (bI : Binds K fdI ["thing", "least", "most"] []) :
    FnOk P w K mg base (CXE P w) 7 f fd ["thing"] (spLook T1 T2 Ts) := by
  refine F.zokN scLk (fun vs H Q E h => ?_) (fun cdv A outer s H vs Q E hr h => ?_)
  · obtain ⟨t, cs, fs, ps, lg, rfl, _⟩ := h
    rfl
  · obtain ⟨t, cs, fs, ps, lg, rfl, hg, ht1, ht2, q⟩ := h
    have hr1 : Room 1 _ := hr.mono (by decide)
    have hr2 : Room 2 _ := hr.mono (by decide)
    refine ⟨_, zpss_cons (zps_if (zpw_or (zpt_not (zpt_val (zpe_callB call_isi (by rfl) B.isi boot_isi (zpac_n (zpv 0) (zpac_n (zpe_bltn (by rfl) B.tuple boot_tuple (v := .ty "tuple") rfl) zpa_nil)))))
        (zpw_or1 (zpt_cmpR op_ne (zpe_callB call_len_seq (by rfl) B.len PySem.boot_len (zpac_n (zpv 0) zpa_nil)) zpe_int (nomark _)))).pt zpss_never zpss_nil)
      (zpss_cons (zps_asg (zpv 0) (zpg_tup rfl (zpgs_cons (zpg_name (i := 1) scLk.nd rfl (Or.inl rfl)) (zpgs_cons (zpg_name (i := 2) scLk.nd rfl (Or.inl rfl)) (zpgs_cons (zpg_name (i := 3) scLk.nd rfl (Or.inl rfl)) (zpgs_cons (zpg_name (i := 4) scLk.nd rfl (Or.inl rfl)) zpgs_nil))))))
      (zpss_cons (zps_if (zpt_not (zpt_val (zpe_call GS hr (by rfl) mS kS bS .nil passE0 (zpac_n (zpv 1) zpa_nil)))) zpss_never zpss_nil)
      (zpss_cons (zps_set (i := 5) scLk.nd rfl (Or.inr rfl) (zpe_call GO hr1 (by rfl) mO kO bO .nil passE0 (zpac_n (zpv 0) zpa_nil)))
      (zpss_cons (zps_if (zpt_not (zpt_val (zpe_call GU hr1 (by rfl) mU kU bU .nil passE0 (zpac_n (zpv 5) (zpac_n (zpv 2) zpa_nil))))) zpss_never zpss_nil)
      (zpss_cons (zps_if (zpt_not (zpt_val (zpe_call GU hr1 (by rfl) mU kU bU .nil passE0 (zpac_x (zpe_comp2 ["thing", "signs", "firsts", "pairs", "longest", "letters"] ["one", "other"] [5] (defScope sLook) rfl rfl rfl ⟨by decide +kernel, by decide +kernel, by decide +kernel, by decide +kernel, by decide +kernel⟩ (zpi_list (zpv 5))
            (fun s H fp => zpg_name (i := 0) (show List.Nodup [("one" : Str), "other", "letters"] by decide +kernel) rfl (Or.inl rfl)) (fun s H fp => zpts_nil)
            (fun s H fp => zpi_listK K rfl (zpv 2)) (fun s H fp => zpg_name (i := 1) (show List.Nodup [("one" : Str), "other", "letters"] by decide +kernel) rfl (Or.inl rfl)) (fun s H fp => zpts_nil)
            (fun s H fp => zpe_op op_add_str (zpv 0) (zpv 1))) (zpac_n (zpv 3) zpa_nil))))) zpss_never zpss_nil)
      (zpss_one (zps_if (zpt_not (zpt_val (zpe_call GI hr2 (by rfl) mI kI bI .nil passE0 (zpac_n (zpv 4) (zpac_c zpe_int (zpac_n (zpe_glob (by rfl) mM (v := .int 8) ⟨_, rfl⟩) zpa_nil)))))) zpss_never zpss_nil))))))), ?_⟩
    obtain ⟨S, F', Pp, xs, g1, g2, g3, g4, g5⟩ := hg.ex
    refine ⟨_, rfl, _, _, _, true, rfl, .of (.tup g1), .inl ⟨_, rfl, kt1⟩, _, rfl, iteF ?_⟩
    refine ⟨_, rfl, t, _, rfl, .inr (SqT.of g1), rfl, _, rfl, iteF ?_⟩
    refine ⟨_, rfl, t, _, rfl, SqT.of g1, rfl, _, _, rfl, _, _, rfl, _, _, rfl, _, _, rfl, rfl, ?_⟩
    refine ⟨_, rfl, S, xs, cs, rfl, g2, g3, hg.nd, hg.c2, hg.c6, ht1, ht2, fun H1 k1 a1 b1 => ⟨_, rfl, iteF ?_⟩⟩
    refine ⟨_, rfl, t, S, _, _, _, xs, cs, rfl, SqT.of (k1.tup g1), k1.lst g2, g3.kp k1, hg.c6, fun l H2 hl s2 hl2 => ?_⟩
    have k2 : Kp H H2 := k1.trans (Kp.same s2)
    refine ⟨_, rfl, _, rfl, l, F', sgs cs, fs, rfl, hl2, k2.lst g4, hg.fnd, hg.fsub, Nat.le_trans hg.flen (by decide), fun H3 s3 => ⟨_, rfl, iteF ?_⟩⟩
    have k3 := k2.trans (Kp.same s3)
    have hl3 := s3 _ _ hl2
    refine ⟨_, rfl, l, rfl, ⟨_, SqL.of hl3⟩, fun p hp => ?_⟩
    have kl : (sgs cs).length ≤ 6 := by unfold sgs; rw [List.length_map]; exact hg.c6
    refine ⟨fun i m σ2 H4 => i ≤ (sgs cs).length ∧ m = (sgs cs).length - i ∧ (∃ v1 v2, σ2 = [v1, v2, some (.ref l)]) ∧ H4 p = some (.lst (txs (((sgs cs).take i).flatMap fun a => (sgs cs).map fun b => a ++ b))) ∧ Same H3 H4,
      ⟨_, Nat.zero_le _, rfl, ⟨_, _, rfl⟩, upd_same, same_upd hp⟩, ?_⟩
    rintro i m σ2 H4 ⟨hi, rfl, ⟨v1, v2, rfl⟩, hp4, s4⟩
    have hl4 := s4 _ _ hl3
    have len : (txs (sgs cs)).length = (sgs cs).length := List.length_map ..
    by_cases hlt : i < (sgs cs).length
    · refine .inr ⟨⟨_, _, SqL.of hl4, List.getElem?_eq_getElem (show i < (txs (sgs cs)).length by rw [len]; exact hlt)⟩, ?_⟩
      rintro x H5 ⟨rfl, hx⟩
      obtain ⟨a, ha, rfl⟩ : ∃ a, (sgs cs)[i]? = some a ∧ x = .str a := by
        have hx := hx _ (SqL.of hl4)
        unfold txs at hx
        rw [List.getElem?_map] at hx
        obtain ⟨t, h1, h2⟩ := Option.map_eq_some_iff.mp hx
        exact ⟨t, h1, h2.symm⟩
      dsimp only [gName]
      rw [if_pos rfl]
      refine ⟨_, rfl, l, rfl, ⟨_, SqL.of hl4⟩, ?_⟩
      refine ⟨fun j m σ3 H6 => j ≤ (sgs cs).length ∧ m = (sgs cs).length - j ∧ (∃ v2, σ3 = [some (.str a), v2, some (.ref l)]) ∧ H6 p = some (.lst (txs (((sgs cs).take i).flatMap (fun a => (sgs cs).map fun b => a ++ b) ++ ((sgs cs).take j).map fun b => a ++ b))) ∧ Same H3 H6,
        ⟨_, Nat.zero_le _, rfl, ⟨_, rfl⟩, by simpa using hp4, s4⟩, ?_⟩
      rintro j m σ3 H6 ⟨hj, rfl, ⟨v2, rfl⟩, hp6, s6⟩
      have hl6 := s6 _ _ hl3
      by_cases hjt : j < (sgs cs).length
      · refine .inr ⟨⟨_, _, SqL.of hl6, List.getElem?_eq_getElem (show j < (txs (sgs cs)).length by rw [len]; exact hjt)⟩, ?_⟩
        rintro y H7 ⟨rfl, hy⟩
        obtain ⟨b, hb, rfl⟩ : ∃ b, (sgs cs)[j]? = some b ∧ y = .str b := by
          have hy := hy _ (SqL.of hl6)
          unfold txs at hy
          rw [List.getElem?_map] at hy
          obtain ⟨t, h1, h2⟩ := Option.map_eq_some_iff.mp hy
          exact ⟨t, h1, h2.symm⟩
        have one : ∀ z ∈ sgs cs, z.length = 1 := fun z hz => by
          obtain ⟨c, _, rfl⟩ := List.mem_map.mp hz
          rfl
        dsimp only [gName]
        rw [if_pos rfl]
        refine ⟨_, rfl, _, rfl, a, b, rfl, rfl, ?_, _, hp6, ?_, (sgs cs).length - (j + 1), by omega, hjt, rfl, ⟨_, rfl⟩, ?_, ?_⟩
        · rw [one a (List.mem_of_getElem? ha), one b (List.mem_of_getElem? hb)]; decide
        · unfold txs
          rw [List.length_map, List.length_append, flat_len _ _ (sgs cs).length (fun a => by rw [List.length_map]), List.length_map, List.length_take, List.length_take]
          have : min i (sgs cs).length * (sgs cs).length ≤ 6 * 6 := Nat.mul_le_mul (by omega) kl
          exact Nat.lt_of_le_of_lt (show _ ≤ 42 by omega) (by decide)
        · have : ((sgs cs).take i).flatMap (fun a => (sgs cs).map fun b => a ++ b) ++ ((sgs cs).take (j + 1)).map (fun b => a ++ b) = (((sgs cs).take i).flatMap (fun a => (sgs cs).map fun b => a ++ b) ++ ((sgs cs).take j).map fun b => a ++ b) ++ [a ++ b] := by
            rw [List.take_add_one, hb, List.map_append, List.append_assoc]; rfl
          rw [this]
          unfold txs
          rw [List.map_append (l₂ := [a ++ b])]
          exact upd_same
        · intro c o hc
          rw [upd_ne (ne_of_none hc hp)]; exact s6 c o hc
      · have e : j = (sgs cs).length := by omega
        subst e
        refine .inl ⟨⟨_, SqL.of hl6, by rw [len]; exact Nat.le_refl _⟩, (sgs cs).length - (i + 1), by omega, hlt, rfl, ⟨_, _, rfl⟩, ?_, s6⟩
        rw [prs_snoc ha]
        rw [List.take_length] at hp6
        exact hp6
    · have e : i = (sgs cs).length := by omega
      subst e
      refine .inl ⟨⟨_, SqL.of hl4, by rw [len]; exact Nat.le_refl _⟩, ?_⟩
      rw [List.take_length] at hp4
      have k4 := k3.trans (Kp.same s4)
      refine ⟨_, rfl, p, Pp, prs (sgs cs), ps, rfl, hp4, k4.lst g5, hg.pnd, hg.psub, Nat.le_trans hg.plen (by decide), fun H5 s5 => ⟨_, rfl, iteF ?_⟩⟩
      have k5 := k4.trans (Kp.same s5)
      refine ⟨_, rfl, .int lg, 1, 8, rfl, .int lg, _, rfl, ?_⟩
      have : inB (.int lg) 1 8 = true := by
        show (decide (1 ≤ lg) && decide (lg ≤ 8)) = true
        rw [decide_eq_true hg.l1, decide_eq_true hg.l8]; rfl
      rw [this]
      have sT : Same H1 H5 := ((s2.trans s3).trans s4).trans s5
      exact iteF (q H5 k5 (a1.same sT) (b1.same sT))
end
end G1
namespace L2
open PySem PySem.Spec PyProof.Rows
section
variable {X : Cx} {e tg iter : Expr} {ifs : List Expr} {scope esc : Scope} {pos : Pos} {N os : List Str} {fi : List Nat} {wi : TI} {g : TG} {tt : TT} {tb : Addr → TB} {body : Addr → Env → Sem Fi → Sem Fi} {o0 : Addr → HO} {mk : Sem Value} {p : Pos} {elt : Expr} {te : TE}
end
theorem call_len_seqK {X : Cx} (K : PySem.W.Frag) (h : X.K = K) : CallR X (.builtin "len") (fun xs H Q => ∃ p ys, xs = [.ref p] ∧ (SqL K H p ys ∨ SqT K H p ys) ∧ Q (.int ys.length) H) := h ▸ call_len_seq
def scopeE : PySem.Expr → Scope
  | .DictComp _ _ _ sc _ => sc
  | .ListComp _ _ sc _ => sc
  | _ => default
def scopeA : Stmt → Scope
  | .Return (some e) _ => scopeE e
  | .Assign _ e _ => scopeE e
  | _ => default
end L2
namespace G1
open PySem L2 GM
section
variable {P : Program} {w : World} {K : PySem.W.Frag} {mg : Str → Option Value} {base : Heap}
def spCell (K : PySem.W.Frag) : Sp := fun vs H Q _ => ∃ (a : Addr) (ns : List Int) (k : Int), vs = [.ref a, .int k] ∧ SqL K H a (ns.map V.int) ∧ 0 ≤ k ∧ ∀ z : Int, Q (.int z) H
theorem scCe : FnScope ["_law_script", "_law_k"] ["_law_script", "_law_k"] (defScope sCell) := ⟨rfl, rfl, rfl, by decide +kernel, rfl, by decide +kernel, by decide +kernel⟩
theorem ok_cell {f : Addr} {fd : FuncData} (F : FunG K "_law_cell" "_law_cell" sCell .none f fd) (B : Bl mg) : FnOk P w K mg base (CXE P w) 1 f fd ["_law_script", "_law_k"] (spCell K) := by
  refine F.zokN scCe (fun vs H Q E h => ?_) (fun cdv A outer s H vs Q E hr h => ?_)
  · obtain ⟨a, ns, k, rfl, _⟩ := h
    rfl
  · obtain ⟨a, ns, k, rfl, ha, k0, q⟩ := h
    refine ⟨_, zpss_cons (zps_if (zpt_cmpR op_lt (zpv 1) (zpe_callB call_len_seq (by rfl) B.len PySem.boot_len (zpac_n (zpv 0) zpa_nil)) (nomark _)) (zpss_one (zps_ret (zpe_ix ix_list (zpv 0) (zpv 1) (fun _ _ => rfl)))) zpss_nil)
      (zpss_one (zps_ret zpe_int)), ?_⟩
    refine ⟨_, rfl, _, rfl, a, _, rfl, .inl ha, _, _, rfl, rfl, _, rfl, ?_⟩
    refine ite2 (fun e => ?_) (fun _ => q 0)
    have lt := of_decide_eq_true e
    obtain ⟨n, rfl⟩ := Int.eq_ofNat_of_zero_le k0
    rw [List.length_map] at lt
    have hn : n < ns.length := by omega
    refine ⟨_, rfl, _, rfl, a, _, _, _, rfl, rfl, ha, atI_nat (v := .int ns[n]) (by simp [hn]), q _⟩
end
end G1
namespace G1
open PySem L2 GM
def Below (ds ss : List Int) : Prop := ds.length = ss.length ∧ ∀ (i : Nat) (d s : Int), ds[i]? = some d → ss[i]? = some s → 0 ≤ d ∧ d < s
section
variable {P : Program} {w : World} {K : PySem.W.Frag} {mg : Str → Option Value} {base : Heap}
def spDraws : Sp := fun vs H Q _ => ∃ (z k : Int) (S : Addr) (ss : List Int), vs = [.int z, .int k, .ref S] ∧ 0 ≤ k ∧ k ≤ 1000 ∧ H S = some (.lst (ss.map V.int)) ∧ ss.length ≤ 1000 ∧ (∀ s ∈ ss, 0 < s ∧ s.natAbs < big) ∧
  ∀ l ds H', Same H H' → H l = none → H' l = some (.lst (ds.map V.int)) → Below ds ss → Q (.ref l) H'
theorem scDr : FnScope ["_law_cell_here", "_law_k", "_law_sizes", "_law_number", "_law_great", "_law_mixed", "_law_found", "_law_turn", "_law_size"] ["_law_cell_here", "_law_k", "_law_sizes"] (defScope sDraws) := ⟨rfl, rfl, rfl, by decide +kernel, rfl, by decide +kernel, by decide +kernel⟩
theorem ok_draws {f : Addr} {fd : FuncData} (F : FunG K "_law_draws" "_law_draws" sDraws .none f fd) (B : Bl mg) : FnOk P w K mg base (CXE P w) 1 f fd ["_law_cell_here", "_law_k", "_law_sizes"] spDraws := by
  refine F.zokN scDr (fun vs H Q E h => ?_) (fun cdv A outer s H vs Q E hr h => ?_)
  · obtain ⟨z, k, S, ss, rfl, _⟩ := h
    rfl
  · obtain ⟨z, k, S, ss, rfl, k0, k1, hS, s1, spos, q⟩ := h
    refine ⟨_, (zpss_cons (zps_set (i := 3) scDr.nd rfl (Or.inl rfl) (zpe_callB call_abs (by rfl) B.abs boot_abs (zpac_n (zpv 0) zpa_nil)))
      (zpss_cons (zps_set (i := 4) scDr.nd rfl (Or.inl rfl) (zpe_cmpR op_ge (zpv 3) (zpe_op op_pow zpe_int zpe_int) (nomark _)))
      (zpss_cons (zps_set (i := 5) scDr.nd rfl (Or.inl rfl) (zpe_op op_mod (zpe_op op_mul (zpe_op op_add (zpe_op op_add (zpe_op op_mod (zpv 3) zpe_int) (zpe_op op_mul zpe_int (zpv 1))) zpe_int) zpe_int) zpe_int))
      (zpss_cons (zps_set (i := 6) scDr.nd rfl (Or.inl rfl) (zpe_lst zpa_nil))
      (zpss_cons (zps_for PassesOwn.never rfl (zpi_enum (by rfl) B.enum (zpac_n (zpv 2) zpa_nil)) (zpg_tup rfl (zpgs_cons (zpg_name (i := 7) scDr.nd rfl (Or.inl rfl)) (zpgs_cons (zpg_name (i := 8) scDr.nd rfl (Or.inl rfl)) zpgs_nil)))
          (zpss_one (zps_if (zpt_val (zpv 4)) (zpss_cons (zps_expr (zpe_bm PySem.F.plainAttrs_list PySem.F.slot_list_append PySem.F.type_list_append mt_append (zpv 6) (zpac_b (zpe_op op_mod (zpv 3) (zpv 8)) zpa_nil)))
      (zpss_one (zps_set (i := 3) scDr.nd rfl (Or.inl rfl) (zpe_op op_fdivP (zpv 3) (zpv 8))))) (zpss_cons (zps_set (i := 5) scDr.nd rfl (Or.inl rfl) (zpe_op op_mod (zpe_op op_add (zpe_op op_add (zpe_op op_mul (zpv 5) (zpv 5)) (zpe_op op_mul zpe_int (zpe_op op_add (zpv 1) (zpv 7)))) zpe_int) zpe_int))
      (zpss_one (zps_expr (zpe_bm PySem.F.plainAttrs_list PySem.F.slot_list_append PySem.F.type_list_append mt_append (zpv 6) (zpac_b (zpe_op op_mod (zpe_op op_fdiv (zpv 5) zpe_int) (zpv 8)) zpa_nil))))))))
      (zpss_one (zps_ret (zpv 6)))))))), ?_⟩
    have p1 : ∀ y : Int, (0 : Int) ≤ y % 2147483629 ∧ y % 2147483629 < 2147483629 := fun y => ⟨Int.emod_nonneg _ (by decide), Int.emod_lt_of_pos _ (by decide)⟩
    have p2 : ∀ y : Int, (0 : Int) ≤ y % 2147483587 ∧ y % 2147483587 < 2147483629 := fun y => ⟨Int.emod_nonneg _ (by decide), by have := Int.emod_lt_of_pos y (show (0 : Int) < 2147483587 by decide); omega⟩
    refine ⟨_, rfl, _, rfl, ?_⟩
    refine ⟨_, rfl, _, _, rfl, rfl, ⟨by decide, by decide, by decide⟩, _, _, rfl, rfl, ?_⟩
    refine ⟨_, rfl, _, _, rfl, rfl, (by show (0 : Int) < 1000000007; decide), _, rfl, _, _, rfl, rfl, .inl ⟨by decide, by decide⟩, _, _, rfl, rfl, _, _, rfl, rfl, _, _, rfl, rfl, .inr ⟨by decide, by decide⟩, _, _, rfl, rfl, (by show (0 : Int) < 2147483629; decide), ?_⟩
    refine ⟨Nat.zero_le _, ?_⟩
    (intro l gl; generalize hEq : upd _ l _ = H1; refine newC hEq gl ?_; clear hEq; intro S1 e1 o1)
    refine ⟨_, rfl, S, rfl, ⟨_, SqL.of (S1 _ _ hS)⟩, ?_⟩
    refine for_enum (K := K) (a := S) (xs := ss.map V.int) (fun i σ H' => (∃ g n m v7 v8, σ = [some (.int z), some (.int k), some (.ref S), some (.int n), some (.bl g), some (.int m), some (.ref l), v7, v8] ∧ 0 ≤ m ∧ m < 2147483629) ∧ Same H H' ∧ ∃ ds : List Int, H' l = some (.lst (ds.map V.int)) ∧ ds.length = i ∧ ∀ (j : Nat) (d s : Int), ds[j]? = some d → ss[j]? = some s → 0 ≤ d ∧ d < s)
      ⟨⟨_, _, _, _, _, rfl, (p1 _).1, (p1 _).2⟩, S1, [], e1, rfl, fun j d s h => by simp at h⟩ (fun i σ H' _ p => SqL.of (p.2.1 _ _ hS)) ?_ ?_
    · rintro i x t σ H2 hi ⟨⟨g, n, m, v7, v8, rfl, m0, m1⟩, S2, ds, hl, dl, db⟩ ht
      rw [List.getElem?_map] at hi
      obtain ⟨sz, hsz, rfl⟩ := Option.map_eq_some_iff.mp hi
      obtain ⟨sp, sb⟩ := spos sz (List.mem_of_getElem? hsz)
      have il := (List.getElem?_eq_some_iff.mp hsz).1
      have lt : l ≠ t := fun z => by rw [z, ht] at hl; cases hl
      have S3 : Same H (upd H2 t (.tup [.int i, .int sz])) := S2.trans (same_upd ht)
      have hl3 : upd H2 t (.tup [.int i, .int sz]) l = some (.lst (ds.map V.int)) := by rw [upd_ne lt]; exact hl
      have ht3 : upd H2 t (.tup [.int i, .int sz]) t = some (.tup [.int i, .int sz]) := upd_same
      generalize upd H2 t (.tup [.int i, .int sz]) = H3 at S3 hl3 ht3
      have put : ∀ d : Int, 0 ≤ d → d < sz → Same H (upd H3 l (.lst (ds.map V.int ++ [V.int d]))) ∧ ∃ ds' : List Int, upd H3 l (.lst (ds.map V.int ++ [V.int d])) l = some (.lst (ds'.map V.int)) ∧ ds'.length = i + 1 ∧ ∀ (j : Nat) (d s : Int), ds'[j]? = some d → ss[j]? = some s → 0 ≤ d ∧ d < s := fun d d0 d1 => by
        refine ⟨fun b o e => ?_, ds ++ [d], by rw [List.map_append]; exact upd_same, by rw [List.length_append, dl]; rfl, fun j e s hj hs => ?_⟩
        · rw [upd_ne (ne_of_none e gl)]; exact S3 _ _ e
        · by_cases jl : j < ds.length
          · rw [List.getElem?_append_left jl] at hj
            exact db j e s hj hs
          · have jlt := (List.getElem?_eq_some_iff.mp hj).1
            rw [List.length_append] at jlt
            have je : j = ds.length := by simp at jlt; omega
            subst je
            rw [List.getElem?_append_right (Nat.le_refl _)] at hj
            simp at hj
            subst hj
            rw [dl, hsz] at hs
            cases hs
            exact ⟨d0, d1⟩
      have md : ∀ y : Int, 0 ≤ y % sz ∧ y % sz < sz := fun y => ⟨Int.emod_nonneg _ (by omega), Int.emod_lt_of_pos _ sp⟩
      have ll : (ds.map V.int).length < sizeLine := by rw [List.length_map, dl]; exact Nat.lt_of_lt_of_le (show i < 1001 by omega) (by decide)
      refine ⟨t, _, rfl, SqT.of ht3, rfl, _, _, rfl, _, _, rfl, rfl, ?_⟩
      cases g with
      | true =>
        refine ⟨_, rfl, _, rfl, _, rfl, .inl ⟨rfl, _, SqL.of hl3⟩, _, rfl, _, rfl, _, _, rfl, rfl, sp, l, _, _, rfl, rfl, hl3, ll, ?_⟩
        obtain ⟨S4, ds', hl4, dl4, db4⟩ := put (n % sz) (md n).1 (md n).2
        exact ⟨_, rfl, _, rfl, _, _, rfl, rfl, ⟨sp, sb⟩, ⟨_, _, _, _, _, rfl, m0, m1⟩, S4, ds', hl4, dl4, db4⟩
      | false =>
        refine ⟨_, rfl, _, rfl, _, rfl, _, rfl, _, _, rfl, rfl, .inl ⟨by omega, by omega⟩, _, rfl, _, rfl, _, _, rfl, rfl, _, _, rfl, rfl, .inl ⟨by decide, by decide⟩, _, _, rfl, rfl, _, _, rfl, rfl, _, _, rfl, rfl, (by show (0 : Int) < 2147483587; decide), ?_⟩
        refine ⟨_, rfl, .inl ⟨rfl, _, SqL.of hl3⟩, _, rfl, _, _, rfl, rfl, ⟨by decide, by decide⟩, _, rfl, _, _, rfl, rfl, sp, l, _, _, rfl, rfl, hl3, ll, ?_⟩
        obtain ⟨S4, ds', hl4, dl4, db4⟩ := put _ (md _).1 (md _).2
        exact ⟨⟨_, _, _, _, _, rfl, (p2 _).1, (p2 _).2⟩, S4, ds', hl4, dl4, db4⟩
    · rintro σ H2 ⟨⟨g, n, m, v7, v8, rfl, _, _⟩, S2, ds, hl, dl, db⟩
      rw [List.length_map] at dl
      exact ⟨_, rfl, q l ds H2 S2 gl hl ⟨dl, db⟩⟩
end
end G1
namespace L2
open PySem PySem.Spec PyProof.Rows
end L2
namespace G1
open PySem L2 GM
def ltr (j : Nat) : Nat := letters.cps.toList.getD j 97
theorem ltr_occ : ∀ j : Fin 26, occ (ltr j.val) = true := by decide +kernel
theorem app_list (a b : Str) : (a ++ b).cps.toList = a.cps.toList ++ b.cps.toList := by
  show (a.cps ++ b.cps).toList = _
  simp
theorem ltr_at {j : Nat} (h : j < 26) : atI letters.cps.toList (j : Int) = some (ltr j) := by
  have l : letters.cps.toList.length = 26 := by decide +kernel
  refine atI_nat (v := ltr j) ?_
  unfold ltr
  rw [List.getD_eq_getElem?_getD, List.getElem?_eq_getElem (by omega)]; rfl
end G1
namespace L2
open PySem PySem.Spec PyProof.Rows
end L2
namespace L2
open PySem PySem.Spec PyProof.Rows
end L2
namespace G1
open PySem L2 GM
end G1
namespace L2
open PySem
theorem boot_min : bootBuiltins "min" = some (.builtin "min") := by decide +kernel
end L2
namespace G1
open PySem L2 GM
section
variable {P : Program} {w : World} {K : PySem.W.Frag} {mg : Str → Option Value} {base : Heap}
end
end G1
namespace G1
open PySem L2 GM
section
variable {P : Program} {w : World} {K : PySem.W.Frag} {mg : Str → Option Value} {base : Heap}
end
end G1
namespace L2
open PySem
end L2
namespace G1
open PySem L2 GM
theorem sgs_nodup {cs : List Nat} : (sgs cs).Nodup ↔ cs.Nodup := by
  unfold sgs
  constructor
  · intro h
    exact List.Pairwise.of_map _ (fun a b n e => n (by rw [e])) h
  · intro h
    exact List.Pairwise.map _ (fun a b n e => n (sg1_inj e)) h
section
variable {P : Program} {w : World} {K : PySem.W.Frag} {mg : Str → Option Value} {base : Heap}
end
end G1
namespace G1
open PySem L2 GM
section
variable {P : Program} {w : World} {K : PySem.W.Frag} {mg : Str → Option Value} {base : Heap}
end
section
variable {P : Program} {w : World} {K : PySem.W.Frag} {mg : Str → Option Value} {base : Heap}
end
end G1
namespace L2
open PySem
theorem call_isiK {X : Cx} (K : PySem.W.Frag) (h : X.K = K) : CallR X (.builtin "isinstance") (rIsi K) := h ▸ call_isi
theorem ix_listK {X : Cx} (K : PySem.W.Frag) (h : X.K = K) : IxR X (rIxL K) := h ▸ ix_list
end L2
namespace G1
open PySem L2 GM
theorem sqL_kp {K : PySem.W.Frag} {H H' : Hp} {a : Addr} {xs : List V} (h : SqL K H a xs) (k : Kp H H') : SqL K H' a xs := by
  rcases h with (h | ⟨o, h⟩) | h
  · exact .inl (.inl (k _ _ h nofun))
  · exact .inl (.inr ⟨o, k _ _ h nofun⟩)
  · exact .inr h
theorem sqL_same {K : PySem.W.Frag} {H H' : Hp} {a : Addr} {xs : List V} (h : SqL K H a xs) (s : Same H H') : SqL K H' a xs := sqL_kp h (Kp.same s)
end G1
namespace GM
open G1
end GM
namespace G1
open PySem L2 GM
theorem Below.at {ds ss : List Int} (b : Below ds ss) {i : Nat} {s : Int} (h : ss[i]? = some s) : ∃ d, ds[i]? = some d ∧ 0 ≤ d ∧ d < s := by
  have il := (List.getElem?_eq_some_iff.mp h).1
  have e : ds[i]? = some (ds[i]'(by rw [b.1]; exact il)) := List.getElem?_eq_getElem _
  exact ⟨_, e, b.2 _ _ _ e h⟩
theorem atInts {ds : List Int} {i : Nat} {d : Int} (h : ds[i]? = some d) {k : Int} (e : k = (i : Int)) : atI (ds.map V.int) k = some (V.int d) := by
  rw [e]
  exact atI_nat (by rw [List.getElem?_map, h]; rfl)
theorem txs_len (ts : List Str) : (txs ts).length = ts.length := by unfold txs; rw [List.length_map]
theorem txs_app (a b : List Str) : txs (a ++ b) = txs a ++ txs b := by unfold txs; rw [List.map_append]
theorem txs_at {a : List Str} {i : Nat} {t : Str} (h : a[i]? = some t) : (txs a)[i]? = some (.str t) := by unfold txs; rw [List.getElem?_map, h]; rfl
theorem Rows.snoc {H : Hp} {xs : List V} {cs : List Nat} {x : V} {c : Nat} (h : Rows H xs cs) (r : Row H x c) : Rows H (xs ++ [x]) (cs ++ [c]) := by
  refine ⟨by rw [List.length_append, List.length_append, h.len]; rfl, fun i y d e1 e2 => ?_⟩
  by_cases il : i < xs.length
  · rw [List.getElem?_append_left il] at e1
    rw [List.getElem?_append_left (by rw [← h.len]; exact il)] at e2
    exact h.row i y d e1 e2
  · rw [List.getElem?_append_right (by omega)] at e1
    rw [List.getElem?_append_right (by rw [← h.len]; omega), ← h.len] at e2
    have z : i - xs.length = 0 := by
      have := (List.getElem?_eq_some_iff.mp e1).1
      simp at this; omega
    rw [z] at e1 e2
    cases e1; cases e2; exact r
theorem at_sg {cs : List Nat} {i : Nat} {x : V} (hi : (txs (sgs cs))[i]? = some x) : ∃ c, cs[i]? = some c ∧ x = .str (sg1 c) := by
  unfold txs sgs at hi
  rw [List.getElem?_map, List.getElem?_map] at hi
  cases e : cs[i]? with
  | none => rw [e] at hi; cases hi
  | some c => rw [e] at hi; cases hi; exact ⟨c, rfl, rfl⟩
theorem at_ofV {xs : List V} {d : Int} (h0 : 0 ≤ d) (h1 : d < xs.length) : ∃ c ∈ xs, atI xs d = some c := by
  obtain ⟨n, rfl⟩ := Int.eq_ofNat_of_zero_le h0
  have hn : n < xs.length := by omega
  exact ⟨xs[n], List.getElem_mem hn, atI_nat (List.getElem?_eq_getElem hn)⟩
section
variable {P : Program} {w : World} {K : PySem.W.Frag} {mg : Str → Option Value} {base : Heap}
def spLow : Sp := fun vs H Q _ => ∃ a b : Int, vs = [.int a, .int b] ∧ 0 ≤ a ∧ 0 < b ∧ b.natAbs < big ∧ ∀ p c d, H p = none → FracOf a b c d → Q (.ref p) (upd H p (.tup [.int c, .int d]))
theorem scLo : FnScope ["_law_top", "_law_bottom", "_law_one", "_law_other"] ["_law_top", "_law_bottom"] (defScope sLow) := ⟨rfl, rfl, rfl, by decide +kernel, rfl, by decide +kernel, by decide +kernel⟩
theorem ok_low {f : Addr} {fd : FuncData} (F : FunG K "_law_low" "_law_low" sLow .none f fd) (B : Bl mg) : FnOk P w K mg base (CXE P w) 1 f fd ["_law_top", "_law_bottom"] spLow := by
  refine F.zokN scLo (fun vs H Q E h => ?_) (fun cdv A outer s H vs Q E hr h => ?_)
  · obtain ⟨a, b, rfl, _⟩ := h
    rfl
  · obtain ⟨a, b, rfl, a0, hb, hbb, q⟩ := h
    refine ⟨_, (zpss_cons (zps_par (i := 2) (j := 3) rfl scLo.nd rfl rfl (by decide) rfl rfl (zpac_f (zpe_callB call_abs (by rfl) B.abs boot_abs (zpac_n (zpv 0) zpa_nil)) (zpac_n (zpv 1) zpa_nil)) rfl)
      (zpss_cons (zps_while PassesOwn.never (zpt_cmpR op_gt (zpv 3) zpe_int (nomark _)) (zpss_one (zps_par (i := 2) (j := 3) rfl scLo.nd rfl rfl (by decide) rfl rfl (zpac_n (zpv 3) (zpac_b (zpe_op op_mod (zpv 2) (zpv 3)) zpa_nil)) rfl)))
      (zpss_one (zps_ret (zpe_tup (zpac_b (zpe_op op_fdivB (zpv 0) (zpv 2)) (zpac_b (zpe_op op_fdivB (zpv 1) (zpv 2)) zpa_nil))))))), ?_⟩
    refine ⟨_, rfl, a, rfl, _, rfl, _, _, rfl, ?_⟩
    refine while_by (fun σ H' => H' = H ∧ ∃ m n : Nat, σ = [some (.int a), some (.int b), some (.int m), some (.int n)] ∧ Nat.gcd m n = Nat.gcd a.natAbs b.natAbs) (fun σ _ => match σ with | [_, _, _, some (.int n)] => n.toNat | _ => 0)
      ⟨rfl, a.natAbs, b.natAbs, ?_, rfl⟩ ?_ ?_
    · rw [abs_nat, show ((b.natAbs : Nat) : Int) = b by omega]; rfl
    · rintro σ H' ⟨rfl, m, n, rfl, hg⟩
      refine ⟨_, rfl, _, _, rfl, rfl, _, rfl, ?_⟩
      refine ite2 (fun hn => ?_) (fun hn => ?_)
      · have hn' : (0 : Int) < n := of_decide_eq_true hn
        refine ⟨_, rfl, _, rfl, _, rfl, _, _, rfl, rfl, hn', _, _, rfl, ⟨rfl, n, m % n, ?_, ?_⟩, ?_⟩
        · show [some (V.int a), some (V.int b), some (V.int n), some (V.int ((m : Int) % n))] = _
          rw [← Int.natCast_emod]
        · rw [gcd_step]; exact hg
        · show ((m : Int) % n).toNat < (n : Int).toNat
          have := Int.emod_lt_of_pos (m : Int) hn'
          have := Int.emod_nonneg (m : Int) (show (n : Int) ≠ 0 by omega)
          omega
      · have hn' : ¬ (0 : Int) < n := fun z => hn (decide_eq_true z)
        have n0 : n = 0 := by omega
        rw [n0, Nat.gcd_zero_right] at hg
        have mg : (m : Int) = gd a b := by unfold gd; rw [hg]
        have nb : b ≠ 0 := by omega
        have gp := gd_pos (a := a) nb
        have gl := gd_le (a := a) nb
        obtain ⟨c, d, e1, e2, e3, e4, dp, gg, la, lb⟩ := parted (a := a) (b := b) (g := (m : Int)) nb (.inl mg) (by omega)
        have g0 : (m : Int) ≠ 0 := by omega
        have gb : (m : Int).natAbs < big := Nat.lt_of_le_of_lt (by omega) hbb
        refine ⟨_, rfl, _, rfl, _, _, rfl, rfl, ⟨g0, gb⟩, _, rfl, _, rfl, _, _, rfl, rfl, ⟨g0, gb⟩, by show 2 ≤ sizeLine; decide, fun p hp => ?_⟩
        show Q (V.ref p) (upd H' p (HO.tup [V.int (a.fdiv m), V.int (b.fdiv m)]))
        rw [e1, e2]
        exact q p c d hp ⟨⟨m, g0, e3, e4⟩, dp, gg, la, lb⟩
    · rintro σ H' Q1 Q2 h ⟨v, e, i, j, e1, e2, x, e3, z⟩
      exact ⟨v, e, i, j, e1, e2, x, e3, h _ _ z⟩
theorem prA_of {H : Hp} {p : Addr} {a b c d : Int} (h : H p = some (.tup [.int c, .int d])) (a0 : 0 < a) (a1 : a ≤ 1000000000) (b1 : b ≤ 1000000000) (b0 : 0 < b) (f : FracOf a b c d) : PrA H (.ref p) := by
  have c1 := f.top
  have d1 := f.bot
  have d2 := f.pos
  obtain ⟨g, g0, ga, gb⟩ := f.g
  have gp : 0 < g := by
    rcases Int.lt_or_le 0 g with z | z
    · exact z
    · have : g < 0 := by omega
      have := Int.mul_neg_of_neg_of_pos this d2
      omega
  have cp : 0 < c := by
    rcases Int.lt_or_le 0 c with z | z
    · exact z
    · have := Int.mul_nonpos_of_nonneg_of_nonpos (Int.le_of_lt gp) z
      omega
  exact ⟨p, c, d, rfl, h, cp, d2, f.low, by omega, by omega⟩
def lts (sh st i : Nat) : Nat := ltr ((sh + st * i) % 26)
theorem cop6 : ∀ (st : Fin 6) (i j : Fin 8), (([1, 3, 5, 7, 9, 11].getD st.val 1) * i.val) % 26 = (([1, 3, 5, 7, 9, 11].getD st.val 1) * j.val) % 26 → i = j := by decide +kernel
theorem ltr_injN : ∀ i j : Fin 26, ltr i.val = ltr j.val → i = j := by decide +kernel
theorem lts_nd {sh st n : Nat} (hs : ∃ k : Nat, k < 6 ∧ st = [1, 3, 5, 7, 9, 11].getD k 1) (hn : n ≤ 8) : ((List.range n).map (lts sh st)).Nodup := by
  obtain ⟨k, hk, rfl⟩ := hs
  refine List.Pairwise.map _ (R := fun i j => i < 8 ∧ j < 8 ∧ i ≠ j) (fun i j h e => ?_) ?_
  · obtain ⟨h1, h2, h3⟩ := h
    have e : ltr ((sh + [1, 3, 5, 7, 9, 11].getD k 1 * i) % 26) = ltr ((sh + [1, 3, 5, 7, 9, 11].getD k 1 * j) % 26) := e
    have e2 := ltr_injN ⟨_, Nat.mod_lt _ (by decide)⟩ ⟨_, Nat.mod_lt _ (by decide)⟩ e
    have e3 : (sh + [1, 3, 5, 7, 9, 11].getD k 1 * i) % 26 = (sh + [1, 3, 5, 7, 9, 11].getD k 1 * j) % 26 := congrArg Fin.val e2
    have e4 : ([1, 3, 5, 7, 9, 11].getD k 1 * i) % 26 = ([1, 3, 5, 7, 9, 11].getD k 1 * j) % 26 := by omega
    have := cop6 ⟨k, hk⟩ ⟨i, h1⟩ ⟨j, h2⟩ e4
    exact h3 (by injection this)
  · rw [List.pairwise_iff_getElem]
    intro i j hi hj hij
    rw [List.getElem_range, List.getElem_range]
    rw [List.length_range] at hi hj
    exact ⟨by omega, by omega, by omega⟩
theorem lts_occ {sh st i : Nat} : occ (lts sh st i) = true := ltr_occ ⟨_, Nat.mod_lt _ (by decide)⟩
theorem pick6 {j : Nat} (h : j < 6) : ∃ m : Nat, atI [V.int 1, V.int 3, V.int 5, V.int 7, V.int 9, V.int 11] (j : Int) = some (.int m) ∧ (∃ k : Nat, k < 6 ∧ m = [1, 3, 5, 7, 9, 11].getD k 1) ∧ m ≤ 25 := by
  rcases (show j = 0 ∨ j = 1 ∨ j = 2 ∨ j = 3 ∨ j = 4 ∨ j = 5 by omega) with rfl | rfl | rfl | rfl | rfl | rfl
  · exact ⟨1, rfl, ⟨0, by decide, rfl⟩, by decide⟩
  · exact ⟨3, rfl, ⟨1, by decide, rfl⟩, by decide⟩
  · exact ⟨5, rfl, ⟨2, by decide, rfl⟩, by decide⟩
  · exact ⟨7, rfl, ⟨3, by decide, rfl⟩, by decide⟩
  · exact ⟨9, rfl, ⟨4, by decide, rfl⟩, by decide⟩
  · exact ⟨11, rfl, ⟨5, by decide, rfl⟩, by decide⟩
def spLetters (K : PySem.W.Frag) : Sp := fun vs H Q _ => ∃ (R : Addr) (xs : List V) (sh j n : Nat), vs = [.ref R, .int n] ∧ SqL K H R xs ∧ atI xs 2 = some (.int sh) ∧ atI xs 3 = some (.int j) ∧ sh ≤ 100 ∧ j < 6 ∧ n ≤ 8 ∧ ∀ l cs H', H l = none → Same H H' → H' l = some (.lst (txs (sgs cs))) → cs.length = n → cs.Nodup → (∀ c ∈ cs, occ c = true) → Q (.ref l) H'
theorem scLt : FnScope ["_law_row", "_law_many", "_law_step"] ["_law_row", "_law_many"] (defScope sLetters) := ⟨rfl, rfl, rfl, by decide +kernel, rfl, by decide +kernel, by decide +kernel⟩
theorem ok_letters {f : Addr} {fd : FuncData} (F : FunG K "_law_letters" "_law_letters" sLetters .none f fd) (B : Bl mg) : FnOk P w K mg base (CXE P w) 1 f fd ["_law_row", "_law_many"] (spLetters K) := by
  refine F.zokN scLt (fun vs H Q E h => ?_) (fun cdv A outer s H vs Q E hr h => ?_)
  · obtain ⟨R, xs, sh, j, n, rfl, _⟩ := h
    rfl
  · obtain ⟨R, xs, sh, j, n, rfl, hR, h2, h3, s1, j6, n8, q⟩ := h
    refine ⟨_, (zpss_cons (zps_set (i := 2) scLt.nd rfl (Or.inr rfl) (zpe_ix ix_list (zpe_lst (zpac_c zpe_int (zpac_c zpe_int (zpac_c zpe_int (zpac_c zpe_int (zpac_c zpe_int (zpac_c zpe_int zpa_nil))))))) (zpe_ix ix_list (zpv 0) zpe_int (fun _ _ => rfl)) (fun _ _ => rfl)))
      (zpss_one (zps_ret (zpe_compL ["_law_row", "_law_many", "_law_step"] ["_law_k"] [0, 2] (defScope sLetters) rfl rfl rfl ⟨by decide +kernel, by decide +kernel, by decide +kernel, by decide +kernel, by decide +kernel⟩ (zpi_range1 (by rfl) B.range (zpac_n (zpv 1) zpa_nil)) (fun s H fp => (zpg_name (i := 0) (show List.Nodup [("_law_k" : Str), "_law_row", "_law_step"] by decide +kernel) rfl (Or.inl rfl))) (fun s H fp => zpts_nil) (fun s H fp => (zpe_ix ix_str zpe_str (zpe_op op_mod (zpe_op op_add (zpe_ix (ix_listK K rfl) (zpv 1) zpe_int (fun _ _ => rfl)) (zpe_op op_mul (zpv 2) (zpv 0))) zpe_int) (fun _ _ => rfl))))))), ?_⟩
    refine ⟨by show 6 ≤ sizeLine; decide, ?_⟩
    (intro M gM; generalize hEq : upd _ M _ = H1; refine newC hEq gM ?_; clear hEq; intro S1 eM oM)
    obtain ⟨mm, em, hm, m25⟩ := pick6 j6
    have sq1 : SqL K H1 R xs := sqL_same hR S1
    refine ⟨_, rfl, R, _, _, _, rfl, rfl, sq1, h3, M, _, _, _, rfl, rfl, SqL.of eM, em, ?_⟩
    refine ⟨_, rfl, _, rfl, by omega, by omega, ?_⟩
    (intro D gD; generalize hEq : upd _ D _ = H2; refine newC hEq gD ?_; clear hEq; intro S2 eD oD)
    rw [Int.toNat_natCast]
    refine lr_range (lo := 0) (n := n) (fun i σ H' => (∃ v, σ = [v, some (.ref R), some (.int mm)]) ∧ Same H1 H' ∧ H' D = some (.lst (txs (sgs ((List.range i).map (lts sh mm)))))) ⟨⟨_, rfl⟩, S2, eD⟩ ?_ ?_
    · rintro u σ H' C hu ⟨⟨v, rfl⟩, k, hD⟩ nx
      have mod_ : ((sh : Int) + (mm : Int) * ((0 : Int) + (u : Int))) % 26 = (((sh + mm * u) % 26 : Nat) : Int) := by
        rw [Int.zero_add]
        show ((sh : Int) + (mm : Int) * (u : Int)) % ((26 : Nat) : Int) = _
        rw [← Int.natCast_mul, ← Int.natCast_add, ← Int.natCast_emod]
      refine ⟨_, rfl, R, _, _, _, rfl, rfl, sqL_same sq1 k, h2, _, rfl, _, rfl, _, _, rfl, rfl, .inl ⟨by omega, by omega⟩, _, _, rfl, rfl, _, _, rfl, rfl, (by show (0 : Int) < 26; decide), letters, _, _, rfl, rfl, by decide, by rw [mod_]; exact ltr_at (Nat.mod_lt _ (by decide)), _, hD, ?_, nx _ _ ⟨⟨_, rfl⟩, fun c o e => ?_, ?_⟩⟩
      · rw [txs_len]
        unfold sgs
        rw [List.length_map, List.length_map, List.length_range]
        exact Nat.lt_of_le_of_lt (show u ≤ 8 by omega) (by decide)
      · rw [upd_ne (ne_of_none e gD)]; exact k _ _ e
      · rw [List.range_succ, List.map_append]
        unfold sgs
        rw [List.map_append, txs_app]; exact upd_same
    rintro σ5 H6 ⟨_, k6, hD6⟩
    have gD0 : H D = none := by
      cases e : H D with
      | none => rfl
      | some o => rw [S1 _ _ e] at gD; cases gD
    refine q D _ H6 gD0 (S1.trans k6) hD6 (by rw [List.length_map, List.length_range]) (lts_nd hm n8) fun c hc => ?_
    obtain ⟨i, _, rfl⟩ := List.mem_map.mp hc
    exact lts_occ
def spSign : Sp := fun vs H Q _ => ∃ (z : Int) (k : Int) (c : Nat) (b : Bool), vs = [.int z, .int k, .str (sg1 c), .bl b] ∧ 0 ≤ k ∧ k ≤ 100 ∧ occ c = true ∧ ∀ t H', Same H H' → Row H' (.ref t) c → Q (.ref t) H'
theorem scSg : FnScope ["_law_cell_here", "_law_k", "_law_letter", "_law_dear", "_law_one", "_law_price", "_law_other"] ["_law_cell_here", "_law_k", "_law_letter", "_law_dear"] (defScope sSign) := ⟨rfl, rfl, rfl, by decide +kernel, rfl, by decide +kernel, by decide +kernel⟩
theorem ok_sign {f fD fL : Addr} {fd fdD fdL : FuncData} (F : FunG K "_law_sign" "_law_sign" sSign .none f fd) (B : Bl mg)
    (GD : FnOk P w K mg base (CXE P w) 1 fD fdD ["_law_cell_here", "_law_k", "_law_sizes"] spDraws) (mD : mg "_law_draws" = some (.ref fD)) (kD : PySem.W.keepIn K (.ref fD) = true) (bD : Binds K fdD ["_law_cell_here", "_law_k", "_law_sizes"] [])
    (GL : FnOk P w K mg base (CXE P w) 1 fL fdL ["_law_top", "_law_bottom"] spLow) (mL : mg "_law_low" = some (.ref fL)) (kL : PySem.W.keepIn K (.ref fL) = true) (bL : Binds K fdL ["_law_top", "_law_bottom"] []) : FnOk P w K mg base (CXE P w) 2 f fd ["_law_cell_here", "_law_k", "_law_letter", "_law_dear"] spSign := by
  refine F.zokN scSg (fun vs H Q E h => ?_) (fun cdv A outer s H vs Q E hr h => ?_)
  · obtain ⟨z, k, c, b, rfl, _⟩ := h
    rfl
  · obtain ⟨z, k, c, b, rfl, k0, k1, oc, q⟩ := h
    refine ⟨_, (zpss_cons (zps_set (i := 4) scSg.nd rfl (Or.inl rfl) (zpe_call GD hr (by rfl) mD kD bD .nil passE0 (zpac_n (zpv 0) (zpac_b (zpe_op op_add zpe_int (zpv 1)) (zpac_l (zpe_lst (zpac_c zpe_int (zpac_c zpe_int (zpac_c zpe_int (zpac_c zpe_int (zpac_c zpe_int (zpac_c zpe_int (zpac_c zpe_int zpa_nil)))))))) zpa_nil)))))
      (zpss_cons (zps_set (i := 5) scSg.nd rfl (Or.inl rfl) (zpe_call GL hr (by rfl) mL kL bL .nil passE0 (zpac_b (zpe_op op_add zpe_int (zpe_ix ix_list (zpv 4) zpe_int (fun _ _ => rfl))) (zpac_b (zpe_op op_add zpe_int (zpe_ix ix_list (zpv 4) zpe_int (fun _ _ => rfl))) zpa_nil))))
      (zpss_cons (zps_cut (zps_if (zpt_val (zpv 3)) (zpss_one (zps_set (i := 5) scSg.nd rfl (Or.inl rfl) (zpe_call GL hr (by rfl) mL kL bL .nil passE0 (zpac_b (zpe_op op_add zpe_int (zpe_ix ix_list (zpv 4) zpe_int (fun _ _ => rfl))) (zpac_b (zpe_op op_add zpe_int (zpe_ix ix_list (zpv 4) zpe_int (fun _ _ => rfl))) zpa_nil))))) zpss_nil))
      (zpss_cons (zps_set (i := 6) scSg.nd rfl (Or.inl rfl) (zpe_call GL hr (by rfl) mL kL bL .nil passE0 (zpac_b (zpe_op op_add zpe_int (zpe_ix ix_list (zpv 4) zpe_int (fun _ _ => rfl))) (zpac_b (zpe_op op_add zpe_int (zpe_ix ix_list (zpv 4) zpe_int (fun _ _ => rfl))) zpa_nil))))
      (zpss_one (zps_ret (zpe_tup (zpac_n (zpv 2) (zpac_n (zpv 5) (zpac_s (zpe_ix ix_list (zpe_lst (zpac_n (zpv 5) (zpac_c zpe_non (zpac_n (zpv 6) (zpac_t (zpe_tup (zpac_b (zpe_op op_add zpe_int (zpe_ix ix_list (zpv 4) zpe_int (fun _ _ => rfl))) (zpac_c zpe_int zpa_nil))) (zpac_n (zpv 5) (zpac_n (zpv 5) zpa_nil))))))) (zpe_ix ix_list (zpv 4) zpe_int (fun _ _ => rfl)) (fun _ _ => rfl)) zpa_nil)))))))))), ?_⟩
    have lb : ∀ {m : Int}, 0 < m → m ≤ 1000000000 → m.natAbs < big := fun h0 h1 => small_big h0 h1
    refine ⟨_, rfl, _, rfl, _, _, rfl, rfl, by show 7 ≤ sizeLine; decide, ?_⟩
    (intro r0 g0; generalize hEq : upd _ r0 _ = H1; refine newC hEq g0 ?_; clear hEq; intro S1 e1 o1)
    refine ⟨z, 1 + k, r0, [5, 3, 6, 7, 4, 999999999, 999999999], rfl, by omega, by omega, e1, by decide, fun s hs => ?_, fun R ds H2 S2 gR eR bl => ?_⟩
    · simp only [List.mem_cons, List.not_mem_nil, or_false] at hs
      rcases hs with rfl | rfl | rfl | rfl | rfl | rfl | rfl <;> exact ⟨by decide, by decide +kernel⟩
    obtain ⟨d0, h0, a0, b0⟩ := bl.at (i := 0) (s := 5) rfl
    obtain ⟨d1, h1, a1, b1⟩ := bl.at (i := 1) (s := 3) rfl
    obtain ⟨d2, h2, a2, b2⟩ := bl.at (i := 2) (s := 6) rfl
    obtain ⟨d3, h3, a3, b3⟩ := bl.at (i := 3) (s := 7) rfl
    obtain ⟨d4, h4, a4, b4⟩ := bl.at (i := 4) (s := 4) rfl
    obtain ⟨d5, h5, a5, b5⟩ := bl.at (i := 5) (s := 999999999) rfl
    obtain ⟨d6, h6, a6, b6⟩ := bl.at (i := 6) (s := 999999999) rfl
    have sq : ∀ {H' : Hp}, Same H2 H' → SqL K H' R (ds.map V.int) := fun s => SqL.of (s _ _ eR)
    refine ⟨_, rfl, R, _, _, _, rfl, rfl, sq (Same.refl _), atInts h0 rfl, _, _, rfl, rfl, _, rfl, R, _, _, _, rfl, rfl, sq (Same.refl _), atInts h1 rfl, _, _, rfl, rfl, 1 + d0, 1 + d1, rfl, by omega, by omega, lb (by omega) (by omega), fun p1 c1 f1 gp1 fr1 => ?_⟩
    have S3 := same_upd (o := .tup [V.int c1, V.int f1]) gp1
    have P1 : PrA (upd H2 p1 (.tup [V.int c1, V.int f1])) (.ref p1) := prA_of upd_same (by omega) (by omega) (by omega) (by omega) fr1
    generalize upd H2 p1 (.tup [V.int c1, V.int f1]) = H3 at S3 P1
    refine ⟨fun σ H' => ∃ x, σ = [some (.int z), some (.int k), some (.str (sg1 c)), some (.bl b), some (.ref R), some x, none] ∧ Same H3 H' ∧ PrA H' x, ?_, ?_⟩
    · refine ⟨_, rfl, b, rfl, ite2 (fun _ => ?_) (fun _ => ⟨_, rfl, Same.refl _, P1⟩)⟩
      refine ⟨_, rfl, R, _, _, _, rfl, rfl, sq S3, atInts h5 rfl, _, _, rfl, rfl, _, rfl, R, _, _, _, rfl, rfl, sq S3, atInts h6 rfl, _, _, rfl, rfl, 1 + d5, 1 + d6, rfl, by omega, by omega, lb (by omega) (by omega), fun p2 c2 f2 gp2 fr2 => ?_⟩
      exact ⟨_, rfl, same_upd gp2, prA_of upd_same (by omega) (by omega) (by omega) (by omega) fr2⟩
    rintro σ H4 ⟨x, rfl, S34, px⟩
    have S24 := S3.trans S34
    refine ⟨_, rfl, R, _, _, _, rfl, rfl, sq S24, atInts h3 rfl, _, _, rfl, rfl, _, rfl, R, _, _, _, rfl, rfl, sq S24, atInts h4 rfl, _, _, rfl, rfl, 1 + d3, 1 + d4, rfl, by omega, by omega, lb (by omega) (by omega), fun p2 c2 f2 gp2 fr2 => ?_⟩
    have S45 := same_upd (o := .tup [V.int c2, V.int f2]) gp2
    have P2 : PrA (upd H4 p2 (.tup [V.int c2, V.int f2])) (.ref p2) := prA_of upd_same (by omega) (by omega) (by omega) (by omega) fr2
    generalize upd H4 p2 (.tup [V.int c2, V.int f2]) = H5 at S45 P2
    have S25 := S24.trans S45
    refine ⟨_, rfl, _, rfl, _, rfl, _, rfl, _, rfl, R, _, _, _, rfl, rfl, sq S25, atInts h3 rfl, _, _, rfl, rfl, by show 2 ≤ sizeLine; decide, ?_⟩
    (intro p3 gp3; generalize hEq : upd _ p3 _ = H6; refine newC hEq gp3 ?_; clear hEq; intro S56 e6 o6)
    refine ⟨_, rfl, _, rfl, by show 6 ≤ sizeLine; decide, ?_⟩
    (intro M gM; generalize hEq : upd _ M _ = H7; refine newC hEq gM ?_; clear hEq; intro S67 e7 o7)
    have S57 := S56.trans S67
    obtain ⟨y, my, ey⟩ := at_ofV a2 (show d2 < ([x, V.non, V.ref p2, V.ref p3, x, x] : List V).length from b2)
    have px7 : PrA H7 x := (px.kp (Kp.same S45)).kp (Kp.same S57)
    have hy : y = .non ∨ PrA H7 y := by
      simp only [List.mem_cons, List.not_mem_nil, or_false] at my
      rcases my with rfl | rfl | rfl | rfl | rfl | rfl
      · exact .inr px7
      · exact .inl rfl
      · exact .inr (P2.kp (Kp.same S57))
      · refine .inr ⟨p3, 9 + d3, 1, rfl, S67 _ _ e6, by omega, by decide, Nat.gcd_one_right _, by omega, by decide⟩
      · exact .inr px7
      · exact .inr px7
    refine ⟨_, rfl, R, _, _, _, rfl, rfl, sq (S25.trans S57), atInts h2 rfl, M, _, _, _, rfl, rfl, SqL.of e7, ey, by show 3 ≤ sizeLine; decide, ?_⟩
    (intro t gt; generalize hEq : upd _ t _ = H8; refine newC hEq gt ?_; clear hEq; intro S78 e8 o8)
    exact q t H8 (((S1.trans S2).trans S25).trans (S57.trans S78)) ⟨⟨t, x, y, rfl, e8, px7.kp (Kp.same S78), hy.imp id fun z => z.kp (Kp.same S78)⟩, oc⟩
end
end G1
namespace G1
open PySem L2 GM
def TupK (H H' : Hp) : Prop := ∀ b xs, H b = some (.tup xs) → H' b = some (.tup xs)
theorem TupK.set {H : Hp} {a : Addr} {xs ys : List V} (h : H a = some (.lst xs)) : TupK H (upd H a (.lst ys)) := fun b zs e => by
  rw [upd_ne (fun z => by rw [z, h] at e; cases e)]; exact e
theorem PrA.tk {H H' : Hp} {x : V} (h : PrA H x) (k : TupK H H') : PrA H' x := by
  obtain ⟨a, n, d, e, ha, r⟩ := h.ex
  exact ⟨a, n, d, e, k _ _ ha, r⟩
theorem Row.tk {H H' : Hp} {x : V} {c : Nat} (h : Row H x c) (k : TupK H H') : Row H' x c := by
  obtain ⟨a, p, l, e, ha, hp, hl⟩ := h.ex
  exact ⟨⟨a, p, l, e, k _ _ ha, hp.tk k, hl.imp id fun z => z.tk k⟩, h.oc⟩
theorem Rows.tk {H H' : Hp} {xs : List V} {cs : List Nat} (h : Rows H xs cs) (k : TupK H H') : Rows H' xs cs := ⟨h.len, fun i x c e1 e2 => (h.row i x c e1 e2).tk k⟩
theorem rep_ints (n : Nat) (x : Int) : (List.replicate n [V.int x]).flatten = (List.replicate n x).map V.int := by
  induction n with
  | zero => rfl
  | succ n ih => rw [List.replicate_succ, List.flatten_cons, ih, List.replicate_succ]; rfl
def bsz (m : Nat) : List Int := [3] ++ List.replicate m 6 ++ [2]
theorem bsz_len (m : Nat) : (bsz m).length = m + 2 := by unfold bsz; simp
theorem bsz_pos {m : Nat} : ∀ s ∈ bsz m, 0 < s ∧ s.natAbs < big := fun s h => by
  unfold bsz at h
  have : s = 3 ∨ s = 6 ∨ s = 2 := by
    rcases List.mem_append.mp h with h | h
    · rcases List.mem_append.mp h with h | h
      · exact .inl (List.mem_singleton.mp h)
      · exact .inr (.inl (List.mem_replicate.mp h).2)
    · exact .inr (.inr (List.mem_singleton.mp h))
  rcases this with rfl | rfl | rfl <;> exact ⟨by decide, by decide +kernel⟩
theorem bsz_at {m i : Nat} (h : i < m) : (bsz m)[1 + i]? = some 6 := by
  unfold bsz
  rw [List.getElem?_append_left (by simp; omega), List.getElem?_append_right (by simp)]
  simp [h]
theorem bsz_last {m : Nat} : (bsz m)[m + 1]? = some 2 := by
  unfold bsz
  rw [List.getElem?_append_right (by simp)]
  simp
theorem sg2_inj {a b c d : Nat} (h : sg1 a ++ sg1 b = sg1 c ++ sg1 d) : a = c ∧ b = d := by
  have h' := congrArg (fun z : Str => z.cps.toList) h
  simp only [app_list] at h'
  have h' : [a, b] = [c, d] := h'
  exact ⟨by injection h', by injection h' with _ h'; injection h'⟩
theorem rev_at {xs : List V} {n : Nat} {v : V} (l : xs.length = n + 1) (h : xs[n]? = some v) : atI xs (-1) = some v := by
  unfold atI
  rw [show ixN xs.length (-1) = some n by unfold ixN; rw [l]; simp; omega]
  exact h
section
variable {P : Program} {w : World} {K : PySem.W.Frag} {mg : Str → Option Value} {base : Heap}
def spTongueD (K : PySem.W.Frag) : Sp := fun vs H Q _ => ∃ (a : Addr) (ns : List Int) (m k : Int), vs = [.ref a, .int m, .int k] ∧ SqL K H a (ns.map V.int) ∧ 2 ≤ m ∧ m ≤ 6 ∧ 1 ≤ k ∧ k ≤ 8 ∧ ∀ t cs fs ps lg H', Same H H' → Tg H' t cs fs ps lg → (cs.length : Int) ≤ m → lg ≤ k → Q (.ref t) H'
theorem scTo : FnScope ["_law_script", "_law_most", "_law_longest", "_law_row", "_law_many", "_law_letters_here", "_law_signs", "_law_k", "_law_letter", "_law_bans", "_law_firsts", "_law_pairs"] ["_law_script", "_law_most", "_law_longest"] (defScope sTongue) := ⟨rfl, rfl, rfl, by decide +kernel, rfl, by decide +kernel, by decide +kernel⟩
theorem ok_tongue {f fC fD fL fS : Addr} {fd fdC fdD fdL fdS : FuncData} (F : FunG K "_law_tongue" "_law_tongue" sTongue .none f fd) (B : Bl mg)
    (GC : FnOk P w K mg base (CXE P w) 1 fC fdC ["_law_script", "_law_k"] (spCell K)) (mC : mg "_law_cell" = some (.ref fC)) (kC : PySem.W.keepIn K (.ref fC) = true) (bC : Binds K fdC ["_law_script", "_law_k"] [])
    (GD : FnOk P w K mg base (CXE P w) 1 fD fdD ["_law_cell_here", "_law_k", "_law_sizes"] spDraws) (mD : mg "_law_draws" = some (.ref fD)) (kD : PySem.W.keepIn K (.ref fD) = true) (bD : Binds K fdD ["_law_cell_here", "_law_k", "_law_sizes"] [])
    (GL : FnOk P w K mg base (CXE P w) 1 fL fdL ["_law_row", "_law_many"] (spLetters K)) (mL : mg "_law_letters" = some (.ref fL)) (kL : PySem.W.keepIn K (.ref fL) = true) (bL : Binds K fdL ["_law_row", "_law_many"] [])
    (GS : FnOk P w K mg base (CXE P w) 2 fS fdS ["_law_cell_here", "_law_k", "_law_letter", "_law_dear"] spSign) (mS : mg "_law_sign" = some (.ref fS)) (kS : PySem.W.keepIn K (.ref fS) = true) (bS : Binds K fdS ["_law_cell_here", "_law_k", "_law_letter", "_law_dear"] []) : FnOk P w K mg base (CXE P w) 3 f fd ["_law_script", "_law_most", "_law_longest"] (spTongueD K) := by
  refine F.zokN scTo (fun vs H Q E h => ?_) (fun cdv A outer s H vs Q E hr h => ?_)
  · obtain ⟨a, ns, m, k, rfl, _⟩ := h
    rfl
  · obtain ⟨a, ns, m, k, rfl, ha, m2, m6, k1, k8, q⟩ := h
    refine ⟨_, (zpss_cons (zps_set (i := 3) scTo.nd rfl (Or.inl rfl) (zpe_call GD (hr.mono (by decide)) (by rfl) mD kD bD .nil passE0 (zpac_f (zpe_call GC (hr.mono (by decide)) (by rfl) mC kC bC .nil passE0 (zpac_n (zpv 0) (zpac_c zpe_int zpa_nil))) (zpac_c zpe_int (zpac_l (zpe_lst (zpac_b (zpe_op op_sub (zpv 1) zpe_int) (zpac_n (zpv 2) (zpac_c zpe_int (zpac_c zpe_int (zpac_c zpe_int zpa_nil)))))) zpa_nil)))))
      (zpss_cons (zps_set (i := 4) scTo.nd rfl (Or.inl rfl) (zpe_op op_add zpe_int (zpe_ix ix_list (zpv 3) zpe_int (fun _ _ => rfl))))
      (zpss_cons (zps_set (i := 5) scTo.nd rfl (Or.inl rfl) (zpe_call GL (hr.mono (by decide)) (by rfl) mL kL bL .nil passE0 (zpac_n (zpv 3) (zpac_n (zpv 4) zpa_nil))))
      (zpss_cons (zps_set (i := 6) scTo.nd rfl (Or.inl rfl) (zpe_lst zpa_nil))
      (zpss_cons (zps_for PassesOwn.never rfl (zpi_enum (by rfl) B.enum (zpac_n (zpv 5) zpa_nil)) (zpg_tup rfl (zpgs_cons (zpg_name (i := 7) scTo.nd rfl (Or.inl rfl)) (zpgs_cons (zpg_name (i := 8) scTo.nd rfl (Or.inl rfl)) zpgs_nil)))
          (zpss_one (zps_expr (zpe_bm PySem.F.plainAttrs_list PySem.F.slot_list_append PySem.F.type_list_append mt_append (zpv 6) (zpac_f (zpe_call GS hr (by rfl) mS kS bS .nil passE0 (zpac_f (zpe_call GC (hr.mono (by decide)) (by rfl) mC kC bC .nil passE0 (zpac_n (zpv 0) (zpac_b (zpe_op op_add zpe_int (zpv 7)) zpa_nil))) (zpac_n (zpv 7) (zpac_n (zpv 8) (zpac_x (zpe_cmpR op_eq (zpe_ix ix_list (zpv 3) zpe_int (fun _ _ => rfl)) zpe_int (nomark _)) zpa_nil))))) zpa_nil)))))
      (zpss_cons (zps_set (i := 9) scTo.nd rfl (Or.inr rfl) (zpe_call GD (hr.mono (by decide)) (by rfl) mD kD bD .nil passE0 (zpac_f (zpe_call GC (hr.mono (by decide)) (by rfl) mC kC bC .nil passE0 (zpac_n (zpv 0) (zpac_c zpe_int zpa_nil))) (zpac_c zpe_int (zpac_b (zpe_op op_cat (zpe_op op_cat (zpe_lst (zpac_c zpe_int zpa_nil)) (zpe_op op_rep (zpe_lst (zpac_c zpe_int zpa_nil)) (zpe_op op_add (zpv 4) (zpe_op op_mul (zpv 4) (zpv 4))))) (zpe_lst (zpac_c zpe_int zpa_nil))) zpa_nil)))))
      (zpss_cons (zps_if (zpt_cmpR op_eq (zpe_ix ix_list (zpv 9) zpe_int (fun _ _ => rfl)) zpe_int (nomark _)) (zpss_one (zps_ret (zpe_tup (zpac_n (zpv 6) (zpac_l (zpe_lst zpa_nil) (zpac_l (zpe_lst zpa_nil) (zpac_b (zpe_op op_add zpe_int (zpe_ix ix_list (zpv 3) zpe_int (fun _ _ => rfl))) zpa_nil))))))) zpss_nil)
      (zpss_cons (zps_compL (i := 10) ["_law_script", "_law_most", "_law_longest", "_law_row", "_law_many", "_law_letters_here", "_law_signs", "_law_k", "_law_letter", "_law_bans", "_law_firsts", "_law_pairs"] ["_law_k", "_law_letter"] [9] (defScope sTongue) rfl rfl rfl ⟨by decide +kernel, by decide +kernel, by decide +kernel, by decide +kernel, by decide +kernel⟩ scTo.nd rfl (Or.inl rfl) (zpi_enum (by rfl) B.enum (zpac_n (zpv 5) zpa_nil)) (fun s H fp => (zpg_tupK K 2 rfl rfl (zpgs_cons (zpg_name (i := 0) (show List.Nodup [("_law_k" : Str), "_law_letter", "_law_bans"] by decide +kernel) rfl (Or.inl rfl)) (zpgs_cons (zpg_name (i := 1) (show List.Nodup [("_law_k" : Str), "_law_letter", "_law_bans"] by decide +kernel) rfl (Or.inl rfl)) zpgs_nil)))) (fun s H fp => (zpts_one (zpt_cmpR op_eq (zpe_ix (ix_listK K rfl) (zpv 2) (zpe_op op_add zpe_int (zpv 0)) (fun _ _ => rfl)) zpe_int (nomark _)))) (fun s H fp => (zpv 1)))
      (zpss_cons (zps_set (i := 11) scTo.nd rfl (Or.inl rfl) (zpe_lst zpa_nil))
      (zpss_cons (zps_for PassesOwn.never rfl (zpi_range1 (by rfl) B.range (zpac_b (zpe_op op_mul (zpv 4) (zpv 4)) zpa_nil)) (zpg_name (i := 7) scTo.nd rfl (Or.inl rfl))
          (zpss_one (zps_if (zpt_cmpR op_eq (zpe_ix ix_list (zpv 9) (zpe_op op_add (zpe_op op_add zpe_int (zpv 4)) (zpv 7)) (fun _ _ => rfl)) zpe_int (nomark _)) (zpss_one (zps_expr (zpe_bm PySem.F.plainAttrs_list PySem.F.slot_list_append PySem.F.type_list_append mt_append (zpv 11) (zpac_b (zpe_op op_add_str (zpe_ix ix_list (zpv 5) (zpe_op op_fdiv (zpv 7) (zpv 4)) (fun _ _ => rfl)) (zpe_ix ix_list (zpv 5) (zpe_op op_mod (zpv 7) (zpv 4)) (fun _ _ => rfl))) zpa_nil)))) zpss_nil)))
      (zpss_cons (zps_if (zpt_cmpR op_eq (zpe_ix ix_list (zpv 9) (zpe_un un_neg zpe_int) (fun _ _ => rfl)) zpe_int (nomark _)) (zpss_one (zps_ret (zpe_tup (zpac_n (zpv 6) (zpac_s (zpe_rev (zpv 10)) (zpac_s (zpe_rev (zpv 11)) (zpac_b (zpe_op op_add zpe_int (zpe_ix ix_list (zpv 3) zpe_int (fun _ _ => rfl))) zpa_nil))))))) zpss_nil)
      (zpss_one (zps_ret (zpe_tup (zpac_n (zpv 6) (zpac_n (zpv 10) (zpac_n (zpv 11) (zpac_b (zpe_op op_add zpe_int (zpe_ix ix_list (zpv 3) zpe_int (fun _ _ => rfl))) zpa_nil)))))))))))))))))), ?_⟩
    have sb : ∀ {z : Int}, 0 < z → z ≤ 1000 → 0 < z ∧ z.natAbs < big := fun h0 h1 => ⟨h0, small_big h0 (by omega)⟩
    have sz : ∀ {n : Nat}, n ≤ 100 → n ≤ sizeLine := fun h => Nat.le_trans h (by decide)
    have sl : ∀ {n : Nat}, n < 100 → n < sizeLine := fun h => Nat.lt_of_lt_of_le h (sz (Nat.le_refl _))
    refine ⟨_, rfl, a, ns, 0, rfl, ha, by decide, fun z => ?_⟩
    refine ⟨_, rfl, _, _, rfl, rfl, _, rfl, sz (show 5 ≤ 100 by decide), ?_⟩
    (intro r0 g0; generalize hEq : upd _ r0 _ = H1; refine newC hEq g0 ?_; clear hEq; intro S1 e1 o1)
    refine ⟨z, 0, r0, [m - 1, k, 26, 6, 4], rfl, by decide, by decide, e1, by show 5 ≤ 1000; decide, fun s hs => ?_, fun R ds H2 S2 gR eR bl => ?_⟩
    · simp only [List.mem_cons, List.not_mem_nil, or_false] at hs
      rcases hs with rfl | rfl | rfl | rfl | rfl
      · exact sb (by omega) (by omega)
      · exact sb (by omega) (by omega)
      · exact sb (by decide) (by decide)
      · exact sb (by decide) (by decide)
      · exact sb (by decide) (by decide)
    obtain ⟨d0, h0, a0, b0⟩ := bl.at (i := 0) (s := m - 1) rfl
    obtain ⟨d1, h1, a1, b1⟩ := bl.at (i := 1) (s := k) rfl
    obtain ⟨d2, h2, a2, b2⟩ := bl.at (i := 2) (s := 26) rfl
    obtain ⟨d3, h3, a3, b3⟩ := bl.at (i := 3) (s := 6) rfl
    obtain ⟨d4, h4, a4, b4⟩ := bl.at (i := 4) (s := 4) rfl
    obtain ⟨sh, rfl⟩ := Int.eq_ofNat_of_zero_le a2
    obtain ⟨j, rfl⟩ := Int.eq_ofNat_of_zero_le a3
    obtain ⟨e0, rfl⟩ := Int.eq_ofNat_of_zero_le a0
    obtain ⟨n, hn⟩ : ∃ n : Nat, n = 2 + e0 := ⟨_, rfl⟩
    have ni : V.int (2 + (e0 : Int)) = V.int (n : Int) := by rw [hn]; rfl
    have sqR : ∀ {H' : Hp}, Same H2 H' → SqL K H' R (ds.map V.int) := fun s => SqL.of (s _ _ eR)
    refine ⟨_, rfl, R, _, _, _, rfl, rfl, sqR (Same.refl _), atInts h0 rfl, _, _, rfl, rfl, ?_⟩
    have n2 : 2 ≤ n := by omega
    have n6 : n ≤ 6 := by omega
    refine ⟨_, rfl, _, rfl, R, _, sh, j, n, by rw [← ni]; rfl, sqR (Same.refl _), atInts h2 rfl, atInts h3 rfl, by omega, by omega, by omega, fun D cs H3 gD S3 hD cl nd coc => ?_⟩
    refine ⟨Nat.zero_le _, ?_⟩
    (intro S gS; generalize hEq : upd _ S _ = H4; refine newC hEq gS ?_; clear hEq; intro S4 eS oS)
    have S24 := S3.trans S4
    have S04 : Same H H4 := (S1.trans S2).trans S24
    have hD4 := S4 _ _ hD
    refine ⟨_, rfl, D, rfl, ⟨_, SqL.of hD4⟩, ?_⟩
    have tl : (txs (sgs cs)).length = n := by rw [txs_len]; unfold sgs; rw [List.length_map, cl]
    refine for_enum (K := K) (a := D) (xs := txs (sgs cs)) (fun i σ H' => (∃ v7 v8, σ = [some (.ref a), some (.int m), some (.int k), some (.ref R), some (.int (2 + (e0 : Int))), some (.ref D), some (.ref S), v7, v8, none, none, none]) ∧ Same H3 H' ∧ ∃ xs, H' S = some (.lst xs) ∧ Rows H' xs (cs.take i)) ⟨⟨_, _, rfl⟩, S4, [], eS, ⟨rfl, fun i x c e => by simp at e⟩⟩ (fun i σ H' _ p => SqL.of (p.2.1 _ _ hD)) ?_ ?_
    · rintro i x t σ H5 hi ⟨⟨v7, v8, rfl⟩, S35, xs, hS5, rows⟩ gt
      obtain ⟨c, hc, rfl⟩ := at_sg hi
      have il := (List.getElem?_eq_some_iff.mp hc).1
      have S56 := same_upd (o := .tup [.int i, .str (sg1 c)]) gt
      have et : upd H5 t (.tup [.int i, .str (sg1 c)]) t = some (.tup [.int i, .str (sg1 c)]) := upd_same
      generalize upd H5 t (.tup [.int i, .str (sg1 c)]) = H6 at S56 et
      have S36 := S35.trans S56
      have hS6 := S56 _ _ hS5
      refine ⟨t, _, rfl, SqT.of et, rfl, _, _, rfl, _, _, rfl, rfl, ?_⟩
      refine ⟨_, rfl, .inl ⟨rfl, _, SqL.of hS6⟩, _, rfl, _, rfl, _, _, rfl, rfl, a, ns, 1 + (i : Int), rfl, sqL_same ha (((S1.trans S2).trans S3).trans S36), by omega, fun zz => ?_⟩
      refine ⟨_, rfl, _, rfl, _, rfl, R, _, _, _, rfl, rfl, sqR (S3.trans S36), atInts h4 rfl, rfl, ?_⟩
      refine ⟨zz, (i : Int), c, _, rfl, by omega, by omega, coc c (List.mem_of_getElem? hc), fun u H7 S67 row => ?_⟩
      have hS7 := S67 _ _ hS6
      refine ⟨S, xs, _, rfl, rfl, hS7, ?_, ⟨_, _, rfl⟩, fun b o e => ?_, xs ++ [.ref u], upd_same, ?_⟩
      · rw [rows.len, List.length_take]; exact sl (show min i cs.length < 100 by omega)
      · rw [upd_ne (ne_of_none e gS)]; exact S67 _ _ (S36 _ _ e)
      · rw [List.take_add_one, hc]
        exact (((rows.kp (Kp.same S56)).kp (Kp.same S67)).snoc row).tk (TupK.set hS7)
    rintro σ5 H5 ⟨⟨v7, v8, rfl⟩, S35, xs, hS5, rows⟩
    rw [tl, show cs.take n = cs by rw [← cl, List.take_length]] at rows
    have S25 := S3.trans S35
    have S05 : Same H H5 := (S1.trans S2).trans S25
    have hD5 := S35 _ _ hD
    have en : (2 : Int) + (e0 : Int) = (n : Int) := by rw [hn]; rfl
    obtain ⟨M, hM⟩ : ∃ M : Nat, M = n + n * n := ⟨_, rfl⟩
    have nn : n * n ≤ 36 := Nat.mul_le_mul n6 n6
    have eM2 : (2 + (e0 : Int)) * (2 + (e0 : Int)) = ((n * n : Nat) : Int) := by rw [en]; push_cast; rfl
    have eM : (2 + (e0 : Int)) + (2 + (e0 : Int)) * (2 + (e0 : Int)) = ((M : Nat) : Int) := by rw [eM2, en, hM]; push_cast; rfl
    have s1 : 1 ≤ sizeLine := by decide
    refine ⟨_, rfl, a, ns, 7, rfl, sqL_same ha S05, by decide, fun z7 => ?_⟩
    refine ⟨s1, ?_⟩
    (intro l1 gl1; generalize hEq : upd _ l1 _ = H6; refine newC hEq gl1 ?_; clear hEq; intro S6 el1 ol1)
    refine ⟨s1, ?_⟩
    (intro l2 gl2; generalize hEq : upd _ l2 _ = H7; refine newC hEq gl2 ?_; clear hEq; intro S7 el2 ol2)
    refine ⟨_, rfl, _, rfl, _, rfl, _, _, rfl, rfl, .inl ⟨by omega, by omega⟩, _, _, rfl, rfl, ?_⟩
    refine ⟨l2, _, [V.int 6], rfl, rfl, el2, by rw [eM]; omega, by rw [eM]; omega, by rw [eM]; exact sz (show 1 * ((M : Int)).toNat ≤ 100 by omega), ?_⟩
    (intro l3 gl3; generalize hEq : upd _ l3 _ = H8; refine newC hEq gl3 ?_; clear hEq; intro S8 el3 ol3)
    rw [eM, Int.toNat_natCast, rep_ints] at el3
    refine ⟨l1, l3, _, _, rfl, rfl, S8 _ _ (S7 _ _ el1), el3, sz (show 1 + _ ≤ 100 by rw [List.length_map, List.length_replicate]; omega), ?_⟩
    (intro l4 gl4; generalize hEq : upd _ l4 _ = H9; refine newC hEq gl4 ?_; clear hEq; intro S9 el4 ol4)
    refine ⟨s1, ?_⟩
    (intro l5 gl5; generalize hEq : upd _ l5 _ = H10; refine newC hEq gl5 ?_; clear hEq; intro S10 el5 ol5)
    refine ⟨l4, l5, _, _, rfl, rfl, S10 _ _ el4, el5, sz (show _ + 1 ≤ 100 by rw [List.length_append, List.length_map, List.length_replicate]; show 1 + M + 1 ≤ 100; omega), ?_⟩
    (intro l6 gl6; generalize hEq : upd _ l6 _ = H11; refine newC hEq gl6 ?_; clear hEq; intro S11 el6 ol6)
    have eb : [V.int 3] ++ (List.replicate M (6 : Int)).map V.int ++ [V.int 2] = (bsz M).map V.int := by
      unfold bsz
      rw [List.map_append, List.map_append]; rfl
    rw [eb] at el6
    refine ⟨z7, 7, l6, bsz M, rfl, by decide, by decide, el6, by rw [bsz_len]; omega, bsz_pos, fun BR bs H12 S12 gB eB blB => ?_⟩
    have S5C : Same H5 H12 := (((((S6.trans S7).trans S8).trans S9).trans S10).trans S11).trans S12
    have S0C := S05.trans S5C
    have S2C := S25.trans S5C
    have hSC := S5C _ _ hS5
    have hDC := S5C _ _ hD5
    have rowsC := rows.kp (Kp.same S5C)
    have sqB : ∀ {H' : Hp}, Same H12 H' → SqL K H' BR (bs.map V.int) := fun s => SqL.of (s _ _ eB)
    obtain ⟨b0, hb0, _, _⟩ := blB.at (i := 0) (s := 3) rfl
    have fin : ∀ (t F G : Addr) (fs ps : List Str) (H' : Hp), Same H12 H' → H' t = some (.tup [.ref S, .ref F, .ref G, .int (1 + d1)]) → H' F = some (.lst (txs fs)) → H' G = some (.lst (txs ps)) → fs.Nodup → (∀ f ∈ fs, f ∈ sgs cs) → ps.Nodup → (∀ x ∈ ps, x ∈ prs (sgs cs)) → Q (.ref t) H' := fun t F G fs ps H' s ht hF hG fnd fsub pnd psub =>
      q t cs fs ps (1 + d1) H' (S0C.trans s) ⟨⟨S, F, G, xs, ht, s _ _ hSC, rowsC.kp (Kp.same s), hF, hG⟩, nd, by omega, by omega, fnd, fsub, pnd, psub, by omega, by omega⟩ (by omega) (by omega)
    refine ⟨_, rfl, BR, _, _, _, rfl, rfl, sqB (Same.refl _), atInts hb0 rfl, rfl, _, rfl, ?_⟩
    refine ite2 (fun _ => ?_) (fun _ => ?_)
    · refine ⟨_, rfl, Nat.zero_le _, ?_⟩
      (intro F gF; generalize hEq : upd _ F _ = H13; refine newC hEq gF ?_; clear hEq; intro S13 eF oF)
      refine ⟨Nat.zero_le _, ?_⟩
      (intro G gG; generalize hEq : upd _ G _ = H14; refine newC hEq gG ?_; clear hEq; intro S14 eG oG)
      refine ⟨_, rfl, R, _, _, _, rfl, rfl, sqR ((S2C.trans S13).trans S14), atInts h1 rfl, _, _, rfl, rfl, by show 4 ≤ sizeLine; decide, ?_⟩
      (intro t gt; generalize hEq : upd _ t _ = H15; refine newC hEq gt ?_; clear hEq; intro S15 et ot)
      exact fin t F G [] [] H15 ((S13.trans S14).trans S15) et (S15 _ _ (S14 _ _ eF)) (S15 _ _ eG) List.nodup_nil nofun List.nodup_nil nofun
    refine ⟨_, rfl, D, rfl, ⟨_, SqL.of hDC⟩, ?_⟩
    (intro F gF; generalize hEq : upd _ F _ = H13; refine newC hEq gF ?_; clear hEq; intro S13 eF oF)
    refine lr_enum (K := K) (S := D) (xs := txs (sgs cs)) (fun i σ H' => (∃ v v', σ = [v, v', some (.ref BR)]) ∧ Same H12 H' ∧ ∃ fs, H' F = some (.lst (txs fs)) ∧ fs.Sublist (sgs (cs.take i))) ⟨⟨_, _, rfl⟩, S13, [], eF, List.nil_sublist _⟩ (fun i σ H' p => SqL.of (p.2.1 _ _ hDC)) ?_ ?_
    · rintro i x t σ H' C hi ⟨⟨v, v', rfl⟩, k2, fs, hF, sub⟩ gt nx
      obtain ⟨c, hc, rfl⟩ := at_sg hi
      have il := (List.getElem?_eq_some_iff.mp hc).1
      have S2' := same_upd (o := .tup [.int i, .str (sg1 c)]) gt
      have et : upd H' t (.tup [.int i, .str (sg1 c)]) t = some (.tup [.int i, .str (sg1 c)]) := upd_same
      generalize upd H' t (.tup [.int i, .str (sg1 c)]) = H'' at S2' et
      have k3 := k2.trans S2'
      have hF2 := S2' _ _ hF
      obtain ⟨bi, hbi, _, _⟩ := blB.at (bsz_at (m := M) (i := i) (by omega))
      have snoc : sgs (cs.take (i + 1)) = sgs (cs.take i) ++ [sg1 c] := by
        rw [List.take_add_one, hc]; unfold sgs; rw [List.map_append]; rfl
      refine ⟨t, _, rfl, SqT.of et, rfl, _, _, rfl, _, _, rfl, rfl, ?_⟩
      refine ⟨_, rfl, _, rfl, _, _, rfl, rfl, BR, _, _, _, rfl, rfl, sqB k3, atInts hbi (by push_cast; rfl), rfl, _, rfl, ?_⟩
      refine ite2 (fun _ => ⟨_, rfl, _, hF2, ?_, nx _ _ ⟨⟨_, _, rfl⟩, fun b o e => ?_, fs ++ [sg1 c], ?_, ?_⟩⟩) (fun _ => nx _ _ ⟨⟨_, _, rfl⟩, k3, fs, hF2, ?_⟩)
      · rw [txs_len]
        have := sub.length_le
        unfold sgs at this
        rw [List.length_map, List.length_take] at this
        exact sl (show fs.length < 100 by omega)
      · rw [upd_ne (ne_of_none e gF)]; exact k3 _ _ e
      · rw [txs_app]; exact upd_same
      · rw [snoc]; exact List.Sublist.append sub (List.Sublist.refl _)
      · rw [snoc]; exact sub.trans (List.sublist_append_left _ _)
    rintro σ9 H14 ⟨_, S14, fs, hF14, sub⟩
    rw [tl, show cs.take n = cs by rw [← cl, List.take_length]] at sub
    have sn : (sgs cs).Nodup := sgs_nodup.mpr nd
    have fnd : fs.Nodup := sub.nodup sn
    have fsub : ∀ f ∈ fs, f ∈ sgs cs := fun f hf => sub.subset hf
    refine ⟨Nat.zero_le _, ?_⟩
    (intro G gG; generalize hEq : upd _ G _ = H15; refine newC hEq gG ?_; clear hEq; intro S15 eG oG)
    have hDF := S15 _ _ (S14 _ _ hDC)
    refine ⟨_, rfl, _, rfl, _, _, rfl, rfl, .inl ⟨by omega, by omega⟩, _, rfl, by rw [eM2]; omega, by rw [eM2]; omega, ?_⟩
    obtain ⟨pr, hpr⟩ : ∃ pr : Nat → Str, ∀ i, i < n * n → ∃ c1 c2, cs[i / n]? = some c1 ∧ cs[i % n]? = some c2 ∧ pr i = sg1 c1 ++ sg1 c2 := by
      refine ⟨fun i => sg1 (cs.getD (i / n) 0) ++ sg1 (cs.getD (i % n) 0), fun i hi => ?_⟩
      have l1 : i / n < cs.length := by rw [cl]; exact Nat.div_lt_of_lt_mul hi
      have l2 : i % n < cs.length := by rw [cl]; exact Nat.mod_lt _ (by omega)
      refine ⟨cs[i / n], cs[i % n], List.getElem?_eq_getElem l1, List.getElem?_eq_getElem l2, ?_⟩
      show sg1 (cs.getD (i / n) 0) ++ sg1 (cs.getD (i % n) 0) = _
      rw [List.getD_eq_getElem?_getD, List.getD_eq_getElem?_getD, List.getElem?_eq_getElem l1, List.getElem?_eq_getElem l2]; rfl
    have prinj : ∀ i j, i < n * n → j < n * n → pr i = pr j → i = j := fun i j hi hj e => by
      obtain ⟨a1, a2, x1, x2, x3⟩ := hpr i hi
      obtain ⟨c1, c2, y1, y2, y3⟩ := hpr j hj
      rw [x3, y3] at e
      obtain ⟨z1, z2⟩ := sg2_inj e
      subst z1 z2
      have q1 := (List.getElem?_inj (by rw [cl]; exact Nat.div_lt_of_lt_mul hi) nd).mp (x1.trans y1.symm)
      have q2 := (List.getElem?_inj (by rw [cl]; exact Nat.mod_lt _ (by omega)) nd).mp (x2.trans y2.symm)
      rw [← Nat.div_add_mod i n, ← Nat.div_add_mod j n, q1, q2]
    have prin : ∀ i, i < n * n → pr i ∈ prs (sgs cs) := fun i hi => by
      obtain ⟨a1, a2, x1, x2, x3⟩ := hpr i hi
      rw [x3]
      unfold prs sgs
      exact List.mem_flatMap.mpr ⟨_, List.mem_map.mpr ⟨a1, List.mem_of_getElem? x1, rfl⟩, List.mem_map.mpr ⟨_, List.mem_map.mpr ⟨a2, List.mem_of_getElem? x2, rfl⟩, rfl⟩⟩
    have nN : ((2 + (e0 : Int)) * (2 + (e0 : Int))).toNat = n * n := by rw [eM2, Int.toNat_natCast]
    refine for_range (lo := 0) (n := ((2 + (e0 : Int)) * (2 + (e0 : Int))).toNat) (fun i σ H' => (∃ v7, σ = [some (.ref a), some (.int m), some (.int k), some (.ref R), some (.int (2 + (e0 : Int))), some (.ref D), some (.ref S), v7, v8, some (.ref BR), some (.ref F), some (.ref G)]) ∧ Same H14 H' ∧ ∃ ps, H' G = some (.lst (txs ps)) ∧ ps.Nodup ∧ (∀ x ∈ ps, ∃ i', i' < i ∧ x = pr i') ∧ ps.length ≤ i)
      ⟨⟨_, rfl⟩, S15, [], eG, List.nodup_nil, nofun, Nat.le_refl _⟩ ?_ ?_
    · rw [nN]
      rintro i σ H' hi ⟨⟨v7, rfl⟩, k2, ps, hG, pnd, psub, pl⟩
      rw [show (0 : Int) + (i : Int) = (i : Int) from Int.zero_add _]
      have k12 := S14.trans k2
      have hD' := k2 _ _ (S14 _ _ hDC)
      obtain ⟨bi, hbi, _, _⟩ := blB.at (bsz_at (m := M) (i := n + i) (by omega))
      refine ⟨_, rfl, _, rfl, _, _, rfl, rfl, _, rfl, _, _, rfl, rfl, BR, _, _, _, rfl, rfl, sqB k12, atInts hbi (by push_cast; omega), rfl, _, rfl, ?_⟩
      refine ite2 (fun _ => ?_) (fun _ => ⟨⟨_, rfl⟩, k2, ps, hG, pnd, (fun x hx => by obtain ⟨i', h1, h2⟩ := psub x hx; exact ⟨i', by omega, h2⟩), by omega⟩)
      obtain ⟨c1, c2, x1, x2, x3⟩ := hpr i hi
      have at1 : atI (txs (sgs cs)) ((i : Int) / (2 + (e0 : Int))) = some (.str (sg1 c1)) := by
        rw [en, ← Int.natCast_ediv]
        exact atI_nat (txs_at (by unfold sgs; rw [List.getElem?_map, x1]; rfl))
      have at2 : atI (txs (sgs cs)) ((i : Int) % (2 + (e0 : Int))) = some (.str (sg1 c2)) := by
        rw [en, ← Int.natCast_emod]
        exact atI_nat (txs_at (by unfold sgs; rw [List.getElem?_map, x2]; rfl))
      refine ⟨_, rfl, .inl ⟨rfl, _, SqL.of hG⟩, _, rfl, _, rfl, _, rfl, _, _, rfl, rfl, (by first | omega | exact ⟨by omega, by omega⟩), D, _, _, _, rfl, rfl, SqL.of hD', at1, _, rfl, _, rfl, _, rfl, _, _, rfl, rfl, (by show (0 : Int) < 2 + (e0 : Int); omega), D, _, _, _, rfl, rfl, SqL.of hD', at2, _, _, rfl, rfl, by show 1 + 1 ≤ sizeLine; decide, G, _, _, rfl, rfl, hG, ?_, ⟨_, rfl⟩, fun b o e => ?_, ps ++ [pr i], ?_, ?_, fun x hx => ?_, by rw [List.length_append]; simp; omega⟩
      · rw [txs_len]; exact sl (show ps.length < 100 by omega)
      · rw [upd_ne (ne_of_none e gG)]; exact k2 _ _ e
      · rw [x3, txs_app]; exact upd_same
      · refine List.nodup_append.mpr ⟨pnd, by simp, fun x hx y hy e => ?_⟩
        rw [List.mem_singleton.mp hy] at e
        obtain ⟨i', h1, h2⟩ := psub x hx
        have := prinj i' i (by omega) hi (h2 ▸ e)
        omega
      · rcases List.mem_append.mp hx with hx | hx
        · obtain ⟨i', h1, h2⟩ := psub x hx
          exact ⟨i', by omega, h2⟩
        · exact ⟨i, by omega, List.mem_singleton.mp hx⟩
    rintro σ H16 ⟨⟨v7, rfl⟩, S16, ps, hG16, pnd, psub, pl⟩
    rw [nN] at psub
    have pin : ∀ x ∈ ps, x ∈ prs (sgs cs) := fun x hx => by
      obtain ⟨i', h1, h2⟩ := psub x hx
      rw [h2]; exact prin i' h1
    have S12F := S14.trans S16
    have hF16 := S16 _ _ hF14
    obtain ⟨bl', hbl, _, _⟩ := blB.at (bsz_last (m := M))
    have bl2 : (bs.map V.int).length = M + 1 + 1 := by rw [List.length_map, blB.1, bsz_len]
    refine ⟨_, rfl, _, rfl, BR, _, _, _, rfl, rfl, sqB S12F, rev_at bl2 (by rw [List.getElem?_map, hbl]; rfl), rfl, _, rfl, ?_⟩
    refine ite2 (fun _ => ?_) (fun _ => ?_)
    · refine ⟨_, rfl, _, rfl, F, _, rfl, SqL.of hF16, ?_⟩
      (intro F2 gF2; generalize hEq : upd _ F2 _ = H17; refine newC hEq gF2 ?_; clear hEq; intro S17 eF2 oF2)
      refine ⟨_, rfl, G, _, rfl, SqL.of (S17 _ _ hG16), ?_⟩
      (intro G2 gG2; generalize hEq : upd _ G2 _ = H18; refine newC hEq gG2 ?_; clear hEq; intro S18 eG2 oG2)
      rw [show (txs fs).reverse = txs fs.reverse by unfold txs; rw [List.map_reverse]] at eF2
      rw [show (txs ps).reverse = txs ps.reverse by unfold txs; rw [List.map_reverse]] at eG2
      refine ⟨_, rfl, R, _, _, _, rfl, rfl, sqR (S2C.trans ((S12F.trans S17).trans S18)), atInts h1 rfl, _, _, rfl, rfl, by show 4 ≤ sizeLine; decide, ?_⟩
      (intro t gt; generalize hEq : upd _ t _ = H19; refine newC hEq gt ?_; clear hEq; intro S19 et ot)
      exact fin t F2 G2 _ _ H19 (((S12F.trans S17).trans S18).trans S19) et (S19 _ _ (S18 _ _ eF2)) (S19 _ _ eG2) ((List.reverse_perm fs).nodup_iff.mpr fnd) (fun f hf => fsub f (List.mem_reverse.mp hf)) ((List.reverse_perm ps).nodup_iff.mpr pnd) (fun f hf => pin f (List.mem_reverse.mp hf))
    · refine ⟨_, rfl, _, rfl, _, rfl, _, rfl, R, _, _, _, rfl, rfl, sqR (S2C.trans S12F), atInts h1 rfl, _, _, rfl, rfl, by show 4 ≤ sizeLine; decide, ?_⟩
      (intro t gt; generalize hEq : upd _ t _ = H19; refine newC hEq gt ?_; clear hEq; intro S19 et ot)
      exact fin t F G _ _ H19 (S12F.trans S19) et (S19 _ _ hF16) (S19 _ _ hG16) fnd fsub pnd pin
end
end G1
namespace G1
open PySem L2 GM
theorem all_true (n : Nat) : (List.range n).all (fun _ => true) = true := by simp
theorem eqt_lst {K : PySem.W.Frag} {H : Hp} {n : Nat} {a c : Addr} {xs ys : List V} (ha : SqL K H a xs) (hc : SqL K H c ys) (l : xs.length = ys.length) (h : ∀ (j : Nat) (x y : V), xs[j]? = some x → ys[j]? = some y → EqD K H n x y true) : TopR K H (EqD K H n) (.ref a) (.ref c) true := by
  have := TopR.lsts (R := EqD K H n) (fun _ => true) ha hc l h
  rw [all_true] at this; exact this
theorem eqt_tup {K : PySem.W.Frag} {H : Hp} {n : Nat} {a c : Addr} {xs ys : List V} (ha : SqT K H a xs) (hc : SqT K H c ys) (l : xs.length = ys.length) (h : ∀ (j : Nat) (x y : V), xs[j]? = some x → ys[j]? = some y → EqD K H n x y true) : TopR K H (EqD K H n) (.ref a) (.ref c) true := by
  have := TopR.tups (R := EqD K H n) (fun _ => true) ha hc h
  rw [all_true, l] at this
  simpa using this
theorem eqt_up {K : PySem.W.Frag} {H : Hp} {n : Nat} {a c : Addr} (h : TopR K H (EqD K H n) (.ref a) (.ref c) true) : EqD K H (n + 1) (.ref a) (.ref c) true := by
  by_cases e : a = c
  · subst e; exact .inl (.inr ⟨a, rfl, rfl, rfl⟩)
  · exact .inr ⟨a, c, rfl, rfl, e, h⟩
theorem eqt_flat {K : PySem.W.Frag} {H : Hp} {x : V} (f : flatV x = true) : ∀ (n : Nat), EqD K H n x x true := fun n => by
  have e : eqV x x = true := by
    cases x with
    | _ => first | (cases f; done) | simp [eqV]
  cases n with
  | zero => exact .inl ⟨f, f, e.symm⟩
  | succ n => exact .inl (.inl ⟨f, f, e.symm⟩)
theorem eqt_ref {K : PySem.W.Frag} {H : Hp} {a : Addr} : ∀ (n : Nat), EqD K H n (.ref a) (.ref a) true := fun n => by
  cases n with
  | zero => exact .inr ⟨a, rfl, rfl, rfl⟩
  | succ n => exact .inl (.inr ⟨a, rfl, rfl, rfl⟩)
theorem txs_flatM {ts : List Str} : ∀ y ∈ txs ts, flatV y = true := fun y hy => by
  obtain ⟨z, _, rfl⟩ := List.mem_map.mp hy
  rfl
theorem eqt_same {K : PySem.W.Frag} {H : Hp} {n : Nat} {a c : Addr} {xs : List V} (ha : SqL K H a xs) (hc : SqL K H c xs) (f : ∀ y ∈ xs, flatV y = true ∨ ∃ r, y = .ref r) : TopR K H (EqD K H n) (.ref a) (.ref c) true :=
  eqt_lst ha hc rfl fun j x y hx hy => by
    rw [hx] at hy; cases hy
    rcases f x (List.mem_of_getElem? hx) with f | ⟨r, rfl⟩
    · exact eqt_flat f n
    · exact eqt_ref n
section
variable {P : Program} {w : World} {K : PySem.W.Frag} {mg : Str → Option Value} {base : Heap}
def spCopyT (K : PySem.W.Frag) : Sp := fun vs H Q _ => ∃ (t S F Pp : Addr) (lg : V) (xs fs ps : List V), vs = [.ref t] ∧ H t = some (.tup [.ref S, .ref F, .ref Pp, lg]) ∧ H S = some (.lst xs) ∧ H F = some (.lst fs) ∧ H Pp = some (.lst ps) ∧
  ∀ u S' F' P' H', H u = none → H S' = none → H F' = none → H P' = none → H' u = some (.tup [.ref S', .ref F', .ref P', lg]) → H' S' = some (.lst xs) → H' F' = some (.lst fs) → H' P' = some (.lst ps) → Same H H' → Q (.ref u) H'
theorem scCpT : FnScope ["_law_tongue_here"] ["_law_tongue_here"] (defScope sCopy) := ⟨rfl, rfl, rfl, by decide +kernel, rfl, by decide +kernel, by decide +kernel⟩
theorem ok_copyT {f : Addr} {fd : FuncData} (F : FunG K "_law_copy" "_law_copy" sCopy .none f fd) (B : Bl mg) : FnOk P w K mg base (CXE P w) 1 f fd ["_law_tongue_here"] (spCopyT K) := by
  refine F.zokN scCpT (fun vs H Q E h => ?_) (fun cdv A outer s H vs Q E hr h => ?_)
  · obtain ⟨t, S, F', Pp, lg, xs, fs, ps, rfl, _⟩ := h
    rfl
  · obtain ⟨t, S, F', Pp, lg, xs, fs, ps, rfl, ht, hS, hF, hP, q⟩ := h
    refine ⟨_, (zpss_one (zps_ret (zpe_tup (zpac_f (zpe_callTy call_list_of (by rfl) B.list boot_list (zpac_s (zpe_ix ix_tup (zpv 0) zpe_int (fun _ _ => rfl)) zpa_nil)) (zpac_f (zpe_callTy call_list_of (by rfl) B.list boot_list (zpac_s (zpe_ix ix_tup (zpv 0) zpe_int (fun _ _ => rfl)) zpa_nil))
        (zpac_f (zpe_callTy call_list_of (by rfl) B.list boot_list (zpac_s (zpe_ix ix_tup (zpv 0) zpe_int (fun _ _ => rfl)) zpa_nil)) (zpac_s (zpe_ix ix_tup (zpv 0) zpe_int (fun _ _ => rfl)) zpa_nil))))))), ?_⟩
    refine ⟨_, rfl, t, _, _, _, rfl, rfl, SqT.of ht, rfl, S, _, rfl, .inl (SqL.of hS), fun l1 h1 => ?_⟩
    have s1 := same_upd (o := .lst xs) h1
    refine ⟨_, rfl, t, _, _, _, rfl, rfl, SqT.of (s1 _ _ ht), rfl, F', _, rfl, .inl (SqL.of (s1 _ _ hF)), fun l2 h2 => ?_⟩
    have s2 := same_upd (o := .lst fs) h2
    have S2 := s1.trans s2
    refine ⟨_, rfl, t, _, _, _, rfl, rfl, SqT.of (S2 _ _ ht), rfl, Pp, _, rfl, .inl (SqL.of (S2 _ _ hP)), fun l3 h3 => ?_⟩
    have s3 := same_upd (o := .lst ps) h3
    have S3 := S2.trans s3
    refine ⟨_, rfl, t, _, _, _, rfl, rfl, SqT.of (S3 _ _ ht), rfl, by show 4 ≤ sizeLine; decide, fun u hu => ?_⟩
    have s4 := same_upd (o := .tup [.ref l1, .ref l2, .ref l3, lg]) hu
    have back : ∀ {G : Hp} {l : Addr}, Same H G → G l = none → H l = none := fun {G l} s n => by
      cases e : H l with
      | none => rfl
      | some o =>
        have := s l o e
        rw [n] at this; cases this
    exact q u l1 l2 l3 _ (back S3 hu) h1 (back s1 h2) (back S2 h3) upd_same (s4 _ _ (s3 _ _ (s2 _ _ upd_same))) (s4 _ _ (s3 _ _ upd_same)) (s4 _ _ upd_same) (S3.trans s4)
end
end G1
namespace L2
open PySem PySem.Spec PyProof.Rows
section
variable {X : Cx} {o e f i value : Expr} {td ty tx tv : TE} {p pos apos cpos tpos : Pos}
end
end L2
namespace G1
open PySem L2 GM
def comeB (fs ps : List Str) (a s : Str) : Bool := if a = "" then !decide (s ∈ fs) else !decide (a ++ s ∈ ps)
def prv (z : Str) (i : Nat) : Str := match i with
  | 0 => ""
  | j + 1 => match z.cps[j]? with
    | some c => sg1 c
    | none => ""
def lastV (H : Hp) : V → V
  | .ref a => match H a with
    | some (.tup [_, _, l]) => l
    | _ => .non
  | _ => .non
theorem Row.last {H : Hp} {x : V} {c : Nat} (h : Row H x c) : ∃ a p, x = .ref a ∧ H a = some (.tup [.str (sg1 c), p, lastV H x]) ∧ (lastV H x = .non ∨ PrA H (lastV H x)) := by
  obtain ⟨a, p, l, rfl, ha, hp, hl⟩ := h.ex
  have e : lastV H (.ref a) = l := by
    show (match H a with | some (.tup [_, _, l]) => l | _ => .non) = l
    rw [ha]
  exact ⟨a, p, rfl, by rw [e]; exact ha, by rw [e]; exact hl⟩
theorem Row.last_kp {H H' : Hp} {x : V} {c : Nat} (h : Row H x c) (k : Kp H H') : lastV H' x = lastV H x := by
  obtain ⟨a, p, rfl, ha, _⟩ := h.last
  have h' := k.tup ha
  show (match H' a with | some (.tup [_, _, l]) => l | _ => .non) = _
  rw [h']
noncomputable def endB (H : Hp) (xs : List V) (cs : List Nat) (c : Nat) : Bool := @decide (∃ (i : Nat) (x : V), xs[i]? = some x ∧ cs[i]? = some c ∧ lastV H x ≠ .non) (Classical.propDecidable _)
theorem endB_t {H : Hp} {xs : List V} {cs : List Nat} {c : Nat} (h : ∃ (i : Nat) (x : V), xs[i]? = some x ∧ cs[i]? = some c ∧ lastV H x ≠ .non) : endB H xs cs c = true := by unfold endB; exact @decide_eq_true _ (Classical.propDecidable _) h
theorem endB_f {H : Hp} {xs : List V} {cs : List Nat} {c : Nat} (h : ¬ ∃ (i : Nat) (x : V), xs[i]? = some x ∧ cs[i]? = some c ∧ lastV H x ≠ .non) : endB H xs cs c = false := by unfold endB; exact @decide_eq_false _ (Classical.propDecidable _) h
theorem nd_at {cs : List Nat} (h : cs.Nodup) {i j c : Nat} (e1 : cs[i]? = some c) (e2 : cs[j]? = some c) : i = j := by
  obtain ⟨h1, q1⟩ := List.getElem?_eq_some_iff.mp e1
  obtain ⟨h2, q2⟩ := List.getElem?_eq_some_iff.mp e2
  exact (List.getElem_inj (h₀ := h1) (h₁ := h2) h).mp (by rw [q1, q2])
theorem endB_at {H : Hp} {xs : List V} {cs : List Nat} {c i : Nat} {x : V} (nd : cs.Nodup) (e1 : xs[i]? = some x) (e2 : cs[i]? = some c) : endB H xs cs c = !decide (lastV H x = .non) := by
  by_cases h : lastV H x = .non
  · rw [decide_eq_true h]
    refine endB_f ?_
    rintro ⟨j, y, f1, f2, ne⟩
    have := nd_at nd e2 f2
    subst this
    rw [e1] at f1; cases f1
    exact ne h
  · rw [decide_eq_false h]
    exact endB_t ⟨i, x, e1, e2, h⟩
theorem endB_kp {H H' : Hp} {xs : List V} {cs : List Nat} {c : Nat} (r : Rows H xs cs) (k : Kp H H') : endB H' xs cs c = endB H xs cs c := by
  by_cases h : ∃ (i : Nat) (x : V), xs[i]? = some x ∧ cs[i]? = some c ∧ lastV H x ≠ .non
  · rw [endB_t h]
    obtain ⟨i, x, e1, e2, ne⟩ := h
    exact endB_t ⟨i, x, e1, e2, by rw [(r.row i x c e1 e2).last_kp k]; exact ne⟩
  · rw [endB_f h]
    refine endB_f ?_
    rintro ⟨i, x, e1, e2, ne⟩
    exact h ⟨i, x, e1, e2, by rw [← (r.row i x c e1 e2).last_kp k]; exact ne⟩
theorem prv_succ {z : Str} {i c : Nat} (h : z.cps[i]? = some c) : prv z (i + 1) = sg1 c := by
  show (match z.cps[i]? with | some c => sg1 c | none => "") = sg1 c
  rw [h]
section
variable {P : Program} {w : World} {K : PySem.W.Frag} {mg : Str → Option Value} {base : Heap}
def spFollows : Sp := fun vs H Q _ => ∃ (t : Addr) (cs : List Nat) (fs ps : List Str) (lg : Int) (a s : Str), vs = [.ref t, .str a, .str s] ∧ Tg H t cs fs ps lg ∧ a.length ≤ 100 ∧ s.length ≤ 100 ∧ Q (.bl (comeB fs ps a s)) H
theorem come_at {H : Hp} {t : Addr} {cs : List Nat} {fs ps : List Str} {lg : Int} (hg : Tg H t cs fs ps lg) : ∃ S F Pp, H t = some (.tup [.ref S, .ref F, .ref Pp, .int lg]) ∧ H F = some (.lst (txs fs)) ∧ H Pp = some (.lst (txs ps)) := by
  obtain ⟨S, F, Pp, xs, h1, _, _, h4, h5⟩ := hg.ex
  exact ⟨S, F, Pp, h1, h4, h5⟩
theorem scFo : FnScope ["tongue", "ahead", "sign"] ["tongue", "ahead", "sign"] (defScope sFollows) := ⟨rfl, rfl, rfl, by decide +kernel, rfl, by decide +kernel, by decide +kernel⟩
theorem ok_follows {f : Addr} {fd : FuncData} (F : FunG K "follows" "follows" sFollows .none f fd) : FnOk P w K mg base (CXE P w) 1 f fd ["tongue", "ahead", "sign"] spFollows := by
  refine F.zokN scFo (fun vs H Q E h => ?_) (fun cdv A outer s H vs Q E hr h => ?_)
  · obtain ⟨t, cs, fs, ps, lg, a, s, rfl, _⟩ := h
    rfl
  · obtain ⟨t, cs, fs, ps, lg, a, s', rfl, hg, la, ls, q⟩ := h
    refine ⟨_, (zpss_cons (zps_if (zpt_cmpR op_eq (zpv 1) zpe_str (nomark _)) (zpss_one (zps_ret (zpe_cmpR op_notIn_seq (zpv 2) (zpe_ix ix_tup (zpv 0) zpe_int (fun _ _ => rfl)) rfl))) zpss_nil)
      (zpss_one (zps_ret (zpe_cmpR op_notIn_seq (zpe_op op_add_str (zpv 1) (zpv 2)) (zpe_ix ix_tup (zpv 0) zpe_int (fun _ _ => rfl)) rfl)))), ?_⟩
    obtain ⟨S, F', Pp, h1, h4, h5⟩ := come_at hg
    refine ⟨_, rfl, rfl, _, rfl, ite2 (fun e => ?_) (fun e => ?_)⟩
    · have e' : V.str a = V.str "" := of_decide_eq_true e
      injection e' with e'
      refine ⟨_, rfl, _, rfl, t, _, _, _, rfl, rfl, SqT.of h1, rfl, F', _, rfl, .inl (SqL.of h4), rfl, txs_flat _, ?_⟩
      have : comeB fs ps a s' = !inV (.str s') (txs fs) := by rw [inV_txs]; unfold comeB; rw [if_pos e']
      rw [this] at q
      exact q
    · have ne : a ≠ "" := fun z => e (decide_eq_true (by rw [z]))
      refine ⟨_, rfl, _, rfl, a, s', rfl, rfl, Nat.le_trans (show _ ≤ 200 by omega) (by decide), _, rfl, t, _, _, _, rfl, rfl, SqT.of h1, rfl, Pp, _, rfl, .inl (SqL.of h5), rfl, txs_flat _, ?_⟩
      have : comeB fs ps a s' = !inV (.str (a ++ s')) (txs ps) := by rw [inV_txs]; unfold comeB; rw [if_neg ne]
      rw [this] at q
      exact q
theorem scCo : FnScope ["_law_tongue_here", "_law_ahead", "_law_sign_here"] ["_law_tongue_here", "_law_ahead", "_law_sign_here"] (defScope sComes) := ⟨rfl, rfl, rfl, by decide +kernel, rfl, by decide +kernel, by decide +kernel⟩
theorem ok_comes {f : Addr} {fd : FuncData} (F : FunG K "_law_comes" "_law_comes" sComes .none f fd) : FnOk P w K mg base (CXE P w) 1 f fd ["_law_tongue_here", "_law_ahead", "_law_sign_here"] spFollows := by
  refine F.zokN scCo (fun vs H Q E h => ?_) (fun cdv A outer s H vs Q E hr h => ?_)
  · obtain ⟨t, cs, fs, ps, lg, a, s, rfl, _⟩ := h
    rfl
  · obtain ⟨t, cs, fs, ps, lg, a, s', rfl, hg, la, ls, q⟩ := h
    refine ⟨_, (zpss_cons (zps_if (zpt_cmpR op_eq (zpv 1) zpe_str (nomark _)) (zpss_one (zps_ret (zpe_cmpR op_notIn_seq (zpv 2) (zpe_ix ix_tup (zpv 0) zpe_int (fun _ _ => rfl)) rfl))) zpss_nil)
      (zpss_one (zps_ret (zpe_cmpR op_notIn_seq (zpe_op op_add_str (zpv 1) (zpv 2)) (zpe_ix ix_tup (zpv 0) zpe_int (fun _ _ => rfl)) rfl)))), ?_⟩
    obtain ⟨S, F', Pp, h1, h4, h5⟩ := come_at hg
    refine ⟨_, rfl, rfl, _, rfl, ite2 (fun e => ?_) (fun e => ?_)⟩
    · have e' : V.str a = V.str "" := of_decide_eq_true e
      injection e' with e'
      refine ⟨_, rfl, _, rfl, t, _, _, _, rfl, rfl, SqT.of h1, rfl, F', _, rfl, .inl (SqL.of h4), rfl, txs_flat _, ?_⟩
      have : comeB fs ps a s' = !inV (.str s') (txs fs) := by rw [inV_txs]; unfold comeB; rw [if_pos e']
      rw [this] at q
      exact q
    · have ne : a ≠ "" := fun z => e (decide_eq_true (by rw [z]))
      refine ⟨_, rfl, _, rfl, a, s', rfl, rfl, Nat.le_trans (show _ ≤ 200 by omega) (by decide), _, rfl, t, _, _, _, rfl, rfl, SqT.of h1, rfl, Pp, _, rfl, .inl (SqL.of h5), rfl, txs_flat _, ?_⟩
      have : comeB fs ps a s' = !inV (.str (a ++ s')) (txs ps) := by rw [inV_txs]; unfold comeB; rw [if_neg ne]
      rw [this] at q
      exact q
end
structure TgX (H : Hp) (t : Addr) (xs : List V) (cs : List Nat) : Prop where
  ex : ∃ S F Pp lg, H t = some (.tup [.ref S, F, Pp, lg]) ∧ H S = some (.lst xs)
  rows : Rows H xs cs
theorem TgX.kp {H H' : Hp} {t : Addr} {xs : List V} {cs : List Nat} (h : TgX H t xs cs) (k : Kp H H') : TgX H' t xs cs := by
  obtain ⟨S, F, Pp, lg, h1, h2⟩ := h.ex
  exact ⟨⟨S, F, Pp, lg, k.tup h1, k.lst h2⟩, h.rows.kp k⟩
theorem prv_cut {z : Str} {k : Nat} (hk : k ≤ z.cps.size) : cutS (cutS z none (some (k : Int))) (some (-1)) none = prv z k := by
  have l1 : cutS z none (some (k : Int)) = ⟨(z.cps.toList.take k).toArray⟩ := by
    unfold cutS
    have : HT.sIx z.length z.length (some (k : Int)) = k := by
      rw [HT.sIx_nat]
      have : z.length = z.cps.size := rfl
      omega
    rw [this]
    show (⟨((z.cps.toList.drop 0).take (k - 0)).toArray⟩ : Str) = _
    simp
  rw [l1]
  cases k with
  | zero => rfl
  | succ j =>
    have hj : j < z.cps.size := by omega
    have e : z.cps[j]? = some z.cps[j] := Array.getElem?_eq_getElem hj
    have n : (⟨(z.cps.toList.take (j + 1)).toArray⟩ : Str).length = j + 1 := by
      unfold Str.length
      simp
      omega
    unfold cutS
    rw [n]
    have a : HT.sIx (j + 1) 0 (some (-1)) = j := by
      show (if (-1 : Int) < 0 then ((-1 : Int) + ((j + 1 : Nat) : Int)).toNat else min (-1 : Int).toNat (j + 1)) = j
      rw [if_pos (by decide)]
      omega
    rw [a]
    show (⟨(((z.cps.toList.take (j + 1)).toArray.toList.drop j).take (j + 1 - j)).toArray⟩ : Str) = (match z.cps[j]? with | some c => sg1 c | none => "")
    rw [e]
    have : ((z.cps.toList.take (j + 1)).toArray.toList.drop j).take (j + 1 - j) = [z.cps[j]] := by
      simp only [List.toList_toArray]
      rw [List.take_add_one]
      have : z.cps.toList[j]? = some z.cps[j] := by simp [hj]
      rw [this]
      have len : (z.cps.toList.take j).length = j := by simp; omega
      rw [List.drop_append, len]
      have d0 : (z.cps.toList.take j).drop j = [] := List.drop_eq_nil_of_le (by omega)
      rw [d0]
      simp
    rw [this]
    rfl
theorem Ext.same {H H' : Hp} {p : Addr} (s : Same H H') : Ext p H H' := fun b o _ e => s b o e
theorem cps_app (a b : Str) : (a ++ b : Str).cps = a.cps ++ b.cps := rfl
end G1
namespace G1
open PySem L2 GM
def relS (scope esc : Scope) : Scope := { scope with names := scope.names.map fun (n, k) => if (k == NameKind.free && esc.kind == .function && esc.names.lookup n == some .cell) then (n, NameKind.cell) else (n, k) }
def scopeE : PySem.Expr → Scope
  | .DictComp _ _ _ sc _ => sc
  | .ListComp _ _ sc _ => sc
  | _ => default
def scopeR : Stmt → Scope
  | .Return (some e) _ => scopeE e
  | _ => default
def stAt (st : Stmt) (i : Nat) : Stmt := (defBody st).getD i (.Pass ⟨0, 0, 0, 0⟩)
theorem txs_atX {ts : List Str} {i : Nat} {x : V} (h : (txs ts)[i]? = some x) : ∃ a, ts[i]? = some a ∧ x = .str a := by
  unfold txs at h
  rw [List.getElem?_map] at h
  obtain ⟨t, h1, h2⟩ := Option.map_eq_some_iff.mp h
  exact ⟨t, h1, h2.symm⟩
abbrev cmT (fs ps : List Str) : Str → Nat → Bool := fun a c => comeB fs ps a (sg1 c)
structure Cmr (H : Hp) (C : Addr) (cs : List Nat) (cm : Str → Nat → Bool) : Prop where
  ex : ∃ kvs, H C = some (.dK kvs) ∧ ∀ a ∈ ("" :: sgs cs : List Str), ∃ l, valV kvs (Sum.inr a : Key) = some (.ref l) ∧ H l = some (.lst (txs (sgs (cs.filter (cm a)))))
theorem Cmr.same {H H' : Hp} {C : Addr} {cs : List Nat} {cm : Str → Nat → Bool} (h : Cmr H C cs cm) (s : Same H H') : Cmr H' C cs cm := by
  obtain ⟨kvs, h1, h2⟩ := h.ex
  exact ⟨kvs, s _ _ h1, fun a ha => by obtain ⟨l, e1, e2⟩ := h2 a ha; exact ⟨l, e1, s _ _ e2⟩⟩
theorem sgs_len (cs : List Nat) : (sgs cs).length = cs.length := List.length_map ..
section
variable {P : Program} {w : World} {K : PySem.W.Frag} {mg : Str → Option Value} {base : Heap}
def spComers : Sp := fun vs H Q _ => ∃ (t : Addr) (cs : List Nat) (fs ps : List Str) (lg : Int), vs = [.ref t] ∧ Tg H t cs fs ps lg ∧ ∀ C H', Same H H' → Cmr H' C cs (cmT fs ps) → Q (.ref C) H'
theorem scCm : FnScope ["tongue", "signs"] ["tongue"] (defScope sComers) := ⟨rfl, rfl, rfl, by decide +kernel, rfl, by decide +kernel, by decide +kernel⟩
def escCm : Scope := relS (scopeR (stAt sComers 1)) (defScope sComers)
theorem ok_comers {f fO fF : Addr} {fd fdO fdF : FuncData} (F : FunG K "comers_behind" "comers_behind" sComers .none f fd)
    (GO : FnOk P w K mg base (CXE P w) 1 fO fdO ["tongue"] (spSignsOf K)) (mO : mg "signs_of" = some (.ref fO)) (kO : PySem.W.keepIn K (.ref fO) = true) (bO : Binds K fdO ["tongue"] [])
    (GF : FnOk P w K mg base (CXE P w) 1 fF fdF ["tongue", "ahead", "sign"] spFollows) (mF : mg "follows" = some (.ref fF)) (kF : PySem.W.keepIn K (.ref fF) = true) (bF : Binds K fdF ["tongue", "ahead", "sign"] []) :
    FnOk P w K mg base (CXE P w) 2 f fd ["tongue"] spComers := by
  refine F.zokN scCm (fun vs H Q E h => ?_) (fun cdv A outer s H vs Q E hr h => ?_)
  · obtain ⟨t, cs, fs, ps, lg, rfl, _⟩ := h
    rfl
  · obtain ⟨t, cs, fs, ps, lg, rfl, tg, q⟩ := h
    refine ⟨_, (zpss_cons (zps_set (i := 1) scCm.nd rfl (Or.inr rfl) (zpe_call GO hr (by rfl) mO kO bO .nil passE0 (zpac_n (zpv 0) zpa_nil)))
      (zpss_one (zps_ret (zpe_dictcompC ["tongue", "signs"] ["ahead"] [0, 1] (defScope sComers) rfl rfl rfl ⟨by decide +kernel, by decide +kernel, by decide +kernel, by decide +kernel, by decide +kernel, by decide +kernel⟩
          (zpi_list (zpe_lst (zpac_c zpe_str (zpa_star (zpv 1) zpa_nil))))
          (fun s H fp => zpg_name (i := 0) (show List.Nodup [("ahead" : Str), "tongue", "signs"] by decide +kernel) rfl (Or.inr rfl)) (fun s H fp => zpts_nil) (fun s H fp => zpv 0)
          (fun s H fp => zpe_compL ["ahead", "tongue", "signs"] ["sign"] [0, 1] escCm rfl rfl rfl ⟨by decide +kernel, by decide +kernel, by decide +kernel, by decide +kernel, by decide +kernel⟩ (zpi_listK K rfl (zpv 2))
            (fun s H fp => zpg_name (i := 0) (show List.Nodup [("sign" : Str), "ahead", "tongue"] by decide +kernel) rfl (Or.inl rfl))
            (fun s H fp => zpts_one (zpt_val (zpe_call GF hr (by rfl) mF kF bF .nil passE0 (zpac_n (zpv 2) (zpac_n (zpv 1) (zpac_n (zpv 0) zpa_nil)))))) (fun s H fp => zpv 0)))))), ?_⟩
    obtain ⟨S, Fr, Pp, xs, h1, h2, rows, h4, h5⟩ := tg.ex
    refine ⟨_, rfl, t, S, _, _, _, xs, cs, rfl, SqT.of h1, h2, rows, tg.c6, fun l H1 hl s1 hl1 => ?_⟩
    have c6 := tg.c6
    have tg1 := tg.kp (Kp.same s1)
    refine ⟨_, rfl, l, _, rfl, hl1, ?_, fun A1 hA => ?_⟩
    · refine Nat.le_trans (m := 7) ?_ (by decide)
      simp [txs, sgs]
      omega
    have s2 := same_upd (o := .lst (txs ("" :: sgs cs))) hA
    have hA2 : (upd H1 A1 (.lst (txs ("" :: sgs cs)))) A1 = some (.lst (txs ("" :: sgs cs))) := upd_same
    have e0 : (V.str "" :: (txs (sgs cs) ++ [])) = txs ("" :: sgs cs) := by rw [List.append_nil]; rfl
    show ∃ a, _
    refine ⟨A1, rfl, ?_⟩
    rw [e0]
    have hl2 := s2 _ _ hl1
    have tg2 := tg1.kp (Kp.same s2)
    have S2 := s1.trans s2
    generalize upd H1 A1 (.lst (txs ("" :: sgs cs))) = H2 at s2 hA2 hl2 tg2 S2 ⊢
    refine ⟨⟨_, SqL.of hA2⟩, fun D hD => ?_⟩
    refine lr_list (xs := txs ("" :: sgs cs)) (fun i σ H3 => (∃ v, σ = [v, some (.ref t), some (.ref l)]) ∧ Same H2 H3 ∧ ∃ kvs : List (Key × V), H3 D = some (.dK kvs) ∧ kvs.length ≤ i ∧ ∀ (j : Nat) (a : Str), j < i → ("" :: sgs cs : List Str)[j]? = some a → ∃ l', valV kvs (Sum.inr a : Key) = some (.ref l') ∧ H3 l' = some (.lst (txs (sgs (cs.filter (cmT fs ps a))))))
      ⟨⟨_, rfl⟩, same_upd hD, [], upd_same, Nat.le_refl _, fun j _ hj => absurd hj (Nat.not_lt_zero _)⟩ (fun i σ H3 p => SqL.of (p.2.1 _ _ hA2)) ?_ ?_
    · rintro i x σ H3 C hx ⟨⟨v, rfl⟩, s3, kvs, hD3, kl, ok⟩ hC
      obtain ⟨a, ha, rfl⟩ := txs_atX hx
      have hi : i < 7 := by
        have z := (List.getElem?_eq_some_iff.mp ha).1
        rw [List.length_cons, sgs_len] at z
        omega
      have la : a.length ≤ 1 := by
        cases i with
        | zero => cases ha; exact Nat.zero_le _
        | succ j =>
          have : a ∈ sgs cs := List.mem_of_getElem? (show (sgs cs)[j]? = some a from ha)
          obtain ⟨c, _, rfl⟩ := List.mem_map.mp this
          exact Nat.le_refl _
      dsimp only [gName]
      rw [if_pos rfl]
      have hl3 := s3 _ _ hl2
      have tg3 := tg2.kp (Kp.same s3)
      refine ⟨_, rfl, _, rfl, l, rfl, ⟨_, SqL.of hl3⟩, fun l' hl' => ?_⟩
      have nD : D ≠ l' := ne_of_none hD3 hl'
      refine lr_list (xs := txs (sgs cs)) (fun k σ H4 => (∃ v, σ = [v, some (.str a), some (.ref t)]) ∧ Same H3 H4 ∧ H4 l' = some (.lst (txs (sgs ((cs.take k).filter (cmT fs ps a)))))) ⟨⟨_, rfl⟩, same_upd hl', upd_same⟩ (fun k σ H4 p => SqL.of (p.2.1 _ _ hl3)) ?_ ?_
      · rintro k y σ H4 C' hy ⟨⟨v, rfl⟩, s4, hl4⟩ hC'
        obtain ⟨b, hb, rfl⟩ := txs_atX hy
        obtain ⟨c, hc, rfl⟩ : ∃ c, cs[k]? = some c ∧ sg1 c = b := by
          have : (sgs cs)[k]? = some b := hb
          unfold sgs at this
          rw [List.getElem?_map] at this
          cases e : cs[k]? with
          | none => rw [e] at this; cases this
          | some c => rw [e] at this; exact ⟨c, rfl, Option.some.inj this⟩
        dsimp only [gName]
        refine ⟨_, rfl, _, rfl, _, rfl, t, cs, fs, ps, lg, a, sg1 c, rfl, tg3.kp (Kp.same s4), by omega, by show (1 : Nat) ≤ 100; decide, _, rfl, ?_⟩
        have tk : cs.take (k + 1) = cs.take k ++ [c] := by rw [List.take_add_one, hc]; rfl
        cases hcm : comeB fs ps a (sg1 c) with
        | true =>
          refine iteT ⟨_, rfl, _, hl4, ?_, hC' _ _ ⟨⟨_, rfl⟩, fun b o e => by rw [upd_ne (ne_of_none e hl')]; exact s4 b o e, ?_⟩⟩
          · rw [txs_len, sgs_len]
            refine Nat.lt_of_le_of_lt (List.length_filter_le _ _) ?_
            rw [List.length_take]
            exact Nat.lt_of_le_of_lt (show min k cs.length ≤ 6 by omega) (by decide)
          · rw [upd_same]
            congr 2
            rw [tk, List.filter_append, List.filter_cons_of_pos (show cmT fs ps a c = true from hcm)]
            unfold txs sgs
            rw [List.map_append, List.map_append]; rfl
        | false =>
          refine iteF (hC' _ _ ⟨⟨_, rfl⟩, s4, ?_⟩)
          rw [hl4, tk, List.filter_append, List.filter_cons_of_neg (by rw [show cmT fs ps a c = false from hcm]; decide)]
          simp
      · rintro σ H4 ⟨⟨v2, rfl⟩, s4, hl4⟩
        have el : (txs (sgs cs)).length = cs.length := by rw [txs_len, sgs_len]
        rw [el, List.take_length] at hl4
        have hD4 := s4 _ _ hD3
        refine ⟨Sum.inr a, kvs, rfl, hD4, Nat.lt_of_le_of_lt (show kvs.length ≤ 7 by omega) (by decide), hC _ _ ⟨⟨_, rfl⟩, ?_, _, upd_same, ?_, ?_⟩⟩
        · intro b o e
          rw [upd_ne (fun z => by rw [z, hD] at e; cases e)]
          exact s4 _ _ (s3 _ _ e)
        · have := length_putK kvs (Sum.inr a : Key) (.ref l')
          omega
        · intro j b hj hb
          have ne : D ≠ l' := nD
          rw [valV_put]
          by_cases hba : b = a
          · subst hba
            rw [if_pos rfl]
            exact ⟨l', rfl, by rw [upd_ne ne.symm]; exact hl4⟩
          · rw [if_neg (fun z => hba (by injection z))]
            have hji : j < i := by
              rcases Nat.lt_or_ge j i with h | h
              · exact h
              · have : j = i := by omega
                subst this
                rw [ha] at hb; cases hb
                exact absurd rfl hba
            obtain ⟨l2, e1, e2⟩ := ok j b hji hb
            have nl2 : l2 ≠ D := fun z => by rw [z, hD3] at e2; cases e2
            exact ⟨l2, e1, by rw [upd_ne nl2]; exact s4 _ _ e2⟩
    · rintro σ H3 ⟨⟨v, rfl⟩, s3, kvs, hD3, kl, ok⟩
      refine q D H3 (S2.trans s3) ⟨kvs, hD3, fun a ha => ?_⟩
      obtain ⟨j, hj⟩ := List.getElem?_of_mem ha
      have hl := (List.getElem?_eq_some_iff.mp hj).1
      exact ok j a (by rw [txs_len]; exact hl) hj
end
def dct (cs : List Nat) (val : Nat → V) : List (Key × V) := cs.map fun c => ((Sum.inr (sg1 c) : Key), val c)
theorem dct_len (cs : List Nat) (val : Nat → V) : (dct cs val).length = cs.length := List.length_map ..
theorem dct_at {cs : List Nat} {val : Nat → V} {c : Nat} (h : c ∈ cs) : valV (dct cs val) (Sum.inr (sg1 c) : Key) = some (val c) := by
  unfold dct
  induction cs with
  | nil => cases h
  | cons d cs ih =>
    rw [List.map_cons]
    by_cases e : d = c
    · subst e; exact valV_pos rfl
    · rw [valV_neg (fun z => e (sg1_inj (by injection z)))]
      rcases List.mem_cons.mp h with z | z
      · exact absurd z.symm e
      · exact ih z
theorem dct_none {cs : List Nat} {val : Nat → V} {c : Nat} (h : c ∉ cs) : valV (dct cs val) (Sum.inr (sg1 c) : Key) = none := by
  unfold dct
  induction cs with
  | nil => rfl
  | cons d cs ih =>
    rw [List.map_cons, valV_neg (fun z => h (by rw [← sg1_inj (show sg1 d = sg1 c by injection z)]; exact List.mem_cons_self))]
    exact ih fun z => h (List.mem_cons_of_mem _ z)
theorem dct_snoc {cs : List Nat} {val : Nat → V} {c : Nat} (h : c ∉ cs) : putK (dct cs val) (Sum.inr (sg1 c) : Key) (val c) = dct (cs ++ [c]) val := by
  rw [putK_new _ (dct_none h)]
  unfold dct
  rw [List.map_append]; rfl
theorem dct_congr {cs : List Nat} {f g : Nat → V} (h : ∀ c ∈ cs, f c = g c) : dct cs f = dct cs g := by
  unfold dct
  apply List.map_congr_left
  intro c hc
  rw [h c hc]
section
variable {P : Program} {w : World} {K : PySem.W.Frag} {mg : Str → Option Value} {base : Heap}
theorem ix_listK {X : Cx} (K : PySem.W.Frag) (h : X.K = K) : IxR X (rIxL K) := h ▸ ix_list
end
end G1
namespace G1
open PySem L2 GM
def oneP (k : Nat) : Nat := if k = 0 then 1 else 0
def conv (f g : Nat → Nat) (k : Nat) : Nat := ((List.range (k + 1)).map fun i => f i * g (k - i)).sum
def QP (f : Nat → Nat) (l : Bool) (k : Nat) : Nat := if k = 1 ∧ l = true then f k + 1 else f k
def prodP (gs : List (Nat → Nat)) : Nat → Nat := gs.foldl conv oneP
theorem sum_le {f g : Nat → Nat} : ∀ {l : List Nat}, (∀ i ∈ l, f i ≤ g i) → (l.map f).sum ≤ (l.map g).sum
  | [], _ => Nat.le_refl _
  | a :: l, h => by
    rw [List.map_cons, List.map_cons, List.sum_cons, List.sum_cons]
    exact Nat.add_le_add (h a List.mem_cons_self) (sum_le fun i hi => h i (List.mem_cons_of_mem _ hi))
theorem conv_pow {f g : Nat → Nat} {a b : Nat} (hf : ∀ k, f k ≤ a ^ k) (hg : ∀ k, g k ≤ b ^ k) (k : Nat) : conv f g k ≤ (a + b) ^ k := by
  have step : ∀ k, ((List.range (k + 1)).map fun i => a ^ i * b ^ (k - i)).sum ≤ (a + b) ^ k := by
    intro k
    induction k with
    | zero => simp
    | succ k ih =>
      rw [List.range_succ, List.map_append, List.sum_append]
      simp only [List.map_cons, List.map_nil, List.sum_cons, List.sum_nil, Nat.sub_self, Nat.add_zero, Nat.pow_zero, Nat.mul_one]
      have e : ∀ l : List Nat, (∀ i ∈ l, i ≤ k) → (l.map fun i => a ^ i * b ^ (k + 1 - i)).sum = b * (l.map fun i => a ^ i * b ^ (k - i)).sum := by
        intro l
        induction l with
        | nil => intro _; simp
        | cons i l ihl =>
          intro h
          have hi := h i List.mem_cons_self
          rw [List.map_cons, List.map_cons, List.sum_cons, List.sum_cons, ihl fun j hj => h j (List.mem_cons_of_mem _ hj), Nat.mul_add]
          have : k + 1 - i = (k - i) + 1 := by omega
          rw [this, Nat.pow_succ]
          congr 1
          rw [Nat.mul_comm (b ^ (k - i)) b, Nat.mul_left_comm]
      rw [e _ fun i hi => by have := List.mem_range.mp hi; omega]
      have h1 : b * ((List.range (k + 1)).map fun i => a ^ i * b ^ (k - i)).sum ≤ b * (a + b) ^ k := Nat.mul_le_mul_left _ ih
      have h2 : a ^ (k + 1) ≤ a * (a + b) ^ k := by
        rw [Nat.pow_succ, Nat.mul_comm]
        exact Nat.mul_le_mul_left _ (Nat.pow_le_pow_left (by omega) k)
      have h3 : (a + b) ^ (k + 1) = a * (a + b) ^ k + b * (a + b) ^ k := by rw [Nat.pow_succ, Nat.mul_comm, Nat.add_mul]
      rw [h3]
      omega
  refine Nat.le_trans (sum_le fun i hi => ?_) (step k)
  exact Nat.mul_le_mul (hf i) (hg (k - i))
theorem fold_pow : ∀ (gs : List (Nat → Nat)) (bs : List Nat) (f : Nat → Nat) (a : Nat), gs.length = bs.length → (∀ k, f k ≤ a ^ k) → (∀ (i : Nat) g b, gs[i]? = some g → bs[i]? = some b → ∀ k, g k ≤ b ^ k) → ∀ k, gs.foldl conv f k ≤ (a + bs.sum) ^ k
  | [], [], f, a, _, hf, _, k => by simpa using hf k
  | [], _ :: _, _, _, h, _, _, _ => by simp at h
  | _ :: _, [], _, _, h, _, _, _ => by simp at h
  | g :: gs, b :: bs, f, a, hl, hf, h, k => by
    have := fold_pow gs bs (conv f g) (a + b) (by simpa using hl) (conv_pow hf (h 0 g b rfl rfl)) (fun i g' b' e1 e2 => h (i + 1) g' b' (by simpa using e1) (by simpa using e2)) k
    rw [List.sum_cons, ← Nat.add_assoc]
    exact this
theorem one_pow (k : Nat) : oneP k ≤ 0 ^ k := by
  unfold oneP
  by_cases h : k = 0
  · subst h; simp
  · rw [if_neg h]; exact Nat.zero_le _
section
variable (cs : List Nat) (cm : Str → Nat → Bool) (l : Nat → Bool)
def PB : Nat → Nat → Nat → Nat
  | 0, _ => oneP
  | s + 1, c => prodP ((cs.filter (cm (sg1 c))).map fun d => QP (PB s d) (l d))
def PF (s : Nat) : Nat → Nat := prodP ((cs.filter (cm "")).map fun d => QP (PB cs cm l s d) (l d))
def NW : Nat → Str → Nat
  | 0, _ => 0
  | s + 1, a => ((cs.filter (cm a)).map fun d => NW s (sg1 d) + (l d).toNat).sum
variable {cs cm l}
theorem NW_le (h : cs.length ≤ 6) : ∀ (s : Nat) (a : Str), NW cs cm l s a + 1 ≤ 7 ^ s
  | 0, _ => Nat.le_refl _
  | s + 1, a => by
    have step : ∀ ds : List Nat, (ds.map fun d => NW cs cm l s (sg1 d) + (l d).toNat).sum ≤ ds.length * 7 ^ s := by
      intro ds
      induction ds with
      | nil => simp
      | cons d ds ih =>
        rw [List.map_cons, List.sum_cons, List.length_cons, Nat.succ_mul]
        have := NW_le h s (sg1 d)
        have : (l d).toNat ≤ 1 := by cases l d <;> simp
        omega
    have h1 := step (cs.filter (cm a))
    have h2 : (cs.filter (cm a)).length ≤ 6 := Nat.le_trans (List.length_filter_le _ _) h
    have h3 : (cs.filter (cm a)).length * 7 ^ s ≤ 6 * 7 ^ s := Nat.mul_le_mul_right _ h2
    have h4 : 1 ≤ 7 ^ s := Nat.one_le_pow _ _ (by decide)
    show (List.map _ _).sum + 1 ≤ _
    rw [Nat.pow_succ]
    omega
theorem Q_pow {f : Nat → Nat} {n : Nat} (hf : ∀ k, f k ≤ n ^ k) (b : Bool) : ∀ k, QP f b k ≤ (n + b.toNat) ^ k := fun k => by
  unfold QP
  split
  · rename_i h
    obtain ⟨rfl, rfl⟩ := h
    have := hf 1
    simp at this ⊢
    omega
  · exact Nat.le_trans (hf k) (Nat.pow_le_pow_left (by omega) k)
theorem P_pow (s : Nat) (ih : ∀ d k, PB cs cm l s d k ≤ NW cs cm l s (sg1 d) ^ k) (ds : List Nat) (f : Nat → Nat) (a : Nat) (hf : ∀ k, f k ≤ a ^ k) (k : Nat) :
    (ds.map fun d => QP (PB cs cm l s d) (l d)).foldl conv f k ≤ (a + (ds.map fun d => NW cs cm l s (sg1 d) + (l d).toNat).sum) ^ k := by
  refine fold_pow _ (ds.map fun d => NW cs cm l s (sg1 d) + (l d).toNat) f a (by rw [List.length_map, List.length_map]) hf (fun i g b e1 e2 => ?_) k
  rw [List.getElem?_map] at e1 e2
  obtain ⟨d, hd, rfl⟩ := Option.map_eq_some_iff.mp e1
  rw [hd] at e2
  cases e2
  exact Q_pow (ih d) (l d)
theorem PB_pow : ∀ (s c k : Nat), PB cs cm l s c k ≤ NW cs cm l s (sg1 c) ^ k
  | 0, _, k => one_pow k
  | s + 1, c, k => by
    have := P_pow (cs := cs) (cm := cm) (l := l) s (fun d k => PB_pow s d k) (cs.filter (cm (sg1 c))) oneP 0 one_pow k
    rw [Nat.zero_add] at this
    exact this
end
end G1
namespace L2
open PySem PySem.Spec PyProof.Rows
theorem zpi_items {X : Cx} {es : List Expr} {tk : Nat} {tpos : Pos} {o : Expr} {to : TE} {apos cpos : Pos} (ho : SPE X o to)
    (hbase : attributeBase o "items" X.env (eval o X.env) = eval o X.env := by rfl) (hline : (apos.endLine == cpos.line) = true := by rfl) :
    SPI X (.Tuple es tk tpos) (.Call (.Attribute o "items" apos) [] [] cpos) (iItems to) := ⟨pi_items ho.out hbase hline⟩
theorem zpi_enumK {X : Cx} {es : List Expr} {tk : Nat} {tpos : Pos} {l : Expr} {ta : TA} {p pos : Pos} (K : PySem.W.Frag) (h : X.K = K) (hg : Gl X "enumerate") (hm : X.mg "enumerate" = none) (ha : SPA X [l] ta) (hs : starEach [l] X.env = [(false, eval l X.env)] := by rfl) : SPI X (.Tuple es tk tpos) (.Call (.Name "enumerate" p) [l] [] pos) (iEnum K ta) := h ▸ zpi_enum hg hm ha hs
end L2
namespace G1
open PySem L2 GM
def intsV (n : Nat) (f : Nat → Nat) : List V := (List.range n).map fun k => V.int (f k : Nat)
theorem intsV_len (n : Nat) (f : Nat → Nat) : (intsV n f).length = n := by unfold intsV; rw [List.length_map, List.length_range]
theorem intsV_snoc (n : Nat) (f : Nat → Nat) : intsV (n + 1) f = intsV n f ++ [V.int (f n : Nat)] := by
  unfold intsV
  rw [List.range_succ, List.map_append]; rfl
theorem intsV_at {n : Nat} {f : Nat → Nat} {i : Nat} (h : i < n) : atI (intsV n f) (i : Int) = some (.int (f i : Nat)) := by
  refine atI_nat ?_
  unfold intsV
  rw [List.getElem?_map, List.getElem?_range h]; rfl
theorem one_intsV (m : Nat) : [V.int 1] ++ (List.replicate m [V.int 0]).flatten = intsV (m + 1) oneP := by
  induction m with
  | zero => rfl
  | succ m ih =>
    rw [intsV_snoc, ← ih, List.replicate_succ', List.flatten_append]
    simp [oneP]
theorem sum_cast (f : Nat → Nat) : ∀ l : List Nat, (l.map fun c => ((f c : Nat) : Int)).sum = (((l.map f).sum : Nat) : Int)
  | [] => rfl
  | a :: l => by
    rw [List.map_cons, List.map_cons, List.sum_cons, List.sum_cons, sum_cast f l]
    push_cast
    rfl
def inF : Stmt → Nat → Stmt
  | .For _ _ b _ _, i => b.getD i (.Pass ⟨0, 0, 0, 0⟩)
  | _, _ => .Pass ⟨0, 0, 0, 0⟩
def escOA : Scope := relS (scopeA (inF (stAt sOfAll 1) 0)) (defScope sOfAll)
section
variable {P : Program} {w : World} {K : PySem.W.Frag} {mg : Str → Option Value} {base : Heap}
def spOfAll : Sp := fun vs H Q _ => ∃ (R : Addr) (m : Nat) (as : List Addr) (gs : List (Nat → Nat)), vs = [.ref R, .int m] ∧ m ≤ 20 ∧ H R = some (.lst (as.map V.ref)) ∧ as.length = gs.length ∧
  (∀ (i : Nat) (a : Addr) (g : Nat → Nat), as[i]? = some a → gs[i]? = some g → H a = some (.lst (intsV (m + 1) g))) ∧ (∀ i k, k ≤ m → (gs.take i).foldl conv oneP k < big) ∧ (∀ g ∈ gs, ∀ k, k ≤ m → g k < big) ∧
  ∀ L H', Same H H' → H L = none → H' L = some (.lst (intsV (m + 1) (prodP gs))) → Q (.ref L) H'
theorem scOA : FnScope ["rows", "most", "sizes", "row"] ["rows", "most"] (defScope sOfAll) := ⟨rfl, rfl, rfl, by decide +kernel, rfl, by decide +kernel, by decide +kernel⟩
theorem ok_ofall {f : Addr} {fd : FuncData} (F : FunG K "sets_of_all" "sets_of_all" sOfAll .none f fd) (B : Bl mg) : FnOk P w K mg base (CXE P w) 1 f fd ["rows", "most"] spOfAll := by
  refine F.zokN scOA (fun vs H Q E h => ?_) (fun cdv A outer s H vs Q E hr h => ?_)
  · obtain ⟨R, m, as, gs, rfl, _⟩ := h
    rfl
  · obtain ⟨R, m, as, gs, rfl, m20, hR, al, hg, b1, b2, q⟩ := h
    refine ⟨_, (zpss_cons (zps_set (i := 2) scOA.nd rfl (Or.inr rfl) (zpe_op op_cat (zpe_lst (zpac_c zpe_int zpa_nil)) (zpe_op op_rep (zpe_lst (zpac_c zpe_int zpa_nil)) (zpv 1))))
      (zpss_cons (zps_for PassesOwn.never rfl (zpi_list (zpv 0)) (zpg_name (i := 3) scOA.nd rfl (Or.inr rfl))
          (zpss_one (zps_set (i := 2) scOA.nd rfl (Or.inr rfl) (zpe_compC ["rows", "most", "sizes", "row"] ["whole"] [2, 3] (defScope sOfAll) rfl rfl rfl ⟨by decide +kernel, by decide +kernel, by decide +kernel, by decide +kernel, by decide +kernel, by decide +kernel⟩ (zpi_range1 (by rfl) B.range (zpac_b (zpe_op op_add (zpv 1) zpe_int) zpa_nil)) (fun s H fp => (zpg_name (i := 0) (show List.Nodup [("whole" : Str), "sizes", "row"] by decide +kernel) rfl (Or.inr rfl))) (fun s H fp => zpts_nil) (fun s H fp => (zpe_callB (call_sumL rfl) (by rfl) B.sum boot_sum (zpac_x (zpe_compL ["whole", "sizes", "row"] ["size"] [0, 1, 2] escOA rfl rfl rfl ⟨by decide +kernel, by decide +kernel, by decide +kernel, by decide +kernel, by decide +kernel⟩ (zpi_range1 (by rfl) B.range (zpac_b (zpe_op op_add (zpv 0) zpe_int) zpa_nil)) (fun s H fp => (zpg_name (i := 0) (show List.Nodup [("size" : Str), "whole", "sizes", "row"] by decide +kernel) rfl (Or.inl rfl))) (fun s H fp => zpts_nil) (fun s H fp => (zpe_op op_mulB (zpe_ix (ix_listK K rfl) (zpv 2) (zpv 0) (fun _ _ => rfl)) (zpe_ix (ix_listK K rfl) (zpv 3) (zpe_op op_sub (zpv 1) (zpv 0)) (fun _ _ => rfl))))) zpa_nil)))))))
      (zpss_one (zps_ret (zpv 2))))), ?_⟩
    have s100 : ∀ {n : Nat}, n ≤ 100 → n ≤ sizeLine := fun h => Nat.le_trans h (by decide)
    refine ⟨s100 (by decide), ?_⟩
    (intro l1 gl1; generalize hEq : upd _ l1 _ = H1; refine newC hEq gl1 ?_; clear hEq; intro S1 e1 o1)
    refine ⟨s100 (by decide), ?_⟩
    (intro l2 gl2; generalize hEq : upd _ l2 _ = H2; refine newC hEq gl2 ?_; clear hEq; intro S2 e2 o2)
    refine ⟨_, rfl, l2, _, [V.int 0], rfl, rfl, e2, by omega, by omega, s100 (show 1 * ((m : Int)).toNat ≤ 100 by omega), ?_⟩
    (intro l3 gl3; generalize hEq : upd _ l3 _ = H3; refine newC hEq gl3 ?_; clear hEq; intro S3 e3 o3)
    refine ⟨l1, l3, _, _, rfl, rfl, S3 _ _ (S2 _ _ e1), e3, s100 (show 1 + _ ≤ 100 by rw [List.length_flatten, List.map_replicate, List.sum_replicate_nat]; show 1 + ((m : Int)).toNat * 1 ≤ 100; omega), ?_⟩
    (intro l4 gl4; generalize hEq : upd _ l4 _ = H4; refine newC hEq gl4 ?_; clear hEq; intro S4 e4 o4)
    rw [Int.toNat_natCast, one_intsV] at e4
    have S03 : Same H H3 := (S1.trans S2).trans S3
    have S04 : Same H H4 := S03.trans S4
    have g4 : H l4 = none := S03.free gl4
    refine ⟨_, rfl, R, rfl, ⟨_, SqL.of (S04 _ _ hR)⟩, for_list (K := K) (a := R) (xs := as.map V.ref) (fun i σ G => ∃ v3 Z, σ = [some (.ref R), some (.int m), some (.ref Z), v3] ∧ Same H G ∧ H Z = none ∧ G Z = some (.lst (intsV (m + 1) ((gs.take i).foldl conv oneP)))) ⟨_, l4, rfl, S04, g4, e4⟩ ?_ ?_ ?_⟩
    · rintro i σ G _ ⟨_, _, _, s, _⟩
      exact SqL.of (s _ _ hR)
    · rintro i x σ G hx ⟨v3, Z, rfl, sG, fZ, hZ⟩
      rw [List.getElem?_map] at hx
      obtain ⟨a, ha, rfl⟩ := Option.map_eq_some_iff.mp hx
      have il := (List.getElem?_eq_some_iff.mp ha).1
      obtain ⟨g, hgi⟩ : ∃ g, gs[i]? = some g := ⟨_, List.getElem?_eq_getElem (by omega)⟩
      have nxt : (gs.take (i + 1)).foldl conv oneP = conv ((gs.take i).foldl conv oneP) g := by
        rw [List.take_add_one, hgi, List.foldl_append]; rfl
      have f1 := b1 i
      have f2 := b2 g (List.mem_of_getElem? hgi)
      generalize (gs.take i).foldl conv oneP = f at hZ nxt f1
      have hag := hg i a g ha hgi
      refine ⟨_, rfl, _, _, rfl, rfl, (m : Int) + 1, rfl, by omega, by omega, fun D hD => ?_⟩
      have cnt : ((m : Int) + 1).toNat = m + 1 := by omega
      rw [cnt]
      have fD := sG.free hD
      refine lr_range (Pv := fun w σ G1 => (∃ v, σ = [v, some (.ref Z), some (.ref a)]) ∧ Same G G1 ∧ G1 D = some (.lst (intsV w (conv f g)))) ⟨⟨_, rfl⟩, same_upd hD, upd_same⟩ ?_ ?_
      · rintro w σ G1 C hw ⟨⟨v, rfl⟩, s1, hD1⟩ nx
        dsimp only [gName]
        refine ⟨_, rfl, _, _, rfl, rfl, (w : Int) + 1, by rw [Int.zero_add], by omega, by omega, fun D2 hD2 => ?_⟩
        have cnt2 : ((w : Int) + 1).toNat = w + 1 := by omega
        rw [cnt2]
        have nDD : D ≠ D2 := ne_of_none hD1 hD2
        refine lr_range (Pv := fun j σ G2 => (∃ v, σ = [v, some (.int (0 + (w : Int))), some (.ref Z), some (.ref a)]) ∧ Same G1 G2 ∧ G2 D2 = some (.lst (((List.range j).map fun i => (((f i * g (w - i) : Nat)) : Int)).map V.int))) ⟨⟨_, rfl⟩, same_upd hD2, upd_same⟩ ?_ ?_
        · rintro j σ G2 C2 hj ⟨⟨v, rfl⟩, s2, hD22⟩ nx2
          dsimp only [gName]
          have hZ2 := s2 _ _ (s1 _ _ hZ)
          have ha2 := s2 _ _ (s1 _ _ (sG _ _ hag))
          have e1 : (0 : Int) + (w : Int) - (0 + (j : Int)) = ((w - j : Nat) : Int) := by omega
          have q1 := f1 j (by omega)
          have q2 := f2 (w - j) (by omega)
          refine ⟨_, rfl, _, rfl, Z, _, _, _, rfl, rfl, SqL.of hZ2, by rw [Int.zero_add]; exact intsV_at (show j < m + 1 by omega), _, rfl, _, rfl, _, rfl, _, _, rfl, rfl, a, _, _, _, rfl, rfl, SqL.of ha2, by rw [e1]; exact intsV_at (show w - j < m + 1 by omega), _, _, rfl, rfl, ⟨by rw [Int.natAbs_natCast]; exact q1, by rw [Int.natAbs_natCast]; exact q2⟩, _, hD22, ?_, nx2 _ _ ⟨⟨_, rfl⟩, fun b o h => by rw [upd_ne (ne_of_none h hD2)]; exact s2 _ _ h, ?_⟩⟩
          · rw [List.length_map, List.length_map, List.length_range]
            exact Nat.lt_of_lt_of_le (show j < 100 by omega) (by decide)
          · rw [upd_same, List.range_succ, List.map_append, List.map_append]
            push_cast
            rfl
        · rintro σ G2 ⟨⟨v, rfl⟩, s2, hD22⟩
          refine ⟨D2, _, rfl, hD22, ?_⟩
          rw [sum_cast]
          refine ⟨_, s2 _ _ hD1, ?_, nx _ _ ⟨⟨_, rfl⟩, fun b o h => by rw [upd_ne (ne_of_none h hD)]; exact s2 _ _ (s1 _ _ h), ?_⟩⟩
          · rw [intsV_len]
            exact Nat.lt_of_lt_of_le (show w < 100 by omega) (by decide)
          · rw [upd_same, intsV_snoc]; rfl
      · rintro σ G1 ⟨⟨v, rfl⟩, s1, hD1⟩
        exact ⟨_, D, rfl, sG.trans s1, fD, by rw [nxt]; exact hD1⟩
    · rintro σ G ⟨v3, Z, rfl, sG, fZ, hZ⟩
      rw [List.length_map, al, List.take_length] at hZ
      exact ⟨_, rfl, q Z G sG fZ hZ⟩
end
end G1
namespace G1
open PySem L2 GM
def escBg : Scope := relS (scopeA (stAt sBegun 0)) (defScope sBegun)
theorem rd_ne {H : Hp} {a b : Addr} {u : HO} (h : Rd H a u) (n : H b = none) : a ≠ b := fun z => by
  subst z
  rcases h with h | ⟨o, h⟩
  · rw [h] at n; cases n
  · rw [h] at n; cases n
theorem rd_same {H H' : Hp} {a : Addr} {u : HO} (h : Rd H a u) (s : Same H H') : Rd H' a u := by
  rcases h with h | ⟨o, h⟩
  · exact .inl (s _ _ h)
  · exact .inr ⟨o, s _ _ h⟩
theorem rd_ext {H H' : Hp} {a p : Addr} {u : HO} (h : Rd H a u) (s : Ext p H H') (ne : a ≠ p) : Rd H' a u := by
  rcases h with h | ⟨o, h⟩
  · exact .inl (s _ _ ne h)
  · exact .inr ⟨o, s _ _ ne h⟩
theorem rd_get {H : Hp} {a : Addr} {cs : List Nat} {val : Nat → V} {c : Nat} (h : Rd H a (.dK (dct cs val))) (hc : c ∈ cs) : DGet H a (.str (sg1 c)) (some (val c)) := .inl ⟨_, Sum.inr (sg1 c), h, rfl, (dct_at hc).symm⟩
def lastB (lv : Nat → V) (c : Nat) : Bool := !decide (lv c = .non)
section
variable {P : Program} {w : World} {K : PySem.W.Frag} {mg : Str → Option Value} {base : Heap}
def spBegun : Sp := fun vs H Q _ => ∃ (B Ls : Addr) (m : Nat) (cs : List Nat) (ad : Nat → Addr) (f : Nat → Nat → Nat) (lv : Nat → V), vs = [.ref B, .ref Ls] ∧ cs.Nodup ∧ cs.length ≤ 6 ∧ m ≤ 20 ∧ B ≠ Ls ∧ Rd H B (.dK (dct cs fun c => .ref (ad c))) ∧
  (∀ c ∈ cs, H (ad c) = some (.lst (intsV (m + 1) (f c)))) ∧ Rd H Ls (.dK (dct cs lv)) ∧
  ∀ (D : Addr) (ad' : Nat → Addr) (H' : Hp), Ext B H H' → H D = none → H' D = some (.dK (dct cs fun c => .ref (ad' c))) → (∀ c ∈ cs, H' (ad' c) = some (.lst (intsV (m + 1) (QP (f c) (lastB lv c))))) → Q (.ref D) H'
theorem scBg : FnScope ["behind", "lasts"] ["behind", "lasts"] (defScope sBegun) := ⟨rfl, rfl, rfl, by decide +kernel, rfl, by decide +kernel, by decide +kernel⟩
theorem ok_begun {f : Addr} {fd : FuncData} (F : FunG K "sets_begun" "sets_begun" sBegun .none f fd) (B : Bl mg) : FnOk P w K mg base (CXE P w) 1 f fd ["behind", "lasts"] spBegun := by
  refine F.zokN scBg (fun vs H Q E h => ?_) (fun cdv A outer s H vs Q E hr h => ?_)
  · obtain ⟨B, Ls, m, cs, ad, f, lv, rfl, _⟩ := h
    rfl
  · obtain ⟨Bh, Ls, m, cs, ad, f, lv, rfl, nd, c6, m20, nBL, rB, hf, rL, q⟩ := h
    refine ⟨_, (zpss_one (zps_ret (zpe_dictcompC ["behind", "lasts"] ["sign", "sizes"] [1] (defScope sBegun) rfl rfl rfl ⟨by decide +kernel, by decide +kernel, by decide +kernel, by decide +kernel, by decide +kernel, by decide +kernel⟩ (zpi_items (zpv 0)) (fun s H fp => (zpg_tupK K 2 rfl rfl (zpgs_cons (zpg_name (i := 0) (show List.Nodup [("sign" : Str), "sizes", "lasts"] by decide +kernel) rfl (Or.inr rfl)) (zpgs_cons (zpg_name (i := 1) (show List.Nodup [("sign" : Str), "sizes", "lasts"] by decide +kernel) rfl (Or.inl rfl)) zpgs_nil)))) (fun s H fp => zpts_nil) (fun s H fp => (zpv 0)) (fun s H fp => (zpe_compL ["sign", "sizes", "lasts"] ["size", "many"] [0, 2] escBg rfl rfl rfl ⟨by decide +kernel, by decide +kernel, by decide +kernel, by decide +kernel, by decide +kernel⟩ (zpi_enumK K rfl (by rfl) B.enum (zpac_n (zpv 1) zpa_nil)) (fun s H fp => (zpg_tupK K 2 rfl rfl (zpgs_cons (zpg_name (i := 0) (show List.Nodup [("size" : Str), "many", "sign", "lasts"] by decide +kernel) rfl (Or.inl rfl)) (zpgs_cons (zpg_name (i := 1) (show List.Nodup [("size" : Str), "many", "sign", "lasts"] by decide +kernel) rfl (Or.inl rfl)) zpgs_nil)))) (fun s H fp => zpts_nil) (fun s H fp => (zpe_ifExp (SPW.pt (zpw_and (zpt_cmpR op_eq (zpv 0) zpe_int (nomark _)) (zpw_and1 (zpt_cmp (zpc_notN (zpe_dget hr.units1 (zpv 3) (zpv 2) (fun _ _ => rfl))))))) (zpe_op op_add (zpv 1) zpe_int) (zpv 1)))))))), ?_⟩
    refine ⟨_, rfl, Bh, _, rfl, rB, fun o H1 e1 o1 => ?_⟩
    have x1 : Ext Bh H H1 := .of_eq o1
    intro D hD
    have nDB : Bh ≠ D := fun z => by rw [z, hD] at e1; cases e1
    have fD : H D = none := by
      cases e : H D with
      | none => rfl
      | some u => rw [x1 D u nDB.symm e] at hD; cases hD
    refine lr_items (fun i σ G => (∃ v1 v2, σ = [v1, v2, some (.ref Ls)]) ∧ Same H1 G ∧ ∃ ad' : Nat → Addr, G D = some (.dK (dct (cs.take i) fun c => .ref (ad' c))) ∧ ∀ c ∈ cs.take i, G (ad' c) = some (.lst (intsV (m + 1) (QP (f c) (lastB lv c))))) ⟨⟨_, _, rfl⟩, same_upd hD, fun _ => 0, upd_same, fun c hc => by simp at hc⟩ (fun i σ G _ p => p.2.1 _ _ e1) ?_ ?_
    · rintro i k v t σ G C hkv ht ⟨⟨v1, v2, rfl⟩, sG, ad', hDG, had⟩ nx
      unfold dct at hkv
      rw [List.getElem?_map] at hkv
      obtain ⟨c, hc, e⟩ := Option.map_eq_some_iff.mp hkv
      cases e
      have cm := List.mem_of_getElem? hc
      have il := (List.getElem?_eq_some_iff.mp hc).1
      have s2 := same_upd (o := .tup [kV (Sum.inr (sg1 c) : Key), .ref (ad c)]) ht
      have et : upd G t (.tup [kV (Sum.inr (sg1 c) : Key), .ref (ad c)]) t = some (.tup [.str (sg1 c), .ref (ad c)]) := upd_same
      generalize upd G t (.tup [kV (Sum.inr (sg1 c) : Key), .ref (ad c)]) = G2 at s2 et ⊢
      have S2 := sG.trans s2
      have hDG2 := s2 _ _ hDG
      refine ⟨t, _, rfl, SqT.of et, rfl, _, _, rfl, _, _, rfl, rfl, ?_⟩
      dsimp only
      rw [if_pos rfl]
      have nadB : ad c ≠ Bh := fun z => by
        have := hf c cm
        rw [z] at this
        rcases rB with h | ⟨o, h⟩ <;> · rw [h] at this; cases this
      have hac := S2 _ _ (x1 _ _ nadB (hf c cm))
      have rL2 : Rd G2 Ls (.dK (dct cs lv)) := rd_same (rd_ext rL x1 nBL.symm) S2
      refine ⟨_, rfl, _, rfl, ad c, rfl, ⟨_, SqL.of hac⟩, fun D2 hD2 => ?_⟩
      have nDD : D ≠ D2 := ne_of_none hDG2 hD2
      refine lr_enum (xs := intsV (m + 1) (f c)) (fun j σ G3 => (∃ v1 v2, σ = [v1, v2, some (.str (sg1 c)), some (.ref Ls)]) ∧ Same G2 G3 ∧ G3 D2 = some (.lst (intsV j (QP (f c) (lastB lv c))))) ⟨⟨_, _, rfl⟩, same_upd hD2, upd_same⟩ (fun j σ G3 p => SqL.of (p.2.1 _ _ hac)) ?_ ?_
      · rintro j x t2 σ G3 C2 hx ⟨⟨v1, v2, rfl⟩, s3, hD3⟩ ht2 nx2
        have jl : j < m + 1 := by
          have := (List.getElem?_eq_some_iff.mp hx).1
          rw [intsV_len] at this; exact this
        have ex : x = .int (f c j : Nat) := by
          unfold intsV at hx
          rw [List.getElem?_map, List.getElem?_range jl] at hx
          exact (Option.some.inj hx).symm
        subst ex
        have s4 := same_upd (o := .tup [.int (j : Nat), .int (f c j : Nat)]) ht2
        have et2 : upd G3 t2 (.tup [.int (j : Nat), .int (f c j : Nat)]) t2 = some (.tup [.int (j : Nat), .int (f c j : Nat)]) := upd_same
        generalize upd G3 t2 (.tup [.int (j : Nat), .int (f c j : Nat)]) = G4 at s4 et2 ⊢
        have S4 := s3.trans s4
        have hD4 := s4 _ _ hD3
        have rL4 := rd_same rL2 S4
        refine ⟨t2, _, rfl, SqT.of et2, rfl, _, _, rfl, _, _, rfl, rfl, ?_⟩
        dsimp only
        rw [if_pos rfl]
        have len : (intsV j (QP (f c) (lastB lv c))).length < sizeLine := by
          rw [intsV_len]
          exact Nat.lt_of_lt_of_le (show j < 100 by omega) (by decide)
        have keep : ∀ (b : Addr) (o : HO) (v : V), G2 b = some o → upd G4 D2 (.lst (intsV j (QP (f c) (lastB lv c)) ++ [v])) b = some o := fun b o v h => by rw [upd_ne (ne_of_none h hD2)]; exact S4 _ _ h
        have last : ∀ n : Nat, n = QP (f c) (lastB lv c) j → upd G4 D2 (.lst (intsV j (QP (f c) (lastB lv c)) ++ [V.int (n : Nat)])) D2 = some (.lst (intsV (j + 1) (QP (f c) (lastB lv c)))) := fun n e => by rw [upd_same, intsV_snoc, e]
        refine ⟨_, rfl, rfl, _, rfl, ite2 (fun e => ?_) (fun e => ?_)⟩
        · have j1 : j = 1 := by
            have : V.int (j : Nat) = V.int 1 := of_decide_eq_true e
            injection this with this
            omega
          refine ⟨_, rfl, _, rfl, Ls, _, rfl, rd_get rL4 cm, _, rfl, ite2 (fun e2 => ?_) (fun e2 => ?_)⟩
          · refine ⟨_, rfl, _, _, rfl, rfl, _, hD4, len, nx2 _ _ ⟨⟨_, _, rfl⟩, fun b o h => keep b o _ h, ?_⟩⟩
            refine last (f c j + 1) ?_
            unfold QP
            rw [if_pos ⟨j1, e2⟩]
          · refine ⟨_, rfl, _, hD4, len, nx2 _ _ ⟨⟨_, _, rfl⟩, fun b o h => keep b o _ h, ?_⟩⟩
            refine last (f c j) ?_
            unfold QP
            rw [if_neg fun z => e2 z.2]
        · refine ⟨_, rfl, _, hD4, len, nx2 _ _ ⟨⟨_, _, rfl⟩, fun b o h => keep b o _ h, ?_⟩⟩
          refine last (f c j) ?_
          unfold QP
          rw [if_neg fun z => e (decide_eq_true (by rw [z.1]; rfl))]
      · rintro σ G3 ⟨⟨v1, v2, rfl⟩, s3, hD3⟩
        rw [intsV_len] at hD3
        have nc : c ∉ cs.take i := fun z => by
          obtain ⟨j, hj⟩ := List.getElem?_of_mem z
          have hji : j < i := by
            have := (List.getElem?_eq_some_iff.mp hj).1
            rw [List.length_take] at this; omega
          rw [List.getElem?_take_of_lt hji] at hj
          have := nd_at nd hj hc
          omega
        have tk : cs.take (i + 1) = cs.take i ++ [c] := by rw [List.take_add_one, hc]; rfl
        refine ⟨Sum.inr (sg1 c), _, rfl, s3 _ _ hDG2, ?_, nx _ _ ⟨⟨_, _, rfl⟩, fun b o h => ?_, fun d => if d = c then D2 else ad' d, ?_, fun d hd => ?_⟩⟩
        · rw [dct_len, List.length_take]
          exact Nat.lt_of_le_of_lt (show min i cs.length ≤ 6 by omega) (by decide)
        · rw [upd_ne (ne_of_none h hD)]
          exact s3 _ _ (S2 _ _ h)
        · rw [upd_same, tk]
          have e1 : dct (cs.take i) (fun c => V.ref (ad' c)) = dct (cs.take i) fun d => V.ref (if d = c then D2 else ad' d) := dct_congr fun d hd => by
            have nz : ¬ d = c := fun z => nc (by rw [← z]; exact hd)
            show V.ref (ad' d) = V.ref (if d = c then D2 else ad' d)
            rw [if_neg nz]
          rw [e1]
          have := dct_snoc (cs := cs.take i) (val := fun d => V.ref (if d = c then D2 else ad' d)) nc
          rw [if_pos rfl] at this
          rw [this]
        · have nDd : (if d = c then D2 else ad' d) ≠ D := by
            by_cases e : d = c
            · rw [if_pos e]; exact nDD.symm
            · rw [if_neg e]
              rw [tk] at hd
              rcases List.mem_append.mp hd with z | z
              · intro y
                have := had d z
                rw [y, hDG] at this
                cases this
              · exact absurd (List.mem_singleton.mp z) e
          rw [upd_ne nDd]
          by_cases e : d = c
          · subst e
            rw [if_pos rfl]; exact hD3
          · rw [if_neg e]
            rw [tk] at hd
            rcases List.mem_append.mp hd with z | z
            · exact s3 _ _ (s2 _ _ (had d z))
            · exact absurd (List.mem_singleton.mp z) e
    · rintro σ G ⟨⟨v1, v2, rfl⟩, sG, ad', hDG, had⟩
      rw [dct_len, List.take_length] at hDG had
      exact q D ad' G (x1.trans (Ext.same sG)) fD hDG had
end
end G1
namespace G1
open PySem L2 GM
def Fs (H : Hp) (R : Addr) : Prop := ∀ o, H R = some o → ∃ ps, o = .tbl ps
theorem Fs.of {H H' : Hp} {R : Addr} (k : Kp H H') (h : H' R = none) : Fs H R := fun o e => by
  by_cases t : ∃ ps, o = .tbl ps
  · exact t
  · have := k R o e fun ps z => t ⟨ps, z⟩
    rw [h] at this; cases this
theorem Kp.updF {H H' : Hp} {R : Addr} {o : HO} (k : Kp H H') (f : Fs H R) : Kp H (upd H' R o) := fun b u e n => by
  rw [upd_ne (fun z => by rw [z] at e; obtain ⟨ps, rfl⟩ := f u e; exact n ps rfl)]
  exact k b u e n
theorem lr_keys {a : Addr} {o : Obj} {kvs : List (Key × V)} {g : TG} {tt : TT} {tb : TB} {σ : St} {H : Hp} {N : St → Hp → Prop} (Pv : Nat → St → Hp → Prop) (h0 : Pv 0 σ H) (hl : ∀ i σ H, i ≤ kvs.length → Pv i σ H → H a = some (.frz o (.dK kvs)))
    (step : ∀ (i : Nat) (k : Key) (v : V) (σ : St) (H : Hp) (C : St → Hp → Prop), kvs[i]? = some (k, v) → Pv i σ H → (∀ σ' H', Pv (i + 1) σ' H' → C σ' H') → g (kV k) σ H fun σ4 H4 => tt σ4 H4 fun ok H5 => if ok = true then tb σ4 H5 C else C σ4 H5)
    (fin : ∀ σ H, Pv kvs.length σ H → N σ H) : LR (Itk a o kvs) g tt tb σ H N := by
  refine ⟨fun i m σ H => m = kvs.length - i ∧ i ≤ kvs.length ∧ Pv i σ H, ⟨_, rfl, Nat.zero_le _, h0⟩, ?_⟩
  rintro i m σ2 H2 ⟨rfl, hi, p⟩
  have fz := hl i σ2 H2 hi p
  by_cases hlt : i < kvs.length
  · refine .inr ⟨⟨fz, hlt⟩, ?_⟩
    rintro x H3 ⟨rfl, k, v, hkv, rfl⟩
    exact step i k v σ2 _ _ hkv p fun σ' H' p' => ⟨kvs.length - (i + 1), by omega, rfl, hlt, p'⟩
  · have e : i = kvs.length := by omega
    subst e
    exact .inl ⟨⟨fz, rfl⟩, fin σ2 H2 p⟩
theorem pw_big {x k : Nat} (hx : x ≤ 2 ^ 23) (hk : k ≤ 20) : x ^ k < big := by
  have h1 : x ^ k ≤ (2 ^ 23) ^ k := Nat.pow_le_pow_left hx k
  have h2 : (2 ^ 23) ^ k ≤ (2 ^ 23) ^ 20 := Nat.pow_le_pow_right (by decide) hk
  have h3 : (2 ^ 23 : Nat) ^ 20 < big := by unfold big; decide +kernel
  omega
section
variable {cs : List Nat} {cm : Str → Nat → Bool} {l : Nat → Bool}
theorem seven {s : Nat} (h : s ≤ 7) : 7 ^ s ≤ 823543 := Nat.le_trans (Nat.pow_le_pow_right (by decide) h) (by decide)
theorem sum_q (h : cs.length ≤ 6) (s : Nat) (ds : List Nat) : (ds.map fun d => NW cs cm l s (sg1 d) + (l d).toNat).sum ≤ ds.length * 7 ^ s := by
  induction ds with
  | nil => simp
  | cons d ds ih =>
    rw [List.map_cons, List.sum_cons, List.length_cons, Nat.succ_mul]
    have := NW_le (cm := cm) (l := l) h s (sg1 d)
    have : (l d).toNat ≤ 1 := by cases l d <;> simp
    omega
theorem P_big (h : cs.length ≤ 6) {s : Nat} (hs : s ≤ 7) (p : Nat → Bool) (i k : Nat) (hk : k ≤ 20) : (((cs.filter p).map fun d => QP (PB cs cm l s d) (l d)).take i).foldl conv oneP k < big := by
  rw [← List.map_take]
  have a := P_pow (cs := cs) (cm := cm) (l := l) s (fun d k => PB_pow s d k) ((cs.filter p).take i) oneP 0 one_pow k
  refine Nat.lt_of_le_of_lt a (pw_big ?_ hk)
  have b := sum_q (cm := cm) (l := l) h s ((cs.filter p).take i)
  have c : ((cs.filter p).take i).length ≤ 6 := by
    rw [List.length_take]
    have := List.length_filter_le p cs
    omega
  have d := seven hs
  have e : ((cs.filter p).take i).length * 7 ^ s ≤ 6 * 823543 := Nat.mul_le_mul c d
  omega
theorem P_big1 (h : cs.length ≤ 6) {s : Nat} (hs : s ≤ 7) (p : Nat → Bool) : ∀ g ∈ ((cs.filter p).map fun d => QP (PB cs cm l s d) (l d)), ∀ k, k ≤ 20 → g k < big := fun g hg k hk => by
  obtain ⟨d, _, rfl⟩ := List.mem_map.mp hg
  refine Nat.lt_of_le_of_lt (Q_pow (fun k => PB_pow s d k) (l d) k) (pw_big ?_ hk)
  have := NW_le (cm := cm) (l := l) h s (sg1 d)
  have := seven hs
  have : (l d).toNat ≤ 1 := by cases l d <;> simp
  omega
end
section
variable {P : Program} {w : World} {K : PySem.W.Frag} {mg : Str → Option Value} {base : Heap}
def spLastsD : Sp := fun vs H Q _ => ∃ (t : Addr) (xs : List V) (cs : List Nat), vs = [.ref t] ∧ TgX H t xs cs ∧ cs.Nodup ∧ cs.length ≤ 6 ∧ ∀ (D : Addr) (lv : Nat → V) (H' : Hp), H D = none → Same H H' → H' D = some (.dK (dct cs lv)) → (∀ c ∈ cs, lastB lv c = endB H xs cs c) → Q (.ref D) H'
theorem scLs : FnScope ["tongue"] ["tongue"] (defScope sLasts) := ⟨rfl, rfl, rfl, by decide +kernel, rfl, by decide +kernel, by decide +kernel⟩
theorem ok_lastsD {f : Addr} {fd : FuncData} (F : FunG K "lasts_of" "lasts_of" sLasts .none f fd) : FnOk P w K mg base (CXE P w) 1 f fd ["tongue"] spLastsD := by
  refine F.zokN scLs (fun vs H Q E h => ?_) (fun cdv A outer s H vs Q E hr h => ?_)
  · obtain ⟨t, xs, cs, rfl, _⟩ := h
    rfl
  · obtain ⟨t, xs, cs, rfl, hx, nd, c6, q⟩ := h
    refine ⟨_, (zpss_one (zps_ret (zpe_dictcomp ["tongue"] ["sign", "price", "last"] [] (defScope sLasts) rfl rfl rfl ⟨by decide +kernel, by decide +kernel, by decide +kernel, by decide +kernel, by decide +kernel⟩ (zpi_list (zpe_ix ix_tup (zpv 0) zpe_int (fun _ _ => rfl))) (fun s H fp => (zpg_tupK K 3 rfl rfl (zpgs_cons (zpg_name (i := 0) (show List.Nodup [("sign" : Str), "price", "last"] by decide +kernel) rfl (Or.inl rfl)) (zpgs_cons (zpg_name (i := 1) (show List.Nodup [("sign" : Str), "price", "last"] by decide +kernel) rfl (Or.inl rfl)) (zpgs_cons (zpg_name (i := 2) (show List.Nodup [("sign" : Str), "price", "last"] by decide +kernel) rfl (Or.inl rfl)) zpgs_nil))))) (fun s H fp => zpts_nil) (fun s H fp => (zpv 0)) (fun s H fp => (zpv 2))))), ?_⟩
    have rows := hx.rows
    obtain ⟨S, F', Pp, lg, h1, h2⟩ := hx.ex
    refine ⟨_, rfl, t, _, _, _, rfl, rfl, SqT.of h1, rfl, S, rfl, ⟨_, SqL.of h2⟩, fun D hD => ?_⟩
    let val : Nat → V := fun c => ((xs[cs.idxOf c]?).map (lastV H)).getD .non
    have hval : ∀ (j c : Nat) (x : V), cs[j]? = some c → xs[j]? = some x → val c = lastV H x := fun j c x e1 e2 => by
      have mc := List.mem_of_getElem? e1
      have e3 : cs[cs.idxOf c]? = some c := by rw [List.getElem?_eq_getElem (List.idxOf_lt_length_of_mem mc), List.getElem_idxOf]
      have e4 := nd_at nd e3 e1
      show ((xs[cs.idxOf c]?).map (lastV H)).getD .non = _
      rw [e4, e2]; rfl
    refine lr_list (xs := xs) (fun i σ G => (∃ v1 v2 v3, σ = [v1, v2, v3]) ∧ Same H G ∧ G D = some (.dK (dct (cs.take i) val))) ⟨⟨_, _, _, rfl⟩, same_upd hD, upd_same⟩ (fun i σ G p => SqL.of (p.2.1 _ _ h2)) ?_ ?_
    · rintro i x σ G C hxi ⟨⟨v1, v2, v3, rfl⟩, sG, hDG⟩ nx
      obtain ⟨c, hc, row⟩ := rows.at hxi
      obtain ⟨a, p, rfl, ha, _⟩ := row.last
      refine ⟨a, _, rfl, SqT.of (sG _ _ ha), rfl, _, _, rfl, _, _, rfl, _, _, rfl, rfl, ?_⟩
      dsimp only
      rw [if_pos rfl]
      have tk : cs.take (i + 1) = cs.take i ++ [c] := by rw [List.take_add_one, hc]; rfl
      have nc : c ∉ cs.take i := fun z => by
        obtain ⟨j, hj⟩ := List.getElem?_of_mem z
        have hji : j < i := by
          have := (List.getElem?_eq_some_iff.mp hj).1
          rw [List.length_take] at this; omega
        rw [List.getElem?_take_of_lt hji] at hj
        have := nd_at nd hj hc
        omega
      refine ⟨_, rfl, _, rfl, Sum.inr (sg1 c), _, rfl, hDG, ?_, nx _ _ ⟨⟨_, _, _, rfl⟩, fun b o h => by rw [upd_ne (ne_of_none h hD)]; exact sG _ _ h, ?_⟩⟩
      · rw [dct_len, List.length_take]
        exact Nat.lt_of_le_of_lt (show min i cs.length ≤ 6 by omega) (by decide)
      · rw [upd_same, tk, ← hval i c _ hc hxi, dct_snoc nc]
    · rintro σ G ⟨⟨v1, v2, v3, rfl⟩, sG, hDG⟩
      rw [rows.len, List.take_length] at hDG
      refine q D val G hD sG hDG fun c hc => ?_
      obtain ⟨j, hj⟩ := List.getElem?_of_mem hc
      have jx : j < xs.length := by
        have := (List.getElem?_eq_some_iff.mp hj).1
        rw [rows.len]; exact this
      have hxj : xs[j]? = some xs[j] := List.getElem?_eq_getElem jx
      unfold lastB
      rw [hval j _ _ hj hxj, endB_at nd hxj hj]
theorem nd_not {cs : List Nat} (nd : cs.Nodup) {i c : Nat} (hc : cs[i]? = some c) : c ∉ cs.take i := fun z => by
  obtain ⟨j, hj⟩ := List.getElem?_of_mem z
  have hji : j < i := by
    have := (List.getElem?_eq_some_iff.mp hj).1
    rw [List.length_take] at this; omega
  rw [List.getElem?_take_of_lt hji] at hj
  have := nd_at nd hj hc
  omega
theorem dct_more {G : Hp} {B a : Addr} {cs' cs : List Nat} {c : Nat} {ad : Nat → Addr} {F : Nat → List V} (nc : c ∉ cs') (tk : cs = cs' ++ [c]) (hB : G B = some (.dK (dct cs' fun c => .ref (ad c)))) (had : ∀ d ∈ cs', G (ad d) = some (.lst (F d)))
    (ha : G a = some (.lst (F c))) (ne : a ≠ B) : ∃ ad' : Nat → Addr, upd G B (.dK (putK (dct cs' fun c => .ref (ad c)) (Sum.inr (sg1 c) : Key) (.ref a))) B = some (.dK (dct cs fun c => .ref (ad' c))) ∧
      ∀ d ∈ cs, upd G B (.dK (putK (dct cs' fun c => .ref (ad c)) (Sum.inr (sg1 c) : Key) (.ref a))) (ad' d) = some (.lst (F d)) := by
  refine ⟨fun d => if d = c then a else ad d, ?_, fun d hd => ?_⟩
  · rw [upd_same, tk]
    have e1 : dct cs' (fun c => V.ref (ad c)) = dct cs' fun d => V.ref (if d = c then a else ad d) := dct_congr fun d hd => by
      have nz : ¬ d = c := fun z => nc (by rw [← z]; exact hd)
      show V.ref (ad d) = V.ref (if d = c then a else ad d)
      rw [if_neg nz]
    rw [e1]
    have := dct_snoc (cs := cs') (val := fun d => V.ref (if d = c then a else ad d)) nc
    rw [if_pos rfl] at this
    rw [this]
  · by_cases e : d = c
    · show upd G B _ (if d = c then a else ad d) = _
      rw [if_pos e, e, upd_ne ne]; exact ha
    · show upd G B _ (if d = c then a else ad d) = _
      rw [if_neg e]
      rw [tk] at hd
      rcases List.mem_append.mp hd with z | z
      · have h := had d z
        rw [upd_ne (fun y => by rw [y, hB] at h; cases h)]; exact h
      · exact absurd (List.mem_singleton.mp z) e
theorem lr_begun {l D M : Addr} {cs ds : List Nat} {adr : Nat → Addr} {H : Hp} {N : St → Hp → Prop} {v0 : Option V} (hl : H l = some (.lst (txs (sgs ds)))) (hD : H D = some (.dK (dct cs fun c => .ref (adr c)))) (sub : ∀ d ∈ ds, d ∈ cs) (len : ds.length ≤ 6) (hM : H M = none)
    (fin : ∀ (v : Option V) (H' : Hp), Same H H' → H' M = some (.lst ((ds.map adr).map V.ref)) → N [v, some (.ref D)] H') :
    LR (Itl K l) (gName 0) (fun _ H Q => Q true H) (tEmL M (tDGet (tVar 1) (tVar 0))) [v0, some (.ref D)] (upd H M (.lst [])) N := by
  refine lr_list (xs := txs (sgs ds)) (fun i σ G => (∃ v, σ = [v, some (.ref D)]) ∧ Same H G ∧ G M = some (.lst (((ds.take i).map adr).map V.ref))) ⟨⟨_, rfl⟩, same_upd hM, upd_same⟩ (fun i σ G p => SqL.of (p.2.1 _ _ hl)) ?_ ?_
  · rintro i x σ G C hx ⟨⟨v, rfl⟩, sG, hMG⟩ nx
    obtain ⟨b, hb, rfl⟩ := txs_atX hx
    obtain ⟨c, hc, rfl⟩ : ∃ c, ds[i]? = some c ∧ sg1 c = b := by
      have : (sgs ds)[i]? = some b := hb
      unfold sgs at this
      rw [List.getElem?_map] at this
      cases e : ds[i]? with
      | none => rw [e] at this; cases this
      | some c => rw [e] at this; exact ⟨c, rfl, Option.some.inj this⟩
    dsimp only [gName]
    have il := (List.getElem?_eq_some_iff.mp hc).1
    refine ⟨_, rfl, _, rfl, D, _, rfl, rd_get (.inl (sG _ _ hD)) (sub c (List.mem_of_getElem? hc)), _, hMG, ?_, nx _ _ ⟨⟨_, rfl⟩, fun b o h => by rw [upd_ne (ne_of_none h hM)]; exact sG _ _ h, ?_⟩⟩
    · rw [List.length_map, List.length_map, List.length_take]
      exact Nat.lt_of_le_of_lt (show min i ds.length ≤ 6 by omega) (by decide)
    · rw [upd_same, List.take_add_one, hc, List.map_append, List.map_append]; rfl
  · rintro σ G ⟨⟨v, rfl⟩, sG, hMG⟩
    rw [txs_len, sgs_len, List.take_length] at hMG
    exact fin v G sG hMG
def escSs : Scope := relS (scopeA (inF (stAt sSets 4) 1)) (defScope sSets)
def spSets (T1 T2 : Addr) : Sp := fun vs H Q _ => ∃ (t : Addr) (m : Nat) (cs : List Nat) (fs ps : List Str) (lg : Int) (xs : List V), vs = [.ref t, .int m] ∧ m ≤ 20 ∧ Tg H t cs fs ps lg ∧ TgX H t xs cs ∧ Tab T1 H ∧ TabL T2 [] H ∧
  ∀ L H', Kp H H' → Tab T1 H' → TabL T2 [] H' → Fs H L → H' L = some (.lst (intsV (m + 1) (PF cs (cmT fs ps) (endB H xs cs) (lg.toNat - 1)))) → Q (.ref L) H'
theorem scSs : FnScope ["tongue", "most", "comers", "lasts", "behind", "step", "begun"] ["tongue", "most"] (defScope sSets) := ⟨rfl, rfl, rfl, by decide +kernel, rfl, by decide +kernel, by decide +kernel⟩
theorem ok_sets {T1 T2 : Addr} {f fL fC fA fB fO : Addr} {fd fdL fdC fdA fdB fdO : FuncData} (F : FunG K "sets_by_size" "sets_by_size" sSets .none f fd) (B : Bl mg)
    (GL : FnOk P w K mg base (CXE P w) 7 fL fdL ["thing"] (spLook T1 T2 [])) (mL : mg "look_at_tongue" = some (.ref fL)) (kL : PySem.W.keepIn K (.ref fL) = true) (bL : Binds K fdL ["thing"] [])
    (GC : FnOk P w K mg base (CXE P w) 2 fC fdC ["tongue"] spComers) (mC : mg "comers_behind" = some (.ref fC)) (kC : PySem.W.keepIn K (.ref fC) = true) (bC : Binds K fdC ["tongue"] [])
    (GA : FnOk P w K mg base (CXE P w) 1 fA fdA ["tongue"] spLastsD) (mA : mg "lasts_of" = some (.ref fA)) (kA : PySem.W.keepIn K (.ref fA) = true) (bA : Binds K fdA ["tongue"] [])
    (GB : FnOk P w K mg base (CXE P w) 1 fB fdB ["behind", "lasts"] spBegun) (mB : mg "sets_begun" = some (.ref fB)) (kB : PySem.W.keepIn K (.ref fB) = true) (bB : Binds K fdB ["behind", "lasts"] [])
    (GO : FnOk P w K mg base (CXE P w) 1 fO fdO ["rows", "most"] spOfAll) (mO : mg "sets_of_all" = some (.ref fO)) (kO : PySem.W.keepIn K (.ref fO) = true) (bO : Binds K fdO ["rows", "most"] []) : FnOk P w K mg base (CXE P w) 8 f fd ["tongue", "most"] (spSets T1 T2) := by
  refine F.zokN scSs (fun vs H Q E h => ?_) (fun cdv A outer s H vs Q E hr h => ?_)
  · obtain ⟨t, m, cs, fs, ps, lg, xs, rfl, _⟩ := h
    rfl
  · obtain ⟨t, m, cs, fs, ps, lg, xs, rfl, m20, tg, tx, ta, tb, q⟩ := h
    refine ⟨_, (zpss_cons (zps_expr (zpe_call GL hr (by rfl) mL kL bL .nil passE0 (zpac_n (zpv 0) zpa_nil)))
      (zpss_cons (zps_set (i := 2) scSs.nd rfl (Or.inr rfl) (zpe_call GC (hr.mono (by decide)) (by rfl) mC kC bC .nil passE0 (zpac_n (zpv 0) zpa_nil)))
      (zpss_cons (zps_set (i := 3) scSs.nd rfl (Or.inl rfl) (zpe_call GA (hr.mono (by decide)) (by rfl) mA kA bA .nil passE0 (zpac_n (zpv 0) zpa_nil)))
      (zpss_cons (zps_dictcomp (i := 4) ["tongue", "most", "comers", "lasts", "behind", "step", "begun"] ["sign"] [1] (defScope sSets) rfl rfl rfl ⟨by decide +kernel, by decide +kernel, by decide +kernel, by decide +kernel, by decide +kernel⟩ scSs.nd rfl (Or.inl rfl) (zpi_keys (zpv 3)) (fun s H fp => (zpg_name (i := 0) (show List.Nodup [("sign" : Str), "most"] by decide +kernel) rfl (Or.inl rfl))) (fun s H fp => zpts_nil) (fun s H fp => (zpv 0)) (fun s H fp => (zpe_op op_cat (zpe_lst (zpac_c zpe_int zpa_nil)) (zpe_op op_rep (zpe_lst (zpac_c zpe_int zpa_nil)) (zpv 1)))))
      (zpss_cons (zps_for PassesOwn.never rfl (zpi_range1 (by rfl) B.range (zpac_b (zpe_op op_sub (zpe_ix ix_tup (zpv 0) zpe_int (fun _ _ => rfl)) zpe_int) zpa_nil)) (zpg_name (i := 5) scSs.nd rfl (Or.inl rfl))
          (zpss_cons (zps_set (i := 6) scSs.nd rfl (Or.inr rfl) (zpe_call GB (hr.mono (by decide)) (by rfl) mB kB bB .nil passE0 (zpac_n (zpv 4) (zpac_n (zpv 3) zpa_nil))))
      (zpss_one (zps_dictcomp (i := 4) ["tongue", "most", "comers", "lasts", "behind", "step", "begun"] ["sign"] [1, 2, 6] (defScope sSets) rfl rfl rfl ⟨by decide +kernel, by decide +kernel, by decide +kernel, by decide +kernel, by decide +kernel⟩ scSs.nd rfl (Or.inl rfl) (zpi_keys (zpv 3)) (fun s H fp => (zpg_name (i := 0) (show List.Nodup [("sign" : Str), "most", "comers", "begun"] by decide +kernel) rfl (Or.inl rfl))) (fun s H fp => zpts_nil) (fun s H fp => (zpv 0)) (fun s H fp => (zpe_call GO (hr.mono (by decide)) (by rfl) mO kO bO .nil passE0 (zpac_x (zpe_compL ["sign", "most", "comers", "begun"] ["comer"] [3] escSs rfl rfl rfl ⟨by decide +kernel, by decide +kernel, by decide +kernel, by decide +kernel, by decide +kernel⟩ (zpi_listK K rfl (zpe_dget hr.units1 (zpv 2) (zpv 0) (fun _ _ => rfl))) (fun s H fp => (zpg_name (i := 0) (show List.Nodup [("comer" : Str), "begun"] by decide +kernel) rfl (Or.inl rfl))) (fun s H fp => zpts_nil) (fun s H fp => (zpe_dget hr.units1 (zpv 1) (zpv 0) (fun _ _ => rfl)))) (zpac_n (zpv 1) zpa_nil))))))))
      (zpss_cons (zps_set (i := 6) scSs.nd rfl (Or.inr rfl) (zpe_call GB (hr.mono (by decide)) (by rfl) mB kB bB .nil passE0 (zpac_n (zpv 4) (zpac_n (zpv 3) zpa_nil))))
      (zpss_one (zps_ret (zpe_call GO (hr.mono (by decide)) (by rfl) mO kO bO .nil passE0 (zpac_x (zpe_compL ["tongue", "most", "comers", "lasts", "behind", "step", "begun"] ["comer"] [6] (defScope sSets) rfl rfl rfl ⟨by decide +kernel, by decide +kernel, by decide +kernel, by decide +kernel, by decide +kernel⟩ (zpi_list (zpe_dget hr.units1 (zpv 2) zpe_str (fun _ _ => rfl))) (fun s H fp => (zpg_name (i := 0) (show List.Nodup [("comer" : Str), "begun"] by decide +kernel) rfl (Or.inl rfl))) (fun s H fp => zpts_nil) (fun s H fp => (zpe_dget hr.units1 (zpv 1) (zpv 0) (fun _ _ => rfl)))) (zpac_n (zpv 1) zpa_nil))))))))))), ?_⟩
    have s100 : ∀ {n : Nat}, n ≤ 100 → n ≤ sizeLine := fun h => Nat.le_trans h (by decide)
    have c6 := tg.c6
    have nd := tg.nd
    have l1 := tg.l1
    have l8 := tg.l8
    have en : ∀ {G : Hp}, Kp H G → endB G xs cs = endB H xs cs := fun {G} k => funext fun c => endB_kp tx.rows k
    refine ⟨_, rfl, t, cs, fs, ps, lg, rfl, tg, ta, tb, fun H1 k1 ta1 tb1 => ?_⟩
    have tg1 := tg.kp k1
    have tx1 := tx.kp k1
    refine ⟨_, rfl, t, cs, fs, ps, lg, rfl, tg1, fun C H2 s2 cm2 => ?_⟩
    refine ⟨_, rfl, t, xs, cs, rfl, tx1.kp (Kp.same s2), nd, c6, fun Ls lv H3 fL s3 hL hlb => ?_⟩
    have K3 : Kp H H3 := k1.trans (Kp.same (s2.trans s3))
    have lb : ∀ c ∈ cs, lastB lv c = endB H xs cs c := fun c hc => by rw [hlb c hc, en (k1.trans (Kp.same s2))]
    clear hlb
    have fL' : H2 Ls = none := fL
    obtain ⟨S, Fr, Pp, xs', h1, h2, rows, h4, h5⟩ := tg1.ex
    have base1 : Same H2 H3 := s3
    have hC3 := cm2.same s3
    refine ⟨_, rfl, Ls, _, rfl, .inl hL, fun o H4 e4 o4 => ?_⟩
    have x4 : Ext Ls H3 H4 := .of_eq o4
    intro B0 hB0
    have S24 : Same H2 H4 := fun b u e => x4 b u (ne_of_none e fL) (s3 b u e)
    have fB0 : H2 B0 = none := S24.free hB0
    have nLB : Ls ≠ B0 := fun z => by rw [← z, e4] at hB0; cases hB0
    refine lr_keys (fun i σ G => (∃ v, σ = [v, some (.int m)]) ∧ Same H4 G ∧ ∃ ad : Nat → Addr, G B0 = some (.dK (dct (cs.take i) fun c => .ref (ad c))) ∧ ∀ c ∈ cs.take i, G (ad c) = some (.lst (intsV (m + 1) oneP))) ⟨⟨_, rfl⟩, same_upd hB0, fun _ => 0, upd_same, fun c hc => by simp at hc⟩ (fun i σ G _ p => p.2.1 _ _ e4) ?_ ?_
    · rintro i k v σ G Cc hkv ⟨⟨v', rfl⟩, sG, ad, hBG, had⟩ nx
      unfold dct at hkv
      rw [List.getElem?_map] at hkv
      obtain ⟨c, hc, e⟩ := Option.map_eq_some_iff.mp hkv
      cases e
      have il := (List.getElem?_eq_some_iff.mp hc).1
      dsimp only [gName]
      rw [if_pos rfl]
      refine ⟨_, rfl, s100 (by decide), ?_⟩
      (intro a1 ga1; generalize hEq : upd _ a1 _ = G1; refine newC hEq ga1 ?_; clear hEq; intro S1 e1 o1)
      refine ⟨s100 (by decide), ?_⟩
      (intro a2 ga2; generalize hEq : upd _ a2 _ = G2; refine newC hEq ga2 ?_; clear hEq; intro S2 e2 o2)
      refine ⟨_, rfl, a2, _, [V.int 0], rfl, rfl, e2, by omega, by omega, s100 (show 1 * ((m : Int)).toNat ≤ 100 by omega), ?_⟩
      (intro a3 ga3; generalize hEq : upd _ a3 _ = G3; refine newC hEq ga3 ?_; clear hEq; intro S3 e3 o3)
      refine ⟨a1, a3, _, _, rfl, rfl, S3 _ _ (S2 _ _ e1), e3, s100 (show 1 + _ ≤ 100 by rw [List.length_flatten, List.map_replicate, List.sum_replicate_nat]; show 1 + ((m : Int)).toNat * 1 ≤ 100; omega), ?_⟩
      (intro a4 ga4; generalize hEq : upd _ a4 _ = G4; refine newC hEq ga4 ?_; clear hEq; intro S4 e4' o4')
      rw [Int.toNat_natCast, one_intsV] at e4'
      have SG : Same G G4 := ((S1.trans S2).trans S3).trans S4
      have hB4 := SG _ _ hBG
      have fa4 : G a4 = none := ((S1.trans S2).trans S3).free ga4
      have nB4 : a4 ≠ B0 := fun z => by rw [z, hBG] at fa4; cases fa4
      have tk : cs.take (i + 1) = cs.take i ++ [c] := by rw [List.take_add_one, hc]; rfl
      have nc := nd_not nd hc
      refine ⟨Sum.inr (sg1 c), _, rfl, hB4, ?_, nx _ _ ⟨⟨_, rfl⟩, fun b o h => by rw [upd_ne (ne_of_none h hB0)]; exact SG _ _ (sG _ _ h), ?_⟩⟩
      · rw [dct_len, List.length_take]
        exact Nat.lt_of_le_of_lt (show min i cs.length ≤ 6 by omega) (by decide)
      · exact dct_more nc tk hB4 (fun d hd => SG _ _ (had d hd)) e4' nB4
    rintro σ G ⟨⟨v, rfl⟩, sG, ad, hBG, had⟩
    rw [dct_len, List.take_length] at hBG had
    have SG : Same H2 G := S24.trans sG
    refine ⟨_, rfl, t, _, _, _, rfl, rfl, SqT.of (SG _ _ (s2 _ _ h1)), rfl, _, _, rfl, rfl, lg - 1, rfl, by omega, by omega, ?_⟩
    have cnt : (lg - 1).toNat = lg.toNat - 1 := by omega
    rw [cnt]
    refine for_range (lo := 0) (n := lg.toNat - 1) (fun k σ G => ∃ Bx v5 v6 ad, σ = [some (.ref t), some (.int m), some (.ref C), some (.ref Ls), some (.ref Bx), v5, v6] ∧ Same H2 G ∧ Rd G Ls (.dK (dct cs lv)) ∧ Bx ≠ Ls ∧ H2 Bx = none ∧ G Bx = some (.dK (dct cs fun c => .ref (ad c))) ∧ ∀ c ∈ cs, G (ad c) = some (.lst (intsV (m + 1) (PB cs (cmT fs ps) (endB H xs cs) k c))))
      ⟨B0, _, _, ad, rfl, SG, .inr ⟨o, sG _ _ e4⟩, nLB.symm, fB0, hBG, had⟩ ?_ ?_
    · rintro k σ G hk ⟨Bx, v5, v6, ad, rfl, SG, rL, nBL, fB, hB, had⟩
      have k7 : k ≤ 7 := by omega
      refine ⟨_, rfl, _, rfl, Bx, Ls, m, cs, ad, _, lv, rfl, nd, c6, m20, nBL, .inl hB, had, rL, fun D ad' G1 x1 fD hD had' => ?_⟩
      have SG1 : Same H2 G1 := fun b u e => x1 b u (ne_of_none e fB) (SG b u e)
      have rL1 : Rd G1 Ls (.dK (dct cs lv)) := rd_ext rL x1 nBL.symm
      have nDL : Ls ≠ D := rd_ne rL fD
      refine ⟨_, rfl, Ls, _, rfl, rL1, fun o2 G2 e2 o2' => ?_⟩
      have x2 : Ext Ls G1 G2 := .of_eq o2'
      have SG2 : Same H2 G2 := fun b u e => x2 b u (ne_of_none e fL') (SG1 b u e)
      have hD2 := x2 _ _ nDL.symm hD
      have had2 : ∀ c ∈ cs, G2 (ad' c) = some (.lst (intsV (m + 1) (QP (PB cs (cmT fs ps) (endB H xs cs) k c) (lastB lv c)))) := fun c hc => x2 _ _ (fun z => by
        have := had' c hc
        rw [z] at this
        rcases rL1 with h | ⟨_, h⟩ <;> · rw [h] at this; cases this) (had' c hc)
      intro B1 hB1
      have nB1L : Ls ≠ B1 := fun z => by rw [← z, e2] at hB1; cases hB1
      have fB1 : H2 B1 = none := SG2.free hB1
      refine lr_keys (fun i σ G3 => (∃ v, σ = [v, some (.int m), some (.ref C), some (.ref D)]) ∧ Same G2 G3 ∧ ∃ ad2 : Nat → Addr, G3 B1 = some (.dK (dct (cs.take i) fun c => .ref (ad2 c))) ∧ ∀ c ∈ cs.take i, G3 (ad2 c) = some (.lst (intsV (m + 1) (PB cs (cmT fs ps) (endB H xs cs) (k + 1) c)))) ⟨⟨_, rfl⟩, same_upd hB1, fun _ => 0, upd_same, fun c hc => by simp at hc⟩ (fun i σ G3 _ p => p.2.1 _ _ e2) ?_ ?_
      · rintro i kk v σ G3 Cc hkv ⟨⟨v', rfl⟩, s3, ad2, hB3, had3⟩ nx
        unfold dct at hkv
        rw [List.getElem?_map] at hkv
        obtain ⟨c, hc, e⟩ := Option.map_eq_some_iff.mp hkv
        cases e
        have cm := List.mem_of_getElem? hc
        have il := (List.getElem?_eq_some_iff.mp hc).1
        dsimp only [gName]
        rw [if_pos rfl]
        obtain ⟨kvs, q1, q2⟩ := (cm2.same (SG2.trans s3)).ex
        obtain ⟨l', q3, q4⟩ := q2 (sg1 c) (List.mem_cons_of_mem _ (List.mem_map.mpr ⟨c, cm, rfl⟩))
        have dg : DGet G3 C (.str (sg1 c)) (some (.ref l')) := by
          have := DGet.k (k := (Sum.inr (sg1 c) : Key)) q1
          rw [q3] at this
          exact this
        refine ⟨_, rfl, _, rfl, _, rfl, C, _, rfl, dg, l', rfl, ⟨_, SqL.of q4⟩, fun M hM => ?_⟩
        refine lr_begun (cs := cs) (ds := cs.filter (cmT fs ps (sg1 c))) (adr := ad') q4 (s3 _ _ hD2) (fun d hd => (List.mem_filter.mp hd).1) (Nat.le_trans (List.length_filter_le _ _) c6) hM fun v2 G4 s4 hM4 => ?_
        have S34 := s3.trans s4
        have eqq : ∀ d ∈ cs, QP (PB cs (cmT fs ps) (endB H xs cs) k d) (lastB lv d) = QP (PB cs (cmT fs ps) (endB H xs cs) k d) (endB H xs cs d) := fun d hd => by rw [lb d hd]
        refine ⟨_, rfl, M, m, (cs.filter (cmT fs ps (sg1 c))).map ad', (cs.filter (cmT fs ps (sg1 c))).map fun d => QP (PB cs (cmT fs ps) (endB H xs cs) k d) (endB H xs cs d), rfl, m20, hM4, by rw [List.length_map, List.length_map], fun j a g e1 e3 => ?_, fun j n hn => P_big c6 k7 _ j n (by omega), fun g hg n hn => P_big1 c6 k7 _ g hg n (by omega), fun L G5 s5 fL5 hL5 => ?_⟩
        · rw [List.getElem?_map] at e1 e3
          obtain ⟨d, hd, rfl⟩ := Option.map_eq_some_iff.mp e1
          rw [hd] at e3
          cases e3
          have dm := (List.mem_filter.mp (List.mem_of_getElem? hd)).1
          have := S34 _ _ (had2 d dm)
          rw [eqq d dm] at this
          exact this
        have S35 := s4.trans s5
        have hB5 := S35 _ _ hB3
        have nLB1 : L ≠ B1 := fun z => by rw [z, s4 _ _ hB3] at fL5; cases fL5
        have tk : cs.take (i + 1) = cs.take i ++ [c] := by rw [List.take_add_one, hc]; rfl
        refine ⟨Sum.inr (sg1 c), _, rfl, hB5, ?_, nx _ _ ⟨⟨_, rfl⟩, fun b o h => by rw [upd_ne (ne_of_none h hB1)]; exact S35 _ _ (s3 _ _ h), ?_⟩⟩
        · rw [dct_len, List.length_take]
          exact Nat.lt_of_le_of_lt (show min i cs.length ≤ 6 by omega) (by decide)
        · exact dct_more (F := fun d => intsV (m + 1) (PB cs (cmT fs ps) (endB H xs cs) (k + 1) d)) (nd_not nd hc) tk hB5 (fun d hd => S35 _ _ (had3 d hd)) hL5 nLB1
      · rintro σ G3 ⟨⟨v', rfl⟩, s3, ad2, hB3, had3⟩
        rw [dct_len, List.take_length] at hB3 had3
        exact ⟨B1, _, _, ad2, rfl, SG2.trans s3, .inr ⟨o2, s3 _ _ e2⟩, nB1L.symm, fB1, hB3, had3⟩
    · rintro σ G ⟨Bx, v5, v6, ad, rfl, SG, rL, nBL, fB, hB, had⟩
      refine ⟨_, rfl, _, rfl, Bx, Ls, m, cs, ad, _, lv, rfl, nd, c6, m20, nBL, .inl hB, had, rL, fun D ad' G1 x1 fD hD had' => ?_⟩
      have SG1 : Same H2 G1 := fun b u e => x1 b u (ne_of_none e fB) (SG b u e)
      obtain ⟨kvs, q1, q2⟩ := (cm2.same SG1).ex
      obtain ⟨l', q3, q4⟩ := q2 "" List.mem_cons_self
      have dg : DGet G1 C (.str "") (some (.ref l')) := by
        have := DGet.k (k := (Sum.inr "" : Key)) q1
        rw [q3] at this
        exact this
      refine ⟨_, rfl, C, _, rfl, dg, l', rfl, ⟨_, SqL.of q4⟩, fun M hM => ?_⟩
      refine lr_begun (cs := cs) (ds := cs.filter (cmT fs ps "")) (adr := ad') q4 hD (fun d hd => (List.mem_filter.mp hd).1) (Nat.le_trans (List.length_filter_le _ _) c6) hM fun v2 G4 s4 hM4 => ?_
      have eqq : ∀ d ∈ cs, QP (PB cs (cmT fs ps) (endB H xs cs) (lg.toNat - 1) d) (lastB lv d) = QP (PB cs (cmT fs ps) (endB H xs cs) (lg.toNat - 1) d) (endB H xs cs d) := fun d hd => by rw [lb d hd]
      refine ⟨_, rfl, M, m, (cs.filter (cmT fs ps "")).map ad', (cs.filter (cmT fs ps "")).map fun d => QP (PB cs (cmT fs ps) (endB H xs cs) (lg.toNat - 1) d) (endB H xs cs d), rfl, m20, hM4, by rw [List.length_map, List.length_map], fun j a g e1 e3 => ?_, fun j n hn => P_big c6 (by omega) _ j n (by omega), fun g hg n hn => P_big1 c6 (by omega) _ g hg n (by omega), fun L G5 s5 fL5 hL5 => ?_⟩
      · rw [List.getElem?_map] at e1 e3
        obtain ⟨d, hd, rfl⟩ := Option.map_eq_some_iff.mp e1
        rw [hd] at e3
        cases e3
        have dm := (List.mem_filter.mp (List.mem_of_getElem? hd)).1
        have := s4 _ _ (had' d dm)
        rw [eqq d dm] at this
        exact this
      have S25 : Same H2 G5 := (SG1.trans s4).trans s5
      have K5 : Kp H G5 := (k1.trans (Kp.same s2)).trans (Kp.same S25)
      have fLh : H2 L = none := (SG1.trans s4).free fL5
      refine q L G5 K5 ((ta1.same s2).same S25) ((tb1.same s2).same S25) (Fs.of (k1.trans (Kp.same s2)) fLh) hL5
end
end G1
namespace G1
open PySem L2 GM
def lastS (t : Str) : Str := cutS t (some (-1)) none
def lastC (t : Str) : Nat := (t.cps[t.cps.size - 1]?).getD 0
theorem cut_all (z : Str) : cutS z none (some (z.cps.size : Int)) = z := by
  unfold cutS
  have : HT.sIx z.length z.length (some (z.cps.size : Int)) = z.cps.size := by
    rw [HT.sIx_nat]
    have : z.length = z.cps.size := rfl
    omega
  rw [this]
  show (⟨((z.cps.toList.drop 0).take (z.cps.size - 0)).toArray⟩ : Str) = _
  rw [List.drop_zero, Nat.sub_zero, List.take_of_length_le (by simp)]
theorem lastS_prv (z : Str) : lastS z = prv z z.cps.size := by
  have := prv_cut (z := z) (k := z.cps.size) (Nat.le_refl _)
  rw [cut_all] at this
  exact this
theorem lastS_nil : lastS "" = "" := by rw [lastS_prv]; rfl
theorem snoc_size (t : Str) (c : Nat) : (t ++ sg1 c : Str).cps.size = t.cps.size + 1 := by rw [cps_app, Array.size_append]; rfl
theorem snoc_at (t : Str) (c : Nat) : (t ++ sg1 c : Str).cps[t.cps.size]? = some c := by
  rw [cps_app, Array.getElem?_append_right (Nat.le_refl _), Nat.sub_self]; rfl
theorem lastS_snoc (t : Str) (c : Nat) : lastS (t ++ sg1 c) = sg1 c := by rw [lastS_prv, snoc_size, prv_succ (snoc_at t c)]
theorem lastC_snoc (t : Str) (c : Nat) : lastC (t ++ sg1 c) = c := by
  unfold lastC
  rw [snoc_size, Nat.add_sub_cancel, snoc_at]; rfl
section
variable (cs : List Nat) (cm : Str → Nat → Bool)
def nextC (t : Str) : List Nat := cs.filter (cm (lastS t))
def stepL (ts : List Str) : List Str := ts.flatMap fun t => (nextC cs cm t).map fun c => t ++ sg1 c
def lvl : Nat → List Str
  | 0 => [""]
  | k + 1 => stepL cs cm (lvl k)
variable {cs cm}
theorem mem_step {ts : List Str} {z : Str} (h : z ∈ stepL cs cm ts) : ∃ t ∈ ts, ∃ c ∈ cs, cm (lastS t) c = true ∧ z = t ++ sg1 c := by
  obtain ⟨t, ht, hz⟩ := List.mem_flatMap.mp h
  obtain ⟨c, hc, rfl⟩ := List.mem_map.mp hz
  obtain ⟨c1, c2⟩ := List.mem_filter.mp hc
  exact ⟨t, ht, c, c1, c2, rfl⟩
theorem lvl_size : ∀ {k : Nat} {z : Str}, z ∈ lvl cs cm k → z.cps.size = k
  | 0, z, h => by rw [List.mem_singleton.mp h]; rfl
  | k + 1, z, h => by
    obtain ⟨t, ht, c, _, _, rfl⟩ := mem_step h
    rw [snoc_size, lvl_size ht]
theorem lvl_last {k : Nat} {z : Str} (h : z ∈ lvl cs cm (k + 1)) : lastC z ∈ cs ∧ lastS z = sg1 (lastC z) ∧ z.cps[z.cps.size - 1]? = some (lastC z) := by
  obtain ⟨t, ht, c, hc, _, rfl⟩ := mem_step h
  rw [lastC_snoc, lastS_snoc]
  exact ⟨hc, rfl, by rw [snoc_size, Nat.add_sub_cancel, snoc_at]⟩
theorem lvl_len {m : Nat} (h : cs.length ≤ m) : ∀ k, (lvl cs cm k).length ≤ m ^ k
  | 0 => by simp [lvl]
  | k + 1 => by
    have ih := lvl_len h k
    have : (stepL cs cm (lvl cs cm k)).length ≤ (lvl cs cm k).length * m := by
      unfold stepL
      generalize lvl cs cm k = L
      induction L with
      | nil => simp
      | cons t L ih =>
        rw [List.flatMap_cons, List.length_append, List.length_map, List.length_cons, Nat.succ_mul]
        have : (nextC cs cm t).length ≤ m := Nat.le_trans (List.length_filter_le _ _) h
        omega
    show (stepL cs cm (lvl cs cm k)).length ≤ _
    rw [Nat.pow_succ]
    exact Nat.le_trans this (Nat.mul_le_mul_right _ ih)
end
end G1
namespace G1
open PySem L2 GM
section
variable {α : Type} (cl : α → α → Bool)
def freeB (w : α) (s : List α) : Bool := s.all fun v => !cl w v
def SR : List α → List (List α)
  | [] => [[]]
  | w :: W => SR W ++ ((SR W).filter (freeB cl w)).map fun s => s ++ [w]
def IP (W : List α) (k : Nat) : Nat := ((SR cl W).map List.length).count k
variable {cl}
theorem free_snoc (v w : α) (s : List α) : freeB cl v (s ++ [w]) = (freeB cl v s && !cl v w) := by
  unfold freeB
  rw [List.all_append]
  simp
theorem SR_filter (v : α) : ∀ W : List α, (SR cl W).filter (freeB cl v) = SR cl (W.filter fun w => !cl v w)
  | [] => rfl
  | w :: W => by
    have ih := SR_filter v W
    show ((SR cl W) ++ ((SR cl W).filter (freeB cl w)).map fun s => s ++ [w]).filter (freeB cl v) = _
    rw [List.filter_append, List.filter_map, ih]
    have ec : (freeB cl v) ∘ (fun s => s ++ [w]) = fun s => freeB cl v s && !cl v w := funext fun s => free_snoc v w s
    rw [ec]
    cases h : cl v w with
    | true =>
      rw [List.filter_cons_of_neg (by simp [h])]
      have : ((SR cl W).filter (freeB cl w)).filter (fun s => freeB cl v s && !true) = [] := by
        rw [List.filter_eq_nil_iff]
        intro s _ hs
        simp at hs
      rw [this, List.map_nil, List.append_nil]
    | false =>
      rw [List.filter_cons_of_pos (by simp [h])]
      show _ = SR cl (W.filter fun w => !cl v w) ++ ((SR cl (W.filter fun w => !cl v w)).filter (freeB cl w)).map fun s => s ++ [w]
      rw [← ih, List.filter_filter, List.filter_filter]
      have e : (fun s => (freeB cl v s && !false) && freeB cl w s) = fun s => freeB cl w s && freeB cl v s := funext fun s => by simp [Bool.and_comm]
      rw [e]
theorem count_succ : ∀ (l : List Nat) (k : Nat), (l.map (· + 1)).count k = if k = 0 then 0 else l.count (k - 1)
  | [], k => by simp
  | a :: l, k => by
    rw [List.map_cons, List.count_cons, count_succ l k, List.count_cons]
    cases k with
    | zero => simp
    | succ k => simp
def shF (f : Nat → Nat) (k : Nat) : Nat := if k = 0 then 0 else f (k - 1)
theorem IP_nil : IP cl [] = oneP := funext fun k => by
  show ([0] : List Nat).count k = _
  unfold oneP
  cases k <;> simp [List.count_cons]
theorem IP_cons (w : α) (W : List α) : IP cl (w :: W) = fun k => IP cl W k + shF (IP cl (W.filter fun v => !cl w v)) k := funext fun k => by
  unfold IP
  show ((SR cl W ++ ((SR cl W).filter (freeB cl w)).map fun s => s ++ [w]).map List.length).count k = _
  rw [List.map_append, List.count_append, List.map_map, SR_filter]
  have e : (List.length ∘ fun s : List α => s ++ [w]) = (· + 1) ∘ List.length := funext fun s => by simp
  rw [e, ← List.map_map, count_succ]
  rfl
theorem IP_perm (sy : ∀ a b, cl a b = cl b a) {W W' : List α} (h : W.Perm W') : ∀ p : α → Bool, IP cl (W.filter p) = IP cl (W'.filter p) := by
  induction h with
  | nil => intro p; rfl
  | cons w h ih =>
    intro p
    by_cases e : p w = true
    · rw [List.filter_cons_of_pos e, List.filter_cons_of_pos e, IP_cons, IP_cons, List.filter_filter, List.filter_filter, ih, ih]
    · rw [List.filter_cons_of_neg e, List.filter_cons_of_neg e, ih]
  | swap x y l =>
    intro p
    by_cases e1 : p x = true <;> by_cases e2 : p y = true
    · rw [List.filter_cons_of_pos e2, List.filter_cons_of_pos e1, List.filter_cons_of_pos e1, List.filter_cons_of_pos e2]
      rw [IP_cons, IP_cons, IP_cons, IP_cons]
      cases c : cl x y with
      | true =>
        have c' : cl y x = true := by rw [sy]; exact c
        rw [List.filter_cons_of_neg (by simp [c']), List.filter_cons_of_neg (by simp [c])]
        funext k
        dsimp only
        omega
      | false =>
        have c' : cl y x = false := by rw [sy]; exact c
        rw [List.filter_cons_of_pos (by simp [c']), List.filter_cons_of_pos (by simp [c]), IP_cons, IP_cons]
        have e : ((l.filter p).filter fun v => !cl y v).filter (fun v => !cl x v) = ((l.filter p).filter fun v => !cl x v).filter (fun v => !cl y v) := by
          rw [List.filter_filter, List.filter_filter (l := l.filter p)]
          congr 1
          funext v
          rw [Bool.and_comm]
        rw [e]
        funext k
        unfold shF
        dsimp only
        split <;> omega
    · rw [List.filter_cons_of_neg e2, List.filter_cons_of_pos e1, List.filter_cons_of_pos e1, List.filter_cons_of_neg e2]
    · rw [List.filter_cons_of_pos e2, List.filter_cons_of_neg e1, List.filter_cons_of_neg e1, List.filter_cons_of_pos e2]
    · rw [List.filter_cons_of_neg e2, List.filter_cons_of_neg e1, List.filter_cons_of_neg e1, List.filter_cons_of_neg e2]
  | trans _ _ ih1 ih2 => intro p; rw [ih1, ih2]
theorem conv_one (f : Nat → Nat) : conv oneP f = f := funext fun k => by
  unfold conv
  rw [List.range_succ_eq_map, List.map_cons, List.sum_cons, List.map_map]
  have : ((List.range k).map ((fun i => oneP i * f (k - i)) ∘ Nat.succ)).sum = 0 := by
    generalize List.range k = l
    induction l with
    | nil => rfl
    | cons a l ih => rw [List.map_cons, List.sum_cons, ih]; simp [oneP]
  rw [this]
  simp [oneP]
theorem conv_sh (f g : Nat → Nat) : conv (shF f) g = shF (conv f g) := funext fun k => by
  cases k with
  | zero => unfold conv shF; simp
  | succ k =>
    show _ = conv f g k
    unfold conv
    rw [List.range_succ_eq_map, List.map_cons, List.sum_cons, List.map_map]
    show shF f 0 * g (k + 1 - 0) + _ = _
    rw [show shF f 0 = 0 from rfl, Nat.zero_mul, Nat.zero_add]
    congr 1
    apply List.map_congr_left
    intro i hi
    show shF f (i + 1) * g (k + 1 - (i + 1)) = _
    rw [show k + 1 - (i + 1) = k - i by omega]
    rfl
theorem conv_addl (f f' g : Nat → Nat) : conv (fun k => f k + f' k) g = fun k => conv f g k + conv f' g k := funext fun k => by
  unfold conv
  generalize List.range (k + 1) = l
  induction l with
  | nil => rfl
  | cons a l ih =>
    rw [List.map_cons, List.map_cons, List.map_cons, List.sum_cons, List.sum_cons, List.sum_cons, ih, Nat.add_mul]
    omega
theorem IP_app : ∀ (n : Nat) (A B : List α), A.length ≤ n → (∀ a ∈ A, ∀ b ∈ B, cl a b = false) → IP cl (A ++ B) = conv (IP cl A) (IP cl B)
  | _, [], B, _, _ => by rw [IP_nil, conv_one]; rfl
  | n + 1, w :: A, B, hn, h => by
    have ln : A.length ≤ n := by simpa using hn
    have hB : B.filter (fun v => !cl w v) = B := List.filter_eq_self.mpr fun b hb => by rw [h w List.mem_cons_self b hb]; rfl
    rw [List.cons_append, IP_cons, List.filter_append, hB, IP_app n A B ln fun a ha => h a (List.mem_cons_of_mem _ ha),
      IP_app n (A.filter _) B (Nat.le_trans (List.length_filter_le _ _) ln) fun a ha => h a (List.mem_cons_of_mem _ (List.mem_filter.mp ha).1), IP_cons, conv_addl, conv_sh]
theorem IP_over (w : α) (R : List α) (h : ∀ b ∈ R, cl w b = true) : IP cl (w :: R) = fun k => QP (IP cl R) true k := by
  rw [IP_cons]
  have e : R.filter (fun v => !cl w v) = [] := by
    rw [List.filter_eq_nil_iff]
    intro b hb z
    rw [h b hb] at z
    cases z
  rw [e, IP_nil]
  funext k
  unfold shF QP oneP
  match k with
  | 0 => simp
  | 1 => simp
  | k + 2 => simp
theorem IP_flat (G : Nat → List α) : ∀ (ds : List Nat) (A : List α), (∀ a ∈ A, ∀ d ∈ ds, ∀ b ∈ G d, cl a b = false) → ds.Nodup → (∀ d ∈ ds, ∀ e ∈ ds, d ≠ e → ∀ a ∈ G d, ∀ b ∈ G e, cl a b = false) →
    IP cl (A ++ ds.flatMap G) = (ds.map fun d => IP cl (G d)).foldl conv (IP cl A)
  | [], A, _, _, _ => by simp
  | d :: ds, A, h1, nd, h2 => by
    rw [List.flatMap_cons, ← List.append_assoc, List.map_cons, List.foldl_cons, ← IP_app _ A (G d) (Nat.le_refl _) fun a ha b hb => h1 a ha d List.mem_cons_self b hb]
    refine IP_flat G ds (A ++ G d) (fun a ha e he b hb => ?_) (List.nodup_cons.mp nd).2 fun d' hd e he => h2 d' (List.mem_cons_of_mem _ hd) e (List.mem_cons_of_mem _ he)
    rcases List.mem_append.mp ha with ha | ha
    · exact h1 a ha e (List.mem_cons_of_mem _ he) b hb
    · exact h2 d List.mem_cons_self e (List.mem_cons_of_mem _ he) (fun z => (List.nodup_cons.mp nd).1 (z ▸ he)) a ha b hb
end
def Lz (z : Str) : List Nat := z.cps.toList
def clash (a b : Str) : Bool := (Lz a).isPrefixOf (Lz b) || (Lz b).isPrefixOf (Lz a)
theorem clash_sym (a b : Str) : clash a b = clash b a := Bool.or_comm _ _
theorem Lz_snoc (t : Str) (c : Nat) : Lz (t ++ sg1 c) = Lz t ++ [c] := by
  unfold Lz
  rw [cps_app, Array.toList_append]
  rfl
section
variable (cs : List Nat) (cm : Str → Nat → Bool)
def bfs : Nat → List Str → List Str
  | 0, _ => []
  | s + 1, ts => stepL cs cm ts ++ bfs s (stepL cs cm ts)
def blk : Nat → Str → List Str
  | 0, _ => []
  | s + 1, t => (nextC cs cm t).flatMap fun d => (t ++ sg1 d) :: blk s (t ++ sg1 d)
variable {cs cm}
theorem flat_cons_perm {α : Type} (f : α → List α) : ∀ l : List α, (l.flatMap fun u => u :: f u).Perm (l ++ l.flatMap f)
  | [] => .nil
  | u :: l => by
    rw [List.flatMap_cons, List.flatMap_cons, List.cons_append, List.cons_append]
    refine .cons u ?_
    refine (List.Perm.append_left _ (flat_cons_perm f l)).trans ?_
    rw [← List.append_assoc, ← List.append_assoc]
    exact List.Perm.append_right _ List.perm_append_comm
theorem dfs_bfs : ∀ (s : Nat) (ts : List Str), (ts.flatMap (blk cs cm s)).Perm (bfs cs cm s ts)
  | 0, ts => by
    have : ts.flatMap (blk cs cm 0) = [] := by
      induction ts with
      | nil => rfl
      | cons t ts ih => rw [List.flatMap_cons, ih]; rfl
    rw [this]
    exact .nil
  | s + 1, ts => by
    have e : ts.flatMap (blk cs cm (s + 1)) = (stepL cs cm ts).flatMap fun u => u :: blk cs cm s u := by
      unfold stepL
      rw [List.flatMap_assoc]
      congr 1
      funext t
      rw [List.flatMap_map]
      rfl
    rw [e]
    exact (flat_cons_perm _ _).trans (List.Perm.append_left _ (dfs_bfs s _))
theorem blk_pre : ∀ (s : Nat) (t z : Str), z ∈ blk cs cm s t → ∃ w, w ≠ [] ∧ Lz z = Lz t ++ w
  | 0, t, z, h => by cases h
  | s + 1, t, z, h => by
    obtain ⟨d, hd, hz⟩ := List.mem_flatMap.mp h
    rcases List.mem_cons.mp hz with rfl | hz
    · exact ⟨[d], by simp, Lz_snoc t d⟩
    · obtain ⟨w, _, e⟩ := blk_pre s _ z hz
      exact ⟨d :: w, by simp, by rw [e, Lz_snoc, List.append_assoc]; rfl⟩
theorem clash_under {t z : Str} {w : List Nat} (e : Lz z = Lz t ++ w) : clash t z = true := by
  unfold clash
  rw [e]
  have : (Lz t).isPrefixOf (Lz t ++ w) = true := List.isPrefixOf_iff_prefix.mpr (List.prefix_append _ _)
  rw [this]
  rfl
theorem clash_side {t y z : Str} {d e : Nat} {w w' : List Nat} (ne : d ≠ e) (ey : Lz y = Lz t ++ d :: w) (ez : Lz z = Lz t ++ e :: w') : clash y z = false := by
  have h : ∀ (d e : Nat) (w w' : List Nat), d ≠ e → (Lz t ++ d :: w).isPrefixOf (Lz t ++ e :: w') = false := fun d e w w' ne => by
    cases q : (Lz t ++ d :: w).isPrefixOf (Lz t ++ e :: w') with
    | false => rfl
    | true =>
      have := List.isPrefixOf_iff_prefix.mp q
      rw [List.prefix_append_right_inj, List.cons_prefix_cons] at this
      exact absurd this.1 ne
  unfold clash
  rw [ey, ez, h d e w w' ne, h e d w' w (Ne.symm ne)]
  rfl
theorem blk_count (en : Nat → Bool) (nd : cs.Nodup) : ∀ (s : Nat) (t : Str), IP clash ((blk cs cm (s + 1) t).filter fun z => en (lastC z)) = prodP ((nextC cs cm t).map fun d => QP (IP clash ((blk cs cm s (t ++ sg1 d)).filter fun z => en (lastC z))) (en d)) := fun s t => by
  show IP clash (((nextC cs cm t).flatMap fun d => (t ++ sg1 d) :: blk cs cm s (t ++ sg1 d)).filter _) = _
  rw [List.filter_flatMap]
  have h := IP_flat (cl := clash) (fun d => ((t ++ sg1 d) :: blk cs cm s (t ++ sg1 d)).filter fun z => en (lastC z)) (nextC cs cm t) [] (fun a ha => by cases ha) (nd.filter _) (fun d _ e _ ne a ha b hb => by
    have pre : ∀ (d : Nat) (a : Str), a ∈ ((t ++ sg1 d) :: blk cs cm s (t ++ sg1 d)).filter (fun z => en (lastC z)) → ∃ w, Lz a = Lz t ++ d :: w := fun d a ha => by
      rcases List.mem_cons.mp (List.mem_filter.mp ha).1 with rfl | h
      · exact ⟨[], Lz_snoc t d⟩
      · obtain ⟨w, _, e⟩ := blk_pre s _ a h
        exact ⟨w, by rw [e, Lz_snoc, List.append_assoc]; rfl⟩
    obtain ⟨w, e1⟩ := pre d a ha
    obtain ⟨w', e2⟩ := pre e b hb
    exact clash_side ne e1 e2)
  rw [List.nil_append, IP_nil] at h
  rw [h]
  unfold prodP
  congr 2
  funext d
  cases hd : en d with
  | true =>
    rw [List.filter_cons_of_pos (by rw [lastC_snoc]; exact hd), IP_over]
    intro b hb
    obtain ⟨w, _, e⟩ := blk_pre s _ b (List.mem_filter.mp hb).1
    exact clash_under e
  | false =>
    rw [List.filter_cons_of_neg (by rw [lastC_snoc, hd]; decide)]
    funext k
    unfold QP
    rw [if_neg (by simp)]
theorem blk_PB (en : Nat → Bool) (nd : cs.Nodup) : ∀ (s : Nat) (t : Str) (c : Nat), lastS t = sg1 c → IP clash ((blk cs cm s t).filter fun z => en (lastC z)) = PB cs cm en s c
  | 0, t, c, _ => IP_nil
  | s + 1, t, c, h => by
    rw [blk_count en nd]
    show _ = prodP ((cs.filter (cm (sg1 c))).map fun d => QP (PB cs cm en s d) (en d))
    unfold nextC
    rw [h]
    congr 2
    funext d
    rw [blk_PB en nd s (t ++ sg1 d) d (lastS_snoc t d)]
theorem bfs_PF (en : Nat → Bool) (nd : cs.Nodup) (s : Nat) : IP clash ((bfs cs cm (s + 1) [""]).filter fun z => en (lastC z)) = PF cs cm en s := by
  have p := dfs_bfs (cs := cs) (cm := cm) (s + 1) [""]
  rw [← IP_perm clash_sym p, List.flatMap_cons, List.flatMap_nil, List.append_nil, blk_count en nd]
  unfold PF nextC
  rw [lastS_nil]
  congr 2
  funext d
  rw [blk_PB en nd s _ d (lastS_snoc "" d)]
end
end G1
namespace G1
open PySem L2 GM
def allT (cs : List Nat) (cm : Str → Nat → Bool) (n : Nat) : List Str := (List.range n).flatMap fun k => lvl cs cm (k + 1)
theorem allT_succ (cs : List Nat) (cm : Str → Nat → Bool) (n : Nat) : allT cs cm (n + 1) = allT cs cm n ++ lvl cs cm (n + 1) := by
  unfold allT
  rw [List.range_succ, List.flatMap_append]
  simp
theorem lvl_1024 {cs : List Nat} {cm : Str → Nat → Bool} (h : cs.length ≤ 4) {k : Nat} (hk : k ≤ 5) : (lvl cs cm k).length ≤ 1024 :=
  Nat.le_trans (lvl_len h k) (Nat.le_trans (Nat.pow_le_pow_right (by decide) hk) (by decide))
theorem allT_len {cs : List Nat} {cm : Str → Nat → Bool} (h : cs.length ≤ 4) : ∀ {n : Nat}, n ≤ 5 → (allT cs cm n).length ≤ n * 1024
  | 0, _ => Nat.zero_le _
  | n + 1, hn => by
    rw [allT_succ, List.length_append]
    have := allT_len (cm := cm) h (n := n) (by omega)
    have := lvl_1024 (cm := cm) h hn
    omega
theorem allT_size {cs : List Nat} {cm : Str → Nat → Bool} {n : Nat} (hn : n ≤ 8) : ∀ z ∈ allT cs cm n, z.length ≤ 8 ∧ 1 ≤ z.cps.size ∧ lastC z ∈ cs ∧ z.cps[z.cps.size - 1]? = some (lastC z) := fun z hz => by
  unfold allT at hz
  obtain ⟨k, hk, hz⟩ := List.mem_flatMap.mp hz
  have kl := List.mem_range.mp hk
  have := lvl_size hz
  obtain ⟨a, b, c⟩ := lvl_last hz
  exact ⟨by show z.cps.size ≤ 8; omega, by omega, a, c⟩
theorem bfs_lvl (cs : List Nat) (cm : Str → Nat → Bool) : ∀ (s i : Nat), bfs cs cm s (lvl cs cm i) = (List.range s).flatMap fun k => lvl cs cm (i + k + 1)
  | 0, _ => rfl
  | s + 1, i => by
    show lvl cs cm (i + 1) ++ bfs cs cm s (lvl cs cm (i + 1)) = _
    rw [bfs_lvl cs cm s (i + 1), List.range_succ_eq_map, List.flatMap_cons, List.flatMap_map]
    congr 2
    funext k
    show lvl cs cm (i + 1 + k + 1) = lvl cs cm (i + (k + 1) + 1)
    congr 1
    omega
theorem bfs_allT (cs : List Nat) (cm : Str → Nat → Bool) (s : Nat) : bfs cs cm s [""] = allT cs cm s := by
  have := bfs_lvl cs cm s 0
  unfold allT
  rw [show ([""] : List Str) = lvl cs cm 0 from rfl, this]
  congr 1
  funext k
  congr 1
  omega
theorem flat_take_leX {f : Str → List Str} (ts : List Str) (i : Nat) : ((ts.take i).flatMap f).length ≤ (ts.flatMap f).length := by
  have : ts.flatMap f = (ts.take i).flatMap f ++ (ts.drop i).flatMap f := by rw [← List.flatMap_append, List.take_append_drop]
  rw [this, List.length_append]
  omega
section
variable {P : Program} {w : World} {K : PySem.W.Frag} {mg : Str → Option Value} {base : Heap}
def spLonger : Sp := fun vs H Q _ => ∃ (t : Addr) (cs : List Nat) (fs ps : List Str) (lg : Int) (z : Str), vs = [.ref t, .str z] ∧ Tg H t cs fs ps lg ∧ z.length ≤ 8 ∧ ∀ L H', Same H H' → H L = none → H' L = some (.lst (txs ((nextC cs (cmT fs ps) z).map fun c => z ++ sg1 c))) → Q (.ref L) H'
theorem scLg : FnScope ["_law_tongue_here", "_law_text"] ["_law_tongue_here", "_law_text"] (defScope sLonger) := ⟨rfl, rfl, rfl, by decide +kernel, rfl, by decide +kernel, by decide +kernel⟩
theorem ok_longer {f fM : Addr} {fd fdM : FuncData} (F : FunG K "_law_longer" "_law_longer" sLonger .none f fd) (B : Bl mg)
    (GM : FnOk P w K mg base (CXE P w) 1 fM fdM ["_law_tongue_here", "_law_ahead", "_law_sign_here"] spFollows) (mM : mg "_law_comes" = some (.ref fM)) (kM : PySem.W.keepIn K (.ref fM) = true) (bM : Binds K fdM ["_law_tongue_here", "_law_ahead", "_law_sign_here"] []) : FnOk P w K mg base (CXE P w) 2 f fd ["_law_tongue_here", "_law_text"] spLonger := by
  refine F.zokN scLg (fun vs H Q E h => ?_) (fun cdv A outer s H vs Q E hr h => ?_)
  · obtain ⟨t, cs, fs, ps, lg, z, rfl, _⟩ := h
    rfl
  · obtain ⟨t, cs, fs, ps, lg, z, rfl, tg, zl, q⟩ := h
    refine ⟨_, (zpss_one (zps_ret (zpe_compL ["_law_tongue_here", "_law_text"] ["_law_one"] [0, 1] (defScope sLonger) rfl rfl rfl ⟨by decide +kernel, by decide +kernel, by decide +kernel, by decide +kernel, by decide +kernel⟩ (zpi_list (zpe_ix ix_tup (zpv 0) zpe_int (fun _ _ => rfl))) (fun s H fp => (zpg_name (i := 0) (show List.Nodup [("_law_one" : Str), "_law_tongue_here", "_law_text"] by decide +kernel) rfl (Or.inl rfl))) (fun s H fp => (zpts_one (zpt_val (zpe_call GM hr (by rfl) mM kM bM .nil passE0 (zpac_n (zpv 1) (zpac_s (zpe_slice sl_str (zpv 2) (zpo_some (zpe_un un_neg zpe_int)) zpo_none) (zpac_s (zpe_ix (ix_tupK K rfl) (zpv 0) zpe_int (fun _ _ => rfl)) zpa_nil))))))) (fun s H fp => (zpe_op op_add_str (zpv 2) (zpe_ix (ix_tupK K rfl) (zpv 0) zpe_int (fun _ _ => rfl))))))), ?_⟩
    obtain ⟨S, Fr, Pp, xs, h1, h2, rows, h4, h5⟩ := tg.ex
    have c6 := tg.c6
    refine ⟨_, rfl, t, _, _, _, rfl, rfl, SqT.of h1, rfl, S, rfl, ⟨_, SqL.of h2⟩, fun M hM => ?_⟩
    have sM := same_upd (o := .lst []) hM
    refine lr_list (xs := xs) (fun i σ G => (∃ v, σ = [v, some (.ref t), some (.str z)]) ∧ Same H G ∧ G M = some (.lst (txs (((cs.take i).filter (cmT fs ps (lastS z))).map fun c => z ++ sg1 c)))) ⟨⟨_, rfl⟩, sM, upd_same⟩ (fun i σ G p => SqL.of (p.2.1 _ _ h2)) ?_ ?_
    · rintro i x σ G C hx ⟨⟨v, rfl⟩, sG, hMG⟩ nx
      obtain ⟨c, hc, row⟩ := rows.at hx
      obtain ⟨a, p', la, rfl, ha, _⟩ := row.ex
      have ha6 := sG _ _ ha
      have il := (List.getElem?_eq_some_iff.mp hc).1
      have tc : cs.take (i + 1) = cs.take i ++ [c] := by rw [List.take_add_one, hc]; rfl
      dsimp only [gName]
      refine ⟨_, rfl, _, rfl, _, rfl, _, rfl, z, rfl, Nat.le_trans zl (by decide), _, rfl, a, _, _, _, rfl, rfl, SqT.of ha6, rfl, t, cs, fs, ps, lg, lastS z, sg1 c, rfl, tg.kp (Kp.same sG), ?_, by show (1 : Nat) ≤ 100; decide, _, rfl, ?_⟩
      · have := cutS_len z (some (-1)) none
        exact Nat.le_trans this (by omega)
      refine ite2 (fun e => ?_) (fun e => ?_)
      · refine ⟨_, rfl, _, rfl, a, _, _, _, rfl, rfl, SqT.of ha6, rfl, _, _, rfl, rfl, ?_, _, hMG, ?_, nx _ _ ⟨⟨_, rfl⟩, fun u o h => by rw [upd_ne (ne_of_none h hM)]; exact sG _ _ h, ?_⟩⟩
        · have : (sg1 c).length = 1 := rfl
          exact Nat.le_trans (show z.length + (sg1 c).length ≤ 9 by omega) (by decide)
        · rw [txs_len, List.length_map]
          refine Nat.lt_of_le_of_lt (List.length_filter_le _ _) ?_
          rw [List.length_take]
          exact Nat.lt_of_le_of_lt (show min i cs.length ≤ 6 by omega) (by decide)
        · rw [upd_same, tc, List.filter_append, List.filter_cons_of_pos (p := cmT fs ps (lastS z)) (a := c) e, List.map_append]
          unfold txs
          rw [List.map_append]; rfl
      · refine nx _ _ ⟨⟨_, rfl⟩, sG, ?_⟩
        rw [tc, List.filter_append, List.filter_cons_of_neg (p := cmT fs ps (lastS z)) (a := c) e, List.filter_nil, List.append_nil]
        exact hMG
    · rintro σ G ⟨⟨v, rfl⟩, sG, hMG⟩
      rw [rows.len, List.take_length] at hMG
      exact q M G sG hM hMG
def spTexts : Sp := fun vs H Q _ => ∃ (t : Addr) (cs : List Nat) (fs ps : List Str) (lg : Int), vs = [.ref t] ∧ Tg H t cs fs ps lg ∧ cs.length ≤ 4 ∧ lg ≤ 5 ∧ ∀ L H', Same H H' → H L = none → H' L = some (.lst (txs (allT cs (cmT fs ps) lg.toNat))) → Q (.ref L) H'
theorem scTs : FnScope ["_law_tongue_here", "_law_found", "_law_row", "_law_deep", "_law_longer_here", "_law_text"] ["_law_tongue_here"] (defScope sTexts) := ⟨rfl, rfl, rfl, by decide +kernel, rfl, by decide +kernel, by decide +kernel⟩
theorem ok_texts {f fL : Addr} {fd fdL : FuncData} (F : FunG K "_law_texts" "_law_texts" sTexts .none f fd) (B : Bl mg)
    (GL : FnOk P w K mg base (CXE P w) 2 fL fdL ["_law_tongue_here", "_law_text"] spLonger) (mL : mg "_law_longer" = some (.ref fL)) (kL : PySem.W.keepIn K (.ref fL) = true) (bL : Binds K fdL ["_law_tongue_here", "_law_text"] []) : FnOk P w K mg base (CXE P w) 3 f fd ["_law_tongue_here"] spTexts := by
  refine F.zokN scTs (fun vs H Q E h => ?_) (fun cdv A outer s H vs Q E hr h => ?_)
  · obtain ⟨t, cs, fs, ps, lg, rfl, _⟩ := h
    rfl
  · obtain ⟨t, cs, fs, ps, lg, rfl, tg, c4, l5, q⟩ := h
    refine ⟨_, (zpss_cons (zps_set (i := 1) scTs.nd rfl (Or.inl rfl) (zpe_lst zpa_nil))
      (zpss_cons (zps_set (i := 2) scTs.nd rfl (Or.inl rfl) (zpe_lst (zpac_c zpe_str zpa_nil)))
      (zpss_cons (zps_for PassesOwn.never rfl (zpi_range1 (by rfl) B.range (zpac_s (zpe_ix ix_tup (zpv 0) zpe_int (fun _ _ => rfl)) zpa_nil)) (zpg_name (i := 3) scTs.nd rfl (Or.inl rfl))
          (zpss_cons (zps_set (i := 4) scTs.nd rfl (Or.inl rfl) (zpe_lst zpa_nil))
      (zpss_cons (zps_for PassesOwn.never rfl (zpi_list (zpv 2)) (zpg_name (i := 5) scTs.nd rfl (Or.inl rfl))
              (zpss_one (zps_set (i := 4) scTs.nd rfl (Or.inl rfl) (zpe_op op_cat (zpv 4) (zpe_call GL hr (by rfl) mL kL bL .nil passE0 (zpac_n (zpv 0) (zpac_n (zpv 5) zpa_nil)))))))
      (zpss_cons (zps_set (i := 1) scTs.nd rfl (Or.inl rfl) (zpe_op op_cat (zpv 1) (zpv 4)))
      (zpss_one (zps_set (i := 2) scTs.nd rfl (Or.inl rfl) (zpv 4)))))))
      (zpss_one (zps_ret (zpv 1)))))), ?_⟩
    obtain ⟨S, Fr, Pp, xs, h1, h2, rows, h4, h5⟩ := tg.ex
    have l1 := tg.l1
    refine ⟨by show 0 ≤ sizeLine; decide, fun Fd hFd => ?_⟩
    have s1 := same_upd (o := .lst []) hFd
    have hF1 : (upd H Fd (.lst [])) Fd = some (.lst (txs (allT cs (cmT fs ps) 0))) := upd_same
    generalize upd H Fd (.lst []) = H1 at s1 hF1 ⊢
    refine ⟨by show 1 ≤ sizeLine; decide, fun A0 hA0 => ?_⟩
    have s2 := same_upd (o := .lst [V.str ""]) hA0
    have hA2 : (upd H1 A0 (.lst [V.str ""])) A0 = some (.lst (txs (lvl cs (cmT fs ps) 0))) := upd_same
    have hF2 := s2 _ _ hF1
    have S2 := s1.trans s2
    generalize upd H1 A0 (.lst [V.str ""]) = H2 at s2 hA2 hF2 S2 ⊢
    refine ⟨_, rfl, t, _, _, _, rfl, rfl, SqT.of (S2 _ _ h1), rfl, lg, rfl, by omega, by omega, ?_⟩
    refine for_range (lo := 0) (n := lg.toNat) (fun k σ H3 => ∃ Fk Lv v3 v4 v5, σ = [some (.ref t), some (.ref Fk), some (.ref Lv), v3, v4, v5] ∧ Same H H3 ∧ H Fk = none ∧ H3 Lv = some (.lst (txs (lvl cs (cmT fs ps) k))) ∧ H3 Fk = some (.lst (txs (allT cs (cmT fs ps) k))))
      ⟨Fd, A0, _, _, _, rfl, S2, hFd, hA2, hF2⟩ ?_ ?_
    · rintro k σ H3 hk ⟨Fk, Lv, v3, v4, v5, rfl, s3, fFk, hL3, hF3⟩
      refine ⟨by show 0 ≤ sizeLine; decide, fun Lo hLo => ?_⟩
      have s4 := same_upd (o := .lst []) hLo
      have hLo4 : (upd H3 Lo (.lst [])) Lo = some (.lst (txs (stepL cs (cmT fs ps) []))) := upd_same
      have S4 := s3.trans s4
      generalize upd H3 Lo (.lst []) = H4 at s4 hLo4 S4 ⊢
      have stepB : (stepL cs (cmT fs ps) (lvl cs (cmT fs ps) k)).length ≤ 1024 := lvl_1024 (cm := cmT fs ps) c4 (k := k + 1) (by omega)
      refine ⟨_, rfl, Lv, rfl, ⟨_, SqL.of (s4 _ _ hL3)⟩, for_list (K := K) (a := Lv) (xs := txs (lvl cs (cmT fs ps) k)) (fun i σ H5 => (∃ Lo v5, σ = [some (.ref t), some (.ref Fk), some (.ref Lv), some (.int (0 + (k : Int))), some (.ref Lo), v5] ∧ H5 Lo = some (.lst (txs (stepL cs (cmT fs ps) ((lvl cs (cmT fs ps) k).take i))))) ∧ Same H3 H5)
        ⟨⟨Lo, _, rfl, hLo4⟩, s4⟩ ?_ ?_ ?_⟩
      · rintro i σ H5 _ ⟨_, s5⟩
        exact SqL.of (s5 _ _ hL3)
      · rintro i x σ H5 hx ⟨⟨Lo, v5, rfl, hLo5⟩, s5⟩
        obtain ⟨z, hz, rfl⟩ := txs_atX hx
        have zm : z ∈ lvl cs (cmT fs ps) k := List.mem_of_getElem? hz
        have zl : z.length ≤ 8 := by
          have : z.length = z.cps.size := rfl
          have := lvl_size zm
          omega
        have tk : (lvl cs (cmT fs ps) k).take (i + 1) = (lvl cs (cmT fs ps) k).take i ++ [z] := by rw [List.take_add_one, hz]; rfl
        have nx : stepL cs (cmT fs ps) ((lvl cs (cmT fs ps) k).take (i + 1)) = stepL cs (cmT fs ps) ((lvl cs (cmT fs ps) k).take i) ++ (nextC cs (cmT fs ps) z).map fun c => z ++ sg1 c := by
          rw [tk]
          unfold stepL
          rw [List.flatMap_append]
          simp
        have hz1 : (stepL cs (cmT fs ps) ((lvl cs (cmT fs ps) k).take (i + 1))).length ≤ 1024 := Nat.le_trans (flat_take_leX _ _) stepB
        rw [nx, List.length_append, List.length_map] at hz1
        refine ⟨_, rfl, _, rfl, _, rfl, t, cs, fs, ps, lg, z, rfl, tg.kp (Kp.same (s3.trans s5)), zl, fun L2 H6 s6 fL hL2 => ?_⟩
        refine ⟨Lo, L2, _, _, rfl, rfl, s6 _ _ hLo5, hL2, ?_, ?_⟩
        · rw [txs_len, txs_len, List.length_map]
          exact Nat.le_trans hz1 (by decide)
        intro Ln hLn
        have s7 := same_upd (o := .lst (txs (stepL cs (cmT fs ps) ((lvl cs (cmT fs ps) k).take i)) ++ txs ((nextC cs (cmT fs ps) z).map fun c => z ++ sg1 c))) hLn
        refine ⟨⟨Ln, _, rfl, ?_⟩, (s5.trans s6).trans s7⟩
        rw [upd_same, nx]
        unfold txs
        rw [List.map_append]
      · rintro σ H5 ⟨⟨Lo, v5, rfl, hLo5⟩, s5⟩
        rw [txs_len, List.take_length] at hLo5
        have hLo5' : H5 Lo = some (.lst (txs (lvl cs (cmT fs ps) (k + 1)))) := hLo5
        have b1 := allT_len (cm := cmT fs ps) c4 (n := k) (by omega)
        refine ⟨_, rfl, _, rfl, Fk, Lo, _, _, rfl, rfl, s5 _ _ hF3, hLo5', ?_, fun Fn hFn => ?_⟩
        · rw [txs_len, txs_len]
          exact Nat.le_trans (show _ ≤ 10000 by have : (lvl cs (cmT fs ps) (k + 1)).length ≤ 1024 := stepB; omega) (by decide)
        have s6 := same_upd (o := .lst (txs (allT cs (cmT fs ps) k) ++ txs (lvl cs (cmT fs ps) (k + 1)))) hFn
        refine ⟨_, rfl, Fn, Lo, _, _, _, rfl, (s3.trans s5).trans s6, (s3.trans s5).free hFn, s6 _ _ hLo5', ?_⟩
        rw [upd_same, allT_succ]
        unfold txs
        rw [List.map_append]
    · rintro σ H3 ⟨Fk, Lv, v3, v4, v5, rfl, s3, fFk, hL3, hF3⟩
      exact ⟨_, rfl, q Fk H3 s3 fFk hF3⟩
end
end G1
namespace L2
open PySem PySem.Spec PyProof.Rows
section
variable {X : Cx}
def rCountI : V → List V → Hp → VK → Prop := fun x vs H Q => ∃ l ns i, x = .ref l ∧ vs = [.int i] ∧ H l = some (.lst (List.map V.int ns)) ∧ Q (.int (ns.count i : Nat)) H
def isIntV (i : Int) : Value → Bool
  | .int a _ => a == i
  | _ => false
theorem count_vals {i : Int} : ∀ {ns : List Int} {its : List Value}, Vals (ns.map V.int) its → its.countP (isIntV i) = ns.count i ∧ ∀ y ∈ its, ∃ a t, y = .int a t
  | [], _, r => by
    cases r
    exact ⟨rfl, fun y h => by cases h⟩
  | n :: ns, _, r => by
    cases r with
    | cons r1 r2 =>
      obtain ⟨t, rfl⟩ := r1
      obtain ⟨h1, h2⟩ := count_vals (i := i) r2
      refine ⟨?_, fun y hy => ?_⟩
      · rw [List.countP_cons, h1, List.count_cons]
        rfl
      · rcases List.mem_cons.mp hy with rfl | hy
        · exact ⟨_, _, rfl⟩
        · exact h2 y hy
theorem mt_countI : MtM X "list.count" rCountI := by
  intro pins s σ H x vs v us Q I rx rv h
  obtain ⟨l, ns, i, rfl, rfl, hH, q⟩ := h
  cases rx
  obtain ⟨u, rfl, ru⟩ := rv.one
  obtain ⟨t, rfl⟩ := ru
  obtain ⟨z, its, n, r, hl, e⟩ := I.lstM hH
  obtain ⟨h1, h2⟩ := count_vals (i := i) r
  refine call_meets PySem.F.slot_list_count ⟨_, e, rfl⟩ PySem.F.entry_list_count (PySem.F.args_list_count_2 _ _) (MeetsSeq.list_count l its.toArray n (.int i t) (isIntV i) (fun y hy => ?_)) ⟨e, ?_⟩
  · obtain ⟨a, t', rfl⟩ := h2 y (by simpa using hy)
    exact MeetsSeq.EqGives.int a i t' t
  · refine ⟨.int (ns.count i : Nat), H, I.tok _, ⟨s.toks, ?_⟩, q⟩
    have e1 : List.countP (isIntV i) its.toArray.toList = ns.count i := h1
    rw [e1]
end
end L2
namespace G1
open PySem L2 GM
theorem put_dct (val : Nat → V) : ∀ (cs pre : List Nat), (pre ++ cs).Nodup → (dct cs val).foldl (fun m p => putK m p.1 p.2) (dct pre val) = dct (pre ++ cs) val
  | [], pre, _ => by rw [List.append_nil]; rfl
  | c :: cs, pre, nd => by
    have nc : c ∉ pre := fun z => (List.nodup_append.mp nd).2.2 c z c List.mem_cons_self rfl
    show (dct cs val).foldl _ (putK (dct pre val) (Sum.inr (sg1 c) : Key) (val c)) = _
    rw [dct_snoc nc, put_dct val cs (pre ++ [c]) (by rw [List.append_assoc]; exact nd), List.append_assoc]; rfl
theorem putAll_dct (val : Nat → V) {cs : List Nat} (nd : cs.Nodup) : putAll (dct cs val) = dct cs val := put_dct val cs [] nd
theorem dct_get {H : Hp} {a : Addr} {cs : List Nat} {val : Nat → V} {c : Nat} (h : H a = some (.dK (dct cs val))) (hc : c ∈ cs) : DGet H a (.str (sg1 c)) (some (val c)) := by
  have := DGet.k (k := (Sum.inr (sg1 c) : Key)) h
  rw [dct_at hc] at this
  exact this
theorem allT_last {cs : List Nat} {cm : Str → Nat → Bool} {n : Nat} : ∀ z ∈ allT cs cm n, lastS z = sg1 (lastC z) := fun z hz => by
  unfold allT at hz
  obtain ⟨k, hk, hz⟩ := List.mem_flatMap.mp hz
  exact (lvl_last hz).2.1
section
variable {P : Program} {w : World} {K : PySem.W.Frag} {mg : Str → Option Value} {base : Heap}
def spLWords : Sp := fun vs H Q _ => ∃ (t : Addr) (cs : List Nat) (fs ps : List Str) (lg : Int) (xs : List V), vs = [.ref t] ∧ Tg H t cs fs ps lg ∧ TgX H t xs cs ∧ cs.length ≤ 4 ∧ lg ≤ 5 ∧ ∀ L H', Same H H' → H L = none → H' L = some (.lst (txs ((allT cs (cmT fs ps) lg.toNat).filter fun z => endB H xs cs (lastC z)))) → Q (.ref L) H'
theorem scLW : FnScope ["_law_tongue_here", "_law_lasts"] ["_law_tongue_here"] (defScope sLWords) := ⟨rfl, rfl, rfl, by decide +kernel, rfl, by decide +kernel, by decide +kernel⟩
theorem ok_lwords {f fT : Addr} {fd fdT : FuncData} (F : FunG K "_law_words" "_law_words" sLWords .none f fd) (B : Bl mg)
    (GT : FnOk P w K mg base (CXE P w) 3 fT fdT ["_law_tongue_here"] spTexts) (mT : mg "_law_texts" = some (.ref fT)) (kT : PySem.W.keepIn K (.ref fT) = true) (bT : Binds K fdT ["_law_tongue_here"] []) : FnOk P w K mg base (CXE P w) 4 f fd ["_law_tongue_here"] spLWords := by
  refine F.zokN scLW (fun vs H Q E h => ?_) (fun cdv A outer s H vs Q E hr h => ?_)
  · obtain ⟨t, cs, fs, ps, lg, xs, rfl, _⟩ := h
    rfl
  · obtain ⟨t, cs, fs, ps, lg, xs, rfl, tg, tx, c4, l5, q⟩ := h
    have mdict := B.dict
    refine ⟨_, (zpss_cons (zps_set (i := 1) scLW.nd rfl (Or.inr rfl) (zpe_callTy (call_dictP rfl) (by rfl) mdict boot_dict (zpac_x (zpe_compL ["_law_tongue_here", "_law_lasts"] ["_law_one"] [] (defScope sLWords) rfl rfl rfl ⟨by decide +kernel, by decide +kernel, by decide +kernel, by decide +kernel, by decide +kernel⟩ (zpi_list (zpe_ix ix_tup (zpv 0) zpe_int (fun _ _ => rfl))) (fun s H fp => (zpg_name (i := 0) (show List.Nodup [("_law_one" : Str)] by decide +kernel) rfl (Or.inl rfl))) (fun s H fp => zpts_nil) (fun s H fp => (zpe_tup (zpac_s (zpe_ix (ix_tupK K rfl) (zpv 0) zpe_int (fun _ _ => rfl)) (zpac_s (zpe_ix (ix_tupK K rfl) (zpv 0) zpe_int (fun _ _ => rfl)) zpa_nil))))) zpa_nil)))
      (zpss_one (zps_ret (zpe_compL ["_law_tongue_here", "_law_lasts"] ["_law_text"] [1] (defScope sLWords) rfl rfl rfl ⟨by decide +kernel, by decide +kernel, by decide +kernel, by decide +kernel, by decide +kernel⟩ (zpi_list (zpe_call GT hr (by rfl) mT kT bT .nil passE0 (zpac_n (zpv 0) zpa_nil))) (fun s H fp => (zpg_name (i := 0) (show List.Nodup [("_law_text" : Str), "_law_lasts"] by decide +kernel) rfl (Or.inl rfl))) (fun s H fp => (zpts_one (zpt_cmp (zpc_notN (zpe_dget hr.units1 (zpv 1) (zpe_slice sl_str (zpv 0) (zpo_some (zpe_un un_neg zpe_int)) zpo_none) (fun _ _ => rfl)))))) (fun s H fp => (zpv 0)))))), ?_⟩
    obtain ⟨S, Fr, Pp, xs', h1, h2, rows, h4, h5⟩ := tg.ex
    obtain ⟨S', F', Pp', lg', g1, g2⟩ := tx.ex
    rw [h1] at g1
    cases g1
    rw [h2] at g2
    cases g2
    refine ⟨_, rfl, t, _, _, _, rfl, rfl, SqT.of h1, rfl, S, rfl, ⟨_, SqL.of h2⟩, fun m hm => ?_⟩
    have sm := same_upd (o := .lst []) hm
    have nd := tg.nd
    have l1 := tg.l1
    refine lr_list (xs := xs) (fun i σ H3 => (∃ v1, σ = [v1]) ∧ Same H H3 ∧ ∃ ts : List Addr, H3 m = some (.lst (ts.map V.ref)) ∧ ts.length = i ∧ ∀ (j : Nat) (a : Addr) (c : Nat) (x : V), ts[j]? = some a → cs[j]? = some c → xs[j]? = some x → H3 a = some (.tup [.str (sg1 c), lastV H x]))
      ⟨⟨_, rfl⟩, sm, [], upd_same, rfl, fun j a c x e => by simp at e⟩ (fun i σ H3 p => SqL.of (p.2.1 _ _ h2)) ?_ ?_
    · rintro i x σ H3 C hx ⟨⟨v1, rfl⟩, s3, ts, hm3, tl, all⟩ nx
      obtain ⟨c, hc, row⟩ := rows.at hx
      obtain ⟨a, p, rfl, ha, _⟩ := row.last
      have il := (List.getElem?_eq_some_iff.mp hx).1
      have c6 := rows.len
      dsimp only [gName]
      refine ⟨_, rfl, a, _, _, _, rfl, rfl, SqT.of (s3 _ _ ha), rfl, _, rfl, a, _, _, _, rfl, rfl, SqT.of (s3 _ _ ha), rfl, by show 2 ≤ sizeLine; decide, fun b hb => ?_⟩
      have s4 := same_upd (o := .tup [.str (sg1 c), lastV H (.ref a)]) hb
      have nbm : m ≠ b := ne_of_none hm3 hb
      refine ⟨_, s4 _ _ hm3, ?_, nx _ _ ⟨⟨_, rfl⟩, fun u o h => by rw [upd_ne (ne_of_none h hm)]; exact s4 _ _ (s3 _ _ h), ts ++ [b], ?_, ?_, ?_⟩⟩
      · rw [List.length_map, tl]
        exact Nat.lt_of_lt_of_le (show i < 10 by omega) (by decide)
      · rw [upd_same, List.map_append]; rfl
      · rw [List.length_append, tl]; rfl
      · intro j u d y e1 e2 e3
        by_cases hj : j < ts.length
        · rw [List.getElem?_append_left hj] at e1
          have := all j u d y e1 e2 e3
          rw [upd_ne (fun z => by rw [z, hm3] at this; cases this)]
          exact s4 _ _ this
        · rw [List.getElem?_append_right (by omega)] at e1
          have jl := (List.getElem?_eq_some_iff.mp e1).1
          have j0 : j - ts.length = 0 := by
            simp at jl; omega
          rw [j0] at e1
          cases e1
          have ji : j = i := by omega
          subst ji
          rw [hx] at e3
          rw [hc] at e2
          cases e3
          cases e2
          rw [upd_ne nbm.symm]
          exact upd_same
    rintro σ H3 ⟨⟨v1, rfl⟩, s3, ts, hm3, tl, all⟩
    let val : Nat → V := fun c => ((xs[cs.idxOf c]?).map (lastV H)).getD .non
    have hval : ∀ (j c : Nat) (x : V), cs[j]? = some c → xs[j]? = some x → val c = lastV H x := fun j c x e1 e2 => by
      have mc := List.mem_of_getElem? e1
      have e3 : cs[cs.idxOf c]? = some c := by rw [List.getElem?_eq_getElem (List.idxOf_lt_length_of_mem mc), List.getElem_idxOf]
      have e4 := nd_at nd e3 e1
      show ((xs[cs.idxOf c]?).map (lastV H)).getD .non = _
      rw [e4, e2]; rfl
    refine ⟨m, ts, dct cs val, rfl, hm3, by rw [tl, dct_len, rows.len], fun j a k v e1 e2 => ?_, fun D hD => ?_⟩
    · unfold dct at e2
      rw [List.getElem?_map] at e2
      obtain ⟨c, hc, e⟩ := Option.map_eq_some_iff.mp e2
      cases e
      have jl : j < xs.length := by
        have := (List.getElem?_eq_some_iff.mp e1).1
        omega
      have hx : xs[j]? = some xs[j] := List.getElem?_eq_getElem jl
      have := all j a c _ e1 hc hx
      rw [← hval j c _ hc hx] at this
      exact this
    rw [putAll_dct val nd]
    have sD := same_upd (o := .dK (dct cs val)) hD
    have hDD : (upd H3 D (.dK (dct cs val))) D = some (.dK (dct cs val)) := upd_same
    have S4 := s3.trans sD
    generalize upd H3 D (.dK (dct cs val)) = H4 at sD hDD S4 ⊢
    refine ⟨_, rfl, t, cs, fs, ps, lg, rfl, tg.kp (Kp.same S4), c4, l5, fun T H5 s5 fT hT5 => ?_⟩
    refine ⟨T, rfl, ⟨_, SqL.of hT5⟩, fun n hn => ?_⟩
    have S5 := S4.trans s5
    have hD5 := s5 _ _ hDD
    have fn := S5.free hn
    have sn := same_upd (o := .lst []) hn
    have tb := allT_len (cm := cmT fs ps) c4 (n := lg.toNat) (by omega)
    refine lr_list (xs := txs (allT cs (cmT fs ps) lg.toNat)) (fun i σ H6 => (∃ v, σ = [v, some (.ref D)]) ∧ Same H5 H6 ∧ H6 n = some (.lst (txs (((allT cs (cmT fs ps) lg.toNat).take i).filter fun z => endB H xs cs (lastC z)))))
      ⟨⟨_, rfl⟩, sn, upd_same⟩ (fun i σ H6 p => SqL.of (p.2.1 _ _ hT5)) ?_ ?_
    · rintro i x σ H6 C hx ⟨⟨v, rfl⟩, s6, hn6⟩ nx
      obtain ⟨z, hz, rfl⟩ := txs_atX hx
      have il := (List.getElem?_eq_some_iff.mp hz).1
      obtain ⟨z8, z1, lc, lcat⟩ := allT_size (cm := cmT fs ps) (n := lg.toNat) (by omega) z (List.mem_of_getElem? hz)
      dsimp only [gName]
      have tz : (allT cs (cmT fs ps) lg.toNat).take (i + 1) = (allT cs (cmT fs ps) lg.toNat).take i ++ [z] := by rw [List.take_add_one, hz]; rfl
      have lS := allT_last z (List.mem_of_getElem? hz)
      have hD6 := s6 _ _ hD5
      have dg : DGet H6 D (.str (lastS z)) (some (val (lastC z))) := by rw [lS]; exact dct_get hD6 lc
      refine ⟨_, rfl, _, rfl, _, rfl, _, rfl, z, rfl, Nat.le_trans z8 (by decide), D, _, rfl, dg, _, rfl, ?_⟩
      obtain ⟨j, hj⟩ := List.getElem?_of_mem lc
      have jx : j < xs.length := by
        have := (List.getElem?_eq_some_iff.mp hj).1
        rw [rows.len]; exact this
      have hxj : xs[j]? = some xs[j] := List.getElem?_eq_getElem jx
      have en : (!decide (val (lastC z) = .non)) = endB H xs cs (lastC z) := by
        rw [hval j _ _ hj hxj, endB_at nd hxj hj]
      rw [en]
      refine ite2 (fun e => ?_) (fun e => ?_)
      · refine ⟨_, rfl, _, hn6, ?_, nx _ _ ⟨⟨_, rfl⟩, fun u o h => by rw [upd_ne (ne_of_none h hn)]; exact s6 _ _ h, ?_⟩⟩
        · rw [txs_len]
          refine Nat.lt_of_le_of_lt (List.length_filter_le _ _) ?_
          rw [List.length_take]
          exact Nat.lt_of_le_of_lt (show min i _ ≤ 10000 by omega) (by decide)
        · rw [upd_same, tz, List.filter_append, List.filter_cons_of_pos (p := fun z => endB H xs cs (lastC z)) (a := z) e]
          unfold txs
          rw [List.map_append]; rfl
      · refine nx _ _ ⟨⟨_, rfl⟩, s6, ?_⟩
        rw [tz, List.filter_append, List.filter_cons_of_neg (p := fun z => endB H xs cs (lastC z)) (a := z) e, List.filter_nil, List.append_nil]
        exact hn6
    · rintro σ H6 ⟨⟨v, rfl⟩, s6, hn6⟩
      rw [txs_len, List.take_length] at hn6
      exact q n H6 (S5.trans s6) fn hn6
end
end G1
namespace L2
open PySem PySem.Spec PyProof.Rows
theorem ip_mulB {X : Cx} : PIp X .Mult (fun x y H Q => ∃ i j, x = .int i ∧ y = .int j ∧ (i.natAbs < big ∧ j.natAbs < big) ∧ Q (.int (i * j)) H) := by
  intro pins s σ H x y v u Q I r1 r2 h
  obtain ⟨i, j, e1, e2, hb, q⟩ := h
  subst e1; subst e2
  obtain ⟨t, rfl⟩ := r1
  obtain ⟨t', rfl⟩ := r2
  exact imul_int ⟨.int _, H, I.tok _, ⟨_, rfl⟩, q⟩ (mul_ok hb.1 hb.2)
end L2
namespace G1
open PySem L2 GM
def facN : Nat → Nat
  | 0 => 1
  | n + 1 => facN n * (n + 1)
theorem facN_le : ∀ {n : Nat}, n ≤ 20 → facN n ≤ 20 ^ n
  | 0, _ => Nat.le_refl _
  | n + 1, h => by
    unfold facN
    rw [Nat.pow_succ]
    exact Nat.mul_le_mul (facN_le (by omega)) h
section
variable {cs : List Nat} {cm : Str → Nat → Bool} {l : Nat → Bool}
theorem PF_le (h : cs.length ≤ 6) {s : Nat} (hs : s ≤ 7) {k : Nat} (hk : k ≤ 20) : PF cs cm l s k ≤ (2 ^ 23) ^ 20 := by
  have a := P_pow (cs := cs) (cm := cm) (l := l) s (fun d k => PB_pow s d k) (cs.filter (cm "")) oneP 0 one_pow k
  have b := sum_q (cm := cm) (l := l) h s (cs.filter (cm ""))
  have c : (cs.filter (cm "")).length ≤ 6 := by
    have := List.length_filter_le (cm "") cs
    omega
  have d := seven hs
  have e : (cs.filter (cm "")).length * 7 ^ s ≤ 6 * 823543 := Nat.mul_le_mul c d
  refine Nat.le_trans a (Nat.le_trans (Nat.pow_le_pow_left (m := 2 ^ 23) ?_ k) (Nat.pow_le_pow_right (by decide) hk))
  omega
end
theorem fac_big {x n : Nat} (hx : x ≤ (2 ^ 23) ^ 20) (hn : n ≤ 20) : x * facN n < big := by
  have h1 : facN n ≤ 20 ^ 20 := Nat.le_trans (facN_le hn) (Nat.pow_le_pow_right (by decide) hn)
  have h2 : x * facN n ≤ (2 ^ 23) ^ 20 * 20 ^ 20 := Nat.mul_le_mul hx h1
  have h3 : (2 ^ 23 : Nat) ^ 20 * 20 ^ 20 < big := by unfold big; decide +kernel
  omega
theorem pre_eq (x y : Str) : decide (cutS y none (some (x.length : Int)) = x) = (Lz x).isPrefixOf (Lz y) := by
  have h : cutS y none (some (x.length : Int)) = ⟨((Lz y).take x.length).toArray⟩ := by
    unfold cutS
    rw [HT.sIx_nat, HT.sIx_none, List.drop_zero, Nat.sub_zero]
    by_cases h : x.length ≤ y.length
    · rw [Nat.min_eq_left h]; rfl
    · have e : y.cps.toList.length = y.length := by simp; rfl
      rw [Nat.min_eq_right (by omega), List.take_of_length_le (by omega)]
      show _ = (⟨(y.cps.toList.take x.length).toArray⟩ : Str)
      rw [List.take_of_length_le (by omega)]
  have lx : (Lz x).length = x.length := by unfold Lz; simp; rfl
  rw [h]
  have iff : ((⟨((Lz y).take x.length).toArray⟩ : Str) = x) ↔ (Lz x).isPrefixOf (Lz y) = true := by
    rw [List.isPrefixOf_iff_prefix, List.prefix_iff_eq_take, lx]
    constructor
    · intro e
      have := congrArg (fun s : Str => s.cps.toList) e
      simpa [Lz] using this.symm
    · intro e
      rw [← e]
      unfold Lz
      simp
  by_cases q : (Lz x).isPrefixOf (Lz y) = true
  · rw [q]; exact decide_eq_true (iff.mpr q)
  · rw [Bool.not_eq_true] at q
    rw [q]
    exact decide_eq_false fun e => by rw [iff.mp e] at q; cases q
theorem txs_allF (l : List Str) : (txs l).all flatV = true := by
  rw [List.all_eq_true]
  intro x hx
  obtain ⟨z, _, rfl⟩ := List.mem_map.mp hx
  rfl
theorem free_eq (x : Str) : ∀ zs : List Str, eqVs (txs (zs.filter (clash x))) [] = freeB clash x zs
  | [] => rfl
  | z :: zs => by
    have ih := free_eq x zs
    show _ = (!clash x z && freeB clash x zs)
    cases h : clash x z with
    | true => rw [List.filter_cons_of_pos h]; rfl
    | false => rw [List.filter_cons_of_neg (by rw [h]; decide), ih]; rfl
theorem SR_len {α : Type} (cl : α → α → Bool) : ∀ W : List α, (SR cl W).length ≤ 2 ^ W.length
  | [] => Nat.le_refl _
  | w :: W => by
    have ih := SR_len cl W
    show (SR cl W ++ ((SR cl W).filter (freeB cl w)).map fun s => s ++ [w]).length ≤ 2 ^ (W.length + 1)
    rw [List.length_append, List.length_map, Nat.pow_succ]
    have := List.length_filter_le (freeB cl w) (SR cl W)
    omega
theorem SR_mem {α : Type} {cl : α → α → Bool} : ∀ {W : List α} {s : List α}, s ∈ SR cl W → s.length ≤ W.length ∧ ∀ z ∈ s, z ∈ W
  | [], s, h => by
    rw [List.mem_singleton.mp h]
    exact ⟨Nat.le_refl _, fun z h => by cases h⟩
  | w :: W, s, h => by
    rcases List.mem_append.mp h with h | h
    · obtain ⟨a, b⟩ := SR_mem h
      exact ⟨by rw [List.length_cons]; omega, fun z hz => List.mem_cons_of_mem _ (b z hz)⟩
    · obtain ⟨t, ht, rfl⟩ := List.mem_map.mp h
      obtain ⟨a, b⟩ := SR_mem (List.mem_filter.mp ht).1
      refine ⟨by rw [List.length_append, List.length_cons]; simpa using a, fun z hz => ?_⟩
      rcases List.mem_append.mp hz with hz | hz
      · exact List.mem_cons_of_mem _ (b z hz)
      · rw [List.mem_singleton.mp hz]; exact List.mem_cons_self
section
variable {P : Program} {w : World} {K : PySem.W.Frag} {mg : Str → Option Value} {base : Heap}
def spBooks (T1 T2 : Addr) : Sp := fun vs H Q _ => ∃ (t : Addr) (m : Nat) (o : Bool) (cs : List Nat) (fs ps : List Str) (lg : Int) (xs : List V), vs = [.ref t, .int m, .bl o] ∧ m ≤ 20 ∧ Tg H t cs fs ps lg ∧ TgX H t xs cs ∧ Tab T1 H ∧ TabL T2 [] H ∧
  ∀ H', Kp H H' → Tab T1 H' → TabL T2 [] H' → Q (.int ((if o then PF cs (cmT fs ps) (endB H xs cs) (lg.toNat - 1) m else PF cs (cmT fs ps) (endB H xs cs) (lg.toNat - 1) m * facN m : Nat))) H'
theorem scBk : FnScope ["tongue", "many", "ordered", "books", "things"] ["tongue", "many", "ordered"] (defScope sBooks) := ⟨rfl, rfl, rfl, by decide +kernel, rfl, by decide +kernel, by decide +kernel⟩
theorem ok_books {T1 T2 : Addr} {f fS : Addr} {fd fdS : FuncData} (F : FunG K "books_many" "books_many" sBooks .none f fd) (B : Bl mg)
    (GS : FnOk P w K mg base (CXE P w) 8 fS fdS ["tongue", "most"] (spSets T1 T2)) (mS : mg "sets_by_size" = some (.ref fS)) (kS : PySem.W.keepIn K (.ref fS) = true) (bS : Binds K fdS ["tongue", "most"] []) : FnOk P w K mg base (CXE P w) 9 f fd ["tongue", "many", "ordered"] (spBooks T1 T2) := by
  refine F.zokN scBk (fun vs H Q E h => ?_) (fun cdv A outer s H vs Q E hr h => ?_)
  · obtain ⟨t, m, o, cs, fs, ps, lg, xs, rfl, _⟩ := h
    rfl
  · obtain ⟨t, m, o, cs, fs, ps, lg, xs, rfl, m20, tg, tx, ta, tb, q⟩ := h
    refine ⟨_, (zpss_cons (zps_set (i := 3) scBk.nd rfl (Or.inl rfl) (zpe_ix ix_list (zpe_call GS hr (by rfl) mS kS bS .nil passE0 (zpac_n (zpv 0) (zpac_n (zpv 1) zpa_nil))) (zpv 1) (fun _ _ => rfl)))
      (zpss_cons (zps_if (zpt_not (zpt_val (zpv 2))) (zpss_one (zps_for PassesOwn.never rfl (zpi_range2 (by rfl) B.range (zpac_c zpe_int (zpac_b (zpe_op op_add (zpv 1) zpe_int) zpa_nil))) (zpg_name (i := 4) scBk.nd rfl (Or.inl rfl))
          (zpss_one (zps_aug (i := 3) scBk.nd rfl (Or.inl rfl) (zpv 4) ip_mulB)))) zpss_nil)
      (zpss_one (zps_ret (zpv 3))))), ?_⟩
    have l8 := tg.l8
    have c6 := tg.c6
    refine ⟨_, rfl, _, rfl, t, m, cs, fs, ps, lg, xs, rfl, m20, tg, tx, ta, tb, fun L H1 k1 ta1 tb1 fL hL => ?_⟩
    have pl := PF_le (cm := cmT fs ps) (l := endB H xs cs) c6 (s := lg.toNat - 1) (by omega) m20
    generalize hX : PF cs (cmT fs ps) (endB H xs cs) (lg.toNat - 1) m = X at pl q
    have hat := intsV_at (n := m + 1) (f := PF cs (cmT fs ps) (endB H xs cs) (lg.toNat - 1)) (i := m) (by omega)
    rw [hX] at hat
    refine ⟨_, rfl, L, _, _, _, rfl, rfl, SqL.of hL, hat, ?_⟩
    cases o with
    | true =>
      refine ⟨_, rfl, true, rfl, iteF ⟨_, rfl, q H1 k1 ta1 tb1⟩⟩
    | false =>
      refine ⟨_, rfl, false, rfl, iteT ?_⟩
      refine ⟨_, rfl, _, _, rfl, rfl, 1, (m : Int) + 1, rfl, ⟨by omega, by omega, by omega, by omega⟩, ?_⟩
      have cnt : ((m : Int) + 1 - 1).toNat = m := by omega
      rw [cnt]
      refine for_range (lo := 1) (n := m) (fun i σ G => (∃ v4, σ = [some (.ref t), some (.int m), some (.bl false), some (.int ((X * facN i : Nat))), v4]) ∧ G = H1) ⟨⟨_, by rw [show facN 0 = 1 from rfl, Nat.mul_one]; rfl⟩, rfl⟩ ?_ ?_
      · rintro i σ G hi ⟨⟨v4, rfl⟩, rfl⟩
        have b1 := fac_big pl (n := i) (by omega)
        refine ⟨_, rfl, _, rfl, _, _, rfl, rfl, ⟨by rw [Int.natAbs_natCast]; exact b1, ?_⟩, ⟨some (.int (1 + (i : Int))), ?_⟩, rfl⟩
        · exact Nat.lt_of_le_of_lt (show _ ≤ 100 by omega) (by decide +kernel)
        · have : ((X * facN i : Nat) : Int) * (1 + (i : Int)) = ((X * facN (i + 1) : Nat) : Int) := by
            show _ = ((X * (facN i * (i + 1)) : Nat) : Int)
            push_cast
            rw [Int.mul_assoc, Int.add_comm 1]
          rw [this]
          rfl
      · rintro σ G ⟨⟨v4, rfl⟩, rfl⟩
        exact ⟨_, rfl, q _ k1 ta1 tb1⟩
def spOrders : Sp := fun vs H Q _ => ∃ m : Nat, vs = [.int m] ∧ m ≤ 20 ∧ Q (.int (facN m : Nat)) H
theorem scOr : FnScope ["_law_many", "_law_found", "_law_k"] ["_law_many"] (defScope sOrders) := ⟨rfl, rfl, rfl, by decide +kernel, rfl, by decide +kernel, by decide +kernel⟩
theorem ok_orders {f : Addr} {fd : FuncData} (F : FunG K "_law_orders" "_law_orders" sOrders .none f fd) (B : Bl mg) : FnOk P w K mg base (CXE P w) 1 f fd ["_law_many"] spOrders := by
  refine F.zokN scOr (fun vs H Q E h => ?_) (fun cdv A outer s H vs Q E hr h => ?_)
  · obtain ⟨m, rfl, _⟩ := h
    rfl
  · obtain ⟨m, rfl, m20, q⟩ := h
    refine ⟨_, (zpss_cons (zps_set (i := 1) scOr.nd rfl (Or.inl rfl) zpe_int)
      (zpss_cons (zps_for PassesOwn.never rfl (zpi_range1 (by rfl) B.range (zpac_n (zpv 0) zpa_nil)) (zpg_name (i := 2) scOr.nd rfl (Or.inl rfl))
          (zpss_one (zps_set (i := 1) scOr.nd rfl (Or.inl rfl) (zpe_op op_mulB (zpv 1) (zpe_op op_add (zpv 2) zpe_int)))))
      (zpss_one (zps_ret (zpv 1))))), ?_⟩
    refine ⟨_, rfl, m, rfl, by omega, by omega, ?_⟩
    refine for_range (lo := 0) (n := ((m : Nat) : Int).toNat) (fun i σ G => (∃ v, σ = [some (.int m), some (.int (facN i : Nat)), v]) ∧ G = H) ⟨⟨_, rfl⟩, rfl⟩ ?_ ?_
    · rintro i σ G hi ⟨⟨v, rfl⟩, rfl⟩
      refine ⟨_, rfl, _, rfl, _, _, rfl, rfl, _, _, rfl, rfl, ⟨?_, ?_⟩, ⟨some (.int (0 + (i : Int))), ?_⟩, rfl⟩
      · have := fac_big (x := 1) (n := i) (by decide) (by omega)
        rw [Nat.one_mul] at this
        rw [Int.natAbs_natCast]; exact this
      · exact Nat.lt_of_le_of_lt (show _ ≤ 100 by omega) (by decide +kernel)
      have : ((facN i : Nat) : Int) * (0 + (i : Int) + 1) = ((facN (i + 1) : Nat) : Int) := by
        show _ = ((facN i * (i + 1) : Nat) : Int)
        push_cast
        rw [Int.zero_add]
      show [some (V.int m), some (V.int (((facN i : Nat) : Int) * (0 + (i : Int) + 1))), some (V.int (0 + (i : Int)))] = _
      rw [this]
    · rintro σ G ⟨⟨v, rfl⟩, rfl⟩
      rw [Int.toNat_natCast]
      exact ⟨_, rfl, q⟩
def spSmall (K : PySem.W.Frag) : Sp := fun vs H Q _ => ∃ (a : Addr) (ns : List Int), vs = [.ref a] ∧ SqL K H a (ns.map V.int) ∧ ∀ t cs fs ps lg H', Same H H' → Tg H' t cs fs ps lg → cs.length ≤ 3 → lg ≤ 3 → lg + cs.length ≤ 5 → Q (.ref t) H'
theorem scSm : FnScope ["_law_script", "_law_tongue_here"] ["_law_script"] (defScope sSmall) := ⟨rfl, rfl, rfl, by decide +kernel, rfl, by decide +kernel, by decide +kernel⟩
theorem ok_small {f fC fT : Addr} {fd fdC fdT : FuncData} (F : FunG K "_law_small" "_law_small" sSmall .none f fd) (B : Bl mg)
    (GC : FnOk P w K mg base (CXE P w) 1 fC fdC ["_law_script", "_law_k"] (spCell K)) (mC : mg "_law_cell" = some (.ref fC)) (kC : PySem.W.keepIn K (.ref fC) = true) (bC : Binds K fdC ["_law_script", "_law_k"] [])
    (GT : FnOk P w K mg base (CXE P w) 3 fT fdT ["_law_script", "_law_most", "_law_longest"] (spTongueD K)) (mT : mg "_law_tongue" = some (.ref fT)) (kT : PySem.W.keepIn K (.ref fT) = true) (bT : Binds K fdT ["_law_script", "_law_most", "_law_longest"] []) : FnOk P w K mg base (CXE P w) 4 f fd ["_law_script"] (spSmall K) := by
  refine F.zokN scSm (fun vs H Q E h => ?_) (fun cdv A outer s H vs Q E hr h => ?_)
  · obtain ⟨a, ns, rfl, _⟩ := h
    rfl
  · obtain ⟨a, ns, rfl, ha, q⟩ := h
    refine ⟨_, (zpss_cons (zps_set (i := 1) scSm.nd rfl (Or.inl rfl) (zpe_call GT hr (by rfl) mT kT bT .nil passE0 (zpac_n (zpv 0) (zpac_c zpe_int (zpac_c zpe_int zpa_nil)))))
      (zpss_cons (zps_if (zpt_cmpR op_eq (zpe_op op_mod (zpe_call GC (hr.mono (by decide)) (by rfl) mC kC bC .nil passE0 (zpac_n (zpv 0) (zpac_c zpe_int zpa_nil))) zpe_int) zpe_int (nomark _)) (zpss_one (zps_set (i := 1) scSm.nd rfl (Or.inl rfl) (zpe_call GT hr (by rfl) mT kT bT .nil passE0 (zpac_n (zpv 0) (zpac_c zpe_int (zpac_c zpe_int zpa_nil)))))) zpss_nil)
      (zpss_one (zps_ret (zpe_tup (zpac_s (zpe_ix ix_tup (zpv 1) zpe_int (fun _ _ => rfl)) (zpac_s (zpe_ix ix_tup (zpv 1) zpe_int (fun _ _ => rfl)) (zpac_s (zpe_ix ix_tup (zpv 1) zpe_int (fun _ _ => rfl)) (zpac_f (zpe_callB (call_min2 rfl) (by rfl) B.min boot_min (zpac_s (zpe_ix ix_tup (zpv 1) zpe_int (fun _ _ => rfl)) (zpac_b (zpe_op op_sub zpe_int (zpe_callB call_len_seq (by rfl) B.len PySem.boot_len (zpac_s (zpe_ix ix_tup (zpv 1) zpe_int (fun _ _ => rfl)) zpa_nil))) zpa_nil))) zpa_nil))))))))), ?_⟩
    refine ⟨_, rfl, a, ns, 2, 3, rfl, ha, by decide, by decide, by decide, by decide, fun t cs fs ps lg H1 s1 tg cb lb => ?_⟩
    refine ⟨_, rfl, a, ns, 8, rfl, sqL_same ha s1, by decide, fun z => ⟨_, _, rfl, rfl, by show (0 : Int) < 2; decide, rfl, _, rfl, ite2 (fun _ => ?_) (fun _ => ?_)⟩⟩
    · refine ⟨_, rfl, a, ns, 3, 2, rfl, sqL_same ha s1, by decide, by decide, by decide, by decide, fun t cs fs ps lg H2 s2 tg2 cb lb => ?_⟩
      obtain ⟨S, Fr, Pp, xs, h1, h2, rows, h4, h5⟩ := tg2.ex
      refine ⟨_, rfl, t, _, _, _, rfl, rfl, SqT.of h1, rfl, _, rfl, t, _, _, _, rfl, rfl, SqT.of h1, rfl, _, rfl, t, _, _, _, rfl, rfl, SqT.of h1, rfl, _, rfl, t, _, _, _, rfl, rfl, SqT.of h1, rfl, _, rfl, t, _, _, _, rfl, rfl, SqT.of h1, rfl, S, _, rfl, .inl (SqL.of h2), _, _, rfl, rfl, _, _, rfl, by show 4 ≤ sizeLine; decide, ?_⟩
      (intro u gu; generalize hEq : upd _ u _ = G7; refine newC hEq gu ?_; clear hEq; intro S7 e7 o7)
      have k2 := tg2.c2
      have kl := rows.len
      have l1 := tg2.l1
      obtain ⟨m, em, m1, m2, m3⟩ : ∃ m : Int, (if (5 : Int) - (xs.length : Int) < lg then (5 : Int) - (xs.length : Int) else lg) = m ∧ 1 ≤ m ∧ m ≤ 3 ∧ m + cs.length ≤ 5 := by
        split
        · exact ⟨_, rfl, by omega, by omega, by omega⟩
        · exact ⟨_, rfl, by omega, by omega, by omega⟩
      rw [em] at e7
      exact q u cs fs ps m G7 ((s1.trans s2).trans S7) ⟨⟨S, Fr, Pp, xs, e7, S7 _ _ h2, rows.kp (Kp.same S7), S7 _ _ h4, S7 _ _ h5⟩, tg2.nd, tg2.c2, tg2.c6, tg2.fnd, tg2.fsub, tg2.pnd, tg2.psub, by omega, by omega⟩ (by omega) (by omega) (by omega)
    · skip
      obtain ⟨S, Fr, Pp, xs, h1, h2, rows, h4, h5⟩ := tg.ex
      refine ⟨_, rfl, t, _, _, _, rfl, rfl, SqT.of h1, rfl, _, rfl, t, _, _, _, rfl, rfl, SqT.of h1, rfl, _, rfl, t, _, _, _, rfl, rfl, SqT.of h1, rfl, _, rfl, t, _, _, _, rfl, rfl, SqT.of h1, rfl, _, rfl, t, _, _, _, rfl, rfl, SqT.of h1, rfl, S, _, rfl, .inl (SqL.of h2), _, _, rfl, rfl, _, _, rfl, by show 4 ≤ sizeLine; decide, ?_⟩
      (intro u gu; generalize hEq : upd _ u _ = G7; refine newC hEq gu ?_; clear hEq; intro S7 e7 o7)
      have k2 := tg.c2
      have kl := rows.len
      have l1 := tg.l1
      obtain ⟨m, em, m1, m2, m3⟩ : ∃ m : Int, (if (5 : Int) - (xs.length : Int) < lg then (5 : Int) - (xs.length : Int) else lg) = m ∧ 1 ≤ m ∧ m ≤ 3 ∧ m + cs.length ≤ 5 := by
        split
        · exact ⟨_, rfl, by omega, by omega, by omega⟩
        · exact ⟨_, rfl, by omega, by omega, by omega⟩
      rw [em] at e7
      exact q u cs fs ps m G7 (s1.trans S7) ⟨⟨S, Fr, Pp, xs, e7, S7 _ _ h2, rows.kp (Kp.same S7), S7 _ _ h4, S7 _ _ h5⟩, tg.nd, tg.c2, tg.c6, tg.fnd, tg.fsub, tg.pnd, tg.psub, by omega, by omega⟩ (by omega) (by omega) (by omega)
def spClash : Sp := fun vs H Q _ => ∃ (x y : Str), vs = [.str x, .str y] ∧ x.length ≤ 100 ∧ y.length ≤ 100 ∧ Q (.bl (clash x y)) H
theorem scCl : FnScope ["_law_one", "_law_other"] ["_law_one", "_law_other"] (defScope sClash) := ⟨rfl, rfl, rfl, by decide +kernel, rfl, by decide +kernel, by decide +kernel⟩
theorem ok_clash {f : Addr} {fd : FuncData} (F : FunG K "_law_clash" "_law_clash" sClash .none f fd) (B : Bl mg) : FnOk P w K mg base (CXE P w) 1 f fd ["_law_one", "_law_other"] spClash := by
  refine F.zokN scCl (fun vs H Q E h => ?_) (fun cdv A outer s H vs Q E hr h => ?_)
  · obtain ⟨x, y, rfl, _⟩ := h
    rfl
  · obtain ⟨x, y, rfl, lx, ly, q⟩ := h
    refine ⟨_, (zpss_one (zps_ret (zpe_or (zpe_cmpR op_eq (zpe_slice sl_str (zpv 1) zpo_none (zpo_some (zpe_callB call_len_str (by rfl) B.len PySem.boot_len (zpac_n (zpv 0) zpa_nil)))) (zpv 0) (nomark _)) (zpe_one (zpe_cmpR op_eq (zpe_slice sl_str (zpv 0) zpo_none (zpo_some (zpe_callB call_len_str (by rfl) B.len PySem.boot_len (zpac_n (zpv 1) zpa_nil)))) (zpv 1) (nomark _)))))), ?_⟩
    have s100 : ∀ {n : Nat}, n ≤ 100 → n ≤ sizeLine := fun h => Nat.le_trans h (by decide)
    refine ⟨_, rfl, _, rfl, x, rfl, s100 lx, _, rfl, y, rfl, s100 ly, _, rfl, rfl, _, rfl, ?_⟩
    have e1 : decide (V.str (cutS y none (some (x.length : Int))) = V.str x) = (Lz x).isPrefixOf (Lz y) := by
      rw [← pre_eq]
      simp
    have e2 : decide (V.str (cutS x none (some (y.length : Int))) = V.str y) = (Lz y).isPrefixOf (Lz x) := by
      rw [← pre_eq]
      simp
    unfold clash at q
    refine ite2 (fun e => ?_) (fun e => ?_)
    · have e : decide (V.str (cutS y none (some (x.length : Int))) = V.str x) = true := e
      rw [← e1, e] at q
      exact q
    · have e : decide (V.str (cutS y none (some (x.length : Int))) = V.str x) = false := Bool.not_eq_true _ ▸ e
      rw [← e1, e, Bool.false_or, ← e2] at q
      exact ⟨_, rfl, _, rfl, y, rfl, s100 ly, _, rfl, x, rfl, s100 lx, _, rfl, rfl, q⟩
def spFree : Sp := fun vs H Q _ => ∃ (x : Str) (A : Addr) (zs : List Str), vs = [.str x, .ref A] ∧ x.length ≤ 100 ∧ H A = some (.lst (txs zs)) ∧ zs.length ≤ 1000 ∧ (∀ z ∈ zs, z.length ≤ 100) ∧ ∀ H', Same H H' → Q (.bl (freeB clash x zs)) H'
theorem scFr : FnScope ["_law_word", "_law_words_here"] ["_law_word", "_law_words_here"] (defScope sFree) := ⟨rfl, rfl, rfl, by decide +kernel, rfl, by decide +kernel, by decide +kernel⟩
theorem ok_free {f fH : Addr} {fd fdH : FuncData} (F : FunG K "_law_free" "_law_free" sFree .none f fd) (B : Bl mg)
    (GH : FnOk P w K mg base (CXE P w) 1 fH fdH ["_law_one", "_law_other"] spClash) (mH : mg "_law_clash" = some (.ref fH)) (kH : PySem.W.keepIn K (.ref fH) = true) (bH : Binds K fdH ["_law_one", "_law_other"] []) : FnOk P w K mg base (CXE P w) 2 f fd ["_law_word", "_law_words_here"] spFree := by
  refine F.zokN scFr (fun vs H Q E h => ?_) (fun cdv A outer s H vs Q E hr h => ?_)
  · obtain ⟨x, A', zs, rfl, _⟩ := h
    rfl
  · obtain ⟨x, Aa, zs, rfl, lx, hA, zl, ze, q⟩ := h
    have hu := Nat.lt_of_succ_lt hr.units1
    refine ⟨_, (zpss_one (zps_ret (zpe_cmpR (op_eqL hu) (zpe_compL ["_law_word", "_law_words_here"] ["_law_other"] [0] (defScope sFree) rfl rfl rfl ⟨by decide +kernel, by decide +kernel, by decide +kernel, by decide +kernel, by decide +kernel⟩ (zpi_list (zpv 1)) (fun s H fp => (zpg_name (i := 0) (show List.Nodup [("_law_other" : Str), "_law_word"] by decide +kernel) rfl (Or.inl rfl))) (fun s H fp => (zpts_one (zpt_val (zpe_call GH hr (by rfl) mH kH bH .nil passE0 (zpac_n (zpv 1) (zpac_n (zpv 0) zpa_nil)))))) (fun s H fp => (zpv 0))) (zpe_lst zpa_nil) (nomark _)))), ?_⟩
    refine ⟨_, rfl, Aa, rfl, ⟨_, SqL.of hA⟩, fun M hM => ?_⟩
    refine lr_list (xs := txs zs) (fun i σ G => (∃ v, σ = [v, some (.str x)]) ∧ Same H G ∧ G M = some (.lst (txs ((zs.take i).filter (clash x))))) ⟨⟨_, rfl⟩, same_upd hM, upd_same⟩ (fun i σ G p => SqL.of (p.2.1 _ _ hA)) ?_ ?_
    · rintro i y σ G C hy ⟨⟨v, rfl⟩, sG, hMG⟩ nx
      obtain ⟨z, hz, rfl⟩ := txs_atX hy
      have il := (List.getElem?_eq_some_iff.mp hz).1
      have tk : zs.take (i + 1) = zs.take i ++ [z] := by rw [List.take_add_one, hz]; rfl
      dsimp only [gName]
      refine ⟨_, rfl, _, rfl, x, z, rfl, lx, ze z (List.mem_of_getElem? hz), _, rfl, ?_⟩
      refine ite2 (fun e => ?_) (fun e => ?_)
      · refine ⟨_, rfl, _, hMG, ?_, nx _ _ ⟨⟨_, rfl⟩, fun u o h => by rw [upd_ne (ne_of_none h hM)]; exact sG _ _ h, ?_⟩⟩
        · rw [txs_len]
          refine Nat.lt_of_le_of_lt (List.length_filter_le _ _) ?_
          rw [List.length_take]
          exact Nat.lt_of_le_of_lt (show min i zs.length ≤ 1000 by omega) (by decide)
        · rw [upd_same, tk, List.filter_append, List.filter_cons_of_pos (p := clash x) (a := z) e]
          unfold txs
          rw [List.map_append]; rfl
      · refine nx _ _ ⟨⟨_, rfl⟩, sG, ?_⟩
        rw [tk, List.filter_append, List.filter_cons_of_neg (p := clash x) (a := z) e, List.filter_nil, List.append_nil]
        exact hMG
    · rintro σ G ⟨⟨v, rfl⟩, sG, hMG⟩
      rw [txs_len, List.take_length] at hMG
      refine ⟨Nat.zero_le _, fun e0 he0 => ?_⟩
      have s2 := same_upd (o := .lst []) he0
      refine ⟨M, e0, _, _, rfl, rfl, SqL.of (s2 _ _ hMG), SqL.of upd_same, txs_allF _, rfl, ?_⟩
      have e : (if false = true then !eqVs (txs (zs.filter (clash x))) [] else eqVs (txs (zs.filter (clash x))) []) = freeB clash x zs := free_eq x zs
      rw [e]
      exact q _ (sG.trans s2)
def SetL (H : Hp) (L : Addr) (S : List (List Str)) : Prop := ∃ ad : List Addr, H L = some (.lst (ad.map V.ref)) ∧ ad.length = S.length ∧ ∀ (i : Nat) (a : Addr) (x : List Str), ad[i]? = some a → S[i]? = some x → H a = some (.lst (txs x))
theorem SetL.same {H H' : Hp} {L : Addr} {S : List (List Str)} (h : SetL H L S) (s : Same H H') : SetL H' L S := by
  obtain ⟨ad, h1, h2, h3⟩ := h
  exact ⟨ad, s _ _ h1, h2, fun i a x e1 e2 => s _ _ (h3 i a x e1 e2)⟩
theorem SetL.snoc {G : Hp} {M b : Addr} {xs : List V} {S : List (List Str)} {x : List Str} (h : SetL G M S) (hM : G M = some (.lst xs)) (hb : G b = some (.lst (txs x))) (nb : b ≠ M) : SetL (upd G M (.lst (xs ++ [V.ref b]))) M (S ++ [x]) := by
  obtain ⟨ad, h1, h2, h3⟩ := h
  rw [hM] at h1
  cases h1
  refine ⟨ad ++ [b], by rw [upd_same, List.map_append]; rfl, by rw [List.length_append, List.length_append, h2]; rfl, fun i a y e1 e2 => ?_⟩
  by_cases hi : i < ad.length
  · rw [List.getElem?_append_left hi] at e1
    rw [List.getElem?_append_left (by omega)] at e2
    have q := h3 i a y e1 e2
    by_cases e : a = M
    · exfalso
      rw [e, hM] at q
      injection q with q
      injection q with q
      cases ad with
      | nil => cases hi
      | cons u us =>
        cases y with
        | nil => cases q
        | cons v vs => cases q
    · rw [upd_ne e]; exact q
  · rw [List.getElem?_append_right (by omega)] at e1
    have il := (List.getElem?_eq_some_iff.mp e1).1
    have i0 : i - ad.length = 0 := by
      simp at il; omega
    rw [i0] at e1
    cases e1
    rw [List.getElem?_append_right (by omega), show i - S.length = 0 by omega] at e2
    cases e2
    rw [upd_ne nb]; exact hb
def spLSets : Sp := fun vs H Q _ => ∃ (A : Addr) (ws : List Str), vs = [.ref A] ∧ H A = some (.lst (txs ws)) ∧ ws.length ≤ 14 ∧ (∀ z ∈ ws, z.length ≤ 100) ∧ ∀ L H', Same H H' → SetL H' L (SR clash ws.reverse) → Q (.ref L) H'
theorem scSe : FnScope ["_law_words_here", "_law_found", "_law_word"] ["_law_words_here"] (defScope sLSets) := ⟨rfl, rfl, rfl, by decide +kernel, rfl, by decide +kernel, by decide +kernel⟩
theorem ok_lsets {f fE : Addr} {fd fdE : FuncData} (F : FunG K "_law_sets" "_law_sets" sLSets .none f fd) (B : Bl mg)
    (GE : FnOk P w K mg base (CXE P w) 2 fE fdE ["_law_word", "_law_words_here"] spFree) (mE : mg "_law_free" = some (.ref fE)) (kE : PySem.W.keepIn K (.ref fE) = true) (bE : Binds K fdE ["_law_word", "_law_words_here"] []) : FnOk P w K mg base (CXE P w) 3 f fd ["_law_words_here"] spLSets := by
  refine F.zokN scSe (fun vs H Q E h => ?_) (fun cdv A outer s H vs Q E hr h => ?_)
  · obtain ⟨A', ws, rfl, _⟩ := h
    rfl
  · obtain ⟨Aa, ws, rfl, hA, wl, we, q⟩ := h
    refine ⟨_, (zpss_cons (zps_set (i := 1) scSe.nd rfl (Or.inl rfl) (zpe_lst (zpac_l (zpe_lst zpa_nil) zpa_nil)))
      (zpss_cons (zps_for PassesOwn.never rfl (zpi_list (zpv 0)) (zpg_name (i := 2) scSe.nd rfl (Or.inr rfl))
          (zpss_one (zps_set (i := 1) scSe.nd rfl (Or.inl rfl) (zpe_op op_cat (zpv 1) (zpe_compL ["_law_words_here", "_law_found", "_law_word"] ["_law_some"] [2] (defScope sLSets) rfl rfl rfl ⟨by decide +kernel, by decide +kernel, by decide +kernel, by decide +kernel, by decide +kernel⟩ (zpi_list (zpv 1)) (fun s H fp => (zpg_name (i := 0) (show List.Nodup [("_law_some" : Str), "_law_word"] by decide +kernel) rfl (Or.inl rfl))) (fun s H fp => (zpts_one (zpt_val (zpe_call GE hr (by rfl) mE kE bE .nil passE0 (zpac_n (zpv 1) (zpac_n (zpv 0) zpa_nil)))))) (fun s H fp => (zpe_op op_cat (zpv 0) (zpe_lst (zpac_n (zpv 1) zpa_nil)))))))))
      (zpss_one (zps_ret (zpv 1))))), ?_⟩
    refine ⟨by show 0 ≤ sizeLine; decide, fun L0 hL0 => ?_⟩
    have s0 := same_upd (o := .lst []) hL0
    have hE : (upd H L0 (.lst [])) L0 = some (.lst (txs [])) := upd_same
    generalize upd H L0 (.lst []) = H0 at s0 hE ⊢
    refine ⟨by show 1 ≤ sizeLine; decide, fun L hL => ?_⟩
    have s1 := same_upd (o := .lst [V.ref L0]) hL
    have hL1 : SetL (upd H0 L (.lst [V.ref L0])) L (SR clash (ws.take 0).reverse) := ⟨[L0], upd_same, rfl, fun i a x e1 e2 => by
      match i, e1, e2 with
      | 0, e1, e2 =>
        cases e1
        cases e2
        exact s1 _ _ hE⟩
    generalize upd H0 L (.lst [V.ref L0]) = H1 at s1 hL1 ⊢
    have S1 := s0.trans s1
    refine ⟨_, rfl, Aa, rfl, ⟨_, SqL.of (S1 _ _ hA)⟩, for_list (K := K) (a := Aa) (xs := txs ws) (fun i σ G => ∃ L v, σ = [some (.ref Aa), some (.ref L), v] ∧ Same H G ∧ SetL G L (SR clash (ws.take i).reverse)) ⟨L, _, rfl, S1, hL1⟩ (fun i σ G _ p => by obtain ⟨_, _, _, s, _⟩ := p; exact SqL.of (s _ _ hA)) ?_ ?_⟩
    · rintro i y σ G hy ⟨L, v, rfl, sG, hSL⟩
      obtain ⟨z, hz, rfl⟩ := txs_atX hy
      have il := (List.getElem?_eq_some_iff.mp hz).1
      have tk : (ws.take (i + 1)).reverse = z :: (ws.take i).reverse := by rw [List.take_add_one, hz]; simp
      have z100 := we z (List.mem_of_getElem? hz)
      obtain ⟨ad, hLd, adl, hel⟩ := hSL
      have wl' : ((ws.take i).reverse).length ≤ 14 := by rw [List.length_reverse, List.length_take]; omega
      have srl := SR_len clash (ws.take i).reverse
      have p14 : (SR clash (ws.take i).reverse).length ≤ 16384 := Nat.le_trans srl (Nat.le_trans (Nat.pow_le_pow_right (by decide) wl') (by decide))
      refine ⟨_, rfl, _, rfl, L, rfl, ⟨_, SqL.of hLd⟩, fun M hM => ?_⟩
      have fM := sG.free hM
      refine lr_list (xs := ad.map V.ref) (fun j σ G2 => (∃ v, σ = [v, some (.str z)]) ∧ Same G G2 ∧ SetL G2 M ((((SR clash (ws.take i).reverse).take j).filter (freeB clash z)).map fun s => s ++ [z])) ⟨⟨_, rfl⟩, same_upd hM, ⟨[], upd_same, rfl, fun j a x e => by simp at e⟩⟩ (fun j σ G2 p => SqL.of (p.2.1 _ _ hLd)) ?_ ?_
      · rintro j y σ G2 C hy ⟨⟨v, rfl⟩, s2, hSM⟩ nx
        rw [List.getElem?_map] at hy
        obtain ⟨a, ha, e⟩ := Option.map_eq_some_iff.mp hy
        cases e
        have jl := (List.getElem?_eq_some_iff.mp ha).1
        obtain ⟨x, hx⟩ : ∃ x, (SR clash (ws.take i).reverse)[j]? = some x := ⟨_, List.getElem?_eq_getElem (by omega)⟩
        have hax := s2 _ _ (hel j a x ha hx)
        have xm := SR_mem (List.mem_of_getElem? hx)
        have tkj : (SR clash (ws.take i).reverse).take (j + 1) = (SR clash (ws.take i).reverse).take j ++ [x] := by rw [List.take_add_one, hx]; rfl
        have xe : ∀ q ∈ x, q.length ≤ 100 := fun q hq => we q (List.mem_of_mem_take (List.mem_reverse.mp (xm.2 q hq)))
        dsimp only [gName]
        refine ⟨_, rfl, _, rfl, z, a, x, rfl, z100, hax, by omega, xe, fun G3 s3 => ⟨_, rfl, ?_⟩⟩
        refine ite2 (fun e => ?_) (fun e => ?_)
        · refine ⟨_, rfl, _, rfl, by show 1 ≤ sizeLine; decide, ?_⟩
          (intro b1 g1; generalize hEq : upd _ b1 _ = G4; refine newC hEq g1 ?_; clear hEq; intro S4 e4 o4)
          refine ⟨a, b1, _, _, rfl, rfl, S4 _ _ (s3 _ _ hax), e4, ?_, ?_⟩
          · rw [txs_len]
            exact Nat.le_trans (show x.length + 1 ≤ 100 by omega) (by decide)
          (intro b2 g2; generalize hEq : upd _ b2 _ = G5; refine newC hEq g2 ?_; clear hEq; intro S5 e5 o5)
          obtain ⟨as, hMd, asl, hes⟩ := hSM
          have S25 := (s3.trans S4).trans S5
          refine ⟨_, S25 _ _ hMd, ?_, nx _ _ ⟨⟨_, rfl⟩, fun u o h => by rw [upd_ne (ne_of_none h hM)]; exact S25 _ _ (s2 _ _ h), ?_⟩⟩
          · rw [List.length_map, asl, List.length_map]
            refine Nat.lt_of_le_of_lt (List.length_filter_le _ _) ?_
            rw [List.length_take]
            exact Nat.lt_of_le_of_lt (show min j _ ≤ 16384 by omega) (by decide)
          · rw [tkj, List.filter_append, List.filter_cons_of_pos (p := freeB clash z) (a := x) e, List.map_append]
            refine SetL.snoc ⟨as, S25 _ _ hMd, asl, fun k a' x' e1 e2 => S25 _ _ (hes k a' x' e1 e2)⟩ (S25 _ _ hMd) ?_ (fun z => by rw [z, S4 _ _ (s3 _ _ hMd)] at g2; cases g2)
            rw [e5]
            unfold txs
            rw [List.map_append]; rfl
        · refine nx _ _ ⟨⟨_, rfl⟩, s2.trans s3, ?_⟩
          rw [tkj, List.filter_append, List.filter_cons_of_neg (p := freeB clash z) (a := x) e, List.filter_nil, List.append_nil]
          exact hSM.same s3
      · rintro σ G2 ⟨⟨v, rfl⟩, s2, as, hMd, asl, hes⟩
        have tkA : (SR clash (ws.take i).reverse).take (ad.map V.ref).length = SR clash (ws.take i).reverse := by rw [List.length_map, adl, List.take_length]
        rw [tkA] at asl hes
        refine ⟨L, M, _, _, rfl, rfl, s2 _ _ hLd, hMd, ?_, ?_⟩
        · rw [List.length_map, List.length_map, adl, asl, List.length_map]
          have := List.length_filter_le (freeB clash z) (SR clash (ws.take i).reverse)
          exact Nat.le_trans (show _ ≤ 40000 by omega) (by decide)
        (intro Ln gn; generalize hEq : upd _ Ln _ = G3; refine newC hEq gn ?_; clear hEq; intro S3 e3 o3)
        refine ⟨Ln, _, rfl, sG.trans (s2.trans S3), ad ++ as, by rw [e3, List.map_append], ?_, ?_⟩
        · rw [tk]
          show _ = (SR clash (ws.take i).reverse ++ ((SR clash (ws.take i).reverse).filter (freeB clash z)).map fun s => s ++ [z]).length
          rw [List.length_append, List.length_append, adl, asl]
        · rw [tk]
          intro k a x e1 e2
          have e2 : (SR clash (ws.take i).reverse ++ ((SR clash (ws.take i).reverse).filter (freeB clash z)).map fun s => s ++ [z])[k]? = some x := e2
          by_cases hk : k < ad.length
          · rw [List.getElem?_append_left hk] at e1
            rw [List.getElem?_append_left (by omega)] at e2
            exact S3 _ _ (s2 _ _ (hel k a x e1 e2))
          · rw [List.getElem?_append_right (by omega)] at e1
            rw [List.getElem?_append_right (by omega), ← adl] at e2
            exact S3 _ _ (hes _ a x e1 e2)
    · rintro σ G ⟨L, v, rfl, sG, hSL⟩
      rw [txs_len, List.take_length] at hSL
      exact ⟨_, rfl, q L G sG hSL⟩
end
end G1
namespace L2
open PySem PySem.Spec PyProof.Rows
theorem zpe_bmK {X : Cx} {e o : Expr} {es : List Expr} {to : TE} {t : TA} {name : Str} {apos cpos : Pos} {T id : String} {r : V → List V → Hp → VK → Prop} (K : PySem.W.Frag) (hK : X.K = K) (pa : PlainAttrs T) (slot : Slot T name id) (hty : typeOf (.builtin id) = pure (.type "method_descriptor")) (hm : MtR X id r) (ho : SPE X o to) (ha : SPA X (e :: es) t) (hbase : attributeBase o name X.env (eval o X.env) = eval o X.env := by rfl) (hfew : ((backTo cpos (starEach (e :: es) X.env)).all (fun x => !x.1) && (backToKw cpos (keywordEach [] X.env)).all (fun x => x.1.isSome)
      && decide ((e :: es).length + ([] : List Keyword).length + (if ([] : List Keyword).isEmpty then 0 else 1) < 30)) = true := by rfl) (hline : (apos.endLine == cpos.line) = true := by rfl) (hs : starEach (e :: es) X.env = (false, eval e X.env) :: starEach es X.env := by rfl) (hplain : (backTo cpos (starEach es X.env)).any (·.1) = false := by rfl) : SPE X (.Call (.Attribute o name apos) (e :: es) [] cpos) (tBM K T r to t) := by
  subst hK
  exact zpe_bm pa slot hty hm ho ha hbase hfew hline hs hplain
end L2
namespace G1
open PySem L2 GM
theorem eqVs_ints : ∀ (l : List V), (∀ x ∈ l, ∃ i, x = V.int i) → eqVs l l = true
  | [], _ => rfl
  | x :: l, h => by
    obtain ⟨i, rfl⟩ := h x List.mem_cons_self
    show (eqV (.int i) (.int i) && eqVs l l) = true
    rw [eqVs_ints l fun y hy => h y (List.mem_cons_of_mem _ hy)]
    simp [eqV]
theorem intsV_mem {n : Nat} {f : Nat → Nat} : ∀ x ∈ intsV n f, ∃ i, x = V.int i := fun x hx => by
  obtain ⟨k, _, rfl⟩ := List.mem_map.mp hx
  exact ⟨_, rfl⟩
theorem intsV_flat (n : Nat) (f : Nat → Nat) : (intsV n f).all flatV = true := by
  rw [List.all_eq_true]
  intro x hx
  obtain ⟨i, rfl⟩ := intsV_mem x hx
  rfl
theorem cut_mem {xs : List V} {lo hi : Option Int} {x : V} (h : x ∈ cutV xs lo hi) : x ∈ xs := by
  unfold cutV at h
  exact List.mem_of_mem_drop (List.mem_of_mem_take h)
theorem cut_lenV (xs : List V) (lo hi : Option Int) : (cutV xs lo hi).length ≤ xs.length := by
  unfold cutV
  rw [List.length_take, List.length_drop]
  omega
theorem count_cast (k : Nat) : ∀ l : List Nat, (l.map fun n => ((n : Nat) : Int)).count ((0 : Int) + (k : Int)) = l.count k
  | [] => rfl
  | n :: l => by
    rw [List.map_cons, List.count_cons, List.count_cons, count_cast k l]
    congr 1
    rw [Int.zero_add]
    by_cases h : n = k
    · subst h; simp
    · have : ¬ ((n : Int) = (k : Int)) := fun z => h (by omega)
      simp [h, this]
theorem allT_14 {cs : List Nat} {cm : Str → Nat → Bool} {n : Nat} (h2 : 2 ≤ cs.length) (h3 : cs.length ≤ 3) (hn : n ≤ 3) (h5 : n + cs.length ≤ 5) : (allT cs cm n).length ≤ 14 := by
  have l : ∀ m k, cs.length ≤ m → (lvl cs cm k).length ≤ m ^ k := fun m k h => lvl_len h k
  have e0 : allT cs cm 0 = [] := rfl
  have e1 : (allT cs cm 1).length = (lvl cs cm 1).length := by rw [allT_succ, e0]; rfl
  have e2 : (allT cs cm 2).length = (lvl cs cm 1).length + (lvl cs cm 2).length := by rw [allT_succ, List.length_append, e1]
  have e3 : (allT cs cm 3).length = (lvl cs cm 1).length + (lvl cs cm 2).length + (lvl cs cm 3).length := by rw [allT_succ, List.length_append, e2]
  by_cases c : cs.length ≤ 2
  · have a1 := l 2 1 c
    have a2 := l 2 2 c
    have a3 := l 2 3 c
    match n, hn with
    | 0, _ => rw [e0]; simp
    | 1, _ => rw [e1]; omega
    | 2, _ => rw [e2]; omega
    | 3, _ => rw [e3]; omega
  · have a1 := l 3 1 h3
    have a2 := l 3 2 h3
    match n, hn with
    | 0, _ => rw [e0]; simp
    | 1, _ => rw [e1]; omega
    | 2, _ => rw [e2]; omega
    | 3, _ => omega
theorem sets_PF {cs : List Nat} {cm : Str → Nat → Bool} (en : Nat → Bool) (nd : cs.Nodup) (j k : Nat) : (((SR clash ((allT cs cm (j + 1)).filter fun z => en (lastC z)).reverse).map fun s => ((s.length : Nat) : Int)).count ((0 : Int) + (k : Int))) = PF cs cm en j k := by
  have e : ((SR clash ((allT cs cm (j + 1)).filter fun z => en (lastC z)).reverse).map fun s => ((s.length : Nat) : Int)) = ((SR clash ((allT cs cm (j + 1)).filter fun z => en (lastC z)).reverse).map List.length).map fun n => ((n : Nat) : Int) := by
    rw [List.map_map]; rfl
  rw [e, count_cast]
  have p := IP_perm clash_sym (List.reverse_perm ((allT cs cm (j + 1)).filter fun z => en (lastC z))) (fun _ => true)
  have q := bfs_PF (cs := cs) (cm := cm) en nd j
  rw [bfs_allT] at q
  rw [List.filter_eq_self.mpr (fun _ _ => rfl), List.filter_eq_self.mpr (fun _ _ => rfl), q] at p
  exact congrFun p k
section
variable {P : Program} {w : World} {K : PySem.W.Frag} {mg : Str → Option Value} {base : Heap}
def spLaw (T1 T2 : Addr) (K : PySem.W.Frag) : Sp := fun vs H Q _ => ∃ (a : Addr) (ns : List Int), vs = [.ref a] ∧ SqL K H a (ns.map V.int) ∧ ns.length ≤ 63 ∧ Tab T1 H ∧ Tab T2 H ∧ ∀ H', Q (.bl true) H'
theorem scLa : FnScope ["_law_script", "_law_tongue_here", "_law_kept", "_law_sizes", "_law_cell_here", "_law_most", "_law_due", "_law_found"] ["_law_script"] (defScope sLaw) := ⟨rfl, rfl, rfl, by decide +kernel, rfl, by decide +kernel, by decide +kernel⟩
theorem ok_law {T1 T2 : Addr} {f fM fY fW fE fS fB fO : Addr} {fd fdM fdY fdW fdE fdS fdB fdO : FuncData} (F : FunG K "law" "law" sLaw .none f fd) (B : Bl mg)
    (GM : FnOk P w K mg base (CXE P w) 4 fM fdM ["_law_script"] (spSmall K)) (mM : mg "_law_small" = some (.ref fM)) (kM : PySem.W.keepIn K (.ref fM) = true) (bM : Binds K fdM ["_law_script"] [])
    (GY : FnOk P w K mg base (CXE P w) 1 fY fdY ["_law_tongue_here"] (spCopyT K)) (mY : mg "_law_copy" = some (.ref fY)) (kY : PySem.W.keepIn K (.ref fY) = true) (bY : Binds K fdY ["_law_tongue_here"] [])
    (GW : FnOk P w K mg base (CXE P w) 4 fW fdW ["_law_tongue_here"] spLWords) (mW : mg "_law_words" = some (.ref fW)) (kW : PySem.W.keepIn K (.ref fW) = true) (bW : Binds K fdW ["_law_tongue_here"] [])
    (GE : FnOk P w K mg base (CXE P w) 3 fE fdE ["_law_words_here"] spLSets) (mE : mg "_law_sets" = some (.ref fE)) (kE : PySem.W.keepIn K (.ref fE) = true) (bE : Binds K fdE ["_law_words_here"] [])
    (GS : FnOk P w K mg base (CXE P w) 8 fS fdS ["tongue", "most"] (spSets T1 T2)) (mS : mg "sets_by_size" = some (.ref fS)) (kS : PySem.W.keepIn K (.ref fS) = true) (bS : Binds K fdS ["tongue", "most"] [])
    (GB : FnOk P w K mg base (CXE P w) 9 fB fdB ["tongue", "many", "ordered"] (spBooks T1 T2)) (mB : mg "books_many" = some (.ref fB)) (kB : PySem.W.keepIn K (.ref fB) = true) (bB : Binds K fdB ["tongue", "many", "ordered"] [])
    (GO : FnOk P w K mg base (CXE P w) 1 fO fdO ["_law_many"] spOrders) (mO : mg "_law_orders" = some (.ref fO)) (kO : PySem.W.keepIn K (.ref fO) = true) (bO : Binds K fdO ["_law_many"] []) : FnOk P w K mg base (CXE P w) 10 f fd ["_law_script"] (spLaw T1 T2 K) := by
  refine F.zokN scLa (fun vs H Q E h => ?_) (fun cdv A outer s H vs Q E hr h => ?_)
  · obtain ⟨a, ns, rfl, _⟩ := h
    rfl
  · obtain ⟨a, ns, rfl, ha, hlen, t1, t2, q⟩ := h
    have hu := Nat.lt_of_succ_lt hr.units1
    refine ⟨_, (zpss_cons (zps_set (i := 1) scLa.nd rfl (Or.inl rfl) (zpe_call GM (hr.mono (by decide)) (by rfl) mM kM bM .nil passE0 (zpac_n (zpv 0) zpa_nil)))
      (zpss_cons (zps_set (i := 2) scLa.nd rfl (Or.inl rfl) (zpe_call GY (hr.mono (by decide)) (by rfl) mY kY bY .nil passE0 (zpac_n (zpv 1) zpa_nil)))
      (zpss_cons (zps_set (i := 3) scLa.nd rfl (Or.inr rfl) (zpe_compL ["_law_script", "_law_tongue_here", "_law_kept", "_law_sizes", "_law_cell_here", "_law_most", "_law_due", "_law_found"] ["_law_some"] [] (defScope sLaw) rfl rfl rfl ⟨by decide +kernel, by decide +kernel, by decide +kernel, by decide +kernel, by decide +kernel⟩ (zpi_list (zpe_call GE (hr.mono (by decide)) (by rfl) mE kE bE .nil passE0 (zpac_f (zpe_call GW (hr.mono (by decide)) (by rfl) mW kW bW .nil passE0 (zpac_n (zpv 1) zpa_nil)) zpa_nil))) (fun s H fp => (zpg_name (i := 0) (show List.Nodup [("_law_some" : Str)] by decide +kernel) rfl (Or.inl rfl))) (fun s H fp => zpts_nil) (fun s H fp => (zpe_callB (call_len_seqK K rfl) (by rfl) B.len PySem.boot_len (zpac_n (zpv 0) zpa_nil)))))
      (zpss_cons (zps_for PassesOwn.never rfl (zpi_list (zpe_op op_cat (zpe_lst (zpac_c zpe_int (zpac_c zpe_int zpa_nil))) (zpe_slice sl_list (zpv 0) (zpo_some zpe_int) (zpo_some zpe_int)))) (zpg_name (i := 4) scLa.nd rfl (Or.inl rfl))
          (zpss_cons (zps_set (i := 5) scLa.nd rfl (Or.inl rfl) (zpe_op op_mod (zpv 4) zpe_int))
      (zpss_cons (zps_compL (i := 6) ["_law_script", "_law_tongue_here", "_law_kept", "_law_sizes", "_law_cell_here", "_law_most", "_law_due", "_law_found"] ["_law_size"] [3] (defScope sLaw) rfl rfl rfl ⟨by decide +kernel, by decide +kernel, by decide +kernel, by decide +kernel, by decide +kernel⟩ scLa.nd rfl (Or.inl rfl) (zpi_range1 (by rfl) B.range (zpac_b (zpe_op op_add (zpv 5) zpe_int) zpa_nil)) (fun s H fp => (zpg_name (i := 0) (show List.Nodup [("_law_size" : Str), "_law_sizes"] by decide +kernel) rfl (Or.inl rfl))) (fun s H fp => zpts_nil) (fun s H fp => (zpe_bmK K rfl PySem.F.plainAttrs_list PySem.F.slot_list_count PySem.F.type_list_count mt_countI (zpv 1) (zpac_n (zpv 0) zpa_nil))))
      (zpss_cons (zps_set (i := 7) scLa.nd rfl (Or.inl rfl) (zpe_call GS (hr.mono (by decide)) (by rfl) mS kS bS .nil passE0 (zpac_n (zpv 1) (zpac_n (zpv 5) zpa_nil))))
      (zpss_cons (zps_if (SPW.pt (zpw_or (zpt_not (zpt_val (zpe_callB call_isi (by rfl) B.isi boot_isi (zpac_n (zpv 7) (zpac_n (zpe_bltn (by rfl) B.list boot_list (v := .ty "list") rfl) zpa_nil))))) (zpw_or (zpt_cmpR (op_neV hu) (zpv 7) (zpv 6) (nomark _)) (zpw_or1 (zpt_cmpR (op_neV hu) (zpe_compL ["_law_script", "_law_tongue_here", "_law_kept", "_law_sizes", "_law_cell_here", "_law_most", "_law_due", "_law_found"] ["_law_one"] [] (defScope sLaw) rfl rfl rfl ⟨by decide +kernel, by decide +kernel, by decide +kernel, by decide +kernel, by decide +kernel⟩ (zpi_list (zpv 7)) (fun s H fp => (zpg_name (i := 0) (show List.Nodup [("_law_one" : Str)] by decide +kernel) rfl (Or.inl rfl))) (fun s H fp => (zpts_one (zpt_val (zpe_callB (call_isiK K rfl) (by rfl) B.isi boot_isi (zpac_n (zpv 0) (zpac_n (zpe_bltn (by rfl) B.bool boot_bool (v := .ty "bool") rfl) zpa_nil)))))) (fun s H fp => (zpv 0))) (zpe_lst zpa_nil) (nomark _)))))) (zpss_one (zps_ret zpe_bl)) zpss_nil)
      (zpss_cons (zps_expr (zpe_bm0 PySem.F.plainAttrs_list PySem.F.slot_list_clear PySem.F.type_list_clear mt_clear (zpv 7)))
      (zpss_cons (zps_if (zpt_cmpR (op_neV hu) (zpe_call GS (hr.mono (by decide)) (by rfl) mS kS bS .nil passE0 (zpac_n (zpv 1) (zpac_n (zpv 5) zpa_nil))) (zpv 6) (nomark _)) (zpss_one (zps_ret zpe_bl)) zpss_nil)
      (zpss_cons (zps_if (SPW.pt (zpw_and (zpt_cmpR op_gt (zpv 5) zpe_int (nomark _)) (zpw_and1 (zpt_cmpR op_ne (zpe_call GB hr (by rfl) mB kB bB .nil passE0 (zpac_n (zpv 1) (zpac_n (zpv 5) (zpac_c zpe_bl zpa_nil)))) (zpe_ix ix_list (zpv 6) (zpv 5) (fun _ _ => rfl)) (nomark _))))) (zpss_one (zps_ret zpe_bl)) zpss_nil)
      (zpss_one (zps_if (SPW.pt (zpw_and (zpt_cmpR op_gt (zpv 5) zpe_int (nomark _)) (zpw_and1 (zpt_cmpR op_ne (zpe_call GB hr (by rfl) mB kB bB .nil passE0 (zpac_n (zpv 1) (zpac_n (zpv 5) (zpac_c zpe_bl zpa_nil)))) (zpe_op op_mulB (zpe_ix ix_list (zpv 6) (zpv 5) (fun _ _ => rfl)) (zpe_call GO (hr.mono (by decide)) (by rfl) mO kO bO .nil passE0 (zpac_n (zpv 5) zpa_nil))) (nomark _))))) (zpss_one (zps_ret zpe_bl)) zpss_nil))))))))))
      (zpss_one (zps_ret (zpe_cmpR (op_eqD hr.units60) (zpv 1) (zpv 2) (nomark _)))))))), ?_⟩
    have s100 : ∀ {n : Nat}, n ≤ 100 → n ≤ sizeLine := fun h => Nat.le_trans h (by decide)
    refine ⟨_, rfl, a, ns, rfl, ha, fun t cs fs ps lg H1 s1 tg c3 l3 c5 => ?_⟩
    obtain ⟨S, Fr, Pp, xs, h1, h2, rows, h4, h5⟩ := tg.ex
    have tx : TgX H1 t xs cs := ⟨⟨S, _, _, _, h1, h2⟩, rows⟩
    have ha1 := sqL_same ha s1
    refine ⟨_, rfl, t, S, Fr, Pp, _, xs, txs fs, txs ps, rfl, h1, h2, h4, h5, fun u S' F' P' H2 fu fS fF fP eu eS eF eP s2 => ?_⟩
    have l1 := tg.l1
    have k2 := tg.c2
    obtain ⟨j, hj⟩ : ∃ j : Nat, lg.toNat = j + 1 := ⟨lg.toNat - 1, by omega⟩
    have tg2 := tg.kp (Kp.same s2)
    have tx2 := tx.kp (Kp.same s2)
    have rows2 := tx2.rows
    refine ⟨_, rfl, t, cs, fs, ps, lg, xs, rfl, tg2, tx2, by omega, by omega, fun Wl H3 s3 fW hW => ?_⟩
    rw [hj] at hW
    have hn := allT_14 (cm := cmT fs ps) (n := j + 1) k2 c3 (by omega) (by omega)
    have wsz := allT_size (cs := cs) (cm := cmT fs ps) (n := j + 1) (by omega)
    generalize hen : endB H2 xs cs = en at hW
    generalize hws : ((allT cs (cmT fs ps) (j + 1)).filter fun z => en (lastC z)) = ws at hW
    have wl : ws.length ≤ 14 := by rw [← hws]; exact Nat.le_trans (List.length_filter_le _ _) hn
    have we : ∀ z ∈ ws, z.length ≤ 100 := fun z hz => by
      rw [← hws] at hz
      have := (wsz z (List.mem_filter.mp hz).1).1
      omega
    refine ⟨Wl, ws, rfl, hW, wl, we, fun L H4 s4 hSL => ?_⟩
    obtain ⟨ad, hLd, adl, hel⟩ := hSL
    have srl := SR_len clash ws.reverse
    have wr : ws.reverse.length ≤ 14 := by rw [List.length_reverse]; exact wl
    have p14 : (SR clash ws.reverse).length ≤ 16384 := Nat.le_trans srl (Nat.le_trans (Nat.pow_le_pow_right (by decide) wr) (by decide))
    refine ⟨L, rfl, ⟨_, SqL.of hLd⟩, fun M hM => ?_⟩
    refine lr_list (xs := ad.map V.ref) (fun i σ G => (∃ v, σ = [v]) ∧ Same H4 G ∧ G M = some (.lst (((((SR clash ws.reverse).take i).map fun s => ((s.length : Nat) : Int))).map V.int))) ⟨⟨_, rfl⟩, same_upd hM, upd_same⟩ (fun i σ G p => SqL.of (p.2.1 _ _ hLd)) ?_ ?_
    · rintro i y σ G C hy ⟨⟨v, rfl⟩, sG, hMG⟩ nx
      rw [List.getElem?_map] at hy
      obtain ⟨b, hb, e⟩ := Option.map_eq_some_iff.mp hy
      cases e
      have jl := (List.getElem?_eq_some_iff.mp hb).1
      obtain ⟨x, hx⟩ : ∃ x, (SR clash ws.reverse)[i]? = some x := ⟨_, List.getElem?_eq_getElem (by omega)⟩
      have hax := sG _ _ (hel i b x hb hx)
      have tk : (SR clash ws.reverse).take (i + 1) = (SR clash ws.reverse).take i ++ [x] := by rw [List.take_add_one, hx]; rfl
      dsimp only [gName]
      refine ⟨_, rfl, b, _, rfl, .inl (SqL.of hax), _, hMG, ?_, nx _ _ ⟨⟨_, rfl⟩, fun u o h => by rw [upd_ne (ne_of_none h hM)]; exact sG _ _ h, ?_⟩⟩
      · rw [List.length_map, List.length_map, List.length_take]
        exact Nat.lt_of_le_of_lt (show min i _ ≤ 16384 by omega) (by decide)
      · rw [upd_same, tk, List.map_append, List.map_append, txs_len]; rfl
    rintro σ H5 ⟨⟨v, rfl⟩, s5, hM5⟩
    have tkA : (SR clash ws.reverse).take (ad.map V.ref).length = SR clash ws.reverse := by rw [List.length_map, adl, List.take_length]
    rw [tkA] at hM5
    have S15 : Same H1 H5 := ((s2.trans s3).trans s4).trans s5
    have S25 : Same H2 H5 := (s3.trans s4).trans s5
    refine ⟨by show 2 ≤ sizeLine; decide, ?_⟩
    (intro c1 gc1; generalize hEq : upd _ c1 _ = H6; refine newC hEq gc1 ?_; clear hEq; intro S6 e6 o6)
    refine ⟨_, rfl, _, rfl, _, rfl, a, _, rfl, sqL_same ha1 (S15.trans S6), ?_⟩
    (intro c2 gc2; generalize hEq : upd _ c2 _ = H7; refine newC hEq gc2 ?_; clear hEq; intro S7 e7 o7)
    refine ⟨c1, c2, _, _, rfl, rfl, S7 _ _ e6, e7, ?_, ?_⟩
    · have := cut_lenV (ns.map V.int) (some 9) (some 16)
      rw [List.length_map] at this
      exact s100 (show 2 + _ ≤ 100 by omega)
    (intro c3' gc3; generalize hEq : upd _ c3' _ = H8; refine newC hEq gc3 ?_; clear hEq; intro S8 e8 o8)
    have S58 := (S6.trans S7).trans S8
    have S18 := S15.trans S58
    have S28 := S25.trans S58
    have K18 : Kp H1 H8 := Kp.same S18
    have hM8 := S58 _ _ hM5
    have ta8 := t1.same (s1.trans S18)
    have tb8 : TabL T2 [] H8 := ⟨t2.same (s1.trans S18), fun U hU => by cases hU⟩
    have en8 : ∀ {G : Hp}, Kp H8 G → endB G xs cs = en := fun {G} k => by
      rw [← hen]
      exact funext fun c => endB_kp rows2 ((Kp.same S28).trans k)
    refine ⟨c3', rfl, ⟨_, SqL.of e8⟩, for_list (K := K) (a := c3') (fun i σ G => (∃ v4 v5 v6 v7, σ = [some (.ref a), some (.ref t), some (.ref u), some (.ref M), v4, v5, v6, v7]) ∧ Kp H8 G ∧ Tab T1 G ∧ TabL T2 [] G) ⟨⟨_, _, _, _, rfl⟩, Kp.refl, ta8, tb8⟩ (fun i σ G _ p => SqL.of (p.2.1.lst e8)) ?_ ?_⟩
    · rintro i x σ G hx ⟨⟨v4, v5, v6, v7, rfl⟩, kG, taG, tbG⟩
      obtain ⟨z, rfl⟩ : ∃ z, x = V.int z := by
        have hm := List.mem_of_getElem? hx
        rcases List.mem_append.mp hm with h | h
        · rcases List.mem_cons.mp h with h | h
          · exact ⟨_, h⟩
          · exact ⟨_, List.mem_singleton.mp h⟩
        · obtain ⟨z, _, e⟩ := List.mem_map.mp (cut_mem h)
          exact ⟨z, e.symm⟩
      have z0 : (0 : Int) ≤ z % 21 := Int.emod_nonneg _ (by decide)
      have z1 : z % 21 < 21 := Int.emod_lt_of_pos _ (by decide)
      obtain ⟨m, hm⟩ : ∃ m : Nat, z % 21 = (m : Int) := ⟨(z % 21).toNat, by omega⟩
      have m20 : m ≤ 20 := by omega
      refine ⟨_, rfl, _, _, rfl, rfl, by show (0 : Int) < 21; decide, ?_⟩
      have k1G := K18.trans kG
      have enG := en8 kG
      have ej : lg.toNat - 1 = j := by omega
      refine ⟨_, rfl, _, _, rfl, rfl, _, rfl, by show -2 ^ 62 ≤ z % 21 + 1; omega, by show z % 21 + 1 < 2 ^ 62; omega, fun D hD => ?_⟩
      have cnt : (z % 21 + 1).toNat = m + 1 := by omega
      rw [cnt]
      refine lr_range (Pv := fun k σ G2 => (∃ v, σ = [v, some (.ref M)]) ∧ Same G G2 ∧ G2 D = some (.lst (intsV k (PF cs (cmT fs ps) en j)))) ⟨⟨_, rfl⟩, same_upd hD, upd_same⟩ ?_ ?_
      · rintro k σ G2 C hk ⟨⟨v, rfl⟩, s2', hDG⟩ nx
        dsimp only [gName]
        have hMG := s2' _ _ (kG.lst hM8)
        refine ⟨_, rfl, .inl ⟨rfl, _, SqL.of hMG⟩, _, rfl, M, _, _, rfl, rfl, hMG, _, hDG, ?_, nx _ _ ⟨⟨_, rfl⟩, fun u o h => by rw [upd_ne (ne_of_none h hD)]; exact s2' _ _ h, ?_⟩⟩
        · rw [intsV_len]
          exact Nat.lt_of_le_of_lt (show k ≤ 100 by omega) (by decide)
        · rw [upd_same, ← hws, sets_PF en tg.nd j k]
          unfold intsV
          rw [List.range_succ, List.map_append]; rfl
      rintro σ G2 ⟨⟨v, rfl⟩, s2', hDG⟩
      clear v
      have kG2 := kG.trans (Kp.same s2')
      have k12 := K18.trans kG2
      have en2 := en8 kG2
      refine ⟨_, rfl, _, rfl, t, m, cs, fs, ps, lg, xs, by rw [← hm]; rfl, m20, tg.kp k12, tx.kp k12, taG.same s2', tbG.same s2', fun L3 G3 k3 ta3 tb3 f3 h3 => ?_⟩
      rw [en2, ej] at h3
      have hD3 := k3.lst hDG
      have ne1 : ∀ l : List V, (∀ x ∈ l, ∃ i, x = V.int i) → (if true = true then !eqVs l l else eqVs l l) = false := fun l h => by rw [eqVs_ints l h]; rfl
      refine ⟨_, rfl, _, _, _, true, rfl, .of (.lst h3), .inl ⟨_, rfl, kl1⟩, _, rfl, iteF ?_⟩
      refine ⟨_, rfl, _, rfl, L3, D, _, _, rfl, rfl, SqL.of h3, SqL.of hD3, intsV_flat _ _, intsV_flat _ _, _, rfl, ?_⟩
      rw [ne1 _ intsV_mem]
      refine iteF ?_
      refine ⟨_, rfl, L3, rfl, ⟨_, SqL.of h3⟩, fun N hN => ?_⟩
      refine lr_list (xs := intsV (m + 1) (PF cs (cmT fs ps) en j)) (fun i σ G => (∃ v, σ = [v]) ∧ Same G3 G ∧ G N = some (.lst [])) ⟨⟨_, rfl⟩, same_upd hN, upd_same⟩ (fun i σ G p => SqL.of (p.2.1 _ _ h3)) ?_ ?_
      · rintro i x σ G4 C hx ⟨⟨v, rfl⟩, s4', hNG⟩ nx
        obtain ⟨n, rfl⟩ := intsV_mem x (List.mem_of_getElem? hx)
        obtain ⟨t', ty, e1, e2⟩ := (Th.int (H := G4) n).ty (K := K)
        dsimp only [gName]
        exact ⟨_, rfl, _, _, t', false, rfl, ty, .inl ⟨_, rfl, e2 rfl⟩, _, rfl, iteF (nx _ _ ⟨⟨_, rfl⟩, s4', hNG⟩)⟩
      rintro σ G4 ⟨⟨v, rfl⟩, s4', hNG⟩
      clear v
      refine ⟨Nat.zero_le _, fun e0 he0 => ?_⟩
      have s5' := same_upd (o := .lst []) he0
      refine ⟨N, e0, _, _, rfl, rfl, SqL.of (s5' _ _ hNG), SqL.of upd_same, rfl, rfl, _, rfl, iteF ?_⟩
      generalize upd G4 e0 (.lst []) = G5 at s5'
      have s35 := s4'.trans s5'
      have h35 := s35 _ _ h3
      refine ⟨_, rfl, .inl ⟨rfl, _, SqL.of h35⟩, L3, _, rfl, rfl, h35, ?_⟩
      have k25 : Kp G2 (upd G5 L3 (.lst [])) := (k3.trans (Kp.same s35)).updF f3
      have ta6 : Tab T1 (upd G5 L3 (.lst [])) := (ta3.same s35).set h35 nofun
      have tb6 : TabL T2 [] (upd G5 L3 (.lst [])) := (tb3.same s35).set h35 nofun
      generalize upd G5 L3 (.lst []) = G6 at k25 ta6 tb6 ⊢
      have k16 := k12.trans k25
      have hD6 := k25.lst hDG
      refine ⟨_, rfl, _, rfl, t, m, cs, fs, ps, lg, xs, by rw [← hm]; rfl, m20, tg.kp k16, tx.kp k16, ta6, tb6, fun L7 G7 k7 ta7 tb7 f7 h7 => ?_⟩
      rw [en8 (kG2.trans k25), ej] at h7
      have hD7 := k7.lst hD6
      refine ⟨_, rfl, L7, D, _, _, rfl, rfl, SqL.of h7, SqL.of hD7, intsV_flat _ _, intsV_flat _ _, _, rfl, ?_⟩
      rw [ne1 _ intsV_mem]
      refine iteF ?_
      have k27 := k25.trans k7
      have k17 := k12.trans k27
      have hat : atI (intsV (m + 1) (PF cs (cmT fs ps) en j)) (z % 21) = some (.int (PF cs (cmT fs ps) en j m : Nat)) := by
        rw [hm]
        exact intsV_at (by omega)
      by_cases pos : 0 < m
      · have dp : decide ((0 : Int) < z % 21) = true := decide_eq_true (by omega)
        refine ⟨_, rfl, _, _, rfl, rfl, _, rfl, ite2 (fun _ => ?_) (fun e => absurd dp e)⟩
        refine ⟨_, rfl, _, rfl, t, m, true, cs, fs, ps, lg, xs, by rw [← hm]; rfl, m20, tg.kp k17, tx.kp k17, ta7, tb7, fun G8 k8 ta8' tb8' => ?_⟩
        rw [en8 (kG2.trans k27), ej]
        have hD8 := k8.lst hD7
        refine ⟨_, rfl, _, rfl, D, _, _, _, rfl, rfl, SqL.of hD8, hat, rfl, _, rfl, ite2 (fun e => ?_) (fun _ => ?_)⟩
        · exfalso
          have e : (!decide (V.int ((PF cs (cmT fs ps) en j m : Nat) : Int) = V.int ((PF cs (cmT fs ps) en j m : Nat) : Int))) = true := e
          rw [decide_eq_true rfl] at e
          cases e
        have k28 := k27.trans k8
        have k18 := k12.trans k28
        refine ⟨_, rfl, _, _, rfl, rfl, _, rfl, ite2 (fun _ => ?_) (fun e => absurd dp e)⟩
        refine ⟨_, rfl, _, rfl, t, m, false, cs, fs, ps, lg, xs, by rw [← hm]; rfl, m20, tg.kp k18, tx.kp k18, ta8', tb8', fun G9 k9 ta9 tb9 => ?_⟩
        rw [en8 (kG2.trans k28), ej]
        have hD9 := k9.lst hD8
        have pf_le := PF_le (cs := cs) (cm := cmT fs ps) (l := en) tg.c6 (s := j) (by omega) m20
        have b1 : PF cs (cmT fs ps) en j m < big := by
          have h3 : (2 ^ 23 : Nat) ^ 20 < big := by unfold big; decide +kernel
          omega
        have b2 : facN m < big := by
          have := fac_big (x := 1) (n := m) (by decide) m20
          rw [Nat.one_mul] at this
          exact this
        refine ⟨_, rfl, _, rfl, D, _, _, _, rfl, rfl, SqL.of hD9, hat, _, rfl, m, by rw [← hm]; rfl, m20, _, _, rfl, rfl, ⟨by rw [Int.natAbs_natCast]; exact b1, by rw [Int.natAbs_natCast]; exact b2⟩, rfl, _, rfl, ite2 (fun e => ?_) (fun _ => ?_)⟩
        · exfalso
          have e : (!decide (V.int ((PF cs (cmT fs ps) en j m * facN m : Nat) : Int) = V.int (((PF cs (cmT fs ps) en j m : Nat) : Int) * ((facN m : Nat) : Int)))) = true := e
          rw [show ((PF cs (cmT fs ps) en j m * facN m : Nat) : Int) = ((PF cs (cmT fs ps) en j m : Nat) : Int) * ((facN m : Nat) : Int) from by push_cast; rfl, decide_eq_true rfl] at e
          cases e
        exact ⟨⟨_, _, _, _, rfl⟩, kG2.trans (k28.trans k9), ta9, tb9⟩
      · have dp : decide ((0 : Int) < z % 21) = false := decide_eq_false (by omega)
        refine ⟨_, rfl, _, _, rfl, rfl, _, rfl, ite2 (fun e => ?_) (fun _ => iteF ?_)⟩
        · have e : decide ((0 : Int) < z % 21) = true := e
          rw [dp] at e
          cases e
        refine ⟨_, rfl, _, _, rfl, rfl, _, rfl, ite2 (fun e => ?_) (fun _ => iteF ?_)⟩
        · have e : decide ((0 : Int) < z % 21) = true := e
          rw [dp] at e
          cases e
        exact ⟨⟨_, _, _, _, rfl⟩, kG2.trans k27, ta7, tb7⟩
    · rintro σ G ⟨⟨v4, v5, v6, v7, rfl⟩, kG, taG, tbG⟩
      have k1G := K18.trans kG
      have K2G : Kp H2 G := (Kp.same S28).trans kG
      have xr : ∀ y ∈ xs, flatV y = true ∨ ∃ r, y = V.ref r := fun y hy => by
        obtain ⟨i, hi⟩ := List.getElem?_of_mem hy
        obtain ⟨c', _, row⟩ := rows.at hi
        obtain ⟨a', _, _, e, _⟩ := row.ex
        exact .inr ⟨a', e⟩
      refine ⟨_, rfl, _, rfl, 1, true, by decide, ?_, q _⟩
      refine eqt_tup (SqT.of (k1G.tup h1)) (SqT.of (K2G.tup eu)) rfl fun j x y hx hy => ?_
      match j, hx, hy with
      | 0, hx, hy => cases hx; cases hy; exact eqt_up (eqt_same (SqL.of (k1G.lst h2)) (SqL.of (K2G.lst eS)) xr)
      | 1, hx, hy => cases hx; cases hy; exact eqt_up (eqt_same (SqL.of (k1G.lst h4)) (SqL.of (K2G.lst eF)) fun y hy => .inl (txs_flatM y hy))
      | 2, hx, hy => cases hx; cases hy; exact eqt_up (eqt_same (SqL.of (k1G.lst h5)) (SqL.of (K2G.lst eP)) fun y hy => .inl (txs_flatM y hy))
      | 3, hx, hy => cases hx; cases hy; exact eqt_flat rfl 1
      | j + 4, hx, hy => simp at hx
end
end G1
namespace L2
open PySem PySem.Spec PyProof.Rows PySem.W PySem.W.X
def keepP (p : Addr × Obj) : Bool := match p.2.data with | .fields vs => !vs.isEmpty | _ => true
def filt (K : Frag) : Frag := K.filter keepP
theorem filt_look {a : Addr} {o : Obj} : ∀ {K : Frag}, K.lookup a = some o → keepP (a, o) = true → (filt K).lookup a = some o
  | [], e, _ => nomatch e
  | (b, u) :: K, e, k => by
    by_cases q : a = b
    · subst q
      have e' : some u = some o := by rw [List.lookup_cons, beq_self_eq_true] at e; exact e
      cases e'
      have z : filt ((a, o) :: K) = (a, o) :: filt K := List.filter_cons_of_pos k
      rw [z, List.lookup_cons, beq_self_eq_true]
    · have f : (a == b) = false := beq_eq_false_iff_ne.mpr q
      have e' : K.lookup a = some o := by rw [List.lookup_cons, f] at e; exact e
      have r := filt_look e' k
      cases hk : keepP (b, u) with
      | true =>
        have z : filt ((b, u) :: K) = (b, u) :: filt K := List.filter_cons_of_pos hk
        rw [z, List.lookup_cons, f]; exact r
      | false =>
        have z : filt ((b, u) :: K) = filt K := List.filter_cons_of_neg (by rw [hk]; exact Bool.false_ne_true)
        rw [z]; exact r
theorem filt_ns {K : Frag} {ns : Addr} {x : Str} {v : Option Value} (e : nsIn K ns x = some v) : nsIn (filt K) ns x = some v := by
  unfold nsIn at e ⊢
  split at e
  next cls d es ep sl l => rw [filt_look l rfl]; exact e
  next => cases e
theorem filt_code {K : Frag} {cd : Value} {q : Str} (e : codeIn K cd q = true) : codeIn (filt K) cd q = true := by
  unfold codeIn at e ⊢
  split at e
  next c =>
    split at e
    next cls d vs sl l =>
      rw [filt_look l (by
        show (!vs.isEmpty) = true
        cases hv : vs.isEmpty with
        | false => rfl
        | true =>
          rw [Array.isEmpty_iff] at hv
          subst hv
          exact e)]
      exact e
    next => cases e
  next => cases e
theorem filt_mem {a : Addr} {o : Obj} : ∀ {K : Frag}, (filt K).lookup a = some o → (a, o) ∈ K
  | [], e => nomatch e
  | (b, u) :: K, e => by
    cases hk : keepP (b, u) with
    | true =>
      have z : filt ((b, u) :: K) = (b, u) :: filt K := List.filter_cons_of_pos hk
      rw [z, List.lookup_cons] at e
      by_cases q : a = b
      · subst q
        rw [beq_self_eq_true] at e
        cases e
        exact List.mem_cons_self ..
      · rw [beq_eq_false_iff_ne.mpr q] at e
        exact List.mem_cons_of_mem _ (filt_mem e)
    | false =>
      have z : filt ((b, u) :: K) = filt K := List.filter_cons_of_neg (by rw [hk]; exact Bool.false_ne_true)
      rw [z] at e
      exact List.mem_cons_of_mem _ (filt_mem e)
theorem allIn_mem {h : Heap} : ∀ {K : Frag} {p : Addr × Obj}, AllIn h K → p ∈ K → h.get? p.1 = some p.2
  | [], _, _, m => nomatch m
  | q :: K, p, A, m => by
    rcases List.mem_cons.mp m with rfl | m
    · exact A.1
    · exact allIn_mem A.2 m
theorem walkX_of {q : Program} {loose : List Str} {XP : (Str → Option Value) → Heap → Prop} {K : Params → Frag} {as : List Addr} {n t : Nat} {r : RowW} {d : DefRec} {kwd : List (Str × PySem.Expr)} {run : Value → List Value → Sem Value}
    (e : ∀ P, as = (K P).map (·.1)) (h : WalkO q loose XP (fun w h => (filt (K w.params)).In h) r d kwd run) : WalkX q loose XP (obsZ as) (valZ K n t) r d kwd run :=
  fun w s₀ s₁ mg mb G Y a o pm cd doc dV kV ho hd hcd hD hmg hg args vals as L hpre hlay hrd hwl hlo =>
    h w s₀ s₁ mg mb G (fun b u l => L.keeps _ _ (allIn_mem (z_facts e Y).1 (filt_mem l))) a o pm cd doc dV kV ho hd hcd hD hmg hg args vals as hpre hlay hrd hwl hlo
end L2
namespace L2
open PySem PySem.Spec PyProof.Rows PySem.W PySem.W.X
end L2
namespace G1
open PySem PySem.Spec PyProof.Rows L2 GM
theorem keep_of {K : PySem.W.Frag} {f : Addr} {oc : Value} {od : Option Addr} {fd : FuncData} {sl : Array (Option Value)} (l : K.lookup f = some ⟨oc, od, .func fd, sl⟩) : PySem.W.keepIn K (.ref f) = true := by
  unfold PySem.W.keepIn
  simp only [l]
theorem cd_of {K : PySem.W.Frag} {n x q : Str} {f c T : Addr} {fd : FuncData} {oc : Value} {od : Option Addr} {sl : Array (Option Value)} {ar : Arguments} {bo : List Stmt} {sc : Scope} {dV kV dc pm cd ct : Value} {an : Option Addr} (C : CodeN K n f c T fd) (l : K.lookup f = some ⟨oc, od, .func (PySem.W.fnOf x q ar bo sc dV kV dc pm an cd ct), sl⟩) : cd = .ref c := by
  obtain ⟨oc', od', sl', l'⟩ := C.l
  rw [l] at l'
  injection l' with l'; injection l' with _ _ l' _; injection l' with l'
  rw [← C.hc, ← l']
theorem len1 {us : List Value} (h : us.length = 1) : ∃ a0, us = [a0] := by
  match us, h with
  | [a0], _ => exact ⟨a0, rfl⟩
theorem len2 {us : List Value} (h : us.length = 2) : ∃ a0 a1, us = [a0, a1] := by
  match us, h with
  | [a0, a1], _ => exact ⟨a0, a1, rfl⟩
theorem len3 {us : List Value} (h : us.length = 3) : ∃ a0 a1 a2, us = [a0, a1, a2] := by
  match us, h with
  | [a0, a1, a2], _ => exact ⟨a0, a1, a2, rfl⟩
theorem len4 {us : List Value} (h : us.length = 4) : ∃ a0 a1 a2 a3, us = [a0, a1, a2, a3] := by
  match us, h with
  | [a0, a1, a2, a3], _ => exact ⟨a0, a1, a2, a3, rfl⟩
theorem all_mk {l : PySem.W.OpenLaw} {w : World} {K : PySem.W.Frag} {h : Heap} {mg : Str → Option Value} {fa : Addr} (X : K.In h) (G : h.Ns mainGlobals mg) (hfa : mg "law" = some (.ref fa))
    {f0 : Addr} {od0 an0 : Option Addr} {sl0 : Array (Option Value)} {oc0 kV0 dc0 pm0 cd0 ct0 : Value}
    {f1 : Addr} {od1 an1 : Option Addr} {sl1 : Array (Option Value)} {oc1 kV1 dc1 pm1 cd1 ct1 : Value}
    {f2 : Addr} {od2 an2 : Option Addr} {sl2 : Array (Option Value)} {oc2 kV2 dc2 pm2 cd2 ct2 : Value}
    {f3 : Addr} {od3 an3 : Option Addr} {sl3 : Array (Option Value)} {oc3 kV3 dc3 pm3 cd3 ct3 : Value}
    {f4 : Addr} {od4 an4 : Option Addr} {sl4 : Array (Option Value)} {oc4 kV4 dc4 pm4 cd4 ct4 : Value}
    {cc4 T4 : Addr} {fdT4 : FuncData}
    {f5 : Addr} {od5 an5 : Option Addr} {sl5 : Array (Option Value)} {oc5 kV5 dc5 pm5 cd5 ct5 : Value}
    {f6 : Addr} {od6 an6 : Option Addr} {sl6 : Array (Option Value)} {oc6 kV6 dc6 pm6 cd6 ct6 : Value}
    {f7 : Addr} {od7 an7 : Option Addr} {sl7 : Array (Option Value)} {oc7 kV7 dc7 pm7 cd7 ct7 : Value}
    {f8 : Addr} {od8 an8 : Option Addr} {sl8 : Array (Option Value)} {oc8 kV8 dc8 pm8 cd8 ct8 : Value}
    {cc8 T8 : Addr} {fdT8 : FuncData}
    {f9 : Addr} {od9 an9 : Option Addr} {sl9 : Array (Option Value)} {oc9 kV9 dc9 pm9 cd9 ct9 : Value}
    {f10 : Addr} {od10 an10 : Option Addr} {sl10 : Array (Option Value)} {oc10 kV10 dc10 pm10 cd10 ct10 : Value}
    {f11 : Addr} {od11 an11 : Option Addr} {sl11 : Array (Option Value)} {oc11 kV11 dc11 pm11 cd11 ct11 : Value}
    {f12 : Addr} {od12 an12 : Option Addr} {sl12 : Array (Option Value)} {oc12 kV12 dc12 pm12 cd12 ct12 : Value}
    {f13 : Addr} {od13 an13 : Option Addr} {sl13 : Array (Option Value)} {oc13 kV13 dc13 pm13 cd13 ct13 : Value}
    {f14 : Addr} {od14 an14 : Option Addr} {sl14 : Array (Option Value)} {oc14 kV14 dc14 pm14 cd14 ct14 : Value}
    {f15 : Addr} {od15 an15 : Option Addr} {sl15 : Array (Option Value)} {oc15 kV15 dc15 pm15 cd15 ct15 : Value}
    {f16 : Addr} {od16 an16 : Option Addr} {sl16 : Array (Option Value)} {oc16 kV16 dc16 pm16 cd16 ct16 : Value}
    {f17 : Addr} {od17 an17 : Option Addr} {sl17 : Array (Option Value)} {oc17 kV17 dc17 pm17 cd17 ct17 : Value}
    {f18 : Addr} {od18 an18 : Option Addr} {sl18 : Array (Option Value)} {oc18 kV18 dc18 pm18 cd18 ct18 : Value}
    {f19 : Addr} {od19 an19 : Option Addr} {sl19 : Array (Option Value)} {oc19 kV19 dc19 pm19 cd19 ct19 : Value}
    {f20 : Addr} {od20 an20 : Option Addr} {sl20 : Array (Option Value)} {oc20 kV20 dc20 pm20 cd20 ct20 : Value}
    {f21 : Addr} {od21 an21 : Option Addr} {sl21 : Array (Option Value)} {oc21 kV21 dc21 pm21 cd21 ct21 : Value}
    {f22 : Addr} {od22 an22 : Option Addr} {sl22 : Array (Option Value)} {oc22 kV22 dc22 pm22 cd22 ct22 : Value}
    {f23 : Addr} {od23 an23 : Option Addr} {sl23 : Array (Option Value)} {oc23 kV23 dc23 pm23 cd23 ct23 : Value}
    {f24 : Addr} {od24 an24 : Option Addr} {sl24 : Array (Option Value)} {oc24 kV24 dc24 pm24 cd24 ct24 : Value}
    {f25 : Addr} {od25 an25 : Option Addr} {sl25 : Array (Option Value)} {oc25 kV25 dc25 pm25 cd25 ct25 : Value}
    {f26 : Addr} {od26 an26 : Option Addr} {sl26 : Array (Option Value)} {oc26 kV26 dc26 pm26 cd26 ct26 : Value}
    {f27 : Addr} {od27 an27 : Option Addr} {sl27 : Array (Option Value)} {oc27 kV27 dc27 pm27 cd27 ct27 : Value}
    {f28 : Addr} {od28 an28 : Option Addr} {sl28 : Array (Option Value)} {oc28 kV28 dc28 pm28 cd28 ct28 : Value}
    {f29 : Addr} {od29 an29 : Option Addr} {sl29 : Array (Option Value)} {oc29 kV29 dc29 pm29 cd29 ct29 : Value}
    {f30 : Addr} {od30 an30 : Option Addr} {sl30 : Array (Option Value)} {oc30 kV30 dc30 pm30 cd30 ct30 : Value}
    {f31 : Addr} {od31 an31 : Option Addr} {sl31 : Array (Option Value)} {oc31 kV31 dc31 pm31 cd31 ct31 : Value}
    {f32 : Addr} {od32 an32 : Option Addr} {sl32 : Array (Option Value)} {oc32 kV32 dc32 pm32 cd32 ct32 : Value}
    {f33 : Addr} {od33 an33 : Option Addr} {sl33 : Array (Option Value)} {oc33 kV33 dc33 pm33 cd33 ct33 : Value}
    {f34 : Addr} {od34 an34 : Option Addr} {sl34 : Array (Option Value)} {oc34 kV34 dc34 pm34 cd34 ct34 : Value}
    {f35 : Addr} {od35 an35 : Option Addr} {sl35 : Array (Option Value)} {oc35 kV35 dc35 pm35 cd35 ct35 : Value}
    {tkA tkB tkC tkD tkE : Tok}
    (CN4 : CodeN K "is_name" f4 cc4 T4 fdT4)
    (CN8 : CodeN K "are_signs" f8 cc8 T8 fdT8)
    (a0 : PySem.W.nsIn K mainGlobals "is_whole" = some (some (.ref f0)))
    (l0 : K.lookup f0 = some ⟨oc0, od0, .func (PySem.W.fnOf "is_whole" "is_whole" (defArgs sWhole) (defBody sWhole) (defScope sWhole) .none kV0 dc0 pm0 an0 cd0 ct0), sl0⟩)
    (c0 : PySem.W.codeIn K cd0 "is_whole" = true)
    (a1 : PySem.W.nsIn K mainGlobals "is_whole_within" = some (some (.ref f1)))
    (l1 : K.lookup f1 = some ⟨oc1, od1, .func (PySem.W.fnOf "is_whole_within" "is_whole_within" (defArgs sWithin) (defBody sWithin) (defScope sWithin) .none kV1 dc1 pm1 an1 cd1 ct1), sl1⟩)
    (c1 : PySem.W.codeIn K cd1 "is_whole_within" = true)
    (a2 : PySem.W.nsIn K mainGlobals "is_fraction" = some (some (.ref f2)))
    (l2 : K.lookup f2 = some ⟨oc2, od2, .func (PySem.W.fnOf "is_fraction" "is_fraction" (defArgs sIsF) (defBody sIsF) (defScope sIsF) .none kV2 dc2 pm2 an2 cd2 ct2), sl2⟩)
    (c2 : PySem.W.codeIn K cd2 "is_fraction" = true)
    (a3 : PySem.W.nsIn K mainGlobals "is_above_nought" = some (some (.ref f3)))
    (l3 : K.lookup f3 = some ⟨oc3, od3, .func (PySem.W.fnOf "is_above_nought" "is_above_nought" (defArgs sAbove) (defBody sAbove) (defScope sAbove) .none kV3 dc3 pm3 an3 cd3 ct3), sl3⟩)
    (c3 : PySem.W.codeIn K cd3 "is_above_nought" = true)
    (a4 : PySem.W.nsIn K mainGlobals "is_name" = some (some (.ref f4)))
    (l4 : K.lookup f4 = some ⟨oc4, od4, .func (PySem.W.fnOf "is_name" "is_name" (defArgs sName) (defBody sName) (defScope sName) .none kV4 dc4 pm4 an4 cd4 ct4), sl4⟩)
    (c4 : PySem.W.codeIn K cd4 "is_name" = true)
    (a5 : PySem.W.nsIn K mainGlobals "is_letter" = some (some (.ref f5)))
    (l5 : K.lookup f5 = some ⟨oc5, od5, .func (PySem.W.fnOf "is_letter" "is_letter" (defArgs sLetter) (defBody sLetter) (defScope sLetter) .none kV5 dc5 pm5 an5 cd5 ct5), sl5⟩)
    (c5 : PySem.W.codeIn K cd5 "is_letter" = true)
    (a6 : PySem.W.nsIn K mainGlobals "common_divisor" = some (some (.ref f6)))
    (l6 : K.lookup f6 = some ⟨oc6, od6, .func (PySem.W.fnOf "common_divisor" "common_divisor" (defArgs sGcd) (defBody sGcd) (defScope sGcd) .none kV6 dc6 pm6 an6 cd6 ct6), sl6⟩)
    (c6 : PySem.W.codeIn K cd6 "common_divisor" = true)
    (a7 : PySem.W.nsIn K mainGlobals "look_at_tongue" = some (some (.ref f7)))
    (l7 : K.lookup f7 = some ⟨oc7, od7, .func (PySem.W.fnOf "look_at_tongue" "look_at_tongue" (defArgs sLook) (defBody sLook) (defScope sLook) .none kV7 dc7 pm7 an7 cd7 ct7), sl7⟩)
    (c7 : PySem.W.codeIn K cd7 "look_at_tongue" = true)
    (a8 : PySem.W.nsIn K mainGlobals "are_signs" = some (some (.ref f8)))
    (l8 : K.lookup f8 = some ⟨oc8, od8, .func (PySem.W.fnOf "are_signs" "are_signs" (defArgs sSigns) (defBody sSigns) (defScope sSigns) .none kV8 dc8 pm8 an8 cd8 ct8), sl8⟩)
    (c8 : PySem.W.codeIn K cd8 "are_signs" = true)
    (a9 : PySem.W.nsIn K mainGlobals "is_sign_row" = some (some (.ref f9)))
    (l9 : K.lookup f9 = some ⟨oc9, od9, .func (PySem.W.fnOf "is_sign_row" "is_sign_row" (defArgs sRow) (defBody sRow) (defScope sRow) .none kV9 dc9 pm9 an9 cd9 ct9), sl9⟩)
    (c9 : PySem.W.codeIn K cd9 "is_sign_row" = true)
    (a10 : PySem.W.nsIn K mainGlobals "are_unlike_texts_of" = some (some (.ref f10)))
    (l10 : K.lookup f10 = some ⟨oc10, od10, .func (PySem.W.fnOf "are_unlike_texts_of" "are_unlike_texts_of" (defArgs sUnlike) (defBody sUnlike) (defScope sUnlike) .none kV10 dc10 pm10 an10 cd10 ct10), sl10⟩)
    (c10 : PySem.W.codeIn K cd10 "are_unlike_texts_of" = true)
    (a11 : PySem.W.nsIn K mainGlobals "signs_of" = some (some (.ref f11)))
    (l11 : K.lookup f11 = some ⟨oc11, od11, .func (PySem.W.fnOf "signs_of" "signs_of" (defArgs sSignsOf) (defBody sSignsOf) (defScope sSignsOf) .none kV11 dc11 pm11 an11 cd11 ct11), sl11⟩)
    (c11 : PySem.W.codeIn K cd11 "signs_of" = true)
    (a12 : PySem.W.nsIn K mainGlobals "follows" = some (some (.ref f12)))
    (l12 : K.lookup f12 = some ⟨oc12, od12, .func (PySem.W.fnOf "follows" "follows" (defArgs sFollows) (defBody sFollows) (defScope sFollows) .none kV12 dc12 pm12 an12 cd12 ct12), sl12⟩)
    (c12 : PySem.W.codeIn K cd12 "follows" = true)
    (a13 : PySem.W.nsIn K mainGlobals "lasts_of" = some (some (.ref f13)))
    (l13 : K.lookup f13 = some ⟨oc13, od13, .func (PySem.W.fnOf "lasts_of" "lasts_of" (defArgs sLasts) (defBody sLasts) (defScope sLasts) .none kV13 dc13 pm13 an13 cd13 ct13), sl13⟩)
    (c13 : PySem.W.codeIn K cd13 "lasts_of" = true)
    (a14 : PySem.W.nsIn K mainGlobals "comers_behind" = some (some (.ref f14)))
    (l14 : K.lookup f14 = some ⟨oc14, od14, .func (PySem.W.fnOf "comers_behind" "comers_behind" (defArgs sComers) (defBody sComers) (defScope sComers) .none kV14 dc14 pm14 an14 cd14 ct14), sl14⟩)
    (c14 : PySem.W.codeIn K cd14 "comers_behind" = true)
    (a15 : PySem.W.nsIn K mainGlobals "sets_by_size" = some (some (.ref f15)))
    (l15 : K.lookup f15 = some ⟨oc15, od15, .func (PySem.W.fnOf "sets_by_size" "sets_by_size" (defArgs sSets) (defBody sSets) (defScope sSets) .none kV15 dc15 pm15 an15 cd15 ct15), sl15⟩)
    (c15 : PySem.W.codeIn K cd15 "sets_by_size" = true)
    (a16 : PySem.W.nsIn K mainGlobals "books_many" = some (some (.ref f16)))
    (l16 : K.lookup f16 = some ⟨oc16, od16, .func (PySem.W.fnOf "books_many" "books_many" (defArgs sBooks) (defBody sBooks) (defScope sBooks) .none kV16 dc16 pm16 an16 cd16 ct16), sl16⟩)
    (c16 : PySem.W.codeIn K cd16 "books_many" = true)
    (a17 : PySem.W.nsIn K mainGlobals "sets_begun" = some (some (.ref f17)))
    (l17 : K.lookup f17 = some ⟨oc17, od17, .func (PySem.W.fnOf "sets_begun" "sets_begun" (defArgs sBegun) (defBody sBegun) (defScope sBegun) .none kV17 dc17 pm17 an17 cd17 ct17), sl17⟩)
    (c17 : PySem.W.codeIn K cd17 "sets_begun" = true)
    (a18 : PySem.W.nsIn K mainGlobals "sets_of_all" = some (some (.ref f18)))
    (l18 : K.lookup f18 = some ⟨oc18, od18, .func (PySem.W.fnOf "sets_of_all" "sets_of_all" (defArgs sOfAll) (defBody sOfAll) (defScope sOfAll) .none kV18 dc18 pm18 an18 cd18 ct18), sl18⟩)
    (c18 : PySem.W.codeIn K cd18 "sets_of_all" = true)
    (a19 : PySem.W.nsIn K mainGlobals "_law_cell" = some (some (.ref f19)))
    (l19 : K.lookup f19 = some ⟨oc19, od19, .func (PySem.W.fnOf "_law_cell" "_law_cell" (defArgs sCell) (defBody sCell) (defScope sCell) .none kV19 dc19 pm19 an19 cd19 ct19), sl19⟩)
    (c19 : PySem.W.codeIn K cd19 "_law_cell" = true)
    (a20 : PySem.W.nsIn K mainGlobals "_law_draws" = some (some (.ref f20)))
    (l20 : K.lookup f20 = some ⟨oc20, od20, .func (PySem.W.fnOf "_law_draws" "_law_draws" (defArgs sDraws) (defBody sDraws) (defScope sDraws) .none kV20 dc20 pm20 an20 cd20 ct20), sl20⟩)
    (c20 : PySem.W.codeIn K cd20 "_law_draws" = true)
    (a21 : PySem.W.nsIn K mainGlobals "_law_low" = some (some (.ref f21)))
    (l21 : K.lookup f21 = some ⟨oc21, od21, .func (PySem.W.fnOf "_law_low" "_law_low" (defArgs sLow) (defBody sLow) (defScope sLow) .none kV21 dc21 pm21 an21 cd21 ct21), sl21⟩)
    (c21 : PySem.W.codeIn K cd21 "_law_low" = true)
    (a22 : PySem.W.nsIn K mainGlobals "_law_letters" = some (some (.ref f22)))
    (l22 : K.lookup f22 = some ⟨oc22, od22, .func (PySem.W.fnOf "_law_letters" "_law_letters" (defArgs sLetters) (defBody sLetters) (defScope sLetters) .none kV22 dc22 pm22 an22 cd22 ct22), sl22⟩)
    (c22 : PySem.W.codeIn K cd22 "_law_letters" = true)
    (a23 : PySem.W.nsIn K mainGlobals "_law_sign" = some (some (.ref f23)))
    (l23 : K.lookup f23 = some ⟨oc23, od23, .func (PySem.W.fnOf "_law_sign" "_law_sign" (defArgs sSign) (defBody sSign) (defScope sSign) .none kV23 dc23 pm23 an23 cd23 ct23), sl23⟩)
    (c23 : PySem.W.codeIn K cd23 "_law_sign" = true)
    (a24 : PySem.W.nsIn K mainGlobals "_law_tongue" = some (some (.ref f24)))
    (l24 : K.lookup f24 = some ⟨oc24, od24, .func (PySem.W.fnOf "_law_tongue" "_law_tongue" (defArgs sTongue) (defBody sTongue) (defScope sTongue) .none kV24 dc24 pm24 an24 cd24 ct24), sl24⟩)
    (c24 : PySem.W.codeIn K cd24 "_law_tongue" = true)
    (a25 : PySem.W.nsIn K mainGlobals "_law_copy" = some (some (.ref f25)))
    (l25 : K.lookup f25 = some ⟨oc25, od25, .func (PySem.W.fnOf "_law_copy" "_law_copy" (defArgs sCopy) (defBody sCopy) (defScope sCopy) .none kV25 dc25 pm25 an25 cd25 ct25), sl25⟩)
    (c25 : PySem.W.codeIn K cd25 "_law_copy" = true)
    (a26 : PySem.W.nsIn K mainGlobals "_law_comes" = some (some (.ref f26)))
    (l26 : K.lookup f26 = some ⟨oc26, od26, .func (PySem.W.fnOf "_law_comes" "_law_comes" (defArgs sComes) (defBody sComes) (defScope sComes) .none kV26 dc26 pm26 an26 cd26 ct26), sl26⟩)
    (c26 : PySem.W.codeIn K cd26 "_law_comes" = true)
    (a27 : PySem.W.nsIn K mainGlobals "_law_longer" = some (some (.ref f27)))
    (l27 : K.lookup f27 = some ⟨oc27, od27, .func (PySem.W.fnOf "_law_longer" "_law_longer" (defArgs sLonger) (defBody sLonger) (defScope sLonger) .none kV27 dc27 pm27 an27 cd27 ct27), sl27⟩)
    (c27 : PySem.W.codeIn K cd27 "_law_longer" = true)
    (a28 : PySem.W.nsIn K mainGlobals "_law_texts" = some (some (.ref f28)))
    (l28 : K.lookup f28 = some ⟨oc28, od28, .func (PySem.W.fnOf "_law_texts" "_law_texts" (defArgs sTexts) (defBody sTexts) (defScope sTexts) .none kV28 dc28 pm28 an28 cd28 ct28), sl28⟩)
    (c28 : PySem.W.codeIn K cd28 "_law_texts" = true)
    (a29 : PySem.W.nsIn K mainGlobals "_law_words" = some (some (.ref f29)))
    (l29 : K.lookup f29 = some ⟨oc29, od29, .func (PySem.W.fnOf "_law_words" "_law_words" (defArgs sLWords) (defBody sLWords) (defScope sLWords) .none kV29 dc29 pm29 an29 cd29 ct29), sl29⟩)
    (c29 : PySem.W.codeIn K cd29 "_law_words" = true)
    (a30 : PySem.W.nsIn K mainGlobals "_law_small" = some (some (.ref f30)))
    (l30 : K.lookup f30 = some ⟨oc30, od30, .func (PySem.W.fnOf "_law_small" "_law_small" (defArgs sSmall) (defBody sSmall) (defScope sSmall) .none kV30 dc30 pm30 an30 cd30 ct30), sl30⟩)
    (c30 : PySem.W.codeIn K cd30 "_law_small" = true)
    (a31 : PySem.W.nsIn K mainGlobals "_law_clash" = some (some (.ref f31)))
    (l31 : K.lookup f31 = some ⟨oc31, od31, .func (PySem.W.fnOf "_law_clash" "_law_clash" (defArgs sClash) (defBody sClash) (defScope sClash) .none kV31 dc31 pm31 an31 cd31 ct31), sl31⟩)
    (c31 : PySem.W.codeIn K cd31 "_law_clash" = true)
    (a32 : PySem.W.nsIn K mainGlobals "_law_free" = some (some (.ref f32)))
    (l32 : K.lookup f32 = some ⟨oc32, od32, .func (PySem.W.fnOf "_law_free" "_law_free" (defArgs sFree) (defBody sFree) (defScope sFree) .none kV32 dc32 pm32 an32 cd32 ct32), sl32⟩)
    (c32 : PySem.W.codeIn K cd32 "_law_free" = true)
    (a33 : PySem.W.nsIn K mainGlobals "_law_sets" = some (some (.ref f33)))
    (l33 : K.lookup f33 = some ⟨oc33, od33, .func (PySem.W.fnOf "_law_sets" "_law_sets" (defArgs sLSets) (defBody sLSets) (defScope sLSets) .none kV33 dc33 pm33 an33 cd33 ct33), sl33⟩)
    (c33 : PySem.W.codeIn K cd33 "_law_sets" = true)
    (a34 : PySem.W.nsIn K mainGlobals "_law_orders" = some (some (.ref f34)))
    (l34 : K.lookup f34 = some ⟨oc34, od34, .func (PySem.W.fnOf "_law_orders" "_law_orders" (defArgs sOrders) (defBody sOrders) (defScope sOrders) .none kV34 dc34 pm34 an34 cd34 ct34), sl34⟩)
    (c34 : PySem.W.codeIn K cd34 "_law_orders" = true)
    (a35 : PySem.W.nsIn K mainGlobals "law" = some (some (.ref f35)))
    (l35 : K.lookup f35 = some ⟨oc35, od35, .func (PySem.W.fnOf "law" "law" (defArgs sLaw) (defBody sLaw) (defScope sLaw) .none kV35 dc35 pm35 an35 cd35 ct35), sl35⟩)
    (c35 : PySem.W.codeIn K cd35 "law" = true)
    (aLe : PySem.W.nsIn K mainGlobals "LETTERS" = some (some (.str letters tkA)))
    (aLo : PySem.W.nsIn K mainGlobals "LONGEST_NAME" = some (some (.int 8 tkB)))
    (aFe : PySem.W.nsIn K mainGlobals "FEWEST_SIGNS" = some (some (.int 2 tkC)))
    (aMo : PySem.W.nsIn K mainGlobals "MOST_SIGNS" = some (some (.int 6 tkD)))
    (aLw : PySem.W.nsIn K mainGlobals "LONGEST_WORD" = some (some (.int 8 tkE)))
    (z_isi : PySem.W.nsIn K mainGlobals "isinstance" = some none)
    (z_int : PySem.W.nsIn K mainGlobals "int" = some none)
    (z_bool : PySem.W.nsIn K mainGlobals "bool" = some none)
    (z_tuple : PySem.W.nsIn K mainGlobals "tuple" = some none)
    (z_abs : PySem.W.nsIn K mainGlobals "abs" = some none)
    (z_len : PySem.W.nsIn K mainGlobals "len" = some none)
    (z_enum : PySem.W.nsIn K mainGlobals "enumerate" = some none)
    (z_str : PySem.W.nsIn K mainGlobals "str" = some none)
    (z_range : PySem.W.nsIn K mainGlobals "range" = some none)
    (z_max : PySem.W.nsIn K mainGlobals "max" = some none)
    (z_all : PySem.W.nsIn K mainGlobals "all" = some none)
    (z_set : PySem.W.nsIn K mainGlobals "set" = some none)
    (z_list : PySem.W.nsIn K mainGlobals "list" = some none)
    (z_min : PySem.W.nsIn K mainGlobals "min" = some none)
    (z_sum : PySem.W.nsIn K mainGlobals "sum" = some none)
    (z_dict : PySem.W.nsIn K mainGlobals "dict" = some none) :
    ∃ fd : FuncData, (∀ (s : Shared) (v : Value), BindsTo s fd ⟨[v], []⟩ [("_law_script", v)]) ∧ ∀ base : Heap, K.In base → base.Ns mainGlobals mg → BmOf mg base → FnOk l.prog w K mg base (CXE l.prog w) 10 fa fd ["_law_script"] (spLaw (tbOf K "is_name") (tbOf K "are_signs") K) := by
  have e := hfa.symm.trans (PySem.W.mg_of X G a35)
  cases e
  have B : Bl mg := ⟨PySem.W.mg_none_of X G z_isi, PySem.W.mg_none_of X G z_int, PySem.W.mg_none_of X G z_bool, PySem.W.mg_none_of X G z_tuple, PySem.W.mg_none_of X G z_abs, PySem.W.mg_none_of X G z_len, PySem.W.mg_none_of X G z_enum, PySem.W.mg_none_of X G z_str, PySem.W.mg_none_of X G z_range, PySem.W.mg_none_of X G z_max, PySem.W.mg_none_of X G z_all, PySem.W.mg_none_of X G z_set, PySem.W.mg_none_of X G z_list, PySem.W.mg_none_of X G z_min, PySem.W.mg_none_of X G z_sum, PySem.W.mg_none_of X G z_dict⟩
  have hcd4 := cd_of CN4 l4
  subst hcd4
  rw [CN4.tb]
  have hcd8 := cd_of CN8 l8
  subst hcd8
  rw [CN8.tb]
  have k0 := keep_of l0
  have F0 := fung_mk (st := sWhole) l0 c0 k0
  have k1 := keep_of l1
  have F1 := fung_mk (st := sWithin) l1 c1 k1
  have k2 := keep_of l2
  have F2 := fung_mk (st := sIsF) l2 c2 k2
  have k3 := keep_of l3
  have F3 := fung_mk (st := sAbove) l3 c3 k3
  have k4 := keep_of l4
  have F4 := fung_mk (st := sName) l4 c4 k4
  have k5 := keep_of l5
  have F5 := fung_mk (st := sLetter) l5 c5 k5
  have k6 := keep_of l6
  have F6 := fung_mk (st := sGcd) l6 c6 k6
  have k7 := keep_of l7
  have F7 := fung_mk (st := sLook) l7 c7 k7
  have k8 := keep_of l8
  have F8 := fung_mk (st := sSigns) l8 c8 k8
  have k9 := keep_of l9
  have F9 := fung_mk (st := sRow) l9 c9 k9
  have k10 := keep_of l10
  have F10 := fung_mk (st := sUnlike) l10 c10 k10
  have k11 := keep_of l11
  have F11 := fung_mk (st := sSignsOf) l11 c11 k11
  have k12 := keep_of l12
  have F12 := fung_mk (st := sFollows) l12 c12 k12
  have k13 := keep_of l13
  have F13 := fung_mk (st := sLasts) l13 c13 k13
  have k14 := keep_of l14
  have F14 := fung_mk (st := sComers) l14 c14 k14
  have k15 := keep_of l15
  have F15 := fung_mk (st := sSets) l15 c15 k15
  have k16 := keep_of l16
  have F16 := fung_mk (st := sBooks) l16 c16 k16
  have k17 := keep_of l17
  have F17 := fung_mk (st := sBegun) l17 c17 k17
  have k18 := keep_of l18
  have F18 := fung_mk (st := sOfAll) l18 c18 k18
  have k19 := keep_of l19
  have F19 := fung_mk (st := sCell) l19 c19 k19
  have k20 := keep_of l20
  have F20 := fung_mk (st := sDraws) l20 c20 k20
  have k21 := keep_of l21
  have F21 := fung_mk (st := sLow) l21 c21 k21
  have k22 := keep_of l22
  have F22 := fung_mk (st := sLetters) l22 c22 k22
  have k23 := keep_of l23
  have F23 := fung_mk (st := sSign) l23 c23 k23
  have k24 := keep_of l24
  have F24 := fung_mk (st := sTongue) l24 c24 k24
  have k25 := keep_of l25
  have F25 := fung_mk (st := sCopy) l25 c25 k25
  have k26 := keep_of l26
  have F26 := fung_mk (st := sComes) l26 c26 k26
  have k27 := keep_of l27
  have F27 := fung_mk (st := sLonger) l27 c27 k27
  have k28 := keep_of l28
  have F28 := fung_mk (st := sTexts) l28 c28 k28
  have k29 := keep_of l29
  have F29 := fung_mk (st := sLWords) l29 c29 k29
  have k30 := keep_of l30
  have F30 := fung_mk (st := sSmall) l30 c30 k30
  have k31 := keep_of l31
  have F31 := fung_mk (st := sClash) l31 c31 k31
  have k32 := keep_of l32
  have F32 := fung_mk (st := sFree) l32 c32 k32
  have k33 := keep_of l33
  have F33 := fung_mk (st := sLSets) l33 c33 k33
  have k34 := keep_of l34
  have F34 := fung_mk (st := sOrders) l34 c34 k34
  have k35 := keep_of l35
  have F35 := fung_mk (st := sLaw) l35 c35 k35
  have b0 := F0.binds (ps := ["thing"]) fun _ _ _ _ _ _ us hl => by obtain ⟨_, rfl⟩ := len1 hl; rfl
  have b1 := F1.binds (ps := ["thing", "least", "most"]) fun _ _ _ _ _ _ us hl => by obtain ⟨_, _, _, rfl⟩ := len3 hl; rfl
  have b2 := F2.binds (ps := ["thing"]) fun _ _ _ _ _ _ us hl => by obtain ⟨_, rfl⟩ := len1 hl; rfl
  have b3 := F3.binds (ps := ["thing"]) fun _ _ _ _ _ _ us hl => by obtain ⟨_, rfl⟩ := len1 hl; rfl
  have b4 := F4.binds (ps := ["thing"]) fun _ _ _ _ _ _ us hl => by obtain ⟨_, rfl⟩ := len1 hl; rfl
  have b5 := F5.binds (ps := ["thing"]) fun _ _ _ _ _ _ us hl => by obtain ⟨_, rfl⟩ := len1 hl; rfl
  have b6 := F6.binds (ps := ["one", "other"]) fun _ _ _ _ _ _ us hl => by obtain ⟨_, _, rfl⟩ := len2 hl; rfl
  have b7 := F7.binds (ps := ["thing"]) fun _ _ _ _ _ _ us hl => by obtain ⟨_, rfl⟩ := len1 hl; rfl
  have b8 := F8.binds (ps := ["thing"]) fun _ _ _ _ _ _ us hl => by obtain ⟨_, rfl⟩ := len1 hl; rfl
  have b9 := F9.binds (ps := ["thing"]) fun _ _ _ _ _ _ us hl => by obtain ⟨_, rfl⟩ := len1 hl; rfl
  have b10 := F10.binds (ps := ["choices", "thing"]) fun _ _ _ _ _ _ us hl => by obtain ⟨_, _, rfl⟩ := len2 hl; rfl
  have b11 := F11.binds (ps := ["tongue"]) fun _ _ _ _ _ _ us hl => by obtain ⟨_, rfl⟩ := len1 hl; rfl
  have b12 := F12.binds (ps := ["tongue", "ahead", "sign"]) fun _ _ _ _ _ _ us hl => by obtain ⟨_, _, _, rfl⟩ := len3 hl; rfl
  have b13 := F13.binds (ps := ["tongue"]) fun _ _ _ _ _ _ us hl => by obtain ⟨_, rfl⟩ := len1 hl; rfl
  have b14 := F14.binds (ps := ["tongue"]) fun _ _ _ _ _ _ us hl => by obtain ⟨_, rfl⟩ := len1 hl; rfl
  have b15 := F15.binds (ps := ["tongue", "most"]) fun _ _ _ _ _ _ us hl => by obtain ⟨_, _, rfl⟩ := len2 hl; rfl
  have b16 := F16.binds (ps := ["tongue", "many", "ordered"]) fun _ _ _ _ _ _ us hl => by obtain ⟨_, _, _, rfl⟩ := len3 hl; rfl
  have b17 := F17.binds (ps := ["behind", "lasts"]) fun _ _ _ _ _ _ us hl => by obtain ⟨_, _, rfl⟩ := len2 hl; rfl
  have b18 := F18.binds (ps := ["rows", "most"]) fun _ _ _ _ _ _ us hl => by obtain ⟨_, _, rfl⟩ := len2 hl; rfl
  have b19 := F19.binds (ps := ["_law_script", "_law_k"]) fun _ _ _ _ _ _ us hl => by obtain ⟨_, _, rfl⟩ := len2 hl; rfl
  have b20 := F20.binds (ps := ["_law_cell_here", "_law_k", "_law_sizes"]) fun _ _ _ _ _ _ us hl => by obtain ⟨_, _, _, rfl⟩ := len3 hl; rfl
  have b21 := F21.binds (ps := ["_law_top", "_law_bottom"]) fun _ _ _ _ _ _ us hl => by obtain ⟨_, _, rfl⟩ := len2 hl; rfl
  have b22 := F22.binds (ps := ["_law_row", "_law_many"]) fun _ _ _ _ _ _ us hl => by obtain ⟨_, _, rfl⟩ := len2 hl; rfl
  have b23 := F23.binds (ps := ["_law_cell_here", "_law_k", "_law_letter", "_law_dear"]) fun _ _ _ _ _ _ us hl => by obtain ⟨_, _, _, _, rfl⟩ := len4 hl; rfl
  have b24 := F24.binds (ps := ["_law_script", "_law_most", "_law_longest"]) fun _ _ _ _ _ _ us hl => by obtain ⟨_, _, _, rfl⟩ := len3 hl; rfl
  have b25 := F25.binds (ps := ["_law_tongue_here"]) fun _ _ _ _ _ _ us hl => by obtain ⟨_, rfl⟩ := len1 hl; rfl
  have b26 := F26.binds (ps := ["_law_tongue_here", "_law_ahead", "_law_sign_here"]) fun _ _ _ _ _ _ us hl => by obtain ⟨_, _, _, rfl⟩ := len3 hl; rfl
  have b27 := F27.binds (ps := ["_law_tongue_here", "_law_text"]) fun _ _ _ _ _ _ us hl => by obtain ⟨_, _, rfl⟩ := len2 hl; rfl
  have b28 := F28.binds (ps := ["_law_tongue_here"]) fun _ _ _ _ _ _ us hl => by obtain ⟨_, rfl⟩ := len1 hl; rfl
  have b29 := F29.binds (ps := ["_law_tongue_here"]) fun _ _ _ _ _ _ us hl => by obtain ⟨_, rfl⟩ := len1 hl; rfl
  have b30 := F30.binds (ps := ["_law_script"]) fun _ _ _ _ _ _ us hl => by obtain ⟨_, rfl⟩ := len1 hl; rfl
  have b31 := F31.binds (ps := ["_law_one", "_law_other"]) fun _ _ _ _ _ _ us hl => by obtain ⟨_, _, rfl⟩ := len2 hl; rfl
  have b32 := F32.binds (ps := ["_law_word", "_law_words_here"]) fun _ _ _ _ _ _ us hl => by obtain ⟨_, _, rfl⟩ := len2 hl; rfl
  have b33 := F33.binds (ps := ["_law_words_here"]) fun _ _ _ _ _ _ us hl => by obtain ⟨_, rfl⟩ := len1 hl; rfl
  have b34 := F34.binds (ps := ["_law_many"]) fun _ _ _ _ _ _ us hl => by obtain ⟨_, rfl⟩ := len1 hl; rfl
  refine ⟨PySem.W.fnOf "law" "law" (defArgs sLaw) (defBody sLaw) (defScope sLaw) .none kV35 dc35 pm35 an35 cd35 ct35, fun s v => .of_eq rfl, fun base _ _ BM => ?_⟩
  have GW := ok_whole (P := l.prog) (w := w) (mg := mg) (base := base) F0 B
  have GI := ok_within (P := l.prog) (w := w) (mg := mg) (base := base) F1 GW (PySem.W.mg_of X G a0) k0 b0
  have GG := ok_gcd (P := l.prog) (w := w) (mg := mg) (base := base) F6 B
  have GF := ok_isF (P := l.prog) (w := w) (mg := mg) (base := base) F2 B GW (PySem.W.mg_of X G a0) k0 b0 GG (PySem.W.mg_of X G a6) k6 b6
  have GN := ok_name (P := l.prog) (w := w) (mg := mg) (base := base) l4 c4 B CN4.ck BM (PySem.W.mg_of X G aLe) (PySem.W.mg_of X G aLo)
  have GL := ok_letter (P := l.prog) (w := w) (mg := mg) (base := base) F5 B GN (PySem.W.mg_of X G a4) k4 b4
  have GA := ok_above (P := l.prog) (w := w) (mg := mg) (base := base) F3 GF (PySem.W.mg_of X G a2) k2 b2
  have GR := ok_row (P := l.prog) (w := w) (mg := mg) (base := base) F9 B GL (PySem.W.mg_of X G a5) k5 b5 GA (PySem.W.mg_of X G a3) k3 b3
  have GSi := ok_signs (P := l.prog) (w := w) (mg := mg) (base := base) (Ts := []) l8 c8 B CN8.ck BM (PySem.W.mg_of X G aFe) (PySem.W.mg_of X G aMo) GR (PySem.W.mg_of X G a9) k9 b9
  have GSo := ok_signsOf (P := l.prog) (w := w) (mg := mg) (base := base) F11
  have GUl := ok_unlike (P := l.prog) (w := w) (mg := mg) (base := base) F10 B
  have GLk := ok_look (P := l.prog) (w := w) (mg := mg) (base := base) (Ts := []) F7 B (PySem.W.mg_of X G aLw) GSi (PySem.W.mg_of X G a8) k8 b8 GSo (PySem.W.mg_of X G a11) k11 b11 GUl (PySem.W.mg_of X G a10) k10 b10 GI (PySem.W.mg_of X G a1) k1 b1
  have GFo := ok_follows (P := l.prog) (w := w) (mg := mg) (base := base) F12
  have GCb := ok_comers (P := l.prog) (w := w) (mg := mg) (base := base) F14 GSo (PySem.W.mg_of X G a11) k11 b11 GFo (PySem.W.mg_of X G a12) k12 b12
  have GLa := ok_lastsD (P := l.prog) (w := w) (mg := mg) (base := base) F13
  have GBe := ok_begun (P := l.prog) (w := w) (mg := mg) (base := base) F17 B
  have GOa := ok_ofall (P := l.prog) (w := w) (mg := mg) (base := base) F18 B
  have GSs := ok_sets (P := l.prog) (w := w) (mg := mg) (base := base) (T1 := T4) (T2 := T8) F15 B GLk (PySem.W.mg_of X G a7) k7 b7 GCb (PySem.W.mg_of X G a14) k14 b14 GLa (PySem.W.mg_of X G a13) k13 b13 GBe (PySem.W.mg_of X G a17) k17 b17 GOa (PySem.W.mg_of X G a18) k18 b18
  have GBk := ok_books (P := l.prog) (w := w) (mg := mg) (base := base) (T1 := T4) (T2 := T8) F16 B GSs (PySem.W.mg_of X G a15) k15 b15
  have GCe := ok_cell (P := l.prog) (w := w) (mg := mg) (base := base) F19 B
  have GD := ok_draws (P := l.prog) (w := w) (mg := mg) (base := base) F20 B
  have GLo := ok_low (P := l.prog) (w := w) (mg := mg) (base := base) F21 B
  have GLt := ok_letters (P := l.prog) (w := w) (mg := mg) (base := base) F22 B
  have GSg := ok_sign (P := l.prog) (w := w) (mg := mg) (base := base) F23 B GD (PySem.W.mg_of X G a20) k20 b20 GLo (PySem.W.mg_of X G a21) k21 b21
  have GTo := ok_tongue (P := l.prog) (w := w) (mg := mg) (base := base) F24 B GCe (PySem.W.mg_of X G a19) k19 b19 GD (PySem.W.mg_of X G a20) k20 b20 GLt (PySem.W.mg_of X G a22) k22 b22 GSg (PySem.W.mg_of X G a23) k23 b23
  have GCp := ok_copyT (P := l.prog) (w := w) (mg := mg) (base := base) F25 B
  have GCm := ok_comes (P := l.prog) (w := w) (mg := mg) (base := base) F26
  have GLg := ok_longer (P := l.prog) (w := w) (mg := mg) (base := base) F27 B GCm (PySem.W.mg_of X G a26) k26 b26
  have GTx := ok_texts (P := l.prog) (w := w) (mg := mg) (base := base) F28 B GLg (PySem.W.mg_of X G a27) k27 b27
  have GWo := ok_lwords (P := l.prog) (w := w) (mg := mg) (base := base) F29 B GTx (PySem.W.mg_of X G a28) k28 b28
  have GSm := ok_small (P := l.prog) (w := w) (mg := mg) (base := base) F30 B GCe (PySem.W.mg_of X G a19) k19 b19 GTo (PySem.W.mg_of X G a24) k24 b24
  have GCl := ok_clash (P := l.prog) (w := w) (mg := mg) (base := base) F31 B
  have GFr := ok_free (P := l.prog) (w := w) (mg := mg) (base := base) F32 B GCl (PySem.W.mg_of X G a31) k31 b31
  have GLs := ok_lsets (P := l.prog) (w := w) (mg := mg) (base := base) F33 B GFr (PySem.W.mg_of X G a32) k32 b32
  have GOr := ok_orders (P := l.prog) (w := w) (mg := mg) (base := base) F34 B
  exact ok_law (P := l.prog) (w := w) (mg := mg) (base := base) (T1 := T4) (T2 := T8) F35 B GSm (PySem.W.mg_of X G a30) k30 b30 GCp (PySem.W.mg_of X G a25) k25 b25 GWo (PySem.W.mg_of X G a29) k29 b29 GLs (PySem.W.mg_of X G a33) k33 b33 GSs (PySem.W.mg_of X G a15) k15 b15 GBk (PySem.W.mg_of X G a16) k16 b16 GOr (PySem.W.mg_of X G a34) k34 b34
theorem walk {l : PySem.W.OpenLaw} {q : Program} {loose : List Str} {XP : (Str → Option Value) → Heap → Prop} {YP : World → Heap → Prop} {d : DefRec} {K : Params → PySem.W.Frag} (hn : l.most = some 63) (hdf : d.params.defaults = [])
    (hY : ∀ (w : World) (h : Heap), YP w h → (K w.params).In h) (hf : HF q ["is_name", "are_signs"]) (hC : ∀ w : World, HC (K w.params) ["is_name", "are_signs"]) (hKT : ∀ w : World, HT0 (K w.params) ["is_name", "are_signs"])
    (F : ∀ (w : World) (mg : Str → Option Value) (fa : Addr) (h : Heap), (K w.params).In h → h.Ns mainGlobals mg → mg d.name = some (.ref fa) →
      ∃ fd : FuncData, (∀ (s : Shared) (u : Value), BindsTo s fd ⟨[u], []⟩ [("_law_script", u)]) ∧ ∀ base : Heap, (K w.params).In base → base.Ns mainGlobals mg → BmOf mg base → FnOk l.prog w (K w.params) mg base (CXE l.prog w) 10 fa fd ["_law_script"] (spLaw (tbOf (K w.params) "is_name") (tbOf (K w.params) "are_signs") (K w.params))) :
    PySem.W.WalkO q loose XP YP l.row.toRowW d [] (fun f vs => PySem.call f vs) := by
  refine L2.walk_ofN ["is_name", "are_signs"] (n := 63) (k := 10) (x := "_law_script") (CX := fun w => CXE l.prog w) (sp := fun w => spLaw (tbOf (K w.params) "is_name") (tbOf (K w.params) "are_signs") (K w.params)) hn (by decide) hdf ⟨rfl, by decide, by decide⟩ hY hf hC hKT F ?_ fun _ _ _ _ _ z => ?_
  · intro w H a ns hl hT hS
    exact ⟨a, ns, rfl, hS, hl, ⟨#[], hT "is_name" (by simp), trivial⟩, ⟨#[], hT "are_signs" (by simp), trivial⟩, fun _ => rfl⟩
  · obtain ⟨_, _, _, _, _, _, _, _, _, _, _, _, z⟩ := z
    exact z
theorem walkF {l : PySem.W.OpenLaw} {q : Program} {loose : List Str} {XP : (Str → Option Value) → Heap → Prop} {d : DefRec} {K : Params → PySem.W.Frag} (hn : l.most = some 63) (hdf : d.params.defaults = [])
    (hf : HF q ["is_name", "are_signs"]) (hC : ∀ w : World, HC (filt (K w.params)) ["is_name", "are_signs"]) (hKT : ∀ w : World, HT0 (filt (K w.params)) ["is_name", "are_signs"])
    (F : ∀ (w : World) (mg : Str → Option Value) (fa : Addr) (h : Heap), (filt (K w.params)).In h → h.Ns mainGlobals mg → mg d.name = some (.ref fa) →
      ∃ fd : FuncData, (∀ (s : Shared) (u : Value), BindsTo s fd ⟨[u], []⟩ [("_law_script", u)]) ∧ ∀ base : Heap, (filt (K w.params)).In base → base.Ns mainGlobals mg → BmOf mg base → FnOk l.prog w (filt (K w.params)) mg base (CXE l.prog w) 10 fa fd ["_law_script"] (spLaw (tbOf (filt (K w.params)) "is_name") (tbOf (filt (K w.params)) "are_signs") (filt (K w.params)))) :
    PySem.W.WalkO q loose XP (fun w h => (filt (K w.params)).In h) l.row.toRowW d [] (fun f vs => PySem.call f vs) :=
  walk (K := fun P => filt (K P)) hn hdf (fun w h Y => Y) hf hC hKT F
end G1
open PySem PySem.W PyProof.Rows
local macro_rules | `(tactic| refine $t) => `(tactic| (refine' $t; try (case hl => exact HD.left_cut HP.e1 (by kernel_rfl) HP.e2 HP.pre HP.blk HP.body HP.chain (by kernel_rfl) HP.look1 (fun w => by kernel_rfl) (fun w => by kernel_rfl))))
set_option maxRecDepth 100000 in
set_option maxHeartbeats 0 in
theorem PySem.Challenge.cw_dearsigns_k53_sets_gone_through_holds : PySem.Challenge.rw_dearsigns_k53_sets_gone_through.Holds := by
  w_on; o_law; z_head; (case hw => w_witness2)
  k_fill
  refine L2.walkX_of (fun _ => by kernel_rfl) (G1.walkF (l := PySem.Challenge.rw_dearsigns_k53_sets_gone_through) rfl rfl ⟨⟨_, rfl⟩, ⟨_, rfl⟩, trivial⟩ ?C ?KT ?F)
  case C =>
    intro w
    refine' ⟨⟨_, _, _, _, L2.codeN_mk ?x0_a ?x0_l ?x0_hc ?x0_lc ?x0_h11 ?x0_h18 ?x0_h7 ?x0_h9 ?x0_h10 ?x0_ne⟩, ⟨_, _, _, _, L2.codeN_mk ?x1_a ?x1_l ?x1_hc ?x1_lc ?x1_h11 ?x1_h18 ?x1_h7 ?x1_h9 ?x1_h10 ?x1_ne⟩, trivial⟩
    (case x0_a => refine L2.filt_ns ?_; k_is)
    (case x0_l => refine L2.filt_look ?zz1 ?zz2; (case zz1 => k_is); (case zz2 => rfl))
    (case x0_hc => rfl)
    (case x0_lc => refine L2.filt_look ?zz1 ?zz2; (case zz1 => k_is); (case zz2 => rfl))
    (case x0_h11 => rfl)
    (case x0_h18 => rfl)
    (case x0_h7 => rfl)
    (case x0_h9 => rfl)
    (case x0_h10 => rfl)
    (case x0_ne => decide)
    (case x1_a => refine L2.filt_ns ?_; k_is)
    (case x1_l => refine L2.filt_look ?zz1 ?zz2; (case zz1 => k_is); (case zz2 => rfl))
    (case x1_hc => rfl)
    (case x1_lc => refine L2.filt_look ?zz1 ?zz2; (case zz1 => k_is); (case zz2 => rfl))
    (case x1_h11 => rfl)
    (case x1_h18 => rfl)
    (case x1_h7 => rfl)
    (case x1_h9 => rfl)
    (case x1_h10 => rfl)
    (case x1_ne => decide)
  case KT =>
    intro w
    exact ⟨by kernel_rfl, by kernel_rfl, trivial⟩
  case F =>
    intro w mg fa h KX G hmg
    refine' G1.all_mk KX G hmg (L2.codeN_mk ?y0_a ?y0_l ?y0_hc ?y0_lc ?y0_h11 ?y0_h18 ?y0_h7 ?y0_h9 ?y0_h10 ?y0_ne) (L2.codeN_mk ?y1_a ?y1_l ?y1_hc ?y1_lc ?y1_h11 ?y1_h18 ?y1_h7 ?y1_h9 ?y1_h10 ?y1_ne) ?a0 ?l0 ?c0 ?a1 ?l1 ?c1 ?a2 ?l2 ?c2 ?a3 ?l3 ?c3 ?a4 ?l4 ?c4 ?a5 ?l5 ?c5 ?a6 ?l6 ?c6 ?a7 ?l7 ?c7 ?a8 ?l8 ?c8 ?a9 ?l9 ?c9 ?a10 ?l10 ?c10 ?a11 ?l11 ?c11 ?a12 ?l12 ?c12 ?a13 ?l13 ?c13 ?a14 ?l14 ?c14 ?a15 ?l15 ?c15 ?a16 ?l16 ?c16 ?a17 ?l17 ?c17 ?a18 ?l18 ?c18 ?a19 ?l19 ?c19 ?a20 ?l20 ?c20 ?a21 ?l21 ?c21 ?a22 ?l22 ?c22 ?a23 ?l23 ?c23 ?a24 ?l24 ?c24 ?a25 ?l25 ?c25 ?a26 ?l26 ?c26 ?a27 ?l27 ?c27 ?a28 ?l28 ?c28 ?a29 ?l29 ?c29 ?a30 ?l30 ?c30 ?a31 ?l31 ?c31 ?a32 ?l32 ?c32 ?a33 ?l33 ?c33 ?a34 ?l34 ?c34 ?a35 ?l35 ?c35 ?aLe ?aLo ?aFe ?aMo ?aLw ?z_isi ?z_int ?z_bool ?z_tuple ?z_abs ?z_len ?z_enum ?z_str ?z_range ?z_max ?z_all ?z_set ?z_list ?z_min ?z_sum ?z_dict
    (case y0_a => refine L2.filt_ns ?_; k_is)
    (case y0_l => refine L2.filt_look ?zz1 ?zz2; (case zz1 => k_is); (case zz2 => rfl))
    (case y0_hc => rfl)
    (case y0_lc => refine L2.filt_look ?zz1 ?zz2; (case zz1 => k_is); (case zz2 => rfl))
    (case y0_h11 => rfl)
    (case y0_h18 => rfl)
    (case y0_h7 => rfl)
    (case y0_h9 => rfl)
    (case y0_h10 => rfl)
    (case y0_ne => decide)
    (case y1_a => refine L2.filt_ns ?_; k_is)
    (case y1_l => refine L2.filt_look ?zz1 ?zz2; (case zz1 => k_is); (case zz2 => rfl))
    (case y1_hc => rfl)
    (case y1_lc => refine L2.filt_look ?zz1 ?zz2; (case zz1 => k_is); (case zz2 => rfl))
    (case y1_h11 => rfl)
    (case y1_h18 => rfl)
    (case y1_h7 => rfl)
    (case y1_h9 => rfl)
    (case y1_h10 => rfl)
    (case y1_ne => decide)
    (case a0 => refine L2.filt_ns ?_; k_is)
    (case l0 => refine L2.filt_look ?zz1 ?zz2; (case zz1 => k_is); (case zz2 => rfl))
    (case c0 => refine L2.filt_code ?_; k_is)
    (case a1 => refine L2.filt_ns ?_; k_is)
    (case l1 => refine L2.filt_look ?zz1 ?zz2; (case zz1 => k_is); (case zz2 => rfl))
    (case c1 => refine L2.filt_code ?_; k_is)
    (case a2 => refine L2.filt_ns ?_; k_is)
    (case l2 => refine L2.filt_look ?zz1 ?zz2; (case zz1 => k_is); (case zz2 => rfl))
    (case c2 => refine L2.filt_code ?_; k_is)
    (case a3 => refine L2.filt_ns ?_; k_is)
    (case l3 => refine L2.filt_look ?zz1 ?zz2; (case zz1 => k_is); (case zz2 => rfl))
    (case c3 => refine L2.filt_code ?_; k_is)
    (case a4 => refine L2.filt_ns ?_; k_is)
    (case l4 => refine L2.filt_look ?zz1 ?zz2; (case zz1 => k_is); (case zz2 => rfl))
    (case c4 => refine L2.filt_code ?_; k_is)
    (case a5 => refine L2.filt_ns ?_; k_is)
    (case l5 => refine L2.filt_look ?zz1 ?zz2; (case zz1 => k_is); (case zz2 => rfl))
    (case c5 => refine L2.filt_code ?_; k_is)
    (case a6 => refine L2.filt_ns ?_; k_is)
    (case l6 => refine L2.filt_look ?zz1 ?zz2; (case zz1 => k_is); (case zz2 => rfl))
    (case c6 => refine L2.filt_code ?_; k_is)
    (case a7 => refine L2.filt_ns ?_; k_is)
    (case l7 => refine L2.filt_look ?zz1 ?zz2; (case zz1 => k_is); (case zz2 => rfl))
    (case c7 => refine L2.filt_code ?_; k_is)
    (case a8 => refine L2.filt_ns ?_; k_is)
    (case l8 => refine L2.filt_look ?zz1 ?zz2; (case zz1 => k_is); (case zz2 => rfl))
    (case c8 => refine L2.filt_code ?_; k_is)
    (case a9 => refine L2.filt_ns ?_; k_is)
    (case l9 => refine L2.filt_look ?zz1 ?zz2; (case zz1 => k_is); (case zz2 => rfl))
    (case c9 => refine L2.filt_code ?_; k_is)
    (case a10 => refine L2.filt_ns ?_; k_is)
    (case l10 => refine L2.filt_look ?zz1 ?zz2; (case zz1 => k_is); (case zz2 => rfl))
    (case c10 => refine L2.filt_code ?_; k_is)
    (case a11 => refine L2.filt_ns ?_; k_is)
    (case l11 => refine L2.filt_look ?zz1 ?zz2; (case zz1 => k_is); (case zz2 => rfl))
    (case c11 => refine L2.filt_code ?_; k_is)
    (case a12 => refine L2.filt_ns ?_; k_is)
    (case l12 => refine L2.filt_look ?zz1 ?zz2; (case zz1 => k_is); (case zz2 => rfl))
    (case c12 => refine L2.filt_code ?_; k_is)
    (case a13 => refine L2.filt_ns ?_; k_is)
    (case l13 => refine L2.filt_look ?zz1 ?zz2; (case zz1 => k_is); (case zz2 => rfl))
    (case c13 => refine L2.filt_code ?_; k_is)
    (case a14 => refine L2.filt_ns ?_; k_is)
    (case l14 => refine L2.filt_look ?zz1 ?zz2; (case zz1 => k_is); (case zz2 => rfl))
    (case c14 => refine L2.filt_code ?_; k_is)
    (case a15 => refine L2.filt_ns ?_; k_is)
    (case l15 => refine L2.filt_look ?zz1 ?zz2; (case zz1 => k_is); (case zz2 => rfl))
    (case c15 => refine L2.filt_code ?_; k_is)
    (case a16 => refine L2.filt_ns ?_; k_is)
    (case l16 => refine L2.filt_look ?zz1 ?zz2; (case zz1 => k_is); (case zz2 => rfl))
    (case c16 => refine L2.filt_code ?_; k_is)
    (case a17 => refine L2.filt_ns ?_; k_is)
    (case l17 => refine L2.filt_look ?zz1 ?zz2; (case zz1 => k_is); (case zz2 => rfl))
    (case c17 => refine L2.filt_code ?_; k_is)
    (case a18 => refine L2.filt_ns ?_; k_is)
    (case l18 => refine L2.filt_look ?zz1 ?zz2; (case zz1 => k_is); (case zz2 => rfl))
    (case c18 => refine L2.filt_code ?_; k_is)
    (case a19 => refine L2.filt_ns ?_; k_is)
    (case l19 => refine L2.filt_look ?zz1 ?zz2; (case zz1 => k_is); (case zz2 => rfl))
    (case c19 => refine L2.filt_code ?_; k_is)
    (case a20 => refine L2.filt_ns ?_; k_is)
    (case l20 => refine L2.filt_look ?zz1 ?zz2; (case zz1 => k_is); (case zz2 => rfl))
    (case c20 => refine L2.filt_code ?_; k_is)
    (case a21 => refine L2.filt_ns ?_; k_is)
    (case l21 => refine L2.filt_look ?zz1 ?zz2; (case zz1 => k_is); (case zz2 => rfl))
    (case c21 => refine L2.filt_code ?_; k_is)
    (case a22 => refine L2.filt_ns ?_; k_is)
    (case l22 => refine L2.filt_look ?zz1 ?zz2; (case zz1 => k_is); (case zz2 => rfl))
    (case c22 => refine L2.filt_code ?_; k_is)
    (case a23 => refine L2.filt_ns ?_; k_is)
    (case l23 => refine L2.filt_look ?zz1 ?zz2; (case zz1 => k_is); (case zz2 => rfl))
    (case c23 => refine L2.filt_code ?_; k_is)
    (case a24 => refine L2.filt_ns ?_; k_is)
    (case l24 => refine L2.filt_look ?zz1 ?zz2; (case zz1 => k_is); (case zz2 => rfl))
    (case c24 => refine L2.filt_code ?_; k_is)
    (case a25 => refine L2.filt_ns ?_; k_is)
    (case l25 => refine L2.filt_look ?zz1 ?zz2; (case zz1 => k_is); (case zz2 => rfl))
    (case c25 => refine L2.filt_code ?_; k_is)
    (case a26 => refine L2.filt_ns ?_; k_is)
    (case l26 => refine L2.filt_look ?zz1 ?zz2; (case zz1 => k_is); (case zz2 => rfl))
    (case c26 => refine L2.filt_code ?_; k_is)
    (case a27 => refine L2.filt_ns ?_; k_is)
    (case l27 => refine L2.filt_look ?zz1 ?zz2; (case zz1 => k_is); (case zz2 => rfl))
    (case c27 => refine L2.filt_code ?_; k_is)
    (case a28 => refine L2.filt_ns ?_; k_is)
    (case l28 => refine L2.filt_look ?zz1 ?zz2; (case zz1 => k_is); (case zz2 => rfl))
    (case c28 => refine L2.filt_code ?_; k_is)
    (case a29 => refine L2.filt_ns ?_; k_is)
    (case l29 => refine L2.filt_look ?zz1 ?zz2; (case zz1 => k_is); (case zz2 => rfl))
    (case c29 => refine L2.filt_code ?_; k_is)
    (case a30 => refine L2.filt_ns ?_; k_is)
    (case l30 => refine L2.filt_look ?zz1 ?zz2; (case zz1 => k_is); (case zz2 => rfl))
    (case c30 => refine L2.filt_code ?_; k_is)
    (case a31 => refine L2.filt_ns ?_; k_is)
    (case l31 => refine L2.filt_look ?zz1 ?zz2; (case zz1 => k_is); (case zz2 => rfl))
    (case c31 => refine L2.filt_code ?_; k_is)
    (case a32 => refine L2.filt_ns ?_; k_is)
    (case l32 => refine L2.filt_look ?zz1 ?zz2; (case zz1 => k_is); (case zz2 => rfl))
    (case c32 => refine L2.filt_code ?_; k_is)
    (case a33 => refine L2.filt_ns ?_; k_is)
    (case l33 => refine L2.filt_look ?zz1 ?zz2; (case zz1 => k_is); (case zz2 => rfl))
    (case c33 => refine L2.filt_code ?_; k_is)
    (case a34 => refine L2.filt_ns ?_; k_is)
    (case l34 => refine L2.filt_look ?zz1 ?zz2; (case zz1 => k_is); (case zz2 => rfl))
    (case c34 => refine L2.filt_code ?_; k_is)
    (case a35 => refine L2.filt_ns ?_; k_is)
    (case l35 => refine L2.filt_look ?zz1 ?zz2; (case zz1 => k_is); (case zz2 => rfl))
    (case c35 => refine L2.filt_code ?_; k_is)
    (case aLe => refine L2.filt_ns ?_; k_is)
    (case aLo => refine L2.filt_ns ?_; k_is)
    (case aFe => refine L2.filt_ns ?_; k_is)
    (case aMo => refine L2.filt_ns ?_; k_is)
    (case aLw => refine L2.filt_ns ?_; k_is)
    (case z_isi => refine L2.filt_ns ?_; k_is)
    (case z_int => refine L2.filt_ns ?_; k_is)
    (case z_bool => refine L2.filt_ns ?_; k_is)
    (case z_tuple => refine L2.filt_ns ?_; k_is)
    (case z_abs => refine L2.filt_ns ?_; k_is)
    (case z_len => refine L2.filt_ns ?_; k_is)
    (case z_enum => refine L2.filt_ns ?_; k_is)
    (case z_str => refine L2.filt_ns ?_; k_is)
    (case z_range => refine L2.filt_ns ?_; k_is)
    (case z_max => refine L2.filt_ns ?_; k_is)
    (case z_all => refine L2.filt_ns ?_; k_is)
    (case z_set => refine L2.filt_ns ?_; k_is)
    (case z_list => refine L2.filt_ns ?_; k_is)
    (case z_min => refine L2.filt_ns ?_; k_is)
    (case z_sum => refine L2.filt_ns ?_; k_is)
    (case z_dict => refine L2.filt_ns ?_; k_is)
