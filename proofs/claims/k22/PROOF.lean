import PyProof.Rows.All
import Wide.All
import OpenK.AllK
import Wide.FinOn
import Lean
import PyProof.EqAt
import PyProof.EqKinds
import PyProof.NeKinds
import PyProof.TupleCall
import PyProof.SetRoads
import PyProof.SetNew
import PyProof.Rows.Range3
import KE.KRevSl
import PyProof.SliceStr2
import PyProof.ListStr
import PyProof.TupleOfStr
import PyProof.StrCalls
import KE.KDictOf
import PyProof.AttrMissHeap
import PyProof.Rows.SumAny
import PyProof.ConsumeWalk
import PyProof.SeqI3
import KE.KStar
import PyProof.SumWalkG
import PyProof.DictValues
import PyProof.StrOps2
import PyProof.Rows.SetFrom
import PyProof.ZipIter
import PyProof.Draws
import PyProof.DictIter
import KE.KItemsList
import KE.KPairComp
import PyProof.Rows.SortWalk
import KE.KDictList
import PySem.Challenge.RW_dearsigns_k22_first_wrong_sign
set_option Elab.async false
set_option linter.all false
set_option maxRecDepth 100000
set_option maxHeartbeats 4000000
set_option exponentiation.threshold 5000
namespace HD
open PySem PySem.W PySem.Calls PyProof.Rows
noncomputable def bootT (P : Params) : BT := .node (boot_o_0 P) (.node (boot_o_1 P) (.node (boot_o_3 P) (.node (boot_o_7 P) .nil .nil) .nil) (.node (boot_o_5 P) (.node (boot_o_9 P) .nil .nil) .nil)) (.node (boot_o_2 P) (.node (boot_o_4 P) (.node (boot_o_8 P) .nil .nil) .nil) (.node (boot_o_6 P) (.node (boot_o_10 P) .nil .nil) .nil))
theorem size_boot (P : Params) : ((boot_heap P).isNs mainGlobals, (boot_heap P).objs.size, (boot_heap P).nsMap mainGlobals "__annotations__") = (true, 11, some (.ref 6)) := by kernel_rfl
structure SM where
  T : BT
  n : Nat
  k : Nat
  D : List DictEntry
  pl : List Value
  nm : Value
noncomputable def key (P : Params) (x : Str) (t : Nat) (v : Value) : DictEntry := ⟨PyData.keyHash P x, .str x t, v⟩
noncomputable def SM.put (s : SM) (o : Obj) : SM := { s with T := s.T.ins s.n o, n := s.n + 1 }
noncomputable def SM.puts (s : SM) : List Obj → SM
  | [] => s
  | o :: r => (s.put o).puts r
noncomputable def tup (vs : List Value) : Obj := { cls := .type "tuple", data := .seq vs.toArray }
noncomputable def txts : List Str → Nat → List Value
  | [], _ => []
  | x :: r, t => .str x t :: txts r (t + 1)
noncomputable def theFile : Str := "/claim/cut.py"
structure CO where
  objs : List Obj
  k : Nat
  a : Nat
noncomputable def raw (n : Nat) : Value := .int n 0
noncomputable def codeObjs (n k : Nat) (name qual : Str) (line argc flags : Nat) (fn : Bool) (free : List Str) (pls : List Value) (loc : Option (List Str × List Str)) (tm : Option FuncData) : CO :=
  let f := free.length
  let o1 := [tup (txts free (k + 3)), { cls := .none, data := .fields pls.toArray }]
  let k1 := k + 3 + f
  let (o2, k2, n2, l, c) := match loc with
    | none => ([], k1, n + 2, Value.none, Value.none)
    | some (ls, cs) => ([tup (txts ls k1), tup (txts cs (k1 + ls.length))], k1 + ls.length + cs.length, n + 4, Value.ref (n + 2), Value.ref (n + 3))
  let (o3, n3, t) := match tm with
    | none => ([], n2, Value.none)
    | some fd => ([({ cls := .none, data := .func fd } : Obj)], n2 + 1, Value.ref n2)
  { objs := o1 ++ o2 ++ o3 ++ [{ cls := .type "code", data := .fields #[.str name k, .str qual (k + 1), .str theFile (k + 2), raw line, raw argc, raw 0, raw 0, raw flags, .ref n, .bool fn, raw 181, .ref (n + 1), .none, l, c, t, raw k2, raw line, .str theFile (k2 + 1)] }]
    k := k2 + 2
    a := n3 }
noncomputable def SM.store (P : Params) (s : SM) (x : Str) (v : Value) : SM :=
  match s.D with
  | e :: r => match Fast.sEq x "__name__" with
    | true => { s with D := ⟨e.hash, e.key, v⟩ :: r, k := s.k + 1, nm := v }
    | false => { s with D := e :: r ++ [key P x s.k v], k := s.k + 1 }
  | [] => s
noncomputable def constVals : List Expr → Nat → List Value × Nat
  | .Constant (.int i) _ _ :: r, k => let (vs, k') := constVals r (k + 1); (.int i k :: vs, k')
  | .Constant (.str i) _ _ :: r, k => let (vs, k') := constVals r (k + 1); (.str i k :: vs, k')
  | .Constant (.bool b) _ _ :: r, k => let (vs, k') := constVals r k; (.bool b :: vs, k')
  | _ :: r, k => let (vs, k') := constVals r k; (.none :: vs, k')
  | [], k => ([], k)
noncomputable def templ (name qual : Str) (args : Arguments) (body : List Stmt) (scope : Scope) : FuncData :=
  { name, qualname := qual, params := args, body := .stmts body, scope, globals := builtinsNs, closure := [], defaults := .none, kwdefaults := .none }
noncomputable def simFn (P : Params) (s : SM) (name : Str) (args : Arguments) (body : List Stmt) (scope : Scope) (pos : Pos) : SM :=
  let (dv, s) := match args.defaults with
    | [] => (Value.none, s)
    | d :: ds => let (vs, k') := constVals (d :: ds) s.k; (Value.ref s.n, ({ s with k := k' } : SM).put (tup vs))
  let c := codeObjs s.n s.k name name pos.line args.args.length 3 true [] [] (localNames args scope (.stmts body)) (some (templ name name args body scope))
  let s1 := s.puts c.objs
  let s2 : SM := { s1 with k := c.k, pl := s1.pl ++ [raw pos.line, raw pos.col, .ref c.a] }
  let f := s2.n
  let s3 := s2.put { cls := .type "function", data := .func { templ name name args body scope with globals := mainNs, defaults := dv, pyModule := s.nm, code := .ref c.a } }
  s3.store P name (.ref f)
noncomputable def findD (x : Str) : List DictEntry → Value
  | [] => .none
  | e :: r => match e.key with
    | .str y _ => match Fast.sEq x y with
      | true => e.val
      | false => findD x r
    | _ => findD x r
noncomputable def addSub (v : Value) (o : Obj) : Obj := match o.data with
  | .cls c => { o with data := .cls { c with subclasses := c.subclasses ++ [v] } }
  | _ => o
structure IOb where
  objs : List Obj
  pls : List Value
  es : List DictEntry
  k : Nat
noncomputable def simInit (P : Params) (cell n k : Nat) (cn : Str) (nm : Value) : List Stmt → IOb
  | .FunctionDef name args body _ _ _ scope _ _ pos :: _ =>
    let qual : Str := cn ++ "." ++ name
    let c := codeObjs (n + 1) k name qual pos.line args.args.length 3 true ["__class__"] [] (localNames args scope (.stmts body)) (some (templ name qual args body scope))
    let f := c.a + 1
    { objs := tup [.ref cell] :: c.objs ++ [{ cls := .type "function", data := .func { templ name qual args body scope with globals := mainNs, closure := [("__class__", cell)], pyModule := nm, code := .ref c.a, closureTuple := .ref n } }]
      pls := [raw pos.line, raw pos.col, .ref c.a]
      es := [key P name c.k (.ref f)]
      k := c.k + 1 }
  | _ => ⟨[], [], [], k⟩
noncomputable def excTypes : List Value := [.type "ValueError", .type "Exception", .type "BaseException", .type "object"]
noncomputable def simCls (P : Params) (s : SM) (name base : Str) (body : List Stmt) (statics : List Str) (pos : Pos) : SM :=
  let root := Fast.sEq base "ValueError"
  let bv : Value := match root with | true => .type "ValueError" | false => findD base s.D
  let own := match body with | .FunctionDef .. :: _ => true | _ => false
  let (n, k) := (s.n, s.k)
  let nsA := n + 2
  let c0 := match own with | true => n + 4 | false => n + 3
  let fr := c0 + 3
  let i := simInit P (n + 3) (fr + 1) (k + 12) name s.nm body
  let cc := codeObjs c0 (k + 2) name name pos.line 0 0 false [] i.pls none none
  let a := fr + 1 + i.objs.length
  let st := i.k + statics.length
  let ns2 := a + 1
  let cls := a + 2
  let e1 := key P "__module__" (k + 7) s.nm
  let e3 := key P "__firstlineno__" (k + 11) (.int pos.line (k + 10))
  let e5 := key P "__static_attributes__" st (.ref a)
  let (k5, cellE, cellO) := match own with
    | true => (st + 2, [key P "__classcell__" (st + 1) (.ref (n + 3))], [({ cls := .type "cell", data := .cell (some (.ref cls)) } : Obj)])
    | false => (st + 1, [], [])
  let (k6, weakE, weakO) := match root with
    | true => (k5 + 2, [key P "__weakref__" (k5 + 1) (.ref (cls + 1))], [({ cls := .type "getset_descriptor", data := .fields #[.str "__weakref__" k5, .ref cls, .builtin "ExceptionGroup.__weakref__", .none] } : Obj)])
    | false => (k5, [], [])
  let nsE := [e1, key P "__qualname__" (k + 9) (.str name (k + 8)), e3] ++ i.es ++ [e5] ++ cellE
  let ns2E := [e1, e3] ++ i.es ++ [e5] ++ weakE ++ [key P "__doc__" k6 .none]
  let mro := match root with | true => Value.ref cls :: excTypes | false => Value.ref cls :: bv :: excTypes
  let objs : List Obj := [tup [bv], { cls := .type "builtin_function_or_method", data := .fields #[.builtin "type.__prepare__", .type "type"] }, { cls := .type "dict", data := .dict nsE.toArray nsE.length }] ++ cellO ++ cc.objs ++
    [{ cls := .type "frame", slots := #[some (.ref (c0 + 2)), some (.ref mainNs), some (.ref nsA), none, some s.nm, none, some (.ref builtinsNs)] }] ++ i.objs ++
    [tup (txts statics i.k), { cls := .type "dict", data := .dict ns2E.toArray (ns2E.length - 2) },
     { cls := .type "type", data := .cls { name, bases := [bv], mro, ns := ns2, qualname := name }, slots := #[some (.ref n), none, some (.str name k), some (.str name (k + 8)), some (.builtin "ValueError.__new__"), some (.bool true)] }] ++ weakO ++
    [{ cls := .type "super", data := .fields #[.ref cls, .ref cls, .ref cls] }, { cls := .type "builtin_function_or_method", data := .fields #[.builtin "object.__init_subclass__", .ref cls] }]
  let s1 := s.puts objs
  let s2 : SM := { s1 with k := k6 + 2, pl := s1.pl ++ [raw pos.line, raw pos.col, .ref (c0 + 2)], T := match bv with | .ref b => s1.T.set b (addSub (.ref cls)) | _ => s1.T }
  s2.store P name (.ref cls)
noncomputable def simMeths (P : Params) (cn : Str) (nm : Value) : Nat → Nat → List Stmt → IOb
  | n, k, .FunctionDef name args body _ _ _ scope _ _ pos :: r =>
    let qual : Str := cn ++ "." ++ name
    let c := codeObjs n k name qual pos.line args.args.length 3 true [] [] (localNames args scope (.stmts body)) (some (templ name qual args body scope))
    let i := simMeths P cn nm (c.a + 2) (c.k + 1) r
    { objs := c.objs ++ [{ cls := .type "function", data := .func { templ name qual args body scope with globals := mainNs, pyModule := nm, code := .ref c.a } }] ++ i.objs
      pls := [raw pos.line, raw pos.col, .ref c.a] ++ i.pls
      es := key P name c.k (.ref (c.a + 1)) :: i.es
      k := i.k }
  | _, k, _ => ⟨[], [], [], k⟩
noncomputable def simRoot (P : Params) (s : SM) (name : Str) (body : List Stmt) (statics : List Str) (pos : Pos) : SM :=
  let (n, k) := (s.n, s.k)
  let c0 := n + 3
  let fr := c0 + 3
  let i := simMeths P name s.nm (fr + 1) (k + 12) body
  let cc := codeObjs c0 (k + 2) name name pos.line 0 0 false [] i.pls none none
  let a := fr + 1 + i.objs.length
  let st := i.k + statics.length
  let ns2 := a + 1
  let cls := a + 2
  let e1 := key P "__module__" (k + 7) s.nm
  let e3 := key P "__firstlineno__" (k + 11) (.int pos.line (k + 10))
  let e5 := key P "__static_attributes__" st (.ref a)
  let nsE := [e1, key P "__qualname__" (k + 9) (.str name (k + 8)), e3] ++ i.es ++ [e5]
  let ns2E := [e1, e3] ++ i.es ++ [e5, key P "__dict__" (st + 2) (.ref (cls + 1)), key P "__weakref__" (st + 4) (.ref (cls + 2)), key P "__doc__" (st + 5) .none]
  let objs : List Obj := [tup [], { cls := .type "builtin_function_or_method", data := .fields #[.builtin "type.__prepare__", .type "type"] }, { cls := .type "dict", data := .dict nsE.toArray nsE.length }] ++ cc.objs ++
    [{ cls := .type "frame", slots := #[some (.ref (c0 + 2)), some (.ref mainNs), some (.ref (n + 2)), none, some s.nm, none, some (.ref builtinsNs)] }] ++ i.objs ++
    [tup (txts statics i.k), { cls := .type "dict", data := .dict ns2E.toArray 4 },
     { cls := .type "type", data := .cls { name, bases := [.type "object"], mro := [.ref cls, .type "object"], ns := ns2, qualname := name }, slots := #[none, none, some (.str name k), some (.str name (k + 8)), some (.builtin "object.__new__"), some (.bool true)] },
     { cls := .type "getset_descriptor", data := .fields #[.str "__dict__" (st + 1), .ref cls, .builtin "function.__dict__", .builtin "function.__dict__#set"] },
     { cls := .type "getset_descriptor", data := .fields #[.str "__weakref__" (st + 3), .ref cls, .builtin "ExceptionGroup.__weakref__", .none] },
     { cls := .type "super", data := .fields #[.ref cls, .ref cls, .ref cls] }, { cls := .type "builtin_function_or_method", data := .fields #[.builtin "object.__init_subclass__", .ref cls] }]
  let s1 := s.puts objs
  let s2 : SM := { s1 with k := st + 7, pl := s1.pl ++ [raw pos.line, raw pos.col, .ref (c0 + 2)] }
  s2.store P name (.ref cls)
noncomputable def simOne (P : Params) (s : SM) : Stmt → SM
  | .Assign (.Name x _ :: _) (.Constant (.str v) _ _) _ => ({ s with k := s.k + 1 } : SM).store P x (.str v s.k)
  | .Assign (.Name x _ :: _) (.Constant (.int v) _ _) _ => ({ s with k := s.k + 1 } : SM).store P x (.int v s.k)
  | .Assign (.Name x _ :: _) (.BinOp (.Constant (.int a) _ _) _ (.Constant (.int b) _ _) _) _ => ({ s with k := s.k + 3 } : SM).store P x (.int (a ^ b.toNat) (s.k + 2))
  | .Assign (.Name x _ :: _) (.Tuple es _ _) _ => let (vs, k') := constVals es s.k; (({ s with k := k' } : SM).put (tup vs)).store P x (.ref s.n)
  | .FunctionDef name args body _ _ _ scope _ _ pos => simFn P s name args body scope pos
  | .ClassDef name (.Name b _ :: _) _ body _ _ _ _ _ statics pos => simCls P s name b body statics pos
  | .ClassDef name [] _ body _ _ _ _ _ statics pos => simRoot P s name body statics pos
  | _ => s
noncomputable def simAll (P : Params) (s : SM) : List Stmt → SM
  | [] => s
  | x :: r => simAll P (simOne P s x) r
noncomputable def endPos (p : Pos) : Stmt → Pos
  | .Assign (.Name _ q :: _) _ _ => q
  | .FunctionDef _ _ _ _ _ _ _ _ _ q => q
  | .ClassDef _ _ _ _ _ _ _ _ _ _ q => q
  | _ => p
noncomputable def endPoses (p : Pos) : List Stmt → Pos
  | [] => p
  | x :: r => endPoses (endPos p x) r
noncomputable def sim0 (P : Params) : SM :=
  SM.puts ⟨bootT P, 11, 187, [key P "__name__" 165 (.str "__main__" 164), key P "__doc__" 166 .none, key P "__package__" 167 .none, key P "__loader__" 168 (.builtin "__main__.__loader__#opaque"), key P "__spec__" 169 .none, key P "__annotations__" 170 (.ref 6),
    key P "__builtins__" 171 (.ref 4), key P "__file__" 173 (.str theFile 172), key P "__cached__" 174 .none], [], .str "__main__" 164⟩
    ((codeObjs 11 182 "<module>" "<module>" 1 0 0 false [] [] none none).objs ++ [{ cls := .type "frame", slots := #[some (.ref 13), some (.ref mainNs), some (.ref mainNs), none, some (.str "__main__" 164), none, some (.ref builtinsNs)] }])
structure St where
  sim : Params → SM
  pos : Pos
noncomputable def SM.tree (s : SM) : BT := (s.T.set mainNs fun _ => { cls := .type "dict", data := .dict s.D.toArray s.D.length }).set 12 fun _ => { cls := .none, data := .fields s.pl.toArray }
noncomputable def St.at (S : St) (P : Params) (os : OsState) : SharedT := ⟨(S.sim P).tree, (S.sim P).n, {}, Array.mk [], boot_drawn, (S.sim P).k, os⟩
noncomputable def St.step (S : St) (l : List Stmt) : St := ⟨fun P => simAll P (S.sim P) l, endPoses S.pos l⟩
noncomputable def St0 : St := ⟨sim0, ⟨0, 0, 0, 0⟩⟩
abbrev pos0 : Pos := ⟨0, 0, 0, 0⟩
noncomputable def envOf (p : Program) : Env := { scope := p.main.scope, locals := mainNs, globals := mainNs, cells := [], code := .ref 13, frame := some 14 }
noncomputable def cOf (p : Program) : Code := .body (behindTheImports p) (envOf p)
abbrev annO : Option Value := some (.ref 6)
abbrev Piece (p : Program) (l : List Stmt) (m : Nat) (A B : St) : Prop :=
  ∀ w : World, (fun os => segRunT treeTable p w 11 annO 1 m (A.at w.params os) (piecesOf l (envOf p) (cOf p) A.pos [topFrame pos0])) = fun os => some (.next, B.at w.params os, cOf p, B.pos)
inductive Chain (p : Program) : List Stmt → Nat → St → St → Prop
  | nil (S : St) : Chain p [] 0 S S
  | cons {l r : List Stmt} {m n : Nat} {A B C : St} (h : Piece p l m A B) (t : Chain p r n B C) : Chain p (l ++ r) (m + n) A C
theorem fin_run {tb : String → Option Builtin} {p : Program} {w : World} {n₀ : Nat} {ann : Option Value} {c : Code} {pos q : Pos} (s : Shared) : topRun tb p w n₀ ann 2 s ⟨doneF .next, c, pos, [topFrame q]⟩ = some s := by
  obtain ⟨a, b, d, e, f⟩ := s
  rfl
theorem chain_run {p : Program} {w : World} {os : OsState} {b : List Stmt} {n : Nat} {A C : St} (h : Chain p b n A C) :
    topRun treeTable p w 11 annO (n + 2) (A.at w.params os).abs (restOf b (envOf p) (cOf p) A.pos [topFrame pos0]) = some (C.at w.params os).abs := by
  induction h with
  | nil S => exact piece_nil (fin_run _)
  | cons h _ ih =>
    have e := segRun_of (congrFun (h w) os)
    rw [Nat.add_assoc]
    exact piece_app e ih
abbrev Pre (p : Program) : Prop := ∀ w : World, (fun os => topGo treeTable p w 11 annO 12 ⟨boot_heap w.params, Array.mk [], boot_drawn, boot_toks, os⟩ (topStub p)) = fun os => some ((St0.at w.params os).abs, ⟨denote treeTable (cOf p), cOf p, pos0, [topFrame pos0]⟩)
abbrev Blk (p : Program) : Prop := ∀ (w : World) (hp : Heap) (gs : Array GenState) (d : Drawn) (k : Nat) (os : OsState),
  segRun treeTable p w 11 annO 1 1 ⟨hp, gs, d, k, os⟩ (blockOf (behindTheImports p) (envOf p) (cOf p) pos0 [topFrame pos0]) = some (.next, ⟨hp, gs, d, k, os⟩, cOf p, pos0)
abbrev Look1 (p : Program) (C : St) : Prop := ∀ w : World, (fun os => staticsOk (importedModules p.main.body) (boot_heap w.params) (C.at w.params os).abs.heap && namesBound p (C.at w.params os).abs.heap && gensDone (C.at w.params os).abs && laidKept (boot_heap w.params) (C.at w.params os).abs.heap) = fun _ => true
theorem left_cut {p q : Program} {loose : List Str} {Xt : Shared → Bool} {α : Type} {Yf : Shared → α} {Ya : World → α} {N n : Nat} {g0 : Bool} {b : List Stmt} {C : St}
    (e : opening p = plainProg p.main.scope.names) (hN : Nat.ble 600 N = true) (f : ∀ s, fenceModules? p s = some s)
    (pre : Pre p) (blk : Blk p) (hb : behindTheImports p = b) (ch : Chain p b n St0 C) (le : Nat.ble (12 + (1 + (n + 2))) N = true)
    (k1 : Look1 p C) (k2 : ∀ w : World, (fun os => openSeen q loose (importedModules p.main.body) Xt g0 (C.at w.params os).abs) = fun _ => openGood q loose) (k3 : ∀ w : World, (fun os => Yf (C.at w.params os).abs) = fun _ => Ya w) :
    LeftO p q loose Xt Yf Ya N g0 := fun w => by
  obtain ⟨⟨hp, gs, d, k, os⟩, a, a'⟩ := Option.map_eq_some_iff.mp (boot_open e hN f w)
  obtain ⟨rfl, rfl, rfl, rfl⟩ : hp = boot_heap w.params ∧ gs = #[] ∧ d = boot_drawn ∧ k = boot_toks := by simpa using a'
  obtain ⟨z1, z2, z3⟩ : _ ∧ _ ∧ _ := by simpa only [Prod.mk.injEq] using size_boot w.params
  have r1 := chain_run (w := w) (os := os) ch
  rw [← hb] at r1
  have r2 := piece_block (blk w _ _ _ _ _) r1
  have r3 := go_top (congrFun (pre w) os) r2
  have r' := topRun_mono (N - (12 + (1 + (n + 2)))) _ _ _ _ r3
  rw [show 12 + (1 + (n + 2)) + (N - (12 + (1 + (n + 2)))) = N by have := Nat.le_of_ble_eq_true le; omega] at r'
  have l1 := congrFun (k1 w) os
  have t : topFrom treeTable p w N ⟨boot_heap w.params, #[], boot_drawn, boot_toks, os⟩ = some (C.at w.params os).abs := by
    unfold topFrom
    dsimp only
    rw [z1, z2, z3, r']
    show (match staticsOk (importedModules p.main.body) (boot_heap w.params) (C.at w.params os).abs.heap && namesBound p (C.at w.params os).abs.heap && gensDone (C.at w.params os).abs && laidKept (boot_heap w.params) (C.at w.params os).abs.heap with | true => _ | false => _) = _
    rw [l1]
  unfold openEnds
  rw [a]
  show (topFrom treeTable p w N _).map _ = _
  rw [t]
  exact congrArg some (Prod.ext (congrFun (k2 w) os) (congrFun (k3 w) os))
end HD
namespace HP
open PySem PySem.W HD
noncomputable def pq : Program := PySem.Challenge.pw_dearsigns_k22_first_wrong_sign
theorem e1 : opening pq = plainProg pq.main.scope.names := by kernel_rfl
theorem e2 (s) : fenceModules? pq s = some s := by kernel_rfl
theorem pre : Pre pq := fun w => by kernel_rfl
theorem blk : Blk pq := fun w _ _ _ _ _ => by kernel_rfl
noncomputable def b0 : List Stmt := behindTheImports pq
noncomputable def S0 : St := St0
noncomputable def l0 : List Stmt := b0.take 6
noncomputable def b1 : List Stmt := b0.drop 6
noncomputable def S1 : St := S0.step l0
theorem q0 : Piece pq l0 864 S0 S1 := fun w => by kernel_rfl
noncomputable def l1 : List Stmt := b1.take 4
noncomputable def b2 : List Stmt := b1.drop 4
noncomputable def S2 : St := S1.step l1
theorem q1 : Piece pq l1 853 S1 S2 := fun w => by kernel_rfl
noncomputable def l2 : List Stmt := b2.take 4
noncomputable def b3 : List Stmt := b2.drop 4
noncomputable def S3 : St := S2.step l2
theorem q2 : Piece pq l2 949 S2 S3 := fun w => by kernel_rfl
noncomputable def l3 : List Stmt := b3.take 15
noncomputable def b4 : List Stmt := b3.drop 15
noncomputable def S4 : St := S3.step l3
theorem q3 : Piece pq l3 973 S3 S4 := fun w => by kernel_rfl
noncomputable def l4 : List Stmt := b4.take 11
noncomputable def S5 : St := S4.step l4
theorem q4 : Piece pq l4 605 S4 S5 := fun w => by kernel_rfl
theorem chain : Chain pq (l0 ++ (l1 ++ (l2 ++ (l3 ++ (l4 ++ []))))) (864 + (853 + (949 + (973 + (605 + (0)))))) S0 S5 := .cons q0 (.cons q1 (.cons q2 (.cons q3 (.cons q4 (Chain.nil S5)))))
theorem body : behindTheImports pq = l0 ++ (l1 ++ (l2 ++ (l3 ++ (l4 ++ [])))) := by kernel_rfl
theorem look1 : Look1 pq S5 := fun w => by kernel_rfl
end HP
namespace HD
open PySem PySem.W PySem.Calls PyProof.Rows
noncomputable def getT (T : BT) (n a : Nat) : Option Obj := match Nat.blt a n with
  | true => alive ((T.get a).getD default)
  | false => none
theorem get_abs (T : BT) (n : Nat) (life : Life) (a : Nat) : (absHeap T n life).get? a = getT T n a := by
  unfold getT Heap.get?
  rw [absHeap_at]
  by_cases h : a < n
  · have e : Nat.blt a n = true := by rw [Nat.blt_eq]; exact h
    rw [if_pos h, e]
    cases (T.get a).getD default with
    | mk c d dt sl => cases dt <;> rfl
  · have e : Nat.blt a n = false := by
      cases q : Nat.blt a n with
      | false => rfl
      | true => rw [Nat.blt_eq] at q; exact absurd q h
    rw [if_neg h, e]
theorem left_cutZ {p q : Program} {loose : List Str} {Xt : Shared → Bool} {as : List Addr} {Ya : World → List (Option Obj) × Nat × Nat} {N n : Nat} {g0 : Bool} {b : List Stmt} {C : St}
    (e : opening p = plainProg p.main.scope.names) (hN : Nat.ble 600 N = true) (f : ∀ s, fenceModules? p s = some s)
    (pre : Pre p) (blk : Blk p) (hb : behindTheImports p = b) (ch : Chain p b n St0 C) (le : Nat.ble (12 + (1 + (n + 2))) N = true)
    (k1 : Look1 p C) (k2 : ∀ w : World, (fun os => openSeen q loose (importedModules p.main.body) Xt g0 (C.at w.params os).abs) = fun _ => openGood q loose)
    (k3 : ∀ w : World, (as.map (getT (C.sim w.params).tree (C.sim w.params).n), (C.sim w.params).n, (C.sim w.params).k) = Ya w) :
    LeftO p q loose Xt (X.obsZ as) Ya N g0 := by
  refine left_cut e hN f pre blk hb ch le k1 k2 fun w => funext fun os => ?_
  rw [← k3 w]
  have e1 : as.map (C.at w.params os).abs.heap.get? = as.map (getT (C.sim w.params).tree (C.sim w.params).n) := by
    congr 1
    funext a
    exact get_abs _ _ _ a
  have e2 : (C.at w.params os).abs.heap.objs.size = (C.sim w.params).n := absHeap_size _ _ _
  unfold X.obsZ
  rw [e1, e2]
  rfl
end HD
namespace L2
open PySem PySem.Spec PyProof.Rows
abbrev Key := Sum Int Str
def keyIs : Key → Value → Bool
  | .inl k, v => Value.isInt k v
  | .inr x, v => Value.isStrOf x v
def keyH (w : World) : Key → Int
  | .inl k => hashInt k
  | .inr x => hashStr w x
theorem keyIs_shape : ∀ {k : Key} {v : Value}, keyIs k v = true → (∃ i t, k = Sum.inl i ∧ v = Value.int i t) ∨ (∃ x t, k = Sum.inr x ∧ v = Value.str x t)
  | .inl i, v, h => by
    obtain ⟨t, e⟩ := Value.isInt_shape (k := i) (v := v) h
    exact .inl ⟨i, t, rfl, e⟩
  | .inr x, v, h => by
    obtain ⟨t, e⟩ := Value.isStrOf_shape (x := x) (v := v) h
    exact .inr ⟨x, t, rfl, e⟩
theorem keyIs_int (i : Int) (t : Tok) : keyIs (.inl i) (.int i t) = true := by simp [keyIs, Value.isInt]
theorem keyIs_str (x : Str) (t : Tok) : keyIs (.inr x) (.str x t) = true := by simp [keyIs, Value.isStrOf]
theorem key_ll (a b : Int) : decide ((Sum.inl a : Key) = Sum.inl b) = (a == b) := by
  by_cases e : a = b
  · subst e; simp
  · have h : ¬ (Sum.inl a : Key) = Sum.inl b := fun q => e (Sum.inl.inj q)
    rw [decide_eq_false h]
    exact (beq_eq_false_iff_ne.mpr e).symm
theorem key_rr (a b : Str) : decide ((Sum.inr a : Key) = Sum.inr b) = decide (a = b) := by
  by_cases e : a = b
  · subst e; simp
  · have h : ¬ (Sum.inr a : Key) = Sum.inr b := fun q => e (Sum.inr.inj q)
    rw [decide_eq_false h, decide_eq_false e]
theorem key_lr (a : Int) (b : Str) : decide ((Sum.inl a : Key) = Sum.inr b) = false := decide_eq_false (fun q => nomatch q)
theorem key_rl (a : Str) (b : Int) : decide ((Sum.inr a : Key) = Sum.inl b) = false := decide_eq_false (fun q => nomatch q)
def mixKind (prog : Program) (w : World) : PySem.KeyKind prog w Key where
  is := keyIs
  hash := keyH w
  inj := fun v a b ha hb => by
    rcases keyIs_shape ha with ⟨i, t, rfl, rfl⟩ | ⟨x, t, rfl, rfl⟩
    · rcases keyIs_shape hb with ⟨j, u, rfl, e⟩ | ⟨y, u, rfl, e⟩
      · injection e with e1 _; rw [e1]
      · exact nomatch e
    · rcases keyIs_shape hb with ⟨j, u, rfl, e⟩ | ⟨y, u, rfl, e⟩
      · exact nomatch e
      · injection e with e1 _; rw [e1]
  byValue := fun k v h => by
    rcases keyIs_shape h with ⟨i, t, rfl, rfl⟩ | ⟨x, t, rfl, rfl⟩ <;> rfl
  pyHash := fun hv h => by
    rcases keyIs_shape hv with ⟨i, t, rfl, rfl⟩ | ⟨x, t, rfl, rfl⟩
    · exact wpAny_pyHash_int h
    · exact wpAny_pyHash_str h
  eqBool := fun hu hv h => by
    rcases keyIs_shape hu with ⟨i, t, rfl, rfl⟩ | ⟨x, t, rfl, rfl⟩
    · rcases keyIs_shape hv with ⟨j, u, rfl, rfl⟩ | ⟨y, u, rfl, rfl⟩
      · rw [key_ll] at h; exact wpAny_eqBool_int h
      · rw [key_lr] at h; exact SeqAt.EqAt.int_str i t y u _ _ _ _ h
    · rcases keyIs_shape hv with ⟨j, u, rfl, rfl⟩ | ⟨y, u, rfl, rfl⟩
      · rw [key_rl] at h; exact SeqAt.EqAt.str_int x t j u _ _ _ _ h
      · rw [key_rr] at h; exact wpAny_eqBool_str h
  «strs» := fun k x t v h => by
    rcases keyIs_shape h with ⟨i, u, rfl, e⟩ | ⟨y, u, rfl, e⟩
    · exact nomatch e
    · injection e with e1 _
      subst e1
      cases v <;> rfl
theorem mixKind_int (prog : Program) (w : World) (i : Int) (t : Tok) : (mixKind prog w).is (.inl i) (.int i t) = true := keyIs_int i t
theorem mixKind_str (prog : Program) (w : World) (x : Str) (t : Tok) : (mixKind prog w).is (.inr x) (.str x t) = true := keyIs_str x t
end L2
namespace L2
open PySem PySem.Spec PyProof.Rows
inductive V where
  | non | bl (b : Bool) | int (i : Int) | str (x : Str) | byt (b : Array UInt8) | flt (b : UInt64) | ref (a : Addr) | ty (n : String)
  deriving DecidableEq
def RelV : V → Value → Prop
  | .non, u => u = Value.none
  | .bl b, u => u = Value.bool b
  | .int i, u => ∃ t, u = Value.int i t
  | .str x, u => ∃ t, u = Value.str x t
  | .byt b, u => ∃ t, u = Value.bytes b t
  | .flt b, u => ∃ t, u = Value.float b t
  | .ref a, u => u = Value.ref a
  | .ty n, u => u = Value.type n
abbrev Vals : List V → List Value → Prop := Paired RelV
theorem Vals.length {xs : List V} {us : List Value} (r : Vals xs us) : xs.length = us.length := Paired.length r
theorem Vals.get : ∀ {xs : List V} {us : List Value} {i : Nat} {x : V}, Vals xs us → xs[i]? = some x → ∃ u, us[i]? = some u ∧ RelV x u
  | _, _, _, _, .nil, e => by simp at e
  | _, _, 0, _, .cons r _, e => by simp at e; subst e; exact ⟨_, rfl, r⟩
  | _, _, i + 1, x, .cons _ t, e => by
    obtain ⟨u, h1, h2⟩ := Vals.get (i := i) (x := x) t (by simpa using e)
    exact ⟨u, by simpa using h1, h2⟩
theorem Vals.set {x : V} {u : Value} (r : RelV x u) : ∀ {xs : List V} {us : List Value} (i : Nat), Vals xs us → Vals (xs.set i x) (us.set i u)
  | _, _, _, .nil => .nil
  | _, _, 0, .cons _ t => .cons r t
  | _, _, i + 1, .cons q t => .cons q (Vals.set r i t)
theorem Vals.append : ∀ {xs ys : List V} {us ws : List Value}, Vals xs us → Vals ys ws → Vals (xs ++ ys) (us ++ ws)
  | _, _, _, _, .nil, s => s
  | _, _, _, _, .cons r t, s => .cons r (Vals.append t s)
theorem Vals.take : ∀ {xs : List V} {us : List Value} (n : Nat), Vals xs us → Vals (xs.take n) (us.take n)
  | _, _, 0, _ => .nil
  | _, _, _ + 1, .nil => .nil
  | _, _, n + 1, .cons r t => .cons r (Vals.take n t)
theorem Vals.drop : ∀ {xs : List V} {us : List Value} (n : Nat), Vals xs us → Vals (xs.drop n) (us.drop n)
  | _, _, 0, r => r
  | _, _, _ + 1, .nil => .nil
  | _, _, n + 1, .cons _ t => Vals.drop n t
def RelO : Option V → Option Value → Prop
  | some v, some u => RelV v u
  | none, none => True
  | _, _ => False
def KV {κ : Type} : List (κ × V) → List (κ × Value) → Prop := Paired fun (p : κ × V) (q : κ × Value) => p.1 = q.1 ∧ RelV p.2 q.2
def kV : Key → V
  | .inl i => .int i
  | .inr x => .str x
inductive HO where
    | lst (xs : List V)
    | tup (xs : List V)
    | dK (kvs : List (Key × V)) | dT (kvs : List (List Key × V))
    | set (S : Int → Bool) (n : Nat)
    | ins (C dx : Addr) (fs : List (Str × V))
    | own (x : Addr)
    | xd (fs : List (Str × V))
    | met (f x : Addr)
    | rng (lo hi : Int)
    | frz (o : Obj) (u : HO)
    | tbl (ps : Array Value)
    | ext (φ : Heap → Prop)
abbrev Hp := Addr → Option HO
def upd (H : Hp) (a : Addr) (o : HO) : Hp := fun b => if b = a then some o else H b
theorem upd_same {H : Hp} {a : Addr} {o : HO} : upd H a o a = some o := by unfold upd; rw [if_pos rfl]
theorem upd_ne {H : Hp} {a b : Addr} {o : HO} (h : b ≠ a) : upd H a o b = H b := by unfold upd; rw [if_neg h]
theorem ne_of_none {H : Hp} {a b : Addr} {o : HO} (h : H a = some o) (h' : H b = none) : a ≠ b := by
  intro e; subst e; rw [h] at h'; cases h'
section
variable (P : Program) (w : World)
def ObjOk (H : Hp) (h : Heap) (a : Addr) : HO → Prop
  | .lst xs => xs.length ≤ sizeLine ∧ ∃ (its : List Value) (n : Nat), Vals xs its ∧ h.get? a = some { cls := .type "list", data := .seq its.toArray n }
  | .tup xs => xs.length ≤ sizeLine ∧ ∃ its : List Value, Vals xs its ∧ IsTup h a its.toArray
  | .dK kvs => kvs.length ≤ sizeLine ∧ (a == sysModules) = false ∧ ∃ vs, KV kvs vs ∧ h.DictOf (mixKind P w) a vs
  | .dT kvs => kvs.length ≤ sizeLine ∧ (a == sysModules) = false ∧ ∃ xs : List (List Key × Addr × Value),
      Paired (fun (p : List Key × V) (q : List Key × Addr × Value) => p.1 = q.1 ∧ H q.2.1 = some (.tup (p.1.map kV)) ∧ RelV p.2 q.2.2) kvs xs ∧
      ∃ o es ep, h.get? a = some o ∧ o.ExactDict ∧ o.data = .dict es ep ∧ es.toList = xs.map (entryOfKey (tupleKind (mixKind P w))) ∧ (xs.map (·.1)).Nodup
  | .set S n => h.SetOf (intKind P w) a S n
  | .ins C dx fs => H dx = some (.own a) ∧ fs.length ≤ 1000 ∧ dx ≠ a ∧ h.get? a = some (PySem.W.instObj C dx) ∧
      ∃ mA, h.Ns1 dx mA ∧ (∀ f, RelO (fs.lookup f) (mA f)) ∧ PySem.Within mA (fs.map (·.1))
  | .own _ => ∃ o, h.get? a = some o
  | .xd fs => ∃ mA, h.Ns1 a mA ∧ ∀ f, RelO (fs.lookup f) (mA f)
  | .rng lo hi => ∃ t u v, h.get? a = some { cls := .type "range", data := .fields #[.int lo t, .int hi u, .int 1 v] }
  | .frz o u => h.get? a = some o ∧ ObjOk H h a u
  | .tbl ps => h.get? a = some { cls := .none, data := .fields ps }
  | .met f x => h.get? a = some (PySem.W.methodObj (.ref f) (.ref x))
  | .ext φ => φ h ∧ (∃ o, h.get? a = some o) ∧ ∀ h1 h2 : Heap, φ h1 → (∀ o, h1.get? a = some o → h2.get? a = some o) → φ h2
def HOk (H : Hp) (h : Heap) : Prop := ∀ a o, H a = some o → ObjOk P w H h a o
end
section
variable {P : Program} {w : World} {H H' : Hp} {h h' : Heap} {a : Addr} {o : HO}
theorem ObjOk.lt (x : ObjOk P w H h a o) : a < h.objs.size := by
  cases o with
  | lst xs => obtain ⟨_, _, _, _, e⟩ := x; exact Heap.lt_size e
  | tup xs => obtain ⟨_, _, _, p⟩ := x; exact p.lt
  | dK kvs => obtain ⟨_, _, _, _, o, _, _, e, _⟩ := x; exact Heap.lt_size e
  | dT kvs => obtain ⟨_, _, _, _, o, _, _, e, _⟩ := x; exact Heap.lt_size e
  | set S n => obtain ⟨o, _, _, _, e, _⟩ := x; exact Heap.lt_size e
  | ins C dx fs => obtain ⟨_, _, _, e, _⟩ := x; exact Heap.lt_size e
  | own y => obtain ⟨_, e⟩ := x; exact Heap.lt_size e
  | xd fs => obtain ⟨_, ⟨_, _, _, e, _⟩, _⟩ := x; exact Heap.lt_size e
  | rng lo hi => obtain ⟨_, _, _, e⟩ := x; exact Heap.lt_size e
  | frz ob u => obtain ⟨e, _⟩ := x; exact Heap.lt_size e
  | tbl ps => exact Heap.lt_size (show h.get? a = some _ from x)
  | met f y => exact Heap.lt_size (show h.get? a = some _ from x)
  | ext φ => obtain ⟨_, ⟨_, e⟩, _⟩ := x; exact Heap.lt_size e
theorem Paired.mapP {α β : Type} {F G : α → β → Prop} : ∀ {l₁ : List α} {l₂ : List β}, Paired F l₁ l₂ → (∀ a b, F a b → G a b) → Paired G l₁ l₂
  | _, _, .nil, _ => .nil
  | _, _, .cons r t, f => .cons (f _ _ r) (Paired.mapP t f)
theorem ObjOk.stay (x : ObjOk P w H h a o) (k : ∀ b u, (b = a ∨ H b = some (.own a)) → h.get? b = some u → h'.get? b = some u)
    (ho : ∀ b, H b = some (.own a) → H' b = some (.own a)) (ht : ∀ b xs, H b = some (.tup xs) → H' b = some (.tup xs)) : ObjOk P w H' h' a o := by
  induction o with
  | lst xs => obtain ⟨z, its, n, r, e⟩ := x; exact ⟨z, its, n, r, k _ _ (.inl rfl) e⟩
  | tup xs => obtain ⟨z, its, r, ob, e, c⟩ := x; exact ⟨z, its, r, ob, k _ _ (.inl rfl) e, c⟩
  | dK kvs => obtain ⟨z, y, vs, r, ob, es, ep, e, c⟩ := x; exact ⟨z, y, vs, r, ob, es, ep, k _ _ (.inl rfl) e, c⟩
  | dT kvs =>
    obtain ⟨z, y, xs, r, ob, es, ep, e, c⟩ := x
    exact ⟨z, y, xs, Paired.mapP r fun p q z => ⟨z.1, ht _ _ z.2.1, z.2.2⟩, ob, es, ep, k _ _ (.inl rfl) e, c⟩
  | set S n => obtain ⟨ob, es, ep, t, e, c⟩ := x; exact ⟨ob, es, ep, t, k _ _ (.inl rfl) e, c⟩
  | ins C dx fs =>
    obtain ⟨d, z, ne, e, mA, ⟨od, es, ep, e2, c⟩, r⟩ := x
    exact ⟨ho _ d, z, ne, k _ _ (.inl rfl) e, mA, ⟨od, es, ep, k _ _ (.inr d) e2, c⟩, r⟩
  | own y => obtain ⟨ob, e⟩ := x; exact ⟨ob, k _ _ (.inl rfl) e⟩
  | xd fs => obtain ⟨mA, ⟨od, es, ep, e, c⟩, r⟩ := x; exact ⟨mA, ⟨od, es, ep, k _ _ (.inl rfl) e, c⟩, r⟩
  | rng lo hi => obtain ⟨t, u, v, e⟩ := x; exact ⟨t, u, v, k _ _ (.inl rfl) e⟩
  | frz ob u ih => obtain ⟨e, q⟩ := x; exact ⟨k _ _ (.inl rfl) e, ih q⟩
  | tbl ps =>
    have e : h.get? a = some { cls := .none, data := .fields ps } := x
    show h'.get? a = some { cls := .none, data := .fields ps }
    exact k a _ (.inl rfl) e
  | met f y =>
    have e : h.get? a = some (PySem.W.methodObj (.ref f) (.ref y)) := x
    show h'.get? a = some (PySem.W.methodObj (.ref f) (.ref y))
    exact k a _ (.inl rfl) e
  | ext φ => obtain ⟨p, ⟨o, e⟩, st⟩ := x; exact ⟨st _ _ p fun o q => k _ _ (.inl rfl) q, ⟨o, k _ _ (.inl rfl) e⟩, st⟩
theorem HOk.lt (x : HOk P w H h) (e : H a = some o) : a < h.objs.size := (x a o e).lt
theorem HOk.fresh (x : HOk P w H h) (e : h.objs.size ≤ a) : H a = none := by
  cases q : H a with
  | none => rfl
  | some u => exact absurd (Nat.lt_of_lt_of_le (x.lt q) e) (Nat.lt_irrefl _)
theorem HOk.kept (x : HOk P w H h) (k : ∀ b u, h.get? b = some u → h'.get? b = some u) : HOk P w H h' := fun a o e =>
  (x a o e).stay (fun b u _ q => k b u q) (fun _ q => q) fun _ _ q => q
theorem HOk.laid (x : HOk P w H h) (k : ∀ b u, h.get? b = some u → h'.get? b = some u) (hp : h.objs.size ≤ a) (new : ObjOk P w (upd H a o) h' a o) : HOk P w (upd H a o) h' := fun b u e => by
  have hn := x.fresh hp
  by_cases hb : b = a
  · subst hb; rw [upd_same] at e; cases e; exact new
  · rw [upd_ne hb] at e
    exact (x b u e).stay (fun c v _ q => k c v q) (fun c q => by rw [upd_ne (ne_of_none q hn)]; exact q) fun c xs q => by rw [upd_ne (ne_of_none q hn)]; exact q
end
def Rd (H : Hp) (a : Addr) (u : HO) : Prop := H a = some u ∨ ∃ o, H a = some (.frz o u)
theorem Rd.ok {P : Program} {w : World} {H : Hp} {h : Heap} {a : Addr} {u : HO} (r : Rd H a u) (x : HOk P w H h) : ObjOk P w H h a u := by
  rcases r with r | ⟨o, r⟩
  · exact x a u r
  · obtain ⟨_, q⟩ := x a _ r
    exact q
def Mut : Option HO → Prop
  | some (.lst _) => True
  | some (.dK _) => True
  | some (.dT _) => True
  | some (.set _ _) => True
  | some (.ins _ _ _) => True
  | some (.ext _) => True
  | _ => False
section
variable {P : Program} {w : World} {H : Hp} {h h' : Heap} {x e : Addr} {o' : HO}
theorem HOk.write (ok : HOk P w H h) (mu : Mut (H x)) (he : e = x ∨ H e = some (.own x)) (k : ∀ b u, b ≠ e → h.get? b = some u → h'.get? b = some u) (heo : ∃ u, h'.get? e = some u)
    (new : ObjOk P w (upd H x o') h' x o') : HOk P w (upd H x o') h' := fun b u q => by
  have nown : ∀ c y, H c = some (.own y) → c ≠ x := fun c y r z => by subst z; rw [r] at mu; exact mu
  have ntup : ∀ c xs, H c = some (.tup xs) → c ≠ x := fun c xs r z => by subst z; rw [r] at mu; exact mu
  by_cases hb : b = x
  · subst hb; rw [upd_same] at q; cases q; exact new
  · rw [upd_ne hb] at q
    by_cases hbe : b = e
    · have q' : H b = some (.own x) := by
        rcases he with z | z
        · exact absurd (hbe.trans z) hb
        · rw [hbe]; exact z
      rw [q] at q'; cases q'
      obtain ⟨v, hv⟩ := heo
      exact ⟨v, by rw [hbe]; exact hv⟩
    · refine (ok b u q).stay (fun c v hc r => k c v ?_ r) (fun c r => by rw [upd_ne (nown c b r)]; exact r) fun c xs r => by rw [upd_ne (ntup c xs r)]; exact r
      rcases hc with rfl | hc
      · exact hbe
      · rintro rfl
        rcases he with z | z
        · exact nown c b hc z
        · rw [hc] at z; cases z; exact hb rfl
end
structure Un (fs ex : List Addr) (H H' : Hp) (h h' : Heap) : Prop where
  keep : ∀ b o, h.get? b = some o → H b = none → b ∉ fs → b ∉ ex → h'.get? b = some o
  slot : ∀ b o, h.get? b = some o → H b = none → b ∈ fs → b ∉ ex → ∃ sl, h'.get? b = some { o with slots := sl }
  free : ∀ b o, h.get? b = some o → H b = none → b ∉ ex → H' b = none
  there : ∀ b o, h.get? b = some o → b ∉ ex → ∃ o', h'.get? b = some o'
  tups : ∀ b xs, H b = some (.tup xs) → H' b = some (.tup xs)
  frzs : ∀ b o u, H b = some (.frz o u) → H' b = some (.frz o u)
  tbls : ∀ b ps, H b = some (.tbl ps) → ∃ more, H' b = some (.tbl (ps ++ more))
section
variable {fs fs' ex ex' : List Addr} {H H1 H2 : Hp} {h h1 h2 h' : Heap} {a x e : Addr} {o : HO}
theorem Un.any (u : Un fs ex H H1 h h1) {b : Addr} {ob : Obj} (q : h.get? b = some ob) (n : H b = none) (hx : b ∉ ex) : ∃ sl, h1.get? b = some { ob with slots := sl } := by
  by_cases hb : b ∈ fs
  · exact u.slot b ob q n hb hx
  · exact ⟨ob.slots, u.keep b ob q n hb hx⟩
theorem Un.trans (a : Un fs ex H H1 h h1) (b : Un fs ex H1 H2 h1 h2) : Un fs ex H H2 h h2 where
  keep := fun c ob q n hc hx => b.keep c ob (a.keep c ob q n hc hx) (a.free c ob q n hx) hc hx
  slot := fun c ob q n hc hx => by
    obtain ⟨sl, e1⟩ := a.slot c ob q n hc hx
    obtain ⟨sl', e2⟩ := b.slot c _ e1 (a.free c ob q n hx) hc hx
    exact ⟨sl', e2⟩
  free := fun c ob q n hx => by
    obtain ⟨o', e1⟩ := a.there c ob q hx
    exact b.free c o' e1 (a.free c ob q n hx) hx
  there := fun c ob q hx => by
    obtain ⟨o', e1⟩ := a.there c ob q hx
    exact b.there c o' e1 hx
  tups := fun c xs q => b.tups c xs (a.tups c xs q)
  frzs := fun c ob xs q => b.frzs c ob xs (a.frzs c ob xs q)
  tbls := fun c ps q => by
    obtain ⟨m1, e1⟩ := a.tbls c ps q
    obtain ⟨m2, e2⟩ := b.tbls c _ e1
    exact ⟨m1 ++ m2, by rw [e2, Array.append_assoc]⟩
theorem Un.kept (k : ∀ b u, h.get? b = some u → h'.get? b = some u) : Un fs ex H H h h' :=
  ⟨fun b ob q _ _ _ => k b ob q, fun b ob q _ _ _ => ⟨ob.slots, k b ob q⟩, fun _ _ _ n _ => n, fun b ob q _ => ⟨ob, k b ob q⟩, fun _ _ q => q, fun _ _ _ q => q, fun _ ps q => ⟨#[], by rw [q]; simp⟩⟩
theorem Un.refl : Un fs ex H H h h := Un.kept fun _ _ q => q
theorem Un.laid (k : ∀ b u, h.get? b = some u → h'.get? b = some u) (hp : h.objs.size ≤ a) (hn : H a = none) : Un fs ex H (upd H a o) h h' where
  keep := fun b u q _ _ _ => k b u q
  slot := fun b u q _ _ _ => ⟨u.slots, k b u q⟩
  free := fun b u q n _ => by rw [upd_ne (Nat.ne_of_lt (Nat.lt_of_lt_of_le (Heap.lt_size q) hp))]; exact n
  there := fun b u q _ => ⟨u, k b u q⟩
  tups := fun b xs q => by rw [upd_ne (ne_of_none q hn)]; exact q
  frzs := fun b u xs q => by rw [upd_ne (ne_of_none q hn)]; exact q
  tbls := fun b ps q => ⟨#[], by rw [upd_ne (ne_of_none q hn), q]; simp⟩
theorem Un.write (mu : Mut (H x)) (he : e = x ∨ H e = some (.own x)) (k : ∀ b u, b ≠ e → h.get? b = some u → h'.get? b = some u) (heo : ∃ u, h'.get? e = some u) : Un fs ex H (upd H x o) h h' := by
  have hx : ∀ b, H b = none → b ≠ x := fun b n z => by subst z; rw [n] at mu; exact mu
  have hb : ∀ b, H b = none → b ≠ e := fun b n z => by
    subst z
    rcases he with r | r
    · exact hx b n r
    · rw [n] at r; cases r
  have hm : ∀ b u, H b = some u → ¬ Mut (some u) → b ≠ x := fun b u q nm z => by subst z; rw [q] at mu; exact nm mu
  refine ⟨fun b u q n _ _ => k b u (hb b n) q, fun b u q n _ _ => ⟨u.slots, k b u (hb b n) q⟩, fun b u q n _ => by rw [upd_ne (hx b n)]; exact n, fun b u q _ => ?_,
    fun b xs q => by rw [upd_ne (hm b _ q fun z => z)]; exact q, fun b u xs q => by rw [upd_ne (hm b _ q fun z => z)]; exact q, fun b ps q => ⟨#[], by rw [upd_ne (hm b _ q fun z => z), q]; simp⟩⟩
  by_cases hbe : b = e
  · subst hbe; exact heo
  · exact ⟨u, k b u hbe q⟩
theorem Un.mono (u : Un fs ex H H1 h h1) (hs : ∀ b ∈ fs, b ∈ fs') (hx : ∀ b ∈ ex, b ∈ ex') : Un fs' ex' H H1 h h1 :=
  ⟨fun b ob q n hb he => u.keep b ob q n (fun z => hb (hs b z)) fun z => he (hx b z), fun _ _ q n _ he => u.any q n fun z => he (hx _ z), fun b ob q n he => u.free b ob q n fun z => he (hx b z), fun b ob q he => u.there b ob q fun z => he (hx b z), u.tups, u.frzs, u.tbls⟩
end
def trk (h : Heap) (H : Hp) : List Addr := (List.range h.objs.size).filter fun a => (H a).isSome
def hidT (h : Heap) (H : Hp) : Heap := PySem.W.hideAll h (trk h H)
theorem hidT_size (h : Heap) (H : Hp) : (hidT h H).objs.size = h.objs.size := PySem.W.hideAll_size _ _
theorem hidT_get {h : Heap} {H : Hp} {b : Addr} {o : Obj} (e : h.get? b = some o) (n : H b = none) : (hidT h H).get? b = some o :=
  PySem.W.hideAll_get _ e fun hm => by
    have q : (H b).isSome = true := (List.mem_filter.mp hm).2
    rw [n] at q; simp at q
theorem of_hidT {h : Heap} {H : Hp} {b : Addr} {o : Obj} (e : (hidT h H).get? b = some o) : h.get? b = some o ∧ H b = none := by
  have e' : h.get? b = some o := PySem.W.of_hideAll (trk h H) e
  refine ⟨e', ?_⟩
  cases q : H b with
  | none => rfl
  | some x =>
    have hm : b ∈ trk h H := List.mem_filter.mpr ⟨List.mem_range.mpr (Heap.lt_size e'), by simp [q]⟩
    have z : (hidT h H).get? b = none := PySem.W.hideAll_none (trk h H) hm
    rw [z] at e; cases e
end L2
namespace L2
open PySem PySem.Spec PyProof.Rows
structure Mod (K : PySem.W.Frag) (mg : Str → Option Value) (base : Heap) : Prop where
  kin : K.In base
  glob : base.Ns mainGlobals mg
  blt : ∃ mb, base.Ns builtinsNs mb ∧ ∀ x : Str, x ≠ "__name__" → mb x = bootBuiltins x
  nolimit : base.NoLimit
structure Cx where
  prog : Program
  w : World
  K : PySem.W.Frag
  mg : Str → Option Value
  base : Heap
  A : Around
  N : List Str
  s₀ : Shared
  H₀ : Hp
  env : Env
  outer : List Env
  stack : List Env
  ex : List Addr
  fn : Str → Bool
  calm : Bool
  pn : List (Addr × Obj)
  xe : Value → Shared → Prop
def frs (l : List Env) : List Addr := l.filterMap (·.frame)
abbrev Cx.fs (X : Cx) : List Addr := frs X.outer
def Vis (sc : Scope) (x : Str) : Prop := sc.names.lookup x = some .local ∨ sc.names.lookup x = some .cell ∨ sc.names.lookup x = some .free
def Loc (sc : Scope) (x : Str) : Prop := sc.names.lookup x = some .local ∨ sc.names.lookup x = some .cell
def Look (env : Env) (h : Heap) (m : Str → Option Value) (x : Str) (u : Value) : Prop :=
  (env.kindOf x = some .local ∧ m x = some u) ∨ ((env.kindOf x = some .cell ∨ env.kindOf x = some .free) ∧ ∃ c, env.cells.lookup x = some c ∧ h.IsCell c (some u))
structure Cx.Ok (X : Cx) : Prop where
  mod : Mod X.K X.mg X.base
  kind : X.env.scope.kind = .function
  glob : X.env.globals = mainGlobals
  blt : X.env.builtins = builtinsNs
  above : X.s₀.heap.objs.size ≤ X.env.locals
  inj : ∀ x y c, X.env.cells.lookup x = some c → X.env.cells.lookup y = some c → x = y
  has : ∀ x, (X.env.kindOf x = some .cell ∨ X.env.kindOf x = some .free) → ∃ c, X.env.cells.lookup x = some c
  cab : ∀ x c, X.fn x = true → X.env.cells.lookup x = some c → X.s₀.heap.objs.size ≤ c
  hd : X.calm = true → X.A.handled = none
  frames : X.A.frames = some X.stack
  stk : X.stack = X.outer ∨ (X.stack = X.env :: X.outer ∧ X.env.frame = some X.env.locals)
  exf : ∀ b ∈ X.ex, b ≠ X.env.locals ∧ ∀ x c, X.env.cells.lookup x = some c → c ≠ b
  bs : ∀ b o, X.base.get? b = some o → X.s₀.heap.get? b = some o ∧ X.H₀ b = none
  bsz : X.base.objs.size ≤ X.s₀.heap.objs.size
  noex : ∀ b o, X.base.get? b = some o → b ∉ X.ex
  exfs : ∀ b ∈ X.ex, b ∉ X.fs
  funs : X.s₀.heap.FunFrames X.base X.outer
  frf : ∀ b ∈ X.fs, X.H₀ b = none
structure Inv (X : Cx) (pins : List (Addr × Obj)) (σ : List (Option V)) (H : Hp) (s : Shared) : Prop where
  ok : X.Ok
  os : s.os = X.s₀.os
  bare : AllBare s.gens
  base : Un X.fs X.ex X.H₀ H X.s₀.heap s.heap
  loc : ∃ m, s.heap.Ns X.env.locals m ∧ ∀ (i : Nat) (x : Str) (v : V), X.N[i]? = some x → σ[i]? = some (some v) → Vis X.env.scope x → ∃ u, RelV v u ∧ Look X.env s.heap m x u
  cell : ∀ x c, X.env.cells.lookup x = some c → ∃ v, s.heap.IsCell c v
  free : H X.env.locals = none
  freeC : ∀ x c, X.env.cells.lookup x = some c → H c = none
  pin : ∀ p ∈ X.pn ++ pins, s.heap.get? p.1 = some p.2 ∧ H p.1 = none ∧ p.1 ≠ X.env.locals ∧ p.1 ∉ X.fs ∧ ∀ v, p.2.data ≠ .cell v
  hok : HOk X.prog X.w H s.heap
  len : σ.length = X.N.length
section
variable {X : Cx} {pins : List (Addr × Obj)} {σ : List (Option V)} {H H' : Hp} {s : Shared} {h' : Heap}
theorem Cx.Ok.nofr (ok : X.Ok) {b : Addr} {o : Obj} (e : X.base.get? b = some o) : b ∉ X.fs := fun hb => by
  have := (ok.funs.mem hb).1
  rw [e] at this; cases this
theorem Inv.bs (I : Inv X pins σ H s) : ∀ b o, X.base.get? b = some o → s.heap.get? b = some o ∧ H b = none := fun b o e =>
  ⟨I.base.keep b o (I.ok.bs b o e).1 (I.ok.bs b o e).2 (I.ok.nofr e) (I.ok.noex b o e), I.base.free b o (I.ok.bs b o e).1 (I.ok.bs b o e).2 (I.ok.noex b o e)⟩
theorem Inv.bk (I : Inv X pins σ H s) : ∀ b o, X.base.get? b = some o → s.heap.get? b = some o := fun b o e => (I.bs b o e).1
theorem Inv.mod (I : Inv X pins σ H s) : Mod X.K X.mg X.base := I.ok.mod
theorem Inv.kIn (I : Inv X pins σ H s) : X.K.In s.heap := I.ok.mod.kin.keeps I.bk
theorem Inv.nolimit (I : Inv X pins σ H s) : s.heap.NoLimit := I.ok.mod.nolimit.keeps I.bk
theorem Inv.lt (I : Inv X pins σ H s) : X.env.locals < s.heap.objs.size := let ⟨_, hn, _⟩ := I.loc; hn.lt
theorem Inv.sz (I : Inv X pins σ H s) : X.s₀.heap.objs.size ≤ s.heap.objs.size := Nat.le_trans I.ok.above (Nat.le_of_lt I.lt)
theorem Inv.nofs (I : Inv X pins σ H s) {a : Addr} (h : s.heap.objs.size ≤ a) : a ∉ X.fs := fun hb => by
  obtain ⟨_, o, ho, _⟩ := I.ok.funs.mem hb
  exact absurd (Nat.lt_of_lt_of_le (Heap.lt_size ho) (Nat.le_trans I.sz h)) (Nat.lt_irrefl _)
theorem Inv.cne (I : Inv X pins σ H s) : ∀ x c, X.env.cells.lookup x = some c → c ≠ X.env.locals := fun x c e z => by
  obtain ⟨v, o, ho, hd⟩ := I.cell x c e
  obtain ⟨m, ⟨o', es, ep, ho', hd', _⟩, _⟩ := I.loc
  rw [z, ho'] at ho; cases ho; rw [hd'] at hd; cases hd
theorem Inv.funs (I : Inv X pins σ H s) : s.heap.FunFrames X.base X.outer := by
  have all : ∀ (l : List Env), (∀ b ∈ frs l, b ∈ X.fs) → X.s₀.heap.FunFrames X.base l → s.heap.FunFrames X.base l := by
    intro l
    induction l with
    | nil => intro _ _; trivial
    | cons env r ih =>
      intro hs hl
      obtain ⟨hk, ⟨L, o, hf, hn, ho, hd⟩, hr⟩ := hl
      have hL : L ∈ X.fs := hs L (by unfold frs; rw [List.filterMap_cons, hf]; exact List.mem_cons_self)
      obtain ⟨sl, e⟩ := I.base.slot L o ho (I.ok.frf L hL) hL fun z => I.ok.exfs L z hL
      exact ⟨hk, ⟨L, _, hf, hn, e, hd⟩, ih (fun b hb => hs b (by unfold frs; rw [List.filterMap_cons, hf]; exact List.mem_cons_of_mem _ hb)) hr⟩
  exact all X.outer (fun _ hb => hb) I.ok.funs
theorem Inv.stack (I : Inv X pins σ H s) : s.heap.FunFrames X.base X.stack := by
  rcases I.ok.stk with e | ⟨e, hf⟩
  · rw [e]; exact I.funs
  · rw [e]
    obtain ⟨m, hn, _⟩ := I.loc
    refine .cons (by rw [I.ok.kind]; decide) hf hn ?_ I.funs
    exact Heap.get?_none_of_le (Nat.le_trans I.ok.bsz I.ok.above)
theorem Inv.stkSub (I : Inv X pins σ H s) : ∀ b ∈ frs X.stack, b ∈ X.env.locals :: X.fs := fun b hb => by
  rcases I.ok.stk with e | ⟨e, hf⟩
  · rw [e] at hb; exact List.mem_cons_of_mem _ hb
  · rw [e] at hb
    unfold frs at hb
    rw [List.filterMap_cons, hf] at hb
    exact hb
theorem Inv.stkFree (I : Inv X pins σ H s) : ∀ b ∈ frs X.stack, H b = none := fun b hb => by
  rcases List.mem_cons.mp (I.stkSub b hb) with e | hb
  · rw [e]; exact I.free
  · obtain ⟨_, o, ho, _⟩ := I.ok.funs.mem hb
    exact I.base.free b o ho (I.ok.frf b hb) fun z => I.ok.exfs b z hb
theorem Inv.step {g' : Array GenState} {t' : Nat} {d' : Drawn} {ch : List Addr} (I : Inv X pins σ H s)
    (hch : ∀ b ∈ ch, (b ∈ X.ex ∨ X.s₀.heap.objs.size ≤ b) ∧ b ≠ X.env.locals ∧ (∀ x c, X.env.cells.lookup x = some c → c ≠ b) ∧ ∀ p ∈ X.pn ++ pins, p.1 ≠ b)
    (keep : ∀ b o, b ≠ X.env.locals → b ∉ X.fs → b ∉ ch → s.heap.get? b = some o → H b = none → h'.get? b = some o)
    (slot : ∀ b o, b ≠ X.env.locals → b ∈ X.fs → b ∉ ch → s.heap.get? b = some o → H b = none → ∃ sl, h'.get? b = some { o with slots := sl }) (free : ∀ b o, b ∉ ch → s.heap.get? b = some o → H b = none → H' b = none)
    (there : ∀ b o, b ∉ ch → s.heap.get? b = some o → ∃ o', h'.get? b = some o')
    (tups : ∀ b xs, H b = some (.tup xs) → H' b = some (.tup xs)) (frzs : ∀ b o u, H b = some (.frz o u) → H' b = some (.frz o u)) (tbls : ∀ b ps, H b = some (.tbl ps) → ∃ more, H' b = some (.tbl (ps ++ more)))
    (ns : ∀ m, s.heap.Ns X.env.locals m → h'.Ns X.env.locals m) (hok : HOk X.prog X.w H' h') (hg : AllBare g') :
    Inv X pins σ H' { s with heap := h', gens := g', drawn := d', toks := t' } := by
  have neL : ∀ b o, X.s₀.heap.get? b = some o → b ≠ X.env.locals := fun b o e => Nat.ne_of_lt (Nat.lt_of_lt_of_le (Heap.lt_size e) I.ok.above)
  have neC : ∀ b o, X.s₀.heap.get? b = some o → b ∉ X.ex → b ∉ ch := fun b o e hx hb => by
    rcases (hch b hb).1 with z | z
    · exact hx z
    · exact absurd (Nat.lt_of_lt_of_le (Heap.lt_size e) z) (Nat.lt_irrefl _)
  have cellK : ∀ x c, X.env.cells.lookup x = some c → ∀ v, s.heap.IsCell c v → h'.IsCell c v := fun x c e v ⟨o, ho, hd⟩ => by
    have nch : c ∉ ch := fun z => (hch c z).2.2.1 x c e rfl
    by_cases hc : c ∈ X.fs
    · obtain ⟨sl, q⟩ := slot c o (I.cne x c e) hc nch ho (I.freeC x c e)
      exact ⟨_, q, hd⟩
    · exact ⟨o, keep c o (I.cne x c e) hc nch ho (I.freeC x c e), hd⟩
  refine ⟨I.ok, I.os, hg, ⟨fun b o e n hb hx => ?_, fun b o e n hb hx => ?_, fun b o e n hx => ?_, fun b o e hx => ?_, fun b xs e => tups b xs (I.base.tups b xs e), fun b o xs e => frzs b o xs (I.base.frzs b o xs e), fun b ps e => ?_⟩, ?_, fun x c e => ?_, ?_, fun x c e => ?_, fun p hp => ?_, hok, I.len⟩
  · exact keep b o (neL b o e) hb (neC b o e hx) (I.base.keep b o e n hb hx) (I.base.free b o e n hx)
  · obtain ⟨sl, e1⟩ := I.base.slot b o e n hb hx
    obtain ⟨sl', e2⟩ := slot b _ (neL b o e) hb (neC b o e hx) e1 (I.base.free b o e n hx)
    exact ⟨sl', e2⟩
  · obtain ⟨o', e1⟩ := I.base.there b o e hx
    exact free b o' (neC b o e hx) e1 (I.base.free b o e n hx)
  · obtain ⟨o', e1⟩ := I.base.there b o e hx
    exact there b o' (neC b o e hx) e1
  · obtain ⟨m1, e1⟩ := I.base.tbls b ps e
    obtain ⟨m2, e2⟩ := tbls b _ e1
    exact ⟨m1 ++ m2, by rw [e2, Array.append_assoc]⟩
  · obtain ⟨m, hn, hl⟩ := I.loc
    refine ⟨m, ns m hn, fun i x v e1 e2 e3 => ?_⟩
    obtain ⟨u, r, l⟩ := hl i x v e1 e2 e3
    refine ⟨u, r, ?_⟩
    rcases l with l | ⟨k, c, e, z⟩
    · exact .inl l
    · exact .inr ⟨k, c, e, cellK x c e _ z⟩
  · obtain ⟨v, z⟩ := I.cell x c e
    exact ⟨v, cellK x c e v z⟩
  · obtain ⟨m, ⟨o, _, _, ho, _⟩, _⟩ := I.loc
    exact free _ o (fun z => (hch _ z).2.1 rfl) ho I.free
  · obtain ⟨v, o, ho, hd⟩ := I.cell x c e
    exact free c o (fun z => (hch c z).2.2.1 x c e rfl) ho (I.freeC x c e)
  · obtain ⟨e, n, ne, nf, d⟩ := I.pin p hp
    have nch : p.1 ∉ ch := fun z => (hch p.1 z).2.2.2 p hp rfl
    exact ⟨keep p.1 p.2 ne nf nch e n, free p.1 p.2 nch e n, ne, nf, d⟩
theorem Inv.un {t' : Nat} (I : Inv X pins σ H s) (u : Un X.fs [] H H' s.heap h') (hok : HOk X.prog X.w H' h') : Inv X pins σ H' { s with heap := h', toks := t' } := by
  obtain ⟨m, ⟨o, es, ep, ho, r⟩, _⟩ := id I.loc
  obtain ⟨sl, hL⟩ := u.any ho I.free (by simp)
  exact I.step (g' := s.gens) (d' := s.drawn) (ch := []) (fun _ z => nomatch z) (fun b o _ hb _ e n => u.keep b o e n hb (by simp)) (fun b o _ hb _ e n => u.slot b o e n hb (by simp)) (fun b o _ e n => u.free b o e n (by simp)) (fun b o _ e => u.there b o e (by simp)) u.tups u.frzs u.tbls (fun m' hm => by
    obtain ⟨o', es', ep', ho', r'⟩ := hm
    rw [ho] at ho'; cases ho'
    exact ⟨_, es', ep', hL, r'⟩) hok I.bare
theorem Inv.call {g' : Array GenState} {t' : Nat} {d' : Drawn} {ch : List Addr} (I : Inv X pins σ H s) (u : Un (frs X.stack) ch H H' s.heap h') (hok : HOk X.prog X.w H' h') (hg : AllBare g')
    (hch : ∀ b ∈ ch, (b ∈ X.ex ∨ X.s₀.heap.objs.size ≤ b) ∧ b ≠ X.env.locals ∧ (∀ x c, X.env.cells.lookup x = some c → c ≠ b) ∧ ∀ p ∈ X.pn ++ pins, p.1 ≠ b) :
    Inv X pins σ H' { s with heap := h', gens := g', drawn := d', toks := t' } := by
  obtain ⟨m, ⟨o, es, ep, ho, r⟩, _⟩ := id I.loc
  obtain ⟨sl, hL⟩ := u.any ho I.free fun z => (hch _ z).2.1 rfl
  exact I.step (ch := ch) hch (fun b o hL hb hc e n => u.keep b o e n (fun z => (List.mem_cons.mp (I.stkSub b z)).elim hL hb) hc) (fun b o _ _ hc e n => u.any e n hc) (fun b o hc e n => u.free b o e n hc) (fun b o hc e => u.there b o e hc) u.tups u.frzs u.tbls (fun m' hm => by
    obtain ⟨o', es', ep', ho', r'⟩ := hm
    rw [ho] at ho'; cases ho'
    exact ⟨_, es', ep', hL, r'⟩) hok hg
theorem Inv.turned {t' : Nat} {it : Addr} (I : Inv X pins σ H s) (k : ∀ b o, b ≠ it → s.heap.get? b = some o → h'.get? b = some o) (hn : H it = none) (hL : it ≠ X.env.locals)
    (h1 : it ∈ X.ex ∨ X.s₀.heap.objs.size ≤ it) (h2 : ∀ x c, X.env.cells.lookup x = some c → c ≠ it) (h3 : ∀ p ∈ X.pn ++ pins, p.1 ≠ it) : Inv X pins σ H { s with heap := h', toks := t' } := by
  have nit : ∀ b u, H b = some u → b ≠ it := fun b u e z => by rw [z, hn] at e; cases e
  refine I.step (g' := s.gens) (d' := s.drawn) (ch := [it]) (fun b hb => ?_) (fun b o _ _ hc e _ => k b o (fun z => hc (by simp [z])) e) (fun b o _ _ hc e _ => ⟨o.slots, k b o (fun z => hc (by simp [z])) e⟩) (fun _ _ _ _ n => n)
    (fun b o hc e => ⟨o, k b o (fun z => hc (by simp [z])) e⟩) (fun _ _ e => e) (fun _ _ _ e => e) (fun b ps e => ⟨#[], by rw [e]; simp⟩) (fun m hm => ?_) (fun b u e => ?_) I.bare
  · have e : b = it := by simpa using hb
    subst e
    exact ⟨h1, hL, h2, h3⟩
  · obtain ⟨o, es, ep, ho, r⟩ := hm
    exact ⟨o, es, ep, k _ o (Ne.symm hL) ho, r⟩
  · refine (I.hok b u e).stay (fun c v hc q => k c v ?_ q) (fun _ q => q) fun _ _ q => q
    rcases hc with z | z
    · rw [z]; exact nit b u e
    · exact nit c _ z
theorem Inv.tok (I : Inv X pins σ H s) (t : Nat) : Inv X pins σ H { s with toks := t } := I.un (h' := s.heap) (t' := t) Un.refl I.hok
theorem Inv.kept {t' : Nat} (I : Inv X pins σ H s) (k : ∀ b u, s.heap.get? b = some u → h'.get? b = some u) : Inv X pins σ H { s with heap := h', toks := t' } := I.un (Un.kept k) (I.hok.kept k)
theorem Inv.laid {a : Addr} {o : HO} {t' : Nat} (I : Inv X pins σ H s) (k : ∀ b u, s.heap.get? b = some u → h'.get? b = some u) (hp : s.heap.objs.size ≤ a) (new : ObjOk X.prog X.w (upd H a o) h' a o) :
    Inv X pins σ (upd H a o) { s with heap := h', toks := t' } := I.un (Un.laid k hp (I.hok.fresh hp)) (I.hok.laid k hp new)
theorem Inv.write {x e : Addr} {o : HO} {t' : Nat} (I : Inv X pins σ H s) (mu : Mut (H x)) (he : e = x ∨ H e = some (.own x)) (k : ∀ b u, b ≠ e → s.heap.get? b = some u → h'.get? b = some u) (heo : ∃ u, h'.get? e = some u)
    (new : ObjOk X.prog X.w (upd H x o) h' x o) : Inv X pins σ (upd H x o) { s with heap := h', toks := t' } := I.un (Un.write mu he k heo) (I.hok.write mu he k heo new)
theorem Inv.pins_of {pins' : List (Addr × Obj)} (I : Inv X pins σ H s) (h : ∀ p ∈ pins', s.heap.get? p.1 = some p.2 ∧ H p.1 = none ∧ p.1 ≠ X.env.locals ∧ p.1 ∉ X.fs ∧ ∀ v, p.2.data ≠ .cell v) : Inv X pins' σ H s :=
  ⟨I.ok, I.os, I.bare, I.base, I.loc, I.cell, I.free, I.freeC, fun p hp => (List.mem_append.mp hp).elim (fun z => I.pin p (List.mem_append_left _ z)) (h p), I.hok, I.len⟩
theorem nodup_ix {N : List Str} (hN : N.Nodup) {i j : Nat} {x : Str} (a : N[i]? = some x) (b : N[j]? = some x) : i = j := by
  obtain ⟨h1, e1⟩ := List.getElem?_eq_some_iff.mp a
  obtain ⟨h2, e2⟩ := List.getElem?_eq_some_iff.mp b
  exact (List.getElem_inj hN).mp (e1.trans e2.symm)
theorem store_ok2 {M : Model} {A : Around} {E : Value → Shared → Prop} {i : Nat} {x : Str} {v : V} {u : Value} {Q : Unit → Shared → Prop} (I : Inv X pins σ H s) (hN : X.N.Nodup) (hi : X.N[i]? = some x) (hx : Loc X.env.scope x) (r : RelV v u)
    (h : ∀ s', Inv X pins (σ.set i (some v)) H s' → (∃ a, Heap.SameBut a s.heap s'.heap ∧ (a = X.env.locals ∨ X.env.cells.lookup x = some a)) → Q () s') (hf : X.fn x = true ∨ X.env.scope.names.lookup x = some .local := by first | exact .inl rfl | exact .inr rfl | assumption) : wpAny M A (storeName X.env x u) Q E s := by
  obtain ⟨m, hn, hl⟩ := id I.loc
  have hcls : (X.env.scope.kind == .class || (X.env.scope.kind == .module && X.env.locals != X.env.globals)) = false := by rw [I.ok.kind]; rfl
  have hiσ : i < σ.length := by rw [I.len]; exact (List.getElem?_eq_some_iff.mp hi).1
  have cne := I.cne
  have tracked : ∀ {a : Addr} {h' : Heap}, (∃ o, s.heap.get? a = some o ∧ H a = none) → Heap.SameBut a s.heap h' → HOk X.prog X.w H h' := fun {a h'} ha hs b ob e => by
    obtain ⟨_, _, hfree⟩ := ha
    refine (I.hok b ob e).stay (fun c w' hc q => (hs.2 c ?_).trans q) (fun _ q => q) fun _ _ q => q
    rintro rfl
    rcases hc with rfl | hc
    · rw [hfree] at e; cases e
    · rw [hfree] at hc; cases hc
  rcases hx with hk | hk
  · refine wpAny_storeName_local hk hn (fun h' hn' hs => ?_) hcls
    obtain ⟨oL, _, _, hoL, _⟩ := id hn
    refine h _ ⟨I.ok, I.os, I.bare, ⟨fun b o e n hb hx => ?_, fun b o e n hb hx => ?_, I.base.free, fun b o e hx => ?_, I.base.tups, I.base.frzs, I.base.tbls⟩, ⟨_, hn', fun j y v' e1 e2 e3 => ?_⟩, fun y c e => ?_, I.free, I.freeC, fun p hp => ?_, tracked ⟨oL, hoL, I.free⟩ hs, by simpa using I.len⟩ ⟨_, hs, .inl rfl⟩
    · exact (hs.2 b (Nat.ne_of_lt (Nat.lt_of_lt_of_le (Heap.lt_size e) I.ok.above))).trans (I.base.keep b o e n hb hx)
    · obtain ⟨sl, e1⟩ := I.base.slot b o e n hb hx
      exact ⟨sl, (hs.2 b (Nat.ne_of_lt (Nat.lt_of_lt_of_le (Heap.lt_size e) I.ok.above))).trans e1⟩
    · obtain ⟨o', e1⟩ := I.base.there b o e hx
      exact ⟨o', (hs.2 b (Nat.ne_of_lt (Nat.lt_of_lt_of_le (Heap.lt_size e) I.ok.above))).trans e1⟩
    · by_cases hj : j = i
      · subst hj
        rw [hi] at e1; cases e1
        rw [List.getElem?_set_self hiσ] at e2
        cases e2
        exact ⟨u, r, .inl ⟨hk, by simp⟩⟩
      · rw [List.getElem?_set_ne (Ne.symm hj)] at e2
        obtain ⟨u', r', q⟩ := hl j y v' e1 e2 e3
        refine ⟨u', r', ?_⟩
        rcases q with ⟨k, e⟩ | ⟨k, c, e, z⟩
        · refine .inl ⟨k, ?_⟩
          have : y ≠ x := fun e => hj (nodup_ix hN e1 (e ▸ hi))
          simp [this, e]
        · exact .inr ⟨k, c, e, z.sameBut hs (cne y c e)⟩
    · obtain ⟨w', z⟩ := I.cell y c e
      exact ⟨w', z.sameBut hs (cne y c e)⟩
    · obtain ⟨e, n, ne, nf, d⟩ := I.pin p hp
      exact ⟨(hs.2 p.1 ne).trans e, n, ne, nf, d⟩
  · have hfn : X.fn x = true := by
      rcases hf with z | z
      · exact z
      · rw [z] at hk; cases hk
    obtain ⟨c, hc⟩ := I.ok.has x (.inl hk)
    obtain ⟨w', z⟩ := I.cell x c hc
    refine wpAny_storeName_cell I.ok.kind hk hc z (fun h' hc' hs => ?_)
    obtain ⟨oc, hoc, hocd⟩ := id z
    refine h { s with heap := h' } ⟨I.ok, I.os, I.bare, ⟨fun b o e n hb hx => ?_, fun b o e n hb hx => ?_, I.base.free, fun b o e hx => ?_, I.base.tups, I.base.frzs, I.base.tbls⟩, ⟨m, hn.sameBut hs (Ne.symm (cne x c hc)), fun j y v' e1 e2 e3 => ?_⟩, fun y c' e => ?_, I.free, I.freeC, fun p hp => ?_, tracked ⟨oc, hoc, I.freeC x c hc⟩ hs, by simpa using I.len⟩ ⟨c, hs, .inr hc⟩
    · exact (hs.2 b (Nat.ne_of_lt (Nat.lt_of_lt_of_le (Heap.lt_size e) (I.ok.cab x c hfn hc)))).trans (I.base.keep b o e n hb hx)
    · obtain ⟨sl, e1⟩ := I.base.slot b o e n hb hx
      exact ⟨sl, (hs.2 b (Nat.ne_of_lt (Nat.lt_of_lt_of_le (Heap.lt_size e) (I.ok.cab x c hfn hc)))).trans e1⟩
    · obtain ⟨o', e1⟩ := I.base.there b o e hx
      exact ⟨o', (hs.2 b (Nat.ne_of_lt (Nat.lt_of_lt_of_le (Heap.lt_size e) (I.ok.cab x c hfn hc)))).trans e1⟩
    · by_cases hj : j = i
      · subst hj
        rw [hi] at e1; cases e1
        rw [List.getElem?_set_self hiσ] at e2
        cases e2
        exact ⟨u, r, .inr ⟨.inl hk, c, hc, hc'⟩⟩
      · rw [List.getElem?_set_ne (Ne.symm hj)] at e2
        obtain ⟨u', r', q⟩ := hl j y v' e1 e2 e3
        refine ⟨u', r', ?_⟩
        rcases q with q | ⟨k, c', e, z'⟩
        · exact .inl q
        · refine .inr ⟨k, c', e, z'.sameBut hs ?_⟩
          rintro rfl
          exact hj (nodup_ix hN e1 (I.ok.inj _ _ _ e hc ▸ hi))
    · by_cases hcc : c' = c
      · subst hcc; exact ⟨_, hc'⟩
      · obtain ⟨w2, z2⟩ := I.cell y c' e
        exact ⟨w2, z2.sameBut hs hcc⟩
    · obtain ⟨e, n, ne, nf, d⟩ := I.pin p hp
      refine ⟨(hs.2 p.1 ?_).trans e, n, ne, nf, d⟩
      intro q
      rw [q, hoc] at e
      have q' : oc = p.2 := Option.some.inj e
      exact d w' (by rw [← q']; exact hocd)
theorem store_ok {M : Model} {A : Around} {E : Value → Shared → Prop} {i : Nat} {x : Str} {v : V} {u : Value} {Q : Unit → Shared → Prop} (I : Inv X pins σ H s) (hN : X.N.Nodup) (hi : X.N[i]? = some x) (hx : Loc X.env.scope x) (r : RelV v u)
    (h : ∀ s', Inv X pins (σ.set i (some v)) H s' → Q () s') (hf : X.fn x = true ∨ X.env.scope.names.lookup x = some .local := by first | exact .inl rfl | exact .inr rfl | assumption) : wpAny M A (storeName X.env x u) Q E s :=
  store_ok2 I hN hi hx r (fun s' I' _ => h s' I') hf
theorem Inv.call' {s' : Shared} {ch : List Addr} (I : Inv X pins σ H s) (ho : s'.os = s.os) (u : Un (frs X.stack) ch H H' s.heap s'.heap) (hok : HOk X.prog X.w H' s'.heap) (hg : AllBare s'.gens)
    (hch : ∀ b ∈ ch, (b ∈ X.ex ∨ X.s₀.heap.objs.size ≤ b) ∧ b ≠ X.env.locals ∧ (∀ x c, X.env.cells.lookup x = some c → c ≠ b) ∧ ∀ p ∈ X.pn ++ pins, p.1 ≠ b) : Inv X pins σ H' s' := by
  obtain ⟨h', g', d', t', o'⟩ := s'
  have e : o' = s.os := ho
  subst e
  exact I.call (g' := g') (t' := t') (d' := d') u hok hg hch
end
abbrev XK := Value → Option Addr → Hp → Prop
abbrev St := List (Option V)
abbrev VK := V → Hp → Prop
abbrev TE := St → Hp → VK → Prop
abbrev TT := St → Hp → (Bool → Hp → Prop) → Prop
abbrev TA := St → Hp → (List V → Hp → Prop) → Prop
structure Ends where
  nx : St → Hp → Prop
  rt : VK
  bk : St → Hp → Prop := fun _ _ => False
  ct : St → Hp → Prop := fun _ _ => False
abbrev TS := Ends → St → Hp → Prop
def EP (X : Cx) (pins : List (Addr × Obj)) (σ : St) (Q : VK) (u : Value) (s' : Shared) : Prop := ∃ v H', Inv X pins σ H' s' ∧ RelV v u ∧ Q v H'
def TP (X : Cx) (pins : List (Addr × Obj)) (σ : St) (Q : Bool → Hp → Prop) (b : Bool) (s' : Shared) : Prop := ∃ H', Inv X pins σ H' s' ∧ Q b H'
def AP (X : Cx) (pins : List (Addr × Obj)) (σ : St) (Q : List V → Hp → Prop) (us : List Value) (s' : Shared) : Prop := ∃ vs H', Inv X pins σ H' s' ∧ Vals vs us ∧ Q vs H'
def SP (X : Cx) (pins : List (Addr × Obj)) (D : Ends) (f : Flow) (s' : Shared) : Prop :=
  match f with
  | .next => ∃ σ' H', Inv X pins σ' H' s' ∧ D.nx σ' H'
  | .brk => ∃ σ' H', Inv X pins σ' H' s' ∧ D.bk σ' H'
  | .cont => ∃ σ' H', Inv X pins σ' H' s' ∧ D.ct σ' H'
  | .ret u => ∃ v σ' H', Inv X pins σ' H' s' ∧ RelV v u ∧ D.rt v H'
def PE (X : Cx) (e : Expr) (t : TE) : Prop :=
  ∀ (pins : List (Addr × Obj)) (s : Shared) (σ : St) (H : Hp) (Q : VK), Inv X pins σ H s → t σ H Q → wpAny (model X.prog X.w) X.A (eval e X.env) (EP X pins σ Q) X.xe s
def PT (X : Cx) (e : Expr) (t : TT) : Prop :=
  ∀ (pins : List (Addr × Obj)) (s : Shared) (σ : St) (H : Hp) (Q : Bool → Hp → Prop), Inv X pins σ H s → t σ H Q → wpAny (model X.prog X.w) X.A (isTrue e X.env (eval e X.env)) (TP X pins σ Q) X.xe s
def PW (X : Cx) (e : Expr) (t : TT) : Prop :=
  ∀ (whole : Sem Value) (pins : List (Addr × Obj)) (s : Shared) (σ : St) (H : Hp) (Q : Bool → Hp → Prop), Inv X pins σ H s → t σ H Q → wpAny (model X.prog X.w) X.A (isTrue e X.env whole) (TP X pins σ Q) X.xe s
theorem PW.pt {X : Cx} {e : Expr} {t : TT} (h : PW X e t) : PT X e t := h _
def PA (X : Cx) (es : List Expr) (t : TA) : Prop :=
  ∀ (pos : Pos) (pins : List (Addr × Obj)) (s : Shared) (σ : St) (H : Hp) (Q : List V → Hp → Prop), Inv X pins σ H s → t σ H Q → wpAny (model X.prog X.w) X.A (spliced (backTo pos (starEach es X.env))) (AP X pins σ Q) X.xe s
def PS (X : Cx) (st : Stmt) (t : TS) : Prop :=
  ∀ (pins : List (Addr × Obj)) (s : Shared) (σ : St) (H : Hp) (D : Ends), Inv X pins σ H s → t D σ H → wpAny (model X.prog X.w) X.A (exec st X.env) (SP X pins D) X.xe s
def PSs (X : Cx) (st : List Stmt) (t : TS) : Prop :=
  ∀ (pins : List (Addr × Obj)) (s : Shared) (σ : St) (H : Hp) (D : Ends), Inv X pins σ H s → t D σ H → wpAny (model X.prog X.w) X.A (execs st X.env) (SP X pins D) X.xe s
theorem thn {α : Type} {t : Sem α} {Q Q' : α → Shared → Prop} {M : Model} {A : Around} {E : Value → Shared → Prop} {s : Shared} (h : wpAny M A t Q E s) (hQ : ∀ a s, Q a s → Q' a s) : wpAny M A t Q' E s := wpAny_mono h hQ fun _ _ x => x
end L2
namespace L2
open PySem PySem.Spec PyProof.Rows
section
variable {X : Cx}
def tVar (i : Nat) : TE := fun σ H Q => ∃ v, σ[i]? = some (some v) ∧ Q v H
def tC (v : V) : TE := fun _ H Q => Q v H
theorem pe_var {i : Nat} {x : Str} {pos : Pos} (hN : X.N[i]? = some x) (hv : Vis X.env.scope x) (hd : (x == ("__debug__" : Str)) = false := by decide) (hcd : (x == ("__classdict__" : Str)) = false := by decide) : PE X (.Name x pos) (tVar i) := by
  intro pins s σ H Q I h
  obtain ⟨v, e, h⟩ := h
  obtain ⟨m, hn, hl⟩ := I.loc
  obtain ⟨u, r, l⟩ := hl i x v hN e hv
  have fin : EP X pins σ Q u s := ⟨v, H, I, r, h⟩
  rcases l with ⟨hk, hm⟩ | ⟨hk, c, hc, hcell⟩
  · exact wpAny_Name (wpAny_loadName_local I.ok.kind hk hn hm fin) hd
  · rcases hk with hk | hk
    · exact wpAny_Name (wpAny_loadName_cell I.ok.kind hk hc hcell fin) hd
    · exact wpAny_Name (wpAny_loadName_free I.ok.kind hk hc hcell fin hcd) hd
theorem pe_int {i j pos} : PE X (.Constant (.int i) j pos) (tC (.int i)) := fun _ _ _ H _ I h => wpAny_Constant_int ⟨.int i, H, I.tok _, ⟨_, rfl⟩, h⟩
theorem pe_bl {b j pos} : PE X (.Constant (.bool b) j pos) (tC (.bl b)) := fun _ _ _ H _ I h => Constant_bool ⟨.bl b, H, I, rfl, h⟩
theorem pe_non {j pos} : PE X (.Constant .none j pos) (tC .non) := fun _ _ _ H _ I h => Constant_none ⟨.non, H, I, rfl, h⟩
theorem pe_str {x j pos} : PE X (.Constant (.str x) j pos) (tC (.str x)) := fun _ _ _ H _ I h => Calls.Constant_str ⟨.str x, H, I.tok _, ⟨_, rfl⟩, h⟩
def Gl (X : Cx) (x : Str) : Prop := X.env.kindOf x = some .globalImplicit
theorem ld_glob {E : Value → Shared → Prop} {pins : List (Addr × Obj)} {s : Shared} {σ : St} {H : Hp} {x : Str} {u : Value} {pos : Pos} {Q : Value → Shared → Prop} (I : Inv X pins σ H s) (hg : Gl X x) (hm : X.mg x = some u) (h : Q u s)
    (hd : (x == ("__debug__" : Str)) = false := by decide) : wpAny (model X.prog X.w) X.A (eval (.Name x pos) X.env) Q E s :=
  Calls.Name_function_global I.ok.kind hg (Calls.loadGlobal_global (by rw [I.ok.glob]; exact I.mod.glob.keeps I.bk) hm h) hd
theorem ld_blt {E : Value → Shared → Prop} {pins : List (Addr × Obj)} {s : Shared} {σ : St} {H : Hp} {x : Str} {u : Value} {pos : Pos} {Q : Value → Shared → Prop} (I : Inv X pins σ H s) (hg : Gl X x) (hm : X.mg x = none) (hv : bootBuiltins x = some u) (h : Q u s)
    (hn : x ≠ "__name__" := by decide) (hd : (x == ("__debug__" : Str)) = false := by decide) : wpAny (model X.prog X.w) X.A (eval (.Name x pos) X.env) Q E s := by
  obtain ⟨mb, h1, h2⟩ := I.mod.blt
  exact Calls.Name_function_global I.ok.kind hg (Calls.loadGlobal_builtin (by rw [I.ok.glob]; exact I.mod.glob.keeps I.bk) hm (by rw [I.ok.blt]; exact h1.keeps I.bk) ((h2 x hn).trans hv) h) hd
theorem pe_glob {x : Str} {v : V} {u : Value} {pos : Pos} (hg : Gl X x) (hm : X.mg x = some u) (r : RelV v u) (hd : (x == ("__debug__" : Str)) = false := by decide) : PE X (.Name x pos) (tC v) :=
  fun _ _ _ H _ I h => ld_glob I hg hm ⟨v, H, I, r, h⟩ hd
theorem pe_bltn {x : Str} {v : V} {u : Value} {pos : Pos} (hg : Gl X x) (hm : X.mg x = none) (hv : bootBuiltins x = some u) (r : RelV v u) (hn : x ≠ "__name__" := by decide) (hd : (x == ("__debug__" : Str)) = false := by decide) : PE X (.Name x pos) (tC v) :=
  fun _ _ _ H _ I h => ld_blt I hg hm hv ⟨v, H, I, r, h⟩ hn hd
variable {a b : Expr} {ta tb : TE} {pos : Pos}
def PC (X : Cx) (op : CmpOp) (a b : Expr) (t : TE) : Prop :=
  ∀ (pins : List (Addr × Obj)) (s : Shared) (σ : St) (H : Hp) (Q : VK), Inv X pins σ H s → t σ H Q →
    wpAny (model X.prog X.w) X.A (eval a X.env) (fun v s₁ => wpAny (model X.prog X.w) X.A (eval b X.env) (fun u s₂ => wpAny (model X.prog X.w) X.A (compareOp op v u) (EP X pins σ Q) X.xe s₂) X.xe s₁) X.xe s
theorem nobehind (b : Expr) {op : CmpOp} (h : op ≠ .In) (h2 : op ≠ .NotIn) : behindInMarks op b = false := by
  have e1 : (op == CmpOp.In) = false := by cases op <;> first | rfl | exact absurd rfl h
  have e2 : (op == CmpOp.NotIn) = false := by cases op <;> first | rfl | exact absurd rfl h2
  cases b <;> simp [behindInMarks, e1, e2]
def tIsN (ta : TE) : TE := fun σ H Q => ta σ H fun x H1 => Q (.bl (decide (x = .non))) H1
def tNotN (ta : TE) : TE := fun σ H Q => ta σ H fun x H1 => Q (.bl (!decide (x = .non))) H1
theorem RelV.none_iff {x : V} {v : Value} (r : RelV x v) : (v == Value.none) = decide (x = .non) := by
  cases x with
  | non => cases r; rfl
  | bl _ => cases r; rfl
  | int _ => obtain ⟨t, rfl⟩ := r; rfl
  | str _ => obtain ⟨t, rfl⟩ := r; rfl
  | byt _ => obtain ⟨t, rfl⟩ := r; rfl
  | flt _ => obtain ⟨t, rfl⟩ := r; rfl
  | ref _ => cases r; rfl
  | ty _ => cases r; rfl
theorem pc_isN {j pos'} (ha : PE X a ta) : PC X .Is a (.Constant .none j pos') (tIsN ta) := by
  intro pins s σ H Q I h
  refine thn (ha pins s σ H _ I h) fun v s1 ⟨x, H1, I1, r1, q1⟩ => ?_
  exact Constant_none (is_none_gen ⟨.bl _, H1, I1, by rw [r1.none_iff]; rfl, q1⟩)
theorem pc_notN {j pos'} (ha : PE X a ta) : PC X .IsNot a (.Constant .none j pos') (tNotN ta) := by
  intro pins s σ H Q I h
  refine thn (ha pins s σ H _ I h) fun v s1 ⟨x, H1, I1, r1, q1⟩ => ?_
  exact Constant_none (isnot_none_gen ⟨.bl _, H1, I1, by rw [r1.none_iff]; rfl, q1⟩)
def tB (t : TE) : TT := fun σ H Q => t σ H fun x H1 => ∃ c, x = .bl c ∧ Q c H1
theorem pt_cmp {op : CmpOp} {t : TE} (h : PC X op a b t) (h1 : behindInMarks op b = false := by first | exact nobehind _ (by decide) (by decide) | rfl) : PT X (.Compare a [op] [b] pos) (tB t) := by
  intro pins s σ H Q I hw
  refine wpAny_isTrue_Compare1 (thn (h pins s σ H _ I hw) fun v s1 h1 => thn h1 fun u s2 h2 => thn h2 fun c s3 ⟨x, H1, I1, r1, q1⟩ => ?_) h1
  obtain ⟨d, rfl, q⟩ := q1
  cases r1
  exact wpAny_truthy_bool ⟨H1, I1, q⟩
theorem pt_val {e : Expr} {t : TE} (h : PE X e t) (he : ∀ whole, isTrue e X.env whole = (do let v ← whole; standAt e.pos; holding [v] (truthy v)) := by intro _; rfl) : PT X e (tB t) := by
  intro pins s σ H Q I hw
  refine isTrue_plain (thn (h pins s σ H _ I hw) fun v s1 ⟨x, H1, I1, r1, q1⟩ => ?_) (he _)
  obtain ⟨d, rfl, q⟩ := q1
  cases r1
  exact wpAny_truthy_bool ⟨H1, I1, q⟩
variable {tA tB' : TT} {rest : List Expr}
def tAnd (t u : TT) : TT := fun σ H Q => t σ H fun c H1 => if c = true then u σ H1 Q else Q false H1
def tOr (t u : TT) : TT := fun σ H Q => t σ H fun c H1 => if c = true then Q true H1 else u σ H1 Q
def tNot (t : TT) : TT := fun σ H Q => t σ H fun c H1 => Q (!c) H1
theorem pw_and1 (ha : PT X a tA) : PW X (.BoolOp .And [a] pos) tA := by
  intro wh pins s σ H Q I h
  refine isTrue_and (thn (ha pins s σ H Q I h) fun c s1 e => ?_)
  cases c with
  | true => exact isTrue_and_nil e
  | false => exact e
theorem pw_or1 (ha : PT X a tA) : PW X (.BoolOp .Or [a] pos) tA := by
  intro wh pins s σ H Q I h
  refine isTrue_or (thn (ha pins s σ H Q I h) fun c s1 e => ?_)
  cases c with
  | false => exact isTrue_or_nil e
  | true => exact e
theorem pw_and (ha : PT X a tA) (hb : PW X (.BoolOp .And (b :: rest) pos) tB') : PW X (.BoolOp .And (a :: b :: rest) pos) (tAnd tA tB') := by
  intro wh pins s σ H Q I h
  refine isTrue_and (thn (ha pins s σ H _ I h) fun c s1 ⟨H1, I1, q1⟩ => ?_)
  cases c with
  | true => exact hb wh pins s1 σ H1 Q I1 q1
  | false => exact ⟨H1, I1, q1⟩
theorem pw_or (ha : PT X a tA) (hb : PW X (.BoolOp .Or (b :: rest) pos) tB') : PW X (.BoolOp .Or (a :: b :: rest) pos) (tOr tA tB') := by
  intro wh pins s σ H Q I h
  refine isTrue_or (thn (ha pins s σ H _ I h) fun c s1 ⟨H1, I1, q1⟩ => ?_)
  cases c with
  | true => exact ⟨H1, I1, q1⟩
  | false => exact hb wh pins s1 σ H1 Q I1 q1
theorem pt_not (ha : PT X a tA) : PT X (.UnaryOp .Not a pos) (tNot tA) := by
  intro pins s σ H Q I h
  exact isTrue_not (ha pins s σ H (fun c H1 => Q (!c) H1) I h)
end
end L2
namespace L2
open PySem PySem.Spec PyProof.Rows
def SqL (K : PySem.W.Frag) (H : Hp) (a : Addr) (xs : List V) : Prop :=
  Rd H a (.lst xs) ∨
    ∃ (o : Obj) (its : Array Value) (n : Nat), K.lookup a = some o ∧ o.cls = .type "list" ∧ o.dict = none ∧ o.data = .seq its n ∧ its.size ≤ sizeLine ∧ Vals xs its.toList
def SqT (K : PySem.W.Frag) (H : Hp) (a : Addr) (xs : List V) : Prop :=
  Rd H a (.tup xs) ∨
    ∃ (o : Obj) (its : Array Value) (n : Nat), K.lookup a = some o ∧ o.cls = .type "tuple" ∧ o.data = .seq its n ∧ its.size ≤ sizeLine ∧ Vals xs its.toList
def absV : Value → Option V
  | .none => some .non
  | .bool b => some (.bl b)
  | .int i _ => some (.int i)
  | .str x _ => some (.str x)
  | .bytes b _ => some (.byt b)
  | .float b _ => some (.flt b)
  | .ref a => some (.ref a)
  | .type n => some (.ty n)
  | _ => none
theorem RelV.abs {x : V} {u : Value} (r : RelV x u) : absV u = some x := by
  cases x with
  | non => cases r; rfl
  | bl _ => cases r; rfl
  | int _ => obtain ⟨t, rfl⟩ := r; rfl
  | str _ => obtain ⟨t, rfl⟩ := r; rfl
  | byt _ => obtain ⟨t, rfl⟩ := r; rfl
  | flt _ => obtain ⟨t, rfl⟩ := r; rfl
  | ref _ => cases r; rfl
  | ty _ => cases r; rfl
theorem RelV.inj {x y : V} {u : Value} (r : RelV x u) (q : RelV y u) : x = y := Option.some.inj (r.abs.symm.trans q.abs)
theorem Vals.inj : ∀ {xs ys : List V} {us : List Value}, Vals xs us → Vals ys us → xs = ys
  | _, _, _, .nil, .nil => rfl
  | _, _, _, .cons r t, .cons r' t' => by rw [r.inj r', Vals.inj t t']
section
variable {X : Cx} {pins : List (Addr × Obj)} {σ : St} {H : Hp} {s : Shared} {a : Addr} {xs ys : List V}
theorem SqL.of {K : PySem.W.Frag} (h : H a = some (.lst xs)) : SqL K H a xs := .inl (.inl h)
theorem SqT.of {K : PySem.W.Frag} (h : H a = some (.tup xs)) : SqT K H a xs := .inl (.inl h)
theorem Inv.list (I : Inv X pins σ H s) (h : SqL X.K H a xs) : ∃ its : List Value, Vals xs its ∧ PlainL s.heap a its.toArray ∧ xs.length ≤ sizeLine := by
  rcases h with h | ⟨o, its, n, hk, hc, hd, hs, hz, r⟩
  · obtain ⟨z, its, n, r, e⟩ := h.ok I.hok
    exact ⟨its, r, ⟨_, n, e, rfl, rfl, rfl⟩, z⟩
  · refine ⟨its.toList, r, ⟨o, n, I.kIn a o hk, hc, hd, by simpa using hs⟩, ?_⟩
    have e := r.length
    simp only [Array.length_toList] at e
    omega
theorem Inv.tuple (I : Inv X pins σ H s) (h : SqT X.K H a xs) : ∃ its : List Value, Vals xs its ∧ IsTup s.heap a its.toArray ∧ xs.length ≤ sizeLine := by
  rcases h with h | ⟨o, its, n, hk, hc, hs, hz, r⟩
  · obtain ⟨z, its, r, p⟩ := h.ok I.hok
    exact ⟨its, r, p, z⟩
  · refine ⟨its.toList, r, ⟨o, I.kIn a o hk, hc, n, by simpa using hs⟩, ?_⟩
    have e := r.length
    simp only [Array.length_toList] at e
    omega
theorem Inv.list_inj (I : Inv X pins σ H s) (h : SqL X.K H a xs) (h' : SqL X.K H a ys) : xs = ys := by
  obtain ⟨its, r, ⟨o, n, e, _, _, d⟩, _⟩ := I.list h
  obtain ⟨its', r', ⟨o', n', e', _, _, d'⟩, _⟩ := I.list h'
  rw [e] at e'; cases e'
  rw [d] at d'
  injection d' with d1 _
  have : its = its' := by simpa using congrArg Array.toList d1
  subst this
  exact r.inj r'
end
abbrev Cx.wish (X : Cx) (E : Value → Shared → Prop) : Cx := { X with xe := E }
abbrev Cx.nox (X : Cx) : Cx := X.wish fun _ _ => False
theorem Cx.Ok.wish {X : Cx} (ok : X.Ok) (E : Value → Shared → Prop) : (X.wish E).Ok :=
  ⟨ok.mod, ok.kind, ok.glob, ok.blt, ok.above, ok.inj, ok.has, ok.cab, ok.hd, ok.frames, ok.stk, ok.exf, ok.bs, ok.bsz, ok.noex, ok.exfs, ok.funs, ok.frf⟩
theorem Cx.Ok.unwish {X : Cx} {E : Value → Shared → Prop} (ok : (X.wish E).Ok) : X.Ok :=
  ⟨ok.mod, ok.kind, ok.glob, ok.blt, ok.above, ok.inj, ok.has, ok.cab, ok.hd, ok.frames, ok.stk, ok.exf, ok.bs, ok.bsz, ok.noex, ok.exfs, ok.funs, ok.frf⟩
section
variable {X : Cx} {pins : List (Addr × Obj)} {σ : St} {H : Hp} {s : Shared} {E : Value → Shared → Prop}
theorem Inv.wish (I : Inv X pins σ H s) (E : Value → Shared → Prop) : Inv (X.wish E) pins σ H s := ⟨I.ok.wish E, I.os, I.bare, I.base, I.loc, I.cell, I.free, I.freeC, I.pin, I.hok, I.len⟩
theorem Inv.unwish (I : Inv (X.wish E) pins σ H s) : Inv X pins σ H s := ⟨I.ok.unwish, I.os, I.bare, I.base, I.loc, I.cell, I.free, I.freeC, I.pin, I.hok, I.len⟩
theorem SP.unwish {D : Ends} {f : Flow} {s' : Shared} (h : SP (X.wish E) pins D f s') : SP X pins D f s' := by
  cases f with
  | next => obtain ⟨σ', H', I, q⟩ := h; exact ⟨σ', H', I.unwish, q⟩
  | brk => obtain ⟨σ', H', I, q⟩ := h; exact ⟨σ', H', I.unwish, q⟩
  | cont => obtain ⟨σ', H', I, q⟩ := h; exact ⟨σ', H', I.unwish, q⟩
  | ret u => obtain ⟨v, σ', H', I, r, q⟩ := h; exact ⟨v, σ', H', I.unwish, r, q⟩
theorem PSs.nox {st : List Stmt} {t : TS} (h : PSs X.nox st t) : PSs X st t := fun pins s σ H D I hw =>
  wpAny_mono (h pins s σ H D (I.wish _) hw) (fun _ _ q => q.unwish) fun _ _ z => False.elim z
end
section
variable {X : Cx} {st : Stmt} {rest : List Stmt} {t u : TS} {e : Expr} {te : TE} {pos : Pos}
def tNext : TS := fun D σ H => D.nx σ H
def tSeq (t u : TS) : TS := fun D σ H => t { D with nx := u D } σ H
theorem pss_nil : PSs X [] tNext := fun _ _ σ H _ I h => wpAny_execs_nil ⟨σ, H, I, h⟩
theorem pss_cons (h1 : PS X st t) (h2 : PSs X rest u) : PSs X (st :: rest) (tSeq t u) := by
  intro pins s σ H D I h
  refine wpAny_execs_cons (thn (h1 pins s σ H { D with nx := u D } I h) fun f s1 q => ?_)
  cases f with
  | next =>
    obtain ⟨σ', H', I', q⟩ := q
    exact h2 pins s1 σ' H' D I' q
  | ret v => exact q
  | brk => exact q
  | cont => exact q
theorem pss_one (h1 : PS X st t) : PSs X [st] t := by
  intro pins s σ H D I h
  refine wpAny_execs_cons (thn (h1 pins s σ H D I h) fun f s1 q => ?_)
  cases f with
  | next => exact wpAny_execs_nil q
  | ret v => exact q
  | brk => exact q
  | cont => exact q
theorem Inv.quiet {pins : List (Addr × Obj)} {σ : St} {H : Hp} {s : Shared} (I : Inv X pins σ H s) : interactive X.env = false := by simp [interactive, I.ok.kind]
def tDrop (te : TE) : TS := fun D σ H => te σ H fun _ H1 => D.nx σ H1
theorem ps_expr (he : PE X e te) (hs : swapsWith e none pos.line X.env = pure false := by rfl) : PS X (.Expr e pos) (tDrop te) := by
  intro pins s σ H D I h
  exact wpAny_Expr_any (thn (he pins s σ H _ I h) fun v s1 ⟨x, H1, I1, r1, q1⟩ => ⟨σ, H1, I1, q1⟩) I.quiet hs
def tRet (te : TE) : TS := fun D σ H => te σ H D.rt
theorem ps_ret (he : PE X e te) : PS X (.Return (some e) pos) (tRet te) := by
  intro pins s σ H D I h
  exact wpAny_Return_some (thn (he pins s σ H _ I h) fun v s1 ⟨x, H1, I1, r1, q1⟩ => ⟨x, σ, H1, I1, r1, q1⟩)
def tIfS (c : TT) (t u : TS) : TS := fun D σ H => c σ H fun b H1 => if b = true then t D σ H1 else u D σ H1
theorem ps_if {c : Expr} {a b : List Stmt} {tc : TT} (hc : PT X c tc) (ha : PSs X a t) (hb : PSs X b u) : PS X (.If c a b pos) (tIfS tc t u) := by
  intro pins s σ H D I h
  refine wpAny_If (thn (hc pins s σ H _ I h) fun d s1 ⟨H1, I1, q1⟩ => ?_)
  cases d with
  | true => exact ha pins s1 σ H1 D I1 q1
  | false => exact hb pins s1 σ H1 D I1 q1
end
abbrev TG := V → St → Hp → (St → Hp → Prop) → Prop
abbrev TGs := List V → St → Hp → (St → Hp → Prop) → Prop
def PG (X : Cx) (target : Expr) (t : TG) : Prop :=
  ∀ (pins : List (Addr × Obj)) (s : Shared) (σ : St) (H : Hp) (v : V) (u : Value) (Q : St → Hp → Prop), Inv X pins σ H s → RelV v u → t v σ H Q →
    wpAny (model X.prog X.w) X.A (assign target X.env u) (fun _ s' => ∃ σ' H', Inv X pins σ' H' s' ∧ Q σ' H') X.xe s
def PGs (X : Cx) (ts : List Expr) (t : TGs) : Prop :=
  ∀ (pins : List (Addr × Obj)) (s : Shared) (σ : St) (H : Hp) (vs : List V) (us : List Value) (Q : St → Hp → Prop), Inv X pins σ H s → Vals vs us → t vs σ H Q →
    wpAny (model X.prog X.w) X.A (assignInOrder ((assignEach ts X.env).map (·.2)) us) (fun _ s' => ∃ σ' H', Inv X pins σ' H' s' ∧ Q σ' H') X.xe s
abbrev TSet := V → V → V → Hp → (Hp → Prop) → Prop
def PSet (X : Cx) (t : TSet) : Prop :=
  ∀ (pins : List (Addr × Obj)) (s : Shared) (σ : St) (H : Hp) (o i v : V) (ov iv u : Value) (Q : Hp → Prop), Inv X pins σ H s → RelV o ov → RelV i iv → RelV v u → t o i v H Q →
    wpAny (model X.prog X.w) X.A (setItem ov iv u) (fun _ s' => ∃ H', Inv X pins σ H' s' ∧ Q H') X.xe s
section
variable {X : Cx} {pos : Pos}
def gName (i : Nat) : TG := fun v σ H Q => Q (σ.set i (some v)) H
theorem pg_name {i : Nat} {x : Str} (hN : X.N.Nodup) (hi : X.N[i]? = some x) (hx : Loc X.env.scope x) (hf : X.fn x = true ∨ X.env.scope.names.lookup x = some .local := by first | exact .inl rfl | exact .inr rfl | assumption) : PG X (.Name x pos) (gName i) := by
  intro pins s σ H v u Q I r h
  exact wpAny_assign_Name (store_ok I hN hi hx r (fun s' I' => ⟨_, H, I', h⟩) hf)
def gNil : TGs := fun vs σ H Q => vs = [] ∧ Q σ H
def gCons (t : TG) (u : TGs) : TGs := fun vs σ H Q => ∃ v r, vs = v :: r ∧ t v σ H fun σ' H' => u r σ' H' Q
theorem pgs_nil : PGs X [] gNil := by
  intro pins s σ H vs us Q I r h
  obtain ⟨e, h⟩ := h
  subst e
  cases r
  exact assignInOrder_nil ⟨σ, H, I, h⟩
theorem pgs_cons {e : Expr} {es : List Expr} {t : TG} {u : TGs} (h1 : PG X e t) (h2 : PGs X es u)
    (hs : (assignEach (e :: es) X.env).map (·.2) = assign e X.env :: (assignEach es X.env).map (·.2) := by rfl) : PGs X (e :: es) (gCons t u) := by
  intro pins s σ H vs us Q I r h
  obtain ⟨v, vr, e1, h⟩ := h
  subst e1
  cases r with
  | cons r rr =>
    rw [hs]
    refine assignInOrder_cons (thn (h1 pins s σ H _ _ _ I r h) fun _ s1 ⟨σ1, H1, I1, q1⟩ => ?_)
    exact h2 pins s1 σ1 H1 _ _ Q I1 rr q1
def gTup (K : PySem.W.Frag) (n : Nat) (t : TGs) : TG := fun v σ H Q => ∃ a xs, v = .ref a ∧ SqT K H a xs ∧ xs.length = n ∧ t xs σ H Q
theorem pg_tup {es : List Expr} {k : Nat} {t : TGs} {n : Nat} (hc : X.calm = true) (h : PGs X es t)
    (hn : (assignEach es X.env).length = n := by rfl) (hst : (assignEach es X.env).findIdx? (·.1) = none := by rfl) : PG X (.Tuple es k pos) (gTup X.K n t) := by
  intro pins s σ H v u Q I r hw
  obtain ⟨a, xs, e1, hq, hl, hw⟩ := hw
  subst e1
  cases r
  obtain ⟨its, rv, ht, hz⟩ := I.tuple hq
  refine assign_Tuple_tuple (I.ok.hd hc) ht (by simp [hn, ← hl, rv.length]) hst fun h' hx => ?_
  have I1 : Inv X pins σ H { s with heap := h' } := I.kept (t' := s.toks) fun b o e => hx b o (Nat.ne_of_lt (Heap.lt_size e)) e
  exact h pins _ σ H xs _ Q I1 (by simpa using rv) hw
def gSub (to ti : TE) (t : TSet) : TG := fun v σ H Q => to σ H fun o H1 => ti σ H1 fun i H2 => t o i v H2 fun H3 => Q σ H3
theorem pg_sub {o i : Expr} {to ti : TE} {t : TSet} (ho : PE X o to) (hi : PE X i ti) (hs : PSet X t)
    (ha : ∀ v, assign (.Subscript o i pos) X.env v = (do
      let ov ← holding [v] (eval o X.env)
      let iv ← holding [v, ov] (eval i X.env)
      standAt pos
      holding [v, ov, iv] (setItem ov iv v)
      release [v, ov, iv] []) := by intro _; rfl) : PG X (.Subscript o i pos) (gSub to ti t) := by
  intro pins s σ H v u Q I r h
  rw [ha]
  refine wpAny_bind (wpAny_holding (thn (ho pins s σ H _ I h) fun ov s1 ⟨x, H1, I1, r1, q1⟩ => ?_))
  refine wpAny_bind (wpAny_holding (thn (hi pins s1 σ H1 _ I1 q1) fun iv s2 ⟨y, H2, I2, r2, q2⟩ => ?_))
  refine wpAny_bind (wpAny_standAt (wpAny_bind (wpAny_holding (thn (hs pins s2 σ H2 x y v ov iv u _ I2 r1 r2 r q2) fun _ s3 ⟨H3, I3, q3⟩ => ?_))))
  exact wpAny_release ⟨σ, H3, I3, q3⟩
def tAsg (te : TE) (g : TG) : TS := fun D σ H => te σ H fun x H1 => g x σ H1 D.nx
theorem ps_asg {tg e : Expr} {te : TE} {g : TG} (he : PE X e te) (hg : PG X tg g) (hs : swapsWithSole [tg] e pos.line X.env = pure false := by rfl) (hw : swappedStores [tg] e X.env = pure none := by rfl)
    (h1 : (assignEach [tg] X.env).map (·.2) = [assign tg X.env] := by rfl) : PS X (.Assign [tg] e pos) (tAsg te g) := by
  intro pins s σ H D I h
  refine wpAny_Assign_stores (thn (he pins s σ H _ I h) fun v s1 ⟨x, H1, I1, r1, q1⟩ => ?_) hs hw
  rw [h1]
  exact thn (hg pins s1 σ H1 x v _ I1 r1 q1) fun _ s2 q => q
theorem ps_set {i : Nat} {x : Str} {e : Expr} {te : TE} {pos' : Pos} (hN : X.N.Nodup) (hi : X.N[i]? = some x) (hx : Loc X.env.scope x) (he : PE X e te) (hs : swapsWith e (some (.Name x pos')) pos.line X.env = pure false := by rfl) (hf : X.fn x = true ∨ X.env.scope.names.lookup x = some .local := by first | exact .inl rfl | exact .inr rfl | assumption) :
    PS X (.Assign [.Name x pos'] e pos) (tAsg te (gName i)) := by
  intro pins s σ H D I h
  refine wpAny_Assign_Name (thn (he pins s σ H _ I h) fun v s1 ⟨y, H1, I1, r1, q1⟩ => ?_) hs
  exact store_ok I1 hN hi hx r1 (fun s2 I2 => ⟨_, H1, I2, q1⟩) hf
end
section
variable {X : Cx} {pos : Pos}
def tWhile (c : TT) (tb : TS) : TS := fun D σ H => ∃ W : Nat → St → Hp → Prop, (∃ m, W m σ H) ∧ ∀ m σ H, W m σ H →
  c σ H fun b H1 => if b = true then ∃ N : St → Hp → Prop, (∀ σ' H', N σ' H' → ∃ m', m' < m ∧ W m' σ' H') ∧ tb { D with nx := N, ct := N, bk := D.nx } σ H1 else D.nx σ H1
theorem ps_while {c : Expr} {body : List Stmt} {tc : TT} {tb : TS} (hp : PassesOwn (model X.prog X.w) X.A X.env X.xe) (hc : PT X c tc) (hb : PSs X body tb) : PS X (.While c body [] pos) (tWhile tc tb) := by
  intro pins s σ H D I h
  obtain ⟨W, ⟨m0, w0⟩, turn⟩ := h
  refine wpAny_While (codeAny_whileLoop (fun n s' => ∃ σ' H', Inv X pins σ' H' s' ∧ W n σ' H') ?_ m0 ⟨σ, H, I, w0⟩)
  rintro n s1 ⟨σ1, H1, I1, w1⟩
  refine wpAny_passesOwn hp (thn (hc pins s1 σ1 H1 _ I1 (turn n σ1 H1 w1)) fun b s2 ⟨H2, I2, q2⟩ => ?_)
  cases b with
  | true =>
    obtain ⟨N, hN, q2⟩ := q2
    rw [if_pos rfl]
    refine wpAny_passesOwn hp (thn (hb pins s2 σ1 H2 _ I2 q2) fun f s3 q3 => ?_)
    cases f with
    | next =>
      obtain ⟨σ3, H3, I3, n3⟩ := q3
      obtain ⟨m', hm, w3⟩ := hN σ3 H3 n3
      exact ⟨m', hm, σ3, H3, I3, w3⟩
    | cont =>
      obtain ⟨σ3, H3, I3, n3⟩ := q3
      obtain ⟨m', hm, w3⟩ := hN σ3 H3 n3
      exact ⟨m', hm, σ3, H3, I3, w3⟩
    | brk => exact q3
    | ret v => exact q3
  | false =>
    rw [if_neg Bool.false_ne_true]
    exact wpAny_execs_nil ⟨σ1, H2, I2, q2⟩
end
structure It where
  go : Nat → Hp → Prop
  yld : Nat → Hp → V → Hp → Prop
  stop : Nat → Hp → Prop
def FpOk (X : Cx) (pins : List (Addr × Obj)) (H : Hp) (b : Addr) : Prop :=
  H b = none ∧ b ≠ X.env.locals ∧ b ∉ X.fs ∧ (b ∈ X.ex ∨ X.s₀.heap.objs.size ≤ b) ∧ (∀ x c, X.env.cells.lookup x = some c → c ≠ b) ∧ ∀ p ∈ X.pn ++ pins, p.1 ≠ b
theorem Inv.fpOk {X : Cx} {pins : List (Addr × Obj)} {σ : St} {H H' : Hp} {s : Shared} {b : Addr} (I : Inv X pins σ H s) (hb : s.heap.objs.size ≤ b) (hn : H' b = none) : FpOk X pins H' b := by
  refine ⟨hn, Nat.ne_of_gt (Nat.lt_of_lt_of_le I.lt hb), I.nofs hb, .inr (Nat.le_trans I.sz hb), fun x c e z => ?_, fun p hp z => ?_⟩
  · obtain ⟨v, q⟩ := I.cell x c e
    exact absurd (Nat.lt_of_lt_of_le q.lt (by rw [z]; exact hb)) (Nat.lt_irrefl _)
  · exact absurd (Nat.lt_of_lt_of_le (Heap.lt_size (I.pin p hp).1) (by rw [z]; exact hb)) (Nat.lt_irrefl _)
structure Turn (P : Program) (w : World) (K : PySem.W.Frag) (tg : Expr) (J : It) (fp : List Addr) (it : Addr) (tn : Nat → Heap → Prop) : Prop where
  mem : it ∈ fp
  obj : ∀ i h, tn i h → ∀ b ∈ fp, ∃ o, h.get? b = some o ∧ ∀ v, o.data ≠ .cell v
  keep : ∀ i h h', tn i h → (∀ b ∈ fp, ∀ o, h.get? b = some o → h'.get? b = some o) → tn i h'
  item : ∀ (X : Cx), X.prog = P → X.w = w → X.K = K → X.calm = true → ∀ (i : Nat) (pins : List (Addr × Obj)) (s : Shared) (σ : St) (H : Hp) (E : Value → Shared → Prop), Inv X pins σ H s → (∀ b ∈ fp, FpOk X pins H b) → tn i s.heap → J.go i H →
    wpAny (model P w) X.A (pyNext (.ref it)) (fun r s1 => ∃ u, r = some u ∧
      wpAny (model P w) X.A (letOwnedTupleGo tg (.ref it) u) (fun _ s2 => ∃ x H', Inv X pins σ H' s2 ∧ RelV x u ∧ J.yld i H x H' ∧ tn (i + 1) s2.heap ∧ ∀ b ∈ fp, H' b = none) E s1) E s
  done : ∀ (X : Cx), X.prog = P → X.w = w → X.K = K → X.calm = true → ∀ (i : Nat) (pins : List (Addr × Obj)) (s : Shared) (σ : St) (H : Hp) (E : Value → Shared → Prop), Inv X pins σ H s → (∀ b ∈ fp, FpOk X pins H b) → tn i s.heap → J.stop i H →
    wpAny (model P w) X.A (pyNext (.ref it)) (fun r s1 => r = none ∧ Inv X pins σ H s1) E s
  self : ∀ (A : Around) (i : Nat) (s : Shared) (Q : Value → Shared → Prop) (E : Value → Shared → Prop), tn i s.heap → Q (.ref it) s → wpAny (model P w) A (pyIter (.ref it)) Q E s
abbrev TI := St → Hp → (It → Hp → Prop) → Prop
def PIE (X : Cx) (pins : List (Addr × Obj)) (σ : St) (tg : Expr) (R : It → Hp → Prop) (itv : Value) (s2 : Shared) : Prop :=
  ∃ (it : Addr) (fp : List Addr) (tn : Nat → Heap → Prop) (J : It) (H' : Hp), itv = .ref it ∧ Inv X pins σ H' s2 ∧ Turn X.prog X.w X.K tg J fp it tn ∧ tn 0 s2.heap ∧ (∀ b ∈ fp, FpOk X pins H' b) ∧ R J H'
def PI (X : Cx) (tg iter : Expr) (wi : TI) : Prop :=
  ∀ (pins : List (Addr × Obj)) (s : Shared) (σ : St) (H : Hp) (R : It → Hp → Prop), Inv X pins σ H s → wi σ H R →
    wpAny (model X.prog X.w) X.A (eval iter X.env) (fun v s1 => wpAny (model X.prog X.w) X.A (pyIter v) (PIE X pins σ tg R) X.xe s1) X.xe s
theorem go_of {M : Model} {A : Around} {E : Value → Shared → Prop} {s : Shared} {tg : Expr} {it : Addr} {u : Value} {o : Obj} {n : String} {vs : Array Value} {Q : Unit → Shared → Prop} (ho : s.heap.get? it = some o) (hc : o.cls = .type n) (hd : o.data = .fields vs)
    (hn : ["enumerate", "zip", "dict_itemiterator", "dict_reverseitemiterator", "odict_iterator", "itertools.zip_longest", "itertools.pairwise"].contains n = false) (hQ : Q () s) : wpAny M A (letOwnedTupleGo tg (.ref it) u) Q E s := by
  unfold letOwnedTupleGo
  cases tg <;> first
    | exact wpAny_pure hQ
    | (cases u <;> first
        | exact wpAny_pure hQ
        | (refine wpAny_bind (wpAny_load ho ?_)
           rw [hc, hd]
           show wpAny M A (if (["enumerate", "zip", "dict_itemiterator", "dict_reverseitemiterator", "odict_iterator", "itertools.zip_longest", "itertools.pairwise"].contains n && vs[0]? == some (rawInt _)) = true then _ else _) Q E s
           rw [if_neg (by intro h; rw [hn, Bool.false_and] at h; cases h)]
           exact wpAny_pure hQ))
def Itl (K : PySem.W.Frag) (a : Addr) : It :=
  ⟨fun i H => ∃ xs x, SqL K H a xs ∧ xs[i]? = some x, fun i H x H' => H' = H ∧ ∀ xs, SqL K H a xs → xs[i]? = some x, fun i H => ∃ xs, SqL K H a xs ∧ xs.length ≤ i⟩
def Itr (lo : Int) (n : Nat) : It := ⟨fun i _ => i < n, fun i H x H' => H' = H ∧ x = .int (lo + i), fun i _ => n ≤ i⟩
theorem turn_list {P : Program} {w : World} {K : PySem.W.Frag} {tg : Expr} (a it : Addr) : Turn P w K tg (Itl K a) [it] it (fun i h => h.IsListIter it a i) where
  mem := by simp
  obj := fun i h st b hb => by
    have e : b = it := by simpa using hb
    subst e
    obtain ⟨o, e, c, d⟩ := st
    exact ⟨o, e, fun v z => by rw [d] at z; cases z⟩
  keep := fun i h h' st k => st.at fun o e => k it (by simp) o e
  item := by
    intro X hP hw hK hc i pins s σ H E I hf st hg
    subst hP hw hK
    obtain ⟨xs, x, hq, hx⟩ := hg
    obtain ⟨its, rv, p, hz⟩ := I.list hq
    obtain ⟨u, hu, ru⟩ := rv.get hx
    obtain ⟨f0, f1, f2, f3, f4, f5⟩ := hf it (by simp)
    refine wpAny_pyNext_list_item st p.isList (x := u) (by simpa using hu) fun h' st' sb => ?_
    have I1 : Inv X pins σ H { s with heap := h' } := I.turned (t' := s.toks) (fun b o hb e => (sb.2 b hb).trans e) f0 f1 f3 f4 f5
    obtain ⟨o, e, c, d⟩ := id st'
    exact ⟨u, rfl, go_of (s := { s with heap := h' }) e c d (by decide) ⟨x, H, I1, ru, ⟨rfl, fun ys hy => by rw [I.list_inj hy hq]; exact hx⟩, st', fun b hb => (hf b hb).1⟩⟩
  done := by
    intro X hP hw hK hc i pins s σ H E I hf st hg
    subst hP hw hK
    obtain ⟨xs, hq, hx⟩ := hg
    obtain ⟨its, rv, p, hz⟩ := I.list hq
    obtain ⟨f0, f1, f2, f3, f4, f5⟩ := hf it (by simp)
    have hl := rv.length
    exact wpAny_pyNext_list_end (I.ok.hd hc) st p.isList (by simp; omega) fun h' eb => ⟨rfl, I.turned (t' := s.toks) (fun b o hb e => eb b o hb e) f0 f1 f3 f4 f5⟩
  self := fun _ _ _ _ _ st h => wpAny_pyIter_listiter st h
theorem turn_range {P : Program} {w : World} {K : PySem.W.Frag} {tg : Expr} (it : Addr) (lo : Int) (n : Nat) : Turn P w K tg (Itr lo n) [it] it (fun i h => IsRangeIter h it (lo + (i : Nat) * 1) ((n : Int) - (i : Nat)) 1) where
  mem := by simp
  obj := fun i h st b hb => by
    have e : b = it := by simpa using hb
    subst e
    exact ⟨_, st, fun v z => by
      have z' : Data.fields _ = Data.cell v := z
      cases z'⟩
  keep := fun i h h' st k => k it (by simp) _ st
  item := by
    intro X hP hw hK hc i pins s σ H E I hf st hg
    subst hP hw hK
    obtain ⟨f0, f1, f2, f3, f4, f5⟩ := hf it (by simp)
    have W := Walks.range (prog := X.prog) (w := X.w) (I.ok.hd hc) it lo 1 n
    refine W.item i s _ _ hg st fun v h' tk hv st' kk => ?_
    obtain ⟨t, rfl⟩ := hv
    have I1 : Inv X pins σ H { s with heap := h', toks := tk } := I.turned (fun b o hb e => kk b o (by simpa using hb) e) f0 f1 f3 f4 f5
    refine ⟨_, rfl, go_of (s := { s with heap := h', toks := tk }) (n := "range_iterator") st' rfl rfl (by decide) ⟨.int (lo + i), H, I1, ⟨t, ?_⟩, ⟨rfl, rfl⟩, st', fun b hb => (hf b hb).1⟩⟩
    rw [Int.mul_one]
  done := by
    intro X hP hw hK hc i pins s σ H E I hf st hg
    subst hP hw hK
    obtain ⟨f0, f1, f2, f3, f4, f5⟩ := hf it (by simp)
    exact wpAny_pyNext_range_end (I.ok.hd hc) st (by have : n ≤ i := hg; omega) fun h' eb => ⟨rfl, I.turned (t' := s.toks) (fun b o hb e => eb b o hb e) f0 f1 f3 f4 f5⟩
  self := fun _ _ _ _ _ st h => wpAny_pyIter_rangeiter st h
end L2
namespace L2
open PySem PySem.Spec PyProof.Rows
section
variable {X : Cx} {tg : Expr}
def iList (K : PySem.W.Frag) (tl : TE) : TI := fun σ H R => tl σ H fun x H1 => ∃ a, x = .ref a ∧ (∃ xs, SqL K H1 a xs) ∧ R (Itl K a) H1
theorem pi_list {l : Expr} {tl : TE} (hl : PE X l tl) : PI X tg l (iList X.K tl) := by
  intro pins s σ H R I h
  refine thn (hl pins s σ H _ I h) fun v s1 ⟨x, H1, I1, r1, q1⟩ => ?_
  obtain ⟨a, e, ⟨xs, hq⟩, q⟩ := q1
  subst e
  cases r1
  obtain ⟨its, rv, p, hz⟩ := I1.list hq
  refine wpAny_pyIter_list p.isList ?_
  refine ⟨s1.heap.objs.size, [s1.heap.objs.size], _, _, H1, rfl, I1.kept (t' := s1.toks) fun b o e => Heap.get?_push_of_some _ e, turn_list a _, ⟨_, Heap.get?_push_size _ rfl, rfl, rfl⟩, fun b hb => ?_, q⟩
  have e : b = s1.heap.objs.size := by simpa using hb
  subst e
  exact I1.fpOk (Nat.le_refl _) (I1.hok.fresh (Nat.le_refl _))
theorem range_it {pins : List (Addr × Obj)} {σ : St} {H : Hp} {s : Shared} {R : It → Hp → Prop} {E : Value → Shared → Prop} {lo hi : Int} {t u v : Tok} {tk : Nat} (I : Inv X pins σ H s) (h1 : -(2 ^ 62) ≤ lo) (h2 : lo < 2 ^ 62) (h3 : -(2 ^ 62) ≤ hi) (h4 : hi < 2 ^ 62)
    (q : R (Itr lo (hi - lo).toNat) H) : wpAny (model X.prog X.w) X.A (pyIter (.ref s.heap.objs.size)) (PIE X pins σ tg R) E { s with heap := s.heap.push { cls := .type "range", data := .fields #[.int lo t, .int hi u, .int 1 v] }, toks := tk } := by
  refine wpAny_pyIter_range (IsRange.new ..) (small_one h1 h2 h3 h4) ?_
  have I1 : Inv X pins σ H { s with heap := s.heap.push { cls := .type "range", data := .fields #[.int lo t, .int hi u, .int 1 v] }, toks := tk } := I.kept fun b o e => Heap.get?_push_of_some _ e
  refine ⟨(s.heap.push { cls := .type "range", data := .fields #[.int lo t, .int hi u, .int 1 v] }).objs.size, [(s.heap.push { cls := .type "range", data := .fields #[.int lo t, .int hi u, .int 1 v] }).objs.size], _, _, H, rfl,
    I1.kept (t' := tk) fun b o e => Heap.get?_push_of_some _ e, turn_range _ lo (hi - lo).toNat, ?_, fun b hb => ?_, q⟩
  · have e1 : lo + ((0 : Nat) : Int) * 1 = lo := by simp
    have e2 : (((hi - lo).toNat : Nat) : Int) - ((0 : Nat) : Int) = Builtin.Range.rangeSize lo hi 1 := by rw [rangeSize_one]; split <;> omega
    show IsRangeIter _ _ (lo + ((0 : Nat) : Int) * 1) ((((hi - lo).toNat : Nat) : Int) - ((0 : Nat) : Int)) 1
    rw [e1, e2]
    exact Heap.get?_push_size _ rfl
  · have e : b = (s.heap.push { cls := .type "range", data := .fields #[.int lo t, .int hi u, .int 1 v] }).objs.size := by simpa using hb
    subst e
    exact I1.fpOk (Nat.le_refl _) (I1.hok.fresh (Nat.le_refl _))
def iRng1 (ta : TA) : TI := fun σ H R => ta σ H fun vs H1 => ∃ j : Int, vs = [.int j] ∧ -(2 ^ 62) ≤ j ∧ j < 2 ^ 62 ∧ R (Itr 0 j.toNat) H1
def iRng2 (ta : TA) : TI := fun σ H R => ta σ H fun vs H1 => ∃ i j : Int, vs = [.int i, .int j] ∧ (-(2 ^ 62) ≤ i ∧ i < 2 ^ 62 ∧ -(2 ^ 62) ≤ j ∧ j < 2 ^ 62) ∧ R (Itr i (j - i).toNat) H1
theorem pi_range1 {a : Expr} {ta : TA} {p pos : Pos} (hg : Gl X "range") (hm : X.mg "range" = none) (ha : PA X [a] ta) (hs : starEach [a] X.env = [(false, eval a X.env)] := by rfl) : PI X tg (.Call (.Name "range" p) [a] [] pos) (iRng1 ta) := by
  intro pins s σ H R I h
  refine Call_ (ld_blt I hg hm boot_range (PyProof.Rows.callWith_type1 (thn (ha pos pins s σ H _ I h) fun us s1 ⟨vs, H1, I1, r1, q1⟩ => ?_) hs rfl))
  obtain ⟨j, e, q1, q2, q⟩ := q1
  subst e
  cases r1 with
  | cons r rr =>
    cases rr
    obtain ⟨t, rfl⟩ := r
    exact call_range_1 (range_it I1 (by omega) (by omega) q1 q2 (by simpa using q))
theorem pi_range2 {a b : Expr} {ta : TA} {p pos : Pos} (hg : Gl X "range") (hm : X.mg "range" = none) (ha : PA X [a, b] ta) (hs : starEach [a, b] X.env = [(false, eval a X.env), (false, eval b X.env)] := by rfl) (hs2 : starEach [b] X.env = [(false, eval b X.env)] := by rfl) :
    PI X tg (.Call (.Name "range" p) [a, b] [] pos) (iRng2 ta) := by
  intro pins s σ H R I h
  refine Call_ (ld_blt I hg hm boot_range (PyProof.Rows.callWith_type1 (thn (ha pos pins s σ H _ I h) fun us s1 ⟨vs, H1, I1, r1, q1⟩ => ?_) (by rw [hs, hs2]) (by rw [hs2]; rfl)))
  obtain ⟨i, j, e, ⟨q1, q2, q3, q4⟩, q⟩ := q1
  subst e
  cases r1 with
  | cons r rr =>
    cases rr with
    | cons r' rr =>
      cases rr
      obtain ⟨t, rfl⟩ := r
      obtain ⟨t', rfl⟩ := r'
      exact call_range_2 (range_it I1 q1 q2 q3 q4 q)
def tFor (wi : TI) (g : TG) (tb : TS) : TS := fun D σ H => wi σ H fun J H1 => ∃ W : Nat → Nat → St → Hp → Prop, (∃ m, W 0 m σ H1) ∧ ∀ i m σ H, W i m σ H →
  (J.stop i H ∧ D.nx σ H) ∨ (J.go i H ∧ ∃ N : St → Hp → Prop, (∀ σ' H', N σ' H' → ∃ m', m' < m ∧ W (i + 1) m' σ' H') ∧ ∀ x H', J.yld i H x H' → g x σ H' fun σ2 H2 => tb { D with nx := N, ct := N, bk := D.nx } σ2 H2)
def pinsAt (fp : List Addr) (h : Heap) : List (Addr × Obj) := fp.filterMap fun b => (h.get? b).map fun o => (b, o)
theorem mem_pinsAt {fp : List Addr} {h : Heap} {b : Addr} {o : Obj} (hb : b ∈ fp) (e : h.get? b = some o) : (b, o) ∈ pinsAt fp h := List.mem_filterMap.mpr ⟨b, hb, by rw [e]; rfl⟩
theorem of_pinsAt {fp : List Addr} {h : Heap} {p : Addr × Obj} (hp : p ∈ pinsAt fp h) : p.1 ∈ fp ∧ h.get? p.1 = some p.2 := by
  obtain ⟨b, hb, e⟩ := List.mem_filterMap.mp hp
  cases q : h.get? b with
  | none => rw [q] at e; cases e
  | some o =>
    rw [q] at e
    have e' : (b, o) = p := Option.some.inj e
    subst e'
    exact ⟨hb, q⟩
theorem Inv.pinned {pins : List (Addr × Obj)} {σ : St} {H : Hp} {s : Shared} {fp : List Addr} (I : Inv X pins σ H s) (hf : ∀ b ∈ fp, FpOk X pins H b) (ho : ∀ b ∈ fp, ∃ o, s.heap.get? b = some o ∧ ∀ v, o.data ≠ .cell v) : Inv X (pins ++ pinsAt fp s.heap) σ H s :=
  I.pins_of fun p hp => (List.mem_append.mp hp).elim (fun z => I.pin p (List.mem_append_right _ z)) fun z => by
    obtain ⟨hb, e⟩ := of_pinsAt z
    obtain ⟨f0, f1, f2, _⟩ := hf p.1 hb
    obtain ⟨o, e', d⟩ := ho p.1 hb
    rw [e] at e'; cases e'
    exact ⟨e, f0, f1, f2, d⟩
theorem Inv.unpinned {pins pl : List (Addr × Obj)} {σ : St} {H : Hp} {s : Shared} (I : Inv X (pins ++ pl) σ H s) : Inv X pins σ H s := I.pins_of fun p hp => I.pin p (List.mem_append_right _ (List.mem_append_left _ hp))
theorem ps_for {iter : Expr} {body : List Stmt} {wi : TI} {g : TG} {tb : TS} {pos : Pos} (hp : PassesOwn (model X.prog X.w) X.A X.env X.xe) (hc : X.calm = true) (hi : PI X tg iter wi) (hg : PG X tg g) (hb : PSs X body tb)
    (hs : ∀ x, foldedSetIterable iter X.env x = pure x := by intro _; rfl) : PS X (.For tg iter body [] pos) (tFor wi g tb) := by
  intro pins s σ H D I h
  refine wpAny_For (thn (hi pins s σ H _ I h) fun v s1 h1 => thn h1 fun itv s2 h2 => ?_) hs
  obtain ⟨it, fp, tn, J, H2, e, I2, T, st2, f2, W, ⟨m0, w0⟩, turn⟩ := h2
  subst e
  have stat : ∀ {H' : Hp}, (∀ b ∈ fp, H' b = none) → ∀ b ∈ fp, FpOk X pins H' b := fun hn b hb => ⟨hn b hb, (f2 b hb).2⟩
  refine codeAny_forLoop_any (fun n s' => ∃ i σ' H', Inv X pins σ' H' s' ∧ tn i s'.heap ∧ (∀ b ∈ fp, H' b = none) ∧ W i n σ' H') ?_ m0 ⟨0, σ, H2, I2, st2, fun b hb => (f2 b hb).1, w0⟩
  rintro n s3 ⟨i, σ3, H3, I3, st3, fr3, w3⟩
  rcases turn i n σ3 H3 w3 with ⟨stop, qn⟩ | ⟨go, N, hN, step⟩
  · refine wpAny_passesOwn hp (thn (T.done X rfl rfl rfl hc i pins s3 σ3 H3 X.xe I3 (stat fr3) st3 stop) fun r s4 ⟨hr, I4⟩ => ?_)
    subst hr
    exact wpAny_execs_nil ⟨σ3, H3, I4, qn⟩
  · refine wpAny_passesOwn hp (thn (T.item X rfl rfl rfl hc i pins s3 σ3 H3 X.xe I3 (stat fr3) st3 go) fun r s4 ⟨u, hr, h4⟩ => ?_)
    subst hr
    refine wpAny_passesOwn hp (thn h4 fun _ s5 ⟨x, H5, I5, r5, y5, st5, fr5⟩ => ?_)
    have I5' := I5.pinned (stat fr5) (T.obj _ _ st5)
    refine wpAny_passesOwn hp (thn (hg _ s5 σ3 H5 x u _ I5' r5 (step x H5 y5)) fun _ s6 ⟨σ6, H6, I6, q6⟩ => ?_)
    refine wpAny_passesOwn hp (thn (hb _ s6 σ6 H6 _ I6 q6) fun f s7 q7 => ?_)
    have again : ∀ {σ7 : St} {H7 : Hp}, Inv X (pins ++ pinsAt fp s5.heap) σ7 H7 s7 → N σ7 H7 → ∃ m, m < n ∧ ∃ i σ' H', Inv X pins σ' H' s7 ∧ tn i s7.heap ∧ (∀ b ∈ fp, H' b = none) ∧ W i m σ' H' := fun {σ7 H7} I7 n7 => by
      obtain ⟨m', hm, w7⟩ := hN σ7 H7 n7
      refine ⟨m', hm, i + 1, σ7, H7, I7.unpinned, T.keep _ _ _ st5 fun b hb o e => (I7.pin (b, o) (List.mem_append_right _ (List.mem_append_right _ (mem_pinsAt hb e)))).1, fun b hb => ?_, w7⟩
      obtain ⟨o, e, d⟩ := T.obj _ _ st5 b hb
      exact (I7.pin (b, o) (List.mem_append_right _ (List.mem_append_right _ (mem_pinsAt hb e)))).2.1
    cases f with
    | next => obtain ⟨σ7, H7, I7, n7⟩ := q7; exact again I7 n7
    | cont => obtain ⟨σ7, H7, I7, n7⟩ := q7; exact again I7 n7
    | brk => obtain ⟨σ7, H7, I7, q7⟩ := q7; exact ⟨σ7, H7, I7.unpinned, q7⟩
    | ret v => obtain ⟨x7, σ7, H7, I7, r7, q7⟩ := q7; exact ⟨x7, σ7, H7, I7.unpinned, r7, q7⟩
end
theorem for_range {lo : Int} {n : Nat} {g : TG} {tb : TS} {D : Ends} {σ : St} {H : Hp} (Pv : Nat → St → Hp → Prop) (h0 : Pv 0 σ H)
    (hs : ∀ i σ H, i < n → Pv i σ H → g (.int (lo + i)) σ H fun σ2 H2 => tb { D with nx := Pv (i + 1), ct := Pv (i + 1), bk := D.nx } σ2 H2) (hd : ∀ σ H, Pv n σ H → D.nx σ H) :
    ∃ W : Nat → Nat → St → Hp → Prop, (∃ m, W 0 m σ H) ∧ ∀ i m σ H, W i m σ H →
      ((Itr lo n).stop i H ∧ D.nx σ H) ∨ ((Itr lo n).go i H ∧ ∃ N : St → Hp → Prop, (∀ σ' H', N σ' H' → ∃ m', m' < m ∧ W (i + 1) m' σ' H') ∧ ∀ x H', (Itr lo n).yld i H x H' → g x σ H' fun σ2 H2 => tb { D with nx := N, ct := N, bk := D.nx } σ2 H2) := by
  refine ⟨fun i m σ H => m = n - i ∧ i ≤ n ∧ Pv i σ H, ⟨n, by simp, Nat.zero_le _, h0⟩, ?_⟩
  rintro i m σ H ⟨rfl, hi, p⟩
  by_cases hlt : i < n
  · refine .inr ⟨hlt, Pv (i + 1), fun σ' H' p' => ⟨n - (i + 1), by omega, rfl, hlt, p'⟩, fun x H' y => ?_⟩
    obtain ⟨e, y⟩ := y
    subst e y
    exact hs i σ _ hlt p
  · have e : i = n := by omega
    subst e
    exact .inl ⟨Nat.le_refl _, hd σ H p⟩
end L2
namespace L2
open PySem PySem.Spec PyProof.Rows
abbrev R2 := V → V → Hp → VK → Prop
def OpR (X : Cx) (f : Value → Value → Sem Value) (r : R2) : Prop :=
  ∀ (pins : List (Addr × Obj)) (s : Shared) (σ : St) (H : Hp) (x y : V) (v u : Value) (Q : VK), Inv X pins σ H s → RelV x v → RelV y u → r x y H Q →
    wpAny (model X.prog X.w) X.A (f v u) (EP X pins σ Q) X.xe s
def CallR (X : Cx) (f : Value) (r : List V → Hp → VK → Prop) : Prop :=
  ∀ (pins : List (Addr × Obj)) (s : Shared) (σ : St) (H : Hp) (xs : List V) (us : List Value) (Q : VK), Inv X pins σ H s → Vals xs us → r xs H Q →
    wpAny (model X.prog X.w) X.A (call f us) (EP X pins σ Q) X.xe s
def tOp (r : R2) (ta tb : TE) : TE := fun σ H Q => ta σ H fun x H1 => tb σ H1 fun y H2 => r x y H2 Q
def rI (C : Int → Int → Prop) (g : Int → Int → V) : R2 := fun x y H Q => ∃ i j, x = .int i ∧ y = .int j ∧ C i j ∧ Q (g i j) H
def rI0 (g : Int → Int → V) : R2 := fun x y H Q => ∃ i j, x = .int i ∧ y = .int j ∧ Q (g i j) H
section
variable {X : Cx} {a b c : Expr} {ta tb tc : TE} {pos : Pos}
theorem binT (ha : PE X a ta) (hb : PE X b tb) {pins : List (Addr × Obj)} {s : Shared} {σ : St} {H : Hp} {R : V → V → Hp → Prop} (I : Inv X pins σ H s)
    (h : ta σ H fun x H1 => tb σ H1 fun y H2 => R x y H2) {Q : Value → Shared → Prop} {f : Value → Value → Sem Value}
    (hf : ∀ v u s2 x y H2, Inv X pins σ H2 s2 → RelV x v → RelV y u → R x y H2 → wpAny (model X.prog X.w) X.A (f v u) Q X.xe s2) :
    wpAny (model X.prog X.w) X.A (eval a X.env) (fun v s₁ => wpAny (model X.prog X.w) X.A (eval b X.env) (fun u s₂ => wpAny (model X.prog X.w) X.A (f v u) Q X.xe s₂) X.xe s₁) X.xe s := by
  refine thn (ha pins s σ H _ I h) fun v s1 ⟨x, H1, I1, r1, q1⟩ => ?_
  refine thn (hb pins s1 σ H1 _ I1 q1) fun u s2 ⟨y, H2, I2, r2, q2⟩ => ?_
  exact hf v u s2 x y H2 I2 r1 r2 q2
theorem pe_op {op : Operator} {r : R2} (ho : OpR X (binaryOp op) r) (ha : PE X a ta) (hb : PE X b tb) : PE X (.BinOp a op b pos) (tOp r ta tb) := by
  intro pins s σ H Q I h
  exact wpAny_BinOp (binT ha hb I h fun v u s2 x y H2 I2 rx ry q => ho pins s2 σ H2 x y v u Q I2 rx ry q)
theorem opI {f : Value → Value → Sem Value} {C : Int → Int → Prop} {g : Int → Int → Int}
    (rule : ∀ (i j : Int) (t u : Tok) (s : Shared) (Q : Value → Shared → Prop) (E : Value → Shared → Prop), C i j → Q (.int (g i j) s.toks) { s with toks := s.toks + 1 } → wpAny (model X.prog X.w) X.A (f (.int i t) (.int j u)) Q E s) :
    OpR X f (rI C fun i j => .int (g i j)) := by
  intro pins s σ H x y v u Q I rx ry h
  obtain ⟨i, j, rfl, rfl, hc, q⟩ := h
  obtain ⟨t, rfl⟩ := rx
  obtain ⟨t', rfl⟩ := ry
  exact rule i j t t' s _ _ hc ⟨.int (g i j), H, I.tok _, ⟨_, rfl⟩, q⟩
theorem opI0 {f : Value → Value → Sem Value} {g : Int → Int → Int}
    (rule : ∀ (i j : Int) (t u : Tok) (s : Shared) (Q : Value → Shared → Prop) (E : Value → Shared → Prop), Q (.int (g i j) s.toks) { s with toks := s.toks + 1 } → wpAny (model X.prog X.w) X.A (f (.int i t) (.int j u)) Q E s) :
    OpR X f (rI0 fun i j => .int (g i j)) := by
  intro pins s σ H x y v u Q I rx ry h
  obtain ⟨i, j, rfl, rfl, q⟩ := h
  obtain ⟨t, rfl⟩ := rx
  obtain ⟨t', rfl⟩ := ry
  exact rule i j t t' s _ _ ⟨.int (g i j), H, I.tok _, ⟨_, rfl⟩, q⟩
theorem opB0 {f : Value → Value → Sem Value} {g : Int → Int → Bool}
    (rule : ∀ (i j : Int) (t u : Tok) (s : Shared) (Q : Value → Shared → Prop) (E : Value → Shared → Prop), Q (.bool (g i j)) s → wpAny (model X.prog X.w) X.A (f (.int i t) (.int j u)) Q E s) :
    OpR X f (rI0 fun i j => .bl (g i j)) := by
  intro pins s σ H x y v u Q I rx ry h
  obtain ⟨i, j, rfl, rfl, q⟩ := h
  obtain ⟨t, rfl⟩ := rx
  obtain ⟨t', rfl⟩ := ry
  exact rule i j t t' s _ _ ⟨.bl (g i j), H, I, rfl, q⟩
def CDiv (i j : Int) : Prop := 0 < j ∧ j < 1073741824
def CPow (i j : Int) : Prop := 0 ≤ j ∧ j ≤ 1000000 ∧ i.natAbs < 2 ^ 64
def CMul (i j : Int) : Prop := (-(2 ^ 64) < i ∧ i < 2 ^ 64) ∨ (-(2 ^ 64) < j ∧ j < 2 ^ 64)
theorem CMul.ok {i j : Int} (h : CMul i j) : IntMulOk i j := by
  rcases h with ⟨h1, h2⟩ | ⟨h1, h2⟩
  · exact .of_left (intBits_le_64 h1 h2)
  · exact .of_right (intBits_le_64 h1 h2)
theorem op_add : OpR X (binaryOp .Add) (rI0 fun i j => .int (i + j)) := opI0 fun _ _ _ _ _ _ _ q => add_int q
theorem op_mul : OpR X (binaryOp .Mult) (rI CMul fun i j => .int (i * j)) := opI fun _ _ _ _ _ _ _ hc q => mul_int q hc.ok
theorem op_fdiv : OpR X (binaryOp .FloorDiv) (rI CDiv fun i j => .int (i / j)) := opI fun i j _ _ _ _ _ hc q => by
  have h1 : (0 : Int) < j := hc.1
  have h2 : j < 1073741824 := hc.2
  exact floordiv_int (by omega) (by rw [Int.fdiv_eq_ediv_of_nonneg i (by omega)]; exact q) (.inl (PyProof.noPylong_small (by omega)))
theorem op_mod : OpR X (binaryOp .Mod) (rI (fun _ j => 0 < j) fun i j => .int (i % j)) := opI fun i j _ _ _ _ _ hc q => by
  have h1 : (0 : Int) < j := hc
  exact mod_int' (by omega) (by rw [Int.fmod_eq_emod_of_nonneg i (by omega)]; exact q)
theorem op_pow : OpR X (binaryOp .Pow) (rI CPow fun i j => .int (i ^ j.toNat)) := opI fun _ _ _ _ _ _ _ hc q => pow_int_small hc.1 hc.2.1 hc.2.2 q
end
def scal : V → V → Bool
  | .non, .non => true | .non, .int _ => true | .int _, .non => true | .non, .bl _ => true | .bl _, .non => true | .non, .str _ => true | .str _, .non => true
  | .int _, .int _ => true | .bl _, .bl _ => true | .str _, .str _ => true | .byt _, .byt _ => true
  | .int _, .str _ => true | .str _, .int _ => true | .bl _, .str _ => true | .str _, .bl _ => true
  | _, _ => false
def rEq : R2 := fun x y H Q => scal x y = true ∧ Q (.bl (decide (x = y))) H
def rNe : R2 := fun x y H Q => scal x y = true ∧ Q (.bl (!decide (x = y))) H
theorem dec_int {i j : Int} : decide (V.int i = V.int j) = (i == j) := by
  rw [Bool.eq_iff_iff]
  simp
theorem dec_bl {i j : Bool} : decide (V.bl i = V.bl j) = (i == j) := by
  rw [Bool.eq_iff_iff]
  simp
theorem dec_str {i j : Str} : decide (V.str i = V.str j) = (i == j) := by
  rw [Bool.eq_iff_iff]
  simp
theorem dec_byt {i j : Array UInt8} : decide (V.byt i = V.byt j) = (i.toList == j.toList) := by
  rw [Bool.eq_iff_iff]
  cases i
  cases j
  simp
section
variable {X : Cx} {a b c : Expr} {ta tb tc : TE} {pos : Pos}
theorem fin_bl {pins : List (Addr × Obj)} {σ : St} {H : Hp} {s : Shared} {Q : VK} {k k' : Bool} (I : Inv X pins σ H s) (q : Q (.bl k) H) (e : k = k') : EP X pins σ Q (.bool k') s := by
  subst e
  exact ⟨.bl k, H, I, rfl, q⟩
theorem op_eq : OpR X (compareOp .Eq) rEq := by
  intro pins s σ H x y v u Q I rx ry h
  obtain ⟨hs, q⟩ := h
  cases x with
  | non =>
    cases rx
    cases y with
    | non => cases ry; exact PySem.EqNone.eq_none_none (fin_bl I q (by simp))
    | bl j => cases ry; exact PySem.EqNone.eq_none_bool (fin_bl I q (by simp))
    | int j => obtain ⟨t', rfl⟩ := ry; exact PySem.EqNone.eq_none_int (fin_bl I q (by simp))
    | str j => obtain ⟨t', rfl⟩ := ry; exact PySem.EqNone.eq_none_str (fin_bl I q (by simp))
    | _ => exact absurd (show false = true from hs) Bool.false_ne_true
  | bl i =>
    cases rx
    cases y with
    | non => cases ry; exact PySem.EqNone.eq_bool_none (fin_bl I q (by simp))
    | bl j => cases ry; exact eq_bool (fin_bl I q dec_bl)
    | str j => obtain ⟨t', rfl⟩ := ry; exact PySem.EqMixed.eq_bool_str (fin_bl I q (by simp))
    | _ => exact absurd (show false = true from hs) Bool.false_ne_true
  | int i =>
    obtain ⟨t, rfl⟩ := rx
    cases y with
    | non => cases ry; exact PySem.EqNone.eq_int_none (fin_bl I q (by simp))
    | int j => obtain ⟨t', rfl⟩ := ry; exact eq_int (fin_bl I q dec_int)
    | str j => obtain ⟨t', rfl⟩ := ry; exact PySem.EqMixed.eq_int_str (fin_bl I q (by simp))
    | _ => exact absurd (show false = true from hs) Bool.false_ne_true
  | str i =>
    obtain ⟨t, rfl⟩ := rx
    cases y with
    | non => cases ry; exact PySem.EqNone.eq_str_none (fin_bl I q (by simp))
    | bl j => cases ry; exact PySem.EqMixed.eq_str_bool (fin_bl I q (by simp))
    | int j => obtain ⟨t', rfl⟩ := ry; exact PySem.EqMixed.eq_str_int (fin_bl I q (by simp))
    | str j => obtain ⟨t', rfl⟩ := ry; exact eq_str (fin_bl I q dec_str)
    | _ => exact absurd (show false = true from hs) Bool.false_ne_true
  | byt i =>
    obtain ⟨t, rfl⟩ := rx
    cases y with
    | byt j => obtain ⟨t', rfl⟩ := ry; exact PySem.W.eq_bytes (fin_bl I q dec_byt)
    | _ => exact absurd (show false = true from hs) Bool.false_ne_true
  | _ => cases y <;> exact absurd (show false = true from hs) Bool.false_ne_true
theorem op_ne : OpR X (compareOp .NotEq) rNe := by
  intro pins s σ H x y v u Q I rx ry h
  obtain ⟨hs, q⟩ := h
  cases x with
  | non =>
    cases rx
    cases y with
    | non => cases ry; exact PySem.EqNone.ne_none_none (fin_bl I q (by simp))
    | bl j => cases ry; exact PySem.EqNone.ne_none_bool (fin_bl I q (by simp))
    | int j => obtain ⟨t', rfl⟩ := ry; exact PySem.EqNone.ne_none_int (fin_bl I q (by simp))
    | str j => obtain ⟨t', rfl⟩ := ry; exact PySem.EqNone.ne_none_str (fin_bl I q (by simp))
    | _ => exact absurd (show false = true from hs) Bool.false_ne_true
  | bl i =>
    cases rx
    cases y with
    | non => cases ry; exact PySem.EqNone.ne_bool_none (fin_bl I q (by simp))
    | bl j => cases ry; exact ne_bool (fin_bl I q (congrArg not dec_bl))
    | str j => obtain ⟨t', rfl⟩ := ry; exact PySem.EqMixed.ne_bool_str (fin_bl I q (by simp))
    | _ => exact absurd (show false = true from hs) Bool.false_ne_true
  | int i =>
    obtain ⟨t, rfl⟩ := rx
    cases y with
    | non => cases ry; exact PySem.EqNone.ne_int_none (fin_bl I q (by simp))
    | int j => obtain ⟨t', rfl⟩ := ry; exact ne_int (fin_bl I q (congrArg not dec_int))
    | str j => obtain ⟨t', rfl⟩ := ry; exact PySem.EqMixed.ne_int_str (fin_bl I q (by simp))
    | _ => exact absurd (show false = true from hs) Bool.false_ne_true
  | str i =>
    obtain ⟨t, rfl⟩ := rx
    cases y with
    | non => cases ry; exact PySem.EqNone.ne_str_none (fin_bl I q (by simp))
    | bl j => cases ry; exact PySem.EqMixed.ne_str_bool (fin_bl I q (by simp))
    | int j => obtain ⟨t', rfl⟩ := ry; exact PySem.EqMixed.ne_str_int (fin_bl I q (by simp))
    | str j => obtain ⟨t', rfl⟩ := ry; exact ne_str (fin_bl I q (congrArg not dec_str))
    | _ => exact absurd (show false = true from hs) Bool.false_ne_true
  | byt i =>
    obtain ⟨t, rfl⟩ := rx
    cases y with
    | byt j => obtain ⟨t', rfl⟩ := ry; exact PySem.W.ne_bytes (fin_bl I q (congrArg not dec_byt))
    | _ => exact absurd (show false = true from hs) Bool.false_ne_true
  | _ => cases y <;> exact absurd (show false = true from hs) Bool.false_ne_true
theorem op_lt : OpR X (compareOp .Lt) (rI0 fun i j => .bl (decide (i < j))) := opB0 fun _ _ _ _ _ _ _ q => lt_int q
theorem op_gt : OpR X (compareOp .Gt) (rI0 fun i j => .bl (decide (j < i))) := opB0 fun _ _ _ _ _ _ _ q => gt_int q
theorem op_in_str : OpR X (compareOp .In) (fun x y H Q => ∃ i j, x = .str i ∧ y = .str j ∧ Q (.bl (!(Builtin.Str.occurrences j i 0 j.length 1).isEmpty)) H) := by
  intro pins s σ H x y v u Q I rx ry h
  obtain ⟨i, j, rfl, rfl, q⟩ := h
  obtain ⟨t, rfl⟩ := rx
  obtain ⟨t', rfl⟩ := ry
  exact in_str (fin_bl I q rfl)
theorem nomark (b : Expr) {op : CmpOp} (h : op ≠ .In := by decide) (h2 : op ≠ .NotIn := by decide) : behindInMarks op b = false := by
  have e1 : (op == CmpOp.In) = false := by cases op <;> first | rfl | exact absurd rfl h
  have e2 : (op == CmpOp.NotIn) = false := by cases op <;> first | rfl | exact absurd rfl h2
  cases b <;> simp [behindInMarks, e1, e2]
theorem pe_cmpR {op : CmpOp} {r : R2} (ho : OpR X (compareOp op) r) (ha : PE X a ta) (hb : PE X b tb) (hm : behindInMarks op b = false) : PE X (.Compare a [op] [b] pos) (tOp r ta tb) := by
  intro pins s σ H Q I h
  exact wpAny_Compare1 (binT ha hb I h fun v u s2 x y H2 I2 rx ry q => ho pins s2 σ H2 x y v u Q I2 rx ry q) hm
def tTest (t : TE) : TT := fun σ H Q => t σ H fun x H' => ∃ k, x = .bl k ∧ Q k H'
theorem pt_cmpR {op : CmpOp} {r : R2} (ho : OpR X (compareOp op) r) (ha : PE X a ta) (hb : PE X b tb) (hm : behindInMarks op b = false) : PT X (.Compare a [op] [b] pos) (tTest (tOp r ta tb)) := by
  intro pins s σ H Q I h
  refine wpAny_isTrue_Compare1 (thn (ha pins s σ H _ I h) fun v s1 ⟨x, H1, I1, r1, q1⟩ => thn (hb pins s1 σ H1 _ I1 q1) fun u s2 ⟨y, H2, I2, r2, q2⟩ =>
    thn (ho pins s2 σ H2 x y v u _ I2 r1 r2 q2) fun c s3 ⟨z, H3, I3, r3, k, e, q3⟩ => ?_) hm
  subst e
  cases r3
  exact wpAny_truthy_bool ⟨H3, I3, q3⟩
theorem line63 : (sizeLine : Nat) < 2 ^ 63 := by rw [sizeLine_eq]; decide
theorem op_add_str : OpR X (binaryOp .Add) (fun x y H Q => ∃ i j, x = .str i ∧ y = .str j ∧ i.length + j.length ≤ sizeLine ∧ Q (.str (i ++ j)) H) := by
  intro pins s σ H x y v u Q I rx ry h
  obtain ⟨i, j, rfl, rfl, hz, q⟩ := h
  obtain ⟨t, rfl⟩ := rx
  obtain ⟨t', rfl⟩ := ry
  exact add_str (fun t' tk => ⟨.str (i ++ j), H, I.tok _, ⟨_, rfl⟩, q⟩) hz
theorem iop_add_str : OpR X (inplaceOp .Add) (fun x y H Q => ∃ i j, x = .str i ∧ y = .str j ∧ i.length + j.length ≤ sizeLine ∧ Q (.str (i ++ j)) H) := by
  intro pins s σ H x y v u Q I rx ry h
  obtain ⟨i, j, rfl, rfl, hz, q⟩ := h
  obtain ⟨t, rfl⟩ := rx
  obtain ⟨t', rfl⟩ := ry
  exact iadd_str (fun t' tk => ⟨.str (i ++ j), H, I.tok _, ⟨_, rfl⟩, q⟩) hz
theorem vals1 {x : V} {us : List Value} (r : Vals [x] us) : ∃ u, us = [u] ∧ RelV x u := by
  cases r with
  | cons r1 r2 => cases r2; exact ⟨_, rfl, r1⟩
theorem vals2 {x y : V} {us : List Value} (r : Vals [x, y] us) : ∃ u w', us = [u, w'] ∧ RelV x u ∧ RelV y w' := by
  cases r with
  | cons r1 r2 =>
    cases r2 with
    | cons r3 r4 => cases r4; exact ⟨_, _, rfl, r1, r3⟩
theorem call_max2 (hc : X.calm = true) : CallR X (.builtin "max") (fun xs H Q => ∃ i j, xs = [.int i, .int j] ∧ Q (.int (if j > i then j else i)) H) := by
  intro pins s σ H xs us Q I r h
  obtain ⟨i, j, rfl, q⟩ := h
  obtain ⟨u, w', rfl, ⟨t, rfl⟩, ⟨t', rfl⟩⟩ := vals2 r
  refine max_two_ints (I.ok.hd hc) fun h' tk k => ⟨_, H, I.kept k, ?_, q⟩
  by_cases hj : j > i
  · rw [if_pos hj, if_pos hj]; exact ⟨_, rfl⟩
  · rw [if_neg hj, if_neg hj]; exact ⟨_, rfl⟩
theorem call_min2 (hc : X.calm = true) : CallR X (.builtin "min") (fun xs H Q => ∃ i j, xs = [.int i, .int j] ∧ Q (.int (if j < i then j else i)) H) := by
  intro pins s σ H xs us Q I r h
  obtain ⟨i, j, rfl, q⟩ := h
  obtain ⟨u, w', rfl, ⟨t, rfl⟩, ⟨t', rfl⟩⟩ := vals2 r
  refine min_two_ints (I.ok.hd hc) fun h' tk k => ⟨_, H, I.kept k, ?_, q⟩
  by_cases hj : j < i
  · rw [if_pos hj, if_pos hj]; exact ⟨_, rfl⟩
  · rw [if_neg hj, if_neg hj]; exact ⟨_, rfl⟩
end
end L2
namespace L2
open PySem PySem.Spec PyProof.Rows
structure ObjM (h : Heap) (x dx C : Addr) (mA : Str → Option Value) : Prop where
  obj : h.get? x = some (PySem.W.instObj C dx)
  ns : h.Ns1 dx mA
  ne : dx ≠ x
theorem lookIn_ns {h : Heap} {dx : Addr} {mA : Str → Option Value} (n : h.Ns1 dx mA) : ∃ od, h.get? dx = some od ∧ ∀ name, PySem.W.lookIn name od = some (mA name) := by
  obtain ⟨o, es, ep, ho, hd, hk, _, hm⟩ := n
  refine ⟨o, ho, fun name => ?_⟩
  have e := hm name
  unfold nsFind findBy at e
  rw [← Array.find?_toList] at e
  unfold PySem.W.lookIn
  rw [hd]
  dsimp only
  split
  · rename_i y q
    rw [q] at e
    exact congrArg some e
  · rename_i q
    rw [q] at e
    have a : es.toList.any (·.refKey) = false := by
      rw [List.any_eq_false]
      intro y hy
      obtain ⟨z, t, hkey⟩ := hk y (Array.mem_toList_iff.mp hy)
      simp [DictEntry.refKey, hkey]
    have a' : ¬ es.toList.any (·.refKey) = true := by rw [a]; exact Bool.false_ne_true
    rw [if_neg a']
    exact congrArg some e
theorem ObjM.look {h : Heap} {x dx C : Addr} {mA : Str → Option Value} (I : ObjM h x dx C mA) : ∃ od, PySem.W.InstAt h x (PySem.W.instObj C dx) C (some od) ∧ ∀ name, PySem.W.lookIn name od = some (mA name) :=
  let ⟨od, ho, hl⟩ := lookIn_ns I.ns
  ⟨od, ⟨I.obj, rfl, rfl, ho⟩, hl⟩
section
variable {prog : Program} {w : World} {A : Around} {E : Value → Shared → Prop} {s : Shared} {K : PySem.W.Frag} {x dx C f : Addr} {mA : Str → Option Value} {name : Str} {v : Value}
theorem get_map {expr : Bool} {Q : Value → Shared → Prop} (X : K.In s.heap) (I : ObjM s.heap x dx C mA) (hg : PySem.W.plainGet K C name = true) (hh : PySem.W.hasDictIn K C = true)
    (ha : PySem.W.findIn K (.ref C) name = some none) (hv : mA name = some v) (hv' : PySem.W.handedIn v = true) (h : Q v { s with toks := s.toks + 1 }) :
    wpAny (model prog w) A (getAttr (.ref x) name expr) Q E s := by
  obtain ⟨od, J, hl⟩ := I.look
  exact PySem.W.get_value X J (PySem.W.plainGet_of hg).1 (PySem.W.findObj_own hh ha rfl (by rw [hl, hv])) hv' h
theorem get_meth {pl : Sem Bool} {Q : Value × List Value → Shared → Prop} (X : K.In s.heap) (I : ObjM s.heap x dx C mA) (hg : PySem.W.plainGet K C name = true)
    (hf : PySem.W.findIn K (.ref C) name = some (some (.ref f))) (ht : PySem.W.isFn K (.ref f) = true) (hv : mA name = none) (h : Q (.ref f, [.ref x]) s) :
    wpAny (model prog w) A (getMethod (.ref x) name pl) Q E s := by
  obtain ⟨od, J, hl⟩ := I.look
  exact PySem.W.method_fn X J (PySem.W.plainGet_of hg).1 (PySem.W.plainGet_of hg).2 hf (beq_iff_eq.mp ht) (by show (PySem.W.lookIn name od).map (·.isSome) = some false; rw [hl, hv]; rfl) h
theorem set_map {ns : List Str} {Q : Unit → Shared → Prop} (X : K.In s.heap) (I : ObjM s.heap x dx C mA)
    (hs : PySem.W.findIn K (.ref C) "__setattr__" = some (some (.builtin "object.__setattr__"))) (hp : PySem.W.plainOver K C = true) (ht : PySem.W.takerIn K C name = some none) (hh : PySem.W.hasDictIn K C = true)
    (hw : PySem.Within mA ns) (hsz : ns.length ≤ sizeLine)
    (h : ∀ h', ObjM h' x dx C (fun y => if y = name then some v else mA y) → Heap.SameBut dx s.heap h' → Q () { s with heap := h', toks := s.toks + 2 }) :
    wpAny (model prog w) A (setAttr (.ref x) name v) Q E s := by
  obtain ⟨od, J, hl⟩ := I.look
  refine PySem.W.set_plain X J hs (PySem.W.osa_open (s := { s with toks := s.toks + 1 }) (r := none) X J hp ht fun b => ?_)
  obtain ⟨cd, hc, hd'⟩ := PySem.W.any_some hh
  have hx : s.heap.get? x = some ⟨.ref C, some dx, .plain, #[]⟩ := I.obj
  refine wpAny_bind (wpAny_pure (wpAny_bind (wpAny_bind (wpAny_loadPart hx (wpAny_bind (PySem.W.Looks.here (s := { s with toks := s.toks + 1 }) (PySem.W.looks_clsIn X hc) ?_))))))
  rw [hd']
  refine wpAny_pure (a := some dx) (wpAny_bind (wpAny_pure (wpAny_bind ?_)))
  refine wpAny_nsSet1 (s := { s with toks := s.toks + 1 }) I.ns fun h' hn2 hs2 => ?_
  obtain ⟨oD, esD, epD, hoD, hdD, hcD⟩ := hn2.count (PySem.Within.cons name v hw)
  refine wpAny_bind (wpAny_lookBehind hoD (by rw [hdD]; exact pastItsLine_dict (Nat.le_trans hcD (by rw [List.length_cons]; omega))) ?_)
  exact wpAny_pure (h _ ⟨(hs2.2 _ (Ne.symm I.ne)).trans I.obj, hn2, I.ne⟩ hs2)
theorem make_map {R : Result → Shared → Prop} {vs : List Value} {kw : List (Str × Value)} (X : K.In s.heap) (hm : PySem.W.makesIn K C = true)
    (hi : PySem.W.findIn K (.ref C) "__init__" = some (some (.ref f))) (hf : PySem.W.typeIn K (.ref f) = some (.type "function"))
    (h : codeAny (model prog w) (A.under (.builtin "type.__call__" ⟨.ref C :: vs, kw⟩)) (.call (.ref f) ⟨.ref (s.heap.objs.size + 1) :: vs, kw⟩) (PySem.W.InitBack (s.heap.objs.size + 1) R)
      { s with heap := (s.heap.push PySem.W.emptyDict).push (PySem.W.instObj C s.heap.objs.size) }) :
    codeAny (model prog w) A (.call (.ref C) ⟨vs, kw⟩) R s := by
  obtain ⟨hh, g, d, t, os⟩ := s
  exact PySem.W.make_core (PySem.W.makes_of X hm) (PySem.W.looks_findIn X hi) (fun self => PySem.W.bind_fn X self hf) (.inl rfl) h
end
def putF (f : Str) (v : V) : List (Str × V) → List (Str × V)
  | [] => [(f, v)]
  | (g, x) :: r => if g = f then (g, v) :: r else (g, x) :: putF f v r
theorem lookup_putF (f g : Str) (v : V) : ∀ fs : List (Str × V), (putF f v fs).lookup g = if g = f then some v else fs.lookup g
  | [] => by
    show List.lookup g [(f, v)] = _
    by_cases h : g = f
    · have hb : (g == f) = true := beq_iff_eq.mpr h
      simp only [List.lookup, hb, if_pos h]
    · have hb : (g == f) = false := beq_eq_false_iff_ne.mpr h
      simp only [List.lookup, hb, if_neg h]
  | (k, x) :: r => by
    have ih := lookup_putF f g v r
    rw [show putF f v ((k, x) :: r) = (if k = f then (k, v) :: r else (k, x) :: putF f v r) from rfl]
    by_cases hk : k = f
    · rw [if_pos hk]
      by_cases h : g = k
      · have hb : (g == k) = true := beq_iff_eq.mpr h
        simp only [List.lookup, hb, if_pos (h.trans hk)]
      · have hb : (g == k) = false := beq_eq_false_iff_ne.mpr h
        simp only [List.lookup, hb, if_neg (fun e : g = f => h (e.trans hk.symm))]
    · rw [if_neg hk]
      by_cases h : g = k
      · have hb : (g == k) = true := beq_iff_eq.mpr h
        simp only [List.lookup, hb, if_neg (fun e : g = f => hk (h.symm.trans e))]
      · have hb : (g == k) = false := beq_eq_false_iff_ne.mpr h
        simp only [List.lookup, hb]
        exact ih
theorem keys_putF (f : Str) (v : V) : ∀ fs : List (Str × V), f ∈ (putF f v fs).map (·.1) ∧ ∀ g, g ∈ fs.map (·.1) → g ∈ (putF f v fs).map (·.1)
  | [] => ⟨by simp [putF], fun g h => by simp at h⟩
  | (k, x) :: r => by
    obtain ⟨i1, i2⟩ := keys_putF f v r
    rw [show putF f v ((k, x) :: r) = (if k = f then (k, v) :: r else (k, x) :: putF f v r) from rfl]
    by_cases hk : k = f
    · rw [if_pos hk]
      subst hk
      exact ⟨by simp, fun g h => by simpa using h⟩
    · rw [if_neg hk]
      refine ⟨?_, fun g h => ?_⟩
      · rw [List.map_cons]
        exact List.mem_cons_of_mem _ i1
      · rw [List.map_cons] at h ⊢
        rcases List.mem_cons.mp h with e | e
        · exact List.mem_cons.mpr (.inl e)
        · exact List.mem_cons_of_mem _ (i2 g e)
theorem length_putF (f : Str) (v : V) : ∀ fs : List (Str × V), (putF f v fs).length ≤ fs.length + 1
  | [] => by simp [putF]
  | (k, x) :: r => by
    have ih := length_putF f v r
    rw [show putF f v ((k, x) :: r) = (if k = f then (k, v) :: r else (k, x) :: putF f v r) from rfl]
    by_cases hk : k = f
    · rw [if_pos hk, List.length_cons, List.length_cons]; omega
    · rw [if_neg hk, List.length_cons, List.length_cons]; omega
theorem RelO.some_of {v : V} {o : Option Value} (r : RelO (some v) o) : ∃ u, o = some u ∧ RelV v u := by
  cases o with
  | none => exact (show False from r).elim
  | some u => exact ⟨u, rfl, r⟩
theorem RelO.none_of {o : Option Value} (r : RelO none o) : o = none := by
  cases o with
  | none => rfl
  | some u => exact (show False from r).elim
theorem handed_of {v : V} {u : Value} (r : RelV v u) : PySem.W.handedIn u = true := by
  cases v with
  | non => cases (show u = Value.none from r); rfl
  | bl b => cases (show u = Value.bool b from r); rfl
  | int i => obtain ⟨t, e⟩ := (show ∃ t, u = Value.int i t from r); cases e; rfl
  | str x => obtain ⟨t, e⟩ := (show ∃ t, u = Value.str x t from r); cases e; rfl
  | byt b => obtain ⟨t, e⟩ := (show ∃ t, u = Value.bytes b t from r); cases e; rfl
  | flt b => obtain ⟨t, e⟩ := (show ∃ t, u = Value.float b t from r); cases e; rfl
  | ref a => cases (show u = Value.ref a from r); rfl
  | ty n => cases (show u = Value.type n from r); rfl
section
variable {P : Program} {w : World} {H H' : Hp} {h h' : Heap} {a C dx : Addr} {fs fs' : List (Str × V)}
theorem ins_get (hok : HOk P w H h) (e : H a = some (.ins C dx fs)) : ∃ mA, ObjM h a dx C mA ∧ (∀ f, RelO (fs.lookup f) (mA f)) ∧ PySem.Within mA (fs.map (·.1)) ∧ fs.length ≤ 1000 ∧ H dx = some (.own a) := by
  obtain ⟨d, z, ne, ob, mA, n, r, q⟩ := (show ObjOk P w H h a (.ins C dx fs) from hok a _ e)
  exact ⟨mA, ⟨ob, n, ne⟩, r, q, z, d⟩
end
structure Cls (K : PySem.W.Frag) (C : Addr) : Prop where
  pg : PySem.W.plainGet K C Str.empty = true
  hd : PySem.W.hasDictIn K C = true
  po : PySem.W.plainOver K C = true
  sa : PySem.W.findIn K (.ref C) "__setattr__" = some (some (.builtin "object.__setattr__"))
theorem Cls.get {K : PySem.W.Frag} {C : Addr} (c : Cls K C) (f : Str) : PySem.W.plainGet K C f = true := c.pg
def NoAttr (K : PySem.W.Frag) (C : Addr) (f : Str) : Prop := PySem.W.findIn K (.ref C) f = some none
theorem NoAttr.taker {K : PySem.W.Frag} {C : Addr} {f : Str} (n : NoAttr K C f) : PySem.W.takerIn K C f = some none := by
  unfold PySem.W.takerIn
  rw [show PySem.W.findIn K (.ref C) f = some none from n]
  rfl
structure Meth (K : PySem.W.Frag) (C : Addr) (m : Str) (f : Addr) : Prop where
  at_ : PySem.W.findIn K (.ref C) m = some (some (.ref f))
  fn : PySem.W.isFn K (.ref f) = true
  kp : PySem.W.keepIn K (.ref f) = true
section
variable {X : Cx} {pins : List (Addr × Obj)} {σ : St} {H : Hp} {s : Shared} {a C dx : Addr} {fs : List (Str × V)} {f : Str} {v : V} {A : Around} {E : Value → Shared → Prop}
theorem getattr_ok {b : Bool} {Q : Value → Shared → Prop} (I : Inv X pins σ H s) (e : H a = some (.ins C dx fs)) (c : Cls X.K C) (n : NoAttr X.K C f) (l : fs.lookup f = some v)
    (h : ∀ u s', Inv X pins σ H s' → RelV v u → Q u s') : wpAny (model X.prog X.w) A (getAttr (.ref a) f b) Q E s := by
  obtain ⟨mA, O, r, _, _, _⟩ := ins_get I.hok e
  obtain ⟨u, hu, ru⟩ := RelO.some_of (v := v) (o := mA f) (by rw [← l]; exact r f)
  exact get_map I.kIn O (c.get f) c.hd n hu (handed_of ru) (h u _ (I.tok _) ru)
theorem getmeth_ok {m : Str} {g : Addr} {pl : Sem Bool} {Q : Value × List Value → Shared → Prop} (I : Inv X pins σ H s) (e : H a = some (.ins C dx fs)) (c : Cls X.K C) (k : Meth X.K C m g) (l : fs.lookup m = none)
    (h : Q (.ref g, [.ref a]) s) : wpAny (model X.prog X.w) A (getMethod (.ref a) m pl) Q E s := by
  obtain ⟨mA, O, r, _, _, _⟩ := ins_get I.hok e
  have hn : mA m = none := RelO.none_of (by rw [← l]; exact r m)
  exact get_meth I.kIn O (c.get m) k.at_ k.fn hn h
theorem setattr_ok {y : V} {u : Value} {Q : Unit → Shared → Prop} (I : Inv X pins σ H s) (e : H a = some (.ins C dx fs)) (c : Cls X.K C) (n : NoAttr X.K C f) (hl : fs.length < 1000) (ry : RelV y u)
    (h : ∀ s', Inv X pins σ (upd H a (.ins C dx (putF f y fs))) s' → Q () s') : wpAny (model X.prog X.w) A (setAttr (.ref a) f u) Q E s := by
  obtain ⟨mA, O, r, wi, _, ho⟩ := ins_get I.hok e
  have hz : (fs.map (·.1)).length ≤ sizeLine := by rw [List.length_map, sizeLine_eq]; omega
  refine set_map I.kIn O c.sa c.po n.taker c.hd wi hz fun h' O' sb => h _ ?_
  have hd : ∃ o, h'.get? dx = some o := let ⟨o, _, _, e', _⟩ := O'.ns; ⟨o, e'⟩
  refine I.write (x := a) (e := dx) (by rw [e]; exact True.intro) (.inr ho) (fun b q hb z => (sb.2 b hb).trans z) hd ?_
  refine ⟨by rw [upd_ne O.ne]; exact ho, ?_, O.ne, O'.obj, _, O'.ns, fun g => ?_, fun g hg => ?_⟩
  · have := length_putF f y fs; omega
  · show RelO ((putF f y fs).lookup g) (if g = f then some u else mA g)
    rw [lookup_putF]
    by_cases q : g = f
    · rw [if_pos q, if_pos q]; exact ry
    · rw [if_neg q, if_neg q]; exact r g
  · by_cases q : g = f
    · rw [q]; exact (keys_putF f y fs).1
    · refine (keys_putF f y fs).2 g (wi g fun z => hg ?_)
      show (if g = f then some u else mA g) = none
      rw [if_neg q]; exact z
theorem Inv.made (I : Inv X pins σ H s) : Inv X pins σ (upd (upd H s.heap.objs.size (.own (s.heap.objs.size + 1))) (s.heap.objs.size + 1) (.ins C s.heap.objs.size []))
    { s with heap := (s.heap.push PySem.W.emptyDict).push (PySem.W.instObj C s.heap.objs.size) } := by
  have e1 : (s.heap.push PySem.W.emptyDict).get? s.heap.objs.size = some PySem.W.emptyDict := Heap.get?_push_size s.heap rfl
  have e2 : ((s.heap.push PySem.W.emptyDict).push (PySem.W.instObj C s.heap.objs.size)).get? (s.heap.objs.size + 1) = some (PySem.W.instObj C s.heap.objs.size) := by
    have := Heap.get?_push_size (s.heap.push PySem.W.emptyDict) (o := PySem.W.instObj C s.heap.objs.size) rfl
    rwa [Heap.size_push] at this
  have e3 : (s.heap.push PySem.W.emptyDict).Ns s.heap.objs.size (fun _ => none) := ⟨PySem.W.emptyDict, #[], _, e1, rfl, (fun e he => absurd he (by simp)), fun _ => rfl⟩
  have I1 := I.laid (a := s.heap.objs.size) (o := .own (s.heap.objs.size + 1)) (h' := s.heap.push PySem.W.emptyDict) (t' := s.toks) (fun b u q => Heap.get?_push_of_some _ q) (Nat.le_refl _) ⟨_, e1⟩
  refine I1.laid (a := s.heap.objs.size + 1) (o := .ins C s.heap.objs.size []) (t' := s.toks) (fun b u q => Heap.get?_push_of_some _ q) (Nat.le_of_eq (Heap.size_push _ _)) ?_
  have ne : s.heap.objs.size ≠ s.heap.objs.size + 1 := Nat.ne_of_lt (Nat.lt_succ_self _)
  refine ⟨by rw [upd_ne ne, upd_same], Nat.zero_le _, ne, e2, fun _ => none, (Heap.Ns1.of_empty e3).at fun o q => Heap.get?_push_of_some _ q, fun _ => True.intro, fun y hy => absurd rfl hy⟩
theorem attr_of {prog : Program} {w : World} {env : Env} {e : Expr} {f : Str} {pos : Pos} {s : Shared} {Q : Value → Shared → Prop} (hb : attributeBase e f env (eval e env) = eval e env)
    (h : wpAny (model prog w) A (eval e env) (fun o s₁ => wpAny (model prog w) A (getAttr o f true) Q E s₁) E s) : wpAny (model prog w) A (eval (.Attribute e f pos) env) Q E s :=
  Attribute_any_ h (by rw [arm_eval_Attribute, hb])
end
def tFld (K : PySem.W.Frag) (ta : TE) (f : Str) : TE := fun σ H Q => ta σ H fun x H1 => ∃ a C dx fs v, x = .ref a ∧ H1 a = some (.ins C dx fs) ∧ Cls K C ∧ NoAttr K C f ∧ fs.lookup f = some v ∧ Q v H1
def sFld (K : PySem.W.Frag) (ta tv : TE) (f : Str) : TS := fun D σ H => tv σ H fun y H1 => ta σ H1 fun x H2 => ∃ a C dx fs, x = .ref a ∧ H2 a = some (.ins C dx fs) ∧ Cls K C ∧ NoAttr K C f ∧ fs.length < 1000 ∧
  D.nx σ (upd H2 a (.ins C dx (putF f y fs)))
def InOp (X : Cx) (op : Operator) (rd : V → V → Hp → VK → Prop) : Prop :=
  ∀ (pins : List (Addr × Obj)) (s : Shared) (σ : St) (H : Hp) (x y : V) (u v : Value) (Q : VK), Inv X pins σ H s → RelV x u → RelV y v → rd x y H Q → wpAny (model X.prog X.w) X.A (inplaceOp op u v) (EP X pins σ Q) X.xe s
def sFldAug (K : PySem.W.Frag) (ta tv : TE) (rd : V → V → Hp → VK → Prop) (f : Str) : TS := fun D σ H => ta σ H fun x H1 => ∃ a C dx fs v, x = .ref a ∧ H1 a = some (.ins C dx fs) ∧ Cls K C ∧ NoAttr K C f ∧ fs.lookup f = some v ∧
  tv σ H1 fun y H2 => rd v y H2 fun z H3 => ∃ dx' fs', H3 a = some (.ins C dx' fs') ∧ fs'.length < 1000 ∧ D.nx σ (upd H3 a (.ins C dx' (putF f z fs')))
section
variable {X : Cx} {o e value : Expr} {f : Str} {pos pos' tpos : Pos} {ta tv : TE}
theorem pe_fld (he : PE X e ta) (hb : attributeBase e f X.env (eval e X.env) = eval e X.env) : PE X (.Attribute e f pos) (tFld X.K ta f) := by
  intro pins s σ H Q I h
  refine attr_of hb (thn (he pins s σ H _ I h) fun u s1 ⟨x, H1, I1, rx, a, C, dx, fs, v, ex, ea, c, n, l, q⟩ => ?_)
  subst ex
  obtain rfl : u = Value.ref a := rx
  exact getattr_ok I1 ea c n l fun u' s2 I2 ru => ⟨v, H1, I2, ru, q⟩
theorem ps_fld (ha : PE X o ta) (hv : PE X value tv) (hs : swapsWith value (some (.Attribute o f pos')) pos.line X.env = pure false) : PS X (.Assign [.Attribute o f pos'] value pos) (sFld X.K ta tv f) := by
  intro pins s σ H D I h
  refine plainObj_wpAny_Assign_Attribute (thn (hv pins s σ H _ I h) fun u s1 ⟨y, H1, I1, ry, q⟩ => thn (ha pins s1 σ H1 _ I1 q) fun ov s2 ⟨x, H2, I2, rx, a, C, dx, fs, ex, ea, c, n, l, q2⟩ => ?_) hs
  subst ex
  obtain rfl : ov = Value.ref a := rx
  exact setattr_ok I2 ea c n l ry fun s3 I3 => ⟨σ, _, I3, q2⟩
theorem ps_fldaug {op : Operator} {rd : V → V → Hp → VK → Prop} (ha : PE X o ta) (hv : PE X value tv) (hop : InOp X op rd) : PS X (.AugAssign (.Attribute o f tpos) op value pos) (sFldAug X.K ta tv rd f) := by
  intro pins s σ H D I h
  refine wpAny_AugAssign_AttributeAny (thn (ha pins s σ H _ I h) fun ov s1 ⟨x, H1, I1, rx, a, C, dx, fs, v, ex, ea, c, n, l, q⟩ => ?_)
  subst ex
  obtain rfl : ov = Value.ref a := rx
  refine getattr_ok I1 ea c n l fun u s2 I2 ru => thn (hv pins s2 σ H1 _ I2 q) fun w3 s3 ⟨y, H2, I3, ry, q3⟩ => thn (hop pins s3 σ H2 v y u w3 _ I3 ru ry q3) fun w4 s4 ⟨z, H3, I4, rz, dx', fs', ea', l', q4⟩ => ?_
  exact setattr_ok I4 ea' c n l' rz fun s5 I5 => ⟨σ, _, I5, q4⟩
def rAdd : V → V → Hp → VK → Prop := fun x y H Q => ∃ i j, x = .int i ∧ y = .int j ∧ Q (.int (i + j)) H
theorem in_add : InOp X .Add rAdd := by
  rintro pins s σ H x y u v Q I rx ry ⟨i, j, rfl, rfl, q⟩
  obtain ⟨t, rfl⟩ := (show ∃ t, u = Value.int i t from rx)
  obtain ⟨t', rfl⟩ := (show ∃ t', v = Value.int j t' from ry)
  exact PyProof.Rows.iadd_int ⟨.int (i + j), H, I.tok _, ⟨_, rfl⟩, q⟩
end
section
variable {X : Cx} {pins : List (Addr × Obj)} {σ : St} {H : Hp} {s : Shared} {A : Around} {E : Value → Shared → Prop} {Q : Value → Shared → Prop} {c : Value} {b : Bool}
inductive TyOf (K : PySem.W.Frag) (H : Hp) : V → Value → Prop where
  | non : TyOf K H .non (.type "NoneType")
  | bl (x : Bool) : TyOf K H (.bl x) (.type "bool")
  | int (i : Int) : TyOf K H (.int i) (.type "int")
  | str (x : Str) : TyOf K H (.str x) (.type "str")
  | flt (x : UInt64) : TyOf K H (.flt x) (.type "float")
  | lst {a : Addr} {xs : List V} (e : H a = some (.lst xs)) : TyOf K H (.ref a) (.type "list")
  | frz {a : Addr} {o : Obj} {xs : List V} (e : H a = some (.frz o (.lst xs))) : TyOf K H (.ref a) (.type "list")
  | tup {a : Addr} {xs : List V} (e : H a = some (.tup xs)) : TyOf K H (.ref a) (.type "tuple")
  | dK {a : Addr} {kvs : List (Key × V)} (e : H a = some (.dK kvs)) : TyOf K H (.ref a) (.type "dict")
  | dT {a : Addr} {kvs : List (List Key × V)} (e : H a = some (.dT kvs)) : TyOf K H (.ref a) (.type "dict")
  | ins {a C dx : Addr} {fs : List (Str × V)} (e : H a = some (.ins C dx fs)) (cl : Cls K C) (ha : PySem.W.findIn K (.ref C) "__class__" = some (some (.builtin "object.__class__")))
      (hn : PySem.W.specialIn K (.builtin "object.__class__") "__get__" = some (some (.builtin "getset_descriptor.__get__"))) (htk : PySem.W.takesIn K (.builtin "object.__class__") = some true)
      (hm : PySem.W.mroIn K C (.type "object") = some true) : TyOf K H (.ref a) (.ref C)
end
end L2
namespace L2
open PySem PySem.Spec PyProof.Rows
structure Room (k : Nat) (A : Around) : Prop where
  hd : A.handled = none
  dp : A.depth + 3 * k + 5 < recursionLimit
  un : A.units + 16 * k + 200 < cLine
theorem Room.mono {j k : Nat} {A : Around} (r : Room k A) (h : j ≤ k) : Room j A := ⟨r.hd, by have := r.dp; omega, by have := r.un; omega⟩
theorem Room.deeper {k : Nat} {A : Around} (r : Room (k + 1) A) (env : Env) : Room k (A.deeper env) :=
  ⟨r.hd, by have := r.dp; show A.depth + 1 + 3 * k + 5 < _; omega, by have := r.un; show A.units + 3 + 16 * k + 200 < _; omega⟩
theorem make_depth {A : Around} {C : Addr} {us : List Value} {kw : List (Str × Value)} : (A.under (.builtin "type.__call__" ⟨.ref C :: us, kw⟩)).depth = A.depth + 1 := by
  first | rfl | simp [Around.under, Code.weight, Code.isCreation, Code.isGuard, Code.isCaller, Code.frames, Code.isFrame, guardIds]
theorem make_units {A : Around} {C : Addr} {us : List Value} {kw : List (Str × Value)} : (A.under (.builtin "type.__call__" ⟨.ref C :: us, kw⟩)).units = A.units + 1 := by
  first | rfl | simp [Around.under, Code.cUnits, Code.frames, Code.isFrame]
theorem Room.make {k : Nat} {A : Around} (r : Room (k + 1) A) (C : Addr) (us : List Value) (kw : List (Str × Value)) : Room k (A.under (.builtin "type.__call__" ⟨.ref C :: us, kw⟩)) :=
  ⟨r.hd, by have := r.dp; rw [make_depth]; omega, by have := r.un; rw [make_units]; omega⟩
theorem Room.depth {k : Nat} {A : Around} (r : Room k A) : A.depth < recursionLimit := by have := r.dp; omega
theorem Room.units0 {k : Nat} {A : Around} (r : Room k A) : A.units < cLine := by have := r.un; omega
def tNil : TA := fun _ H Q => Q [] H
def tCons (ta : TE) (tr : TA) : TA := fun σ H Q => ta σ H fun x H1 => tr σ H1 fun xs H2 => Q (x :: xs) H2
section
variable {X : Cx} {e : Expr} {es : List Expr} {te : TE} {t : TA} {pos : Pos}
theorem pa_nil : PA X [] tNil := fun _ _ _ _ H Q I h => Calls.spliced_nil ⟨[], H, I, .nil, h⟩
theorem pa_cons (ha : PE X e te) (hr : PA X es t) (hs : starEach (e :: es) X.env = (false, eval e X.env) :: starEach es X.env := by rfl) : PA X (e :: es) (tCons te t) := by
  intro pos pins s σ H Q I h
  rw [hs]
  show wpAny _ _ (spliced ((false, eval e X.env) :: backTo pos (starEach es X.env))) _ _ s
  refine Calls.spliced_cons (thn (ha pins s σ H _ I h) fun u s1 ⟨x, H1, I1, r1, q1⟩ => ?_)
  exact thn (hr pos pins s1 σ H1 _ I1 q1) fun us s2 ⟨xs, H2, I2, r2, q2⟩ => ⟨x :: xs, H2, I2, .cons r1 r2, q2⟩
def tTup (t : TA) : TE := fun σ H Q => t σ H fun xs H1 => xs.length ≤ sizeLine ∧ ∀ p, H1 p = none → Q (.ref p) (upd H1 p (.tup xs))
def tLst (t : TA) : TE := fun σ H Q => t σ H fun xs H1 => xs.length ≤ sizeLine ∧ ∀ p, H1 p = none → Q (.ref p) (upd H1 p (.lst xs))
theorem pe_tup {x1} (h : PA X es t) : PE X (.Tuple es x1 pos) (tTup t) := by
  intro pins s σ H Q I hq
  refine wpAny_Tuple_spliced (thn (h pos pins s σ H _ I hq) fun us s1 ⟨xs, H1, I1, r, z, q⟩ => ⟨by rw [← r.length]; exact z, ?_⟩)
  have hf : H1 s1.heap.objs.size = none := I1.hok.fresh (Nat.le_refl _)
  refine ⟨.ref s1.heap.objs.size, upd H1 s1.heap.objs.size (.tup xs), I1.laid (t' := s1.toks) (fun b u e => Heap.get?_push_of_some _ e) (Nat.le_refl _) ?_, rfl, q _ hf⟩
  exact ⟨z, us, r, ⟨_, Heap.get?_push_size _ rfl, rfl, _, rfl⟩⟩
theorem pe_lst (h : PA X es t) : PE X (.List es pos) (tLst t) := by
  intro pins s σ H Q I hq
  refine wpAny_List_spliced (thn (h pos pins s σ H _ I hq) fun us s1 ⟨xs, H1, I1, r, z, q⟩ => ⟨by rw [← r.length]; exact z, ?_⟩)
  have hf : H1 s1.heap.objs.size = none := I1.hok.fresh (Nat.le_refl _)
  refine ⟨.ref s1.heap.objs.size, upd H1 s1.heap.objs.size (.lst xs), I1.laid (t' := s1.toks) (fun b u e => Heap.get?_push_of_some _ e) (Nat.le_refl _) ?_, rfl, q _ hf⟩
  exact ⟨z, us, 0, r, Heap.get?_push_size _ rfl⟩
end
abbrev Sp := List V → Hp → VK → XK → Prop
abbrev CXT := List Env → Hp → Shared → XK → Value → Shared → Prop
structure Env0 (P : Program) (w : World) (K : PySem.W.Frag) (mg : Str → Option Value) (base : Heap) (A : Around) (outer : List Env) (s : Shared) (H : Hp) : Prop where
  frames : A.frames = some outer
  mod : Mod K mg base
  bs : ∀ b o, base.get? b = some o → s.heap.get? b = some o ∧ H b = none
  bsz : base.objs.size ≤ s.heap.objs.size
  funs : s.heap.FunFrames base outer
  frf : ∀ b ∈ frs outer, H b = none
  hok : HOk P w H s.heap
  bare : AllBare s.gens
def CE (outer : List Env) (P : Program) (w : World) (H : Hp) (s : Shared) (Q : VK) (u : Value) (s' : Shared) : Prop :=
  ∃ v H', s'.os = s.os ∧ AllBare s'.gens ∧ Un (frs outer) [] H H' s.heap s'.heap ∧ HOk P w H' s'.heap ∧ RelV v u ∧ Q v H'
def CR (CX : CXT) (outer : List Env) (P : Program) (w : World) (H : Hp) (s : Shared) (Q : VK) (E : XK) (r : Result) (s' : Shared) : Prop :=
  match r with
  | .ok (.ret u) => CE outer P w H s Q u s'
  | .ok _ => False
  | .error e => CX outer H s E e s'
structure FnOk (P : Program) (w : World) (K : PySem.W.Frag) (mg : Str → Option Value) (base : Heap) (CX : CXT) (k : Nat) (f : Addr) (fd : FuncData) (ps : List Str) (sp : Sp) : Prop where
  len : ∀ vs H Q E, sp vs H Q E → vs.length = ps.length
  run : ∀ (A : Around) (outer : List Env) (s : Shared) (H : Hp) (args : Args) (us : List Value) (vs : List V) (Q : VK) (E : XK), Room k A → Env0 P w K mg base A outer s H → BindsTo s fd args (ps.zip us) → Vals vs us → sp vs H Q E →
    codeAny (model P w) A (.call (.ref f) args) (CR CX outer P w H s Q E) s
theorem Env0.make {P : Program} {w : World} {K : PySem.W.Frag} {mg : Str → Option Value} {base : Heap} {A : Around} {outer : List Env} {s : Shared} {H : Hp} (e : Env0 P w K mg base A outer s H) (C : Addr) (us : List Value) (kw : List (Str × Value)) :
    Env0 P w K mg base (A.under (.builtin "type.__call__" ⟨.ref C :: us, kw⟩)) outer s H := ⟨by first | exact e.frames | (simpa [Around.under, Code.envs, Code.isFrame, pushEnvs] using e.frames), e.mod, e.bs, e.bsz, e.funs, e.frf, e.hok, e.bare⟩
section
variable {X : Cx} {pins : List (Addr × Obj)} {σ : St} {H : Hp} {s s' : Shared}
theorem Inv.env0 (I : Inv X pins σ H s) : Env0 X.prog X.w X.K X.mg X.base X.A X.stack s H :=
  ⟨I.ok.frames, I.ok.mod, I.bs, Nat.le_trans I.ok.bsz I.sz, I.stack, I.stkFree, I.hok, I.bare⟩
theorem Inv.after {Q : VK} {u : Value} (I : Inv X pins σ H s) (h : CE X.stack X.prog X.w H s Q u s') : EP X pins σ Q u s' := by
  obtain ⟨v, H', os, bare, un, hok, r, q⟩ := h
  obtain ⟨hh, g, d, t, os'⟩ := s'
  obtain rfl : os' = s.os := os
  exact ⟨v, H', I.call (h' := hh) (g' := g) (d' := d) (t' := t) (ch := []) un hok bare (fun b z => absurd z (by simp)), r, q⟩
end
def tCall (sp : Sp) (dvs : List V) (E : XK) (t : TA) : TE := fun σ H Q => t σ H fun vs H1 => sp (vs ++ dvs) H1 Q E
def tMeth (C : Addr) (m : Str) (sp : Sp) (dvs : List V) (E : XK) (ta : TE) (t : TA) : TE := fun σ H Q => ta σ H fun x H1 => ∃ a dx fs, x = .ref a ∧ H1 a = some (.ins C dx fs) ∧ fs.lookup m = none ∧
  t σ H1 fun vs H2 => sp (x :: (vs ++ dvs)) H2 Q E
def tMake (C : Addr) (sp : Sp) (dvs : List V) (E : XK) (t : TA) : TE := fun σ H Q => t σ H fun vs H1 => ∀ x dx, H1 x = none → H1 dx = none → dx ≠ x →
  sp (.ref x :: (vs ++ dvs)) (upd (upd H1 dx (.own x)) x (.ins C dx [])) (fun v H2 => v = .non ∧ Q (.ref x) H2) E
def Binds (K : PySem.W.Frag) (fd : FuncData) (ps : List Str) (ds : List Value) : Prop :=
  ∀ (s : Shared) (us : List Value), K.In s.heap → (us ++ ds).length = ps.length → BindsTo s fd ⟨us, []⟩ (ps.zip (us ++ ds))
theorem Binds.all {K : PySem.W.Frag} {fd : FuncData} {ps : List Str} (h : ∀ us : List Value, us.length = ps.length → bindArgs fd ⟨us, []⟩ = pure (ps.zip us)) : Binds K fd ps [] := fun s us _ hl => by
  rw [List.append_nil] at hl ⊢
  exact .of_eq (h us hl)
def Passes (CX : CXT) (X : Cx) (E : XK) : Prop := ∀ (pins : List (Addr × Obj)) (σ : St) (H : Hp) (s : Shared) (e : Value) (s' : Shared), Inv X pins σ H s → CX X.stack H s E e s' → X.xe e s'
section
variable {X : Cx} {CX : CXT} {k : Nat} {f C : Addr} {fd : FuncData} {ps : List Str} {sp : Sp} {dvs : List V} {ds : List Value} {E : XK} {x m : Str} {p pos apos : Pos} {e o : Expr} {es : List Expr} {ta : TE} {t : TA}
theorem run_fn {pins : List (Addr × Obj)} {σ : St} {H : Hp} {s : Shared} {Q : VK} {us : List Value} {vs : List V} (F : FnOk X.prog X.w X.K X.mg X.base CX k f fd ps sp) (hr : Room k X.A) (hb : Binds X.K fd ps ds) (hd : Vals dvs ds) (hx : Passes CX X E)
    (I : Inv X pins σ H s) (r : Vals vs us) (h : sp (vs ++ dvs) H Q E) : wpAny (model X.prog X.w) X.A (call (.ref f) us) (EP X pins σ Q) X.xe s := by
  have r2 : Vals (vs ++ dvs) (us ++ ds) := r.append hd
  have hl : (us ++ ds).length = ps.length := by rw [← r2.length]; exact F.len _ _ _ _ h
  refine wpAny_call (codeAny_mono (F.run X.A X.stack s H ⟨us, []⟩ (us ++ ds) (vs ++ dvs) Q E hr I.env0 (hb s us I.kIn hl) r2 h) fun r s' hq => ?_)
  cases r with
  | error e => exact hx pins σ H s e s' I hq
  | ok fl =>
    cases fl with
    | ret u => exact I.after hq
    | next => exact False.elim hq
    | brk => exact False.elim hq
    | cont => exact False.elim hq
theorem pe_call (F : FnOk X.prog X.w X.K X.mg X.base CX k f fd ps sp) (hr : Room k X.A) (hg : Gl X x) (hm : X.mg x = some (.ref f)) (hk : PySem.W.keepIn X.K (.ref f) = true) (hb : Binds X.K fd ps ds) (hd : Vals dvs ds) (hx : Passes CX X E)
    (ha : PA X (e :: es) t) (hdb : (x == ("__debug__" : Str)) = false := by decide) (he : starEach (e :: es) X.env = (false, eval e X.env) :: starEach es X.env := by rfl) (hpl : (backTo pos (starEach es X.env)).any (·.1) = false := by rfl) :
    PE X (.Call (.Name x p) (e :: es) [] pos) (tCall sp dvs E t) := by
  intro pins s σ H Q I h
  refine wpAny_Call_Name_kw (ld_glob I hg hm ?_ hdb)
  refine PySem.W.callWith_K (h₀ := X.base) I.ok.mod.kin hk (thn (ha pos pins s σ H _ I h) fun us s1 ⟨vs, H1, I1, r, q⟩ => ⟨I1.kIn, ?_⟩) he hpl
  exact run_fn F hr hb hd hx I1 r q
theorem pe_meth {pl : Sem Bool} (he : PE X o ta) (c : Cls X.K C) (hm : Meth X.K C m f) (F : FnOk X.prog X.w X.K X.mg X.base CX k f fd ps sp) (hr : Room k X.A) (hb : Binds X.K fd ps ds) (hd : Vals dvs ds) (hx : Passes CX X E) (ha : PA X (e :: es) t)
    (hst : starEach (e :: es) X.env = (false, eval e X.env) :: starEach es X.env := by rfl) (hpl : (backTo pos (starEach es X.env)).any (·.1) = false := by rfl)
    (ht : eval (.Call (.Attribute o m apos) (e :: es) [] pos) X.env = (do
      let ov ← eval o X.env
      standAt apos.atName
      let (f, first) ← holding [ov] (getMethod ov m pl)
      callWith pos f first (backTo pos (starEach (e :: es) X.env)) (backToKw pos (keywordEach [] X.env))) := by rfl) :
    PE X (.Call (.Attribute o m apos) (e :: es) [] pos) (tMeth C m sp dvs E ta t) := by
  intro pins s σ H Q I h
  refine PySem.W.methodCall_KW (pl := pl) (thn (he pins s σ H _ I h) fun u s1 ⟨x, H1, I1, rx, a, dx, fs, ex, ea, l, q⟩ => ?_) ht
  subst ex
  obtain rfl : u = Value.ref a := rx
  refine getmeth_ok I1 ea c hm l ?_
  refine PySem.W.callWith_K (first := [.ref a]) (h₀ := X.base) I.ok.mod.kin hm.kp (thn (ha pos pins s1 σ H1 _ I1 q) fun us s2 ⟨vs, H2, I2, r, q2⟩ => ⟨I2.kIn, ?_⟩) hst hpl
  exact run_fn (us := .ref a :: us) (vs := .ref a :: vs) F hr hb hd hx I2 (.cons rfl r) q2
theorem pe_meth0 {pl : Sem Bool} (he : PE X o ta) (c : Cls X.K C) (hm : Meth X.K C m f) (F : FnOk X.prog X.w X.K X.mg X.base CX k f fd ps sp) (hr : Room k X.A) (hb : Binds X.K fd ps ds) (hd : Vals dvs ds) (hx : Passes CX X E)
    (ht : eval (.Call (.Attribute o m apos) [] [] pos) X.env = (do
      let ov ← eval o X.env
      standAt apos.atName
      let (f, first) ← holding [ov] (getMethod ov m pl)
      callWith pos f first (backTo pos (starEach [] X.env)) (backToKw pos (keywordEach [] X.env))) := by rfl) :
    PE X (.Call (.Attribute o m apos) [] [] pos) (tMeth C m sp dvs E ta tNil) := by
  intro pins s σ H Q I h
  refine PySem.W.methodCall_KW (pl := pl) (thn (he pins s σ H _ I h) fun u s1 ⟨x, H1, I1, rx, a, dx, fs, ex, ea, l, q⟩ => ?_) ht
  subst ex
  obtain rfl : u = Value.ref a := rx
  refine getmeth_ok I1 ea c hm l ?_
  exact PySem.W.callWith_K0 (first := [.ref a]) I1.kIn hm.kp (run_fn (us := [.ref a]) (vs := [.ref a]) F hr hb hd hx I1 (.cons rfl .nil) q)
structure Mk (K : PySem.W.Frag) (C f : Addr) : Prop where
  makes : PySem.W.makesIn K C = true
  init : PySem.W.findIn K (.ref C) "__init__" = some (some (.ref f))
  fn : PySem.W.isFn K (.ref f) = true
  kp : PySem.W.keepIn K (.ref C) = true
theorem run_make {pins : List (Addr × Obj)} {σ : St} {H : Hp} {s : Shared} {Q : VK} {us : List Value} {vs : List V} (M : Mk X.K C f) (F : FnOk X.prog X.w X.K X.mg X.base CX k f fd ps sp) (hr : Room (k + 1) X.A) (hb : Binds X.K fd ps ds) (hd : Vals dvs ds)
    (hx : Passes CX X E) (I : Inv X pins σ H s) (r : Vals vs us)
    (h : ∀ x dx, H x = none → H dx = none → dx ≠ x → sp (.ref x :: (vs ++ dvs)) (upd (upd H dx (.own x)) x (.ins C dx [])) (fun v H2 => v = .non ∧ Q (.ref x) H2) E) :
    wpAny (model X.prog X.w) X.A (call (.ref C) us) (EP X pins σ Q) X.xe s := by
  have hq := h (s.heap.objs.size + 1) s.heap.objs.size (I.hok.fresh (Nat.le_succ _)) (I.hok.fresh (Nat.le_refl _)) (Nat.ne_of_lt (Nat.lt_succ_self _))
  have I2 := Inv.made (C := C) I
  have r2 : Vals (V.ref (s.heap.objs.size + 1) :: (vs ++ dvs)) (Value.ref (s.heap.objs.size + 1) :: (us ++ ds)) := .cons rfl (r.append hd)
  have hl : (Value.ref (s.heap.objs.size + 1) :: us ++ ds).length = ps.length := by
    have e := r2.length
    rw [F.len _ _ _ _ hq] at e
    exact e.symm
  refine wpAny_call (make_map (f := f) I.kIn M.makes M.init (beq_iff_eq.mp M.fn) (codeAny_mono (F.run _ X.stack _ _ ⟨Value.ref (s.heap.objs.size + 1) :: us, []⟩ (Value.ref (s.heap.objs.size + 1) :: (us ++ ds)) _ _ E (hr.make C us [])
    (I2.env0.make C us []) (hb _ (Value.ref (s.heap.objs.size + 1) :: us) I2.kIn hl) r2 hq) fun r s' hq' => ?_))
  cases r with
  | error e => exact hx pins σ _ _ e s' I2 hq'
  | ok fl =>
    cases fl with
    | ret u =>
      obtain ⟨v, H', I3, rv, ev, q3⟩ := I2.after hq'
      subst ev
      exact ⟨rv, ⟨V.ref (s.heap.objs.size + 1), H', I3, rfl, q3⟩⟩
    | next => exact False.elim hq'
    | brk => exact False.elim hq'
    | cont => exact False.elim hq'
theorem pe_make (M : Mk X.K C f) (F : FnOk X.prog X.w X.K X.mg X.base CX k f fd ps sp) (hr : Room (k + 1) X.A) (hg : Gl X x) (hm : X.mg x = some (.ref C)) (hb : Binds X.K fd ps ds) (hd : Vals dvs ds) (hx : Passes CX X E)
    (ha : PA X (e :: es) t) (hdb : (x == ("__debug__" : Str)) = false := by decide) (he : starEach (e :: es) X.env = (false, eval e X.env) :: starEach es X.env := by rfl) (hpl : (backTo pos (starEach es X.env)).any (·.1) = false := by rfl) :
    PE X (.Call (.Name x p) (e :: es) [] pos) (tMake C sp dvs E t) := by
  intro pins s σ H Q I h
  refine wpAny_Call_Name_kw (ld_glob I hg hm ?_ hdb)
  refine PySem.W.callWith_K (h₀ := X.base) I.ok.mod.kin M.kp (thn (ha pos pins s σ H _ I h) fun us s1 ⟨vs, H1, I1, r, q⟩ => ⟨I1.kIn, ?_⟩) he hpl
  exact run_make M F hr hb hd hx I1 r q
end
section
variable {X : Cx} {CX : CXT} {k : Nat} {f C : Addr} {fd : FuncData} {ps ks : List Str} {sp : Sp} {E : XK} {x m : Str} {p pos apos kpos : Pos} {e o : Expr} {es : List Expr} {kws : List Keyword} {te ta : TE} {t tk : TA} {nm : Option Str}
variable {g : List Value → List Value → List Value} {gV : List V → List V → List V}
end
structure FnScope (N P : List Str) (sc : Scope) : Prop where
  kind : sc.kind = .function
  co : sc.isCoroutine = false
  gen : sc.isGenerator = false
  nd : N.Nodup
  pre : N.take P.length = P
  par : ∀ x ∈ P, sc.names.lookup x = some .local ∨ sc.names.lookup x = some .cell
  nofree : ∀ y ∈ sc.names, y.2 ≠ .free
theorem bindL_out {kindOf : Str → Option NameKind} {x : Str} : ∀ {binds : List (Str × Value)} {m : Str → Option Value}, (∀ v, (x, v) ∉ binds) → bindL kindOf binds m x = m x
  | [], _, _ => rfl
  | (n, v) :: r, m, h => by
    unfold bindL
    rw [bindL_out fun w hw => h w (List.mem_cons_of_mem _ hw)]
    split
    · have : x ≠ n := by rintro rfl; exact h v List.mem_cons_self
      simp [this]
    · rfl
theorem bindC_out {kindOf : Str → Option NameKind} {x : Str} : ∀ {binds : List (Str × Value)} {m : Str → Option Value}, (∀ v, (x, v) ∉ binds) → bindC kindOf binds m x = m x
  | [], _, _ => rfl
  | (n, v) :: r, m, h => by
    unfold bindC
    rw [bindC_out fun w hw => h w (List.mem_cons_of_mem _ hw)]
    split
    · rfl
    · have : x ≠ n := by rintro rfl; exact h v List.mem_cons_self
      simp [this]
theorem bindL_get {kindOf : Str → Option NameKind} {x : Str} {v : Value} : ∀ {P : List Str} {vs : List Value} {i : Nat} {m : Str → Option Value}, P.Nodup → P[i]? = some x → vs[i]? = some v → kindOf x = some .local →
    bindL kindOf (P.zip vs) m x = some v
  | [], _, _, _, _, h, _, _ => by simp at h
  | _ :: _, [], _, _, _, _, h, _ => by simp at h
  | p :: P, w :: vs, 0, m, nd, h1, h2, hk => by
    simp at h1 h2; subst h1; subst h2
    show bindL kindOf ((p, w) :: P.zip vs) m p = _
    unfold bindL
    rw [bindL_out fun v hv => (List.nodup_cons.mp nd).1 (List.of_mem_zip hv).1, if_pos hk]
    simp
  | p :: P, w :: vs, i + 1, m, nd, h1, h2, hk => by
    show bindL kindOf ((p, w) :: P.zip vs) m x = _
    unfold bindL
    exact bindL_get (i := i) (List.nodup_cons.mp nd).2 (by simpa using h1) (by simpa using h2) hk
theorem bindC_get {kindOf : Str → Option NameKind} {x : Str} {v : Value} : ∀ {P : List Str} {vs : List Value} {i : Nat} {m : Str → Option Value}, P.Nodup → P[i]? = some x → vs[i]? = some v → kindOf x ≠ some .local →
    bindC kindOf (P.zip vs) m x = some v
  | [], _, _, _, _, h, _, _ => by simp at h
  | _ :: _, [], _, _, _, _, h, _ => by simp at h
  | p :: P, w :: vs, 0, m, nd, h1, h2, hk => by
    simp at h1 h2; subst h1; subst h2
    show bindC kindOf ((p, w) :: P.zip vs) m p = _
    unfold bindC
    rw [bindC_out fun v hv => (List.nodup_cons.mp nd).1 (List.of_mem_zip hv).1, if_neg hk]
    simp
  | p :: P, w :: vs, i + 1, m, nd, h1, h2, hk => by
    show bindC kindOf ((p, w) :: P.zip vs) m x = _
    unfold bindC
    exact bindC_get (i := i) (List.nodup_cons.mp nd).2 (by simpa using h1) (by simpa using h2) hk
def start (N : List Str) (vs : List V) : St := vs.map some ++ List.replicate (N.length - vs.length) none
def cxOf (CX : CXT) (P : Program) (w : World) (K : PySem.W.Frag) (mg : Str → Option Value) (base : Heap) (N : List Str) (qual : Str) (scope : Scope) (f : Addr) (cd : Value) (A : Around) (outer : List Env) (s : Shared) (H : Hp) (E : XK) : Cx where
  prog := P
  w := w
  K := K
  mg := mg
  base := base
  A := A.deeper (envOfC qual scope s.heap.objs.size f cd)
  N := N
  s₀ := s
  H₀ := H
  env := envOfC qual scope s.heap.objs.size f cd
  outer := outer
  stack := envOfC qual scope s.heap.objs.size f cd :: outer
  ex := []
  calm := true
  fn := fun _ => true
  pn := []
  xe := fun e s' => wpAny (model P w) (A.deeper (envOfC qual scope s.heap.objs.size f cd)) (leaving (envOfC qual scope s.heap.objs.size f cd) e) (fun _ s'' => CX outer H s E e s'') (fun e' s'' => CX outer H s E e' s'') s'
theorem cell_has {sc : Scope} {n : Nat} {x : Str} (h : sc.names.lookup x = some .cell) : ∃ c, (cellsFrom n sc.names []).lookup x = some c := by
  have q := PySem.W.cellsFrom_some sc.names n [] (.inl h)
  exact Option.isSome_iff_exists.mp q
theorem inv_start {CX : CXT} {P : Program} {w : World} {K : PySem.W.Frag} {mg : Str → Option Value} {base : Heap} {N ps : List Str} {qual : Str} {scope : Scope} {f : Addr} {cd : Value} {A : Around} {outer : List Env} {s s1 : Shared} {H : Hp} {E : XK} {us : List Value} {vs : List V}
    (S : FnScope N ps scope) (hd : A.handled = none) (e0 : Env0 P w K mg base A outer s H) (hl : vs.length = ps.length) (r : Vals vs us)
    (x : InCallC s s.heap.objs.size (bindL (envOfC qual scope s.heap.objs.size f cd).kindOf (ps.zip us) fun _ => none) (cellsFrom (s.heap.objs.size + 1) scope.names []) (bindC (envOfC qual scope s.heap.objs.size f cd).kindOf (ps.zip us) fun _ => none) s1) :
    Inv (cxOf CX P w K mg base N qual scope f cd A outer s H E) [] (start N vs) H s1 := by
  have hpl : ps.length ≤ N.length := by have := congrArg List.length S.pre; rw [List.length_take] at this; omega
  obtain ⟨h1, tk, rfl, hk⟩ := x.done
  have noA : ∀ b : Addr, b ∉ (cxOf CX P w K mg base N qual scope f cd A outer s H E).ex := fun b z => absurd (show b ∈ ([] : List Addr) from z) (by simp)
  refine ⟨⟨e0.mod, S.kind, rfl, rfl, Nat.le_refl _, fun y z c h1 h2 => ?_, fun y hy => ?_, fun y c _ h => ?_, fun _ => hd, Around.frames_deeper e0.frames, .inr ⟨rfl, rfl⟩, fun b z => absurd z (noA b), e0.bs, e0.bsz, fun b _ _ => noA b, fun b z => absurd z (noA b), e0.funs, e0.frf⟩,
    rfl, e0.bare, Un.kept hk, ⟨_, x.toInCall.ns, fun i y v h1 h2 h3 => ?_⟩, fun y c h => ⟨_, x.cell y c h⟩, e0.hok.fresh (Nat.le_refl _), fun y c h => ?_, fun p hp => absurd (show p ∈ ([] : List (Addr × Obj)) from hp) (by simp), e0.hok.kept hk, ?_⟩
  · exact name_of_addr x.apart (PySem.mem_of_lookup h1) (PySem.mem_of_lookup h2)
  · have hy : scope.names.lookup y = some .cell ∨ scope.names.lookup y = some .free := hy
    rcases hy with hy | hy
    · exact cell_has hy
    · exact absurd rfl (S.nofree _ (PySem.mem_of_lookup hy))
  · exact Nat.le_of_lt (x.above y c (PySem.mem_of_lookup h))
  · have hi : i < vs.length := by
      unfold start at h2
      by_cases hi : i < vs.length
      · exact hi
      · rw [List.getElem?_append_right (by simpa using hi)] at h2
        rw [List.getElem?_replicate] at h2
        split at h2 <;> cases h2
    have ha : vs[i]? = some v := by
      unfold start at h2
      rw [List.getElem?_append_left (by simpa using hi), List.getElem?_map] at h2
      cases e : vs[i]? with
      | none => rw [e] at h2; cases h2
      | some a => rw [e] at h2; cases h2; rfl
    obtain ⟨u, hu, rv⟩ := r.get ha
    have hp : ps[i]? = some y := by
      rw [← S.pre, List.getElem?_take_of_lt (by omega)]; exact h1
    have ndP : ps.Nodup := by rw [← S.pre]; exact S.nd.sublist (List.take_sublist _ _)
    refine ⟨u, rv, ?_⟩
    rcases S.par y (List.mem_of_getElem? hp) with k | k
    · exact .inl ⟨k, bindL_get ndP hp hu k⟩
    · obtain ⟨c, e⟩ := cell_has (n := s.heap.objs.size + 1) k
      refine .inr ⟨.inl k, c, e, ?_⟩
      have q := x.cell y c e
      rw [bindC_get ndP hp hu (by show scope.names.lookup y ≠ _; rw [k]; decide)] at q
      exact q
  · exact e0.hok.fresh (Nat.le_of_lt (x.above y c (PySem.mem_of_lookup h)))
  · unfold start
    show _ = N.length
    rw [List.length_append, List.length_map, List.length_replicate]
    omega
theorem fn_of {CX : CXT} {P : Program} {w : World} {K : PySem.W.Frag} {mg : Str → Option Value} {base : Heap} {k : Nat} {f : Addr} {name qual : Str} {params : Arguments} {body : List Stmt} {scope : Scope} {dV kV doc pm cdv ct oc : Value} {an od : Option Addr}
    {osl : Array (Option Value)} {N ps : List Str} {sp : Sp} (lk : K.lookup f = some ⟨oc, od, .func (PySem.W.fnOf name qual params body scope dV kV doc pm an cdv ct), osl⟩) (hcd : PySem.W.codeIn K cdv qual = true) (S : FnScope N ps scope)
    (len : ∀ vs H Q E, sp vs H Q E → vs.length = ps.length)
    (hbody : ∀ (A : Around) (outer : List Env) (s : Shared) (H : Hp) (vs : List V) (Q : VK) (E : XK), Room k (A.deeper (envOfC qual scope s.heap.objs.size f cdv)) → sp vs H Q E →
      ∃ t, PSs (cxOf CX P w K mg base N qual scope f cdv A outer s H E) body t ∧ t { nx := fun _ H' => Q .non H', rt := Q } (start N vs) H) :
    FnOk P w K mg base CX (k + 1) f (PySem.W.fnOf name qual params body scope dV kV doc pm an cdv ct) ps sp := by
  refine ⟨len, fun A outer s H args us vs Q E hr e0 hb r hsp => ?_⟩
  have hl := len _ _ _ _ hsp
  have KX : K.In s.heap := e0.mod.kin.keeps fun b o e => (e0.bs b o e).1
  have lim : s.heap.NoLimit := e0.mod.nolimit.keeps fun b o e => (e0.bs b o e).1
  have hkind : ∀ y ∈ ps.zip us, scope.names.lookup y.1 = some .local ∨ (scope.names.lookup y.1 = some .cell ∧ ((cellsFrom (s.heap.objs.size + 1) scope.names []).lookup y.1).isSome = true) := fun ⟨n, v⟩ hy => by
    rcases S.par n (List.of_mem_zip hy).1 with q | q
    · exact .inl q
    · exact .inr ⟨q, PySem.W.cellsFrom_some _ _ _ (.inl q)⟩
  refine codeAny_call_function hr.depth (KX _ _ lk) rfl S.co S.gen rfl (PySem.W.codeRec_of KX hcd) (hb _ _ _ _ ?_)
  refine wpAny_newFunctionEnv_cells S.kind hkind fun env he s1 x => ?_
  subst he
  refine ⟨lim.keeps x.toInCall.keep, codeAny_func ?_⟩
  obtain ⟨t, ht, hq⟩ := hbody A outer s H vs Q E (hr.deeper _) hsp
  have I : Inv (cxOf CX P w K mg base N qual scope f cdv A outer s H E) [] (start N vs) H s1 := inv_start S hr.hd e0 hl r x
  refine wpAny_mono (ht [] s1 (start N vs) H _ I hq) (fun fl s' hs => ?_) fun e s' hs => hs
  have fin : ∀ {σ' : St} {H' : Hp} {v : V} {u : Value}, Inv (cxOf CX P w K mg base N qual scope f cdv A outer s H E) [] σ' H' s' → RelV v u → Q v H' → CE outer P w H s Q u s' :=
    fun {σ' H' v u} J rv q => ⟨v, H', J.os, J.bare, J.base, J.hok, rv, q⟩
  cases fl with
  | ret u =>
    obtain ⟨v, σ', H', J, rv, q⟩ := hs
    exact fin J rv q
  | next =>
    obtain ⟨σ', H', J, q⟩ := hs
    exact fin (v := V.non) (u := Value.none) J rfl q
  | brk =>
    obtain ⟨_, _, _, q⟩ := hs
    exact False.elim q
  | cont =>
    obtain ⟨_, _, _, q⟩ := hs
    exact False.elim q
end L2
namespace L2
open PySem PySem.Spec PyProof.Rows
section
variable {X : Cx} {x : Str} {p pos : Pos} {e : Expr} {es : List Expr} {t : TA} {id T : String} {r : List V → Hp → VK → Prop}
def tCB (r : List V → Hp → VK → Prop) (t : TA) : TE := fun σ H Q => t σ H fun vs H1 => r vs H1 Q
theorem pe_callB (hc : CallR X (.builtin id) r) (hg : Gl X x) (hm : X.mg x = none) (hv : bootBuiltins x = some (.builtin id)) (ha : PA X (e :: es) t) (hn : x ≠ "__name__" := by decide) (hdb : (x == ("__debug__" : Str)) = false := by decide)
    (he : starEach (e :: es) X.env = (false, eval e X.env) :: starEach es X.env := by rfl) (hpl : (backTo pos (starEach es X.env)).any (·.1) = false := by rfl) : PE X (.Call (.Name x p) (e :: es) [] pos) (tCB r t) := by
  intro pins s σ H Q I h
  refine wpAny_Call_Name_kw (ld_blt I hg hm hv ?_ hn hdb)
  exact PyProof.Rows.callWith_builtin1 (thn (ha pos pins s σ H _ I h) fun us s1 ⟨vs, H1, I1, r1, q1⟩ => hc pins s1 σ H1 vs us Q I1 r1 q1) he hpl
theorem pe_callTy (hc : CallR X (.type T) r) (hg : Gl X x) (hm : X.mg x = none) (hv : bootBuiltins x = some (.type T)) (ha : PA X (e :: es) t) (hn : x ≠ "__name__" := by decide) (hdb : (x == ("__debug__" : Str)) = false := by decide)
    (he : starEach (e :: es) X.env = (false, eval e X.env) :: starEach es X.env := by rfl) (hpl : (backTo pos (starEach es X.env)).any (·.1) = false := by rfl) : PE X (.Call (.Name x p) (e :: es) [] pos) (tCB r t) := by
  intro pins s σ H Q I h
  refine wpAny_Call_Name_kw (ld_blt I hg hm hv ?_ hn hdb)
  exact PyProof.Rows.callWith_type1 (thn (ha pos pins s σ H _ I h) fun us s1 ⟨vs, H1, I1, r1, q1⟩ => hc pins s1 σ H1 vs us Q I1 r1 q1) he hpl
end
end L2
namespace HT
open PySem PyProof.Rows
section
open PySem.SeqAt
open PySem.AutoSeq1 (wpAny_loadPart')
open PySem.MeetsSeq PySem.MeetsSeq2 PySem.MeetsSeq3
end
section
variable {prog : Program} {w : World} {A : Around} {E : Value → Shared → Prop} {s : Shared}
def sIx (n d : Nat) : Option Int → Nat
  | none => d
  | some v => if v < 0 then (v + (n : Int)).toNat else min v.toNat n
theorem sIx_none (n d : Nat) : sIx n d none = d := rfl
theorem sIx_nat (n d k : Nat) : sIx n d (some (k : Int)) = min k n := by
  show (if (k : Int) < 0 then ((k : Int) + (n : Int)).toNat else min (k : Int).toNat n) = min k n
  rw [if_neg (by omega), Int.toNat_natCast]
end
end HT
namespace L2
open PySem PySem.Spec PyProof.Rows
abbrev TO := St → Hp → (Option Int → Hp → Prop) → Prop
def PO (X : Cx) (e : Option Expr) (t : TO) : Prop :=
  ∀ (pins : List (Addr × Obj)) (s : Shared) (σ : St) (H : Hp) (Q : Option Int → Hp → Prop), Inv X pins σ H s → t σ H Q →
    wpAny (model X.prog X.w) X.A (evalPart e X.env) (fun u s' => ∃ o H', Inv X pins σ H' s' ∧ IsPart u o ∧ Q o H') X.xe s
def tNoPart : TO := fun _ H Q => Q none H
def tPart (t : TE) : TO := fun σ H Q => t σ H fun x H1 => ∃ i, x = .int i ∧ Q (some i) H1
section
variable {X : Cx} {e : Expr} {te : TE} {lo hi : Option Expr} {tl th : TO} {pos p2 : Pos}
theorem po_none : PO X none tNoPart := by
  intro pins s σ H Q I h
  rw [evalPart_none]
  exact wpAny_pure ⟨none, H, I, .none, h⟩
theorem po_some (h : PE X e te) : PO X (some e) (tPart te) := by
  intro pins s σ H Q I hw
  rw [evalPart_some]
  refine thn (h pins s σ H _ I hw) fun u s1 ⟨x, H1, I1, r1, q1⟩ => ?_
  obtain ⟨i, rfl, q⟩ := q1
  obtain ⟨t, rfl⟩ := r1
  exact ⟨some i, H1, I1, .int i t, q⟩
def SlR (X : Cx) (r : V → Option Int → Option Int → Hp → VK → Prop) : Prop :=
  ∀ (pins : List (Addr × Obj)) (s : Shared) (σ : St) (H : Hp) (x : V) (v vl vu : Value) (lo hi : Option Int) (sl : Addr) (Q : VK), Inv X pins σ H s → RelV x v → s.heap.IsSliceOf sl vl vu .none → IsPart vl lo → IsPart vu hi → r x lo hi H Q →
    ∃ T id, typeLookup (.type T) "__getitem__" = pure (some (.builtin id)) ∧ s.TypeIs v T ∧ wpAny (model X.prog X.w) X.A (getItem v (.ref sl)) (EP X pins σ Q) X.xe s
def tSl (r : V → Option Int → Option Int → Hp → VK → Prop) (te : TE) (tl th : TO) : TE := fun σ H Q => te σ H fun x H1 => tl σ H1 fun l H2 => th σ H2 fun u H3 => r x l u H3 Q
theorem pe_slice {r : V → Option Int → Option Int → Hp → VK → Prop} (hr : SlR X r) (he : PE X e te) (hl : PO X lo tl) (hu : PO X hi th) : PE X (.Subscript e (.Slice lo hi none p2) pos) (tSl r te tl th) := by
  intro pins s σ H Q I h
  refine Subscript_ (thn (he pins s σ H _ I h) fun v s1 ⟨x, H1, I1, r1, q1⟩ => ?_)
  refine wpAny_Slice (thn (hl pins s1 σ H1 _ I1 q1) fun vl s2 ⟨l, H2, I2, pl, q2⟩ => thn (hu pins s2 σ H2 _ I2 q2) fun vu s3 ⟨u, H3, I3, pu, q3⟩ => ?_)
  rw [evalPart_none]
  refine wpAny_pure ?_
  have I4 : Inv X pins σ H3 { s3 with heap := s3.heap.push { cls := .type "slice", data := .fields #[vl, vu, .none] } } := I3.kept (t' := s3.toks) fun b ob q => Heap.get?_push_of_some _ q
  obtain ⟨T, id, hT, ht, hg⟩ := hr pins { s3 with heap := s3.heap.push { cls := .type "slice", data := .fields #[vl, vu, .none] } } σ H3 x v vl vu l u s3.heap.objs.size Q I4 r1 (Heap.IsSliceOf.new ..) pl pu q3
  show wpAny (model X.prog X.w) X.A (subscriptTail e (.Slice lo hi none p2) v (.ref s3.heap.objs.size)) (EP X pins σ Q) X.xe { s3 with heap := s3.heap.push { cls := .type "slice", data := .fields #[vl, vu, .none] } }
  exact tail_any (ops := [.ref s3.heap.objs.size, v]) ht hT hg (by with_unfolding_all rfl)
def cutV (xs : List V) (lo hi : Option Int) : List V := (xs.drop (HT.sIx xs.length 0 lo)).take (HT.sIx xs.length xs.length hi - HT.sIx xs.length 0 lo)
theorem cutV_length (xs : List V) (lo hi : Option Int) : (cutV xs lo hi).length ≤ xs.length := by
  unfold cutV
  rw [List.length_take, List.length_drop]
  omega
end
end L2
namespace L2
open PySem PySem.Spec PyProof.Rows
def ixN (n : Nat) (i : Int) : Option Nat := if 0 ≤ i then (if i < n then some i.toNat else none) else if -(n : Int) ≤ i then some (i + n).toNat else none
def atI {α : Type} (xs : List α) (i : Int) : Option α := (ixN xs.length i).bind fun j => xs[j]?
theorem ixN_seq {n : Nat} {i : Int} {j : Nat} (h : ixN n i = some j) : seqIndex? i n = some j ∧ j < n ∧ -(n : Int) ≤ i ∧ i < n := by
  unfold ixN at h
  by_cases h0 : 0 ≤ i
  · rw [if_pos h0] at h
    by_cases h1 : i < n
    · rw [if_pos h1] at h
      have e : i.toNat = j := Option.some.inj h
      exact ⟨by rw [seqIndex_of h0 h1, e], by omega, by omega, h1⟩
    · rw [if_neg h1] at h; cases h
  · rw [if_neg h0] at h
    by_cases h1 : -(n : Int) ≤ i
    · rw [if_pos h1] at h
      have e : (i + n).toNat = j := Option.some.inj h
      exact ⟨by rw [seqIndex_neg (by omega) h1, e], by omega, h1, by omega⟩
    · rw [if_neg h1] at h; cases h
theorem atI_get {α : Type} {xs : List α} {i : Int} {v : α} (h : atI xs i = some v) : ∃ j, seqIndex? i xs.length = some j ∧ xs[j]? = some v ∧ j < xs.length ∧ -(xs.length : Int) ≤ i ∧ i < xs.length := by
  unfold atI at h
  cases e : ixN xs.length i with
  | none => rw [e] at h; cases h
  | some j =>
    rw [e] at h
    obtain ⟨h1, h2, h3, h4⟩ := ixN_seq e
    exact ⟨j, h1, h, h2, h3, h4⟩
theorem atI_nat {α : Type} {xs : List α} {j : Nat} {v : α} (h : xs[j]? = some v) : atI xs (j : Int) = some v := by
  have hj : j < xs.length := (List.getElem?_eq_some_iff.mp h).1
  have e : ixN xs.length (j : Int) = some j := by
    unfold ixN
    rw [if_pos (by omega), if_pos (by omega)]; simp
  unfold atI; rw [e]; exact h
def PlainIx (b : Expr) : Prop := ∀ o i, subscripted b false o i = operate [o, i] (getItem o i)
def IxR (X : Cx) (r : R2) : Prop :=
  ∀ (value slice : Expr) (pins : List (Addr × Obj)) (s : Shared) (σ : St) (H : Hp) (x y : V) (v u : Value) (Q : VK), Inv X pins σ H s → RelV x v → RelV y u → r x y H Q →
    subscripted slice false v u = operate [v, u] (getItem v u) → wpAny (model X.prog X.w) X.A (subscriptTail value slice v u) (EP X pins σ Q) X.xe s
def MtR (X : Cx) (id : String) (r : V → List V → Hp → VK → Prop) : Prop :=
  ∀ (pins : List (Addr × Obj)) (s : Shared) (σ : St) (H : Hp) (x : V) (xs : List V) (v : Value) (us : List Value) (Q : VK), Inv X pins σ H s → RelV x v → Vals xs us → r x xs H Q →
    wpAny (model X.prog X.w) X.A (call (.builtin id) (v :: us)) (EP X pins σ Q) X.xe s
section
variable {X : Cx} {a b : Expr} {ta tb : TE} {pos : Pos}
theorem pe_ix {r : R2} (hr : IxR X r) (ha : PE X a ta) (hb : PE X b tb) (hs : PlainIx b) : PE X (.Subscript a b pos) (tOp r ta tb) := by
  intro pins s σ H Q I h
  exact Subscript_ (binT ha hb I h fun v u s2 x y H2 I2 rx ry q => hr a b pins s2 σ H2 x y v u Q I2 rx ry q (hs _ _))
def rIxL (K : PySem.W.Frag) : R2 := fun x y H Q => ∃ p xs i v, x = .ref p ∧ y = .int i ∧ SqL K H p xs ∧ atI xs i = some v ∧ Q v H
def rIxS : R2 := fun x y H Q => ∃ z i c, x = .str z ∧ y = .int i ∧ z.length ≤ sizeLine ∧ atI z.cps.toList i = some c ∧ Q (.str ⟨#[c]⟩) H
theorem ix_list : IxR X (rIxL X.K) := by
  intro value slice pins s σ H x y v u Q I rx ry h hs
  obtain ⟨p, xs, i, z, rfl, rfl, hq, he, q⟩ := h
  cases rx
  obtain ⟨t, rfl⟩ := ry
  obtain ⟨its, r, pl, hz⟩ := I.list hq
  obtain ⟨j, h1, h2, h3, h4, h5⟩ := atI_get he
  obtain ⟨w, ew, rw'⟩ := r.get h2
  have hl := r.length
  have hn := line63
  have fin : EP X pins σ Q w s := ⟨z, H, I, rw', q⟩
  by_cases h0 : 0 ≤ i
  · have hj : i.toNat = j := by
      rw [seqIndex_of h0 h5] at h1
      exact Option.some.inj h1
    exact item_listR pl.isList h0 (by omega) (by rw [hj]; simpa using ew) fin hs
  · have hj : (i + (its.toArray.size : Int)).toNat = j := by
      rw [seqIndex_neg (by omega) h4] at h1
      rw [List.size_toArray, ← hl]
      exact Option.some.inj h1
    exact subscriptTail_builtinR (x := w) pl.isList.typeIs slot_list_getitem.lookup
      (wpAny_getItem_list_neg (Q := fun r s' => r = w ∧ EP X pins σ Q r s') pl.isList (by omega) (by rw [List.size_toArray] <;> omega) (by omega) (by rw [hj]; simpa using ew) ⟨rfl, fin⟩) hs
theorem ix_str : IxR X rIxS := by
  intro value slice pins s σ H x y v u Q I rx ry h hs
  obtain ⟨z, i, c, rfl, rfl, hz, he, q⟩ := h
  obtain ⟨t, rfl⟩ := rx
  obtain ⟨t', rfl⟩ := ry
  obtain ⟨j, h1, h2, h3, h4, h5⟩ := atI_get he
  have hl : z.cps.toList.length = z.length := by simp [Str.length]
  rw [hl] at h1 h4 h5
  have hn := line63
  exact tail_any (typeIs_str s z t) slot_str_getitem.lookup (getItem_str (c := c) (by
    have e1 : decide (i < -(2 ^ 63 : Int)) = false := decide_eq_false (by omega)
    have e2 : decide (i ≥ 2 ^ 63) = false := decide_eq_false (by omega)
    rw [e1, e2, Bool.or_false]) (by rw [h1]; simpa using h2) ⟨.str ⟨#[c]⟩, H, I.tok _, ⟨_, rfl⟩, q⟩) hs
theorem mapSeq_set (its : List Value) (n j : Nat) (u : Value) : Obj.mapSeq (·.setIfInBounds j u) { cls := .type "list", data := .seq its.toArray n } = { cls := .type "list", data := .seq (its.set j u).toArray n } := by
  simp [Obj.mapSeq]
theorem Inv.lst {pins : List (Addr × Obj)} {σ : St} {H : Hp} {s : Shared} {p : Addr} {xs : List V} (I : Inv X pins σ H s) (h : H p = some (.lst xs)) :
    ∃ (its : List Value) (n : Nat), Vals xs its ∧ s.heap.get? p = some { cls := .type "list", data := .seq its.toArray n } ∧ xs.length ≤ sizeLine := by
  obtain ⟨z, its, n, r, e⟩ := I.hok p _ h
  exact ⟨its, n, r, e, z⟩
theorem Inv.lstUpd {pins : List (Addr × Obj)} {σ : St} {H : Hp} {s : Shared} {p : Addr} {xs ys : List V} {its its' : List Value} {n n' : Nat} {f : Obj → Obj} (I : Inv X pins σ H s) (h : H p = some (.lst xs))
    (ho : s.heap.get? p = some { cls := .type "list", data := .seq its.toArray n }) (hf : f { cls := .type "list", data := .seq its.toArray n } = { cls := .type "list", data := .seq its'.toArray n' }) (r : Vals ys its') (hz : ys.length ≤ sizeLine) (t : Nat) :
    Inv X pins σ (upd H p (.lst ys)) { s with heap := s.heap.update p f, toks := t } := by
  have e : (s.heap.update p f).get? p = some { cls := .type "list", data := .seq its'.toArray n' } := by
    rw [Heap.get?_update_self f ho (by rw [hf] <;> rfl), hf]
  refine I.write (x := p) (e := p) (by rw [h]; trivial) (.inl rfl) (fun b u hb q => (Heap.get?_update_other _ _ (Ne.symm hb)).trans q) ⟨_, e⟩ ?_
  exact ⟨hz, its', n', r, e⟩
def rSetL : V → V → V → Hp → (Hp → Prop) → Prop := fun o i v H Q => ∃ p xs k j, o = .ref p ∧ i = .int k ∧ H p = some (.lst xs) ∧ ixN xs.length k = some j ∧ Q (upd H p (.lst (xs.set j v)))
theorem set_list : PSet X rSetL := by
  intro pins s σ H o i v ov iv u Q I ro ri rv h
  obtain ⟨p, xs, k, j, rfl, rfl, hp, hj, q⟩ := h
  cases ro
  obtain ⟨t, rfl⟩ := ri
  obtain ⟨its, n, r, ho, hz⟩ := I.lst hp
  obtain ⟨h1, h2, h3, h4⟩ := ixN_seq hj
  have hl := r.length
  have hn := line63
  have I' : Inv X pins σ (upd H p (.lst (xs.set j v))) { s with heap := s.heap.update p (Obj.mapSeq (·.setIfInBounds j u)) } :=
    I.lstUpd hp ho (mapSeq_set its n j u) (r.set rv j) (by rw [List.length_set]; exact hz) s.toks
  by_cases h0 : 0 ≤ k
  · have hk : k.toNat = j := by
      rw [seqIndex_of h0 h4] at h1
      exact Option.some.inj h1
    exact PySem.W.ki_setAt ho h0 (by omega) (by rw [List.size_toArray, ← hl]; exact h4) (by rw [hk]; exact ⟨_, I', q⟩)
  · have hk : (k + (its.toArray.size : Int)).toNat = j := by
      rw [seqIndex_neg (by omega) h3] at h1
      rw [List.size_toArray, ← hl]
      exact Option.some.inj h1
    exact PySem.W.ki_setBack ho (by omega) (by rw [List.size_toArray, ← hl]; exact h3) (by omega) (by rw [hk]; exact ⟨_, I', q⟩)
theorem slice_bounds (lo hi : Option Int) (n : Nat) : (sliceBounds lo hi none n).1 = ((HT.sIx n 0 lo : Nat) : Int) ∧ (sliceBounds lo hi none n).2.1 = ((HT.sIx n n hi : Nat) : Int) ∧ (sliceBounds lo hi none n).2.2 = 1 := by
  refine ⟨?_, ?_, rfl⟩
  · cases lo with
    | none => simp [sliceBounds, HT.sIx]
    | some i =>
      simp only [sliceBounds, HT.sIx, Option.getD_none, show (1 : Int) > 0 by decide, if_true]
      by_cases h : i < 0
      · simp only [h, if_true] <;> omega
      · simp only [h, if_false] <;> omega
  · cases hi with
    | none => simp [sliceBounds, HT.sIx]
    | some i =>
      simp only [sliceBounds, HT.sIx, Option.getD_none, show (1 : Int) > 0 by decide, if_true]
      by_cases h : i < 0
      · simp only [h, if_true] <;> omega
      · simp only [h, if_false] <;> omega
theorem slicePick_cut (its : List Value) (lo hi : Option Int) : slicePick its.toArray lo hi none = ((its.drop (HT.sIx its.length 0 lo)).take (HT.sIx its.length its.length hi - HT.sIx its.length 0 lo)).toArray := by
  obtain ⟨h1, h2, h3⟩ := slice_bounds lo hi its.toArray.size
  unfold slicePick
  rw [h1, h2, h3]
  simp only [sliceRange_one, pick_run, List.size_toArray] <;> rfl
def rSlL (K : PySem.W.Frag) : V → Option Int → Option Int → Hp → VK → Prop := fun x lo hi H Q => ∃ a xs, x = .ref a ∧ SqL K H a xs ∧ ∀ p, H p = none → Q (.ref p) (upd H p (.lst (cutV xs lo hi)))
theorem sl_list : SlR X (rSlL X.K) := by
  intro pins s σ H x v vl vu lo hi sl Q I rx hs pl pu h
  obtain ⟨a, xs, rfl, hx, q⟩ := h
  cases rx
  obtain ⟨its, r, ht, hz⟩ := I.list hx
  have hlen := r.length
  refine ⟨"list", _, slot_list_getitem.lookup, ht.isList.typeIs, ?_⟩
  refine wpAny_getItem_list_slice ht.isList hs pl pu .none (by simp) ?_ (by rw [List.size_toArray] <;> omega)
  rw [slicePick_cut, ← hlen]
  refine ⟨.ref s.heap.objs.size, _, I.laid (t' := s.toks) (o := .lst (cutV xs lo hi)) (fun b ob q => Heap.get?_push_of_some _ q) (Nat.le_refl _) ?_, rfl, q _ (I.hok.fresh (Nat.le_refl _))⟩
  exact ⟨Nat.le_trans (cutV_length xs lo hi) hz, _, 0, (r.drop (HT.sIx xs.length 0 lo)).take (HT.sIx xs.length xs.length hi - HT.sIx xs.length 0 lo), Heap.get?_push_size _ rfl⟩
def flatV : V → Bool
  | .non => true
  | .bl _ => true
  | .int _ => true
  | .str _ => true
  | _ => false
def eqV : V → V → Bool
  | .non, .non => true
  | .bl a, .bl b => a == b
  | .bl a, .int b => (if a then 1 else 0) == b
  | .int a, .bl b => a == (if b then 1 else 0)
  | .int a, .int b => a == b
  | .str a, .str b => a == b
  | _, _ => false
theorem eqAt_V {A : Around} {s : Shared} {y x : V} {u v : Value} (ry : RelV y u) (rx : RelV x v) (fy : flatV y = true) (fx : flatV x = true) : SeqAt.EqAt A s u v (eqV y x) := by
  cases y with
  | non =>
    cases ry
    cases x with
    | non => cases rx; exact SeqAt.EqAt.same _
    | bl b => cases rx; exact SeqAt.EqAt.none_bool b
    | int b => obtain ⟨t, rfl⟩ := rx; exact SeqAt.EqAt.none_int b t
    | str b => obtain ⟨t, rfl⟩ := rx; exact SeqAt.EqAt.none_str b t
    | _ => exact absurd (show false = true from fx) Bool.false_ne_true
  | bl a =>
    cases ry
    cases x with
    | non => cases rx; exact SeqAt.EqAt.bool_none a
    | bl b => cases rx; exact SeqAt.EqAt.bool_bool a b
    | int b => obtain ⟨t, rfl⟩ := rx; exact SeqAt.EqAt.bool_int a b t
    | str b => obtain ⟨t, rfl⟩ := rx; exact SeqAt.EqAt.bool_str a b t
    | _ => exact absurd (show false = true from fx) Bool.false_ne_true
  | int a =>
    obtain ⟨t', rfl⟩ := ry
    cases x with
    | non => cases rx; exact SeqAt.EqAt.int_none a t'
    | bl b => cases rx; exact SeqAt.EqAt.int_bool a t' b
    | int b => obtain ⟨t, rfl⟩ := rx; exact SeqAt.EqAt.int_int a t' b t
    | str b => obtain ⟨t, rfl⟩ := rx; exact SeqAt.EqAt.int_str a t' b t
    | _ => exact absurd (show false = true from fx) Bool.false_ne_true
  | str a =>
    obtain ⟨t', rfl⟩ := ry
    cases x with
    | non => cases rx; exact SeqAt.EqAt.str_none a t'
    | bl b => cases rx; exact SeqAt.EqAt.str_bool a t' b
    | int b => obtain ⟨t, rfl⟩ := rx; exact SeqAt.EqAt.str_int a t' b t
    | str b => obtain ⟨t, rfl⟩ := rx; exact SeqAt.EqAt.str_str a t' b t
    | _ => exact absurd (show false = true from fx) Bool.false_ne_true
  | _ => exact absurd (show false = true from fy) Bool.false_ne_true
def eqU (x : V) (u : Value) : Bool := match u with
  | .none => eqV .non x
  | .bool b => eqV (.bl b) x
  | .int i _ => eqV (.int i) x
  | .str z _ => eqV (.str z) x
  | _ => false
theorem eqU_of {x y : V} {u : Value} (r : RelV y u) (f : flatV y = true) : eqU x u = eqV y x := by
  cases y with
  | non => cases r; rfl
  | bl b => cases r; rfl
  | int i => obtain ⟨t, rfl⟩ := r; rfl
  | str z => obtain ⟨t, rfl⟩ := r; rfl
  | _ => exact absurd (show false = true from f) Bool.false_ne_true
theorem any_eqU {x : V} : ∀ {xs : List V} {us : List Value}, Vals xs us → xs.all flatV = true → us.any (eqU x) = xs.any fun y => eqV y x
  | _, _, .nil, _ => rfl
  | y :: xs, u :: us, .cons r t, f => by
    rw [List.all_cons, Bool.and_eq_true] at f
    rw [List.any_cons, List.any_cons, eqU_of r f.1, any_eqU t f.2]
theorem mem_eqAt {A : Around} {s : Shared} {x : V} {v : Value} (rx : RelV x v) (fx : flatV x = true) : ∀ {xs : List V} {us : List Value}, Vals xs us → xs.all flatV = true → ∀ u ∈ us, SeqAt.EqAt A s u v (eqU x u)
  | _, _, .nil, _ => fun u hu => by cases hu
  | y :: xs, u :: us, .cons r t, f => fun u' hu => by
    rw [List.all_cons, Bool.and_eq_true] at f
    rcases List.mem_cons.mp hu with rfl | hu
    · rw [eqU_of r f.1]; exact eqAt_V r rx f.1 fx
    · exact mem_eqAt rx fx t f.2 u' hu
def inV (x : V) (xs : List V) : Bool := xs.any fun y => eqV y x
def rIn (K : PySem.W.Frag) (neg : Bool) : R2 := fun x y H Q => ∃ p xs, y = .ref p ∧ (SqL K H p xs ∨ SqT K H p xs) ∧ flatV x = true ∧ xs.all flatV = true ∧ Q (.bl (if neg then !inV x xs else inV x xs)) H
theorem op_in_seq : OpR X (compareOp .In) (rIn X.K false) := by
  intro pins s σ H x y v u Q I rx ry h
  obtain ⟨p, xs, rfl, hq, fx, fs, q⟩ := h
  cases ry
  rcases hq with hq | hq
  · obtain ⟨its, r, pl, hz⟩ := I.list hq
    refine SeqAt.in_listAt (eqU x) pl.isList (fun w hw => mem_eqAt rx fx r fs w (by simpa using hw)) ⟨.bl _, H, I, rfl, ?_⟩
    rw [show its.toArray.any (eqU x) = its.any (eqU x) by simp, any_eqU r fs]
    exact q
  · obtain ⟨its, r, pl, hz⟩ := I.tuple hq
    refine SeqAt.in_tupleAt (eqU x) pl (fun w hw => mem_eqAt rx fx r fs w (by simpa using hw)) ⟨.bl _, H, I, rfl, ?_⟩
    rw [show its.toArray.any (eqU x) = its.any (eqU x) by simp, any_eqU r fs]
    exact q
theorem op_notIn_seq : OpR X (compareOp .NotIn) (rIn X.K true) := by
  intro pins s σ H x y v u Q I rx ry h
  obtain ⟨p, xs, rfl, hq, fx, fs, q⟩ := h
  cases ry
  rcases hq with hq | hq
  · obtain ⟨its, r, pl, hz⟩ := I.list hq
    refine SeqAt.notIn_listAt (eqU x) pl.isList (fun w hw => mem_eqAt rx fx r fs w (by simpa using hw)) ⟨.bl _, H, I, rfl, ?_⟩
    rw [show its.toArray.any (eqU x) = its.any (eqU x) by simp, any_eqU r fs]
    exact q
  · obtain ⟨its, r, pl, hz⟩ := I.tuple hq
    refine SeqAt.notIn_tupleAt (eqU x) pl (fun w hw => mem_eqAt rx fx r fs w (by simpa using hw)) ⟨.bl _, H, I, rfl, ?_⟩
    rw [show its.toArray.any (eqU x) = its.any (eqU x) by simp, any_eqU r fs]
    exact q
theorem call_len_seq : CallR X (.builtin "len") (fun xs H Q => ∃ p ys, xs = [.ref p] ∧ (SqL X.K H p ys ∨ SqT X.K H p ys) ∧ Q (.int ys.length) H) := by
  intro pins s σ H xs us Q I r h
  obtain ⟨p, ys, rfl, hq, q⟩ := h
  obtain ⟨u, rfl, rx⟩ := vals1 r
  cases rx
  have hn := line63
  rcases hq with hq | hq
  · obtain ⟨its, r', pl, hz⟩ := I.list hq
    have hlen := r'.length
    exact Calls.call_len_list pl.isList (by simp only [List.size_toArray] <;> omega) ⟨.int ys.length, H, I.tok _, ⟨s.toks + 1, by rw [List.size_toArray, hlen]⟩, q⟩
  · obtain ⟨its, r', pl, hz⟩ := I.tuple hq
    have hlen := r'.length
    exact len_tuple pl (by simp only [List.size_toArray] <;> omega) ⟨.int ys.length, H, I.tok _, ⟨s.toks + 1, by rw [List.size_toArray, hlen]⟩, q⟩
theorem call_len_str : CallR X (.builtin "len") (fun xs H Q => ∃ z, xs = [.str z] ∧ z.length ≤ sizeLine ∧ Q (.int z.length) H) := by
  intro pins s σ H xs us Q I r h
  obtain ⟨z, rfl, hz, q⟩ := h
  obtain ⟨u, rfl, t, rfl⟩ := vals1 r
  have hn := line63
  exact len_str (by omega) ⟨.int z.length, H, I.tok _, ⟨_, rfl⟩, q⟩
theorem call_list_of : CallR X (.type "list") (fun xs H Q => ∃ p ys, xs = [.ref p] ∧ (SqL X.K H p ys ∨ SqT X.K H p ys) ∧ ∀ l, H l = none → Q (.ref l) (upd H l (.lst ys))) := by
  intro pins s σ H xs us Q I r h
  obtain ⟨p, ys, rfl, hq, q⟩ := h
  obtain ⟨u, rfl, rx⟩ := vals1 r
  cases rx
  have fin : ∀ (its : List Value), Vals ys its → ys.length ≤ sizeLine → ∀ (h' : Heap) (c' : Nat), (∀ b o', s.heap.get? b = some o' → h'.get? b = some o') →
      h'.get? s.heap.objs.size = some { cls := .type "list", dict := none, data := .seq its.toArray c', slots := #[] } → EP X pins σ Q (.ref s.heap.objs.size) { s with heap := h' } := fun its r' hz h' c' kp e =>
    ⟨.ref s.heap.objs.size, _, I.laid (t' := s.toks) kp (Nat.le_refl _) (show ObjOk X.prog X.w _ h' _ (.lst ys) from ⟨hz, its, c', r', e⟩), rfl, q _ (I.hok.fresh (Nat.le_refl _))⟩
  rcases hq with hq | hq
  · obtain ⟨its, r', pl, hz⟩ := I.list hq
    have hlen := r'.length
    obtain ⟨o, ho, hc, n, hd⟩ := pl.isList
    exact call_list_seq p (.inl rfl) ho hc hd (fun h' c' kp e => fin its r' hz h' c' kp e) (by simp only [List.size_toArray] <;> omega)
  · obtain ⟨its, r', pl, hz⟩ := I.tuple hq
    have hlen := r'.length
    obtain ⟨o, ho, hc, n, hd⟩ := pl
    exact call_list_seq p (.inr rfl) ho hc hd (fun h' c' kp e => fin its r' hz h' c' kp e) (by simp only [List.size_toArray] <;> omega)
def tyV (K : PySem.W.Frag) (T : String) (x : V) (H : Hp) : Prop := match x with
  | .str _ => T = "str"
  | .int _ => T = "int"
  | .ref p => (T = "list" ∧ ∃ xs, SqL K H p xs) ∨ (T = "tuple" ∧ ∃ o, K.lookup p = some o ∧ o.cls = .type "tuple" ∧ o.dict = none) ∨
      (T = "dict" ∧ ((∃ kvs, H p = some (.dK kvs)) ∨ ∃ kvs, H p = some (.dT kvs))) ∨ (T = "set" ∧ ∃ S n, H p = some (.set S n))
  | _ => False
theorem tyV_is {pins : List (Addr × Obj)} {σ : St} {H : Hp} {s : Shared} {T : String} {x : V} {v : Value} (I : Inv X pins σ H s) (r : RelV x v) (ty : tyV X.K T x H) :
    s.TypeIs v T ∧ ∀ a, v = .ref a → ∃ ob, s.heap.get? a = some ob ∧ ob.dict = none := by
  cases x with
  | str z =>
    obtain ⟨t, rfl⟩ := r
    cases (show T = "str" from ty)
    exact ⟨typeIs_str s z t, fun _ e => nomatch e⟩
  | int i =>
    obtain ⟨t, rfl⟩ := r
    cases (show T = "int" from ty)
    exact ⟨typeIs_int s i t, fun _ e => nomatch e⟩
  | ref p =>
    cases r
    rcases ty with ⟨rfl, xs, hq⟩ | ⟨rfl, o, hk, hc, hd⟩ | ⟨rfl, hk⟩ | ⟨rfl, S, n, hk⟩
    · obtain ⟨its, _, pl, _⟩ := I.list hq
      refine ⟨pl.isList.typeIs, fun a e => ?_⟩
      cases e
      obtain ⟨o, n, e, c, hd, _⟩ := pl
      exact ⟨o, e, hd⟩
    · refine ⟨⟨o, I.kIn p o hk, hc⟩, fun a e => ?_⟩
      cases e
      exact ⟨o, I.kIn _ o hk, hd⟩
    · have z : ∃ o, s.heap.get? p = some o ∧ o.ExactDict := by
        rcases hk with ⟨kvs, hk⟩ | ⟨kvs, hk⟩
        · obtain ⟨_, _, _, _, o, _, _, e, ex, _⟩ := I.hok p _ hk
          exact ⟨o, e, ex⟩
        · obtain ⟨_, _, _, _, o, _, _, e, ex, _⟩ := I.hok p _ hk
          exact ⟨o, e, ex⟩
      obtain ⟨o, e, ex⟩ := z
      refine ⟨⟨o, e, ex.1⟩, fun a e2 => ?_⟩
      cases e2
      exact ⟨o, e, ex.2.1⟩
    · obtain ⟨o, _, _, _, e, ex, _⟩ := I.hok p _ hk
      refine ⟨⟨o, e, ex.1⟩, fun a e2 => ?_⟩
      cases e2
      exact ⟨o, e, ex.2.1⟩
  | _ => exact False.elim ty
def tBM (K : PySem.W.Frag) (T : String) (r : V → List V → Hp → VK → Prop) (to : TE) (t : TA) : TE := fun σ H Q => to σ H fun x H1 => tyV K T x H1 ∧ t σ H1 fun xs H2 => r x xs H2 Q
variable {o e : Expr} {es : List Expr} {to : TE} {t : TA} {name : Str} {apos cpos : Pos} {T id : String} {r : V → List V → Hp → VK → Prop}
theorem pe_bm (pa : PlainAttrs T) (slot : Slot T name id) (hty : typeOf (.builtin id) = pure (.type "method_descriptor")) (hm : MtR X id r) (ho : PE X o to) (ha : PA X (e :: es) t)
    (hbase : attributeBase o name X.env (eval o X.env) = eval o X.env := by rfl)
    (hfew : ((backTo cpos (starEach (e :: es) X.env)).all (fun x => !x.1) && (backToKw cpos (keywordEach [] X.env)).all (fun x => x.1.isSome)
      && decide ((e :: es).length + ([] : List Keyword).length + (if ([] : List Keyword).isEmpty then 0 else 1) < 30)) = true := by rfl)
    (hline : (apos.endLine == cpos.line) = true := by rfl) (hs : starEach (e :: es) X.env = (false, eval e X.env) :: starEach es X.env := by rfl) (hplain : (backTo cpos (starEach es X.env)).any (·.1) = false := by rfl) :
    PE X (.Call (.Attribute o name apos) (e :: es) [] cpos) (tBM X.K T r to t) := by
  intro pins s σ H Q I h
  refine wpAny_Call_method_late hbase hfew hline rfl (thn (ho pins s σ H _ I h) fun v s1 ⟨x, H1, I1, r1, ty, q1⟩ => ?_)
  obtain ⟨h1, h2⟩ := tyV_is I1 r1 ty
  refine ⟨T, id, pa, slot, hty, h1, h2, ?_⟩
  have hA := ha cpos pins s1 σ H1 _ I1 q1
  rw [hs] at hA ⊢
  refine Calls.callWith_builtin (by show (false || (backTo cpos (starEach es X.env)).any (·.1)) = false; rw [hplain] <;> rfl) (Calls.evalArgs_plain ?_)
  exact thn hA fun us s2 ⟨vs, H2, I2, r2, q2⟩ => hm pins s2 σ H2 x vs v us Q I2 r1 r2 q2
/- xs.append(e), list.index on a module's tuple .. are MtR facts of 06m -/
end
end L2
namespace L2
open PySem PySem.Spec PyProof.Rows
def MtM (X : Cx) (id : String) (r : V → List V → Hp → VK → Prop) : Prop :=
  ∀ (pins : List (Addr × Obj)) (s : Shared) (σ : St) (H : Hp) (x : V) (xs : List V) (v : Value) (us : List Value) (Q : VK), Inv X pins σ H s → RelV x v → Vals xs us → r x xs H Q →
    wpAny (model X.prog X.w) X.A (call (.builtin id) (v :: us)) (EP X pins σ Q) X.xe s
theorem Vals.one : ∀ {x : V} {us : List Value}, Vals [x] us → ∃ u, us = [u] ∧ RelV x u
  | _, _, .cons r .nil => ⟨_, rfl, r⟩
theorem Vals.eraseIdx : ∀ {xs : List V} {us : List Value} (i : Nat), Vals xs us → Vals (xs.eraseIdx i) (us.eraseIdx i)
  | _, _, _, .nil => .nil
  | _, _, 0, .cons _ t => t
  | _, _, i + 1, .cons r t => .cons r (Vals.eraseIdx i t)
theorem len_erase {α : Type} : ∀ (l : List α) (i : Nat), (l.eraseIdx i).length ≤ l.length
  | [], _ => Nat.le_refl _
  | _ :: _, 0 => Nat.le_succ _
  | _ :: r, i + 1 => Nat.succ_le_succ (len_erase r i)
section
variable {X : Cx} {pins : List (Addr × Obj)} {σ : St} {H : Hp} {s : Shared} {l b : Addr} {xs ys zs : List V}
theorem Inv.lset {its its' : List Value} {n : Nat} {f : Array Value → Array Value} {t' : Nat} (I : Inv X pins σ H s) (hH : H l = some (.lst xs))
    (e : s.heap.get? l = some { cls := .type "list", data := .seq its.toArray n }) (hf : f its.toArray = its'.toArray) (hv : Vals ys its') (hz : ys.length ≤ sizeLine) :
    Inv X pins σ (upd H l (.lst ys)) { s with heap := s.heap.update l (Obj.mapSeq f), toks := t' } := by
  have q := PySem.IsL.update e f
  rw [hf] at q
  refine I.write (x := l) (e := l) (by rw [hH]; exact trivial) (.inl rfl) (fun b' u hb hu => (Heap.get?_update_other s.heap (Obj.mapSeq f) (Ne.symm hb)).trans hu) ⟨_, q⟩ ?_
  exact ⟨hz, its', _, hv, q⟩
theorem Inv.lnew {its : List Value} {t' : Nat} (I : Inv X pins σ H s) (hv : Vals ys its) (hz : ys.length ≤ sizeLine) :
    Inv X pins σ (upd H s.heap.objs.size (.lst ys)) { s with heap := s.heap.push { cls := .type "list", data := .seq its.toArray }, toks := t' } :=
  I.laid (fun _ _ q => Heap.get?_push_of_some _ q) (Nat.le_refl _) ⟨hz, its, 0, hv, Heap.get?_push_size _ rfl⟩
theorem Inv.fresh (I : Inv X pins σ H s) : H s.heap.objs.size = none := I.hok.fresh (Nat.le_refl _)
theorem Inv.lstM (I : Inv X pins σ H s) (hH : H l = some (.lst xs)) : xs.length ≤ sizeLine ∧ ∃ (its : List Value) (n : Nat), Vals xs its ∧ xs.length = its.length ∧ s.heap.get? l = some { cls := .type "list", data := .seq its.toArray n } := by
  obtain ⟨z, its, n, r, e⟩ := I.hok l _ hH
  exact ⟨z, its, n, r, r.length, e⟩
end
section
variable {X : Cx}
def rAppend : V → List V → Hp → VK → Prop := fun x vs H Q => ∃ l xs y, x = .ref l ∧ vs = [y] ∧ H l = some (.lst xs) ∧ xs.length < sizeLine ∧ Q .non (upd H l (.lst (xs ++ [y])))
theorem mt_append : MtM X "list.append" rAppend := by
  intro pins s σ H x vs v us Q I rx rv h
  obtain ⟨l, xs, y, rfl, rfl, hH, hz, q⟩ := h
  cases rx
  obtain ⟨u, rfl, ru⟩ := rv.one
  obtain ⟨z, its, n, r, hl, e⟩ := I.lstM hH
  refine call_meets F.slot_list_append ⟨_, e, rfl⟩ F.entry_list_append (F.args_list_append_2 _ _) (PySem.list_append l its.toArray n u (by rw [List.size_toArray]; omega)) ⟨e, ?_⟩
  refine ⟨.non, _, I.lset (its' := its ++ [u]) hH e (by simp) (r.append (.cons ru .nil)) ?_, rfl, q⟩
  rw [List.length_append, List.length_singleton]
  omega
def rPopAt : V → List V → Hp → VK → Prop := fun x vs H Q => ∃ l xs i k y, x = .ref l ∧ vs = [.int i] ∧ H l = some (.lst xs) ∧ -(2 ^ 63) ≤ i ∧ i < 2 ^ 63 ∧ seqIndex? i xs.length = some k ∧ xs[k]? = some y ∧ Q y (upd H l (.lst (xs.eraseIdx k)))
theorem mt_popAt : MtM X "list.pop" rPopAt := by
  intro pins s σ H x vs v us Q I rx rv h
  obtain ⟨l, xs, i, k, y, rfl, rfl, hH, h1, h2, hk, hy, q⟩ := h
  cases rx
  obtain ⟨u, rfl, ru⟩ := rv.one
  obtain ⟨t, rfl⟩ := ru
  obtain ⟨z, its, n, r, hl, e⟩ := I.lstM hH
  obtain ⟨w, hw, rw'⟩ := r.get hy
  refine call_meets F.slot_list_pop ⟨_, e, rfl⟩ F.entry_list_pop (F.args_list_pop_2 _ _)
    (MeetsSeq.list_pop_at l its.toArray n i t k w (fitsIndex_both h1 h2) (by rw [List.size_toArray, ← hl]; exact hk) (by rw [← Array.getElem?_toList]; exact hw) (by rw [List.size_toArray]; omega)) ⟨e, ?_⟩
  refine ⟨y, _, I.lset (its' := its.eraseIdx k) hH e ?_ (r.eraseIdx k) ?_, rw', q⟩
  · show its.toArray.eraseIdxIfInBounds k = (its.eraseIdx k).toArray
    rw [List.eraseIdxIfInBounds_toArray]
  · have := len_erase xs k
    omega
def rCat : R2 := fun x y H Q => ∃ l b xs zs, x = .ref l ∧ y = .ref b ∧ H l = some (.lst xs) ∧ H b = some (.lst zs) ∧ xs.length + zs.length ≤ sizeLine ∧ ∀ p, H p = none → Q (.ref p) (upd H p (.lst (xs ++ zs)))
theorem op_cat : OpR X (binaryOp .Add) rCat := by
  intro pins s σ H x y v u Q I rx ry h
  obtain ⟨l, b, xs, zs, rfl, rfl, hH, hB, hz, q⟩ := h
  cases rx
  cases ry
  obtain ⟨z, its, n, r, hl, e⟩ := I.lstM hH
  obtain ⟨z2, its2, n2, r2, hl2, e2⟩ := I.lstM hB
  refine PySem.P.add_list e e2 ?_ (by rw [List.size_toArray, List.size_toArray]; omega)
  have ea : its.toArray ++ its2.toArray = (its ++ its2).toArray := by simp
  rw [ea]
  exact ⟨.ref _, _, I.lnew (t' := s.toks) (r.append r2) (by rw [List.length_append]; omega), rfl, q _ I.fresh⟩
end
section
variable {prog : Program} {w : World} {A : Around} {E : Value → Shared → Prop} {s : Shared}
set_option maxRecDepth 100000 in
end
section
variable {X : Cx}
end
end L2
namespace Att
open PySem PySem.W PySem.Calls PyProof.Rows
theorem ints_of_wellAll {P : Params} {h : Heap} : ∀ (ns : List Int) (vs : List Value), WellAll P h vs (ns.map WData.int) → IntsAre vs ns := by
  intro ns
  induction ns with
  | nil =>
    intro vs w
    rw [List.map_nil] at w
    cases w
    exact .nil
  | cons n ns ih =>
    intro vs w
    rw [List.map_cons] at w
    cases w with
    | cons a b =>
      cases a
      exact .cons _ _ (ih _ b)
theorem script_of {l : OpenLaw} {n : Nat} (hn : l.most = some n) {P : Params} {h : Heap} {args : List WData} {vals : List Value}
    (hpre : l.row.toRowW.claim.pre args = true) (hwl : WellAll P h vals args) :
    ∃ a vs ns, vals = [Value.ref a] ∧ args = [WData.list (ns.map WData.int)] ∧ h.get? a = some { cls := .type "list", data := .seq vs.toArray } ∧ IntsAre vs ns ∧ ns.length ≤ n := by
  have hsh : WShape.hasAll [] args [.list .int] = true := (pre_splitW hpre).1
  have hc : l.pre.holds [] { args := args } = true := (pre_splitW hpre).2
  obtain ⟨d, r, rfl, h1, h2⟩ := hasAllW_cons hsh
  obtain rfl := hasAllW_nil h2
  obtain ⟨xs, rfl, h3⟩ := hasW_list h1
  obtain ⟨ns, rfl⟩ := items_int h3
  have hlen : ns.length ≤ n := by
    unfold OpenLaw.pre at hc
    have h4 : (WTm.not (.lt (.lit (.int (n : Int))) (.len (.arg 0)))).holds [] { args := [.list (ns.map .int)] } = true := by
      have h4 := (holds_andW hc).1
      rw [hn] at h4
      exact h4
    have h5 := condW_of h4 (w_not (w_lt w_lit (w_len_list (w_arg rfl))))
    rw [List.length_map] at h5
    refine Nat.le_of_not_lt fun q => ?_
    have q' : (n : Int) < ((ns.length : Nat) : Int) := by omega
    first
      | (rw [decide_eq_true q'] at h5; exact absurd h5 (by decide))
      | (simp at h5; omega)
  cases hwl with
  | cons w1 w2 =>
    cases w2
    cases w1 with
    | list ho hall => exact ⟨_, _, ns, rfl, rfl, ho, ints_of_wellAll ns _ hall, hlen⟩
theorem post_true (l : OpenLaw) (args : List WData) : l.row.toRowW.claim.post args (.bool true) args = true :=
  postW_of (r := l.row.toRowW) (X := (true == true))
    (show WShape.has [] (.bool true) .bool = true by first | rfl | decide | simp [WShape.has, WShape.arms, WShape.armsAll])
    (show (WTm.eq .res (.lit (.bool true))).value [] { args := args, res := some (.bool true), after := args } = some (.bool (true == true)) from w_eq_bool (w_res rfl) w_lit) rfl
theorem attach_call {l : OpenLaw} {n : Nat} {q : Program} {loose : List Str} {XP : (Str → Option Value) → Heap → Prop} {YP : World → Heap → Prop} {d : DefRec}
    (hn : l.most = some n) (hdf : d.params.defaults = [])
    (call : ∀ (w : World) (s₀ s₁ : Shared) (mg mb : Str → Option Value) (fa : Addr) (o : Obj) (pm cd doc : Value) (a : Addr) (vs : List Value) (ns : List Int),
      Ground q loose [] XP w s₀ mg mb s₁.heap → YP w s₁.heap →
      s₁.heap.get? fa = some o → o.data = .func (docDef d.name d.params d.body d.scope pm cd doc) → s₁.heap.CodeRec cd d.name → mg d.name = some (.ref fa) →
      s₁.heap.get? a = some { cls := .type "list", data := .seq vs.toArray } → IntsAre vs ns → ns.length ≤ n → s₁.gens = #[] →
      codeAny (model l.prog w) callerA (.call (.ref fa) ⟨[.ref a], []⟩) (fun r s' => r = .ok (.ret (.bool true)) ∧ OldK s₁.heap s'.heap ∧ s'.os = s₁.os ∧ AllBare s'.gens) s₁) :
    WalkO q loose XP YP l.row.toRowW d [] (fun f vs => PySem.call f vs) := by
  intro w s₀ s₁ mg mb G Y fa o pm cd doc dV kV ho hd hcd hD hmg hg args vals as hpre hlay hrd hwl hlo
  obtain rfl : dV = .none := Dflts.none hD hdf
  obtain rfl : kV = .none := Dflts.noKw hD
  obtain ⟨a, vs, ns, rfl, rfl, hobj, hints, hlen⟩ := script_of hn hpre hwl
  refine enter_call (codeAny_mono (call w s₀ s₁ mg mb fa o pm cd doc a vs ns G Y ho (fd_plain hd) hcd hmg hobj hints hlen hg) fun r s' hq => ?_)
  obtain ⟨rfl, h2, h3, h4⟩ := hq
  exact ⟨.inl ⟨.bool true, .bool true, [], rfl, fun _ => rfl, .bool true, post_true l _, fun _ => ⟨List.Pairwise.nil, fun _ hm => (nomatch hm)⟩⟩, h2, h3, h4⟩
section
variable {prog : Program} {w : World} {A : Around} {E : Value → Shared → Prop} {s : Shared} {K : Frag}
end
end Att
namespace L2
open PySem PySem.Spec PyProof.Rows
theorem vals_ints : ∀ {vs : List Value} {ns : List Int}, IntsAre vs ns → Vals (ns.map V.int) vs
  | _, _, .nil => .nil
  | _, _, .cons n t h => .cons ⟨t, rfl⟩ (vals_ints h)
end L2
namespace L2
open PySem PySem.Spec PyProof.Rows
end L2
/- THE LAST THEOREM (shape; LID, My.* are yours):
   My.Adr: a structure of the addresses that your layer names (classes, functions); My.Txt K t: a structure (Prop) of the equations over K;
   My.txt_mk : {K} {implicit addresses ..} (e1 : nsIn K mainGlobals "law" = some (some (.ref f))) (e2 : K.lookup f = some ⟨oc, od, .func (fnOf "law" "law" params body scope dV kV doc pm an cdv ct), sl⟩) (e3 : codeIn K cdv "law" = true) .. : ∃ t, My.Txt K t
set_option maxRecDepth 100000 in
set_option maxHeartbeats 0 in
theorem PySem.Challenge.cw_LID_holds : PySem.Challenge.rw_LID.Holds := by
  w_on; o_law; k_head; (case hw => w_witness2)
  k_fill
  refine L2.walk_of (l := PySem.Challenge.rw_LID) (n := 63) (k := 40) (x := "script") (CX := fun w => ..) (sp := fun _ => My.sp_law) rfl (by decide) rfl ⟨rfl, by decide, by decide⟩ (fun w h Y => PySem.W.kIn_of Y) ?F ?S ?C
  case F =>
    intro w mg fa h KX G hmg
    have T : ∃ t, My.Txt (L2.KOf KX) t := by
      dsimp only [L2.KOf]                          -- K must stand as «<heap const> w.params» for k_is
      refine' My.txt_mk ?e1 ?e2 ?e3 ..
      (case e1 => PySem.W.k_is)                    -- in the order: a name -> its address -> its object -> its parts
      (case e2 => PySem.W.k_is)
      ..
    obtain ⟨t, T⟩ := T
    have e0 := hmg.symm.trans (PySem.W.mg_of KX G T.law)
    cases e0                                       -- fa is the law's own address
    exact ⟨_, fun s u => .of_eq rfl, fun base kb nb => My.law_fn T kb nb⟩     -- if «.of_eq rfl» comes too early: refine' ⟨_, ?b, fun base kb nb => My.law_fn T kb nb⟩; exact fun s u => .of_eq rfl
  case S => exact fun w H a ns hl hO hS => ..
  case C => exact ..
(the tactic k_is has no namespace: write k_is) -/
namespace L2
open PySem PySem.Spec PyProof.Rows
def inClass (s : Stmt) (j : Nat) : Stmt := match s with
  | .ClassDef _ _ _ body _ _ _ _ _ _ _ => body.getD j (.Pass ⟨0, 0, 0, 0⟩)
  | _ => .Pass ⟨0, 0, 0, 0⟩
def defArgs (s : Stmt) : Arguments := match s with
  | .FunctionDef _ a _ _ _ _ _ _ _ _ => a
  | _ => { posonlyargs := [], args := [], vararg := none, kwonlyargs := [], kw_defaults := [], kwarg := none, defaults := [] }
def defBody (s : Stmt) : List Stmt := match s with
  | .FunctionDef _ _ b _ _ _ _ _ _ _ => b
  | _ => []
def defScope (s : Stmt) : Scope := match s with
  | .FunctionDef _ _ _ _ _ _ sc _ _ _ => sc
  | _ => { kind := .function, names := [], isGenerator := false, isCoroutine := false }
abbrev E0 : XK := fun _ _ _ => False
section
variable {P : Program} {w : World} {K : PySem.W.Frag} {mg : Str → Option Value} {base : Heap}
end
section
variable {X : Cx}
theorem pv (i : Nat) {x : Str} {pos : Pos} (hN : X.N[i]? = some x := by rfl) (hv : Vis X.env.scope x := by first | exact Or.inl rfl | exact Or.inr (Or.inl rfl) | exact Or.inr (Or.inr rfl)) (hd : (x == ("__debug__" : Str)) = false := by decide)
    (hcd : (x == ("__classdict__" : Str)) = false := by decide) : PE X (.Name x pos) (tVar i) := pe_var hN hv hd hcd
end
theorem iteF {A B : Prop} (h : B) : if false = true then A else B := by
  rw [if_neg Bool.false_ne_true]
  exact h
theorem iteT {A B : Prop} (h : A) : if true = true then A else B := by
  rw [if_pos rfl]
  exact h
theorem ite2 {c A B : Prop} [Decidable c] (h1 : c → A) (h2 : ¬ c → B) : if c then A else B := by
  by_cases h : c
  · rw [if_pos h]
    exact h1 h
  · rw [if_neg h]
    exact h2 h
def Same (H H' : Hp) : Prop := ∀ b o, H b = some o → H' b = some o
theorem Same.refl (H : Hp) : Same H H := fun _ _ h => h
theorem Same.trans {H H1 H2 : Hp} (a : Same H H1) (b : Same H1 H2) : Same H H2 := fun c o h => b c o (a c o h)
end L2
namespace L2
open PySem PySem.Spec PyProof.Rows
theorem Inv.turned2 {X : Cx} {pins : List (Addr × Obj)} {σ : St} {H : Hp} {s : Shared} {h' : Heap} {t' : Nat} {e it : Addr} (I : Inv X pins σ H s)
    (k : ∀ b o, b ≠ e → b ≠ it → s.heap.get? b = some o → h'.get? b = some o) (fe : FpOk X pins H e) (fi : FpOk X pins H it) : Inv X pins σ H { s with heap := h', toks := t' } := by
  have nit : ∀ b u, H b = some u → b ≠ e ∧ b ≠ it := fun b u q => ⟨(fun z => by rw [z, fe.1] at q; cases q), (fun z => by rw [z, fi.1] at q; cases q)⟩
  have out : ∀ b, b ∉ [e, it] → b ≠ e ∧ b ≠ it := fun b hb => ⟨fun z => hb (by simp [z]), fun z => hb (by simp [z])⟩
  refine I.step (g' := s.gens) (d' := s.drawn) (ch := [e, it]) (fun b hb => ?_) (fun b o _ _ hc q _ => k b o (out b hc).1 (out b hc).2 q) (fun b o _ _ hc q _ => ⟨o.slots, k b o (out b hc).1 (out b hc).2 q⟩) (fun _ _ _ _ n => n)
    (fun b o hc q => ⟨o, k b o (out b hc).1 (out b hc).2 q⟩) (fun _ _ q => q) (fun _ _ _ q => q) (fun b ps q => ⟨#[], by rw [q]; simp⟩) (fun m hm => ?_) (fun b u q => ?_) I.bare
  · rcases List.mem_cons.mp hb with z | hb
    · rw [z]; exact ⟨fe.2.2.2.1, fe.2.1, fe.2.2.2.2.1, fe.2.2.2.2.2⟩
    · have z : b = it := by simpa using hb
      rw [z]; exact ⟨fi.2.2.2.1, fi.2.1, fi.2.2.2.2.1, fi.2.2.2.2.2⟩
  · obtain ⟨o, es, ep, ho, r⟩ := hm
    exact ⟨o, es, ep, k _ o (Ne.symm fe.2.1) (Ne.symm fi.2.1) ho, r⟩
  · refine (I.hok b u q).stay (fun c v hc r => ?_) (fun _ r => r) fun _ _ r => r
    rcases hc with z | z
    · rw [z] at r ⊢; exact k b v (nit b u q).1 (nit b u q).2 r
    · exact k c v (nit c _ z).1 (nit c _ z).2 r
def Ite (K : PySem.W.Frag) (a : Addr) : It :=
  ⟨fun i H => ∃ xs x, SqL K H a xs ∧ xs[i]? = some x, fun i H x H' => ∃ t y, H t = none ∧ x = .ref t ∧ (∀ xs, SqL K H a xs → xs[i]? = some y) ∧ H' = upd H t (.tup [.int i, y]),
   fun i H => ∃ xs, SqL K H a xs ∧ xs.length ≤ i⟩
theorem turn_enum {P : Program} {w : World} {K : PySem.W.Frag} {es : List Expr} {k : Nat} {pos : Pos} (a e it : Addr) (hne : e ≠ it) :
    Turn P w K (.Tuple es k pos) (Ite K a) [e, it] e (fun i h => (∃ old, IsEnum h e it i old) ∧ h.IsListIter it a i) where
  mem := by simp
  obj := fun i h st b hb => by
    obtain ⟨⟨old, he⟩, o, e1, c, d⟩ := st
    rcases List.mem_cons.mp hb with z | hb
    · rw [z]; exact ⟨_, he, fun v z => by have z' : Data.fields _ = Data.cell v := z; cases z'⟩
    · have z : b = it := by simpa using hb
      rw [z]; exact ⟨o, e1, fun v z => by rw [d] at z; cases z⟩
  keep := fun i h h' st kk => by
    obtain ⟨⟨old, he⟩, st⟩ := st
    exact ⟨⟨old, kk e (by simp) _ he⟩, st.at fun o q => kk it (by simp) o q⟩
  item := by
    intro X hP hw hK hc i pins s σ H E I hf st hg
    subst hP hw hK
    obtain ⟨xs, x, hq, hx⟩ := hg
    obtain ⟨its, rv, p, hz⟩ := I.list hq
    obtain ⟨u, hu, ru⟩ := rv.get hx
    have fe := hf e (by simp)
    have fi := hf it (by simp)
    obtain ⟨⟨old, he⟩, hit⟩ := st
    refine wpAny_pyNext_enum_item he hit p.isList (x := u) (by simpa using hu) hne fun h1 eo it1 tp sz kk => ?_
    refine ⟨_, rfl, wpAny_letOwnedTupleGo_enum (s := { s with heap := h1, toks := s.toks + 1 }) eo fun h2 e2 sb2 => ?_⟩
    have hfr := I.hok.fresh (Nat.le_refl s.heap.objs.size)
    have I1 : Inv X pins σ (upd H s.heap.objs.size (.tup [.int i, x])) { s with heap := s.heap.push { cls := .type "tuple", data := .seq #[.int i s.toks, u] }, toks := s.toks } :=
      I.laid (o := .tup [.int i, x]) (fun b o q => Heap.get?_push_of_some _ q) (Nat.le_refl _) ⟨by show 2 ≤ sizeLine; decide, [.int i s.toks, u], .cons ⟨_, rfl⟩ (.cons ru .nil), IsTup.new _ _⟩
    have lt1 : e < s.heap.objs.size := Heap.lt_size he
    have lt2 : it < s.heap.objs.size := by obtain ⟨o, q, _⟩ := id hit; exact Heap.lt_size q
    have up : ∀ {b : Addr}, FpOk X pins H b → b < s.heap.objs.size → FpOk X pins (upd H s.heap.objs.size (.tup [.int i, x])) b := fun f l => ⟨by rw [upd_ne (Nat.ne_of_lt l)]; exact f.1, f.2⟩
    have I2 := I1.turned2 (h' := h2) (t' := s.toks + 1) (fun b o n1 n2 q => ?_) (up fe lt1) (up fi lt2)
    · refine ⟨.ref s.heap.objs.size, _, I2, rfl, ⟨_, x, hfr, rfl, fun ys hy => by rw [I.list_inj hy hq]; exact hx, rfl⟩, ⟨⟨u, ?_⟩, it1.extBut sb2.extBut (Ne.symm hne)⟩, fun b hb => ?_⟩
      · have e3 : ((i + 1 : Nat) : Int) = (i : Int) + 1 := by push_cast; rfl
        rw [e3]; exact e2
      · rcases List.mem_cons.mp hb with z | hb
        · rw [z]; exact (up fe lt1).1
        · have z : b = it := by simpa using hb
          rw [z]; exact (up fi lt2).1
    · have q1 : (s.heap.push { cls := .type "tuple", data := .seq #[.int i s.toks, u] }).get? b = some o := q
      refine sb2.extBut b o n1 ?_
      by_cases hb : b = s.heap.objs.size
      · subst hb
        rw [Heap.get?_push_size _ rfl] at q1
        cases q1
        exact tp
      · refine kk b o n1 n2 ?_
        rw [← q1]
        exact (Heap.get?_push_ne s.heap b _ hb).symm
  done := by
    intro X hP hw hK hc i pins s σ H E I hf st hg
    subst hP hw hK
    obtain ⟨xs, hq, hx⟩ := hg
    obtain ⟨its, rv, p, hz⟩ := I.list hq
    obtain ⟨⟨old, he⟩, hit⟩ := st
    obtain ⟨f0, f1, f2, f3, f4, f5⟩ := hf it (by simp)
    have hl := rv.length
    exact wpAny_pyNext_enum_end (I.ok.hd hc) he hit p.isList (by simp; omega) fun h' eb => ⟨rfl, I.turned (t' := s.toks) (fun b o hb q => eb b o hb q) f0 f1 f3 f4 f5⟩
  self := fun _ _ _ _ _ st h => by
    obtain ⟨⟨old, he⟩, _⟩ := st
    exact wpAny_pyIter_enum he h
section
variable {X : Cx} {es : List Expr} {tk : Nat} {tpos : Pos}
def iEnum (K : PySem.W.Frag) (ta : TA) : TI := fun σ H R => ta σ H fun vs H1 => ∃ a, vs = [.ref a] ∧ (∃ xs, SqL K H1 a xs) ∧ R (Ite K a) H1
theorem pi_enum {l : Expr} {ta : TA} {p pos : Pos} (hg : Gl X "enumerate") (hm : X.mg "enumerate" = none) (ha : PA X [l] ta) (hs : starEach [l] X.env = [(false, eval l X.env)] := by rfl) :
    PI X (.Tuple es tk tpos) (.Call (.Name "enumerate" p) [l] [] pos) (iEnum X.K ta) := by
  intro pins s σ H R I h
  refine Call_ (ld_blt I hg hm PyProof.Rows.boot_enumerate (PyProof.Rows.callWith_type1 (thn (ha pos pins s σ H _ I h) fun us s1 ⟨vs, H1, I1, r1, q1⟩ => ?_) hs rfl))
  obtain ⟨a, e, ⟨xs, hq⟩, q⟩ := q1
  subst e
  cases r1 with
  | cons r rr =>
    cases rr
    cases r
    obtain ⟨its, rv, pl, hz⟩ := I1.list hq
    refine call_enumerate_list pl.isList fun h' he hit hsz kk => wpAny_pyIter_enum he ?_
    refine ⟨_, [s1.heap.objs.size + 1, s1.heap.objs.size], _, _, H1, rfl, I1.kept (t' := s1.toks) kk, turn_enum a _ _ (Nat.succ_ne_self _), ⟨⟨_, he⟩, hit⟩, fun b hb => ?_, q⟩
    rcases List.mem_cons.mp hb with z | hb
    · rw [z]; exact I1.fpOk (Nat.le_succ _) (I1.hok.fresh (Nat.le_succ _))
    · have z : b = s1.heap.objs.size := by simpa using hb
      rw [z]; exact I1.fpOk (Nat.le_refl _) (I1.hok.fresh (Nat.le_refl _))
end
theorem for_enum {K : PySem.W.Frag} {a : Addr} {xs : List V} {g : TG} {tb : TS} {D : Ends} {σ : St} {H : Hp} (Pv : Nat → St → Hp → Prop) (h0 : Pv 0 σ H) (hl : ∀ i σ H, i ≤ xs.length → Pv i σ H → SqL K H a xs)
    (hs : ∀ i x t σ H, xs[i]? = some x → Pv i σ H → H t = none → g (.ref t) σ (upd H t (.tup [.int i, x])) fun σ2 H2 => tb { D with nx := Pv (i + 1), ct := Pv (i + 1), bk := D.nx } σ2 H2) (hd : ∀ σ H, Pv xs.length σ H → D.nx σ H) :
    ∃ W : Nat → Nat → St → Hp → Prop, (∃ m, W 0 m σ H) ∧ ∀ i m σ H, W i m σ H →
      ((Ite K a).stop i H ∧ D.nx σ H) ∨ ((Ite K a).go i H ∧ ∃ N : St → Hp → Prop, (∀ σ' H', N σ' H' → ∃ m', m' < m ∧ W (i + 1) m' σ' H') ∧ ∀ x H', (Ite K a).yld i H x H' → g x σ H' fun σ2 H2 => tb { D with nx := N, ct := N, bk := D.nx } σ2 H2) := by
  refine ⟨fun i m σ H => m = xs.length - i ∧ i ≤ xs.length ∧ Pv i σ H, ⟨xs.length, by simp, Nat.zero_le _, h0⟩, ?_⟩
  rintro i m σ H ⟨rfl, hi, p⟩
  have q := hl i σ H hi p
  by_cases hlt : i < xs.length
  · refine .inr ⟨⟨xs, xs[i], q, by simp [hlt]⟩, Pv (i + 1), fun σ' H' p' => ⟨xs.length - (i + 1), by omega, rfl, hlt, p'⟩, fun x H' y => ?_⟩
    obtain ⟨t, y, n, e1, e2, e3⟩ := y
    subst e1 e3
    exact hs i y t σ _ (e2 xs q) p n
  · have e : i = xs.length := by omega
    subst e
    exact .inl ⟨⟨xs, q, Nat.le_refl _⟩, hd σ H p⟩
def big : Nat := 2 ^ 4000
theorem big_log {n : Nat} (h : n < big) : n.log2 < 4000 := by
  by_cases h0 : n = 0
  · rw [h0]; decide +kernel
  · exact (Nat.log2_lt h0).mpr h
section
variable {X : Cx}
theorem op_fdivP : OpR X (binaryOp .FloorDiv) (rI (fun _ j => 0 < j ∧ j.natAbs < big) fun i j => .int (i / j)) := opI fun i j _ _ _ _ _ hc q => by
  have h1 : (0 : Int) < j := hc.1
  exact floordiv_int (by omega) (by rw [Int.fdiv_eq_ediv_of_nonneg i (by omega)]; exact q) (.inl (PyProof.noPylong_of_log2 (Nat.lt_trans (big_log hc.2) (by decide))))
def eqVs : List V → List V → Bool
  | [], [] => true
  | x :: xs, y :: ys => eqV x y && eqVs xs ys
  | _, _ => false
end
end L2
namespace L2
open PySem PySem.Spec PyProof.Rows
def TbOk (h : Heap) (e : Addr) (vs : Array Value) : Prop :=
  vs[1]? = some .none ∨ ∃ T oT ts, vs[1]? = some (.ref T) ∧ T ≠ e ∧ h.get? T = some oT ∧ oT.data = .fields ts ∧ ts[3]? = some .none
structure Noted (fs : List Addr) (e L : Addr) (oe : Obj) (vs : Array Value) (h h' : Heap) (T : Addr) (fl : Value) : Prop where
  new : h.get? T = none
  ne : T ≠ e
  exc : h'.get? e = some (oe.mapFields (·.setIfInBounds 1 (.ref T)))
  tb : ∃ oT ts, h'.get? T = some oT ∧ oT.data = .fields ts ∧ ts[3]? = some fl
  keep : ∀ b o, b ∉ fs → b ≠ e → vs[1]? ≠ some (.ref b) → h.get? b = some o → h'.get? b = some o
  slot : ∀ b o, b ∈ fs → h.get? b = some o → ∃ sl, h'.get? b = some { o with slots := sl }
section
variable {M : Model} {A : Around} {E : Value → Shared → Prop} {s : Shared} {env : Env} {outer : List Env} {base : Heap} {L e : Addr} {oe : Obj} {vs : Array Value} {Q : Unit → Shared → Prop}
theorem entry_ok {head : Value} {had : Bool} (hfr : A.frames = some (env :: outer)) (hl : s.heap.FunFrames base (env :: outer)) (hf : env.frame = some L)
    (he : s.heap.get? e = some oe) (hd : oe.data = .fields vs) (hz : 1 < vs.size)
    (h : ∀ h' T, s.heap.get? T = none → T ≠ e → h'.get? e = some (oe.mapFields (·.setIfInBounds 1 (.ref T))) → (∃ oT ts, h'.get? T = some oT ∧ oT.data = .fields ts ∧ ts[3]? = some (rawInt L)) →
      (∀ b o, b ∉ frs (env :: outer) → b ≠ e → s.heap.get? b = some o → h'.get? b = some o) → (∀ b o, b ∈ frs (env :: outer) → s.heap.get? b = some o → ∃ sl, h'.get? b = some { o with slots := sl }) →
      Q () { s with heap := h' }) :
    wpAny M A (do let f ← frameOf env; let p ← entryPlaceOf L had; let n ← EntryCells.newEntry head f .none (rawInt L) .none p; setField (.ref e) 1 n) Q E s := by
  have enf : e ∉ frs (env :: outer) := fun z => by
    obtain ⟨_, o, ho, hn⟩ := hl.mem z
    rw [he] at ho; cases ho
    exact hn vs hd
  refine wpAny_bind (wpAny_frameOf_fun hfr hl hf fun g1 so => ?_)
  refine wpAny_bind (wpAny_entryPlaceOf fun pl hp => ?_)
  unfold EntryCells.newEntry newFields
  refine wpAny_bind (wpAny_newObj_type ?_ (hp.sizeOk5 _ _ _ _ _))
  have e1 : g1.get? e = some oe := (so.2.1 e enf).trans he
  generalize htb : ({ cls := .type "traceback", dict := none, data := .fields ([head, .ref L, .none, rawInt L, .none] ++ (if pl.isEmpty then List.replicate 6 Value.none else pl)).toArray } : Obj) = tb
  have dtb : ∃ ts, tb.data = .fields ts ∧ ts[3]? = some (rawInt L) := by
    subst htb
    exact ⟨_, rfl, by simp⟩
  have ftb : tb.isFreed = false := by subst htb; rfl
  have e2 : (g1.push tb).get? e = some oe := Heap.get?_push_of_some _ e1
  have tne : g1.objs.size ≠ e := Nat.ne_of_gt (Heap.lt_size e1)
  refine wpAny_setField e2 hd hz ?_
  have d3 := Obj.data_mapFields hd (·.setIfInBounds 1 (Value.ref g1.objs.size))
  have keep : ∀ b o, b ≠ e → g1.get? b = some o → ((g1.push tb).update e (Obj.mapFields (·.setIfInBounds 1 (Value.ref g1.objs.size)))).get? b = some o := fun b o hb q => by
    rw [Heap.get?_update_other _ _ (Ne.symm hb)]
    exact Heap.get?_push_of_some _ q
  refine h _ g1.objs.size (Heap.get?_none_of_le (Nat.le_of_eq so.1.symm)) tne (Heap.get?_update_self _ e2 (Obj.isFreed_of_fields d3)) ?_ (fun b o n1 n2 q => keep b o n2 ((so.2.1 b n1).trans q)) (fun b o n1 q => ?_)
  · obtain ⟨ts, q1, q2⟩ := dtb
    refine ⟨tb, ts, ?_, q1, q2⟩
    rw [Heap.get?_update_other _ _ (Ne.symm tne)]
    exact Heap.get?_push_size g1 ftb
  · obtain ⟨sl, q1⟩ := so.2.2 b o q
    exact ⟨sl, keep b _ (fun z => enf (z ▸ n1)) q1⟩
theorem note_ok (hfr : A.frames = some (env :: outer)) (hl : s.heap.FunFrames base (env :: outer)) (hf : env.frame = some L)
    (he : s.heap.get? e = some oe) (hd : oe.data = .fields vs) (hv : TbOk s.heap e vs) (h : ∀ h' T, Noted (frs (env :: outer)) e L oe vs s.heap h' T (rawInt L) → Q () { s with heap := h' }) :
    wpAny M A (noteFrame (.ref e) env) Q E s := by
  unfold noteFrame
  simp only [hf]
  rcases hv with h1 | ⟨T, oT, ts, h1, ne, hT, dT, h3⟩
  · refine wpAny_bind (wpAny_field he hd h1 ?_)
    rw [if_neg (by decide)]
    exact entry_ok hfr hl hf he hd (Array.getElem?_eq_some_iff.mp h1).1 fun h' T a b c d k sl => h h' T ⟨a, b, c, d, fun b o n1 n2 _ q => k b o n1 n2 q, sl⟩
  · refine wpAny_bind (wpAny_field he hd h1 ?_)
    rw [if_pos (show (Value.ref T != Value.none) = true from by simp)]
    refine wpAny_bind (wpAny_field hT dT h3 ?_)
    rw [if_neg (show ¬ ((Value.none == rawInt L) = true) from by simp [rawInt])]
    refine wpAny_bind (wpAny_setField hT dT (Array.getElem?_eq_some_iff.mp h3).1 ?_)
    have oth : ∀ b, b ≠ T → (s.heap.update T (Obj.mapFields (·.setIfInBounds 3 Value.none))).get? b = s.heap.get? b := fun b hb => Heap.get?_update_other _ _ (Ne.symm hb)
    have nf : ∀ b o, s.heap.get? b = some o → (∀ vs, o.data ≠ .fields vs) → b ≠ T := fun b o q hn z => by
      rw [z, hT] at q; cases q
      exact hn ts dT
    have hl2 := hl.of_keeps (h' := s.heap.update T (Obj.mapFields (·.setIfInBounds 3 Value.none))) fun b o q hn => ⟨o, (oth b (nf b o q hn)).trans q, rfl⟩
    refine entry_ok (s := { s with heap := s.heap.update T (Obj.mapFields (·.setIfInBounds 3 Value.none)) }) hfr hl2 hf ((oth e (Ne.symm ne)).trans he) hd (Array.getElem?_eq_some_iff.mp h1).1 fun h' T' a b c d k sl => ?_
    have nT : T' ≠ T := fun z => by
      have a' : (s.heap.update T (Obj.mapFields (·.setIfInBounds 3 Value.none))).get? T' = none := a
      rw [z, Heap.get?_update_self _ hT (Obj.isFreed_of_fields (Obj.data_mapFields dT _))] at a'
      cases a'
    refine h h' T' ⟨(oth T' nT).symm.trans a, b, c, d, fun b o n1 n2 n3 q => k b o n1 n2 ((oth b fun z => n3 (by rw [z]; exact h1)).trans q), fun b o n1 q => ?_⟩
    refine sl b o n1 ((oth b fun z => ?_).trans q)
    obtain ⟨_, o', ho, hn⟩ := hl.mem n1
    exact nf b o' ho hn z
theorem land_ok {fs : List Addr} {h0 : Heap} {T : Addr} {fl : Value} (N : Noted fs e L oe vs h0 s.heap T fl) (hd : oe.data = .fields vs) (hz : 1 < vs.size) (hT : T ∉ fs)
    (h : ∀ h', Noted fs e L oe vs h0 h' T .none → Q () { s with heap := h' }) : wpAny M A (setFlight (.ref e) none) Q E s := by
  obtain ⟨oT, ts, q1, q2, q3⟩ := N.tb
  have h3 : 3 < ts.size := (Array.getElem?_eq_some_iff.mp q3).1
  refine wpAny_setFlight_none N.exc (Obj.data_mapFields hd _) (by simp [hz]) q1 q2 h3 (h _ ?_)
  have oth : ∀ b, b ≠ T → (s.heap.update T (Obj.mapFields (·.setIfInBounds 3 Value.none))).get? b = s.heap.get? b := fun b hb => Heap.get?_update_other _ _ (Ne.symm hb)
  have old : ∀ b o, h0.get? b = some o → b ≠ T := fun b o q z => by rw [z, N.new] at q; cases q
  refine ⟨N.new, N.ne, (oth e (Ne.symm N.ne)).trans N.exc, ⟨_, _, Heap.get?_update_self _ q1 (Obj.isFreed_of_fields (Obj.data_mapFields q2 _)), Obj.data_mapFields q2 _, by simp [h3]⟩,
    fun b o n1 n2 n3 q => (oth b (old b o q)).trans (N.keep b o n1 n2 n3 q), fun b o n1 q => ?_⟩
  obtain ⟨sl, q4⟩ := N.slot b o n1 q
  exact ⟨sl, (oth b (old b o q)).trans q4⟩
theorem leave_ok (hfr : A.frames = some (env :: outer)) (hl : s.heap.FunFrames base (env :: outer)) (hf : env.frame = some L)
    (he : s.heap.get? e = some oe) (hd : oe.data = .fields vs) (hv : TbOk s.heap e vs) (h : ∀ h' T, Noted (frs (env :: outer)) e L oe vs s.heap h' T .none → Q () { s with heap := h' }) :
    wpAny M A (leaving env (.ref e)) Q E s := by
  unfold leaving
  have hz : 1 < vs.size := by
    rcases hv with h1 | ⟨T, oT, ts, h1, _⟩
    · exact (Array.getElem?_eq_some_iff.mp h1).1
    · exact (Array.getElem?_eq_some_iff.mp h1).1
  refine wpAny_bind (note_ok hfr hl hf he hd hv fun h1 T N => ?_)
  refine land_ok (s := { s with heap := h1 }) N hd hz (fun z => ?_) fun h' N' => h h' T N'
  obtain ⟨_, o, ho, _⟩ := hl.mem z
  rw [N.new] at ho; cases ho
end
theorem ObjOk.there {P : Program} {w : World} {H : Hp} {h : Heap} {a : Addr} {o : HO} (x : ObjOk P w H h a o) : ∃ ob, h.get? a = some ob := by
  cases o with
  | lst xs => obtain ⟨_, _, _, _, e⟩ := x; exact ⟨_, e⟩
  | tup xs => obtain ⟨_, _, _, o, e, _⟩ := x; exact ⟨_, e⟩
  | dK kvs => obtain ⟨_, _, _, _, o, _, _, e, _⟩ := x; exact ⟨_, e⟩
  | dT kvs => obtain ⟨_, _, _, _, o, _, _, e, _⟩ := x; exact ⟨_, e⟩
  | set S n => obtain ⟨o, _, _, _, e, _⟩ := x; exact ⟨_, e⟩
  | ins C dx fs => obtain ⟨_, _, _, e, _⟩ := x; exact ⟨_, e⟩
  | own y => exact x
  | xd fs => obtain ⟨_, ⟨_, _, _, e, _⟩, _⟩ := x; exact ⟨_, e⟩
  | rng lo hi => obtain ⟨_, _, _, e⟩ := x; exact ⟨_, e⟩
  | frz ob u => obtain ⟨e, _⟩ := x; exact ⟨_, e⟩
  | tbl ps => exact ⟨_, (show h.get? a = some _ from x)⟩
  | met f y => exact ⟨_, (show h.get? a = some _ from x)⟩
  | ext φ => obtain ⟨_, e, _⟩ := x; exact e
theorem HOk.none_of {P : Program} {w : World} {H : Hp} {h : Heap} {a : Addr} (x : HOk P w H h) (e : h.get? a = none) : H a = none := by
  cases q : H a with
  | none => rfl
  | some o =>
    obtain ⟨ob, z⟩ := (x a o q).there
    rw [e] at z; cases z
theorem HOk.keepT {P : Program} {w : World} {H : Hp} {h h' : Heap} (x : HOk P w H h) (k : ∀ b o u, H b = some u → h.get? b = some o → h'.get? b = some o) : HOk P w H h' := fun a o e =>
  (x a o e).stay (fun b u hb q => by
    rcases hb with z | z
    · rw [z] at q ⊢; exact k a u o e q
    · exact k b u _ z q) (fun _ q => q) fun _ _ q => q
theorem Un.post {fs : List Addr} {H H' : Hp} {h h1 h2 : Heap} (u : Un fs [] H H' h h1) (k : ∀ b o p, h.get? b = some p → b ∉ fs → H' b = none → h1.get? b = some o → h2.get? b = some o)
    (sl : ∀ b o, b ∈ fs → h1.get? b = some o → ∃ sl, h2.get? b = some { o with slots := sl }) (th : ∀ b o p, h.get? b = some p → h1.get? b = some o → ∃ o', h2.get? b = some o') : Un fs [] H H' h h2 where
  keep := fun b o q n hb hx => k b o o q hb (u.free b o q n hx) (u.keep b o q n hb hx)
  slot := fun b o q n hb hx => by
    obtain ⟨s1, e1⟩ := u.slot b o q n hb hx
    obtain ⟨s2, e2⟩ := sl b _ hb e1
    exact ⟨s2, e2⟩
  free := u.free
  there := fun b o q hx => by
    obtain ⟨o1, e1⟩ := u.there b o q hx
    exact th b o1 o q e1
  tups := u.tups
  frzs := u.frzs
  tbls := u.tbls
theorem Un.less {fs fs' : List Addr} {H H' : Hp} {h h1 : Heap} (u : Un fs' [] H H' h h1) (hs : ∀ b ∈ fs, b ∈ fs') (hn : ∀ b ∈ fs', b ∉ fs → h.get? b = none) : Un fs [] H H' h h1 where
  keep := fun b o q n hb hx => u.keep b o q n (fun z => by rw [hn b z hb] at q; cases q) hx
  slot := fun b o q n hb hx => u.slot b o q n (hs b hb) hx
  free := u.free
  there := u.there
  tups := u.tups
  frzs := u.frzs
  tbls := u.tbls
end L2
namespace L2
open PySem PySem.Spec PyProof.Rows
def dxOf (h : Heap) (e : Addr) : Option Addr := (h.get? e).bind fun o => o.dict
theorem dxOf_of {h : Heap} {e : Addr} {o : Obj} (q : h.get? e = some o) : dxOf h e = o.dict := by unfold dxOf; rw [q]; rfl
structure Thrown (h0 h : Heap) (e C T : Addr) : Prop where
  n0 : h0.get? e = none
  t0 : h0.get? T = none
  ne : T ≠ e
  ob : ∃ oe vs, h.get? e = some oe ∧ oe.cls = .ref C ∧ oe.data = .fields vs ∧ vs[1]? = some (.ref T)
  tb : ∃ oT ts, h.get? T = some oT ∧ oT.data = .fields ts ∧ ts[3]? = some .none
def CXE (P : Program) (w : World) : CXT := fun outer H s E ev s' => ∃ e C T H', ev = .ref e ∧ s'.os = s.os ∧ AllBare s'.gens ∧ Un (frs outer) [] H H' s.heap s'.heap ∧ HOk P w H' s'.heap ∧ H' e = none ∧ H' T = none ∧
  Thrown s.heap s'.heap e C T ∧ E (.ref C) (dxOf s'.heap e) H'
theorem passE0 {X : Cx} {P : Program} {w : World} : Passes (CXE P w) X E0 := fun _ _ _ _ _ _ _ h => by
  obtain ⟨_, _, _, _, _, _, _, _, _, _, _, _, z⟩ := h
  exact z.elim
theorem mapF_cls (o : Obj) (f : Array Value → Array Value) : (o.mapFields f).dict = o.dict := by
  obtain ⟨c, d, dt, sl⟩ := o
  cases dt <;> rfl
section
variable {P : Program} {w : World} {K : PySem.W.Frag} {mg : Str → Option Value} {base : Heap} {N : List Str} {qual : Str} {scope : Scope} {f : Addr} {cd : Value} {A : Around} {outer : List Env} {s : Shared} {H : Hp} {E : XK}
theorem frame_own {X : Cx} {pins : List (Addr × Obj)} {σ : St} {H1 : Hp} {s1 : Shared} (I : Inv X pins σ H1 s1) (he : X.ex = []) {H2 : Hp} {h2 : Heap} (u : Un (frs X.stack) [] H1 H2 s1.heap h2) : Un X.fs [] X.H₀ H2 X.s₀.heap h2 := by
  have b0 := I.base
  rw [he] at b0
  have sub : ∀ b ∈ X.fs, b ∈ frs X.stack := fun b hb => by
    rcases I.ok.stk with e | ⟨e, hf⟩
    · rw [e]; exact hb
    · rw [e]; unfold frs; rw [List.filterMap_cons, hf]; exact List.mem_cons_of_mem _ hb
  refine Un.less ((b0.mono sub fun b z => z).trans u) sub fun b z nb => ?_
  rcases List.mem_cons.mp (I.stkSub b z) with e | z2
  · rw [e]; exact Heap.get?_none_of_le I.ok.above
  · exact absurd z2 nb
theorem throw_out {pins : List (Addr × Obj)} {σ : St} {H1 H2 : Hp} {s1 s2 : Shared} {e C : Addr} {oe : Obj} {vs : Array Value} (I : Inv (cxOf (CXE P w) P w K mg base N qual scope f cd A outer s H E) pins σ H1 s1)
    (os : s2.os = s1.os) (bare : AllBare s2.gens) (un : Un (frs (cxOf (CXE P w) P w K mg base N qual scope f cd A outer s H E).stack) [] H1 H2 s1.heap s2.heap) (hok : HOk P w H2 s2.heap) (he : H2 e = none) (n0 : s1.heap.get? e = none)
    (q1 : s2.heap.get? e = some oe) (q2 : oe.cls = .ref C) (q4 : oe.data = .fields vs) (q5 : vs[1]? = some .none) (hE : E (.ref C) oe.dict H2) : (cxOf (CXE P w) P w K mg base N qual scope f cd A outer s H E).xe (.ref e) s2 := by
  have I2 := I.call' os un hok bare (fun _ z => nomatch z)
  refine leave_ok I2.ok.frames I2.stack rfl q1 q4 (.inl q5) fun h' T Nt => ?_
  have ne1 : ∀ b o, s1.heap.get? b = some o → b ≠ e := fun b o q z => by rw [z, n0] at q; cases q
  have ne2 : ∀ b : Addr, vs[1]? ≠ some (.ref b) := fun b z => by rw [q5] at z; cases z
  have u : Un (frs (cxOf (CXE P w) P w K mg base N qual scope f cd A outer s H E).stack) [] H1 H2 s1.heap h' :=
    un.post (fun b o p q n _ r => Nt.keep b o n (ne1 b p q) (ne2 b) r) (fun b o n r => Nt.slot b o n r) (fun b o p q r => by
      by_cases hb : b ∈ frs (cxOf (CXE P w) P w K mg base N qual scope f cd A outer s H E).stack
      · obtain ⟨sl, z⟩ := Nt.slot b o hb r
        exact ⟨_, z⟩
      · exact ⟨o, Nt.keep b o hb (ne1 b p q) (ne2 b) r⟩)
  have hok2 : HOk P w H2 h' := HOk.keepT hok fun b o u q r => Nt.keep b o (fun z => by rw [I2.stkFree b z] at q; cases q) (fun z => by rw [z, he] at q; cases q) (ne2 b) r
  have base0 : ∀ {b : Addr}, s1.heap.get? b = none → s.heap.get? b = none := fun {b} q => by
    cases z : s.heap.get? b with
    | none => rfl
    | some o =>
      obtain ⟨o', r⟩ := I.base.there b o z (by intro y; exact absurd (show b ∈ ([] : List Addr) from y) (by simp))
      rw [q] at r; cases r
  have t1 : s1.heap.get? T = none := by
    cases z : s1.heap.get? T with
    | none => rfl
    | some o =>
      obtain ⟨o', r⟩ := un.there T o z (by simp)
      rw [Nt.new] at r; cases r
  refine ⟨e, C, T, H2, rfl, I2.os, bare, frame_own I rfl u, hok2, he, hok.none_of Nt.new, ⟨base0 n0, base0 t1, Nt.ne, ⟨_, _, Nt.exc, (Obj.cls_mapFields _ _).trans q2, Obj.data_mapFields q4 _, ?_⟩, Nt.tb⟩, ?_⟩
  · have z := (Array.getElem?_eq_some_iff.mp q5).1
    simp [z]
  · rw [dxOf_of Nt.exc, mapF_cls]
    exact hE
theorem throw_fn {pins : List (Addr × Obj)} {σ : St} {H1 : Hp} {s1 : Shared} {h1 : Heap} {e C : Addr} {args : List Value} (I : Inv (cxOf (CXE P w) P w K mg base N qual scope f cd A outer s H E) pins σ H1 s1)
    (hx : Heap.MadeExcOf s1.heap h1 e (.ref C) args) (hE : E (.ref C) none H1) : (cxOf (CXE P w) P w K mg base N qual scope f cd A outer s H E).xe (.ref e) { s1 with heap := h1 } := by
  obtain ⟨t, e1, _⟩ := hx.there
  have I1 := I.kept (h' := h1) (t' := s1.toks) hx.keeps
  exact throw_out (s2 := { s1 with heap := h1 }) I rfl I.bare (Un.kept (h := s1.heap) (h' := h1) hx.keeps) I1.hok (I.hok.none_of hx.new) hx.new e1 rfl rfl rfl hE
theorem passes_fn {E' : XK} (hE : ∀ c d H, E' c d H → E c d H) : Passes (CXE P w) (cxOf (CXE P w) P w K mg base N qual scope f cd A outer s H E) E' := by
  intro pins σ H1 s1 ev s2 I h
  obtain ⟨e, C, T, H2, rfl, os, bare, un, hok, he, hT, ⟨n0, t0, ne, ⟨oe, vs, q1, q2, q4, q5⟩, ⟨oT, ts, r1, r2, r3⟩⟩, hw⟩ := h
  have I2 := I.call' os un hok bare (fun _ z => nomatch z)
  refine leave_ok I2.ok.frames I2.stack rfl q1 q4 (.inr ⟨T, oT, ts, q5, ne, r1, r2, r3⟩) fun h' T' Nt => ?_
  have ne1 : ∀ b o, s1.heap.get? b = some o → b ≠ e := fun b o q z => by rw [z, n0] at q; cases q
  have ne2 : ∀ b o, s1.heap.get? b = some o → vs[1]? ≠ some (.ref b) := fun b o q z => by rw [q5] at z; cases z; rw [t0] at q; cases q
  have u : Un (frs (cxOf (CXE P w) P w K mg base N qual scope f cd A outer s H E).stack) [] H1 H2 s1.heap h' :=
    un.post (fun b o p q n _ r => Nt.keep b o n (ne1 b p q) (ne2 b p q) r) (fun b o n r => Nt.slot b o n r) (fun b o p q r => by
      by_cases hb : b ∈ frs (cxOf (CXE P w) P w K mg base N qual scope f cd A outer s H E).stack
      · obtain ⟨sl, z⟩ := Nt.slot b o hb r
        exact ⟨_, z⟩
      · exact ⟨o, Nt.keep b o hb (ne1 b p q) (ne2 b p q) r⟩)
  have hok2 : HOk P w H2 h' := HOk.keepT hok fun b o u q r => Nt.keep b o (fun z => by rw [I2.stkFree b z] at q; cases q) (fun z => by rw [z, he] at q; cases q) (fun z => by rw [q5] at z; cases z; rw [hT] at q; cases q) r
  have base0 : ∀ {b : Addr}, s1.heap.get? b = none → s.heap.get? b = none := fun {b} q => by
    cases z : s.heap.get? b with
    | none => rfl
    | some o =>
      obtain ⟨o', r⟩ := I.base.there b o z (by intro y; exact absurd (show b ∈ ([] : List Addr) from y) (by simp))
      rw [q] at r; cases r
  have t1 : s1.heap.get? T' = none := by
    cases z : s1.heap.get? T' with
    | none => rfl
    | some o =>
      obtain ⟨o', r⟩ := un.there T' o z (by simp)
      rw [Nt.new] at r; cases r
  refine ⟨e, C, T', H2, rfl, I2.os, bare, frame_own I rfl u, hok2, he, hok.none_of Nt.new, ⟨base0 n0, base0 t1, Nt.ne, ⟨_, _, Nt.exc, (Obj.cls_mapFields _ _).trans q2, Obj.data_mapFields q4 _, ?_⟩, Nt.tb⟩, ?_⟩
  · have z := (Array.getElem?_eq_some_iff.mp q5).1
    simp [z]
  · rw [dxOf_of Nt.exc, mapF_cls]
    rw [dxOf_of q1] at hw
    exact hE _ _ _ hw
end
abbrev bmV : List Value := [.type "ValueError", .type "Exception", .type "BaseException", .type "object"]
abbrev ExcK (K : PySem.W.Frag) (C : Addr) : Prop := PySem.W.excIn K C bmV "ValueError.__new__" = true
theorem exc_obj {K : PySem.W.Frag} {h : Heap} {C : Addr} (X : K.In h) (q : ExcK K C) : ∃ bm N nm qn bs hd sn sub ab col dd k0 k1 k2 k3 k5 mN,
    h.get? C = some (excClassObj nm qn C N bs bm hd sn sub ab col dd k0 k1 k2 k3 k5 "ValueError.__new__") ∧ h.Ns N mN ∧ mN "__init__" = none ∧ OwnTail h bmV bm := by
  have q : PySem.W.excIn K C bmV "ValueError.__new__" = true := q
  unfold PySem.W.excIn at q
  split at q
  · rename_i dd cd sl lk
    split at q
    · rename_i C1 bm a0 a1 a2 a3 n a5 em es
      simp only [Bool.and_eq_true, beq_iff_eq, Bool.not_eq_true'] at q
      obtain ⟨⟨⟨⟨⟨c1, c2⟩, c3⟩, c4⟩, c5⟩, c6⟩ := q
      subst c1 c2
      have ob := X _ _ lk
      obtain ⟨l⟩ := sl
      obtain ⟨nm, bs, mro, ns, qn, hd, sn, sub, ab, col, del⟩ := cd
      simp only at em es c3 c5 c6
      subst em es c3
      exact ⟨bm, ns, nm, qn, bs, hd, sn, sub, ab, col, dd, a0, a1, a2, a3, a5, _, ob, .of_isNs (PySem.W.isNs_of_in X c5), PySem.W.nsMap_none_of_in X c5 c6, PySem.W.tail_of_in X c4⟩
    · cases q
  · cases q
def tRaise (C : Addr) (E : XK) (t : TA) : TS := fun _ σ H => t σ H fun vs H1 => vs.length ≤ sizeLine ∧ E (.ref C) none H1
theorem ps_raise {X : Cx} {x : Str} {C : Addr} {e0 : Expr} {es : List Expr} {t : TA} {E : XK} {np cpos pos : Pos}
    (hth : ∀ (pins : List (Addr × Obj)) (σ : St) (H : Hp) (s : Shared) (h1 : Heap) (e : Addr) (args : List Value), Inv X pins σ H s → Heap.MadeExcOf s.heap h1 e (.ref C) args → E (.ref C) none H → X.xe (.ref e) { s with heap := h1 })
    (hc : X.calm = true) (hg : Gl X x) (hm : X.mg x = some (.ref C)) (q : ExcK X.K C) (ha : PA X (e0 :: es) t) (hd : (x == ("__debug__" : Str)) = false := by decide)
    (he : starEach (e0 :: es) X.env = (false, eval e0 X.env) :: starEach es X.env := by rfl) (hp : (backTo cpos (starEach es X.env)).any (·.1) = false := by rfl) :
    PS X (.Raise (some (.Call (.Name x np) (e0 :: es) [] cpos)) none pos) (tRaise C E t) := by
  intro pins s σ H D I h
  obtain ⟨bm, N, nm, qn, bs, hdt, sn, sub, ab, col, dd, k0, k1, k2, k3, k5, mN, hC, hN, hni, T⟩ := exc_obj I.mod.kin q
  refine wpAny_Raise_call_subT (C := C) (nm := nm) (q := qn) (N := N) (bs := bs) (bm := bm) (hdct := hdt) (sn := sn) (sub := sub) (ab := ab) (col := col) (dd := dd) (k0 := k0) (k1 := k1) (k2 := k2) (k3 := k3) (k5 := k5)
    PySem.F.excBase_ValueError (mN := mN) (T.hasType PySem.F.excBase_ValueError.hasBase) (I.ok.hd hc) (by rw [he]; show (false || (backTo cpos (starEach es X.env)).any (·.1)) = false; rw [hp]; rfl) hni (ld_glob I hg hm ⟨rfl, ?_⟩ hd)
  have hb := ha cpos pins s σ H _ I h
  rw [he] at hb ⊢
  exact Calls.evalArgs_plain (thn hb fun us s1 ⟨vs, H1, I1, r1, z1, z2⟩ => ⟨rfl, (by show us.length ≤ sizeLine; rw [← r1.length]; exact z1), I1.bk _ _ hC, hN.keeps I1.bk, T.keeps I1.bk, fun h' e hx => hth pins σ H1 s1 h' e us I1 hx z2⟩)
section
variable {P : Program} {w : World} {K : PySem.W.Frag} {mg : Str → Option Value} {base : Heap}
end
end L2
namespace L2
open PySem PySem.Spec PyProof.Rows
def CXX (X : Cx) (pins : List (Addr × Obj)) (σ : St) (E : XK) (ev : Value) (s' : Shared) : Prop := ∃ H s, Inv X pins σ H s ∧ CXE X.prog X.w X.stack H s E ev s'
abbrev TEX := St → Hp → VK → XK → Prop
def PEX (X : Cx) (e : Expr) (t : TEX) : Prop :=
  ∀ (pins : List (Addr × Obj)) (s : Shared) (σ : St) (H : Hp) (Q : VK) (E : XK), Inv X pins σ H s → t σ H Q E → wpAny (model X.prog X.w) X.A (eval e X.env) (EP X pins σ Q) (CXX X pins σ E) s
abbrev TSX := Ends → XK → St → Hp → Prop
def PSX (X : Cx) (st : List Stmt) (t : TSX) : Prop :=
  ∀ (pins : List (Addr × Obj)) (s : Shared) (σ : St) (H : Hp) (D : Ends) (E : XK), Inv X pins σ H s → t D E σ H → wpAny (model X.prog X.w) X.A (execs st X.env) (SP X pins D) (CXX X pins σ E) s
section
variable {X : Cx} {k : Nat} {f : Addr} {fd : FuncData} {ps : List Str} {sp : Sp} {dvs : List V} {ds : List Value} {x : Str} {p pos : Pos} {e : Expr} {es : List Expr} {t : TA}
def tCallX (sp : Sp) (dvs : List V) (t : TA) : TEX := fun σ H Q E => t σ H fun vs H1 => sp (vs ++ dvs) H1 Q E
theorem pex_call (F : FnOk X.prog X.w X.K X.mg X.base (CXE X.prog X.w) k f fd ps sp) (hr : Room k X.A) (hg : Gl X x) (hm : X.mg x = some (.ref f)) (hk : PySem.W.keepIn X.K (.ref f) = true) (hb : Binds X.K fd ps ds) (hd : Vals dvs ds)
    (ha : PA X.nox (e :: es) t) (hdb : (x == ("__debug__" : Str)) = false := by decide) (he : starEach (e :: es) X.env = (false, eval e X.env) :: starEach es X.env := by rfl) (hpl : (backTo pos (starEach es X.env)).any (·.1) = false := by rfl) :
    PEX X (.Call (.Name x p) (e :: es) [] pos) (tCallX sp dvs t) := by
  intro pins s σ H Q E I h
  refine wpAny_Call_Name_kw (ld_glob I hg hm ?_ hdb)
  refine PySem.W.callWith_K (h₀ := X.base) I.ok.mod.kin hk (wpAny_mono (ha pos pins s σ H _ (I.wish _) h) (fun us s1 ⟨vs, H1, I1, r, q⟩ => ⟨I1.unwish.kIn, ?_⟩) fun _ _ z => False.elim z) he hpl
  have I1' := I1.unwish
  have r2 : Vals (vs ++ dvs) (us ++ ds) := r.append hd
  have hl : (us ++ ds).length = ps.length := by rw [← r2.length]; exact F.len _ _ _ _ q
  refine wpAny_call (codeAny_mono (F.run X.A X.stack s1 H1 ⟨us, []⟩ (us ++ ds) (vs ++ dvs) Q E hr I1'.env0 (hb s1 us I1'.kIn hl) r2 q) fun r s' hq => ?_)
  cases r with
  | error ev => exact ⟨H1, s1, I1', hq⟩
  | ok fl =>
    cases fl with
    | ret u => exact I1'.after hq
    | next => exact False.elim hq
    | brk => exact False.elim hq
    | cont => exact False.elim hq
theorem psx_asg {i : Nat} {y : Str} {te : TEX} {py : Pos} (hN : X.N.Nodup) (hi : X.N[i]? = some y) (hx : Loc X.env.scope y) (he : PEX X e te) (hs : swapsWith e (some (.Name y py)) pos.line X.env = pure false := by rfl)
    (hf : X.fn y = true ∨ X.env.scope.names.lookup y = some .local := by first | exact .inl rfl | exact .inr rfl | assumption) :
    PSX X [.Assign [.Name y py] e pos] (fun D E σ H => te σ H (fun v H1 => D.nx (σ.set i (some v)) H1) E) := by
  intro pins s σ H D E I h
  refine wpAny_execs_cons (wpAny_Assign_Name (wpAny_mono (he pins s σ H _ E I h) (fun u s1 ⟨v, H1, I1, r1, q1⟩ => ?_) fun _ _ z => z) hs)
  exact store_ok I1 hN hi hx r1 (fun s2 I2 => wpAny_execs_nil ⟨_, H1, I2, q1⟩) hf
end
def excAtD (C e : Addr) (d : Option Addr) (h : Heap) : Prop := ∃ o, h.get? e = some o ∧ o.cls = .ref C ∧ o.dict = d ∧ PySem.W.notCls o = true
abbrev excAt (C e : Addr) (h : Heap) : Prop := excAtD C e none h
def ExcD (C e : Addr) (d : Option Addr) : HO := .ext (excAtD C e d)
abbrev ExcO (C e : Addr) : HO := ExcD C e none
theorem excO_ok {P : Program} {w : World} {H : Hp} {h : Heap} {C e : Addr} {d : Option Addr} (x : excAtD C e d h) : ObjOk P w H h e (ExcD C e d) := by
  obtain ⟨o, q⟩ := id x
  exact ⟨x, ⟨o, q.1⟩, fun h1 h2 ⟨o, a, b⟩ k => ⟨o, k o a, b⟩⟩
theorem caught_inv {X : Cx} {pins : List (Addr × Obj)} {σ : St} {H H' : Hp} {s s' : Shared} {e C T L T' : Addr} {oe : Obj} {vs : Array Value} {h3 : Heap} {d : Option Addr} (I : Inv X pins σ H s) (os : s'.os = s.os) (bare : AllBare s'.gens)
    (un : Un (frs X.stack) [] H H' s.heap s'.heap) (hok : HOk X.prog X.w H' s'.heap) (he : H' e = none) (hT : H' T = none) (n0 : s.heap.get? e = none) (t0 : s.heap.get? T = none) (q5 : vs[1]? = some (.ref T))
    (c1 : oe.cls = .ref C) (c2 : oe.dict = d) (c3 : oe.data = .fields vs) (Nt : Noted (frs X.stack) e L oe vs s'.heap h3 T' .none) : Inv X pins σ (upd H' e (ExcD C e d)) { s' with heap := h3 } := by
  have I2 := I.call' os un hok bare (fun _ z => nomatch z)
  have ne1 : ∀ b o, s.heap.get? b = some o → b ≠ e := fun b o q z => by rw [z, n0] at q; cases q
  have ne2 : ∀ b o, s.heap.get? b = some o → vs[1]? ≠ some (.ref b) := fun b o q z => by rw [q5] at z; cases z; rw [t0] at q; cases q
  have u : Un (frs X.stack) [] H H' s.heap h3 :=
    un.post (fun b o p q n _ r => Nt.keep b o n (ne1 b p q) (ne2 b p q) r) (fun b o n r => Nt.slot b o n r) (fun b o p q r => by
      by_cases hb : b ∈ frs X.stack
      · obtain ⟨sl, z⟩ := Nt.slot b o hb r
        exact ⟨_, z⟩
      · exact ⟨o, Nt.keep b o hb (ne1 b p q) (ne2 b p q) r⟩)
  have hok2 : HOk X.prog X.w H' h3 := HOk.keepT hok fun b o u q r => Nt.keep b o (fun z => by rw [I2.stkFree b z] at q; cases q) (fun z => by rw [z, he] at q; cases q) (fun z => by rw [q5] at z; cases z; rw [hT] at q; cases q) r
  have ne3 : ∀ b u, H' b = some u → b ≠ e := fun b u q z => by rw [z, he] at q; cases q
  have u2 : Un (frs X.stack) [] H (upd H' e (ExcD C e d)) s.heap h3 :=
    ⟨u.keep, u.slot, fun b o q n hx => by rw [upd_ne (ne1 b o q)]; exact u.free b o q n hx, u.there, fun b xs q => by rw [upd_ne (ne3 b _ (u.tups b xs q))]; exact u.tups b xs q,
     fun b o xs q => by rw [upd_ne (ne3 b _ (u.frzs b o xs q))]; exact u.frzs b o xs q, fun b p q => by
      obtain ⟨m, z⟩ := u.tbls b p q
      exact ⟨m, by rw [upd_ne (ne3 b _ z)]; exact z⟩⟩
  have ex : excAtD C e d h3 := ⟨_, Nt.exc, (Obj.cls_mapFields _ _).trans c1, (mapF_cls _ _).trans c2, by
    unfold PySem.W.notCls
    rw [Obj.data_mapFields c3]⟩
  have hok3 : HOk X.prog X.w (upd H' e (ExcD C e d)) h3 := fun b o q => by
    by_cases hb : b = e
    · subst hb
      rw [upd_same] at q; cases q
      exact excO_ok ex
    · rw [upd_ne hb] at q
      exact (hok2 b o q).stay (fun _ _ _ r => r) (fun c r => by rw [upd_ne (ne3 c _ r)]; exact r) fun c xs r => by rw [upd_ne (ne3 c _ r)]; exact r
  exact I.call' (s' := { s' with heap := h3 }) os u2 hok3 bare (fun _ z => nomatch z)
structure CatchK (K : PySem.W.Frag) (D : Addr) : Prop where
  tup : PySem.W.instIn K (.ref D) (.type "tuple") = some false
  cls : (PySem.W.clsIn K D).isSome = true
  exc : PySem.W.mroIn K D (.type "BaseException") = some true
theorem looks_isType {K : PySem.W.Frag} {M : Model} {h : Heap} {D : Addr} (X : K.In h) (c : (PySem.W.clsIn K D).isSome = true) : PySem.W.Looks M h (isType (.ref D)) true := by
  unfold PySem.W.clsIn at c
  split at c
  · rename_i a b cd sl lk
    intro A Q E s k q
    unfold isType loadHead
    exact wpAny_bind (wpAny_loadPart (k _ _ (X _ _ lk)) (wpAny_pure q))
  · cases c
theorem matches_ok {K : PySem.W.Frag} {M : Model} {A : Around} {E : Value → Shared → Prop} {s : Shared} {e C D : Addr} {o : Obj} {Q : Bool → Shared → Prop} (X : K.In s.heap) (c : CatchK K D) (sub : PySem.W.mroIn K C (.ref D) = some true)
    (he : s.heap.get? e = some o) (hc : o.cls = .ref C) (h : Q true s) : wpAny M A (excMatches (.ref e) (.ref D)) Q E s := by
  have l1 := PySem.W.looks_instIn (M := M) X c.tup
  have l2 := looks_isType (M := M) X c.cls
  have l3 := PySem.W.looks_mroIn (M := M) X c.exc
  have l4 := PySem.W.looks_mroIn (M := M) X sub
  obtain ⟨hh, g, d, t, os⟩ := s
  unfold excMatches
  refine wpAny_bind (l1.at ?_)
  simp only [Bool.false_eq_true, if_false, pure_bind, List.forIn_cons, List.forIn_nil]
  refine wpAny_bind (wpAny_bind (wpAny_bind ?_))
  unfold isExcClass
  refine wpAny_bind (l2.at ?_)
  rw [if_pos rfl]
  refine l3.at ?_
  simp only [Bool.not_true, Bool.false_eq_true, if_false]
  refine wpAny_pure (wpAny_pure ?_)
  refine wpAny_bind (wpAny_typeOf_ref he ?_)
  rw [hc]
  refine wpAny_bind (wpAny_bind (wpAny_bind (l4.at ?_)))
  rw [if_pos rfl]
  exact wpAny_pure (wpAny_pure (wpAny_pure h))
theorem Inv.relocal {X : Cx} {pins : List (Addr × Obj)} {σ σ' : St} {H : Hp} {s : Shared} {h' : Heap} {m' : Str → Option Value} {tk : Nat} (I : Inv X pins σ H s) (hs : Heap.SameBut X.env.locals s.heap h') (hn : h'.Ns X.env.locals m')
    (hl : ∀ (i : Nat) (x : Str) (v : V), X.N[i]? = some x → σ'[i]? = some (some v) → Vis X.env.scope x → ∃ u, RelV v u ∧ Look X.env h' m' x u) (len : σ'.length = σ.length) : Inv X pins σ' H { s with heap := h', toks := tk } := by
  have neL : ∀ b o, X.s₀.heap.get? b = some o → b ≠ X.env.locals := fun b o e => Nat.ne_of_lt (Nat.lt_of_lt_of_le (Heap.lt_size e) I.ok.above)
  refine ⟨I.ok, I.os, I.bare, ⟨fun b o e n hb hx => (hs.2 b (neL b o e)).trans (I.base.keep b o e n hb hx), fun b o e n hb hx => ?_, I.base.free, fun b o e hx => ?_, I.base.tups, I.base.frzs, I.base.tbls⟩, ⟨m', hn, hl⟩, fun y c e => ?_, I.free, I.freeC, fun p hp => ?_, ?_, len.trans I.len⟩
  · obtain ⟨sl, z⟩ := I.base.slot b o e n hb hx
    exact ⟨sl, (hs.2 b (neL b o e)).trans z⟩
  · obtain ⟨o', z⟩ := I.base.there b o e hx
    exact ⟨o', (hs.2 b (neL b o e)).trans z⟩
  · obtain ⟨w', z⟩ := I.cell y c e
    exact ⟨w', z.sameBut hs (I.cne y c e)⟩
  · obtain ⟨a, b, c, d, f⟩ := I.pin p hp
    exact ⟨(hs.2 p.1 c).trans a, b, c, d, f⟩
  · exact HOk.keepT I.hok fun b o u q r => (hs.2 b fun z => by rw [z, I.free] at q; cases q).trans r
theorem goes_ok {X : Cx} {M : Model} {A : Around} {E : Value → Shared → Prop} {pins : List (Addr × Obj)} {σ : St} {H : Hp} {s : Shared} {j : Nat} {n : Str} {pos : Pos} {Q : Unit → Shared → Prop} (I : Inv X pins σ H s) (hN : X.N.Nodup) (hj : X.N[j]? = some n)
    (hx : X.env.scope.names.lookup n = some .local) (h : ∀ s', Inv X pins (σ.set j none) H s' → Q () s') : wpAny M A (do bindName X.env n .none; unbindBehindTheSuite X.env n pos) Q E s := by
  obtain ⟨m, hn, hl⟩ := I.loc
  refine wpAny_nameGoes_keeps hx hn (by rw [I.ok.kind]; rfl) fun h' v hn' hs => h _ (I.relocal hs hn' (fun i x w e1 e2 e3 => ?_) (by simp))
  have hij : i ≠ j := fun z => by
    subst z
    rw [List.getElem?_set] at e2
    simp at e2
  rw [List.getElem?_set_ne (Ne.symm hij)] at e2
  obtain ⟨u, r, q⟩ := hl i x w e1 e2 e3
  refine ⟨u, r, ?_⟩
  rcases q with ⟨k, e⟩ | ⟨k, c, e, z⟩
  · refine .inl ⟨k, ?_⟩
    have : x ≠ n := fun e => hij (nodup_ix hN e1 (e ▸ hj))
    simp [this, e]
  · exact .inr ⟨k, c, e, z.sameBut hs (I.cne x c e)⟩
abbrev Cx.held (X : Cx) (e : Addr) : Cx := { X with A := X.A.mark (some (.ref e)), calm := false, xe := fun _ _ => False }
theorem Inv.held {X : Cx} {pins : List (Addr × Obj)} {σ : St} {H : Hp} {s : Shared} (I : Inv X pins σ H s) (e : Addr) : Inv (X.held e) pins σ H s :=
  ⟨⟨I.ok.mod, I.ok.kind, I.ok.glob, I.ok.blt, I.ok.above, I.ok.inj, I.ok.has, I.ok.cab, (fun z => nomatch z), I.ok.frames, I.ok.stk, I.ok.exf, I.ok.bs, I.ok.bsz, I.ok.noex, I.ok.exfs, I.ok.funs, I.ok.frf⟩, I.os, I.bare, I.base, I.loc, I.cell, I.free, I.freeC, I.pin, I.hok, I.len⟩
theorem Inv.unheld {X : Cx} {pins : List (Addr × Obj)} {σ : St} {H : Hp} {s : Shared} {e : Addr} (ok : X.Ok) (I : Inv (X.held e) pins σ H s) : Inv X pins σ H s := ⟨ok, I.os, I.bare, I.base, I.loc, I.cell, I.free, I.freeC, I.pin, I.hok, I.len⟩
def Ends.drop (D : Ends) (j : Nat) : Ends := { nx := fun σ H => D.nx (σ.set j none) H, rt := D.rt, bk := fun σ H => D.bk (σ.set j none) H, ct := fun σ H => D.ct (σ.set j none) H }
def tTryAs (K : PySem.W.Frag) (D : Addr) (j : Nat) (tb : TSX) (th : TS) : TS := fun En σ H => tb En (fun c d H1 => ∃ C, c = .ref C ∧ PySem.W.mroIn K C (.ref D) = some true ∧ ∀ e, H1 e = none → th (En.drop j) (σ.set j (some (.ref e))) (upd H1 e (ExcD C e d))) σ H
theorem ps_try_as {X : Cx} {body : List Stmt} {tb : TSX} {th : TS} {d n : Str} {D : Addr} {j : Nat} {b0 : Stmt} {suite : List Stmt} {pd hpos pos : Pos} (hb : PSX X body tb) (hN : X.N.Nodup) (hj : X.N[j]? = some n) (hx : X.env.scope.names.lookup n = some .local)
    (hst : X.stack = X.env :: X.outer) (hL : X.env.frame = some X.env.locals) (hg : Gl X d) (hm : X.mg d = some (.ref D)) (c : CatchK X.K D) (hs : ∀ e, PSs (X.held e) (b0 :: suite) th) (hd : (d == ("__debug__" : Str)) = false := by decide) :
    PS X (.Try body [.ExceptHandler (some (.Name d pd)) (some n) (b0 :: suite) hpos] [] [] pos) (tTryAs X.K D j tb th) := by
  intro pins s σ H En I h
  refine wpAny_Try_except (wpAny_mono (hb pins s σ H _ _ I h) (fun f s1 q => ?_) fun ev s1 q => ?_)
  · cases f with
    | next => exact wpAny_execs_nil q
    | brk => exact q
    | cont => exact q
    | ret v => exact q
  · obtain ⟨H0, s0, I0, e, C, T, H1, rfl, os, bare, un, hok, he, hT, ⟨n0, t0, ne, ⟨oe, vs, q1, q2, q4, q5⟩, ⟨oT, ts, r1, r2, r3⟩⟩, C', hC', sub, hw⟩ := q
    cases hC'
    have q3 : oe.dict = dxOf s1.heap e := (dxOf_of q1).symm
    have I1 := I0.call' os un hok bare (fun _ z => nomatch z)
    have hz : 1 < vs.size := (Array.getElem?_eq_some_iff.mp q5).1
    have fr : X.A.frames = some (X.env :: X.outer) := by rw [← hst]; exact I.ok.frames
    have st1 : s1.heap.FunFrames X.base (X.env :: X.outer) := by rw [← hst]; exact I1.stack
    refine note_ok fr st1 hL q1 q4 (.inr ⟨T, oT, ts, q5, ne, r1, r2, r3⟩) fun h1 T' N1 => ?_
    have tf : T' ∉ frs (X.env :: X.outer) := fun z => by
      obtain ⟨_, o, ho, _⟩ := st1.mem z
      rw [N1.new] at ho; cases ho
    refine land_ok (s := { s1 with heap := h1 }) N1 q4 hz tf fun h2 N2 => ?_
    have N2' : Noted (frs X.stack) e X.env.locals oe vs s1.heap h2 T' .none := by rw [hst]; exact N2
    have I2 := caught_inv I0 os bare un hok he hT n0 t0 q5 q2 q3 q4 N2'
    refine wpAny_handleBy_cons (codeAny_handlers_test (ld_glob (I2.held e) hg hm ?_ hd)) (by intro z; cases z)
    refine matches_ok I2.kIn c sub N2.exc ((Obj.cls_mapFields _ _).trans q2) ?_
    show codeAny _ _ _ _ _
    refine codeAny_handlers_suite_as ?_
    refine land_ok (s := { s1 with heap := h2 }) N2 q4 hz tf fun h3 N3 => ?_
    have N3' : Noted (frs X.stack) e X.env.locals oe vs s1.heap h3 T' .none := by rw [hst]; exact N3
    have I3 := caught_inv I0 os bare un hok he hT n0 t0 q5 q2 q3 q4 N3'
    refine store_ok I3 hN hj (.inl hx) (v := .ref e) rfl (fun s4 I4 => ?_) (.inr hx)
    refine wpAny_mono (hs e pins s4 _ _ _ (I4.held e) (hw e he)) (fun f s5 q => ?_) fun _ _ z => False.elim z
    show wpAny _ _ _ _ _ _
    cases f with
    | next =>
      obtain ⟨σ5, H5, I5, q⟩ := q
      exact goes_ok (I5.unheld I.ok) hN hj hx fun s6 I6 => ⟨_, _, I6, q⟩
    | brk =>
      obtain ⟨σ5, H5, I5, q⟩ := q
      exact goes_ok (I5.unheld I.ok) hN hj hx fun s6 I6 => ⟨_, _, I6, q⟩
    | cont =>
      obtain ⟨σ5, H5, I5, q⟩ := q
      exact goes_ok (I5.unheld I.ok) hN hj hx fun s6 I6 => ⟨_, _, I6, q⟩
    | ret u =>
      obtain ⟨v5, σ5, H5, I5, r5, q⟩ := q
      exact goes_ok (I5.unheld I.ok) hN hj hx fun s6 I6 => ⟨_, _, _, I6, r5, q⟩
end L2
namespace L2
open PySem PySem.Spec PyProof.Rows
structure ClsX (K : PySem.W.Frag) (C : Addr) : Prop where
  ga : PySem.W.findIn K (.ref C) "__getattribute__" = some (some (.builtin "BaseException.__getattribute__"))
  no : PySem.W.findIn K (.ref C) "__getattr__" = some none
  hd : PySem.W.hasDictIn K C = true
  ha : PySem.W.findIn K (.ref C) "__class__" = some (some (.builtin "object.__class__"))
  hn : PySem.W.specialIn K (.builtin "object.__class__") "__get__" = some (some (.builtin "getset_descriptor.__get__"))
  ht : PySem.W.takesIn K (.builtin "object.__class__") = some true
  hm : PySem.W.mroIn K C (.type "object") = some true
  hb : PySem.W.mroIn K C (.type "BaseException") = some true
section
variable {prog : Program} {w : World} {A : Around} {E : Value → Shared → Prop} {K : PySem.W.Frag} {C e : Addr} {ox : Obj} {od : Option Obj}
theorem ga_class {s : Shared} {tk : Tok} {Q : Fin → Shared → Prop} (c : ClsX K C) (X : K.In s.heap) (I : PySem.W.InstAt s.heap e ox C od) (h : Q (.done (.ret (.ref C))) s) :
    wpAny (model prog w) A (Builtin.«object.__getattribute__» ⟨[.ref e, .str "__class__" tk], []⟩) Q E s := by
  have hf : PySem.W.findObj K C od "__class__" = some (.bind (.builtin "getset_descriptor.__get__") (.builtin "object.__class__")) := by
    obtain ⟨cd, q, _⟩ := PySem.W.any_some c.hd
    unfold PySem.W.findObj
    rw [q, Option.bind_some, c.ha, Option.bind_some]
    simp [c.hn, c.ht]
  obtain ⟨hh, gg, d, t, os⟩ := s
  have L0 := I.type (M := model prog w)
  have L1 := PySem.W.looks_find (M := model prog w) X I hf
  unfold Builtin.«object.__getattribute__»
  repeat (first | with_reducible refine L0.at ?_ | with_reducible refine L1.at ?_ | wp_step)
  exact PySem.W.class_get (ox := ox) (od := od) X I c.hm (wpAny_pure h)
theorem ga_check {M : Model} {s : Shared} {nameV : Value} {Q : Unit → Shared → Prop} (c : ClsX K C) (X : K.In s.heap) (I : PySem.W.InstAt s.heap e ox C od) (h : Q () s) :
    wpAny M A (checkBuiltinCall "BaseException.__getattribute__" ⟨[.ref e, nameV], []⟩) Q E s := by
  have hk : builtinKind "BaseException.__getattribute__" = some .slot := by decide +kernel
  have hs : splitId "BaseException.__getattribute__" = some ("BaseException", "__getattribute__") := by decide +kernel
  have ha := F.args_bexc_ga (.ref e) nameV
  have LI : PySem.W.Looks M s.heap (isInstance (.ref e) (.type "BaseException")) true := (I.type (M := M)).andThen (PySem.W.looks_mroIn X c.hb)
  obtain ⟨hh, gg, d, t, os⟩ := s
  simp only [checkBuiltinCall, hk, hs]
  refine wpAny_bind (LI.at ?_)
  repeat (first | assumption | wp_step)
theorem exc_class {s : Shared} {Q : Option Value → Shared → Prop} (c : ClsX K C) (X : K.In s.heap) (I : PySem.W.InstAt s.heap e ox C od) (h : Q (some (.ref C)) { s with toks := s.toks + 1 }) :
    wpAny (model prog w) A (getAttr? (.ref e) "__class__") Q E s := by
  obtain ⟨hh, gg, d, t, os⟩ := s
  have L0 := I.type (M := model prog w)
  have L1 := PySem.W.looks_findIn (M := model prog w) X c.ga
  have L2 := PySem.W.looks_findIn (M := model prog w) X c.no
  have f3 := PySem.F.attr_ValueError.ga.bind (.ref e)
  unfold getAttr? getAttrBy? getAttrBy
  refine wpAny_bind (wpAny_mkText (wpAny_bind (wpAny_attempt (wpAny_holding (wpAny_bind (L0.at (wpAny_bind (L1.at ?_))))))))
  have e1 : (onTheHeap (Value.ref C) && Value.builtin "BaseException.__getattribute__" == Value.builtin "object.__getattribute__") = false := by rw [show (Value.builtin "BaseException.__getattribute__" == Value.builtin "object.__getattribute__") = false from by decide +kernel, Bool.and_false]
  dsimp only
  rw [e1]
  simp only [Bool.false_eq_true, if_false]
  unfold getAttrByItsOwn hookBefore
  repeat (first | with_reducible refine L2.at ?_ | assumption | wp_step)
  refine codeAny_call_builtin PySem.F.attr_ValueError.ga.plain F.entry_bexc_ga (ga_check c X I (ga_class c X I ?_))
  show wpAny (model prog w) A (handedOut (.ref C)) _ _ _
  exact PySem.W.handed_on rfl (wpAny_pure h)
end
end L2
namespace L2
open PySem PySem.Spec PyProof.Rows
theorem kitx_exc {K : PySem.W.Frag} {C e : Addr} (c : ClsX K C) : PySem.W.KitX K (.ref e) (.ref C) (excAt C e) where
  ty := fun M h _ ⟨o, h1, h2, _⟩ => h2 ▸ (PySem.W.Looks.ld h1).andThen .now
  it := fun M h X _ => by
    obtain ⟨cd, q, _⟩ := PySem.W.any_some c.hd
    exact looks_isType X (by rw [q]; rfl)
  ne := fun h tp dd its n sl X htp => by
    obtain ⟨cd, q, _⟩ := PySem.W.any_some c.hd
    refine Bool.eq_false_iff.mpr fun z => ?_
    have e : C = tp := Value.ref.inj (beq_iff_eq.mp z)
    subst e
    unfold PySem.W.clsIn at q
    split at q
    · rename_i lk
      have z := (X _ _ lk).symm.trans htp
      cases z
    · cases q
  ca := fun {prog w A E Q s} X ⟨o, h1, h2, h3, h4⟩ k => by
    have I : PySem.W.InstAt s.heap e o C none := ⟨h1, h2, h4, by rw [h3]; exact trivial⟩
    exact exc_class c X I k
theorem kitx_excD {K : PySem.W.Frag} {C e d : Addr} (c : ClsX K C) : PySem.W.KitX K (.ref e) (.ref C) (fun h => excAtD C e (some d) h ∧ ∃ od, h.get? d = some od) where
  ty := fun M h _ ⟨⟨o, h1, h2, _⟩, _⟩ => h2 ▸ (PySem.W.Looks.ld h1).andThen .now
  it := fun M h X _ => by
    obtain ⟨cd, q, _⟩ := PySem.W.any_some c.hd
    exact looks_isType X (by rw [q]; rfl)
  ne := fun h tp dd its n sl X htp => (kitx_exc (e := e) c).ne h tp dd its n sl X htp
  ca := fun {prog w A E Q s} X ⟨⟨o, h1, h2, h3, h4⟩, od, hod⟩ k => by
    have I : PySem.W.InstAt s.heap e o C (some od) := ⟨h1, h2, h4, by rw [h3]; exact hod⟩
    exact exc_class c X I k
inductive TyX (K : PySem.W.Frag) (H : Hp) : V → Value → Prop where
  | of {x : V} {t : Value} (h : TyOf K H x t) : TyX K H x t
  | exc {C e : Addr} (h : H e = some (ExcO C e)) (c : ClsX K C) : TyX K H (.ref e) (.ref C)
  | excD {C e d : Addr} {fs : List (Str × V)} (h : H e = some (ExcD C e (some d))) (hd : H d = some (.xd fs)) (c : ClsX K C) : TyX K H (.ref e) (.ref C)
def clsV : V → Option Value
  | .ty n => some (.type n)
  | .ref a => some (.ref a)
  | _ => none
theorem clsV_rel {c : V} {u cv : Value} (h : clsV c = some cv) (r : RelV c u) : u = cv := by
  cases c with
  | ty n => cases h; exact r
  | ref a => cases h; exact r
  | _ => cases h
theorem clsV_all : ∀ {xs : List V} {us cs : List Value}, Vals xs us → xs.map clsV = cs.map some → us = cs
  | _, _, [], .nil, _ => rfl
  | _, _, _ :: _, .nil, h => by simp at h
  | _, _, [], .cons _ _, h => by simp at h
  | _, _, c :: cs, .cons r t, h => by
    simp only [List.map_cons, List.cons.injEq] at h
    rw [clsV_rel h.1 r, clsV_all t h.2]
section
variable {X : Cx}
def rIsi (K : PySem.W.Frag) : List V → Hp → VK → Prop := fun vs H Q => ∃ x c t b, vs = [x, c] ∧ TyX K H x t ∧ ((∃ cv, clsV c = some cv ∧ PySem.W.kitOne K t cv = some b) ∨ ∃ p xs cs, c = .ref p ∧ SqT K H p xs ∧ xs.map clsV = cs.map some ∧ PySem.W.kitAny K t cs = some b) ∧ Q (.bl b) H
theorem kitx_of {pins : List (Addr × Obj)} {σ : St} {H : Hp} {s : Shared} {x : V} {t u : Value} (I : Inv X pins σ H s) (rx : RelV x u) (ty : TyX X.K H x t) : ∃ HH, PySem.W.KitX X.K u t HH ∧ HH s.heap ∧ u ≠ .builtin "__main__.__loader__#opaque" := by
  cases ty with
  | exc h c =>
    cases (show u = _ from rx)
    obtain ⟨p, _⟩ := I.hok _ _ h
    exact ⟨_, kitx_exc c, p, fun z => nomatch z⟩
  | excD h hd c =>
    cases (show u = _ from rx)
    obtain ⟨p, _⟩ := I.hok _ _ h
    obtain ⟨_, ⟨od, _, _, q, _⟩, _⟩ := I.hok _ _ hd
    exact ⟨_, kitx_excD c, ⟨p, od, q⟩, fun z => nomatch z⟩
  | of ty =>
    cases ty with
    | non => cases (show u = Value.none from rx); exact ⟨_, PySem.W.kitx_none, trivial, fun z => nomatch z⟩
    | bl y => cases (show u = Value.bool y from rx); exact ⟨_, PySem.W.kitx_bool, trivial, fun z => nomatch z⟩
    | int i => obtain ⟨t, q⟩ := (show ∃ t, u = Value.int i t from rx); cases q; exact ⟨_, PySem.W.kitx_int, trivial, fun z => nomatch z⟩
    | str y => obtain ⟨t, q⟩ := (show ∃ t, u = Value.str y t from rx); cases q; exact ⟨_, PySem.W.kitx_str, trivial, fun z => nomatch z⟩
    | flt y => obtain ⟨t, q⟩ := (show ∃ t, u = Value.float y t from rx); cases q; exact ⟨_, PySem.W.kitx_float, trivial, fun z => nomatch z⟩
    | @lst a xs ea =>
      cases (show u = Value.ref a from rx)
      obtain ⟨_, _, n, _, h1⟩ := (show ObjOk X.prog X.w H s.heap a (.lst xs) from I.hok a _ ea)
      exact ⟨_, PySem.W.kitx_list, ⟨_, h1, rfl⟩, fun z => nomatch z⟩
    | @frz a ob xs ea =>
      cases (show u = Value.ref a from rx)
      obtain ⟨_, _, _, n, _, h1⟩ := (show ObjOk X.prog X.w H s.heap a (.frz ob (.lst xs)) from I.hok a _ ea)
      exact ⟨_, PySem.W.kitx_list, ⟨_, h1, rfl⟩, fun z => nomatch z⟩
    | @tup a xs ea =>
      cases (show u = Value.ref a from rx)
      obtain ⟨_, _, _, p⟩ := (show ObjOk X.prog X.w H s.heap a (.tup xs) from I.hok a _ ea)
      obtain ⟨o, h1, h2, _⟩ := p
      exact ⟨_, PySem.W.kitx_tuple, ⟨o, h1, h2⟩, fun z => nomatch z⟩
    | @dK a kvs ea =>
      cases (show u = Value.ref a from rx)
      obtain ⟨_, _, vs, _, p⟩ := (show ObjOk X.prog X.w H s.heap a (.dK kvs) from I.hok a _ ea)
      obtain ⟨o, es, ep, h1, h2, _⟩ := p
      exact ⟨_, PySem.W.kitx_dict, ⟨o, h1, h2.1⟩, fun z => nomatch z⟩
    | @dT a kvs ea =>
      cases (show u = Value.ref a from rx)
      obtain ⟨_, _, xs, _, o, es, ep, h1, h2, _⟩ := (show ObjOk X.prog X.w H s.heap a (.dT kvs) from I.hok a _ ea)
      exact ⟨_, PySem.W.kitx_dict, ⟨o, h1, h2.1⟩, fun z => nomatch z⟩
    | @ins a C dx fs ea cl ha hn htk hm =>
      cases (show u = Value.ref a from rx)
      obtain ⟨mA, O, _⟩ := ins_get I.hok ea
      obtain ⟨od, J, _⟩ := O.look
      exact ⟨_, PySem.W.kitx_own (cl.get _) cl.hd ha hn htk hm, J, fun z => nomatch z⟩
theorem call_isi : CallR X (.builtin "isinstance") (rIsi X.K) := by
  intro pins s σ H xs us Q I r h
  obtain ⟨x, c, t, b, rfl, ty, hc, q⟩ := h
  obtain ⟨u, v, rfl, rx, rc⟩ := vals2 r
  obtain ⟨HH, Z, p, hx⟩ := kitx_of I rx ty
  rcases hc with ⟨cv, e1, e2⟩ | ⟨a, xs, cs, rfl, hs, e1, e2⟩
  · rw [clsV_rel e1 rc]
    exact PySem.W.kia_one Z I.kIn p e2 hx fun tk => ⟨.bl b, H, I.tok tk, rfl, q⟩
  · cases (show v = Value.ref a from rc)
    obtain ⟨its, rv, ⟨o, h1, h2, n, h3⟩, _⟩ := I.tuple hs
    have e3 := clsV_all rv e1
    subst e3
    obtain ⟨oc, od, oda, osl⟩ := o
    simp only at h2 h3
    subst h2 h3
    exact PySem.W.kia_tup Z I.kIn p h1 e2 hx fun tk => ⟨.bl b, H, I.tok tk, rfl, q⟩
theorem boot_isi : bootBuiltins "isinstance" = some (.builtin "isinstance") := by decide +kernel
def eAt (xs ys : List V) (j : Nat) : Bool := match xs[j]?, ys[j]? with
  | some x, some y => eqV x y
  | _, _ => false
theorem eqVs_all : ∀ xs ys : List V, ((List.range (min xs.length ys.length)).all (eAt xs ys) && xs.length == ys.length) = eqVs xs ys
  | [], [] => rfl
  | [], _ :: _ => by simp [eqVs]
  | _ :: _, [] => by simp [eqVs]
  | x :: xs, y :: ys => by
    have ih := eqVs_all xs ys
    show _ = (eqV x y && eqVs xs ys)
    rw [← ih]
    have e1 : min (x :: xs).length (y :: ys).length = (min xs.length ys.length) + 1 := by simp only [List.length_cons]; omega
    rw [e1, List.range_succ_eq_map, List.all_cons, List.all_map]
    have e2 : (eAt (x :: xs) (y :: ys)) 0 = eqV x y := rfl
    have e3 : (eAt (x :: xs) (y :: ys)) ∘ Nat.succ = eAt xs ys := by
      funext j
      simp [eAt, Function.comp]
    have e4 : ((x :: xs).length == (y :: ys).length) = (xs.length == ys.length) := by
      rw [Bool.eq_iff_iff]
      simp
    rw [e2, e3, e4, Bool.and_assoc]
theorem items_eq {A : Around} {s : Shared} {xs ys : List V} {us vs : List Value} (r1 : Vals xs us) (r2 : Vals ys vs) (f1 : xs.all flatV = true) (f2 : ys.all flatV = true) :
    ∀ j (h1 : j < us.toArray.size) (h2 : j < vs.toArray.size), SeqAt.EqAt A s us.toArray[j] vs.toArray[j] (eAt xs ys j) := fun j h1 h2 => by
  have l1 : j < xs.length := by rw [r1.length]; simpa using h1
  have l2 : j < ys.length := by rw [r2.length]; simpa using h2
  obtain ⟨u, q1, z1⟩ := r1.get (i := j) (x := xs[j]) (by simp [l1])
  obtain ⟨v, q2, z2⟩ := r2.get (i := j) (x := ys[j]) (by simp [l2])
  have e1 : us.toArray[j] = u := by
    have : us[j]? = some us.toArray[j] := by simp
    rw [this] at q1; exact Option.some.inj q1
  have e2 : vs.toArray[j] = v := by
    have : vs[j]? = some vs.toArray[j] := by simp
    rw [this] at q2; exact Option.some.inj q2
  have e3 : eAt xs ys j = eqV xs[j] ys[j] := by simp [eAt, l1, l2]
  rw [e1, e2, e3]
  exact eqAt_V z1 z2 (List.all_eq_true.mp f1 _ (List.getElem_mem l1)) (List.all_eq_true.mp f2 _ (List.getElem_mem l2))
end
theorem Inv.above {X : Cx} {pins : List (Addr × Obj)} {σ : St} {H : Hp} {s : Shared} (I : Inv X pins σ H s) : sysModules < s.heap.objs.size := by
  have h : mainGlobals < s.heap.objs.size := (I.mod.glob.keeps I.bk).lt
  exact Nat.lt_trans (by decide) h
def tDict0 : TE := fun _ H Q => ∀ p, H p = none → Q (.ref p) (upd H p (.dK []))
theorem pe_dict0 {X : Cx} {pos : Pos} : PE X (.Dict [] [] pos) tDict0 := fun pins s σ H Q I h => by
  have new : ObjOk X.prog X.w (upd H s.heap.objs.size (.dK [])) (s.heap.push { cls := .type "dict", data := .dict #[] }) s.heap.objs.size (.dK []) :=
    ⟨Nat.zero_le _, beq_eq_false_iff_ne.mpr (Ne.symm (Nat.ne_of_lt I.above)), [], .nil, Heap.DictOf.new s.heap⟩
  exact wpAny_Dict_empty ⟨.ref s.heap.objs.size, _, I.laid (a := s.heap.objs.size) (o := .dK []) (t' := s.toks) (fun _ _ q => Heap.get?_push_of_some _ q) (Nat.le_refl _) new, rfl, h _ (I.hok.fresh (Nat.le_refl _))⟩
end L2
namespace L2
open PySem PySem.Spec PyProof.Rows
section
variable {X : Cx}
end
end L2
namespace L2
open PySem PySem.Spec PyProof.Rows
def clOf (env : Env) : List (Str × NameKind) → List (Str × Addr) → List (Str × Addr)
  | [], cs => cs
  | (n, k) :: r, cs => clOf env r (if (k == .free) = true then (n, (env.cells.lookup n).getD 0) :: cs else cs)
theorem clOf_run {env : Env} : ∀ {names : List (Str × NameKind)} {cs : List (Str × Addr)}, (∀ y ∈ names, y.2 = .free → (env.cells.lookup y.1).isSome = true) →
    (forIn names cs fun (x : Str × NameKind) (r : List (Str × Addr)) => if (x.2 == .free) = true then (do let c ← cellOf env x.1; pure (ForInStep.yield ((x.1, c) :: r))) else pure (ForInStep.yield r) : Sem (List (Str × Addr))) = pure (clOf env names cs)
  | [], cs, _ => rfl
  | (n, k) :: r, cs, h => by
    have ih := fun cs' => clOf_run (env := env) (names := r) (cs := cs') fun y hy => h y (List.mem_cons_of_mem _ hy)
    rw [List.forIn_cons]
    by_cases hk : (k == NameKind.free) = true
    · have hs := h (n, k) List.mem_cons_self (by simpa using hk)
      obtain ⟨c, hc⟩ := Option.isSome_iff_exists.mp hs
      have e : cellOf env n = pure c := by unfold cellOf; rw [show env.cells.lookup n = some c from hc]
      simp only [hk, if_true, e, clOf]
      rw [show env.cells.lookup n = some c from hc]
      exact ih _
    · simp only [hk, clOf]
      exact ih _
theorem closure_eq {scope : Scope} {env : Env} (h : ∀ y ∈ scope.names, y.2 = .free → (env.cells.lookup y.1).isSome = true) : closureFor scope env = pure (clOf env scope.names []) := by
  have e := clOf_run (env := env) (cs := []) h
  unfold closureFor
  simp only [e]
  rfl
theorem clOf_sub {env : Env} {x : Str} {c : Addr} : ∀ {names : List (Str × NameKind)} {cs : List (Str × Addr)}, (clOf env names cs).lookup x = some c → cs.lookup x = some c ∨ ((x, NameKind.free) ∈ names ∧ (env.cells.lookup x).getD 0 = c)
  | [], cs, h => .inl h
  | (n, k) :: r, cs, h => by
    unfold clOf at h
    rcases clOf_sub (names := r) h with z | ⟨z1, z2⟩
    · by_cases hk : (k == NameKind.free) = true
      · rw [if_pos hk] at z
        rw [List.lookup_cons] at z
        cases hx : x == n with
        | true =>
          rw [hx] at z
          have e : x = n := by simpa using hx
          subst e
          have ek : k = .free := by simpa using hk
          subst ek
          exact .inr ⟨List.mem_cons_self, Option.some.inj z⟩
        | false => rw [hx] at z; exact .inl z
      · rw [if_neg hk] at z
        exact .inl z
    · exact .inr ⟨List.mem_cons_of_mem _ z1, z2⟩
theorem clOf_keep {env : Env} {x : Str} : ∀ {names : List (Str × NameKind)} {cs : List (Str × Addr)}, cs.lookup x = some ((env.cells.lookup x).getD 0) → (clOf env names cs).lookup x = some ((env.cells.lookup x).getD 0)
  | [], cs, h => h
  | (n, k) :: r, cs, h => by
    unfold clOf
    refine clOf_keep (names := r) ?_
    by_cases hk : (k == NameKind.free) = true
    · rw [if_pos hk, List.lookup_cons]
      cases hx : x == n with
      | true =>
        have e : x = n := by simpa using hx
        subst e
        rfl
      | false => exact h
    · rw [if_neg hk]; exact h
theorem clOf_has {env : Env} {x : Str} : ∀ {names : List (Str × NameKind)} {cs : List (Str × Addr)}, (x, NameKind.free) ∈ names → (clOf env names cs).lookup x = some ((env.cells.lookup x).getD 0)
  | [], cs, h => nomatch h
  | (n, k) :: r, cs, h => by
    unfold clOf
    rcases List.mem_cons.mp h with z | z
    · cases z
      refine clOf_keep (names := r) ?_
      rw [if_pos (by rfl), List.lookup_cons]
      simp
    · exact clOf_has (names := r) z
theorem mem_of_look {x : Str} {k : NameKind} : ∀ {names : List (Str × NameKind)}, names.lookup x = some k → (x, k) ∈ names
  | [], h => nomatch h
  | (n, k') :: r, h => by
    rw [List.lookup_cons] at h
    cases hx : x == n with
    | true =>
      rw [hx] at h
      have e : x = n := by simpa using hx
      subst e
      cases h
      exact List.mem_cons_self
    | false => rw [hx] at h; exact List.mem_cons_of_mem _ (mem_of_look h)
theorem relabel_look {env : Env} {x : Str} {k' : NameKind} : ∀ {names : List (Str × NameKind)},
    (names.map fun (n, k) => if (k == NameKind.free && env.scope.kind == .function && env.kindOf n == some .cell) then (n, NameKind.cell) else (n, k)).lookup x = some k' → ∃ k, names.lookup x = some k ∧ (k' = k ∨ (k = .free ∧ k' = .cell))
  | [], h => nomatch h
  | (n, k) :: r, h => by
    rw [List.map_cons] at h
    by_cases hc : (k == NameKind.free && env.scope.kind == .function && env.kindOf n == some .cell) = true
    · simp only [hc, if_true] at h
      rw [List.lookup_cons] at h ⊢
      cases hx : x == n with
      | true =>
        rw [hx] at h
        cases h
        have ek : k = .free := by
          rw [Bool.and_eq_true, Bool.and_eq_true] at hc
          simpa using hc.1.1
        exact ⟨k, rfl, .inr ⟨ek, rfl⟩⟩
      | false => rw [hx] at h; exact relabel_look h
    · simp only [hc, Bool.false_eq_true, if_false] at h
      rw [List.lookup_cons] at h ⊢
      cases hx : x == n with
      | true => rw [hx] at h; exact ⟨k', h, .inl rfl⟩
      | false => rw [hx] at h; exact relabel_look h
theorem relabel_free {env : Env} {x : Str} : ∀ {names : List (Str × NameKind)}, names.lookup x = some .free →
    (names.map fun (n, k) => if (k == NameKind.free && env.scope.kind == .function && env.kindOf n == some .cell) then (n, NameKind.cell) else (n, k)).lookup x = some .cell ∨
    (names.map fun (n, k) => if (k == NameKind.free && env.scope.kind == .function && env.kindOf n == some .cell) then (n, NameKind.cell) else (n, k)).lookup x = some .free
  | [], h => nomatch h
  | (n, k) :: r, h => by
    rw [List.map_cons]
    rw [List.lookup_cons] at h
    by_cases hc : (k == NameKind.free && env.scope.kind == .function && env.kindOf n == some .cell) = true
    · simp only [hc, if_true, List.lookup_cons]
      cases hx : x == n with
      | true => exact .inl rfl
      | false => rw [hx] at h; exact relabel_free h
    · simp only [hc, Bool.false_eq_true, if_false, List.lookup_cons]
      cases hx : x == n with
      | true => rw [hx] at h; cases h; exact .inr rfl
      | false => rw [hx] at h; exact relabel_free h
def blk (X : Cx) (scope : Scope) (N : List Str) (s : Shared) (H : Hp) (fp : List Addr) : Cx :=
  { X with N := N, s₀ := s, H₀ := H, env := compEnvC scope (clOf X.env scope.names []) s.heap.objs.size X.env, outer := X.stack, stack := X.stack, ex := fp, fn := fun _ => false, pn := [], xe := fun _ _ => False }
structure BlkOk (esc scope : Scope) (N : List Str) (fi : List Nat) : Prop where
  kind : scope.kind = .function
  nocell : ∀ y ∈ scope.names, y.2 ≠ .cell
  loc : ∀ y ∈ scope.names, y.2 = .local → scope.names.lookup y.1 = some .local
  free : ∀ y ∈ scope.names, y.2 = .free → esc.names.lookup y.1 = some .cell ∨ esc.names.lookup y.1 = some .free
  ix : ∀ i ∈ fi, scope.names.lookup (N.getD i "") = some .free
def nB (N os : List Str) (fi : List Nat) : List Str := os ++ fi.map fun i => N.getD i ""
def sB (σ : St) (os : List Str) (fi : List Nat) : St := os.map (fun _ => none) ++ fi.map fun i => (σ[i]?).join
section
variable {X : Cx} {pins : List (Addr × Obj)} {σ : St} {H : Hp} {s : Shared} {scope esc : Scope} {os : List Str} {fi : List Nat} {fp : List Addr}
theorem blk_cells (B : BlkOk esc scope X.N fi) (he : X.env.scope = esc) (I : Inv X pins σ H s) : ∀ y ∈ scope.names, y.2 = .free → (X.env.cells.lookup y.1).isSome = true := fun y hy hf => by
  have k := B.free y hy hf
  rw [← he] at k
  obtain ⟨c, e⟩ := I.ok.has y.1 k
  rw [e]; rfl
theorem blk_cl (B : BlkOk esc scope X.N fi) (he : X.env.scope = esc) (I : Inv X pins σ H s) {x : Str} {c : Addr} (h : (clOf X.env scope.names []).lookup x = some c) : X.env.cells.lookup x = some c := by
  rcases clOf_sub h with z | ⟨z1, z2⟩
  · cases z
  · obtain ⟨d, e⟩ := Option.isSome_iff_exists.mp (blk_cells B he I _ z1 rfl)
    rw [show X.env.cells.lookup x = some d from e] at z2 ⊢
    rw [← z2]; rfl
theorem blk_ok (B : BlkOk esc scope X.N fi) (he : X.env.scope = esc) (I : Inv X pins σ H s) (hf : ∀ b ∈ fp, FpOk X pins H b) (ho : ∀ b ∈ fp, ∃ o, s.heap.get? b = some o) : (blk X scope (nB X.N os fi) s H fp).Ok where
  mod := I.ok.mod
  kind := B.kind
  glob := I.ok.glob
  blt := I.ok.blt
  above := Nat.le_refl _
  inj := fun x y c h1 h2 => I.ok.inj x y c (blk_cl B he I h1) (blk_cl B he I h2)
  has := fun x h => by
    have q : ∃ k, scope.names.lookup x = some k ∧ (k = .cell ∨ k = .free) := by
      rcases h with h | h
      · obtain ⟨k, e, z | ⟨z, _⟩⟩ := relabel_look h
        · exact ⟨k, e, .inl z.symm⟩
        · exact ⟨k, e, .inr z⟩
      · obtain ⟨k, e, z | ⟨_, z⟩⟩ := relabel_look h
        · exact ⟨k, e, .inr z.symm⟩
        · cases z
    obtain ⟨k, e, z | z⟩ := q
    · subst z; exact absurd rfl (B.nocell _ (mem_of_look e))
    · subst z; exact ⟨_, clOf_has (mem_of_look e)⟩
  cab := fun x c h _ => nomatch h
  hd := I.ok.hd
  frames := I.ok.frames
  stk := .inl rfl
  exf := fun b hb => by
    obtain ⟨o, e⟩ := ho b hb
    exact ⟨Nat.ne_of_lt (Heap.lt_size e), fun x c h => (hf b hb).2.2.2.2.1 x c (blk_cl B he I h)⟩
  bs := I.bs
  bsz := Nat.le_trans I.ok.bsz I.sz
  noex := fun b o e hb => by
    rcases (hf b hb).2.2.2.1 with z | z
    · exact I.ok.noex b o e z
    · exact absurd (Nat.lt_of_lt_of_le (Heap.lt_size e) (Nat.le_trans I.ok.bsz z)) (Nat.lt_irrefl _)
  exfs := fun b hb z => by
    rcases List.mem_cons.mp (I.stkSub b z) with e | e
    · exact (hf b hb).2.1 e
    · exact (hf b hb).2.2.1 e
  funs := I.stack
  frf := I.stkFree
theorem blk_inv {h1 : Heap} {t1 : Nat} {m1 : Str → Option Value} (B : BlkOk esc scope X.N fi) (he : X.env.scope = esc) (I : Inv X pins σ H s) (hf : ∀ b ∈ fp, FpOk X pins H b) (ho : ∀ b ∈ fp, ∃ o, s.heap.get? b = some o)
    (k : ∀ b o, s.heap.get? b = some o → h1.get? b = some o) (hn : h1.Ns s.heap.objs.size m1) : Inv (blk X scope (nB X.N os fi) s H fp) [] (sB σ os fi) H { s with heap := h1, toks := t1 } where
  ok := blk_ok B he I hf ho
  os := rfl
  bare := I.bare
  base := Un.kept k
  loc := by
    refine ⟨m1, hn, fun j x v e1 e2 e3 => ?_⟩
    have hj : os.length ≤ j := by
      by_cases hj : j < os.length
      · have z : (sB σ os fi)[j]? = some (some v) := e2
        unfold sB at z
        rw [List.getElem?_append_left (by simpa using hj), List.getElem?_map] at z
        cases q : os[j]? with
        | none => rw [q] at z; cases z
        | some _ => rw [q] at z; cases z
      · omega
    have z1 : (nB X.N os fi)[j]? = some x := e1
    have z2 : (sB σ os fi)[j]? = some (some v) := e2
    unfold nB at z1
    unfold sB at z2
    rw [List.getElem?_append_right hj, List.getElem?_map] at z1
    rw [List.getElem?_append_right (by simpa using hj), List.length_map, List.getElem?_map] at z2
    cases q : fi[j - os.length]? with
    | none => rw [q] at z1; cases z1
    | some i =>
      rw [q] at z1 z2
      have w1 : X.N.getD i "" = x := Option.some.inj z1
      have w2 : (σ[i]?).join = some v := Option.some.inj z2
      have w3 : σ[i]? = some (some v) := by
        cases p : σ[i]? with
        | none => rw [p] at w2; cases w2
        | some y => rw [p] at w2; exact congrArg some w2
      have lx : scope.names.lookup x = some .free := by rw [← w1]; exact B.ix i (List.mem_of_getElem? q)
      have li : i < X.N.length := by rw [← I.len]; exact (List.getElem?_eq_some_iff.mp w3).1
      have w4 : X.N[i]? = some x := by
        rw [List.getD_eq_getElem?_getD, List.getElem?_eq_getElem li] at w1
        rw [List.getElem?_eq_getElem li]
        exact congrArg some w1
      have kx := B.free _ (mem_of_look lx) rfl
      rw [← he] at kx
      obtain ⟨m, hm, hl⟩ := I.loc
      obtain ⟨u, r, l⟩ := hl i x v w4 w3 (by rcases kx with kx | kx; exact .inr (.inl kx); exact .inr (.inr kx))
      refine ⟨u, r, .inr ⟨relabel_free lx, ?_⟩⟩
      rcases l with ⟨a, _⟩ | ⟨_, c, e, ic⟩
      · rcases kx with kx | kx <;> rw [show X.env.kindOf x = X.env.scope.names.lookup x from rfl, kx] at a <;> cases a
      · refine ⟨c, ?_, ?_⟩
        · have := clOf_has (env := X.env) (cs := []) (mem_of_look lx)
          rw [e] at this
          exact this
        · obtain ⟨o, ho, hd⟩ := ic
          exact ⟨o, k _ o ho, hd⟩
  cell := fun x c h => by
    obtain ⟨v, o, ho, hd⟩ := I.cell x c (blk_cl B he I h)
    exact ⟨v, o, k _ o ho, hd⟩
  free := I.hok.fresh (Nat.le_refl _)
  freeC := fun x c h => I.freeC x c (blk_cl B he I h)
  pin := fun p hp => nomatch hp
  hok := I.hok.kept k
  len := by
    show (sB σ os fi).length = (nB X.N os fi).length
    unfold sB nB
    simp
theorem blk_out {N : List Str} {s' : Shared} {H' : Hp} {σ' : St} {pins' : List (Addr × Obj)} {h' : Heap} (I : Inv X pins σ H s) (hf : ∀ b ∈ fp, FpOk X pins H b) (I' : Inv (blk X scope N s H fp) pins' σ' H' s') (sb : Heap.SameBut s.heap.objs.size s'.heap h') :
    Inv X pins σ H' { s' with heap := h' } := by
  have ne : ∀ b o, s.heap.get? b = some o → b ≠ s.heap.objs.size := fun b o e => Nat.ne_of_lt (Heap.lt_size e)
  have un : Un (frs X.stack) fp H H' s.heap h' := by
    have u : Un (frs X.stack) fp H H' s.heap s'.heap := I'.base
    exact ⟨fun b o e n hb hx => (sb.2 b (ne b o e)).trans (u.keep b o e n hb hx), fun b o e n hb hx => by
        obtain ⟨sl, q⟩ := u.slot b o e n hb hx
        exact ⟨sl, (sb.2 b (ne b o e)).trans q⟩, u.free, fun b o e hx => by
        obtain ⟨o', q⟩ := u.there b o e hx
        exact ⟨o', (sb.2 b (ne b o e)).trans q⟩, u.tups, u.frzs, u.tbls⟩
  have hok : HOk X.prog X.w H' h' := fun b ob e => by
    have fr : H' s.heap.objs.size = none := I'.free
    refine (I'.hok b ob e).stay (fun c w' hc q => (sb.2 c ?_).trans q) (fun _ q => q) fun _ _ q => q
    rintro rfl
    rcases hc with rfl | hc
    · rw [fr] at e; cases e
    · rw [fr] at hc; cases hc
  obtain ⟨hh, g, d, t, os'⟩ := s'
  obtain rfl : os' = s.os := I'.os
  have J := I.call (h' := h') (g' := g) (d' := d) (t' := t) (ch := fp) un hok I'.bare fun b hb => ⟨(hf b hb).2.2.2.1, (hf b hb).2.1, (hf b hb).2.2.2.2.1, (hf b hb).2.2.2.2.2⟩
  exact J
end
end L2
namespace L2
open PySem PySem.Spec PyProof.Rows
abbrev F0 : Value → Shared → Prop := fun _ _ => False
theorem of_F0 {α : Type} {M : Model} {A : Around} {t : Sem α} {Q Q' : α → Shared → Prop} {E : Value → Shared → Prop} {s : Shared} (h : wpAny M A t Q F0 s) (hQ : ∀ a s, Q a s → Q' a s) : wpAny M A t Q' E s := wpAny_mono h hQ fun _ _ z => z.elim
def PTs (X : Cx) (ifs : List Expr) (t : TT) : Prop :=
  ∀ (pins : List (Addr × Obj)) (s : Shared) (σ : St) (H : Hp) (Q : Bool → Hp → Prop), Inv X pins σ H s → t σ H Q →
    wpAny (model X.prog X.w) X.A (forIn ifs true fun e b => if b = true then (do let y ← isTrue e X.env (eval e X.env); pure (ForInStep.yield y)) else pure (ForInStep.yield b)) (TP X pins σ Q) X.xe s
theorem pts_nil {X : Cx} : PTs X [] (fun _ H Q => Q true H) := fun _ _ _ H _ I h => wpAny_pure ⟨H, I, h⟩
theorem pts_one {X : Cx} {e : Expr} {t : TT} (h : PT X e t) : PTs X [e] t := by
  intro pins s σ H Q I q
  rw [List.forIn_cons]
  simp only [if_true]
  exact wpAny_bind (wpAny_bind (thn (h pins s σ H Q I q) fun y s1 z => wpAny_pure (wpAny_pure z)))
section
variable {X : Cx} {tg iter elt : Expr} {ifs : List Expr} {scope esc : Scope} {pos : Pos} {N os : List Str} {fi : List Nat} {wi : TI} {g : TG} {tt : TT} {te : TE}
end
end L2
namespace L2
open PySem PySem.Spec PyProof.Rows
theorem runs_gens {M : Model} {G : PySem.Ctx} {p : Pos} {t : Sem Fin} {fs : List Frame} {a b : Shared} {e : End} (h : Runs M G p t fs a e b) : a.gens.size ≤ b.gens.size := by
  induction h <;> (try simp only [Shared.setGen, Array.size_setIfInBounds, Array.size_push] at *) <;> omega
theorem wakes_gens {M : Model} {G : PySem.Ctx} {p : Pos} {g : Nat} {r : Resume} {a b : Shared} {x : GenResult} (h : Wakes M G p g r a x b) : a.gens.size ≤ b.gens.size := by
  have sz : ∀ (s : Shared) (y : GenState), (s.setGen g y).gens.size = s.gens.size := fun s y => by simp [Shared.setGen]
  unfold Wakes at h
  split at h
  · exact h.elim
  · split at h
    · obtain ⟨e, c, q, _, _, rfl⟩ := h
      have := runs_gens q
      rw [sz] at this ⊢
      exact this
    · rw [h.2]; first | exact Nat.le_refl _ | (rw [sz]; exact Nat.le_refl _)
    · rw [h.2]; first | exact Nat.le_refl _ | (rw [sz]; exact Nat.le_refl _)
  · obtain ⟨e, c, q, _, _, rfl⟩ := h
    have := runs_gens q
    rw [sz] at this ⊢
    exact this
  · rw [h.2]; first | exact Nat.le_refl _ | (rw [sz]; exact Nat.le_refl _)
  · rw [h.2]; first | exact Nat.le_refl _ | (rw [sz]; exact Nat.le_refl _)
theorem wp_gens {α : Type} (M : Model) (G : PySem.Ctx) (k : Nat) (t : Sem α) : ∀ (Q : α → Pos → Shared → Prop) (E : Value → Pos → Shared → Prop) (p : Pos) (a : Shared), k ≤ a.gens.size → Sem.wp M G t Q E p a →
    Sem.wp M G t (fun x p' b => k ≤ b.gens.size ∧ Q x p' b) (fun e p' b => k ≤ b.gens.size ∧ E e p' b) p a := by
  induction t with
  | pure _ => intro Q E p a l h; exact ⟨l, h⟩
  | raise _ => intro Q E p a l h; exact ⟨l, h⟩
  | unsupported _ => intro Q E p a _ h; exact h
  | finish _ => intro Q E p a _ h; exact h
  | rule _ _ ih => intro Q E p a l h; exact ih () Q E p a l h
  | «at» p' _ ih => intro Q E p a l h; exact ih () Q E p' a l h
  | load _ _ _ ih => intro Q E p a l h; obtain ⟨o, z, h⟩ := h; exact ⟨o, z, ih o Q E p a l h⟩
  | update _ _ _ _ ih => intro Q E p a l h; exact ⟨h.1, ih () Q E p _ l h.2⟩
  | loadIfAlive _ _ ih => intro Q E p a l h; exact ih _ Q E p a l h
  | point _ _ ih => intro Q E p a l h; exact ih () Q E p a l h
  | register _ _ => intro Q E p a _ h; exact h
  | alloc _ _ ih => intro Q E p a l h; exact ih _ Q E p _ l h
  | fresh _ ih => intro Q E p a l h; exact ih _ Q E p _ l h
  | ask _ ih => intro Q E p a l h; exact ih _ Q E p a l h
  | choose _ _ _ ih => intro Q E p a l h; exact ⟨h.1, ih _ Q E p _ l h.2⟩
  | os _ _ _ ih => intro Q E p a l h; exact ih _ Q E p _ l h
  | call _ _ _ _ _ ih => intro Q E p a l h; obtain ⟨r, b, z, h⟩ := h; exact ⟨r, b, z, ih r Q E p b (Nat.le_trans l (runs_gens z)) h⟩
  | handled _ _ ih => intro Q E p a l h; exact ih _ Q E p a l h
  | genState _ _ ih => intro Q E p a l h; obtain ⟨x, z, h⟩ := h; exact ⟨x, z, ih _ Q E p a l h⟩
  | newGen _ _ ih => intro Q E p a l h; exact ih _ Q E p _ (by simp only [Array.size_push]; omega) h
  | resume _ _ _ _ ih => intro Q E p a l h; obtain ⟨r, b, z, h⟩ := h; exact ⟨r, b, z, ih r Q E p b (Nat.le_trans l (wakes_gens z)) h⟩
  | yield _ _ _ _ => intro Q E p a _ h; exact h
  | stack _ ih => intro Q E p a l h; exact ih _ Q E p a l h
  | fork _ _ => intro Q E p a _ h; exact h
  | thread _ ih => intro Q E p a l h; exact ih _ Q E p a l h
  | await _ _ _ _ _ => intro Q E p a _ h; exact h
theorem any_gens {α : Type} {M : Model} {A : Around} {t : Sem α} {Q : α → Shared → Prop} {E : Value → Shared → Prop} {a : Shared} {k : Nat} (l : k ≤ a.gens.size) (h : wpAny M A t Q E a) :
    wpAny M A t (fun x b => k ≤ b.gens.size ∧ Q x b) (fun e b => k ≤ b.gens.size ∧ E e b) a := fun G p hG => wp_gens M G k t _ _ p a l (h G p hG)
def gA (A : Around) (e : Env) : Around := ⟨A.handled, A.depth + 1, A.frames.map (e :: ·), A.guards, A.units + 3⟩
abbrev gE (X : Cx) (scope : Scope) (code : Value) (s : Shared) : Env := genEnv scope (clOf X.env scope.names []) s.heap.objs.size code builtinsNs X.env
def gblk (X : Cx) (scope : Scope) (N : List Str) (code : Value) (s : Shared) (H : Hp) (fp : List Addr) : Cx :=
  { X with A := gA X.A.in1.in1 (gE X scope code s), N := N, s₀ := s, H₀ := H, env := gE X scope code s, outer := X.stack, stack := gE X scope code s :: X.stack, ex := fp, fn := fun _ => false, pn := [], xe := fun _ _ => False }
section
variable {X : Cx} {pins : List (Addr × Obj)} {σ : St} {H : Hp} {s : Shared} {scope esc : Scope} {os : List Str} {fi : List Nat} {fp : List Addr} {code : Value}
theorem gblk_ok (B : BlkOk esc scope X.N fi) (he : X.env.scope = esc) (I : Inv X pins σ H s) (hf : ∀ b ∈ fp, FpOk X pins H b) (ho : ∀ b ∈ fp, ∃ o, s.heap.get? b = some o) : (gblk X scope (nB X.N os fi) code s H fp).Ok where
  mod := I.ok.mod
  kind := B.kind
  glob := I.ok.glob
  blt := rfl
  above := Nat.le_refl _
  inj := fun x y c h1 h2 => I.ok.inj x y c (blk_cl B he I h1) (blk_cl B he I h2)
  has := fun x h => by
    rcases h with h | h
    · exact absurd rfl (B.nocell _ (mem_of_look h))
    · exact ⟨_, clOf_has (mem_of_look h)⟩
  cab := fun x c h _ => nomatch h
  hd := I.ok.hd
  frames := by
    show (X.A.in1.in1.frames).map (gE X scope code s :: ·) = _
    rw [show X.A.in1.in1.frames = X.A.frames from rfl, I.ok.frames]
    rfl
  stk := .inr ⟨rfl, rfl⟩
  exf := fun b hb => by
    obtain ⟨o, e⟩ := ho b hb
    exact ⟨Nat.ne_of_lt (Heap.lt_size e), fun x c h => (hf b hb).2.2.2.2.1 x c (blk_cl B he I h)⟩
  bs := I.bs
  bsz := Nat.le_trans I.ok.bsz I.sz
  noex := (blk_ok (os := os) B he I hf ho).noex
  exfs := (blk_ok (os := os) B he I hf ho).exfs
  funs := I.stack
  frf := I.stkFree
theorem gblk_inv {h1 : Heap} {t1 : Nat} {g1 : Array GenState} {m1 : Str → Option Value} (B : BlkOk esc scope X.N fi) (he : X.env.scope = esc) (I : Inv X pins σ H s) (hf : ∀ b ∈ fp, FpOk X pins H b) (ho : ∀ b ∈ fp, ∃ o, s.heap.get? b = some o)
    (k : ∀ b o, s.heap.get? b = some o → h1.get? b = some o) (hn : h1.Ns s.heap.objs.size m1) (hb : AllBare g1) : Inv (gblk X scope (nB X.N os fi) code s H fp) [] (sB σ os fi) H { s with heap := h1, toks := t1, gens := g1 } where
  ok := gblk_ok B he I hf ho
  os := rfl
  bare := hb
  base := Un.kept k
  loc := by
    obtain ⟨m, hm, hl⟩ := (blk_inv (os := os) (t1 := t1) B he I hf ho k hn).loc
    refine ⟨m1, hn, fun j x v e1 e2 e3 => ?_⟩
    have e3' : Vis (relabel scope X.env) x := by
      rcases e3 with e3 | e3 | e3
      · exact .inl (lookup_relabel_local e3)
      · exact absurd rfl (B.nocell _ (mem_of_look e3))
      · rcases relabel_free (env := X.env) e3 with z | z
        · exact .inr (.inl z)
        · exact .inr (.inr z)
    obtain ⟨u, r, l⟩ := hl j x v e1 e2 e3'
    refine ⟨u, r, ?_⟩
    have kx : scope.names.lookup x = some .free := by
      rcases e3 with e3 | e3 | e3
      · have hj : os.length ≤ j := by
          by_cases hj : j < os.length
          · have z : (sB σ os fi)[j]? = some (some v) := e2
            unfold sB at z
            rw [List.getElem?_append_left (by simpa using hj), List.getElem?_map] at z
            cases q : os[j]? with
            | none => rw [q] at z; cases z
            | some _ => rw [q] at z; cases z
          · omega
        have z1 : (nB X.N os fi)[j]? = some x := e1
        unfold nB at z1
        rw [List.getElem?_append_right hj, List.getElem?_map] at z1
        cases q : fi[j - os.length]? with
        | none => rw [q] at z1; cases z1
        | some i =>
          rw [q] at z1
          have w1 : X.N.getD i "" = x := Option.some.inj z1
          rw [← w1]
          exact B.ix i (List.mem_of_getElem? q)
      · exact absurd rfl (B.nocell _ (mem_of_look e3))
      · exact e3
    rcases l with ⟨a, _⟩ | ⟨_, c, e, ic⟩
    · have a' : (relabel scope X.env).names.lookup x = some .local := a
      rcases relabel_free (env := X.env) kx with z | z
      · have z' : (relabel scope X.env).names.lookup x = some .cell := z
        rw [z'] at a'; cases a'
      · have z' : (relabel scope X.env).names.lookup x = some .free := z
        rw [z'] at a'; cases a'
    · exact .inr ⟨.inr kx, c, e, ic⟩
  cell := (blk_inv (os := os) (t1 := t1) B he I hf ho k hn).cell
  free := I.hok.fresh (Nat.le_refl _)
  freeC := fun x c h => I.freeC x c (blk_cl B he I h)
  pin := fun p hp => nomatch hp
  hok := I.hok.kept k
  len := by
    show (sB σ os fi).length = (nB X.N os fi).length
    unfold sB nB
    simp
theorem gblk_out {N : List Str} {s' : Shared} {H' : Hp} {σ' : St} {pins' : List (Addr × Obj)} {h' : Heap} {g' : Array GenState} (I : Inv X pins σ H s) (hf : ∀ b ∈ fp, FpOk X pins H b) (I' : Inv (gblk X scope N code s H fp) pins' σ' H' s')
    (k : ∀ b o, s'.heap.get? b = some o → h'.get? b = some o) (hb : AllBare g') : Inv X pins σ H' { s' with heap := h', gens := g' } := by
  have un : Un (frs X.stack) fp H H' s.heap h' := by
    have u : Un (frs X.stack) fp H H' s.heap s'.heap := I'.base
    exact ⟨fun b o e n hb hx => k b o (u.keep b o e n hb hx), fun b o e n hb hx => by
        obtain ⟨sl, q⟩ := u.slot b o e n hb hx
        exact ⟨sl, k b _ q⟩, u.free, fun b o e hx => by
        obtain ⟨o', q⟩ := u.there b o e hx
        exact ⟨o', k b o' q⟩, u.tups, u.frzs, u.tbls⟩
  have hok : HOk X.prog X.w H' h' := I'.hok.kept k
  obtain ⟨hh, g, d, t, os'⟩ := s'
  obtain rfl : os' = s.os := I'.os
  have J := I.call (h' := h') (g' := g') (d' := d) (t' := t) (ch := fp) un hok hb fun b hb => ⟨(hf b hb).2.2.2.1, (hf b hb).2.1, (hf b hb).2.2.2.2.1, (hf b hb).2.2.2.2.2⟩
  exact J
end
end L2
namespace L2
open PySem PySem.Spec PyProof.Rows
theorem bare_set {a : Array GenState} {g : Nat} {y : GenState} (h : AllBare a) (hy : y.bare = true) : AllBare (a.setIfInBounds g y) := fun z hz => by
  obtain ⟨i, hi, rfl⟩ := Array.mem_iff_getElem.mp hz
  have hi' : i < a.size := by simpa using hi
  rw [Array.getElem_setIfInBounds hi']
  split
  · exact hy
  · exact h _ (Array.getElem_mem _)
theorem setGen_size {s : Shared} {g : Nat} {y : GenState} : (s.setGen g y).gens.size = s.gens.size := by simp [Shared.setGen]
theorem setGen_get {s : Shared} {g : Nat} {y : GenState} (h : g < s.gens.size) : (s.setGen g y).gens[g]? = some y := by simp [Shared.setGen, h]
theorem setGen_two {s : Shared} {g : Nat} {x y : GenState} : (s.setGen g x).setGen g y = s.setGen g y := by
  simp [Shared.setGen]
theorem Inv.gens {X : Cx} {pins : List (Addr × Obj)} {σ : St} {H : Hp} {s : Shared} {g : Array GenState} (I : Inv X pins σ H s) (h : AllBare g) : Inv X pins σ H { s with gens := g } :=
  ⟨I.ok, I.os, h, I.base, I.loc, I.cell, I.free, I.freeC, I.pin, I.hok, I.len⟩
theorem Inv.setGen {X : Cx} {pins : List (Addr × Obj)} {σ : St} {H : Hp} {s : Shared} {g : Nat} {y : GenState} (I : Inv X pins σ H s) (h : y.bare = true) : Inv X pins σ H (s.setGen g y) := I.gens (bare_set I.bare h)
def GLr (J : It) (g : TG) (te : TE) (σb : St) (H : Hp) (Q : VK) : Prop := ∃ W : Nat → Nat → St → Hp → Prop, (∃ m, W 0 m σb H) ∧ ∀ i m σ2 H2, W i m σ2 H2 →
  (J.stop i H2 ∧ Q (.bl true) H2) ∨ (J.go i H2 ∧ ∀ x H3, J.yld i H2 x H3 → g x σ2 H3 fun σ4 H4 => te σ4 H4 fun v H5 => ∃ b, v = .bl b ∧ if b = true then ∃ m', m' < m ∧ W (i + 1) m' σ4 H5 else Q (.bl false) H5)
def gR (Y : Cx) (ps : List (Addr × Obj)) (Q : VK) : Nat → Shared → Shared → Prop := fun _ _ s => ∃ σ H, Inv Y ps σ H s ∧ Q (.bl true) H
def gY (Y : Cx) (ps : List (Addr × Obj)) (g : Nat) (Q : VK) : Protocol := fun _ _ v s kap => ∃ b, v = .bool b ∧ g < s.gens.size ∧ ∃ σ H, Inv Y ps σ H s ∧ if b = true then kap (.send .none) (s.setGen g .running) else Q (.bl false) H
section
variable {X Y : Cx} {tg iter elt : Expr} {scope : Scope} {pos : Pos} {g : TG} {te : TE} {it : Addr} {fp : List Addr} {tn : Nat → Heap → Prop} {J : It} {Q : VK} {gn : Nat} {ps : List (Addr × Obj)} {W : Nat → Nat → St → Hp → Prop}
theorem seg_gen (hY : Y.A = gA X.A.in1.in1 Y.env) (hx : Y.xe = F0) (hc : Y.calm = true) (hco : Y.env.scope.isCoroutine = false) (hg : PG Y tg g) (hel : PE Y elt te) (T : Turn Y.prog Y.w Y.K tg J fp it tn)
    (stat : ∀ {H : Hp}, (∀ b ∈ fp, H b = none) → ∀ b ∈ fp, FpOk Y ps H b)
    (turn : ∀ i m σ2 H2, W i m σ2 H2 → (J.stop i H2 ∧ Q (.bl true) H2) ∨ (J.go i H2 ∧ ∀ x H3, J.yld i H2 x H3 → g x σ2 H3 fun σ4 H4 => te σ4 H4 fun v H5 => ∃ b, v = .bl b ∧ if b = true then ∃ m', m' < m ∧ W (i + 1) m' σ4 H5 else Q (.bl false) H5)) :
    ∀ (n m i : Nat) (σ : St) (H : Hp) (s₀ s : Shared), m < n → gn < s.gens.size → Inv Y ps σ H s → tn i s.heap → (∀ b ∈ fp, H b = none) → W i m σ H →
      Seg (model Y.prog Y.w) X.A.in1.in1 (fun n s₀ r s₁ => r = .ok .next ∧ gR Y ps Q n s₀ s₁) (gY Y ps gn Q) n s₀ (.compLoop (.GeneratorExp elt [⟨tg, iter, [], 0⟩] scope pos) 0 (.ref it) .none Y.env)
        ((model Y.prog Y.w).den (.compLoop (.GeneratorExp elt [⟨tg, iter, [], 0⟩] scope pos) 0 (.ref it) .none Y.env)) [] s := by
  have up : ∀ {α : Type} {t : Sem α} {P P' : α → Shared → Prop} {E : Value → Shared → Prop} {s : Shared} {k : Nat}, k < s.gens.size → wpAny (model Y.prog Y.w) Y.A t P Y.xe s → (∀ a s', k < s'.gens.size → P a s' → P' a s') →
      wpAny (model Y.prog Y.w) (X.A.in1.in1.over (.compLoop (.GeneratorExp elt [⟨tg, iter, [], 0⟩] scope pos) 0 (.ref it) .none Y.env) []) t P' E s := fun {α t P P' E s k} l h f => by
    rw [hY, hx] at h
    exact wpAny_mono (any_gens (k := k + 1) l h) (fun a s' z => f a s' z.1 z.2) fun _ _ z => z.2.elim
  intro n
  induction n with
  | zero => intro m i σ H s₀ s lt; omega
  | succ n ih =>
    intro m i σ H s₀ s lt lg I t0 fr w
    show Seg _ _ _ _ _ s₀ _ ((compTurn (.GeneratorExp elt [⟨tg, iter, [], 0⟩] scope pos) 0 (.ref it) .none Y.env).onRaise (leaving Y.env)) [] s
    rw [compTurn_gen, Sem.onRaise_eq_wrap]
    refine seg_bind_wrap (wpAny_standAt ?_)
    rcases turn i m σ H w with ⟨stop, q⟩ | ⟨go, step⟩
    · refine seg_bind_wrap (up lg (T.done Y rfl rfl rfl hc i ps s σ H Y.xe I (stat fr) t0 stop) fun r s1 _ ⟨hr, I1⟩ => ?_)
      subst hr
      exact seg_end (.ok .next) ⟨rfl, σ, H, I1, q⟩
    · refine seg_bind_wrap (up lg (T.item Y rfl rfl rfl hc i ps s σ H Y.xe I (stat fr) t0 go) fun r s1 l1 ⟨u, hr, h1⟩ => ?_)
      subst hr
      refine seg_bind_wrap (up l1 h1 fun _ s2 l2 ⟨x, H2, I2, r2, y2, t2, fr2⟩ => ?_)
      have I2' := I2.pinned (stat fr2) (T.obj _ _ t2)
      refine seg_bind_wrap (up l2 (hg _ s2 σ H2 x u _ I2' r2 (step x H2 y2)) fun _ s3 l3 ⟨σ3, H3, I3, q3⟩ => ?_)
      refine seg_bind_wrap (wpAny_pure ?_)
      simp only [if_true]
      have hy : ∀ v, yieldOut Y.env v = yieldValue v := fun v => by simp only [yieldOut, hco, Bool.false_eq_true, if_false]
      simp only [hy]
      rw [Sem.bind_eq_wrap', Sem.bind_eq_wrap', Sem.wrap_wrap, Sem.wrap_wrap]
      refine seg_wrap (up l3 (hel _ s3 σ3 H3 _ I3 q3) fun y s4 l4 ⟨v, H4, I4, r4, b, hv, q4⟩ => ?_)
      subst hv
      obtain rfl : y = Value.bool b := r4
      refine seg_at (seg_yield rfl rfl rfl ⟨b, rfl, l4, σ3, H4, I4.unpinned, ?_⟩)
      cases b with
      | false => exact q4
      | true =>
        obtain ⟨m', lt', w'⟩ := (show ∃ m', m' < m ∧ W (i + 1) m' σ3 H4 from q4)
        have t4 : tn (i + 1) s4.heap := T.keep _ _ _ t2 fun b hb o e => (I4.pin (b, o) (List.mem_append_right _ (List.mem_append_right _ (mem_pinsAt hb e)))).1
        have fr4 : ∀ b ∈ fp, H4 b = none := fun b hb => by
          obtain ⟨o, e, d⟩ := T.obj _ _ t2 b hb
          exact (I4.pin (b, o) (List.mem_append_right _ (List.mem_append_right _ (mem_pinsAt hb e)))).2.1
        exact seg_again rfl (ih m' (i + 1) σ3 H4 _ _ (by omega) (by rw [setGen_size]; exact l4) (I4.unpinned.setGen rfl) t4 fr4 w')
theorem seg_gen0 (hY : Y.A = gA X.A.in1.in1 Y.env) (hx : Y.xe = F0) (T : Turn Y.prog Y.w Y.K tg J fp it tn) {n : Nat} {s₀ s : Shared} {R : GenEnd} {P : Protocol} (t0 : tn 0 s.heap)
    (h : Seg (model Y.prog Y.w) X.A.in1.in1 R P n s₀ (.compLoop (.GeneratorExp elt [⟨tg, iter, [], 0⟩] scope pos) 0 (.ref it) .none Y.env)
        ((model Y.prog Y.w).den (.compLoop (.GeneratorExp elt [⟨tg, iter, [], 0⟩] scope pos) 0 (.ref it) .none Y.env)) [] s) :
    Seg (model Y.prog Y.w) X.A.in1.in1 R P n s₀ (.compStart (.GeneratorExp elt [⟨tg, iter, [], 0⟩] scope pos) 0 (.ref it) .none Y.env)
        ((model Y.prog Y.w).den (.compStart (.GeneratorExp elt [⟨tg, iter, [], 0⟩] scope pos) 0 (.ref it) .none Y.env)) [] s := by
  show Seg _ _ _ _ _ s₀ _ ((compStart (.GeneratorExp elt [⟨tg, iter, [], 0⟩] scope pos) 0 (.ref it) .none Y.env).onRaise (leaving Y.env)) [] s
  unfold compStart
  rw [Sem.onRaise_eq_wrap]
  show Seg _ _ _ _ _ s₀ _ ((ask >>= _).wrap _ _ _ _) [] s
  refine seg_bind_wrap (wpAny_askSetting ?_)
  split
  · exact seg_again rfl h
  · refine seg_bind_wrap (wpAny_rule ?_)
    show Seg _ _ _ _ _ s₀ _ ((standAt iter.pos >>= _).wrap _ _ _ _) [] s
    exact seg_bind_wrap (wpAny_standAt (seg_bind_wrap (T.self _ 0 s _ _ t0 (seg_again rfl h))))
theorem all_gen {pins : List (Addr × Obj)} {σ : St} {a : Addr} {oa : Obj} {E : Value → Shared → Prop} {RR : Result → Shared → Prop} (hh : X.A.handled = none) (hroom : X.A.depth < recursionLimit) (hpa : (a, oa) ∈ ps) (hga : ∀ h : Heap, h.get? a = some oa → h.IsGen a gn)
    (ht : ∀ (s : Shared) (h' : Heap) (y : GenState) (σ' : St) (H' : Hp), Inv Y ps σ' H' s → (∀ b o, s.heap.get? b = some o → h'.get? b = some o) → y.bare = true → Q (.bl true) H' → RR (.ok (.ret (.bool true))) { s.setGen gn y with heap := h' })
    (hf : ∀ (s : Shared) (y : GenState) (σ' : St) (H' : Hp), Inv Y ps σ' H' s → y.bare = true → Q (.bl false) H' → RR (.ok (.ret (.bool false))) (s.setGen gn y)) :
    ∀ (n : Nat) (gs : GenState) (s : Shared), s.heap.IsGen a gn → s.heap.NoLimit → s.gens[gn]? = some gs →
      gs.Goes (model Y.prog Y.w) X.A.in1.in1 (fun n s₀ r s₁ => r = .ok .next ∧ gR Y ps Q n s₀ s₁) (gY Y ps gn Q) n (.send .none) (s.setGen gn .running) →
      codeAny (model Y.prog Y.w) X.A (.builtin "all.loop" ⟨[.ref a], []⟩) RR s := by
  intro n
  induction n with
  | zero =>
    intro gs s hg hl hgs go
    refine codeAny_builtin F.entry_all_loop ?_
    rw [Around.under_plainId F.plain_all_loop _]
    show wpAny _ X.A.in1 (pyNext (.ref a) >>= _) _ _ s
    refine wpAny_bind (wpAny_pyNext_genexpQ (P := gR Y ps Q) hh hl hroom hg hgs go (fun v s1 gs' hb hv => ?_) (fun s1 hp h' hk => ?_))
    · obtain ⟨b, rfl, lt, σ', H', I', q⟩ := hv
      refine wpAny_bind (wpAny_holding (wpAny_truthy_bool ?_))
      refine wpAny_bind (wpAny_letGo ?_)
      cases b with
      | true => exact False.elim q
      | false =>
        simp only [Bool.false_eq_true, if_false]
        exact wpAny_bind (wpAny_rule (wpAny_pure (hf s1 gs' σ' H' I' hb q)))
    · obtain ⟨σ', H', I', q⟩ := hp
      exact wpAny_bind (wpAny_rule (wpAny_pure (ht s1 h' .finished σ' H' I' hk rfl q)))
  | succ n ih =>
    intro gs s hg hl hgs go
    refine codeAny_builtin F.entry_all_loop ?_
    rw [Around.under_plainId F.plain_all_loop _]
    show wpAny _ X.A.in1 (pyNext (.ref a) >>= _) _ _ s
    refine wpAny_bind (wpAny_pyNext_genexpQ (P := gR Y ps Q) hh hl hroom hg hgs go (fun v s1 gs' hb hv => ?_) (fun s1 hp h' hk => ?_))
    · obtain ⟨b, rfl, lt, σ', H', I', q⟩ := hv
      refine wpAny_bind (wpAny_holding (wpAny_truthy_bool ?_))
      refine wpAny_bind (wpAny_letGo ?_)
      cases b with
      | true =>
        simp only [if_true]
        refine wpAny_pure ⟨plainId_quiet F.plain_all_loop _, ih gs' _ (hga _ (I'.pin _ (List.mem_append_right _ hpa)).1) I'.nolimit (setGen_get lt) ?_⟩
        rw [setGen_two]
        exact q
      | false =>
        simp only [Bool.false_eq_true, if_false]
        exact wpAny_bind (wpAny_rule (wpAny_pure (hf s1 gs' σ' H' I' hb q)))
    · obtain ⟨σ', H', I', q⟩ := hp
      exact wpAny_bind (wpAny_rule (wpAny_pure (ht s1 h' .finished σ' H' I' hk rfl q)))
end
end L2
namespace L2
open PySem PySem.Spec PyProof.Rows
structure CodeK (K : PySem.W.Frag) (c P : Addr) : Prop where
  ex : ∃ (o : Obj) (vs : Array Value) (file : Str) (tf : Tok) (flags : Int) (tk : Tok) (inF : Bool) (text : Int) (tt : Tok), K.lookup c = some o ∧ o.cls = .type "code" ∧ o.data = .fields vs ∧ vs[11]? = some (.ref P) ∧ vs.getD 18 .none = .str file tf ∧
    vs.getD 7 .none = .int flags tk ∧ vs.getD 9 .none = .bool inF ∧ vs.getD 10 .none = .int text tt
  ne : c ≠ P
structure BmK (X : Cx) : Prop where
  ex : ∃ (bm : Addr) (ob : Obj), X.mg "__builtins__" = some (.ref bm) ∧ bm ≠ builtinsNs ∧ X.base.get? bm = some ob ∧ ob.cls = .type "module" ∧ ob.dict = some builtinsNs ∧ ob.data = .plain
theorem upd_self {H : Hp} {p : Addr} {o : HO} (h : H p = some o) : upd H p o = H := by
  funext b
  by_cases e : b = p
  · subst e; rw [upd_same, h]
  · rw [upd_ne e]
section
variable {X : Cx} {pins : List (Addr × Obj)} {σ : St} {H : Hp} {s : Shared} {c P : Addr}
theorem tab_step {E : Value → Shared → Prop} {pos : Pos} {qn : Str} {scope : Scope} {ps : Array Value} (I : Inv X pins σ H s) (hc : X.env.code = .ref c) (C : CodeK X.K c P) (hP : H P = some (.tbl ps)) (tr : TriplesOk ps.toList) :
    wpAny (model X.prog X.w) X.A (genexprCode X.env pos qn scope) (fun code s' => ∃ ps', TriplesOk ps'.toList ∧ Inv X pins σ (upd H P (.tbl ps')) s' ∧ (∀ b o, b ≠ P → s.heap.get? b = some o → s'.heap.get? b = some o)) E s := by
  obtain ⟨o, vs, file, tf, flags, tk, inF, text, tt, lk, cl, d, h11, h18, h7, h9, h10⟩ := C.ex
  have ho := I.kIn c o lk
  have hp : s.heap.get? P = some { cls := .none, data := .fields ps } := I.hok P _ hP
  have g11 : vs.getD 11 .none = .ref P := by
    rw [Array.getD_eq_getD_getElem?, h11]; rfl
  have hok : s.heap.IsCode c P ps := ⟨o, vs, file, tf, flags, tk, inF, text, tt, _, ho, d, g11, h18, h7, h9, h10, hp, rfl, tr, C.ne⟩
  have htab : s.heap.TableAt c P ps := ⟨⟨o, vs, ho, cl, d, h11⟩, hp⟩
  cases hnf : codeAmong pos ps.toList with
  | some c' => exact wpAny_genexprCode_hit hc hok hnf ⟨ps, tr, by rw [upd_self hP]; exact I, fun b o _ e => e⟩
  | none =>
    refine wpAny_genexprCodeX hc hok htab hnf fun c' h' tk ext _ _ _ _ tab _ => ?_
    have tr' : TriplesOk (ps ++ #[rawInt pos.line, rawInt pos.col, .ref c']).toList := by
      rw [Array.toList_append]
      exact TriplesOk_snoc _ _ _ _ tr
    refine ⟨_, tr', ?_, fun b o hb e => ext b o hb e⟩
    have ne : ∀ b, H b = none → b ≠ P := fun b n z => by rw [z, hP] at n; cases n
    have neT : ∀ b u, H b = some u → (∀ q, u ≠ .tbl q) → b ≠ P := fun b u e n z => by rw [z, hP] at e; cases e; exact n _ rfl
    refine I.un (t' := tk) ⟨fun b o e n _ _ => ext b o (ne b n) e, fun b o e n _ _ => ⟨o.slots, ext b o (ne b n) e⟩, fun b o e n _ => by rw [upd_ne (ne b n)]; exact n, fun b o e _ => ?_, fun b xs e => by rw [upd_ne (neT b _ e fun _ z => nomatch z)]; exact e,
      fun b o u e => by rw [upd_ne (neT b _ e fun _ z => nomatch z)]; exact e, fun b qs e => ?_⟩ fun b u e => ?_
    · by_cases hb : b = P
      · subst hb; exact ⟨_, tab.2⟩
      · exact ⟨o, ext b o hb e⟩
    · by_cases hb : b = P
      · subst hb
        rw [hP] at e; cases e
        exact ⟨_, upd_same⟩
      · exact ⟨#[], by rw [upd_ne hb, e]; simp⟩
    · by_cases hb : b = P
      · subst hb
        rw [upd_same] at e; cases e
        exact tab.2
      · rw [upd_ne hb] at e
        refine (I.hok b u e).stay (fun d v hd q => ext d v ?_ q) (fun d q => by rw [upd_ne (neT d _ q fun _ z => nomatch z)]; exact q) fun d xs q => by rw [upd_ne (neT d _ q fun _ z => nomatch z)]; exact q
        rcases hd with z | z
        · rw [z]; exact hb
        · exact neT d _ z fun _ y => nomatch y
end
def tAll (P : Addr) (os : List Str) (fi : List Nat) (wi : TI) (g : TG) (te : TE) : TE := fun σ H Q => wi σ H fun J H1 => ∃ ps, H1 P = some (.tbl ps) ∧ TriplesOk ps.toList ∧ ∀ ps', TriplesOk ps'.toList → GLr J g te (sB σ os fi) (upd H1 P (.tbl ps')) Q
theorem Room.gen {k : Nat} {A : Around} {e : Env} (r : Room (k + 1) A) : Room k (gA A.in1.in1 e) :=
  ⟨r.hd, by have := r.dp; show A.depth + 1 + 3 * k + 5 < _; omega, by have := r.un; show A.units + 1 + 1 + 3 + 16 * k + 200 < _; omega⟩
section
variable {X : Cx} {tg iter elt : Expr} {scope esc : Scope} {pos gpos p : Pos} {N os : List Str} {fi : List Nat} {wi : TI} {g : TG} {te : TE} {c P : Addr} {k : Nat}
theorem pe_all (hc : X.calm = true) (hr : Room k X.A) (hgl : Gl X "all") (hm : X.mg "all" = none) (hcd : X.env.code = .ref c) (CK : CodeK X.K c P) (BM : BmK X) (hN : X.N = N) (he : X.env.scope = esc) (B : BlkOk esc scope N fi) (hco : scope.isCoroutine = false) (h0 : scope.names.lookup (".0" : Str) = some NameKind.local) (hi : PI X tg iter wi)
    (hg : ∀ code s H fp, PG (gblk X scope (nB N os fi) code s H fp) tg g) (hel : ∀ code s H fp, PE (gblk X scope (nB N os fi) code s H fp) elt te)
    (hs : ∀ x, genFold iter X.env x = pure x := by intro _; rfl) : PE X (.Call (.Name "all" p) [.GeneratorExp elt [⟨tg, iter, [], 0⟩] scope gpos] [] pos) (tAll P os fi wi g te) := by
  intro pins s σ H Q I h
  subst hN
  have cells := blk_cells B he I
  have hroom : X.A.depth < recursionLimit := by have := hr.dp; omega
  refine wpAny_Call_Name_kw (ld_blt I hgl hm boot_all ?_)
  refine PyProof.Rows.callWith_builtin1 ?_ rfl rfl
  show wpAny _ _ (spliced ((false, eval (.GeneratorExp elt [⟨tg, iter, [], 0⟩] scope gpos) X.env) :: backTo pos (starEach [] X.env))) _ _ s
  refine Calls.spliced_cons (wpAny_GeneratorExp_make hco (closure_eq cells) B.nocell h0 B.kind hroom (thn (hi pins s σ H _ I h) fun v s1 h1 => thn h1 fun itv s2 h2 => ?_) hs)
  obtain ⟨it, fp, tn, J, H2, rfl, I2, T, st2, f2, qs, hP, tr, q2⟩ := h2
  refine ⟨I2.nolimit, thn (tab_step I2 hcd CK hP tr) fun code s3 ⟨qs', tr', I3, k3⟩ => ?_⟩
  obtain ⟨bm, ob, b1, b2, b3, b4, b5, b6⟩ := BM.ex
  refine wpAny_builtinsFor (by rw [I3.ok.glob]; exact I3.mod.glob.keeps I3.bk) b1 b2 (I3.bk _ _ b3) b4 b5 b6 ?_
  intro h4 hn4 sb4
  refine Calls.spliced_nil ?_
  have q3 := q2 qs' tr'
  have fpP : ∀ b ∈ fp, b ≠ P := fun b hb z => by
    have := (f2 b hb).1
    rw [z, hP] at this; cases this
  have f3 : ∀ b ∈ fp, FpOk X pins (upd H2 P (.tbl qs')) b := fun b hb => ⟨by rw [upd_ne (fpP b hb)]; exact (f2 b hb).1, (f2 b hb).2⟩
  have st3 : tn 0 s3.heap := T.keep _ _ _ st2 fun b hb o e => k3 b o (fpP b hb) e
  generalize upd H2 P (.tbl qs') = H3 at *
  have k4 : ∀ b o, s3.heap.get? b = some o → h4.get? b = some o := fun b o e => (sb4.2 b (Nat.ne_of_lt (Heap.lt_size e))).trans (Heap.get?_push_of_some _ e)
  have ho3 : ∀ b ∈ fp, ∃ o, s3.heap.get? b = some o := fun b hb => by
    obtain ⟨o, e, _⟩ := T.obj _ _ st3 b hb
    exact ⟨o, e⟩
  have sz4 : s3.heap.objs.size < h4.objs.size := hn4.lt
  obtain ⟨oa, hoa⟩ : ∃ oa : Obj, oa = { cls := .type "generator", data := .fields #[.int s3.gens.size 0, .str "<genexpr>" (s3.toks + 1), .str (X.env.qual ++ "<genexpr>") (s3.toks + 1 + 1)] } := ⟨_, rfl⟩
  rw [← hoa]
  have ga : (h4.push oa).get? h4.objs.size = some oa := Heap.get?_push_size _ (by rw [hoa]; rfl)
  have isg : ∀ h : Heap, h.get? h4.objs.size = some oa → h.IsGen h4.objs.size s3.gens.size := fun h e => ⟨oa, _, _, e, by rw [hoa], by rw [hoa], by rw [hoa]⟩
  have hn5 : (h4.push oa).Ns s3.heap.objs.size (fun y => if y = ".0" then some (Value.ref it) else none) := hn4.keeps fun b o e => Heap.get?_push_of_some _ e
  have k5 : ∀ b o, s3.heap.get? b = some o → (h4.push oa).get? b = some o := fun b o e => Heap.get?_push_of_some _ (k4 b o e)
  have cde : ∃ gc : GenState, gc = .fresh (.compStart (.GeneratorExp elt [⟨tg, iter, [], 0⟩] scope gpos) 0 (.ref it) .none (gE X scope code s3)) := ⟨_, rfl⟩
  obtain ⟨gc, hgc⟩ := cde
  show wpAny _ _ (call (.builtin "all") [.ref h4.objs.size]) _ _ { s3 with gens := s3.gens.push (.fresh (.compStart (.GeneratorExp elt [⟨tg, iter, [], 0⟩] scope gpos) 0 (.ref it) .none (gE X scope code s3))), toks := s3.toks + 1 + 1 + 1, heap := h4.push oa }
  rw [← hgc]
  have bare5 : AllBare (s3.gens.push gc) := I3.bare.push (by rw [hgc]; rfl)
  obtain ⟨W, ⟨m0, w0⟩, turn⟩ := q3
  refine call_function_tree F.kind_all F.plain_all F.entry_all (F.args_all1 _) ?_
  unfold Builtin.«all»
  refine wpAny_bind (m := oneArg "all" _) (wpAny_pure ?_)
  refine wpAny_bind (wpAny_pyIter_gen (isg _ ga) ?_)
  refine wpAny_pure ⟨plainId_quiet F.plain_all_loop _, ?_⟩
  have IY : Inv (gblk X scope (nB X.N os fi) code s3 H3 fp) [(h4.objs.size, oa)] (sB σ os fi) H3 (({ s3 with gens := s3.gens.push gc, toks := s3.toks + 1 + 1 + 1, heap := h4.push oa } : Shared).setGen s3.gens.size .running) := by
    have J0 := gblk_inv (os := os) (code := code) (t1 := s3.toks + 1 + 1 + 1) B he I3 f3 ho3 k5 hn5 bare5
    refine (J0.pins_of fun p hp => ?_).setGen rfl
    obtain rfl := List.mem_singleton.mp hp
    refine ⟨ga, I3.hok.fresh (Nat.le_of_lt sz4), Nat.ne_of_gt sz4, fun z => ?_, fun v => by rw [hoa]; exact fun z => nomatch z⟩
    have z' : h4.objs.size ∈ frs X.stack := z
    rcases List.mem_cons.mp (I3.stkSub _ z') with e | e
    · exact absurd (Nat.lt_trans I3.lt sz4) (by rw [e]; exact Nat.lt_irrefl _)
    · exact I3.nofs (Nat.le_of_lt sz4) e
  have stat : ∀ {H' : Hp}, (∀ b ∈ fp, H' b = none) → ∀ b ∈ fp, FpOk (gblk X scope (nB X.N os fi) code s3 H3 fp) [(h4.objs.size, oa)] H' b := fun hn b hb => by
    refine ⟨hn b hb, (IY.ok.exf b hb).1, IY.ok.exfs b hb, .inl hb, (IY.ok.exf b hb).2, fun p hp => ?_⟩
    obtain rfl := List.mem_singleton.mp hp
    obtain ⟨o, e⟩ := ho3 b hb
    exact Nat.ne_of_gt (Nat.lt_trans (Heap.lt_size e) sz4)
  have lg : s3.gens.size < (s3.gens.push gc).size := by rw [Array.size_push]; omega
  refine all_gen (X := X) (Y := gblk X scope (nB X.N os fi) code s3 H3 fp) (Q := Q) (ps := [(h4.objs.size, oa)]) (pins := pins) (σ := σ) (E := X.xe) hr.hd hroom (List.mem_singleton.mpr rfl) isg
    (fun s' h' y σ' H' I' kk hb q => by
      have J := gblk_out (h' := h') I3 f3 I' kk (bare_set (g := s3.gens.size) I'.bare hb)
      exact ⟨.bl true, H', J, rfl, q⟩) (fun s' y σ' H' I' hb q => by
      have J := gblk_out (h' := s'.heap) I3 f3 I' (fun _ _ e => e) (bare_set (g := s3.gens.size) I'.bare hb)
      exact ⟨.bl false, H', J, rfl, q⟩)
    (m0 + 1) gc _ (isg _ ga) (I3.nolimit.keeps k5) (by simp) ?_
  subst hgc
  refine ⟨rfl, seg_gen0 (X := X) (Y := gblk X scope (nB X.N os fi) code s3 H3 fp) rfl rfl T (T.keep _ _ _ st3 fun b hb o e => k5 b o e) ?_⟩
  exact seg_gen (X := X) (Y := gblk X scope (nB X.N os fi) code s3 H3 fp) rfl rfl hc hco (hg _ _ _ _) (hel _ _ _ _) T stat turn (m0 + 1) m0 0 _ H3 _ _ (Nat.lt_succ_self _) (by rw [setGen_size]; exact lg) IY (T.keep _ _ _ st3 fun b hb o e => k5 b o e) (fun b hb => (f3 b hb).1) w0
end
end L2
namespace L2
open PySem PySem.Spec PyProof.Rows
def BmOf (mg : Str → Option Value) (h : Heap) : Prop := ∃ (bm : Addr) (ob : Obj), mg "__builtins__" = some (.ref bm) ∧ bm ≠ builtinsNs ∧ h.get? bm = some ob ∧ ob.cls = .type "module" ∧ ob.dict = some builtinsNs ∧ ob.data = .plain
structure OnlyT (Ts : List (Addr × Addr)) (H : Hp) : Prop where
  all : ∀ b, H b = none ∨ (∃ o xs, H b = some (.frz o (.lst xs))) ∨ (H b = some (.tbl #[]) ∧ ∃ t ∈ Ts, t.2 = b)
  tab : ∀ t ∈ Ts, H t.2 = some (.tbl #[])
theorem law_callT {P : Program} {w : World} {K : PySem.W.Frag} {mg mb : Str → Option Value} {CX : CXT} {k : Nat} {fa a : Addr} {fd : FuncData} {x : Str} {sp : Sp} {s : Shared} {vs : List Value} {ns : List Int} {Ts : List (Addr × Addr)}
    (KX : K.In s.heap) (hns : s.heap.Ns mainGlobals mg) (hb : s.heap.Ns builtinsNs mb) (hbb : ∀ x : Str, x ≠ "__name__" → mb x = bootBuiltins x) (hlim : s.heap.NoLimit) (hg : s.gens = #[]) (hT : ∀ t ∈ Ts, s.heap.TableAt t.1 t.2 #[]) (hKT : ∀ t ∈ Ts, K.lookup t.2 = none) (hbm : BmOf mg s.heap)
    (ha : s.heap.get? a = some { cls := .type "list", data := .seq vs.toArray }) (hi : IntsAre vs ns) (hl : ns.length ≤ sizeLine) (hr : Room k callerA)
    (F : ∀ base : Heap, K.In base → base.Ns mainGlobals mg → BmOf mg base → FnOk P w K mg base CX k fa fd [x] sp) (hbind : ∀ (s : Shared) (u : Value), BindsTo s fd ⟨[u], []⟩ [(x, u)])
    (hsp : ∀ H : Hp, OnlyT Ts H → SqL K H a (ns.map V.int) → sp [.ref a] H (fun v _ => v = .bl true) fun _ _ _ => False)
    (hCX : ∀ H e s', CX [] H s (fun _ _ _ => False) e s' → False) :
    codeAny (model P w) callerA (.call (.ref fa) ⟨[.ref a], []⟩) (fun r s' => r = .ok (.ret (.bool true)) ∧ OldK s.heap s'.heap ∧ s'.os = s.os ∧ AllBare s'.gens) s := by
  have rv := vals_ints hi
  have lenV := hi.length
  have aP : ∀ t ∈ Ts, t.2 ≠ a := fun t ht z => by
    have e := (hT t ht).2
    rw [z, ha] at e
    cases e
  have run : ∀ H : Hp, OnlyT Ts H → SqL K H a (ns.map V.int) → HOk P w H s.heap → (∀ b, H b ≠ none → b = a ∨ ∃ t ∈ Ts, t.2 = b) → (H a ≠ none → K.lookup a = none) →
      codeAny (model P w) callerA (.call (.ref fa) ⟨[.ref a], []⟩) (fun r s' => r = .ok (.ret (.bool true)) ∧ OldK s.heap s'.heap ∧ s'.os = s.os ∧ AllBare s'.gens) s := by
    intro H hO hS hok hA hK
    have lift : ∀ {b : Addr} {o : Obj}, s.heap.get? b = some o → H b = none → (hidT s.heap H).get? b = some o := fun e n => hidT_get e n
    have un0 : ∀ {b : Addr} {o : Obj}, s.heap.get? b = some o → (∀ its n, o.data ≠ .seq its n) → (∀ fs, o.data ≠ .fields fs) → H b = none := fun {b o} e d1 d2 => by
      cases q : H b with
      | none => rfl
      | some u =>
        rcases hA b (by rw [q]; simp) with z | ⟨t, ht, z⟩
        · subst z; rw [ha] at e; cases e; exact absurd rfl (d1 _ _)
        · subst z; rw [(hT t ht).2] at e; cases e; exact absurd rfl (d2 _)
    have ns1 : ∀ {b : Addr} {m : Str → Option Value}, s.heap.Ns b m → (hidT s.heap H).Ns b m := fun {b m} ⟨o, es, ep, e, d, r⟩ => ⟨o, es, ep, lift e (un0 e (fun _ _ z => by rw [d] at z; cases z) fun _ z => by rw [d] at z; cases z), d, r⟩
    have kb : K.In (hidT s.heap H) := fun b o e => lift (KX b o e) (by
      cases q : H b with
      | none => rfl
      | some u =>
        rcases hA b (by rw [q]; simp) with z | ⟨t, ht, z⟩
        · subst z; rw [hK (by rw [q]; simp)] at e; cases e
        · subst z; rw [hKT t ht] at e; cases e)
    have bmb : BmOf mg (hidT s.heap H) := by
      obtain ⟨bm, ob, b1, b2, b3, b4, b5, b6⟩ := hbm
      exact ⟨bm, ob, b1, b2, lift b3 (un0 b3 (fun _ _ z => by rw [b6] at z; cases z) fun _ z => by rw [b6] at z; cases z), b4, b5, b6⟩
    have hM : Mod K mg (hidT s.heap H) := ⟨kb, ns1 hns, ⟨mb, ns1 hb, hbb⟩, let ⟨mc, h1, h2⟩ := hlim; ⟨mc, ns1 h1, h2⟩⟩
    have e0 : Env0 P w K mg (hidT s.heap H) callerA [] s H := ⟨rfl, hM, fun b o e => of_hidT e, Nat.le_of_eq (hidT_size _ _), trivial, fun b hb => absurd (show b ∈ ([] : List Addr) from hb) (by simp), hok, .of_eq hg⟩
    refine codeAny_mono ((F _ kb (ns1 hns) bmb).run callerA [] s H ⟨[.ref a], []⟩ [.ref a] [.ref a] _ _ hr e0 (hbind s (.ref a)) (.cons rfl .nil) (hsp H hO hS)) fun r s' h => ?_
    cases r with
    | error e => exact (hCX H e s' h).elim
    | ok fl =>
      cases fl with
      | next => exact False.elim h
      | brk => exact False.elim h
      | cont => exact False.elim h
      | ret u =>
        obtain ⟨v, H', os, bare, un, hok', r', q⟩ := h
        have q' : v = .bl true := q
        subst q'
        obtain rfl : u = Value.bool true := r'
        refine ⟨rfl, ⟨fun b o e => ?_, fun b o e => un.there b o e (by simp)⟩, os, bare⟩
        rcases hO.all b with z | ⟨ob, xs, z⟩ | ⟨z, t, ht, rfl⟩
        · exact .inl (un.keep b o e z (by intro y; exact absurd (show b ∈ ([] : List Addr) from y) (by simp)) (by simp))
        · have z2 := un.frzs b ob _ z
          obtain ⟨e1, _⟩ := hok b _ z
          obtain ⟨e2, _⟩ := hok' b _ z2
          rw [e] at e1; cases e1
          exact .inl e2
        · obtain ⟨more, z2⟩ := un.tbls _ _ z
          have e1 : s.heap.get? t.2 = some { cls := .none, data := .fields #[] } := hok _ _ z
          have e2 : s'.heap.get? t.2 = some { cls := .none, data := .fields (#[] ++ more) } := hok' _ _ z2
          rw [e] at e1; cases e1
          exact .inr (.inl ⟨(hT t ht).isCodeTable, rfl, #[], more, rfl, e2⟩)
  have mem : ∀ b, (∃ t ∈ Ts, t.2 = b) ∨ ¬ ∃ t ∈ Ts, t.2 = b := fun b => Classical.em _
  have dc : ∀ b, Decidable (∃ t ∈ Ts, t.2 = b) := fun b => Classical.propDecidable _
  cases hk : K.lookup a with
  | some o =>
    have e := KX a o hk
    rw [ha] at e
    cases e
    refine run (fun b => if (∃ t ∈ Ts, t.2 = b) then some (.tbl #[]) else none) ⟨fun b => ?_, fun t ht => if_pos ⟨t, ht, rfl⟩⟩ (.inr ⟨_, vs.toArray, _, hk, rfl, rfl, rfl, by rw [List.size_toArray, lenV]; exact hl, by simpa using rv⟩) (fun b u z => ?_) (fun b z => ?_) fun z => ?_
    · rcases mem b with y | y
      · exact .inr (.inr ⟨if_pos y, y⟩)
      · exact .inl (if_neg y)
    · rcases mem b with y | y
      · have z' := (if_pos y).symm.trans z
        cases z'
        obtain ⟨t, ht, rfl⟩ := y
        exact (hT t ht).2
      · have z' := (if_neg y).symm.trans z
        cases z'
    · rcases mem b with y | y
      · exact .inr y
      · exact absurd (if_neg y) z
    · refine absurd (if_neg ?_) z
      rintro ⟨t, ht, e⟩
      exact aP t ht e
  | none =>
    refine run (fun b => if b = a then some (.frz { cls := .type "list", data := .seq vs.toArray } (.lst (ns.map V.int))) else if (∃ t ∈ Ts, t.2 = b) then some (.tbl #[]) else none) ⟨fun b => ?_, fun t ht => ?_⟩ (.inl (.inr ⟨{ cls := .type "list", data := .seq vs.toArray }, if_pos rfl⟩)) (fun b u z => ?_) (fun b z => ?_) fun _ => hk
    · by_cases hb : b = a
      · exact .inr (.inl ⟨_, _, if_pos hb⟩)
      · rcases mem b with y | y
        · exact .inr (.inr ⟨(if_neg hb).trans (if_pos y), y⟩)
        · exact .inl ((if_neg hb).trans (if_neg y))
    · exact (if_neg (aP t ht)).trans (if_pos ⟨t, ht, rfl⟩)
    · by_cases hb : b = a
      · have z' := (if_pos hb).symm.trans z
        cases z'
        subst hb
        exact ⟨ha, by rw [List.length_map]; exact hl, vs, _, rv, ha⟩
      · rcases mem b with y | y
        · have z' := ((if_neg hb).trans (if_pos y)).symm.trans z
          cases z'
          obtain ⟨t, ht, rfl⟩ := y
          exact (hT t ht).2
        · have z' := ((if_neg hb).trans (if_neg y)).symm.trans z
          cases z'
    · by_cases hb : b = a
      · exact .inl hb
      · rcases mem b with y | y
        · exact .inr y
        · exact absurd ((if_neg hb).trans (if_neg y)) z
theorem walk_ofT {l : PySem.W.OpenLaw} {n k : Nat} {q : Program} {loose : List Str} {XP : (Str → Option Value) → Heap → Prop} {YP : World → Heap → Prop} {d : DefRec} {K : Params → PySem.W.Frag} {CX : World → CXT} {sp : World → Sp} {x : Str} {Ts : World → List (Addr × Addr)}
    (hn : l.most = some n) (hn2 : n ≤ sizeLine) (hdf : d.params.defaults = []) (hr : Room k callerA)
    (hY : ∀ (w : World) (h : Heap), YP w h → (K w.params).In h)
    (hT : ∀ (w : World) (h : Heap) (lo : List Str) (mean : ExcName → Option Value) (mg mb : Str → Option Value), (K w.params).In h → Top q lo mean mg mb h → ∀ t ∈ Ts w, h.TableAt t.1 t.2 #[]) (hKT : ∀ (w : World), ∀ t ∈ Ts w, (K w.params).lookup t.2 = none)
    (F : ∀ (w : World) (mg : Str → Option Value) (fa : Addr) (h : Heap), (K w.params).In h → h.Ns mainGlobals mg → mg d.name = some (.ref fa) →
      ∃ fd : FuncData, (∀ (s : Shared) (u : Value), BindsTo s fd ⟨[u], []⟩ [(x, u)]) ∧
        ∀ base : Heap, (K w.params).In base → base.Ns mainGlobals mg → BmOf mg base → FnOk l.prog w (K w.params) mg base (CX w) k fa fd [x] (sp w))
    (hsp : ∀ (w : World) (H : Hp) (a : Addr) (ns : List Int), ns.length ≤ n → OnlyT (Ts w) H → SqL (K w.params) H a (ns.map V.int) → sp w [.ref a] H (fun v _ => v = .bl true) fun _ _ _ => False)
    (hCX : ∀ (w : World) (H : Hp) (s : Shared) (e : Value) (s' : Shared), CX w [] H s (fun _ _ _ => False) e s' → False) :
    PySem.W.WalkO q loose XP YP l.row.toRowW d [] (fun f vs => PySem.call f vs) := by
  refine Att.attach_call hn hdf fun w s₀ s₁ mg mb fa o pm cd doc a vs ns G Y ho hd hcd hmg hobj hints hlen hg => ?_
  have KX := hY w _ Y
  obtain ⟨fd, hb, hF⟩ := F w mg fa _ KX G.T.g hmg
  exact law_callT KX G.T.g G.T.b G.T.builtins G.T.nolimit hg (hT w _ _ _ _ _ KX G.T) (hKT w) G.T.bmain hobj hints (Nat.le_trans hlen hn2) hr hF hb (fun H hO hS => hsp w H a ns hlen hO hS) fun H e s' => hCX w H s₁ e s'
end L2
namespace L2
open PySem PySem.Spec PyProof.Rows
def Its (x : Str) : It := ⟨fun i _ => i < x.cps.size, fun i H v H' => H' = H ∧ ∃ c, x.cps[i]? = some c ∧ v = .str ⟨#[c]⟩, fun i _ => i = x.cps.size⟩
theorem turn_str {P : Program} {w : World} {K : PySem.W.Frag} {tg : Expr} {it : Addr} {x : Str} {t : Tok} {ty : String} (hn : ["enumerate", "zip", "dict_itemiterator", "dict_reverseitemiterator", "odict_iterator", "itertools.zip_longest", "itertools.pairwise"].contains ty = false)
    (W : ∀ A' : Around, A'.handled = none → Walks P w A' it [it] [it] x.cps.size (SignAt x) (fun i h => h.IsStrIter it ty x t i))
    (hself : ∀ (A : Around) (i : Nat) (s : Shared) (Q : Value → Shared → Prop) (E : Value → Shared → Prop), s.heap.IsStrIter it ty x t i → Q (.ref it) s → wpAny (model P w) A (pyIter (.ref it)) Q E s) : Turn P w K tg (Its x) [it] it (fun i h => h.IsStrIter it ty x t i) where
  mem := by simp
  obj := fun i h st b hb => by
    have e : b = it := by simpa using hb
    subst e
    obtain ⟨o, ho, _, d⟩ := st
    exact ⟨o, ho, fun v z => by rw [d] at z; cases z⟩
  keep := fun i h h' st k => by
    obtain ⟨o, ho, r⟩ := st
    exact ⟨o, k it (by simp) o ho, r⟩
  item := by
    intro X hP hw hK hc i pins s σ H E I hf st hg
    subst hP hw hK
    obtain ⟨f0, f1, f2, f3, f4, f5⟩ := hf it (by simp)
    refine (W X.A (I.ok.hd hc)).item i s _ _ hg st fun v h' tk hv st' kk => ?_
    obtain ⟨c, u, hcu, rfl⟩ := hv
    have I1 : Inv X pins σ H { s with heap := h', toks := tk } := I.turned (fun b o hb e => kk b o (by simpa using hb) e) f0 f1 f3 f4 f5
    obtain ⟨o, ho, hcl, d⟩ := id st'
    exact ⟨_, rfl, go_of (s := { s with heap := h', toks := tk }) ho hcl d hn ⟨.str ⟨#[c]⟩, H, I1, ⟨u, rfl⟩, ⟨rfl, c, hcu, rfl⟩, st', fun b hb => (hf b hb).1⟩⟩
  done := by
    intro X hP hw hK hc i pins s σ H E I hf st hg
    subst hP hw hK
    obtain ⟨f0, f1, f2, f3, f4, f5⟩ := hf it (by simp)
    have hi : i = x.cps.size := hg
    subst hi
    exact (W X.A (I.ok.hd hc)).done s _ _ st fun h' tk kk => ⟨rfl, I.turned (fun b o hb e => kk b o (by simpa using hb) e) f0 f1 f3 f4 f5⟩
  self := fun A i s Q E st h => hself A i s Q E st h
def iStr (tl : TE) : TI := fun σ H R => tl σ H fun v H1 => ∃ x, v = .str x ∧ R (Its x) H1
section
variable {X : Cx} {tg : Expr}
theorem pi_str {l : Expr} {tl : TE} (hl : PE X l tl) : PI X tg l (iStr tl) := by
  intro pins s σ H R I h
  refine thn (hl pins s σ H _ I h) fun v s1 ⟨y, H1, I1, r1, x, e, q⟩ => ?_
  subst e
  obtain ⟨t, rfl⟩ := r1
  have fin : ∀ b ∈ [s1.heap.objs.size], FpOk X pins H1 b := fun b hb => by
    have e : b = s1.heap.objs.size := by simpa using hb
    subst e
    exact I1.fpOk (Nat.le_refl _) (I1.hok.fresh (Nat.le_refl _))
  cases ha : x.cps.all (· < 128)
  · refine wpAny_pyIter_wide ha ?_
    exact ⟨s1.heap.objs.size, [s1.heap.objs.size], _, _, H1, rfl, I1.kept (t' := s1.toks) fun b o e => Heap.get?_push_of_some _ e, turn_str (by decide) (fun A' hA => Walks.strWide hA _ x t) (fun A i s Q E st h => wpAny_pyIter_striter_wide st h), ⟨_, Heap.get?_push_size _ rfl, rfl, rfl⟩, fin, q⟩
  · refine wpAny_pyIter_ascii ha ?_
    exact ⟨s1.heap.objs.size, [s1.heap.objs.size], _, _, H1, rfl, I1.kept (t' := s1.toks) fun b o e => Heap.get?_push_of_some _ e, turn_str (by decide) (fun A' hA => Walks.strAscii hA _ x t) (fun A i s Q E st h => wpAny_pyIter_striter_ascii st h), ⟨_, Heap.get?_push_size _ rfl, rfl, rfl⟩, fin, q⟩
def rEqL (K : PySem.W.Frag) (neg : Bool) : R2 := fun x y H Q => ∃ a b xs ys, x = .ref a ∧ y = .ref b ∧ SqL K H a xs ∧ SqL K H b ys ∧ xs.all flatV = true ∧ ys.all flatV = true ∧ Q (.bl (if neg then !eqVs xs ys else eqVs xs ys)) H
theorem eqVs_lens {xs ys : List V} (h : xs.length ≠ ys.length) : eqVs xs ys = false := by
  rw [← eqVs_all]
  have : (xs.length == ys.length) = false := by simpa using h
  rw [this, Bool.and_false]
theorem op_eqL (hu : X.A.units < cLine) : OpR X (compareOp .Eq) (rEqL X.K false) := by
  intro pins s σ H x y v u Q I rx ry h
  obtain ⟨a, b, xs, ys, rfl, rfl, ha, hb, f1, f2, q⟩ := h
  cases rx
  cases ry
  obtain ⟨its, r1, p1, _⟩ := I.list ha
  obtain ⟨its2, r2, p2, _⟩ := I.list hb
  by_cases hz : xs.length = ys.length
  · have hz2 : its.toArray.size = its2.toArray.size := by rw [List.size_toArray, List.size_toArray, ← r1.length, ← r2.length]; exact hz
    refine SeqAt.eq_listAt p1.isList p2.isList hz2 hu (items_eq r1 r2 f1 f2) ⟨.bl _, H, I, rfl, ?_⟩
    have e : (List.range its.toArray.size).all (eAt xs ys) = eqVs xs ys := by
      rw [← eqVs_all, List.size_toArray, ← r1.length, ← hz, Nat.min_self]; simp
    rw [e]
    exact q
  · have hz2 : (its.toArray.size != its2.toArray.size) = true := by
      rw [List.size_toArray, List.size_toArray, ← r1.length, ← r2.length]; simpa using hz
    have q' : Q (.bl false) H := by rw [eqVs_lens hz] at q; exact q
    exact SeqAt.eq_list_lengthsAt p1.isList p2.isList hz2 hu ⟨.bl _, H, I, rfl, q'⟩
theorem op_neV (hu : X.A.units < cLine) : OpR X (compareOp .NotEq) (rEqL X.K true) := by
  intro pins s σ H x y v u Q I rx ry h
  obtain ⟨a, b, xs, ys, rfl, rfl, ha, hb, f1, f2, q⟩ := h
  cases rx
  cases ry
  obtain ⟨its, r1, p1, _⟩ := I.list ha
  obtain ⟨its2, r2, p2, _⟩ := I.list hb
  by_cases hz : xs.length = ys.length
  · have hz2 : its.toArray.size = its2.toArray.size := by rw [List.size_toArray, List.size_toArray, ← r1.length, ← r2.length]; exact hz
    refine SeqAt.RcNeAt.lists p1.isList p2.isList hz2 hu (items_eq r1 r2 f1 f2) _ _ _ _ ⟨.bl _, H, I, rfl, ?_⟩
    have e : (List.range its.toArray.size).all (eAt xs ys) = eqVs xs ys := by
      rw [← eqVs_all, List.size_toArray, ← r1.length, ← hz, Nat.min_self]; simp
    rw [e]
    exact q
  · have hz2 : (its.toArray.size != its2.toArray.size) = true := by
      rw [List.size_toArray, List.size_toArray, ← r1.length, ← r2.length]; simpa using hz
    have q' : Q (.bl true) H := by rw [eqVs_lens hz] at q; exact q
    exact SeqAt.RcNeAt.lists_lengths p1.isList p2.isList hz2 hu _ _ _ _ ⟨.bl _, H, I, rfl, q'⟩
end
end L2
namespace L2
open PySem PySem.Spec PyProof.Rows
def cdOf (K : PySem.W.Frag) (n : Str) : Addr := match PySem.W.nsIn K mainGlobals n with
  | some (some (.ref f)) => (match K.lookup f with
    | some ⟨_, _, .func fd, _⟩ => (match fd.code with
      | .ref c => c
      | _ => 0)
    | _ => 0)
  | _ => 0
def tbOf (K : PySem.W.Frag) (n : Str) : Addr := match K.lookup (cdOf K n) with
  | some ⟨_, _, .fields vs, _⟩ => (match (vs[11]? : Option Value) with
    | some (.ref T) => T
    | _ => 0)
  | _ => 0
structure CodeN (K : PySem.W.Frag) (n : Str) (f c T : Addr) (fd : FuncData) : Prop where
  a : PySem.W.nsIn K mainGlobals n = some (some (.ref f))
  l : ∃ oc od sl, K.lookup f = some ⟨oc, od, .func fd, sl⟩
  hc : fd.code = .ref c
  lc : ∃ (od : Option Addr) (vs : Array Value) (sl : Array (Option Value)) (file : Str) (tf : Tok) (flags : Int) (tk : Tok) (inF : Bool) (text : Int) (tt : Tok), K.lookup c = some ⟨.type "code", od, .fields vs, sl⟩ ∧ vs[11]? = some (.ref T) ∧ vs.getD 18 .none = .str file tf ∧
    vs.getD 7 .none = .int flags tk ∧ vs.getD 9 .none = .bool inF ∧ vs.getD 10 .none = .int text tt
  ne : c ≠ T
section
variable {K : PySem.W.Frag} {n : Str} {f c T : Addr} {fd : FuncData}
theorem CodeN.cd (C : CodeN K n f c T fd) : cdOf K n = c := by
  obtain ⟨oc, od, sl, l⟩ := C.l
  unfold cdOf
  rw [C.a]
  simp only [l, C.hc]
theorem CodeN.tb (C : CodeN K n f c T fd) : tbOf K n = T := by
  obtain ⟨od, vs, sl, _, _, _, _, _, _, _, l, h11, _⟩ := C.lc
  unfold tbOf
  rw [C.cd]
  simp only [l, h11]
theorem CodeN.ck (C : CodeN K n f c T fd) : CodeK K c T := by
  obtain ⟨od, vs, sl, file, tf, flags, tk, inF, text, tt, l, h11, r⟩ := C.lc
  exact ⟨⟨_, vs, file, tf, flags, tk, inF, text, tt, l, rfl, rfl, h11, r⟩, C.ne⟩
theorem CodeN.tab {q : Program} {lo : List Str} {mean : ExcName → Option Value} {mg mb : Str → Option Value} {h : Heap} {d : DefRec} (C : CodeN K n f c T fd) (KX : K.In h) (Tp : Top q lo mean mg mb h) (hf : (recsOf q).find? (fun e => e.name == n) = some d) : h.TableAt (cdOf K n) (tbOf K n) #[] := by
  rw [C.cd, C.tb]
  have hn : d.name = n := beq_iff_eq.mp (List.find?_some (p := fun e : DefRec => e.name == n) hf)
  obtain ⟨a', o', fd', c', P', h1, h2, h3, h4, h5, h6⟩ := Tp.tab d (List.mem_of_find?_eq_some hf)
  have hm := PySem.W.mg_of KX Tp.g C.a
  rw [hn, hm] at h1; cases h1
  obtain ⟨oc, od, sl, l⟩ := C.l
  rw [KX _ _ l] at h2; cases h2
  cases h3
  rw [C.hc] at h4; cases h4
  obtain ⟨od2, vs, sl2, _, _, _, _, _, _, _, l2, h11, _⟩ := C.lc
  obtain ⟨⟨o3, vs3, e1, _, e2, e3⟩, _⟩ := id h6
  rw [KX _ _ l2] at e1; cases e1
  cases e2
  rw [h11] at e3; cases e3
  exact h6
theorem codeN_mk {oc : Value} {od odc : Option Addr} {sl slc : Array (Option Value)} {vs : Array Value} {file : Str} {tf : Tok} {flags : Int} {tk : Tok} {inF : Bool} {text : Int} {tt : Tok} (a : PySem.W.nsIn K mainGlobals n = some (some (.ref f))) (l : K.lookup f = some ⟨oc, od, .func fd, sl⟩) (hc : fd.code = .ref c)
    (lc : K.lookup c = some ⟨.type "code", odc, .fields vs, slc⟩) (h11 : vs[11]? = some (.ref T)) (h18 : vs.getD 18 .none = .str file tf) (h7 : vs.getD 7 .none = .int flags tk) (h9 : vs.getD 9 .none = .bool inF) (h10 : vs.getD 10 .none = .int text tt) (ne : c ≠ T) : CodeN K n f c T fd :=
  ⟨a, ⟨oc, od, sl, l⟩, hc, ⟨odc, vs, slc, file, tf, flags, tk, inF, text, tt, lc, h11, h18, h7, h9, h10⟩, ne⟩
end
end L2
namespace L2
open PySem PySem.Spec PyProof.Rows
abbrev TB := St → Hp → (St → Hp → Prop) → Prop
abbrev Fi := PySem.Fin
def PB (Y : Cx) (body : Sem Fi → Sem Fi) (t : TB) : Prop :=
  ∀ (pins : List (Addr × Obj)) (s : Shared) (σ : St) (H : Hp) (N : St → Hp → Prop) (k : Sem Fi) (R : Fi → Shared → Prop), Inv Y pins σ H s → t σ H N →
    (∀ σ' H' s', Inv Y pins σ' H' s' → N σ' H' → wpAny (model Y.prog Y.w) Y.A k R F0 s') → wpAny (model Y.prog Y.w) Y.A (body k) R F0 s
def turnOf (tg : Expr) (p : Pos) (ifs : List Expr) (it : Value) (env : Env) (body : Sem Fi → Sem Fi) (k : Sem Fi) : Sem Fi := do
  standAt p
  match ← pyNext it with
  | none => pure (.done .next)
  | some v =>
    letOwnedTupleGo tg it v
    assign tg env v
    let mut ok := true
    for c in ifs do
      if ok then ok ← isTrue c env (eval c env)
    if ok then body k else k
def LoopRule (P : Program) (w : World) (A : Around) (e : Expr) (d : Nat) : Prop := ∀ (it acc : Value) (env : Env) (R : Result → Shared → Prop) (I : Nat → Shared → Prop),
  (∀ n s, I n s → wpAny (model P w) A (compTurn e d it acc env) (fun fin s' => match fin with | .done f => R (.ok f) s' | .again c' => c' = .compLoop e d it acc env ∧ ∃ m, m < n ∧ I m s') F0 s) →
  ∀ n s, I n s → codeAny (model P w) A (.compLoop e d it acc env) R s
def StartRule (P : Program) (w : World) (A : Around) (e : Expr) (d : Nat) : Prop := ∀ (it acc : Value) (env : Env) (R : Result → Shared → Prop) (s : Shared),
  codeAny (model P w) A (.compLoop e d it acc env) R s → wpAny (model P w) A (pyIter it) (fun it' s' => codeAny (model P w) A (.compLoop e d it' acc env) R s') F0 s → codeAny (model P w) A (.compStart e d it acc env) R s
section
variable {P : Program} {w : World} {A : Around} {elt kx vx : Expr} {gens : List Comprehension} {scope : Scope} {pos : Pos} {d : Nat} {g : Comprehension}
theorem loop_list : LoopRule P w A (.ListComp elt gens scope pos) d := by
  intro it acc env R I turn n s h
  refine codeAny_loop rfl I (fun n s hI => ?_) n h
  show wpAny _ A ((compTurn (.ListComp elt gens scope pos) d it acc env).onRaise (fun x => do noteFrame x env; theTreesLotGoes x)) _ _ s
  exact wpAny_noted (of_F0 (turn n s hI) fun _ _ z => z)
theorem loop_set : LoopRule P w A (.SetComp elt gens scope pos) d := by
  intro it acc env R I turn n s h
  refine codeAny_loop rfl I (fun n s hI => ?_) n h
  show wpAny _ A ((compTurn (.SetComp elt gens scope pos) d it acc env).onRaise (fun x => do noteFrame x env; theTreesLotGoes x)) _ _ s
  exact wpAny_noted (of_F0 (turn n s hI) fun _ _ z => z)
theorem loop_dict : LoopRule P w A (.DictComp kx vx gens scope pos) d := by
  intro it acc env R I turn n s h
  refine codeAny_loop rfl I (fun n s hI => ?_) n h
  show wpAny _ A ((compTurn (.DictComp kx vx gens scope pos) d it acc env).onRaise (fun x => do noteFrame x env; theTreesLotGoes x)) _ _ s
  exact wpAny_noted (of_F0 (turn n s hI) fun _ _ z => z)
theorem start_any {e : Expr} {it acc : Value} {env : Env} {R : Result → Shared → Prop} {s : Shared} {E : Value → Shared → Prop} (hg : (clausesOf e)[d]? = some g) (ha : g.is_async = 0)
    (h0 : codeAny (model P w) A (.compLoop e d it acc env) R s) (h : wpAny (model P w) A (pyIter it) (fun it' s' => codeAny (model P w) A (.compLoop e d it' acc env) R s') F0 s) :
    wpAny (model P w) A (compStart e d it acc env) (fun fin s' => match fin with | .done f => R (.ok f) s' | .again c' => c'.quiet = true ∧ codeAny (model P w) A c' R s') E s := by
  unfold compStart
  rw [hg]
  simp only [Option.elim, ha]
  show wpAny _ _ (ask >>= _) _ _ s
  refine wpAny_bind (wpAny_askSetting (wpAny_ite ?_))
  split
  · first
      | exact wpAny_bind (wpAny_pure (wpAny_pure (And.intro rfl h0)))
      | exact wpAny_pure (And.intro rfl h0)
  · refine wpAny_bind (wpAny_rule ?_)
    exact wpAny_bind (wpAny_standAt (wpAny_bind (of_F0 h fun it' s' h' => wpAny_pure (And.intro rfl h'))))
theorem start_list (hg : gens[d]? = some g) (ha : g.is_async = 0) : StartRule P w A (.ListComp elt gens scope pos) d := by
  intro it acc env R s h0 h
  refine codeAny_of_tree ?_
  show wpAny _ _ ((compStart (.ListComp elt gens scope pos) d it acc env).onRaise (fun x => do noteFrame x env; standAt theWindowsPlace)) _ _ s
  exact wpAny_notedAt (start_any (e := .ListComp elt gens scope pos) hg ha h0 h)
theorem start_set (hg : gens[d]? = some g) (ha : g.is_async = 0) : StartRule P w A (.SetComp elt gens scope pos) d := by
  intro it acc env R s h0 h
  refine codeAny_of_tree ?_
  show wpAny _ _ ((compStart (.SetComp elt gens scope pos) d it acc env).onRaise (fun x => do noteFrame x env; standAt theWindowsPlace)) _ _ s
  exact wpAny_notedAt (start_any (e := .SetComp elt gens scope pos) hg ha h0 h)
theorem start_dict (hg : gens[d]? = some g) (ha : g.is_async = 0) : StartRule P w A (.DictComp kx vx gens scope pos) d := by
  intro it acc env R s h0 h
  refine codeAny_of_tree ?_
  show wpAny _ _ ((compStart (.DictComp kx vx gens scope pos) d it acc env).onRaise (fun x => do noteFrame x env; standAt theWindowsPlace)) _ _ s
  exact wpAny_notedAt (start_any (e := .DictComp kx vx gens scope pos) hg ha h0 h)
end
def LR (J : It) (g : TG) (tt : TT) (tb : TB) (σ : St) (H : Hp) (N : St → Hp → Prop) : Prop := ∃ W : Nat → Nat → St → Hp → Prop, (∃ m, W 0 m σ H) ∧ ∀ i m σ2 H2, W i m σ2 H2 →
  (J.stop i H2 ∧ N σ2 H2) ∨ (J.go i H2 ∧ ∀ x H3, J.yld i H2 x H3 → g x σ2 H3 fun σ4 H4 => tt σ4 H4 fun ok H5 =>
    if ok = true then tb σ4 H5 (fun σ6 H6 => ∃ m', m' < m ∧ W (i + 1) m' σ6 H6) else ∃ m', m' < m ∧ W (i + 1) m' σ4 H5)
section
variable {Y : Cx} {e tg iter : Expr} {ifs : List Expr} {d : Nat} {p : Pos} {body : Sem Fi → Sem Fi} {it : Addr} {acc : Value} {J : It} {g : TG} {tt : TT} {tb : TB} {wi : TI} {fp : List Addr} {tn : Nat → Heap → Prop} {pins : List (Addr × Obj)} {R : Result → Shared → Prop} {N : St → Hp → Prop} {s : Shared} {σ : St} {H : Hp}
theorem loop_any (hL : LoopRule Y.prog Y.w Y.A e d) (hc : Y.calm = true) (hx : Y.xe = F0) (hT : compTurn e d (.ref it) acc Y.env = turnOf tg p ifs (.ref it) Y.env body (again (.compLoop e d (.ref it) acc Y.env)))
    (hg : PG Y tg g) (ht : PTs Y ifs tt) (hb : PB Y body tb) (T : Turn Y.prog Y.w Y.K tg J fp it tn) (stat : ∀ {H' : Hp}, (∀ b ∈ fp, H' b = none) → ∀ b ∈ fp, FpOk Y pins H' b)
    (I : Inv Y pins σ H s) (st : tn 0 s.heap) (fr : ∀ b ∈ fp, H b = none) (q : LR J g tt tb σ H N) (hR : ∀ σ' H' s', Inv Y pins σ' H' s' → N σ' H' → R (.ok .next) s') :
    codeAny (model Y.prog Y.w) Y.A (.compLoop e d (.ref it) acc Y.env) R s := by
  obtain ⟨W, ⟨m0, w0⟩, turn⟩ := q
  refine hL _ _ _ _ (fun n s' => ∃ i σ' H', Inv Y pins σ' H' s' ∧ tn i s'.heap ∧ (∀ b ∈ fp, H' b = none) ∧ W i n σ' H') ?_ m0 s ⟨0, σ, H, I, st, fr, w0⟩
  rintro n s5 ⟨i, σ5, H5, I5, t5, fr5, w5⟩
  rw [hT]
  unfold turnOf
  refine wpAny_bind (wpAny_standAt (wpAny_bind ?_))
  rcases turn i n σ5 H5 w5 with ⟨stop, qn⟩ | ⟨go, step⟩
  · refine of_F0 (T.done Y rfl rfl rfl hc i pins s5 σ5 H5 F0 I5 (stat fr5) t5 stop) fun r s6 ⟨hr, I6⟩ => ?_
    subst hr
    exact wpAny_pure (hR _ _ _ I6 qn)
  · refine of_F0 (T.item Y rfl rfl rfl hc i pins s5 σ5 H5 F0 I5 (stat fr5) t5 go) fun r s6 ⟨u, hr, h6⟩ => ?_
    subst hr
    refine wpAny_bind (of_F0 h6 fun _ s7 ⟨x, H7, I7, r7, y7, t7, fr7⟩ => ?_)
    have I7' := I7.pinned (stat fr7) (T.obj _ _ t7)
    have a1 := hg _ s7 σ5 H7 x u _ I7' r7 (step x H7 y7)
    rw [hx] at a1
    refine wpAny_bind (of_F0 a1 fun _ s8 ⟨σ8, H8, I8, q8⟩ => ?_)
    have a2 := ht _ s8 σ8 H8 _ I8 q8
    rw [hx] at a2
    refine wpAny_bind (of_F0 a2 fun ok s9 ⟨H9, I9, q9⟩ => ?_)
    have again : ∀ {s' : Shared} {σ' : St} {H' : Hp} {m : Nat}, Inv Y (pins ++ pinsAt fp s7.heap) σ' H' s' → W (i + 1) m σ' H' →
        ∃ i σ' H', Inv Y pins σ' H' s' ∧ tn i s'.heap ∧ (∀ b ∈ fp, H' b = none) ∧ W i m σ' H' := fun {s' σ' H' m} J w => by
      refine ⟨i + 1, σ', H', J.unpinned, T.keep _ _ _ t7 fun b hb o e => (J.pin (b, o) (List.mem_append_right _ (List.mem_append_right _ (mem_pinsAt hb e)))).1, fun b hb => ?_, w⟩
      obtain ⟨o, e, d⟩ := T.obj _ _ t7 b hb
      exact (J.pin (b, o) (List.mem_append_right _ (List.mem_append_right _ (mem_pinsAt hb e)))).2.1
    cases ok with
    | false =>
      obtain ⟨m', lt, w9⟩ := (show ∃ m', m' < n ∧ W (i + 1) m' σ8 H9 from q9)
      exact wpAny_pure ⟨rfl, m', lt, again I9 w9⟩
    | true =>
      exact hb _ s9 σ8 H9 _ _ _ I9 q9 fun σA HA sA IA ⟨m', lt, wA⟩ => wpAny_pure ⟨rfl, m', lt, again IA wA⟩
def inBody (e : Expr) (d : Nat) (iter : Expr) (acc : Value) (env : Env) (k : Sem Fi) : Sem Fi := do
  let x ← eval iter env
  standAt iter.pos
  let x ← foldedSetIterable iter env x
  let _ ← runOwn (.compStart e d (← holding [x] (pyIter x)) acc env) env
  k
def tIn (wi : TI) (g : TG) (tt : TT) (tb : TB) : TB := fun σ H N => wi σ H fun J H1 => LR J g tt tb σ H1 N
theorem pb_in (hL : LoopRule Y.prog Y.w Y.A e d) (hS : StartRule Y.prog Y.w Y.A e d) (hc : Y.calm = true) (hx : Y.xe = F0) (hT : ∀ it : Addr, compTurn e d (.ref it) acc Y.env = turnOf tg p ifs (.ref it) Y.env body (again (.compLoop e d (.ref it) acc Y.env)))
    (hi : PI Y tg iter wi) (hg : PG Y tg g) (ht : PTs Y ifs tt) (hb : PB Y body tb) (hs : ∀ x, foldedSetIterable iter Y.env x = pure x := by intro _; rfl) : PB Y (inBody e d iter acc Y.env) (tIn wi g tt tb) := by
  intro pins s σ H N k R I h hk
  unfold inBody
  have a1 := hi pins s σ H _ I h
  rw [hx] at a1
  refine wpAny_bind (of_F0 a1 fun v s1 h1 => wpAny_bind (wpAny_standAt (wpAny_bind (wpAny_of_eq (hs v) (wpAny_bind (wpAny_holding (of_F0 h1 fun itv s2 h2 => ?_)))))))
  obtain ⟨it, fp, tn, J, H2, rfl, I2, T, st2, f2, q⟩ := h2
  refine wpAny_bind (wpAny_runOwn ?_)
  have lp : codeAny (model Y.prog Y.w) Y.A (.compLoop e d (.ref it) acc Y.env) (fun r s' => match r with | .ok f => wpAny (model Y.prog Y.w) Y.A k R F0 s' | .error e => cameBackBy (model Y.prog Y.w) Y.A Y.env F0 e s') s2 :=
    loop_any hL hc hx (hT it) hg ht hb T (fun hn b hb => ⟨hn b hb, (f2 b hb).2⟩) I2 st2 (fun b hb => (f2 b hb).1) q fun σ' H' s' I' n' => hk σ' H' s' I' n'
  exact hS _ _ _ _ _ lp (T.self _ 0 _ _ _ st2 lp)
def listBody (elt : Expr) (acc : Value) (env : Env) (k : Sem Fi) : Sem Fi := (do let _ ← call (.builtin "list.append") [acc, ← eval elt env]) >>= fun _ => k
def tEmL (D : Addr) (te : TE) : TB := fun σ H N => te σ H fun v H6 => ∃ xs, H6 D = some (.lst xs) ∧ xs.length < sizeLine ∧ N σ (upd H6 D (.lst (xs ++ [v])))
theorem pb_list {elt : Expr} {te : TE} {D : Addr} (hx : Y.xe = F0) (hel : PE Y elt te) : PB Y (listBody elt (.ref D) Y.env) (tEmL D te) := by
  intro pins s σ H N k R I h hk
  have a1 := hel pins s σ H _ I h
  rw [hx] at a1
  refine wpAny_bind (wpAny_bind (of_F0 a1 fun y sA ⟨v, HA, IA, rA, xs, hxs, hz, wA⟩ => wpAny_bind ?_))
  have a2 := mt_append pins sA σ HA (.ref D) [v] (.ref D) [y] (fun _ H' => N σ H') IA rfl (.cons rA .nil) ⟨D, xs, v, rfl, rfl, hxs, hz, wA⟩
  rw [hx] at a2
  exact of_F0 a2 fun _ sB' ⟨_, HB, IB, _, wB⟩ => wpAny_pure (hk σ HB sB' IB wB)
end
def NewRule (X : Cx) (mk : Sem Value) (o0 : Addr → HO) : Prop := ∀ (pins : List (Addr × Obj)) (s : Shared) (σ : St) (H : Hp) (E : Value → Shared → Prop) (Q : Value → Shared → Prop), Inv X pins σ H s →
  (∀ s3 : Shared, (∀ b o, s.heap.get? b = some o → s3.heap.get? b = some o) → Inv X pins σ (upd H s.heap.objs.size (o0 s.heap.objs.size)) s3 → Q (.ref s.heap.objs.size) s3) → wpAny (model X.prog X.w) X.A mk Q E s
theorem new_list {X : Cx} : NewRule X (newList []) (fun _ => .lst []) := by
  intro pins s σ H E Q I h
  refine wpAny_newObj_type ?_
  exact h _ (fun b o e => Heap.get?_push_of_some _ e) (I.laid (t' := s.toks) (fun b u e => Heap.get?_push_of_some _ e) (Nat.le_refl _) ⟨Nat.zero_le _, [], 0, .nil, Heap.get?_push_size _ rfl⟩)
section
variable {X : Cx} {e tg iter : Expr} {ifs : List Expr} {scope esc : Scope} {pos : Pos} {N os : List Str} {fi : List Nat} {wi : TI} {g : TG} {tt : TT} {tb : Addr → TB} {body : Addr → Env → Sem Fi → Sem Fi} {o0 : Addr → HO} {mk : Sem Value} {p : Pos}
theorem comp_coreG {pins : List (Addr × Obj)} {σ : St} {H : Hp} {s : Shared} {E : Value → Shared → Prop} {it : Addr} {fp : List Addr} {tn : Nat → Heap → Prop} {J : It} {Q : VK} {RR : Value → Addr → Result → Shared → Prop} (hc : X.calm = true) (hN : X.N = N) (he : X.env.scope = esc) (B : BlkOk esc scope N fi)
    (hL : LoopRule X.prog X.w X.A e 0) (hS : StartRule X.prog X.w X.A e 0) (hT : ∀ (it D : Addr) (env : Env), compTurn e 0 (.ref it) (.ref D) env = turnOf tg p ifs (.ref it) env (body D env) (again (.compLoop e 0 (.ref it) (.ref D) env)))
    (hmk : NewRule X mk o0)
    (hg : ∀ s H fp, PG (blk X scope (nB N os fi) s H fp) tg g) (ht : ∀ s H fp, PTs (blk X scope (nB N os fi) s H fp) ifs tt) (hb : ∀ D s H fp, PB (blk X scope (nB N os fi) s H fp) (body D (blk X scope (nB N os fi) s H fp).env) (tb D))
    (I : Inv X pins σ H s) (T : Turn X.prog X.w X.K tg J fp it tn) (st : tn 0 s.heap) (hf : ∀ b ∈ fp, FpOk X pins H b) (q : ∀ l, H l = none → LR J g tt (tb l) (sB σ os fi) (upd H l (o0 l)) fun _ H' => Q (.ref l) H')
    (hRR : ∀ D s3 H3 s' σ' H', Inv X pins σ H3 s3 → (∀ b ∈ fp, FpOk X pins H3 b) → Inv (blk X scope (nB N os fi) s3 H3 fp) [] σ' H' s' → Q (.ref D) H' → RR (.ref D) s3.heap.objs.size (.ok .next) s') :
    wpAny (model X.prog X.w) X.A mk (fun acc s3 => wpAny (model X.prog X.w) X.A (newFunctionEnv scope X.env.globals (clOf X.env scope.names []) [] X.env.qual none .none (some X.env)) (fun cenv s4 =>
      codeAny (model X.prog X.w) X.A (.compStart e 0 (.ref it) acc { cenv with scope := relabel scope X.env }) (RR acc cenv.locals) s4) E s3) E s := by
  subst hN
  have fresh : H s.heap.objs.size = none := I.hok.fresh (Nat.le_refl _)
  have old : ∀ b ∈ fp, ∃ o, s.heap.get? b = some o := fun b hb => by
    obtain ⟨o, e, _⟩ := T.obj _ _ st b hb
    exact ⟨o, e⟩
  refine hmk pins s σ H E _ I fun s3 k3 I3 => ?_
  have hf3 : ∀ b ∈ fp, FpOk X pins (upd H s.heap.objs.size (o0 s.heap.objs.size)) b := fun b hb => by
    obtain ⟨o, e⟩ := old b hb
    exact ⟨by rw [upd_ne (Nat.ne_of_lt (Heap.lt_size e))]; exact (hf b hb).1, (hf b hb).2⟩
  have st3 : tn 0 s3.heap := T.keep _ _ _ st fun b hb o e => k3 b o e
  have q3 := q _ fresh
  have ho3 : ∀ b ∈ fp, ∃ o, s3.heap.get? b = some o := fun b hb => by
    obtain ⟨o, e⟩ := old b hb
    exact ⟨o, k3 b o e⟩
  generalize s.heap.objs.size = D at *
  generalize upd H D (o0 D) = H3 at *
  refine wpAny_newFunctionEnv B.nocell (by intro y hy; simp at hy) (fun h4 hn4 sb4 => ?_) B.kind
  have k4 : ∀ b o, s3.heap.get? b = some o → h4.get? b = some o := fun b o e => (sb4.2 b (Nat.ne_of_lt (Heap.lt_size e))).trans (Heap.get?_push_of_some _ e)
  have I4 := blk_inv (os := os) (t1 := s3.toks + ([] : List (Str × Value)).length) B he I3 hf3 ho3 k4 hn4
  have st4 : tn 0 h4 := T.keep _ _ _ st3 fun b hb o e => k4 b o e
  have fpB : ∀ {H' : Hp}, (∀ b ∈ fp, H' b = none) → ∀ b ∈ fp, FpOk (blk X scope (nB X.N os fi) s3 H3 fp) [] H' b := fun hn b hb => by
    refine ⟨hn b hb, (I4.ok.exf b hb).1, I4.ok.exfs b hb, .inl hb, (I4.ok.exf b hb).2, fun p hp => nomatch hp⟩
  have lp := loop_any (Y := blk X scope (nB X.N os fi) s3 H3 fp) (R := RR (.ref D) s3.heap.objs.size) hL hc rfl (hT it D _) (hg s3 H3 fp) (ht s3 H3 fp) (hb D s3 H3 fp) T fpB I4 st4 (fun b hb => (hf3 b hb).1) q3
    fun σ' H' s' I' n' => hRR D s3 H3 s' σ' H' I3 hf3 I' n'
  exact hS _ _ _ _ _ lp (T.self _ 0 _ _ _ st4 lp)
def tCG (o0 : Addr → HO) (os : List Str) (fi : List Nat) (wi : TI) (g : TG) (tt : TT) (tb : Addr → TB) : TE := fun σ H Q => wi σ H fun J H1 => ∀ l, H1 l = none → LR J g tt (tb l) (sB σ os fi) (upd H1 l (o0 l)) fun _ H' => Q (.ref l) H'
theorem pe_compG {gs : List Comprehension} {p' : Pos} (hev : eval e X.env = comprehension e scope X.env p' mk false (eval iter X.env)) (hcl : clausesOf e = ⟨tg, iter, ifs, 0⟩ :: gs) (hc : X.calm = true) (hN : X.N = N) (he : X.env.scope = esc) (B : BlkOk esc scope N fi)
    (hL : LoopRule X.prog X.w X.A e 0) (hS : StartRule X.prog X.w X.A e 0) (hT : ∀ (it D : Addr) (env : Env), compTurn e 0 (.ref it) (.ref D) env = turnOf tg p ifs (.ref it) env (body D env) (again (.compLoop e 0 (.ref it) (.ref D) env)))
    (hmk : NewRule X mk o0) (hi : PI X tg iter wi)
    (hg : ∀ s H fp, PG (blk X scope (nB N os fi) s H fp) tg g) (ht : ∀ s H fp, PTs (blk X scope (nB N os fi) s H fp) ifs tt) (hb : ∀ D s H fp, PB (blk X scope (nB N os fi) s H fp) (body D (blk X scope (nB N os fi) s H fp).env) (tb D))
    (hs : ∀ x, foldedSetIterable iter X.env x = pure x := by intro _; rfl) : PE X e (tCG o0 os fi wi g tt tb) := by
  intro pins s σ H Q I h
  have cells := blk_cells (by rw [hN]; exact B) he I
  rw [hev]
  refine wpAny_comprehension_free (use := none) hcl hs (closure_eq cells) B.kind B.loc (thn (hi pins s σ H _ I h) fun v s1 h1 => thn h1 fun itv s2 h2 => ?_)
  obtain ⟨it, fp, tn, J, H2, rfl, I2, T, st2, f2, q2⟩ := h2
  refine comp_coreG (RR := fun acc C => compPost (model X.prog X.w) X.A X.xe none (EP X pins σ Q) acc C) hc hN he B hL hS hT hmk hg ht hb I2 T st2 f2 q2 ?_
  intro D s3 H3 s' σ' H' I3 f3 I' q
  obtain ⟨m, hn, _⟩ := I'.loc
  exact ⟨m, hn, fun h' sb => ⟨.ref D, H', blk_out I3 f3 I' sb, rfl, q⟩⟩
end
section
variable {X : Cx} {elt tg iter tg2 iter2 : Expr} {ifs ifs2 : List Expr} {scope esc : Scope} {pos : Pos} {N os : List Str} {fi : List Nat} {wi wi2 : TI} {g g2 : TG} {tt tt2 : TT} {te : TE}
end
end L2
namespace L2
open PySem PySem.Spec PyProof.Rows
def ssOf (ks : List Str) : Key → Bool
  | .inr x => decide (x ∈ ks)
  | _ => false
def insT (x : Str) (ks : List Str) : List Str := if x ∈ ks then ks else ks ++ [x]
theorem ins_eq (x : Str) (ks : List Str) : (fun k' => ssOf ks k' || decide (k' = (.inr x : Key))) = ssOf (insT x ks) := by
  funext k
  cases k with
  | inl i => simp [ssOf]
  | inr y =>
    unfold insT
    by_cases h : x ∈ ks
    · rw [if_pos h]
      simp only [ssOf]
      by_cases e : y = x
      · subst e; simp [h]
      · simp [e]
    · rw [if_neg h]
      simp [ssOf, List.mem_append, Bool.decide_or]
section
variable {X : Cx} {pins : List (Addr × Obj)} {σ : St} {H : Hp} {s : Shared} {a : Addr} {ks : List Str}
end
def setBody (elt : Expr) (acc : Value) (env : Env) (k : Sem Fi) : Sem Fi := (do let v ← eval elt env; standAt elt.pos; let _ ← call (.builtin "set.add") [acc, v]) >>= fun _ => k
section
variable {X : Cx} {elt tg iter : Expr} {ifs : List Expr} {scope esc : Scope} {pos : Pos} {N os : List Str} {fi : List Nat} {wi : TI} {g : TG} {tt : TT} {te : TE}
end
end L2
namespace L2
open PySem PySem.Spec PyProof.Rows
section
variable {X : Cx} {tg : Expr}
end
end L2
namespace L2
open PySem PySem.Spec PyProof.Rows
inductive TopR (K : PySem.W.Frag) (H : Hp) (R : V → V → Bool → Prop) : V → V → Bool → Prop where
  | lsts {a c : Addr} {xs ys : List V} (e : Nat → Bool) (ha : SqL K H a xs) (hc : SqL K H c ys) (hl : xs.length = ys.length) (h : ∀ j x y, xs[j]? = some x → ys[j]? = some y → R x y (e j)) : TopR K H R (.ref a) (.ref c) ((List.range xs.length).all e)
  | lens {a c : Addr} {xs ys : List V} (ha : SqL K H a xs) (hc : SqL K H c ys) (hl : xs.length ≠ ys.length) : TopR K H R (.ref a) (.ref c) false
  | tups {a c : Addr} {xs ys : List V} (e : Nat → Bool) (ha : SqT K H a xs) (hc : SqT K H c ys) (h : ∀ j x y, xs[j]? = some x → ys[j]? = some y → R x y (e j)) : TopR K H R (.ref a) (.ref c) ((List.range (min xs.length ys.length)).all e && xs.length == ys.length)
def EqD (K : PySem.W.Frag) (H : Hp) : Nat → V → V → Bool → Prop
  | 0, x, y, b => (flatV x = true ∧ flatV y = true ∧ b = eqV x y) ∨ ∃ a, x = .ref a ∧ y = .ref a ∧ b = true
  | n + 1, x, y, b => ((flatV x = true ∧ flatV y = true ∧ b = eqV x y) ∨ ∃ a, x = .ref a ∧ y = .ref a ∧ b = true) ∨ ∃ a c, x = .ref a ∧ y = .ref c ∧ a ≠ c ∧ TopR K H (EqD K H n) x y b
section
variable {X : Cx} {pins : List (Addr × Obj)} {σ : St} {H : Hp} {s : Shared}
theorem items_R {R : V → V → Bool → Prop} {A : Around} {xs ys : List V} {us vs : List Value} {e : Nat → Bool} (hR : ∀ x y b u v, R x y b → RelV x u → RelV y v → SeqAt.EqAt A s u v b) (r1 : Vals xs us) (r2 : Vals ys vs) (h : ∀ j x y, xs[j]? = some x → ys[j]? = some y → R x y (e j)) :
    ∀ j (h1 : j < us.toArray.size) (h2 : j < vs.toArray.size), SeqAt.EqAt A s us.toArray[j] vs.toArray[j] (e j) := fun j h1 h2 => by
  have l1 : j < xs.length := by rw [r1.length]; simpa using h1
  have l2 : j < ys.length := by rw [r2.length]; simpa using h2
  obtain ⟨u, q1, z1⟩ := r1.get (i := j) (x := xs[j]) (by simp [l1])
  obtain ⟨v, q2, z2⟩ := r2.get (i := j) (x := ys[j]) (by simp [l2])
  have e1 : us.toArray[j] = u := by
    have : us[j]? = some us.toArray[j] := by simp
    rw [this] at q1; exact Option.some.inj q1
  have e2 : vs.toArray[j] = v := by
    have : vs[j]? = some vs.toArray[j] := by simp
    rw [this] at q2; exact Option.some.inj q2
  rw [e1, e2]
  exact hR _ _ _ _ _ (h j _ _ (by simp [l1]) (by simp [l2])) z1 z2
theorem top_at {R : V → V → Bool → Prop} {A : Around} {x y : V} {b : Bool} {u v : Value} (I : Inv X pins σ H s) (hu : A.units < cLine) (hR : ∀ x y b u v, R x y b → RelV x u → RelV y v → SeqAt.EqAt A.in1 s u v b) (h : TopR X.K H R x y b) (rx : RelV x u) (ry : RelV y v) : SeqAt.RcAt A s u v b := by
  cases h with
  | lsts e ha hc hl h =>
    cases rx
    cases ry
    obtain ⟨its, r1, p1, _⟩ := I.list ha
    obtain ⟨its2, r2, p2, _⟩ := I.list hc
    have z := SeqAt.RcAt.lists (A := A) p1.isList p2.isList (by rw [List.size_toArray, List.size_toArray, ← r1.length, ← r2.length]; exact hl) hu (items_R hR r1 r2 h)
    rw [List.size_toArray, ← r1.length] at z
    exact z
  | lens ha hc hl =>
    cases rx
    cases ry
    obtain ⟨its, r1, p1, _⟩ := I.list ha
    obtain ⟨its2, r2, p2, _⟩ := I.list hc
    exact SeqAt.RcAt.lists_lengths (A := A) p1.isList p2.isList (by rw [List.size_toArray, List.size_toArray, ← r1.length, ← r2.length]; simpa using hl) hu
  | tups e ha hc h =>
    cases rx
    cases ry
    obtain ⟨its, r1, p1, _⟩ := I.tuple ha
    obtain ⟨its2, r2, p2, _⟩ := I.tuple hc
    have z := SeqAt.RcAt.tuples (A := A) (show s.heap.IsTuple _ its.toArray from p1) (show s.heap.IsTuple _ its2.toArray from p2) hu (items_R hR r1 r2 h)
    rw [List.size_toArray, List.size_toArray, ← r1.length, ← r2.length] at z
    exact z
theorem flat_at {A : Around} {x y : V} {b : Bool} {u v : Value} (h : (flatV x = true ∧ flatV y = true ∧ b = eqV x y) ∨ ∃ a, x = .ref a ∧ y = .ref a ∧ b = true) (rx : RelV x u) (ry : RelV y v) : SeqAt.EqAt A s u v b := by
  rcases h with ⟨f1, f2, rfl⟩ | ⟨a, rfl, rfl, rfl⟩
  · exact eqAt_V rx ry f1 f2
  · cases rx
    cases ry
    exact SeqAt.EqAt.same _
theorem eqd_at (I : Inv X pins σ H s) : ∀ (n : Nat) (A : Around), A.units + n < cLine → ∀ (x y : V) (b : Bool) (u v : Value), EqD X.K H n x y b → RelV x u → RelV y v → SeqAt.EqAt A s u v b
  | 0, A, hu, x, y, b, u, v, h, rx, ry => flat_at h rx ry
  | n + 1, A, hu, x, y, b, u, v, h, rx, ry => by
    rcases h with h | ⟨a, c, rfl, rfl, ne, h⟩
    · exact flat_at h rx ry
    · cases rx
      cases ry
      exact SeqAt.EqAt.of_refs ne (top_at I (by omega) (eqd_at I n A.in1 (by show A.units + 1 + n < cLine; omega)) h rfl rfl)
def rEqD (K : PySem.W.Frag) (neg : Bool) : R2 := fun x y H Q => ∃ n b, n ≤ 40 ∧ TopR K H (EqD K H n) x y b ∧ Q (.bl (if neg then !b else b)) H
theorem op_neD (hu : X.A.units + 60 < cLine) : OpR X (compareOp .NotEq) (rEqD X.K true) := by
  intro pins s σ H x y v u Q I rx ry h
  obtain ⟨n, b, hn, h, q⟩ := h
  have hR := eqd_at I n X.A.in1 (by show X.A.units + 1 + n < cLine; omega)
  have hu' : X.A.units < cLine := by omega
  cases h with
  | lsts e ha hc hl h =>
    cases rx
    cases ry
    obtain ⟨its, r1, p1, _⟩ := I.list ha
    obtain ⟨its2, r2, p2, _⟩ := I.list hc
    refine SeqAt.RcNeAt.lists (A := X.A) p1.isList p2.isList (by rw [List.size_toArray, List.size_toArray, ← r1.length, ← r2.length]; exact hl) hu' (items_R hR r1 r2 h) _ _ _ _ ?_
    rw [List.size_toArray, ← r1.length]
    exact ⟨.bl _, H, I, rfl, q⟩
  | lens ha hc hl =>
    cases rx
    cases ry
    obtain ⟨its, r1, p1, _⟩ := I.list ha
    obtain ⟨its2, r2, p2, _⟩ := I.list hc
    exact SeqAt.RcNeAt.lists_lengths (A := X.A) p1.isList p2.isList (by rw [List.size_toArray, List.size_toArray, ← r1.length, ← r2.length]; simpa using hl) hu' _ _ _ _ ⟨.bl _, H, I, rfl, q⟩
  | tups e ha hc h =>
    cases rx
    cases ry
    obtain ⟨its, r1, p1, _⟩ := I.tuple ha
    obtain ⟨its2, r2, p2, _⟩ := I.tuple hc
    refine SeqAt.RcNeAt.tuples (A := X.A) (show s.heap.IsTuple _ its.toArray from p1) (show s.heap.IsTuple _ its2.toArray from p2) hu' (items_R hR r1 r2 h) _ _ _ _ ?_
    rw [List.size_toArray, List.size_toArray, ← r1.length, ← r2.length]
    exact ⟨.bl _, H, I, rfl, q⟩
end
theorem Room.units60 {k : Nat} {A : Around} (r : Room k A) : A.units + 60 < cLine := by have := r.un; omega
end L2
namespace L2
open PySem PySem.Spec PyProof.Rows
def HF (q : Program) : List Str → Prop
  | [] => True
  | n :: ns => (∃ d, (recsOf q).find? (fun e => e.name == n) = some d) ∧ HF q ns
def HC (K : PySem.W.Frag) : List Str → Prop
  | [] => True
  | n :: ns => (∃ f c T fd, CodeN K n f c T fd) ∧ HC K ns
def HT0 (K : PySem.W.Frag) : List Str → Prop
  | [] => True
  | n :: ns => K.lookup (tbOf K n) = none ∧ HT0 K ns
theorem HF.mem {q : Program} : ∀ {ns : List Str}, HF q ns → ∀ n ∈ ns, ∃ d, (recsOf q).find? (fun e => e.name == n) = some d
  | [], _, n, h => nomatch h
  | _ :: _, h, n, hn => by
    rcases List.mem_cons.mp hn with rfl | hn
    · exact h.1
    · exact HF.mem h.2 n hn
theorem HC.mem {K : PySem.W.Frag} : ∀ {ns : List Str}, HC K ns → ∀ n ∈ ns, ∃ f c T fd, CodeN K n f c T fd
  | [], _, n, h => nomatch h
  | _ :: _, h, n, hn => by
    rcases List.mem_cons.mp hn with rfl | hn
    · exact h.1
    · exact HC.mem h.2 n hn
theorem HT0.mem {K : PySem.W.Frag} : ∀ {ns : List Str}, HT0 K ns → ∀ n ∈ ns, K.lookup (tbOf K n) = none
  | [], _, n, h => nomatch h
  | _ :: _, h, n, hn => by
    rcases List.mem_cons.mp hn with rfl | hn
    · exact h.1
    · exact HT0.mem h.2 n hn
theorem walk_ofN (names : List Str) {l : PySem.W.OpenLaw} {n k : Nat} {q : Program} {loose : List Str} {XP : (Str → Option Value) → Heap → Prop} {YP : World → Heap → Prop} {d : DefRec} {K : Params → PySem.W.Frag} {CX : World → CXT} {sp : World → Sp} {x : Str}
    (hn : l.most = some n) (hn2 : n ≤ sizeLine) (hdf : d.params.defaults = []) (hr : Room k callerA)
    (hY : ∀ (w : World) (h : Heap), YP w h → (K w.params).In h) (hf : HF q names) (hC : ∀ w : World, HC (K w.params) names) (hKT : ∀ w : World, HT0 (K w.params) names)
    (F : ∀ (w : World) (mg : Str → Option Value) (fa : Addr) (h : Heap), (K w.params).In h → h.Ns mainGlobals mg → mg d.name = some (.ref fa) →
      ∃ fd : FuncData, (∀ (s : Shared) (u : Value), BindsTo s fd ⟨[u], []⟩ [(x, u)]) ∧
        ∀ base : Heap, (K w.params).In base → base.Ns mainGlobals mg → BmOf mg base → FnOk l.prog w (K w.params) mg base (CX w) k fa fd [x] (sp w))
    (hsp : ∀ (w : World) (H : Hp) (a : Addr) (ns : List Int), ns.length ≤ n → (∀ m ∈ names, H (tbOf (K w.params) m) = some (.tbl #[])) → SqL (K w.params) H a (ns.map V.int) → sp w [.ref a] H (fun v _ => v = .bl true) fun _ _ _ => False)
    (hCX : ∀ (w : World) (H : Hp) (s : Shared) (e : Value) (s' : Shared), CX w [] H s (fun _ _ _ => False) e s' → False) :
    PySem.W.WalkO q loose XP YP l.row.toRowW d [] (fun f vs => PySem.call f vs) := by
  refine walk_ofT (Ts := fun w => names.map fun m => (cdOf (K w.params) m, tbOf (K w.params) m)) hn hn2 hdf hr hY ?_ ?_ F ?_ hCX
  · intro w h lo mean mg mb KX Tp t ht
    obtain ⟨m, hm, rfl⟩ := List.mem_map.mp ht
    obtain ⟨f, c, T, fd, C⟩ := (hC w).mem m hm
    obtain ⟨d, hd⟩ := hf.mem m hm
    exact C.tab KX Tp hd
  · intro w t ht
    obtain ⟨m, hm, rfl⟩ := List.mem_map.mp ht
    exact (hKT w).mem m hm
  · intro w H a ns hl hO hS
    exact hsp w H a ns hl (fun m hm => hO.tab _ (List.mem_map.mpr ⟨m, hm, rfl⟩)) hS
end L2
namespace L2
open PySem PySem.Spec PyProof.Rows
section
variable {κ : Type} [DecidableEq κ]
def valV (kvs : List (κ × V)) (k : κ) : Option V := (kvs.find? fun kv => decide (kv.1 = k)).map (·.2)
def putK (kvs : List (κ × V)) (k : κ) (v : V) : List (κ × V) :=
  if (kvs.any fun kv => decide (kv.1 = k)) = true then kvs.map (fun kv => if kv.1 = k then (kv.1, v) else kv) else kvs ++ [(k, v)]
theorem valV_pos {p : κ × V} {r : List (κ × V)} {k : κ} (e : p.1 = k) : valV (p :: r) k = some p.2 := by simp [valV, List.find?_cons, e]
theorem valV_neg {p : κ × V} {r : List (κ × V)} {k : κ} (e : ¬ p.1 = k) : valV (p :: r) k = valV r k := by simp [valV, List.find?_cons, e]
theorem valV_any (k : κ) : ∀ kvs : List (κ × V), (kvs.any fun kv => decide (kv.1 = k)) = (valV kvs k).isSome
  | [] => rfl
  | p :: r => by
    rw [List.any_cons]
    by_cases e : p.1 = k
    · simp only [valV_pos e, decide_eq_true e, Bool.true_or, Option.isSome_some]
    · rw [valV_neg e, decide_eq_false e, Bool.false_or]; exact valV_any k r
theorem valV_map (k j : κ) (y : V) : ∀ kvs : List (κ × V), valV (kvs.map fun kv => if kv.1 = k then (kv.1, y) else kv) j = (valV kvs j).map fun x => if j = k then y else x
  | [] => rfl
  | p :: r => by
    have ih := valV_map k j y r
    rw [List.map_cons]
    by_cases h : p.1 = k
    · rw [if_pos h]
      by_cases e : p.1 = j
      · rw [valV_pos (p := (p.1, y)) e, valV_pos e, Option.map_some, if_pos (e.symm.trans h)]
      · rw [valV_neg (p := (p.1, y)) e, valV_neg e, ih]
    · rw [if_neg h]
      by_cases e : p.1 = j
      · rw [valV_pos (p := p) e, valV_pos e, Option.map_some, if_neg (fun z => h (e.trans z))]
      · rw [valV_neg (p := p) e, valV_neg e, ih]
theorem valV_snoc (k j : κ) (y : V) : ∀ kvs : List (κ × V), valV kvs k = none → valV (kvs ++ [(k, y)]) j = if j = k then some y else valV kvs j
  | [], _ => by
    by_cases e : k = j
    · rw [if_pos e.symm]; exact valV_pos (p := (k, y)) e
    · rw [if_neg (fun z => e z.symm)]; exact valV_neg (p := (k, y)) e
  | p :: r, hn => by
    rw [List.cons_append]
    have hk : ¬ p.1 = k := fun z => by rw [valV_pos z] at hn; cases hn
    rw [valV_neg hk] at hn
    have ih := valV_snoc k j y r hn
    by_cases e : p.1 = j
    · rw [valV_pos e, valV_pos e, if_neg (fun z => hk (e.trans z))]
    · rw [valV_neg e, valV_neg e, ih]
theorem valV_put (kvs : List (κ × V)) (k j : κ) (y : V) : valV (putK kvs k y) j = if j = k then some y else valV kvs j := by
  unfold putK
  by_cases a : (kvs.any fun kv => decide (kv.1 = k)) = true
  · rw [if_pos a, valV_map]
    rw [valV_any] at a
    by_cases e : j = k
    · obtain ⟨x, hx⟩ := Option.isSome_iff_exists.mp a
      rw [if_pos e, e, hx, Option.map_some, if_pos rfl]
    · rw [if_neg e]
      cases valV kvs j with
      | none => rfl
      | some x => rw [Option.map_some, if_neg e]
  · rw [if_neg a]
    refine valV_snoc k j y kvs ?_
    rw [valV_any] at a
    cases q : valV kvs k with
    | none => rfl
    | some x => rw [q] at a; exact (a rfl).elim
theorem length_putK (kvs : List (κ × V)) (k : κ) (v : V) : (putK kvs k v).length ≤ kvs.length + 1 := by
  unfold putK
  split
  · rw [List.length_map]; omega
  · rw [List.length_append, List.length_cons, List.length_nil]; omega
theorem RelO.getD {o : Option V} {u : Option Value} {d : V} {d' : Value} (r : RelO o u) (rd : RelV d d') : RelV (o.getD d) (u.getD d') := by
  cases o with
  | none => cases u with
    | none => exact rd
    | some _ => exact (show False from r).elim
  | some _ => cases u with
    | none => exact (show False from r).elim
    | some _ => exact r
theorem KV.val {kvs : List (κ × V)} {vs : List (κ × Value)} (r : KV kvs vs) (k : κ) : RelO (valV kvs k) (valueAt vs k) := by
  unfold KV at r
  induction r with
  | nil => exact True.intro
  | @cons p q ps qs h t ih =>
    obtain ⟨h1, h2⟩ := h
    by_cases e : p.1 = k
    · have e' : q.1 = k := h1.symm.trans e
      have b : valueAt (q :: qs) k = some q.2 := by simp [valueAt, List.find?_cons, e']
      rw [valV_pos e, b]; exact h2
    · have e' : ¬ q.1 = k := fun z => e (h1.trans z)
      have b : valueAt (q :: qs) k = valueAt qs k := by simp [valueAt, List.find?_cons, e']
      rw [valV_neg e, b]; exact ih
theorem KV.any {kvs : List (κ × V)} {vs : List (κ × Value)} (r : KV kvs vs) (k : κ) : (kvs.any fun kv => decide (kv.1 = k)) = vs.any fun kv => decide (kv.1 = k) := by
  unfold KV at r
  induction r with
  | nil => rfl
  | cons h t ih => rw [List.any_cons, List.any_cons, ih, h.1]
theorem KV.repl {kvs : List (κ × V)} {vs : List (κ × Value)} (r : KV kvs vs) (k : κ) {y : V} {u : Value} (ry : RelV y u) :
    KV (kvs.map fun kv => if kv.1 = k then (kv.1, y) else kv) (vs.map fun kv => if kv.1 = k then (kv.1, u) else kv) := by
  unfold KV at r ⊢
  induction r with
  | nil => exact .nil
  | @cons p q ps qs h t ih =>
    rw [List.map_cons, List.map_cons]
    refine .cons ?_ ih
    obtain ⟨h1, h2⟩ := h
    by_cases e : p.1 = k
    · rw [if_pos e, if_pos (h1.symm.trans e)]; exact ⟨h1, ry⟩
    · rw [if_neg e, if_neg (fun z => e (h1.trans z))]; exact ⟨h1, h2⟩
theorem KV.put {kvs : List (κ × V)} {vs : List (κ × Value)} (r : KV kvs vs) (k : κ) {y : V} {u : Value} (ry : RelV y u) : KV (putK kvs k y) (stored vs k u) := by
  unfold putK stored
  rw [r.any k]
  by_cases e : (vs.any fun kv => decide (kv.1 = k)) = true
  · rw [if_pos e, if_pos e]; exact r.repl k ry
  · rw [if_neg e, if_neg e]; exact Paired.snoc r ⟨rfl, ry⟩
theorem KV.length {kvs : List (κ × V)} {vs : List (κ × Value)} (r : KV kvs vs) : kvs.length = vs.length := Paired.length r
end
theorem kV_is {P : Program} {w : World} {k : Key} {u : Value} (r : RelV (kV k) u) : (mixKind P w).is k u = true := by
  cases k with
  | inl i => obtain ⟨t, e⟩ := (show ∃ t, u = Value.int i t from r); subst e; exact mixKind_int P w i t
  | inr x => obtain ⟨t, e⟩ := (show ∃ t, u = Value.str x t from r); subst e; exact mixKind_str P w x t
theorem items_are {P : Program} {w : World} : ∀ {ks : List Key} {us : List Value}, Vals (ks.map kV) us → ItemsAre (mixKind P w) ks us
  | [], _, r => by rw [List.map_nil] at r; cases r; exact .nil
  | k :: ks, _, r => by
    rw [List.map_cons] at r
    cases r with
    | cons h t => exact .cons (kV_is h) (items_are t)
abbrev KT (H : Hp) : List (List Key × V) → List (List Key × Addr × Value) → Prop := Paired fun p q => p.1 = q.1 ∧ H q.2.1 = some (.tup (p.1.map kV)) ∧ RelV p.2 q.2.2
theorem KT.val {H : Hp} {kvs : List (List Key × V)} {xs : List (List Key × Addr × Value)} (r : KT H kvs xs) (k : List Key) : RelO (valV kvs k) ((atKey xs k).map (·.2)) := by
  induction r with
  | nil => exact True.intro
  | @cons p q ps qs h t ih =>
    obtain ⟨h1, _, h2⟩ := h
    by_cases e : p.1 = k
    · have e' : q.1 = k := h1.symm.trans e
      have b : atKey (q :: qs) k = some q.2 := by simp [atKey, List.find?_cons, e']
      rw [valV_pos e, b]; exact h2
    · have e' : ¬ q.1 = k := fun z => e (h1.trans z)
      have b : atKey (q :: qs) k = atKey qs k := by simp [atKey, List.find?_cons, e']
      rw [valV_neg e, b]; exact ih
section
variable {P : Program} {w : World} {H : Hp} {h : Heap} {a : Addr}
theorem rd_of {u : HO} (ok : HOk P w H h) (e : Rd H a u) : ObjOk P w H h a u := e.ok ok
theorem dk_rd {kvs : List (Key × V)} (ok : HOk P w H h) (e : Rd H a (.dK kvs)) : kvs.length ≤ sizeLine ∧ (a == sysModules) = false ∧ ∃ vs, KV kvs vs ∧ h.DictOf (mixKind P w) a vs :=
  show ObjOk P w H h a (.dK kvs) from rd_of ok e
theorem dk_of {kvs : List (Key × V)} (ok : HOk P w H h) (e : H a = some (.dK kvs)) : kvs.length ≤ sizeLine ∧ (a == sysModules) = false ∧ ∃ vs, KV kvs vs ∧ h.DictOf (mixKind P w) a vs := dk_rd ok (.inl e)
theorem key_of {ks : List Key} (ok : HOk P w H h) (e : H a = some (.tup (ks.map kV))) : (tupleKind (mixKind P w)).is h ks a := by
  obtain ⟨_, its, r, o, h1, h2, n, h3⟩ := (show ObjOk P w H h a (.tup (ks.map kV)) from ok a _ e)
  exact ⟨o, its.toArray, n, h1, h2, h3, by simpa using items_are r⟩
theorem dt_rd {kvs : List (List Key × V)} (ok : HOk P w H h) (e : Rd H a (.dT kvs)) : kvs.length ≤ sizeLine ∧ (a == sysModules) = false ∧
    ∃ xs, KT H kvs xs ∧ h.DictOfH (tupleKind (mixKind P w)) a xs := by
  obtain ⟨z, y, xs, r, o, es, ep, h1, h2, h3, h4, h5⟩ := (show ObjOk P w H h a (.dT kvs) from rd_of ok e)
  refine ⟨z, y, xs, r, o, es, ep, h1, h2, h3, h4, fun x hx => ?_, h5⟩
  have all : ∀ {l : List (List Key × V)} {m : List (List Key × Addr × Value)}, KT H l m → ∀ x ∈ m, (tupleKind (mixKind P w)).is h x.1 x.2.1 := by
    intro l m q
    induction q with
    | nil => intro x hx; exact nomatch hx
    | @cons p q ps qs hq t ih =>
      intro x hx
      rcases List.mem_cons.mp hx with e | hx
      · subst e
        exact key_of ok (by rw [← hq.1]; exact hq.2.1)
      · exact ih x hx
  exact all r x hx
end
def DGet (H : Hp) (a : Addr) (y : V) (r : Option V) : Prop :=
  (∃ kvs k, Rd H a (.dK kvs) ∧ y = kV k ∧ r = valV kvs k) ∨ ∃ kvs k b, Rd H a (.dT kvs) ∧ y = .ref b ∧ H b = some (.tup (k.map kV)) ∧ r = valV kvs k
theorem DGet.k {H : Hp} {a : Addr} {kvs : List (Key × V)} {k : Key} (e : H a = some (.dK kvs)) : DGet H a (kV k) (valV kvs k) := .inl ⟨kvs, k, .inl e, rfl, rfl⟩
section
variable {X : Cx} {pins : List (Addr × Obj)} {σ : St} {H : Hp} {s : Shared} {a : Addr} {y v : V} {u r : Value} {o : Option V} {A : Around} {E : Value → Shared → Prop}
theorem d_getItem {Q : Value → Shared → Prop} (hu : A.units + 1 < cLine) (I : Inv X pins σ H s) (g : DGet H a y (some v)) (ry : RelV y u) (h : ∀ w' s', Inv X pins σ H s' → RelV v w' → Q w' s') :
    wpAny (model X.prog X.w) A (getItem (.ref a) u) Q E s := by
  rcases g with ⟨kvs, k, e, ey, l⟩ | ⟨kvs, k, b, e, ey, eb, l⟩
  · subst ey
    obtain ⟨z, hd, vs, rel, dd⟩ := dk_rd I.hok e
    obtain ⟨w', hw, rw'⟩ := RelO.some_of (v := v) (o := valueAt vs k) (by rw [l]; exact rel.val k)
    exact wpAny_getItem_of (kV_is ry) dd.mapOf hw (h w' _ (I.tok _) rw')
  · subst ey
    cases (show u = Value.ref b from ry)
    obtain ⟨z, hd, xs, rel, dd⟩ := dt_rd I.hok e
    obtain ⟨w', hw, rw'⟩ := RelO.some_of (v := v) (o := (atKey xs k).map (·.2)) (by rw [l]; exact rel.val k)
    obtain ⟨p, hp, hp2⟩ := Option.map_eq_some_iff.mp hw
    refine wpAny_getItem_heap (tupleKind_room_in1 hu) (key_of I.hok eb) dd hp ?_
    rw [hp2]
    exact h w' _ (I.tok _) rw'
theorem d_write {h' : Heap} {t' : Nat} {ob : HO} (I : Inv X pins σ H s) (mu : Mut (H a)) (hs : Heap.SameBut a s.heap h') (he : ∃ q, h'.get? a = some q) (new : ObjOk X.prog X.w (upd H a ob) h' a ob) :
    Inv X pins σ (upd H a ob) { s with heap := h', toks := t' } :=
  I.write (x := a) (e := a) mu (.inl rfl) (fun b q hb z => (hs.2 b hb).trans z) he new
theorem dk_new {P : Program} {w : World} {H' : Hp} {h' : Heap} {kvs : List (Key × V)} {vs : List (Key × Value)} (z : kvs.length ≤ sizeLine) (hd : (a == sysModules) = false) (rel : KV kvs vs) (dd : h'.DictOf (mixKind P w) a vs) :
    ObjOk P w H' h' a (.dK kvs) := ⟨z, hd, vs, rel, dd⟩
end
section
variable {X : Cx} {pins : List (Addr × Obj)} {σ : St} {H : Hp} {s : Shared} {a : Addr} {kvs : List (Key × V)} {k : Key} {u : Value} {A : Around} {E : Value → Shared → Prop}
end
def NoSl (i : Expr) : Prop := ∀ ov iv, subscripted i false ov iv = operate [ov, iv] (getItem ov iv)
theorem subD_of {prog : Program} {w : World} {A : Around} {E : Value → Shared → Prop} {s : Shared} {env : Env} {value slice : Expr} {pos : Pos} {T id : String} {Q : Value → Shared → Prop}
    (hl : typeLookup (.type T) "__getitem__" = pure (some (.builtin id))) (hs : NoSl slice)
    (h : wpAny (model prog w) A (eval value env) (fun o s₁ => wpAny (model prog w) A (eval slice env) (fun i s₂ => s₂.TypeIs o T ∧ wpAny (model prog w) A (getItem o i) Q E s₂) E s₁) E s) :
    wpAny (model prog w) A (eval (.Subscript value slice pos) env) Q E s := by
  refine Subscript_ (wpAny_mono h (fun o s₁ h₁ => wpAny_mono h₁ (fun i s₂ h₂ => ?_) fun _ _ x => x) fun _ _ x => x)
  obtain ⟨hT, h₂⟩ := h₂
  unfold subscriptTail
  refine wpAny_bind ?_
  rw [getitemInPython_of_ne hT.not_modules]
  refine wpAny_bind (wpAny_specialOf hT hl ?_)
  have fin : wpAny (model prog w) A (subscripted slice false o i) (fun r s₃ => wpAny (model prog w) A (letTemporaryGo value o r >>= fun _ => pure r) Q E s₃) E s₂ := by
    rw [hs o i]
    exact wpAny_operating (wpAny_mono h₂ (fun r s₃ h₃ => wpAny_bind (wpAny_letTemporaryGo (wpAny_pure h₃))) fun _ _ x => x)
  first
    | exact wpAny_pure (wpAny_bind fin)
    | exact wpAny_bind (wpAny_pure (wpAny_bind fin))
    | exact wpAny_bind fin
theorem dict_typeIs {X : Cx} {pins : List (Addr × Obj)} {σ : St} {H : Hp} {s : Shared} {a : Addr} {y : V} {o : Option V} (I : Inv X pins σ H s) (g : DGet H a y o) : s.TypeIs (.ref a) "dict" := by
  rcases g with ⟨kvs, k, e, _, _⟩ | ⟨kvs, k, b, e, _, _, _⟩
  · obtain ⟨_, _, vs, _, dd⟩ := dk_rd I.hok e
    exact dd.typeIs
  · obtain ⟨_, _, xs, _, dd⟩ := dt_rd I.hok e
    exact dd.typeIs
def tDGet (td ty : TE) : TE := fun σ H Q => td σ H fun x H1 => ty σ H1 fun y H2 => ∃ a v, x = .ref a ∧ DGet H2 a y (some v) ∧ Q v H2
section
variable {X : Cx} {o i e value : Expr} {pos pos' tpos : Pos} {td ty tv : TE}
theorem pe_dget (hu : X.A.units + 1 < cLine) (ho : PE X o td) (hi : PE X i ty) (hs : NoSl i) : PE X (.Subscript o i pos) (tDGet td ty) := by
  intro pins s σ H Q I h
  refine subD_of PySem.F.slot_dict_getitem.lookup hs (thn (ho pins s σ H _ I h) fun u s1 ⟨x, H1, I1, rx, q1⟩ => thn (hi pins s1 σ H1 _ I1 q1) fun iv s2 ⟨y, H2, I2, ry, a, v, ex, g, q2⟩ => ?_)
  subst ex
  obtain rfl : u = Value.ref a := rx
  exact ⟨dict_typeIs I2 g, d_getItem hu I2 g ry fun w' s3 I3 rw' => ⟨v, H2, I3, rw', q2⟩⟩
end
section
variable {X : Cx} {pos : Pos}
end
structure M1 (X : Cx) (o : Expr) (m : Str) (apos : Pos) (e : Expr) (cpos : Pos) : Prop where
  base : attributeBase o m X.env (eval o X.env) = eval o X.env
  few : ((backTo cpos (starEach [e] X.env)).all (fun x => !x.1) && (backToKw cpos (keywordEach [] X.env)).all (fun x => x.1.isSome)
    && decide (([e] : List Expr).length + ([] : List Keyword).length + (if ([] : List Keyword).isEmpty then 0 else 1) < 30)) = true
  line : (apos.endLine == cpos.line) = true
  trees : backTo cpos (starEach [e] X.env) = [(false, eval e X.env)]
def IsD (H : Hp) (a : Addr) : Prop := (∃ kvs, Rd H a (.dK kvs)) ∨ ∃ kvs, Rd H a (.dT kvs)
theorem isD_at {X : Cx} {pins : List (Addr × Obj)} {σ : St} {H : Hp} {s : Shared} {a : Addr} (I : Inv X pins σ H s) (d : IsD H a) :
    s.TypeIs (.ref a) "dict" ∧ (∀ b, Value.ref a = .ref b → ∃ ob, s.heap.get? b = some ob ∧ ob.dict = none) ∧ (a == sysModules) = false := by
  rcases d with ⟨kvs, e⟩ | ⟨kvs, e⟩
  · obtain ⟨_, hd, vs, _, dd⟩ := dk_rd I.hok e
    refine ⟨dd.typeIs, fun b q => ?_, hd⟩
    cases q
    obtain ⟨ob, _, _, h1, h2, _⟩ := dd
    exact ⟨ob, h1, h2.2.1⟩
  · obtain ⟨_, hd, xs, _, dd⟩ := dt_rd I.hok e
    refine ⟨dd.typeIs, fun b q => ?_, hd⟩
    cases q
    obtain ⟨ob, _, _, h1, h2, _⟩ := dd
    exact ⟨ob, h1, h2.2.1⟩
section
variable {X : Cx} {pins : List (Addr × Obj)} {σ : St} {H : Hp} {s : Shared} {a : Addr} {y d : V} {u r : Value} {o : Option V} {A : Around} {E : Value → Shared → Prop}
theorem d_get1 {Q : Value → Shared → Prop} (hu : A.units + 1 < cLine) (I : Inv X pins σ H s) (g : DGet H a y o) (ry : RelV y u) (h : ∀ w' s', Inv X pins σ H s' → RelV (o.getD .non) w' → Q w' s') :
    wpAny (model X.prog X.w) A (call (.builtin "dict.get") [.ref a, u]) Q E s := by
  rcases g with ⟨kvs, k, e, ey, l⟩ | ⟨kvs, k, b, e, ey, eb, l⟩
  · subst ey
    obtain ⟨z, hd, vs, rel, dd⟩ := dk_rd I.hok e
    refine call_meetsIn PySem.F.slot_dict_get dd.typeIs PySem.F.entry_dict_get (PySem.F.args_dict_get_2 _ _) (meets_dict_get (mixKind X.prog X.w) a (kV_is ry) hd) ⟨_, dd.mapOf, h _ _ (I.tok _) ?_⟩
    rw [l]
    exact (rel.val k).getD rfl
  · subst ey
    cases (show u = Value.ref b from ry)
    obtain ⟨z, hd, xs, rel, dd⟩ := dt_rd I.hok e
    refine call_meetsIn PySem.F.slot_dict_get dd.typeIs PySem.F.entry_dict_get (PySem.F.args_dict_get_2 _ _) (meetsH_dict_get (tupleKind (mixKind X.prog X.w)) a b hd) ⟨tupleKind_room_in1 hu, k, xs, key_of I.hok eb, dd, h _ _ (I.tok _) ?_⟩
    rw [l]
    exact (rel.val k).getD rfl
end
def tDGet1 (td ty : TE) : TE := fun σ H Q => td σ H fun x H1 => ∃ a, x = .ref a ∧ IsD H1 a ∧ ty σ H1 fun y H2 => ∃ o, DGet H2 a y o ∧ Q (o.getD .non) H2
section
variable {X : Cx} {o e f : Expr} {apos cpos : Pos} {td ty tx : TE}
theorem pe_dget1 (hu : X.A.units + 1 < cLine) (ho : PE X o td) (he : PE X e ty) (m : M1 X o "get" apos e cpos) : PE X (.Call (.Attribute o "get" apos) [e] [] cpos) (tDGet1 td ty) := by
  intro pins s σ H Q I h
  refine wpAny_Call_method m.base m.few m.line PySem.F.plainAttrs_dict PySem.F.slot_dict_get PySem.F.type_dict_get (thn (ho pins s σ H _ I h) fun u s1 ⟨x, H1, I1, rx, a, ex, d, q1⟩ => ?_)
  subst ex
  obtain rfl : u = Value.ref a := rx
  obtain ⟨t1, t2, _⟩ := isD_at I1 d
  refine ⟨t1, t2, ?_⟩
  rw [m.trees]
  refine Calls.callWith_builtin rfl (Calls.evalArgs_plain (Calls.spliced_cons (thn (he pins s1 σ H1 _ I1 q1) fun iv s2 ⟨y, H2, I2, ry, ov, g, q2⟩ => Calls.spliced_nil ?_)))
  exact d_get1 hu I2 g ry fun w' s3 I3 rw' => ⟨_, H2, I3, rw', q2⟩
end
section
variable {X : Cx} {pins : List (Addr × Obj)} {σ : St} {H : Hp} {s : Shared} {a : Addr} {kvs : List (Key × V)} {A : Around} {E : Value → Shared → Prop}
end
section
variable {X : Cx} {pins : List (Addr × Obj)} {σ : St} {H : Hp} {s : Shared} {a : Addr} {y : V} {u : Value} {A : Around} {E : Value → Shared → Prop}
end
end L2
namespace L2
open PySem PySem.Spec PyProof.Rows
section
variable {κ : Type} [DecidableEq κ]
end
end L2
namespace L2
open PySem PySem.Spec PyProof.Rows
def cutS (z : Str) (lo hi : Option Int) : Str := ⟨((z.cps.toList.drop (HT.sIx z.length 0 lo)).take (HT.sIx z.length z.length hi - HT.sIx z.length 0 lo)).toArray⟩
theorem sIx_le (n d : Nat) (hd : d ≤ n) (v : Option Int) : HT.sIx n d v ≤ n := by
  cases v with
  | none => exact hd
  | some i =>
    show (if i < 0 then (i + (n : Int)).toNat else min i.toNat n) ≤ n
    by_cases h : i < 0
    · rw [if_pos h]; omega
    · rw [if_neg h]; omega
theorem pick_cut (z : Str) (lo hi : Option Int) : (Builtin.Str.strSliceIndices lo hi 1 z.length).filterMap (z.cps[·]?) = (z.cps.toList.drop (HT.sIx z.length 0 lo)).take (HT.sIx z.length z.length hi - HT.sIx z.length 0 lo) ∧
    (Builtin.Str.strSliceIndices lo hi 1 z.length).length = HT.sIx z.length z.length hi - HT.sIx z.length 0 lo := by
  obtain ⟨h1, h2, h3⟩ := slice_bounds lo hi z.length
  have e : Builtin.Str.strSliceIndices lo hi 1 z.length = sliceRange (sliceBounds lo hi none z.length).1 (sliceBounds lo hi none z.length).2.1 (sliceBounds lo hi none z.length).2.2 := rfl
  rw [e, h1, h2, h3, sliceRange_one]
  exact ⟨pick_run _ _ _, by simp⟩
theorem cutS_len (z : Str) (lo hi : Option Int) : (cutS z lo hi).length ≤ z.length := by
  unfold cutS Str.length
  simp
  omega
section
variable {X : Cx}
theorem part_of {v : Value} {o : Option Int} (h : IsPart v o) : ∃ p : Option (Int × Tok), v = partValue p ∧ p.map (·.1) = o := by
  cases h with
  | none => exact ⟨none, rfl, rfl⟩
  | int i t => exact ⟨some (i, t), rfl, rfl⟩
def rSlS : V → Option Int → Option Int → Hp → VK → Prop := fun x lo hi H Q => ∃ z, x = .str z ∧ z.length ≤ sizeLine ∧ Q (.str (cutS z lo hi)) H
theorem sl_str : SlR X rSlS := by
  intro pins s σ H x v vl vu lo hi sl Q I rx hs pl pu h
  obtain ⟨z, rfl, hz, q⟩ := h
  obtain ⟨t, rfl⟩ := rx
  obtain ⟨l, rfl, el⟩ := part_of pl
  obtain ⟨u, rfl, eu⟩ := part_of pu
  subst el eu
  refine ⟨"str", _, PySem.F.slot_str_getitem.lookup, typeIs_str s z t, ?_⟩
  refine wpAny_getItem_str_slice (l := l) (u := u) (st := none) hs rfl ?_
  obtain ⟨p1, p2⟩ := pick_cut z (l.map (·.1)) (u.map (·.1))
  have pk : slicePicked z l u none = Builtin.Str.strSliceIndices (l.map (·.1)) (u.map (·.1)) 1 z.length := rfl
  unfold sliceMade
  rw [pk]
  split
  · rename_i hh
    have len : (Builtin.Str.strSliceIndices (l.map (·.1)) (u.map (·.1)) 1 z.length).length = z.length := by
      have := (Bool.and_eq_true _ _ ▸ hh : _ ∧ _).2
      exact eq_of_beq this
    have e : cutS z (l.map (·.1)) (u.map (·.1)) = z := by
      rw [p2] at len
      unfold cutS
      rw [len]
      have sz : z.cps.toList.length = z.length := by simp [Str.length]
      by_cases h0 : z.length = 0
      · have : z.cps.toList = [] := List.length_eq_zero_iff.mp (by rw [sz]; exact h0)
        rw [this, h0]
        cases z with
        | mk c =>
          have : c = #[] := Array.size_eq_zero_iff.mp h0
          rw [this]; rfl
      · have hb : HT.sIx z.length z.length (u.map (·.1)) ≤ z.length := sIx_le _ _ (Nat.le_refl _) _
        have ha : HT.sIx z.length 0 (l.map (·.1)) = 0 := by omega
        rw [ha, List.drop_zero, List.take_of_length_le (by omega)]
    rw [e] at q
    exact ⟨.str z, H, I, ⟨t, rfl⟩, q⟩
  · rw [p1]
    exact ⟨by
      show ((List.take _ (List.drop _ z.cps.toList)).toArray).size ≤ _
      have := cutS_len z (l.map (·.1)) (u.map (·.1))
      exact Nat.le_trans this hz, .str _, H, I.tok _, ⟨_, rfl⟩, q⟩
def sgnV (z : Str) : List V := z.cps.toList.map fun c => .str ⟨#[c]⟩
theorem vals_signs {z : Str} {acc : Array Value} (h : ItemsOf (SignAt z) acc z.cps.size) : Vals (sgnV z) acc.toList := by
  have key : ∀ (cs : List Nat) (us : List Value), cs.length = us.length → (∀ (j : Nat) (u : Value), us[j]? = some u → ∃ c t, cs[j]? = some c ∧ u = .str ⟨#[c]⟩ t) → Vals (cs.map fun c => V.str ⟨#[c]⟩) us := by
    intro cs
    induction cs with
    | nil =>
      intro us hl _
      cases us with
      | nil => exact .nil
      | cons u us => simp at hl
    | cons c cs ih =>
      intro us hl hu
      cases us with
      | nil => simp at hl
      | cons u us =>
        refine .cons ?_ (ih us (by simpa using hl) fun j v hj => ?_)
        · obtain ⟨c', t, e, rfl⟩ := hu 0 u rfl
          cases e
          exact ⟨t, rfl⟩
        · have := hu (j + 1) v (by simpa using hj)
          simpa using this
  refine key _ _ (by simp [h.1]) fun j u hj => ?_
  obtain ⟨c, t, e1, e2⟩ := h.2 j u (by simpa using hj)
  exact ⟨c, t, by simpa using e1, e2⟩
theorem call_listS (hc : X.calm = true) : CallR X (.type "list") (fun xs H Q => ∃ z : Str, xs = [.str z] ∧ z.length ≤ sizeLine ∧ ∀ l, H l = none → Q (.ref l) (upd H l (.lst (sgnV z)))) := by
  intro pins s σ H xs us Q I r h
  obtain ⟨z, rfl, hz, q⟩ := h
  obtain ⟨u, rfl, t, rfl⟩ := vals1 r
  refine call_list_str (I.ok.hd hc) z t (fun h' tk acc c k e it => ?_) hz
  have vs := vals_signs it
  have new : ObjOk X.prog X.w (upd H s.heap.objs.size (.lst (sgnV z))) h' s.heap.objs.size (.lst (sgnV z)) :=
    ⟨by unfold sgnV; rw [List.length_map]; simpa [Str.length] using hz, acc.toList, c, vs, by simpa using e⟩
  exact ⟨.ref _, _, I.laid (t' := tk) k (Nat.le_refl _) new, rfl, q _ I.fresh⟩
end
theorem new_dict {X : Cx} : NewRule X newDict (fun _ => .dK []) := by
  intro pins s σ H E Q I h
  refine wpAny_newObj_type ?_
  have new : ObjOk X.prog X.w (upd H s.heap.objs.size (.dK [])) (s.heap.push { cls := .type "dict", data := .dict #[] }) s.heap.objs.size (.dK []) :=
    ⟨Nat.zero_le _, beq_eq_false_iff_ne.mpr (Ne.symm (Nat.ne_of_lt I.above)), [], .nil, Heap.DictOf.new s.heap⟩
  exact h _ (fun b o e => Heap.get?_push_of_some _ e) (I.laid (t' := s.toks) (fun b u e => Heap.get?_push_of_some _ e) (Nat.le_refl _) new)
def dictBody (kx vx : Expr) (D : Addr) (env : Env) (k : Sem Fi) : Sem Fi := (do
  let kv ← eval kx env
  let vv ← holding [kv] (eval vx env)
  standAt { kx.pos with endLine := vx.pos.endLine, endCol := vx.pos.endCol }
  holding [kv, vv] (dictSet D kv vv)) >>= fun _ => k
def tEmD (D : Addr) (tk tv : TE) : TB := fun σ H N => tk σ H fun y H1 => tv σ H1 fun v H2 => ∃ k kvs, y = kV k ∧ H2 D = some (.dK kvs) ∧ kvs.length < sizeLine ∧ N σ (upd H2 D (.dK (putK kvs k v)))
theorem pb_dict {Y : Cx} {kx vx : Expr} {tk tv : TE} {D : Addr} (hx : Y.xe = F0) (hk : PE Y kx tk) (hv : PE Y vx tv) : PB Y (dictBody kx vx D Y.env) (tEmD D tk tv) := by
  intro pins s σ H N k R I h hh
  have a1 := hk pins s σ H _ I h
  rw [hx] at a1
  refine wpAny_bind (wpAny_bind (of_F0 a1 fun u s1 ⟨y, H1, I1, ry, q1⟩ => wpAny_bind (wpAny_holding ?_)))
  have a2 := hv pins s1 σ H1 _ I1 q1
  rw [hx] at a2
  refine of_F0 a2 fun r s2 ⟨v, H2, I2, rv, kk, kvs, ey, hD, hz, n2⟩ => wpAny_bind (wpAny_standAt (wpAny_holding ?_))
  subst ey
  obtain ⟨z, hd, vs, rel, dd⟩ := dk_of I2.hok hD
  have hz' : vs.length ≤ sizeLine := by rw [← rel.length]; exact z
  have hl : (putK kvs kk v).length ≤ sizeLine := by have := length_putK kvs kk v; omega
  refine wpAny_dictSet_pairs (hsz := hz') (kV_is ry) dd fun h' dd' hs => ?_
  have he : ∃ q, h'.get? D = some q := let ⟨q, _, _, hq, _⟩ := dd'; ⟨q, hq⟩
  exact hh σ _ _ (d_write I2 (by rw [hD]; exact True.intro) hs he (dk_new hl hd (rel.put kk rv) dd')) n2
section
variable {X : Cx} {kx vx tg iter : Expr} {ifs : List Expr} {scope esc : Scope} {pos : Pos} {N os : List Str} {fi : List Nat} {wi : TI} {g : TG} {tt : TT} {tk tv : TE}
theorem pe_dictcomp (hc : X.calm = true) (hN : X.N = N) (he : X.env.scope = esc) (B : BlkOk esc scope N fi) (hi : PI X tg iter wi)
    (hg : ∀ s H fp, PG (blk X scope (nB N os fi) s H fp) tg g) (ht : ∀ s H fp, PTs (blk X scope (nB N os fi) s H fp) ifs tt)
    (hk : ∀ s H fp, PE (blk X scope (nB N os fi) s H fp) kx tk) (hv : ∀ s H fp, PE (blk X scope (nB N os fi) s H fp) vx tv)
    (hs : ∀ x, foldedSetIterable iter X.env x = pure x := by intro _; rfl) :
    PE X (.DictComp kx vx [⟨tg, iter, ifs, 0⟩] scope pos) (tCG (fun _ => .dK []) os fi wi g tt fun D => tEmD D tk tv) :=
  pe_compG (gs := []) (body := fun D env => dictBody kx vx D env) rfl rfl hc hN he B loop_dict (start_dict rfl rfl) (fun _ _ _ => rfl) new_dict hi hg ht (fun D s H fp => pb_dict rfl (hk s H fp) (hv s H fp)) hs
end
end L2
namespace PySem
namespace F
end F
section
variable {prog : Program} {w : World} {K : Type} [DecidableEq K] {knd : KeyKind prog w K} {A : Around} {R : Result → Shared → Prop}
end
section
variable {prog : Program} {w : World} {K : Type} [DecidableEq K] {knd : KeyKind prog w K} {A : Around} {E : Value → Shared → Prop} {s : Shared}
end
end PySem
namespace L2
open PySem
end L2
namespace L2
open PySem
section
variable {X : Cx}
end
end L2
namespace L2
open PySem PySem.Spec PyProof.Rows
section
variable {X : Cx}
theorem mt_startswith : MtR X "str.startswith" (fun x xs H Q => ∃ z y, x = .str z ∧ xs = [.str y] ∧ Q (.bl (Txt.startswith z y)) H) := by
  intro pins s σ H x xs v us Q I rx rv h
  obtain ⟨z, y, rfl, rfl, q⟩ := h
  obtain ⟨t, rfl⟩ := rx
  obtain ⟨u, rfl, t2, rfl⟩ := vals1 rv
  exact SC.startswith ⟨.bl _, H, I, rfl, q⟩
inductive Shown : V → Str → Prop where
  | int {i : Int} (h : i.natAbs.log2 < 1920) : Shown (.int i) (toString i)
  | str {z : Str} (h : z.length ≤ sizeLine) : Shown (.str z) z
  | non : Shown .non "None"
end
end L2
namespace L2
open PySem PySem.Spec PyProof.Rows
end L2
namespace L2
open PySem PySem.Spec PyProof.Rows
section
variable {X : Cx} {pins : List (Addr × Obj)} {σ : St} {H : Hp} {s : Shared} {scope esc : Scope} {os : List Str} {fi : List Nat} {fp : List Addr}
end
section
variable {X : Cx} {e tg iter : Expr} {ifs : List Expr} {scope esc : Scope} {pos : Pos} {N os : List Str} {fi : List Nat} {wi : TI} {g : TG} {tt : TT} {tb : Addr → TB} {body : Addr → Env → Sem Fi → Sem Fi} {o0 : Addr → HO} {mk : Sem Value} {p : Pos}
end
section
variable {X : Cx} {elt kx vx tg iter tg2 iter2 : Expr} {ifs ifs2 : List Expr} {scope esc : Scope} {pos : Pos} {N os : List Str} {fi : List Nat} {wi wi2 : TI} {g g2 : TG} {tt tt2 : TT} {te tk tv : TE}
end
end L2
namespace L2
open PySem PySem.Spec PyProof.Rows
section
variable {X : Cx}
end
section
variable {prog : Program} {w : World} {A : Around} {E : Value → Shared → Prop} {s : Shared}
end
section
variable {X : Cx} {tg : Expr}
end
end L2
namespace L2
open PySem PySem.Spec PyProof.Rows
section
variable {X : Cx} {e tg iter : Expr} {ifs : List Expr} {scope esc : Scope} {pos : Pos} {N os : List Str} {fi : List Nat} {wi : TI} {g : TG} {tt : TT} {tb : Addr → TB} {body : Addr → Env → Sem Fi → Sem Fi} {o0 : Addr → HO} {mk : Sem Value} {p : Pos}
theorem ps_compG {gs : List Comprehension} {i : Nat} {y : Str} {py spos p' : Pos} (hev : ∀ use : Option (Value → Sem Unit), True) (hex : exec (.Assign [.Name y py] e spos) X.env = (do standAt spos; let _ ← (do let _ ← comprehension e scope X.env p' mk false (eval iter X.env) (some (assign (.Name y py) X.env))); pure .next)) (hcl : clausesOf e = ⟨tg, iter, ifs, 0⟩ :: gs) (hc : X.calm = true) (hN : X.N = N) (he : X.env.scope = esc) (B : BlkOk esc scope N fi)
    (hL : LoopRule X.prog X.w X.A e 0) (hS : StartRule X.prog X.w X.A e 0) (hT : ∀ (it D : Addr) (env : Env), compTurn e 0 (.ref it) (.ref D) env = turnOf tg p ifs (.ref it) env (body D env) (again (.compLoop e 0 (.ref it) (.ref D) env)))
    (hmk : NewRule X mk o0) (hnd : X.N.Nodup) (hy : X.N[i]? = some y) (hl : Loc X.env.scope y) (hi : PI X tg iter wi)
    (hg : ∀ s H fp, PG (blk X scope (nB N os fi) s H fp) tg g) (ht : ∀ s H fp, PTs (blk X scope (nB N os fi) s H fp) ifs tt) (hb : ∀ D s H fp, PB (blk X scope (nB N os fi) s H fp) (body D (blk X scope (nB N os fi) s H fp).env) (tb D))
    (hfn : X.fn y = true ∨ X.env.scope.names.lookup y = some .local := by first | exact .inl rfl | exact .inr rfl | assumption)
    (hs : ∀ x, foldedSetIterable iter X.env x = pure x := by intro _; rfl) : PS X (.Assign [.Name y py] e spos) (fun D σ H => tCG o0 os fi wi g tt tb σ H fun v H' => D.nx (σ.set i (some v)) H') := by
  intro pins s σ H D I h
  have cells := blk_cells (by rw [hN]; exact B) he I
  rw [hex]
  refine wpAny_bind (wpAny_standAt (wpAny_bind ?_))
  refine wpAny_bind (thn (wpAny_comprehension_free (use := some (assign (.Name y py) X.env)) (Q := fun _ s' => SP X pins D .next s') hcl hs (closure_eq cells) B.kind B.loc (thn (hi pins s σ H _ I h) fun v s1 h1 => thn h1 fun itv s2 h2 => ?_)) fun _ _ z => wpAny_pure (wpAny_pure z))
  obtain ⟨it, fp, tn, J, H2, rfl, I2, T, st2, f2, q2⟩ := h2
  refine comp_coreG (Q := fun v H' => D.nx (σ.set i (some v)) H') (RR := fun acc C => compPost (model X.prog X.w) X.A X.xe (some (assign (.Name y py) X.env)) (fun _ s' => SP X pins D .next s') acc C) hc hN he B hL hS hT hmk hg ht hb I2 T st2 f2 q2 ?_
  intro Dl s3 H3 s' σ' H' I3 f3 I' q
  have J' : Inv X pins σ H' s' := blk_out I3 f3 I' (Heap.SameBut.refl ..)
  show wpAny _ _ (assign (.Name y py) X.env (.ref Dl)) _ _ s'
  refine wpAny_assign_Name (store_ok2 (v := .ref Dl) J' hnd hy hl rfl (fun s'' J'' sb => ?_) hfn)
  obtain ⟨a, sb, ha⟩ := sb
  have cL : s3.heap.objs.size ≠ X.env.locals := Nat.ne_of_gt I3.lt
  have cC : ∀ x c, X.env.cells.lookup x = some c → c ≠ s3.heap.objs.size := fun x c e => by
    obtain ⟨v, ic⟩ := I3.cell x c e
    exact Nat.ne_of_lt ic.lt
  have ca : s3.heap.objs.size ≠ a := by
    rcases ha with z | z
    · rw [z]; exact cL
    · exact (cC _ _ z).symm
  obtain ⟨m, hn, _⟩ := I'.loc
  have hn'' : s''.heap.Ns s3.heap.objs.size m := by
    obtain ⟨o, es, ep, ho, r⟩ := hn
    exact ⟨o, es, ep, (sb.2 _ ca).trans ho, r⟩
  refine ⟨m, hn'', fun h' sb' => ⟨σ.set i (some (.ref Dl)), H', ?_, q⟩⟩
  exact J''.turned (t' := s''.toks) (it := s3.heap.objs.size) (fun b o hb e => (sb'.2 b hb).trans e) I'.free cL (.inr I3.sz) cC fun p hp => Nat.ne_of_lt (Heap.lt_size (I3.pin p hp).1)
end
section
variable {X : Cx} {elt kx vx tg iter tg2 iter2 : Expr} {ifs ifs2 : List Expr} {scope esc : Scope} {pos : Pos} {N os : List Str} {fi : List Nat} {wi wi2 : TI} {g g2 : TG} {tt tt2 : TT} {te tk tv : TE}
theorem pe_compL (hc : X.calm = true) (hN : X.N = N) (he : X.env.scope = esc) (B : BlkOk esc scope N fi) (hi : PI X tg iter wi)
    (hg : ∀ s H fp, PG (blk X scope (nB N os fi) s H fp) tg g) (ht : ∀ s H fp, PTs (blk X scope (nB N os fi) s H fp) ifs tt)
    (hel : ∀ s H fp, PE (blk X scope (nB N os fi) s H fp) elt te)
    (hs : ∀ x, foldedSetIterable iter X.env x = pure x := by intro _; rfl) :
    PE X (.ListComp elt [⟨tg, iter, ifs, 0⟩] scope pos) (tCG (fun _ => .lst []) os fi wi g tt fun D => tEmL D te) :=
  pe_compG (gs := []) (body := fun D env => listBody elt (.ref D) env) rfl rfl hc hN he B loop_list (start_list rfl rfl) (fun _ _ _ => rfl) new_list hi hg ht (fun D s H fp => pb_list rfl (hel s H fp)) hs
theorem ps_compL {i : Nat} {y : Str} {py spos : Pos} (hc : X.calm = true) (hN : X.N = N) (he : X.env.scope = esc) (B : BlkOk esc scope N fi) (hnd : X.N.Nodup) (hy : X.N[i]? = some y) (hl : Loc X.env.scope y) (hi : PI X tg iter wi)
    (hg : ∀ s H fp, PG (blk X scope (nB N os fi) s H fp) tg g) (ht : ∀ s H fp, PTs (blk X scope (nB N os fi) s H fp) ifs tt) (hel : ∀ s H fp, PE (blk X scope (nB N os fi) s H fp) elt te)
    (hsw : swapsWith (.ListComp elt [⟨tg, iter, ifs, 0⟩] scope pos) (some (.Name y py)) spos.line X.env = pure true := by rfl)
    (hfn : X.fn y = true ∨ X.env.scope.names.lookup y = some .local := by first | exact .inl rfl | exact .inr rfl | assumption)
    (hs : ∀ x, foldedSetIterable iter X.env x = pure x := by intro _; rfl) : PS X (.Assign [.Name y py] (.ListComp elt [⟨tg, iter, ifs, 0⟩] scope pos) spos) (fun D σ H => tCG (fun _ => .lst []) os fi wi g tt (fun D => tEmL D te) σ H fun v H' => D.nx (σ.set i (some v)) H') :=
  ps_compG (gs := []) (body := fun D env => listBody elt (.ref D) env) (fun _ => trivial) (exec_Assign_Name_used _ _ _ _ hsw) rfl hc hN he B loop_list (start_list rfl rfl) (fun _ _ _ => rfl) new_list hnd hy hl hi hg ht (fun D s H fp => pb_list rfl (hel s H fp)) hfn hs
end
theorem lr_list {K : PySem.W.Frag} {S : Addr} {xs : List V} {g : TG} {tt : TT} {tb : TB} {σ : St} {H : Hp} {N : St → Hp → Prop} (Pv : Nat → St → Hp → Prop) (h0 : Pv 0 σ H) (hS : ∀ i σ H, Pv i σ H → SqL K H S xs)
    (step : ∀ (i : Nat) (x : V) (σ : St) (H : Hp) (C : St → Hp → Prop), xs[i]? = some x → Pv i σ H → (∀ σ' H', Pv (i + 1) σ' H' → C σ' H') → g x σ H fun σ4 H4 => tt σ4 H4 fun ok H5 => if ok = true then tb σ4 H5 C else C σ4 H5)
    (fin : ∀ σ H, Pv xs.length σ H → N σ H) : LR (Itl K S) g tt tb σ H N := by
  refine ⟨fun i m σ H => m = xs.length - i ∧ i ≤ xs.length ∧ Pv i σ H, ⟨_, rfl, Nat.zero_le _, h0⟩, ?_⟩
  rintro i m σ2 H2 ⟨rfl, hi, p⟩
  have sq := hS i σ2 H2 p
  by_cases hlt : i < xs.length
  · refine .inr ⟨⟨xs, _, sq, List.getElem?_eq_getElem hlt⟩, ?_⟩
    rintro x H3 ⟨rfl, hx⟩
    exact step i x σ2 H3 _ (hx _ sq) p fun σ' H' p' => ⟨xs.length - (i + 1), by omega, rfl, hlt, p'⟩
  · have e : i = xs.length := by omega
    subst e
    exact .inl ⟨⟨xs, sq, Nat.le_refl _⟩, fin σ2 H2 p⟩
end L2
namespace L2
open PySem PySem.Spec PyProof.Rows
section
variable {prog : Program} {w : World} {A : Around} {E : Value → Shared → Prop} {h : Heap} {g : Array GenState} {d : Drawn} {t : Nat} {os : OsState} {nm q : Str} {C N : Addr} {bs bm bmB : List Value} {hdct : Bool} {sn : List Str} {sub : List Value} {ab : Bool} {col : Option Bool}
  {dd : Option Addr} {k0 k1 k2 k3 k5 : Option Value} {B newId initId : String}
theorem type_call_initT (F : ExcBaseFacts B newId initId bmB) (T : OwnTail h bmB bm) {mN : Str → Option Value} {rest : List Value} {fI : Addr} {oI : Obj} {Q : PySem.Fin → Shared → Prop}
    (hC : h.get? C = some (excClassObj nm q C N bs bm hdct sn sub ab col dd k0 k1 k2 k3 k5 newId)) (hn : h.Ns N mN) (hi : mN (Str.ofString "__init__") = some (.ref fI)) (hfI : h.get? fI = some oI) (hfc : oI.cls = .type "function")
    (hq : ∀ (h' : Heap) (e : Addr), h.MadeExcOf h' e (.ref C) rest → wpAny (model prog w) A (call (.ref fI) (.ref e :: rest)) (fun r s' => r = .none ∧ Q (.done (.ret (.ref e))) s') E { heap := h', gens := g, drawn := d, toks := t, os := os })
    (hrest : rest.length ≤ sizeLine) : wpAny (model prog w) A (Builtin.«type.__call__» { pos := .ref C :: rest }) Q E { heap := h, gens := g, drawn := d, toks := t, os := os } := by
  unfold Builtin.«type.__call__»
  refine wpAny_ite_false rfl ?_
  refine wpAny_bind (id (wpAny_bind (id (wpAny_bind (wpAny_load' hC (wpAny_pure (wpAny_pure (wpAny_ite_false rfl (wpAny_bind (wpAny_madeBy_exc hC (wpAny_bind (wpAny_pure (wpAny_bind (wpAny_holding (wpAny_call ?_)))))))))))))))
  refine codeAny_call_builtin_code (Code.quiet_builtin { pos := Value.ref C :: rest } F.quiet) (wpAny_check_new_subT F T hC (codeAny_exc_new_subT F T hC (id ?_) hrest))
  have hk : ∀ (b : Addr) (o : Obj), h.get? b = some o → ((h.push { cls := Value.type "tuple", data := Data.seq rest.toArray }).push { cls := Value.ref C, data := Data.fields #[Value.ref h.objs.size, Value.none, Value.none, Value.none, Value.bool false, Value.none] }).get? b = some o := fun b o e => Heap.get?_push_of_some _ (Heap.get?_push_of_some _ e)
  have hC₁ := hk _ _ hC
  have hn₁ := hn.keeps hk
  have T₁ := T.keeps hk
  have hget : ((h.push { cls := Value.type "tuple", data := Data.seq rest.toArray }).push { cls := Value.ref C, data := Data.fields #[Value.ref h.objs.size, Value.none, Value.none, Value.none, Value.bool false, Value.none] }).get? (h.objs.size + 1) = _ := Heap.get?_push_at (by rw [Heap.size_push]) rfl
  have hcC : (Value.ref C :: bm).contains (Value.ref C) = true := by simp
  have hm : h.MadeExcOf ((h.push { cls := Value.type "tuple", data := Data.seq rest.toArray }).push { cls := Value.ref C, data := Data.fields #[Value.ref h.objs.size, Value.none, Value.none, Value.none, Value.bool false, Value.none] }) (h.objs.size + 1) (.ref C) rest := by
    refine ⟨hk, ?_, h.objs.size, hget, ?_, ?_⟩
    · exact Heap.get?_none_of_le (Nat.le_succ _)
    · exact Heap.get?_none_of_le (Nat.le_refl _)
    · exact Heap.get?_push_of_some _ (Heap.get?_push_at rfl rfl)
  have z := hq _ _ hm
  generalize hH : ((h.push { cls := Value.type "tuple", data := Data.seq rest.toArray }).push { cls := Value.ref C, data := Data.fields #[Value.ref h.objs.size, Value.none, Value.none, Value.none, Value.bool false, Value.none] }) = h2 at *
  show wpAny (model prog w) A _ Q E { heap := h2, gens := g, drawn := d, toks := t, os := os }
  refine wpAny_bind (wpAny_bind (id (wpAny_bind (wpAny_loadPart_at hget (wpAny_pure (wpAny_isSubtype_exc hC₁ ?_))))))
  rw [hcC]
  refine wpAny_ite_false rfl (wpAny_bind (wpAny_holding (id (wpAny_bind (id (wpAny_bind (id (wpAny_bind (wpAny_loadPart_at hget (wpAny_pure (id (wpAny_typeLookup_tail hC₁ hn₁ T₁ F.mroIs F.init.lookup ?_))))))))))))
  rw [hi]
  refine wpAny_holding (wpAny_bind (id (wpAny_bind (wpAny_typeOf ⟨oI, hk _ _ hfI, hfc⟩ ?_))))
  refine wpAny_ite_true (by decide +kernel) (wpAny_pure (wpAny_bind (thn z fun r s' hz => ?_)))
  obtain ⟨rfl, zq⟩ := hz
  exact wpAny_pure (wpAny_ite_false rfl (wpAny_pure zq))
theorem call_initT (F : ExcBaseFacts B newId initId bmB) (T : OwnTail h bmB bm) {mN : Str → Option Value} {rest : List Value} {fI : Addr} {oI : Obj} {Q : Value → Shared → Prop}
    (hC : h.get? C = some (excClassObj nm q C N bs bm hdct sn sub ab col dd k0 k1 k2 k3 k5 newId)) (hn : h.Ns N mN) (hi : mN (Str.ofString "__init__") = some (.ref fI)) (hfI : h.get? fI = some oI) (hfc : oI.cls = .type "function")
    (hq : ∀ (h' : Heap) (e : Addr), h.MadeExcOf h' e (.ref C) rest → wpAny (model prog w) (A.under (Code.builtin "type.__call__" { pos := Value.ref C :: rest })) (call (.ref fI) (.ref e :: rest)) (fun r s' => r = .none ∧ Q (.ref e) s') E { heap := h', gens := g, drawn := d, toks := t, os := os })
    (hrest : rest.length ≤ sizeLine) : wpAny (model prog w) A (call (.ref C) rest) Q E { heap := h, gens := g, drawn := d, toks := t, os := os } := by
  have f1 := tc_lookup
  have f2 := tc_bind (Value.ref C)
  have hT : ({ heap := h, gens := g, drawn := d, toks := t, os := os } : Shared).TypeIs (.ref C) "type" := ⟨_, hC, rfl⟩
  refine wpAny_call (codeAny_of_tree (id (id (wpAny_bind (wpAny_load' hC (id (id (wpAny_bind (wpAny_specialOf hT f1 (wpAny_bind (wpAny_of_eq f2 (wpAny_bind (id (wpAny_pure (wpAny_ite_true rfl (id (wpAny_pure ⟨rfl, ?_⟩)))))))))))))))))
  exact codeAny_call_builtin_at (Code.quiet_builtin { pos := [Value.ref C] ++ { pos := rest : Args }.pos } (by decide +kernel)) entry_typeCall
    (wpAny_check_type_call_sub hC (type_call_initT F T hC hn hi hfI hfc (fun h' e hm => hq h' e hm) hrest))
end
end L2
namespace L2
open PySem PySem.Spec PyProof.Rows
theorem own_init : builtinOwn "ValueError" "__init__" = some (.builtin "ValueError.__init__") := by decide +kernel
theorem typ_init : typeOf (.builtin "ValueError.__init__") = pure (.type "wrapper_descriptor") := by rfl
theorem slot_wdget : Slot "wrapper_descriptor" "__get__" "wrapper_descriptor.__get__" :=
  Slot.of (owner := "wrapper_descriptor") (n := "__get__") (by rw [typeLookup_type, builtinLookup_eq_fast]; rfl) (by decide +kernel) (by decide +kernel) (by decide +kernel) (Or.inl (by decide +kernel)) (by rw [isSubtype_type]; rfl) (by decide +kernel)
theorem entry_wdget : entryFor table "wrapper_descriptor.__get__" = some Builtin.«wrapper_descriptor.__get__» := entryFor_of_tree (by show _ = _; rfl)
theorem args_wdget (a b c : Value) : argsOk "wrapper_descriptor.__get__" { pos := [a, b, c] } := by show _ = _; rfl
theorem classOwn_own {M : Model} {A : Around} {E : Value → Shared → Prop} {s : Shared} {a : Addr} {c0 : Value} {dd : Option Addr} {cd : ClassData} {sl : Array (Option Value)} {mA : Str → Option Value} {name : Str} {Q : Option Value → Shared → Prop}
    (hA : s.heap.get? a = some { cls := c0, dict := dd, data := .cls cd, slots := sl }) (hN : s.heap.Ns cd.ns mA) (q : Q (mA name) s) : wpAny M A (classOwn (.ref a) name) Q E s := by
  unfold classOwn classData
  exact wpAny_bind (wpAny_bind (wpAny_load' hA (wpAny_pure (wpAny_nsGet hN q))))
section
variable {prog : Program} {w : World} {A : Around} {E : Value → Shared → Prop} {h : Heap} {g : Array GenState} {d : Drawn} {t : Nat} {os : OsState}
theorem super_ga {so D x C : Addr} {l₀ l : List Value} {tk : Tok} {Q : PySem.Fin → Shared → Prop} (hso : h.get? so = some { cls := .type "super", data := .fields #[.ref D, .ref x, .ref C] })
    (hno : PySem.W.Looks (model prog w) h (opaqueClassAbove (.ref C)) none) (hC : PySem.W.Looks (model prog w) h (mroOf (.ref C)) l₀) (hl : List.drop 1 (List.dropWhile (fun x => x != Value.ref D) l₀) = l) (hxC : x ≠ C)
    (T : OwnTail h bmV l) {ox : Obj} (hx : h.get? x = some ox) (hxc : ox.cls = .ref C) (hsub : PySem.W.Looks (model prog w) h (isSubtype (.ref C) (.type "ValueError")) true)
    (hq : Q (.done (.ret (.ref h.objs.size))) { heap := h.push { cls := .type "method-wrapper", data := .fields #[.builtin "ValueError.__init__", .ref x] }, gens := g, drawn := d, toks := t, os := os }) :
    wpAny (model prog w) A (Builtin.«super.__getattribute__» { pos := [.ref so, .str "__init__" tk] }) Q E { heap := h, gens := g, drawn := d, toks := t, os := os } := by
  unfold Builtin.«super.__getattribute__»
  refine wpAny_bind (id (wpAny_pure (wpAny_ite_false rfl (wpAny_bind (id (wpAny_pure ?_))))))
  refine wpAny_bind (wpAny_field (x := Value.ref D) hso rfl rfl (wpAny_bind (wpAny_field (x := Value.ref x) hso rfl rfl (wpAny_bind (wpAny_field (x := Value.ref C) hso rfl rfl ?_)))))
  refine wpAny_ite_false rfl (wpAny_bind (ks_wpAny_notOpaque hno ?_))
  refine wpAny_ite_false rfl (wpAny_bind (hC.at ?_))
  dsimp only
  rw [hl]
  clear hC hl
  refine wpAny_bind ?_
  induction T with
  | own hA hN hi T ih =>
    rw [List.forIn_cons]
    refine wpAny_bind (wpAny_bind ?_)
    refine classOwn_own hA hN ?_
    rw [hi]
    exact wpAny_pure ih
  | base =>
    rw [List.forIn_cons]
    refine wpAny_bind (wpAny_bind ?_)
    refine wpAny_of_eq (show classOwn (.type "ValueError") (Str.ofString "__init__") = pure (some (.builtin "ValueError.__init__")) from congrArg pure own_init) ?_
    have hne : (Value.ref x == Value.ref C) = false := by simp [hxC]
    rw [hne]
    refine wpAny_bind (wpAny_of_eq typ_init (wpAny_bind (wpAny_of_eq slot_wdget.lookup (wpAny_bind (wpAny_holding (wpAny_call_entry slot_wdget rfl entry_wdget ?_ (args_wdget _ _ _)))))))
    unfold Builtin.«wrapper_descriptor.__get__»
    refine wpAny_bind (wpAny_of_eq (a := (Value.builtin "ValueError.__init__", some (Value.ref x), some (Value.ref C))) rfl ?_)
    refine wpAny_bind ?_
    refine wpAny_bind (wpAny_of_eq (a := (Str.ofString "__init__", Value.type "ValueError")) ?_ ?_)
    · rfl
    refine wpAny_bind ?_
    unfold isInstance
    refine wpAny_bind (wpAny_typeOf_ref hx ?_)
    rw [hxc]
    refine hsub.at ?_
    refine wpAny_ite_false rfl (wpAny_pure (wpAny_bind ?_))
    unfold newFields newObj
    exact wpAny_bind (wpAny_alloc' (wpAny_pure (wpAny_pure ⟨_, rfl, wpAny_bind (wpAny_pure (wpAny_pure (wpAny_pure (wpAny_pure hq))))⟩)))
end
end L2
namespace L2
open PySem PySem.Spec PyProof.Rows
section
variable {M : Model} {A : Around} {E : Value → Shared → Prop} {h : Heap} {g : Array GenState} {d : Drawn} {t : Nat} {os : OsState} {nm q : Str} {C N : Addr} {bs bm : List Value} {hdct : Bool} {sn : List Str} {sub : List Value} {ab : Bool} {col : Option Bool}
  {dd : Option Addr} {k0 k1 k2 k3 k5 : Option Value} {newId : String}
theorem bound_init {x : Addr} {m : Value} {ox : Obj} {Q : Unit → Shared → Prop} (hC : h.get? C = some (excClassObj nm q C N bs bm hdct sn sub ab col dd k0 k1 k2 k3 k5 newId)) (hx : h.get? x = some ox) (hxc : ox.cls = .ref C) (hq : Q () { heap := h, gens := g, drawn := d, toks := t, os := os }) :
    wpAny M A (checkBoundCall "ValueError.__init__" { pos := [.ref x, m] }) Q E { heap := h, gens := g, drawn := d, toks := t, os := os } := by
  have e1 : (Manifest.Receiver.self == Manifest.Receiver.none) = false := by decide
  unfold checkBoundCall
  rw [F.excBase_ValueError.initRow, F.excBase_ValueError.initKind]
  dsimp only
  rw [if_pos (by decide)]
  unfold Bind.checkArgs Bind.printed Bind.receiverType typeNameWhole
  simp only [e1]
  refine wpAny_bind (wpAny_ite_false (by decide) (wpAny_bind ?_))
  refine wpAny_typeOf_ref hx ?_
  rw [hxc]
  unfold classData
  refine wpAny_bind (wpAny_bind (wpAny_bind (wpAny_load' hC (wpAny_pure (wpAny_pure (wpAny_pure ?_))))))
  refine wpAny_bind (wpAny_ite_true (by decide) (wpAny_pure ?_))
  exact wpAny_onRaise (wpAny_of_eq (a := ()) rfl hq)
end
section
variable {prog : Program} {w : World} {A : Around} {E : Value → Shared → Prop} {h : Heap} {g : Array GenState} {d : Drawn} {t : Nat} {os : OsState}
theorem super_init {so D x C : Addr} {l₀ l : List Value} {pl : Sem Bool} {Q : Value × List Value → Shared → Prop} (hso : h.get? so = some { cls := .type "super", data := .fields #[.ref D, .ref x, .ref C] })
    (hno : PySem.W.Looks (model prog w) h (opaqueClassAbove (.ref C)) none) (hC : PySem.W.Looks (model prog w) h (mroOf (.ref C)) l₀) (hl : List.drop 1 (List.dropWhile (fun x => x != Value.ref D) l₀) = l) (hxC : x ≠ C)
    (T : OwnTail h bmV l) {ox : Obj} (hx : h.get? x = some ox) (hxc : ox.cls = .ref C) (hsub : PySem.W.Looks (model prog w) h (isSubtype (.ref C) (.type "ValueError")) true)
    (hq : Q (.ref h.objs.size, []) { heap := h.push { cls := .type "method-wrapper", data := .fields #[.builtin "ValueError.__init__", .ref x] }, gens := g, drawn := d, toks := t + 1, os := os }) :
    wpAny (model prog w) A (getMethod (.ref so) "__init__" pl) Q E { heap := h, gens := g, drawn := d, toks := t, os := os } := by
  have hT : ∀ tk, ({ heap := h, gens := g, drawn := d, toks := tk, os := os } : Shared).TypeIs (.ref so) "super" := fun tk => ⟨_, hso, rfl⟩
  unfold getMethod
  refine wpAny_bind (wpAny_specialOf (hT _) F.ks_slot_super_ga.lookup (wpAny_ite_true F.ks_canon_super_ga (wpAny_bind ?_)))
  unfold getAttr getAttrBy
  refine wpAny_bind (wpAny_mkText (wpAny_holding (wpAny_bind (wpAny_typeOf (hT _) (wpAny_bind (wpAny_of_eq F.ks_slot_super_ga.lookup ?_))))))
  refine wpAny_ite_false (by decide +kernel) ?_
  unfold getAttrByItsOwn hookBefore
  have f3 := F.ks_slot_super_ga.bind (.ref so)
  repeat (first | assumption | wp_step)
  refine codeAny_call_builtin F.ks_slot_super_ga.plain F.ks_entry_super_ga (F.ks_slot_super_ga.check _ _ _ _ _ _ _ _ (hT _) (F.ks_gaArgs_super _ _) (super_ga hso hno hC hl hxC T hx hxc hsub ?_))
  show wpAny (model prog w) A (handedOut (.ref h.objs.size)) _ _ _
  exact PySem.W.handed_on rfl (wpAny_pure hq)
theorem call_wrapper {nm q : Str} {C N : Addr} {bs bm : List Value} {hdct : Bool} {sn : List Str} {sub : List Value} {ab : Bool} {col : Option Bool} {dd : Option Addr} {k0 k1 k2 k3 k5 : Option Value} {newId : String} {m x : Addr} {msg : Value} {ox : Obj} {vs : Array Value} {Q : Value → Shared → Prop} (hm : h.get? m = some { cls := .type "method-wrapper", data := .fields #[.builtin "ValueError.__init__", .ref x] })
    (hC : h.get? C = some (excClassObj nm q C N bs bm hdct sn sub ab col dd k0 k1 k2 k3 k5 newId)) (hx : h.get? x = some ox) (hxc : ox.cls = .ref C) (hxd : ox.data = .fields vs) {v0 : Value} (hv0 : vs[0]? = some v0)
    (hq : Q .none { heap := (h.push { cls := .type "tuple", data := .seq #[msg] }).update x (Obj.mapFields fun y => y.setIfInBounds 0 (.ref h.objs.size)), gens := g, drawn := d, toks := t, os := os }) :
    wpAny (model prog w) A (call (.ref m) [msg]) Q E { heap := h, gens := g, drawn := d, toks := t, os := os } := by
  have hT : ({ heap := h, gens := g, drawn := d, toks := t, os := os } : Shared).TypeIs (.ref m) "method-wrapper" := ⟨_, hm, rfl⟩
  refine wpAny_call (codeAny_of_tree (id (id (wpAny_bind (wpAny_load' hm (id (id (wpAny_bind (bound_init hC hx hxc ?_)))))))))
  refine wpAny_pure ⟨Code.quiet_builtin _ (by decide +kernel), codeAny_builtin F.excBase_ValueError.initEntry ?_⟩
  unfold Builtin.«BaseException.__init__»
  refine wpAny_ite_false rfl (wpAny_bind (wpAny_newTuple ?_ (by show 1 ≤ sizeLine; decide)))
  unfold Builtin.BaseException.bexcPut
  have hx1 : (h.push { cls := .type "tuple", data := .seq #[msg] }).get? x = some ox := Heap.get?_push_of_some _ hx
  refine wpAny_bind (wpAny_bind (wpAny_field hx1 hxd hv0 (wpAny_bind (wpAny_setField hx1 hxd (Array.getElem?_eq_some_iff.mp hv0).1 ?_))))
  have fin : wpAny (model prog w) (A.under (Code.builtin "ValueError.__init__" { pos := [.ref x, msg] })) (ret .none) (fun fin s' =>
          match fin with
          | Fin.done f => match (Except.ok f : Except Value Flow) with
            | Except.ok (Flow.ret v) => Q v s'
            | Except.ok a => False
            | Except.error e => E e s'
          | Fin.again c' => c'.quiet = true ∧ codeAny (model prog w) A c' (fun r s' => match r with
              | Except.ok (Flow.ret v) => Q v s'
              | Except.ok a => False
              | Except.error e => E e s') s') (fun e s' => E e s') { heap := (h.push { cls := .type "tuple", data := .seq #[msg] }).update x (Obj.mapFields fun y => y.setIfInBounds 0 (.ref h.objs.size)), gens := g, drawn := d, toks := t, os := os } := wpAny_pure hq
  cases v0 with
  | ref a => exact wpAny_letGo fin
  | _ => exact wpAny_pure fin
end
end L2
namespace L2
open PySem PySem.Spec PyProof.Rows
def ownV : Value → Bool
  | .ref _ => true
  | _ => false
def onlyV (l : List Value) : Bool := l.dropWhile ownV == bmV
def overV (K : PySem.W.Frag) (C : Addr) : Bool := (PySem.W.clsIn K C).any fun cd => onlyV cd.mro
theorem refuse_drop (self : Value) (what : Str) : ∀ l : List Value, refuseLoop self what l = refuseLoop self what (l.dropWhile ownV)
  | [] => rfl
  | .ref c :: r => by rw [refuseLoop_ref, refuse_drop self what r]; rfl
  | .type _ :: _ => rfl
  | .none :: _ => rfl
  | .ellipsis :: _ => rfl
  | .notImplemented :: _ => rfl
  | .bool _ :: _ => rfl
  | .int _ _ :: _ => rfl
  | .float _ _ :: _ => rfl
  | .str _ _ :: _ => rfl
  | .bytes _ _ :: _ => rfl
  | .builtin _ :: _ => rfl
theorem refuse_onlyV (self : Value) {l : List Value} (e : onlyV l = true) : refuseLoop self "__setattr__" l = pure () := by
  rw [refuse_drop, beq_iff_eq.mp e]
  exact PySem.F.store_ValueError.passes self
theorem onlyV_has {l : List Value} (e : onlyV l = true) : (.type "object") ∈ l := by
  have z : (.type "object" : Value) ∈ l.dropWhile ownV := by rw [beq_iff_eq.mp e]; simp
  exact List.dropWhile_subset _ z
open Builtin.ObjectAttr in
theorem osa_openV {prog : Program} {w : World} {A : Around} {R : Result → Shared → Prop} {s : Shared} {K : PySem.W.Frag} {x C : Addr} {ox : Obj} {od : Option Obj} {name : Str} {tk : Tok} {v : Value} (X : K.In s.heap) (J : PySem.W.InstAt s.heap x ox C od) (hp : overV K C = true) (ht : PySem.W.takerIn K C name = some none)
    (h : ∀ b, wpAny (model prog w) A.in1 (Builtin.ObjectAttr.storeInOwnDict (.ref x) (.ref C) (.str name tk) name v b)
      (fun fin s' => match fin with | .done f => R (.ok f) s' | .again c' => c'.quiet = true ∧ codeAny (model prog w) A c' R s') (fun e s' => R (.error e) s') s) :
    codeAny (model prog w) A (.call (.builtin "object.__setattr__") ⟨[.ref x, .str name tk, v], []⟩) R s := by
  obtain ⟨cd, hc, ho⟩ := PySem.W.any_some hp
  have mem := onlyV_has ho
  have ne : cd.mro.isEmpty = false := by
    cases q : cd.mro with
    | nil => rw [q] at mem; cases mem
    | cons _ _ => rfl
  have mo : PySem.W.mroIn K C (.type "object") = some true := by
    unfold PySem.W.mroIn
    rw [hc, Option.bind_some, ne, List.contains_iff_mem.mpr mem]
    rfl
  have sub : PySem.W.Looks (model prog w) s.heap (isInstance (.ref x) (.type "object")) true := J.type.andThen (PySem.W.looks_mroIn X mo)
  obtain ⟨attr, ha, hr⟩ := Option.bind_eq_some_iff.mp ht
  have LM : PySem.W.Looks (model prog w) s.heap (mroOf (.ref C)) cd.mro := (PySem.W.looks_clsIn X hc).andThen .now
  have LT : PySem.W.Looks (model prog w) s.heap (storeTaker? attr) none := by
    cases attr with
    | none => exact .now
    | some a =>
      obtain ⟨b, hb, e⟩ := Option.map_eq_some_iff.mp hr
      cases b with
      | true => cases e
      | false => exact (PySem.W.looks_takesIn X hb).andThen .now
  have SO := PySem.F.store_object
  refine codeAny_call_builtin SO.slot.plain SO.entry ?ck
  have go := @PySem.W.check_slot (model prog w) A.in1 (fun e s' => R (.error e) s') s "object.__setattr__" "object" "__setattr__" (.ref x) [.str name tk, v] []
  refine go SO.kind SO.split sub (SO.args _ _ _) ?_
  rw [PySem.W.osa_eq, PySem.refuse_eq]
  refine wpAny_bind (wpAny_bind (J.type.here (wpAny_bind (LM.here ?_))))
  rw [refuse_onlyV _ ho]
  exact wpAny_pure (wpAny_bind (J.type.here (wpAny_bind ((PySem.W.looks_findIn X ha).here (wpAny_bind (LT.here (h _)))))))
section
variable {prog : Program} {w : World} {A : Around} {E : Value → Shared → Prop} {s : Shared} {K : PySem.W.Frag} {x C : Addr} {ox : Obj} {name : Str} {v : Value}
theorem set_exc {Q : Unit → Shared → Prop} (X : K.In s.heap) (J : PySem.W.InstAt s.heap x ox C none) (hx : s.heap.get? x = some ox)
    (hs : PySem.W.findIn K (.ref C) "__setattr__" = some (some (.builtin "object.__setattr__"))) (hp : overV K C = true) (ht : PySem.W.takerIn K C name = some none) (hh : PySem.W.hasDictIn K C = true) {vs : Array Value} {sl : Array (Option Value)} (hox : ox = { cls := .ref C, dict := none, data := .fields vs, slots := sl })
    (h : ∀ h', h'.get? x = some { cls := .ref C, dict := some s.heap.objs.size, data := .fields vs, slots := sl } → h'.Ns1 s.heap.objs.size (fun y => if y = name then some v else none) → (∀ b o, b ≠ x → b ≠ s.heap.objs.size → s.heap.get? b = some o → h'.get? b = some o) → Q () { s with heap := h', toks := s.toks + 2 }) : wpAny (model prog w) A (setAttr (.ref x) name v) Q E s := by
  refine PySem.W.set_plain X J hs (osa_openV (s := { s with toks := s.toks + 1 }) X J hp ht fun b => ?_)
  obtain ⟨cd, hcd, hd'⟩ := PySem.W.any_some hh
  dsimp only
  unfold Builtin.ObjectAttr.storeInOwnDict
  refine wpAny_bind (wpAny_pure (wpAny_bind ?_))
  unfold Builtin.ObjectAttr.ownDictForStores instanceDict
  subst hox
  refine wpAny_bind (wpAny_loadPart hx (wpAny_bind (PySem.W.Looks.here (s := { s with toks := s.toks + 1 }) (PySem.W.looks_clsIn X hcd) ?_)))
  rw [hd']
  refine wpAny_ite_false rfl (wpAny_ite_false ?_ (wpAny_bind (wpAny_alloc' ?_)))
  · rfl
  have hx1 : (s.heap.push { cls := .type "dict", data := .dict #[] }).get? x = some { cls := .ref C, dict := none, data := .fields vs, slots := sl } := Heap.get?_push_of_some _ hx
  refine wpAny_bind (wpAny_update' hx1 ?_)
  unfold dictMade
  refine wpAny_pure ?_
  have xl := Heap.lt_size hx
  have xn : s.heap.objs.size ≠ x := (Nat.ne_of_lt xl).symm
  generalize hh1 : ((s.heap.push { cls := .type "dict", data := .dict #[] }).update x fun o => { cls := o.cls, dict := some s.heap.objs.size, data := o.data, slots := o.slots }) = h1
  have e1 : h1.get? s.heap.objs.size = some PySem.W.emptyDict := by
    rw [← hh1, Heap.get?_update_ne _ _ _ _ xn]
    exact Heap.get?_push_size _ rfl
  have e2 : h1.get? x = some { cls := .ref C, dict := some s.heap.objs.size, data := .fields vs, slots := sl } := by
    rw [← hh1]
    exact Heap.get?_update_self _ hx1 rfl
  have e3 : h1.Ns s.heap.objs.size (fun _ => none) := ⟨PySem.W.emptyDict, #[], _, e1, rfl, (fun e he => absurd he (by simp)), fun _ => rfl⟩
  have e4 : ∀ b o, b ≠ x → s.heap.get? b = some o → h1.get? b = some o := fun b o n q => by
    rw [← hh1, Heap.get?_update_ne _ _ _ _ n]
    exact Heap.get?_push_of_some _ q
  unfold Builtin.ObjectAttr.storeInDict
  refine wpAny_bind (wpAny_pure (wpAny_bind ?_))
  refine wpAny_nsSet1 (s := { s with heap := h1, toks := s.toks + 1 }) (Heap.Ns1.of_empty e3) fun h' hn2 hs2 => ?_
  have hw : PySem.Within (fun _ : Str => (none : Option Value)) [] := fun y hy => absurd rfl hy
  obtain ⟨oD, esD, epD, hoD, hdD, hcD⟩ := hn2.count (PySem.Within.cons name v hw)
  refine wpAny_bind (wpAny_lookBehind hoD (by rw [hdD]; exact pastItsLine_dict (Nat.le_trans hcD (by rw [sizeLine_eq]; show 1 ≤ _; omega))) ?_)
  exact wpAny_pure (h _ ((hs2.2 _ xn.symm).trans e2) hn2 fun b o n1 n2 q => (hs2.2 b n2).trans (e4 b o n1 q))
end
end L2
namespace L2
open PySem PySem.Spec PyProof.Rows
section
variable {prog : Program} {w : World} {A : Around} {E : Value → Shared → Prop} {s : Shared} {K : PySem.W.Frag}
theorem super_at {Q : Value → Shared → Prop} {body : List Stmt} {whole : Sem Value} {fI e C cc c2 L : Addr} {oI oe oC o2 : Obj} {fd : FuncData} {cd : ClassData} {p0 p1 : Pos} {ar : Arg} {cs : Array Value} {file : Str} {tf : Tok} {mg mb m : Str → Option Value}
    (X : K.In s.heap) (hfI : s.heap.get? fI = some oI) (hfd : oI.data = .func fd)
    (h1 : fd.scope.names.lookup ("self" : Str) = some NameKind.local) (h3 : fd.scope.names.lookup ("super" : Str) = some NameKind.globalImplicit) (h4 : fd.scope.names.lookup ("__class__" : Str) = some NameKind.free) (g3 : fd.scope.kind = .function) (hcl : fd.closure = [(("__class__" : Str), cc)])
    (hpa : (fd.params.posonlyargs ++ fd.params.args).head? = some ar) (har : ar.arg = "self") (hcd : fd.code = .ref c2) (hc2 : s.heap.get? c2 = some o2) (hc3 : o2.data = .fields cs) (hc4 : cs[2]? = some (.str file tf)) (hfi : (prog.main.file == file) = true)
    (hns : (prog.main.scope.names.lookup ("super" : Str)).isSome = false) (gN : s.heap.Ns fd.globals mg) (gs : mg "super" = none) (bN : s.heap.Ns fd.builtins mb) (bs : mb "super" = some (.type "super")) (hcc : s.heap.IsCell cc (some (.ref C)))
    (hL : s.heap.Ns L m) (hm : m "self" = some (.ref e)) (hC : s.heap.get? C = some oC) (hCd : oC.data = .cls cd) (he : s.heap.get? e = some oe) (hec : oe.cls = .ref C) (hen : ∀ c, oe.data ≠ .cls c)
    (hty : PySem.W.Looks (model prog w) s.heap (isType (.ref C)) true) (hself : PySem.W.Looks (model prog w) s.heap (isSubtype (.ref C) (.ref C)) true)
    (hq : ∀ (h' : Heap), h'.get? s.heap.objs.size = some { cls := .type "super", data := .fields #[.ref C, .ref e, .ref C] } → (∀ b o, s.heap.get? b = some o → h'.get? b = some o) → Q (.ref s.heap.objs.size) { s with heap := h' }) :
    PySem.wpAt (model prog w) A (Code.func body (callEnv fd L fI)) (attributeBase (.Call (.Name "super" p0) [] [] p1) "__init__" (callEnv fd L fI) whole) Q E s := by
  refine ks_wpAt_super_base (f := fI) (cc := c2) h3 h4 rfl rfl hfI hfd hpa hcd hc2 hc3 hc4 hfi hns ?_
  refine PySem.W.ks_loadName_global g3 h3 ?_
  unfold loadGlobal
  refine wpAny_bind (wpAny_nsGet gN ?_)
  rw [gs]
  refine wpAny_bind (wpAny_nsGet bN ?_)
  rw [bs]
  refine wpAny_pure ⟨rfl, wpAny_loadName_free (c := cc) g3 h4 (by show List.lookup _ fd.closure = _; rw [hcl]; rfl) hcc ?_⟩
  rw [har]
  refine wpAny_loadName_local g3 h1 hL hm (hty.at ⟨rfl, ?_⟩)
  obtain ⟨h, g, d, t, os⟩ := s
  exact ks_wpAny_call_super hC hCd he hec hen hself fun h' a b => hq h' a b
end
end L2
namespace L2
open PySem PySem.Spec PyProof.Rows
section
variable {prog : Program} {w : World} {A : Around} {E : Value → Shared → Prop} {s : Shared}
theorem with_wrapper {Q : Value → Shared → Prop} {x : Sem Value} {fs : Expr} {env : Env} {pos : Pos} {mw : Addr} {vs : Array Value} (hst : starEach [fs] env = [(false, x)])
    (h : wpAny (model prog w) A x (fun u s1 => s1.heap.get? mw = some { cls := .type "method-wrapper", data := .fields vs } ∧ wpAny (model prog w) A (call (.ref mw) [u]) Q E s1) E s) :
    wpAny (model prog w) A (callWith pos (.ref mw) [] (backTo pos (starEach [fs] env)) []) Q E s := by
  rw [hst]
  unfold callWith
  refine wpAny_bind (wpAny_holding (Calls.evalArgs_plain ?_))
  unfold spliced
  refine wpAny_bind (wpAny_ite_false rfl (thn h fun u s1 hz => ?_))
  obtain ⟨hm, hc⟩ := hz
  refine wpAny_ite_false rfl (wpAny_bind (wpAny_pure (wpAny_bind (wpAny_holding ?_))))
  unfold spliced
  refine wpAny_pure (wpAny_pure ?_)
  refine wpAny_bind (wpAny_standAt ?_)
  unfold keeperOf
  refine wpAny_bind (wpAny_bind (wpAny_load' hm (wpAny_ite_true (show decide ((Value.type "method-wrapper" != Value.type "method") = true) = true by decide +kernel) (wpAny_pure ?_))))
  have k : (if ((Value.type "method-wrapper" == Value.type "builtin_function_or_method") || (Value.type "method-wrapper" == Value.type "method-wrapper")) = true then Keeper.machine else Keeper.caller) = Keeper.machine := by decide +kernel
  dsimp only
  rw [k]
  show wpAny (model prog w) A (do let r ← call (Value.ref mw) [u]; holding [r] point; pure r) Q E s1
  exact wpAny_bind (thn hc fun r s2 hr => wpAny_bind (wpAny_holding (wpAny_point (wpAny_pure hr))))
end
end L2
namespace L2
open PySem PySem.Spec PyProof.Rows
section
variable {prog : Program} {w : World} {A : Around} {s : Shared} {K : PySem.W.Frag}
theorem lookS {Xn : Str} {u v : Value} (h : Xn ≠ "self") : List.lookup ("self" : Str) [(("self" : Str), v), (Xn, u)].reverse = some v := by
  show List.lookup ("self" : Str) [(Xn, u), (("self" : Str), v)] = _
  have : (("self" : Str) == Xn) = false := by simp [Ne.symm h]
  simp [List.lookup, this]
theorem init_run {R : Result → Shared → Prop} {fI e C cc c2 : Addr} {oI oC o2 : Obj} {fd : FuncData} {cd : ClassData} {Xn : Str} {u : Value} {p0 p1 p2 p3 p4 p5 p6 p7 p8 : Pos} {fs : Expr} {ar : Arg} {cs : Array Value} {file : Str} {tf : Tok} {mg mb : Str → Option Value}
    {nm q : Str} {N : Addr} {bs bm : List Value} {hdct : Bool} {sn : List Str} {sub : List Value} {ab : Bool} {col : Option Bool} {dd : Option Addr} {k0 k1 k2 k3 k5 : Option Value} {newId : String} {vs : Array Value} {sl : Array (Option Value)} {v0 : Value}
    (X : K.In s.heap) (hd : A.depth < recursionLimit) (hfI : s.heap.get? fI = some oI) (hfd : oI.data = .func fd) (lim : s.heap.NoLimit) (hcr : s.heap.CodeRec fd.code fd.qualname)
    (hb : fd.body = .stmts [.Expr (.Call (.Attribute (.Call (.Name "super" p0) [] [] p1) "__init__" p2) [fs] [] p3) p4, .Assign [.Attribute (.Name "self" p5) Xn p6] (.Name Xn p7) p8])
    (hbi : BindsTo s fd ⟨[.ref e, u], []⟩ [(("self" : Str), .ref e), (Xn, u)]) (hXs : Xn ≠ "self") (hce : ∀ x ∈ fd.scope.names, x.2 ≠ NameKind.cell) (h1 : fd.scope.names.lookup ("self" : Str) = some NameKind.local) (hX2 : fd.scope.names.lookup Xn = some NameKind.local)
    (h3 : fd.scope.names.lookup ("super" : Str) = some NameKind.globalImplicit) (h4 : fd.scope.names.lookup ("__class__" : Str) = some NameKind.free) (g1 : fd.scope.isCoroutine = false) (g2 : fd.scope.isGenerator = false) (g3 : fd.scope.kind = .function) (hcl : fd.closure = [(("__class__" : Str), cc)])
    (hpa : (fd.params.posonlyargs ++ fd.params.args).head? = some ar) (har : ar.arg = "self") (hcd : fd.code = .ref c2) (hc2 : s.heap.get? c2 = some o2) (hc3 : o2.data = .fields cs) (hc4 : cs[2]? = some (.str file tf)) (hfi : (prog.main.file == file) = true)
    (hns : (prog.main.scope.names.lookup ("super" : Str)).isSome = false) (gN : s.heap.Ns fd.globals mg) (gs : mg "super" = none) (bN : s.heap.Ns fd.builtins mb) (bs' : mb "super" = some (.type "super")) (hcc : ∀ h' : Heap, (∀ b o, s.heap.get? b = some o → h'.get? b = some o) → h'.IsCell cc (some (.ref C)))
    (hC : s.heap.get? C = some (excClassObj nm q C N bs bm hdct sn sub ab col dd k0 k1 k2 k3 k5 newId)) (T : OwnTail s.heap bmV bm) (he : s.heap.get? e = some { cls := .ref C, dict := none, data := .fields vs, slots := sl }) (hv0 : vs[0]? = some v0) (heC : e ≠ C)
    (hty : ∀ h : Heap, K.In h → PySem.W.Looks (model prog w) h (isType (.ref C)) true) (hself : ∀ h : Heap, K.In h → PySem.W.Looks (model prog w) h (isSubtype (.ref C) (.ref C)) true) (hval : ∀ h : Heap, K.In h → PySem.W.Looks (model prog w) h (isSubtype (.ref C) (.type "ValueError")) true)
    (hno : ∀ h : Heap, K.In h → PySem.W.Looks (model prog w) h (opaqueClassAbove (.ref C)) none) (hmr : ∀ h : Heap, K.In h → PySem.W.Looks (model prog w) h (mroOf (.ref C)) (.ref C :: bm))
    (hst : ∀ L, starEach [fs] (callEnv fd L fI) = [(false, eval fs (callEnv fd L fI))])
    (pl : Addr → Sem Bool) (heq : ∀ L, eval (.Call (.Attribute (.Call (.Name "super" p0) [] [] p1) "__init__" p2) [fs] [] p3) (callEnv fd L fI) = do
      let ov ← attributeBase (.Call (.Name "super" p0) [] [] p1) "__init__" (callEnv fd L fI) (eval (.Call (.Name "super" p0) [] [] p1) (callEnv fd L fI))
      standAt p2.atName
      let x ← holding [ov] (getMethod ov "__init__" (pl L))
      match x with
      | (f, first) => callWith p3 f first (backTo p3 (starEach [fs] (callEnv fd L fI))) []) (hin : ∀ L, interactive (callEnv fd L fI) = false) (hsw : ∀ L, swapsWith (.Name Xn p7) (some (.Attribute (.Name "self" p5) Xn p6)) p8.line (callEnv fd L fI) = pure false)
    (hs : PySem.W.findIn K (.ref C) "__setattr__" = some (some (.builtin "object.__setattr__"))) (hp : overV K C = true) (ht : PySem.W.takerIn K C Xn = some none) (hh : PySem.W.hasDictIn K C = true)
    (hdb : (Xn == ("__debug__" : Str)) = false) (hKe : ∀ o, K.lookup e ≠ some o) (hJ : ∀ (h : Heap) (vs' : Array Value), h.get? e = some { cls := .ref C, dict := none, data := .fields vs', slots := sl } → PySem.W.InstAt h e { cls := .ref C, dict := none, data := .fields vs', slots := sl } C none)
    (hq : ∀ (h' : Heap) (dx t : Addr) (tk : Nat), s.heap.get? dx = none → h'.get? e = some { cls := .ref C, dict := some dx, data := .fields (vs.setIfInBounds 0 (.ref t)), slots := sl } → h'.Ns1 dx (fun y => if y = Xn then some u else none) → (∀ b o, b ≠ e → s.heap.get? b = some o → h'.get? b = some o) → R (.ok (.ret .none)) { s with heap := h', toks := tk })
    (hf : ∀ (L : Addr) (A1 : Around) (s1 : Shared) (E1 : Value → Shared → Prop) (Q1 : Value → Shared → Prop), (s1.heap.Ns L fun x => List.lookup x [(("self" : Str), Value.ref e), (Xn, u)].reverse) → (∀ msg tk, Q1 msg { s1 with toks := tk }) → wpAny (model prog w) A1 (eval fs (callEnv fd L fI)) Q1 E1 s1) :
    codeAny (model prog w) A (.call (.ref fI) ⟨[.ref e, u], []⟩) R s := by
  refine ks_codeAny_call_defAt hd hfI hfd lim hcr hb hbi hce ?_ (fun h0 hn hk => ?_) g1 g2 g3
  · intro x hx
    rcases List.mem_cons.mp hx with z | z
    · rw [z]; exact h1
    · rw [List.mem_singleton.mp z]; exact hX2
  have X0 := X.keeps hk
  refine ks_wpAt_execs_cons (ks_wpAt_Expr_any (ks_wpAt_MethodCall (pl := pl s.heap.objs.size) (super_at (K := K) (oC := excClassObj nm q C N bs bm hdct sn sub ab col dd k0 k1 k2 k3 k5 newId) (e := e) X0 (hk _ _ hfI) hfd h1 h3 h4 g3 hcl hpa har hcd (hk _ _ hc2) hc3 hc4 hfi hns (gN.keeps hk) gs (bN.keeps hk) bs' (hcc _ hk) hn ?self (hk _ _ hC) rfl (hk _ _ he) rfl (by intro c z; cases z) (hty _ X0) (hself _ X0) (fun h1' so1 k1' => ?go)) ?eq) ?i1 ?i2)
  case eq => exact heq _
  case i1 => exact hin _
  case i2 => rfl
  case self => exact lookS hXs
  case go =>
    have hk1 : ∀ b o, s.heap.get? b = some o → h1'.get? b = some o := fun b o z => k1' _ _ (hk _ _ z)
    have X1 := X.keeps hk1
    have T1 := T.keeps hk1
    refine super_init (l₀ := .ref C :: bm) (l := bm) so1 (hno _ X1) (hmr _ X1) (by simp) heC T1 (hk1 _ _ he) rfl (hval _ X1) ?_
    refine with_wrapper (hst _) (hf _ _ _ _ _ ?_ fun msg tk => ⟨Heap.get?_push_size _ rfl, ?_⟩)
    · exact (hn.keeps k1').keeps fun b o z => Heap.get?_push_of_some _ z
    refine call_wrapper (Heap.get?_push_size _ rfl) (Heap.get?_push_of_some _ (hk1 _ _ hC)) (Heap.get?_push_of_some _ (hk1 _ _ he)) rfl rfl hv0 ?_
    dsimp only
    generalize hh1 : ((h1'.push { cls := .type "method-wrapper", data := .fields #[.builtin "ValueError.__init__", .ref e] }).push { cls := .type "tuple", data := .seq #[msg] }).update e (Obj.mapFields fun y => y.setIfInBounds 0 (.ref (h1'.push { cls := .type "method-wrapper", data := .fields #[.builtin "ValueError.__init__", .ref e] }).objs.size)) = h2
    have e0 : ((h1'.push { cls := .type "method-wrapper", data := .fields #[.builtin "ValueError.__init__", .ref e] }).push { cls := .type "tuple", data := .seq #[msg] }).get? e = some { cls := .ref C, dict := none, data := .fields vs, slots := sl } := Heap.get?_push_of_some _ (Heap.get?_push_of_some _ (hk1 _ _ he))
    have e2 : h2.get? e = some { cls := .ref C, dict := none, data := .fields (vs.setIfInBounds 0 (.ref (h1'.push { cls := .type "method-wrapper", data := .fields #[.builtin "ValueError.__init__", .ref e] }).objs.size)), slots := sl } := by
      rw [← hh1]
      exact Heap.get?_update_self _ e0 rfl
    have k2 : ∀ b o, b ≠ e → h1'.get? b = some o → h2.get? b = some o := fun b o n z => by
      rw [← hh1, Heap.get?_update_ne _ _ _ _ n]
      exact Heap.get?_push_of_some _ (Heap.get?_push_of_some _ z)
    have k3 : ∀ b o, b ≠ e → s.heap.get? b = some o → h2.get? b = some o := fun b o n z => k2 b o n (hk1 b o z)
    refine ks_wpAt_execs_cons (ks_wpAt_Assign_Attr (PySem.wpAt_of_wpAny ?_) (hsw _))
    have L0 : s.heap.objs.size ≠ e := (Nat.ne_of_lt (Heap.lt_size he)).symm
    have no2 : h2.get? h2.objs.size = none := Heap.get?_none_of_le (Nat.le_refl _)
    have hn2 : h2.Ns s.heap.objs.size fun x => List.lookup x [(("self" : Str), Value.ref e), (Xn, u)].reverse := by
      obtain ⟨o, es, ep, z1, z2⟩ := hn.keeps k1'
      exact ⟨o, es, ep, k2 _ _ L0 z1, z2⟩
    have hmX : List.lookup Xn [(("self" : Str), Value.ref e), (Xn, u)].reverse = some u := by simp [List.lookup]
    have hmS : List.lookup ("self" : Str) [(("self" : Str), Value.ref e), (Xn, u)].reverse = some (Value.ref e) := lookS hXs
    refine wpAny_Name (wpAny_loadName_local g3 hX2 hn2 hmX (wpAny_Name (wpAny_loadName_local g3 h1 hn2 hmS ?_) (by decide))) hdb
    have X2 : K.In h2 := fun a o z => k3 a o (fun y => hKe o (y ▸ z)) (X a o z)
    refine set_exc X2 (hJ _ _ e2) e2 hs hp ht hh rfl fun h3' y1 y2 y3 => ?_
    refine PySem.wpAt_of_wpAny (wpAny_execs_nil ?_)
    refine hq h3' _ _ _ ?_ y1 y2 fun b o n z => y3 b o n (fun y => ?_) (k3 b o n z)
    · cases z : s.heap.get? h2.objs.size with
      | none => rfl
      | some o =>
        by_cases ne : h2.objs.size = e
        · rw [ne, e2] at no2; cases no2
        · have := k3 _ _ ne z
          rw [no2] at this; cases this
    · have := k3 _ _ n z
      rw [y, no2] at this; cases this
end
end L2
namespace L2
open PySem PySem.Spec PyProof.Rows
section
variable {prog : Program} {w : World} {A : Around} {E : Value → Shared → Prop} {s : Shared}
theorem fstr_eval {Q : Value → Shared → Prop} {env : Env} {x Xn y : Str} {k : Nat} {pa pb pc pd : Pos} {m : Str → Option Value} {v : V} {u : Value} (g3 : env.scope.kind = .function) (hX : env.kindOf Xn = some NameKind.local) (hdb : (Xn == ("__debug__" : Str)) = false)
    (hn : s.heap.Ns env.locals m) (hm : m Xn = some u) (r : RelV v u) (sh : Shown v y) (hx : (Str.empty ++ x).length ≤ sizeLine) (hl : (Str.empty ++ x ++ y).length ≤ sizeLine) (hq : ∀ msg tk, Q msg { s with toks := tk }) :
    wpAny (model prog w) A (eval (.JoinedStr [.Constant (.str x) k pa, .FormattedValue (.Name Xn pb) (-1) none pc] pd) env) Q E s := by
  refine wpAny_JoinedStr (Joins_cons (Calls.Constant_str ⟨x, _, rfl, hx, Joins_cons (wpAny_FormattedValue_plain (wpAny_Name (wpAny_loadName_local g3 hX hn hm ?_) hdb))⟩))
  cases sh with
  | int hz =>
    obtain ⟨t1, rfl⟩ := r
    exact wpAny_formatField_int hz ⟨_, _, rfl, hl, ⟨hl, hq _ _⟩⟩
  | str hz =>
    obtain ⟨t1, rfl⟩ := r
    exact wpAny_formatField_str ⟨_, _, rfl, hl, ⟨hl, hq _ _⟩⟩ ⟨_, _, rfl, hl, ⟨hl, hq _ _⟩⟩ hz
  | non =>
    cases r
    exact wpAny_formatField_none ⟨_, _, rfl, hl, ⟨hl, hq _ _⟩⟩
end
end L2
namespace L2
open PySem PySem.Spec PyProof.Rows
section
variable {nm q : Str} {C N : Addr} {bs bm : List Value} {hdct : Bool} {sn : List Str} {sub : List Value} {ab : Bool} {col : Option Bool} {dd : Option Addr} {k0 k1 k2 k3 k5 : Option Value} {newId : String}
theorem raise_madeD {M : Model} {A : Around} {E : Value → Shared → Prop} {env : Env} {s : Shared} {x : Sem Value} {Q : Flow → Shared → Prop} (hbase : bm.contains (.type "BaseException") = true) (hh : A.handled = none)
    (h : wpAny M A x (fun v s1 => ∃ e dx vs sl, v = .ref e ∧ s1.heap.get? C = some (excClassObj nm q C N bs bm hdct sn sub ab col dd k0 k1 k2 k3 k5 newId) ∧ s1.heap.get? e = some { cls := .ref C, dict := dx, data := .fields vs, slots := sl } ∧ vs[1]? = some .none ∧ vs[2]? = some .none ∧ E (.ref e) s1) E s) :
    wpAny M A (raiseStmt env (some x) none) Q E s := by
  have up : (Value.ref C :: bm).contains (.type "BaseException") = true := by rw [List.contains_cons, hbase, Bool.or_true]
  unfold raiseStmt
  refine wpAny_bind (wpAny_mono h (fun v s1 h1 => ?_) fun _ _ z => z)
  obtain ⟨e, dx, vs, sl, rfl, hC, he, v1, v2, hE⟩ := h1
  obtain ⟨hp, g, d, tk, os⟩ := s1
  repeat (first | with_reducible refine wpAny_loadPart_at he ?_ | with_reducible refine wpAny_loadPart_at hC ?_ | (with_reducible refine wpAny_isSubtype_exc hC ?_; rw [up]) | wp_step)
  rw [v1]
  exact wpAny_pure (wpAny_ite_false (by decide) (wpAny_pure (wpAny_raiseNew_none hh hE)))
theorem raise_callI {prog : Program} {w : World} {A : Around} {E : Value → Shared → Prop} {env : Env} {s : Shared} {mN : Str → Option Value} {x : Str} {np cpos pos : Pos} {args : List Expr} {fI : Addr} {Q : Flow → Shared → Prop}
    (hbase : bm.contains (.type "BaseException") = true) (hh : A.handled = none) (hpl : (backTo cpos (starEach args env)).any (·.1) = false) (hi : mN (Str.ofString "__init__") = some (.ref fI))
    (h : wpAny (model prog w) A (eval (.Name x np) env) (fun f s1 => f = .ref C ∧ wpAny (model prog w) A (evalArgs (.ref C) true (backTo cpos (starEach args env)) [])
      (fun a s2 => a.kw = [] ∧ a.pos.length ≤ sizeLine ∧ s2.heap.get? C = some (excClassObj nm q C N bs bm hdct sn sub ab col dd k0 k1 k2 k3 k5 "ValueError.__new__") ∧ s2.heap.Ns N mN ∧ OwnTail s2.heap bmV bm ∧ (∃ oI, s2.heap.get? fI = some oI ∧ oI.cls = .type "function") ∧
        ∀ h' e, Heap.MadeExcOf s2.heap h' e (.ref C) a.pos → wpAny (model prog w) (A.under (Code.builtin "type.__call__" { pos := Value.ref C :: a.pos })) (call (.ref fI) (.ref e :: a.pos))
          (fun r s' => r = .none ∧ ∃ dx vs sl, s'.heap.get? C = some (excClassObj nm q C N bs bm hdct sn sub ab col dd k0 k1 k2 k3 k5 "ValueError.__new__") ∧ s'.heap.get? e = some { cls := .ref C, dict := dx, data := .fields vs, slots := sl } ∧ vs[1]? = some .none ∧ vs[2]? = some .none ∧ E (.ref e) s') E { s2 with heap := h' }) E s1) E s) :
    wpAny (model prog w) A (exec (.Raise (some (.Call (.Name x np) args [] cpos)) none pos) env) Q E s := by
  rw [arm_exec_Raise]
  refine wpAny_bind (wpAny_standAt (raise_madeD (C := C) (nm := nm) (q := q) (N := N) (bs := bs) (bm := bm) (hdct := hdct) (sn := sn) (sub := sub) (ab := ab) (col := col) (dd := dd) (k0 := k0) (k1 := k1) (k2 := k2) (k3 := k3) (k5 := k5) (newId := "ValueError.__new__") hbase hh ?_))
  refine wpAny_bind (wpAny_mono (wpAny_Call_ofName (wpAny_mono h (fun f s1 h1 => ?_) fun _ _ z => z)) (fun v s3 h3 => wpAny_bind (wpAny_standAt (wpAny_pure h3))) fun _ _ z => z)
  obtain ⟨rfl, h1⟩ := h1
  unfold callWith
  refine wpAny_bind (wpAny_holding (wpAny_mono h1 (fun a s2 h2 => wpAny_bind (wpAny_standAt ?_)) fun _ _ z => z))
  obtain ⟨ap, ak⟩ := a
  obtain ⟨hk, hl, hC, hn, T, ⟨oI, hf, hfc⟩, h2⟩ := h2
  obtain rfl : ak = [] := hk
  obtain ⟨hp, g, d, tk, os⟩ := s2
  simp only [hpl]
  refine wpAny_bind (wpAny_keeperOf_exc hC ?_)
  refine wpAny_bind (call_initT (hrest := hl) PySem.F.excBase_ValueError T hC hn hi hf hfc fun h' e hm => ?_)
  refine wpAny_mono (h2 h' e hm) (fun r s' z => ⟨z.1, wpAny_bind (wpAny_holding (wpAny_point (wpAny_pure ?_)))⟩) fun _ _ z => z
  obtain ⟨_, dx, vs, sl, z1, z2, z3, z4, z5⟩ := z
  exact ⟨e, dx, vs, sl, rfl, z1, z2, z3, z4, z5⟩
end
structure InitK (P : Program) (w : World) (K : PySem.W.Frag) (mg : Str → Option Value) (C fI : Addr) (Xn : Str) : Prop where
  obj : ∀ {h : Heap}, K.In h → ∃ bm N nm qn bs hd sn sub ab col dd k0 k1 k2 k3 k5 mN, h.get? C = some (excClassObj nm qn C N bs bm hd sn sub ab col dd k0 k1 k2 k3 k5 "ValueError.__new__") ∧ h.Ns N mN ∧ mN (Str.ofString "__init__") = some (.ref fI) ∧ OwnTail h bmV bm
  fn : ∃ oI, K.lookup fI = some oI ∧ oI.cls = .type "function"
  run : ∀ (A : Around) (s : Shared) (e : Addr) (v : V) (u : Value) (y : Str) (R : Result → Shared → Prop) (vs : Array Value) (sl : Array (Option Value)) (v0 : Value), K.In s.heap → A.depth < recursionLimit → s.heap.NoLimit → s.heap.Ns mainGlobals mg →
    (∃ mb, s.heap.Ns builtinsNs mb ∧ ∀ x : Str, x ≠ "__name__" → mb x = bootBuiltins x) → s.heap.get? e = some { cls := .ref C, dict := none, data := .fields vs, slots := sl } → vs[0]? = some v0 → K.lookup e = none → RelV v u → Shown v y → y.length ≤ 700 →
    (∀ (h' : Heap) (dx t : Addr) (tk : Nat), s.heap.get? dx = none → h'.get? e = some { cls := .ref C, dict := some dx, data := .fields (vs.setIfInBounds 0 (.ref t)), slots := sl } → h'.Ns1 dx (fun y => if y = Xn then some u else none) →
      (∀ b o, b ≠ e → s.heap.get? b = some o → h'.get? b = some o) → R (.ok (.ret .none)) { s with heap := h', toks := tk }) → codeAny (model P w) A (.call (.ref fI) ⟨[.ref e, u], []⟩) R s
def tRaiseI (C : Addr) (Xn : Str) (E : XK) (t : TA) : TS := fun _ σ H => t σ H fun vs H1 => ∃ v, vs = [v] ∧ (∃ y, Shown v y ∧ y.length ≤ 700) ∧ ∀ dx, H1 dx = none → E (.ref C) (some dx) (upd H1 dx (.xd [(Xn, v)]))
theorem un_new {fs ex : List Addr} {H H' : Hp} {h h' : Heap} {a : Addr} {o : HO} (u : Un fs ex H H' h h') (n : h.get? a = none) (e : H' a = none) : Un fs ex H (upd H' a o) h h' :=
  have ne : ∀ b u, H' b = some u → b ≠ a := fun b u q z => by rw [z, e] at q; cases q
  ⟨u.keep, u.slot, fun b o q m hx => by rw [upd_ne (fun z => by rw [z, n] at q; cases q)]; exact u.free b o q m hx, u.there, fun b xs q => by rw [upd_ne (ne b _ (u.tups b xs q))]; exact u.tups b xs q,
   fun b o xs q => by rw [upd_ne (ne b _ (u.frzs b o xs q))]; exact u.frzs b o xs q, fun b p q => by
    obtain ⟨m, z⟩ := u.tbls b p q
    exact ⟨m, by rw [upd_ne (ne b _ z)]; exact z⟩⟩
theorem hok_new {P : Program} {w : World} {H : Hp} {h h' : Heap} {a : Addr} {o : HO} (x : HOk P w H h) (k : ∀ b u, h.get? b = some u → h'.get? b = some u) (e : H a = none) (new : ObjOk P w (upd H a o) h' a o) : HOk P w (upd H a o) h' := fun b u q => by
  by_cases hb : b = a
  · subst hb
    rw [upd_same] at q; cases q
    exact new
  · rw [upd_ne hb] at q
    have ne : ∀ c v, H c = some v → c ≠ a := fun c v r z => by rw [z, e] at r; cases r
    exact (x b u q).stay (fun c v _ r => k c v r) (fun c r => by rw [upd_ne (ne c _ r)]; exact r) fun c xs r => by rw [upd_ne (ne c _ r)]; exact r
section
variable {P : Program} {w : World} {K : PySem.W.Frag} {mg : Str → Option Value} {base : Heap} {N : List Str} {qual : Str} {scope : Scope} {f : Addr} {cd : Value} {A : Around} {outer : List Env} {s : Shared} {H : Hp} {E : XK}
theorem ps_raiseI {x Xn : Str} {C fI : Addr} {e0 : Expr} {t : TA} {k : Nat} {np cpos pos : Pos} (hA : Room (k + 1) (cxOf (CXE P w) P w K mg base N qual scope f cd A outer s H E).A)
    (hc : (cxOf (CXE P w) P w K mg base N qual scope f cd A outer s H E).calm = true) (hg : Gl (cxOf (CXE P w) P w K mg base N qual scope f cd A outer s H E) x) (hm : mg x = some (.ref C)) (q : InitK P w K mg C fI Xn) (ha : PA (cxOf (CXE P w) P w K mg base N qual scope f cd A outer s H E) [e0] t) (hd : (x == ("__debug__" : Str)) = false := by decide)
    (he : starEach [e0] (cxOf (CXE P w) P w K mg base N qual scope f cd A outer s H E).env = [(false, eval e0 (cxOf (CXE P w) P w K mg base N qual scope f cd A outer s H E).env)] := by rfl) :
    PS (cxOf (CXE P w) P w K mg base N qual scope f cd A outer s H E) (.Raise (some (.Call (.Name x np) [e0] [] cpos)) none pos) (tRaiseI C Xn E t) := by
  intro pins s0 σ H0 D I h
  obtain ⟨bm, Nn, nm, qn, bs, hdt, sn, sub, ab, col, dd, k0, k1, k2, k3, k5, mN, hC, hN, hi, T⟩ := q.obj I.mod.kin
  refine raise_callI (C := C) (nm := nm) (q := qn) (N := Nn) (bs := bs) (bm := bm) (hdct := hdt) (sn := sn) (sub := sub) (ab := ab) (col := col) (dd := dd) (k0 := k0) (k1 := k1) (k2 := k2) (k3 := k3) (k5 := k5) (mN := mN) (T.hasType PySem.F.excBase_ValueError.hasBase) (I.ok.hd hc) (by rw [he]; rfl) hi (ld_glob I hg hm ⟨rfl, ?_⟩ hd)
  have hb := ha cpos pins s0 σ H0 _ I h
  rw [he] at hb ⊢
  refine Calls.evalArgs_plain (thn hb fun us s1 ⟨vs, H1, I1, r1, v, hv, ⟨y, sh, hy⟩, z⟩ => ?_)
  subst hv
  obtain ⟨oI, lI, cI⟩ := q.fn
  cases r1 with
  | @cons _ u _ _ r rt =>
  cases rt
  refine ⟨rfl, (by show 1 ≤ sizeLine; decide), I1.bk _ _ hC, hN.keeps I1.bk, T.keeps I1.bk, ⟨oI, I1.kIn _ _ lI, cI⟩, fun h' e hm => ?_⟩
  obtain ⟨t1, e1, t2, t3⟩ := hm.there
  obtain ⟨mb, b1, b2⟩ := I1.mod.blt
  have kb : ∀ b o, base.get? b = some o → h'.get? b = some o := fun b o z => hm.keeps _ _ (I1.bk b o z)
  have lk : K.lookup e = none := by
    cases z : K.lookup e with
    | none => rfl
    | some o => have y := I1.kIn _ _ z; rw [hm.new] at y; cases y
  refine wpAny_call (q.run _ { s1 with heap := h' } e v u y _ _ _ _ (I1.kIn.keeps hm.keeps) (hA.make C [u] []).depth (I1.nolimit.keeps hm.keeps) (I1.mod.glob.keeps kb) ⟨mb, b1.keeps kb, b2⟩ e1 rfl lk r sh hy fun h2 dx t' tk n1 n2 n3 n4 => ?_)
  have k2 : ∀ b o, s1.heap.get? b = some o → h2.get? b = some o := fun b o z => n4 b o (fun y => by rw [y, hm.new] at z; cases z) (hm.keeps b o z)
  have dn : s1.heap.get? dx = none := by
    cases z : s1.heap.get? dx with
    | none => rfl
    | some o => have y := hm.keeps _ _ z; rw [n1] at y; cases y
  have hdx := I1.hok.none_of dn
  have ed : e ≠ dx := fun y => by rw [← y, e1] at n1; cases n1
  have nw : ObjOk P w (upd H1 dx (.xd [(Xn, v)])) h2 dx (.xd [(Xn, v)]) := ⟨_, n3, fun f => by
    by_cases hf : f = Xn
    · subst hf; simp only [List.lookup, beq_self_eq_true, if_true]; exact r
    · have z : (f == Xn) = false := beq_eq_false_iff_ne.mpr hf
      simp only [List.lookup, z, if_neg hf]; exact trivial⟩
  exact ⟨rfl, some dx, _, _, k2 _ _ (I1.bk _ _ hC), n2, rfl, rfl,
    throw_out (s2 := { s1 with heap := h2, toks := tk }) I1 rfl I1.bare (un_new (Un.kept k2) dn hdx) (hok_new I1.hok k2 hdx nw) (by rw [upd_ne ed]; exact I1.hok.none_of hm.new) hm.new n2 rfl rfl rfl (z dx hdx)⟩
end
end L2
namespace L2
open PySem PySem.Spec PyProof.Rows
section
variable {prog : Program} {w : World} {A : Around} {E : Value → Shared → Prop} {K : PySem.W.Frag} {C e : Addr} {ox : Obj} {od : Option Obj}
theorem ga_own {s : Shared} {name : Str} {tk : Tok} {v : Value} {Q : PySem.Fin → Shared → Prop} (X : K.In s.heap) (J : PySem.W.InstAt s.heap e ox C od) (hf : PySem.W.findObj K C od name = some (.value v)) (h : Q (.done (.ret v)) s) :
    wpAny (model prog w) A (Builtin.«object.__getattribute__» ⟨[.ref e, .str name tk], []⟩) Q E s := by
  obtain ⟨hh, gg, d, t, os⟩ := s
  have T0 := J.type (M := model prog w)
  have T1 := PySem.W.looks_find (M := model prog w) X J hf
  unfold Builtin.«object.__getattribute__»
  repeat (first | with_reducible refine T0.at ?_ | with_reducible refine T1.at ?_ | wp_step)
  exact h
theorem exc_attr {s : Shared} {name : Str} {v : Value} {expr : Bool} {Q : Value → Shared → Prop} (c : ClsX K C) (X : K.In s.heap) (J : PySem.W.InstAt s.heap e ox C od) (hf : PySem.W.findObj K C od name = some (.value v)) (hv : PySem.W.handedIn v = true) (h : Q v { s with toks := s.toks + 1 }) :
    wpAny (model prog w) A (getAttr (.ref e) name expr) Q E s := by
  obtain ⟨hh, gg, d, t, os⟩ := s
  have T0 := J.type (M := model prog w)
  have T1 := PySem.W.looks_findIn (M := model prog w) X c.ga
  have T2 := PySem.W.looks_findIn (M := model prog w) X c.no
  have f3 := PySem.F.attr_ValueError.ga.bind (.ref e)
  unfold getAttr getAttrBy
  refine wpAny_bind (wpAny_mkText (wpAny_holding (wpAny_bind (T0.at (wpAny_bind (T1.at ?_))))))
  have e1 : (onTheHeap (Value.ref C) && Value.builtin "BaseException.__getattribute__" == Value.builtin "object.__getattribute__") = false := by
    have z : (Value.builtin "BaseException.__getattribute__" == Value.builtin "object.__getattribute__") = false := by decide +kernel
    rw [z, Bool.and_false]
  dsimp only
  rw [e1]
  simp only [Bool.false_eq_true, if_false]
  unfold getAttrByItsOwn hookBefore
  repeat (first | with_reducible refine T2.at ?_ | assumption | wp_step)
  refine wpAny_ite_false (by cases expr <;> rfl) ?_
  unfold boundAndCalled
  repeat (first | assumption | wp_step)
  refine codeAny_call_builtin PySem.F.attr_ValueError.ga.plain F.entry_bexc_ga (ga_check c X J (ga_own X J hf ?_))
  show wpAny (model prog w) A (handedOut v) _ _ _
  exact PySem.W.handed_on hv h
end
def tXd (K : PySem.W.Frag) (ta : TE) (f : Str) : TE := fun σ H Q => ta σ H fun x H1 => ∃ e C d fs v, x = .ref e ∧ H1 e = some (ExcD C e (some d)) ∧ H1 d = some (.xd fs) ∧ ClsX K C ∧ PySem.W.findIn K (.ref C) f = some none ∧ fs.lookup f = some v ∧ Q v H1
theorem pe_xd {X : Cx} {o : Expr} {f : Str} {pos : Pos} {ta : TE} (he : PE X o ta) (hb : attributeBase o f X.env (eval o X.env) = eval o X.env := by rfl) : PE X (.Attribute o f pos) (tXd X.K ta f) := by
  intro pins s σ H Q I h
  refine attr_of hb (thn (he pins s σ H _ I h) fun u s1 ⟨x, H1, I1, rx, e, C, d, fs, v, ex, ee, ed, c, n, l, q⟩ => ?_)
  subst ex
  obtain rfl : u = Value.ref e := rx
  obtain ⟨⟨o, h1, h2, h3, h4⟩, _⟩ := I1.hok _ _ ee
  obtain ⟨mA, ns, r⟩ := I1.hok _ _ ed
  obtain ⟨od, g1, g2⟩ := lookIn_ns ns
  obtain ⟨u, hu, ru⟩ := RelO.some_of (v := v) (o := mA f) (by rw [← l]; exact r f)
  have J : PySem.W.InstAt s1.heap e o C (some od) := ⟨h1, h2, h4, by rw [h3]; exact g1⟩
  exact exc_attr c I1.kIn J (PySem.W.findObj_own c.hd n rfl (by rw [g2, hu])) (handed_of ru) ⟨v, H1, I1.tok _, ru, q⟩
end L2
namespace L2
open PySem PySem.Spec PyProof.Rows
theorem ns_some {K : PySem.W.Frag} {h : Heap} {N : Addr} {m : Str → Option Value} {x : Str} {v : Value} (X : K.In h) (G : h.Ns N m) (e : PySem.W.nsIn K N x = some (some v)) : m x = some v := by
  obtain ⟨o, es, ep, g1, g2, _, g3⟩ := G
  unfold PySem.W.nsIn at e
  split at e
  next a b fs fp sl lk =>
    have z := (X _ _ lk).symm.trans g1
    cases z
    cases g2
    split at e
    next en hen =>
      cases e
      rw [← g3]
      unfold nsFind findBy
      rw [← Array.find?_toList, hen]
      rfl
    next =>
      split at e
      · cases e
      · cases e
  next => cases e
theorem strLen (a b : Str) : (a ++ b).length = a.length + b.length := by
  show (a.cps ++ b.cps).size = a.cps.size + b.cps.size
  exact Array.size_append ..
theorem super_boot : bootBuiltins "super" = some (.type "super") := by decide +kernel
theorem initK_mk {P : Program} {w : World} {K : PySem.W.Frag} {mg : Str → Option Value} {C fI cc c2 : Addr} {Xn msg : Str} {odf o2d occd : Option Addr} {slf o2s ocs : Array (Option Value)} {o2c occ : Value} {fd : FuncData} {cs : Array Value} {file : Str} {tf : Tok} {ar : Arg} {k : Nat} {p0 p1 p2 p3 p4 p5 p6 p7 p8 pa pb pc pd : Pos}
    {bm : List Value} {N : Addr} {nm qn : Str} {bs : List Value} {hd ab : Bool} {sn : List Str} {sub : List Value} {col : Option Bool} {dd : Option Addr} {k0 k1 k2 k3 k5 : Option Value} (lC : K.lookup C = some (excClassObj nm qn C N bs bm hd sn sub ab col dd k0 k1 k2 k3 k5 "ValueError.__new__")) (tl : PySem.W.tailIn K bmV bm = true) (no : PySem.W.nsOkIn K N = true) (ni : PySem.W.nsIn K N "__init__" = some (some (.ref fI))) (lf : K.lookup fI = some ⟨.type "function", odf, .func fd, slf⟩) (cq : PySem.W.codeIn K fd.code fd.qualname = true)
    (hb : fd.body = .stmts [.Expr (.Call (.Attribute (.Call (.Name "super" p0) [] [] p1) "__init__" p2) [.JoinedStr [.Constant (.str msg) k pa, .FormattedValue (.Name Xn pb) (-1) none pc] pd] [] p3) p4, .Assign [.Attribute (.Name "self" p5) Xn p6] (.Name Xn p7) p8])
    (hbi : ∀ (s : Shared) (e : Addr) (u : Value), BindsTo s fd ⟨[.ref e, u], []⟩ [(("self" : Str), .ref e), (Xn, u)]) (hXs : Xn ≠ "self") (hce : ∀ x ∈ fd.scope.names, x.2 ≠ NameKind.cell) (h1 : fd.scope.names.lookup ("self" : Str) = some NameKind.local) (hX2 : fd.scope.names.lookup Xn = some NameKind.local)
    (h3 : fd.scope.names.lookup ("super" : Str) = some NameKind.globalImplicit) (h4 : fd.scope.names.lookup ("__class__" : Str) = some NameKind.free) (g1 : fd.scope.isCoroutine = false) (g2 : fd.scope.isGenerator = false) (g3 : fd.scope.kind = .function) (hcl : fd.closure = [(("__class__" : Str), cc)])
    (hpa : (fd.params.posonlyargs ++ fd.params.args).head? = some ar) (har : ar.arg = "self") (hcd : fd.code = .ref c2) (lc2 : K.lookup c2 = some ⟨o2c, o2d, .fields cs, o2s⟩) (hc4 : cs[2]? = some (.str file tf)) (hfi : (P.main.file == file) = true)
    (hns : (P.main.scope.names.lookup ("super" : Str)).isSome = false) (hgl : fd.globals = mainGlobals) (hbl : fd.builtins = builtinsNs) (gs : PySem.W.nsIn K mainGlobals "super" = some none) (lcc : K.lookup cc = some ⟨occ, occd, .cell (some (.ref C)), ocs⟩)
    (m1 : PySem.W.mroIn K C (.ref C) = some true) (m2 : PySem.W.mroIn K C (.type "ValueError") = some true) (op : PySem.W.nsIn K cStatics "thirdparty.any" = some none)
    (hline : (p2.endLine == p3.line) = true)
    (hin : ∀ L, interactive (callEnv fd L fI) = false) (hsw : ∀ L, swapsWith (.Name Xn p7) (some (.Attribute (.Name "self" p5) Xn p6)) p8.line (callEnv fd L fI) = pure false)
    (hs : PySem.W.findIn K (.ref C) "__setattr__" = some (some (.builtin "object.__setattr__"))) (hp : overV K C = true) (ht : PySem.W.takerIn K C Xn = some none) (hh : PySem.W.hasDictIn K C = true)
    (hdb : (Xn == ("__debug__" : Str)) = false) (hml : msg.length ≤ 100) : InitK P w K mg C fI Xn := by
  have obj : ∀ {h : Heap}, K.In h → h.Ns N (h.nsMap N) := fun X => .of_isNs (PySem.W.isNs_of_in X no)
  refine ⟨fun {h} X => ⟨bm, N, nm, qn, bs, hd, sn, sub, ab, col, dd, k0, k1, k2, k3, k5, h.nsMap N, X _ _ lC, obj X, ns_some X (obj X) ni, PySem.W.tail_of_in X tl⟩, ⟨_, lf, rfl⟩, ?_⟩
  intro A s e v u y R vs sl v0 X hdp lim gN ⟨mb, bN, bb⟩ he hv0 lk r sh hy hq
  obtain ⟨cdx, hcd', hmx⟩ : ∃ cdx, PySem.W.clsIn K C = some cdx ∧ cdx.mro = .ref C :: bm := ⟨_, by unfold PySem.W.clsIn; rw [lC], rfl⟩
  have heC : e ≠ C := fun z => by rw [z, lC] at lk; cases lk
  have heq : ∀ L, eval (.Call (.Attribute (.Call (.Name "super" p0) [] [] p1) "__init__" p2) [.JoinedStr [.Constant (.str msg) k pa, .FormattedValue (.Name Xn pb) (-1) none pc] pd] [] p3) (callEnv fd L fI) = (do
      let ov ← attributeBase (.Call (.Name "super" p0) [] [] p1) "__init__" (callEnv fd L fI) (eval (.Call (.Name "super" p0) [] [] p1) (callEnv fd L fI))
      standAt p2.atName
      let x ← holding [ov] (getMethod ov "__init__" (do return (← importBound (.Call (.Name "super" p0) [] [] p1) (callEnv fd L fI)).getD true))
      match x with
      | (f, first) => callWith p3 f first (backTo p3 (starEach [.JoinedStr [.Constant (.str msg) k pa, .FormattedValue (.Name Xn pb) (-1) none pc] pd] (callEnv fd L fI))) []) := fun L => by
    rw [arm_eval_Call]
    unfold methodCall calleeOf methodCallPos
    rw [hline]
    rfl
  refine init_run (cd := cdx) (oC := ⟨.none, none, .plain, #[]⟩) (C := C) (cc := cc) (c2 := c2) (Xn := Xn) (u := u) X hdp (X _ _ lf) rfl lim (PySem.W.codeRec_of X cq) hb (hbi s e u) hXs hce h1 hX2 h3 h4 g1 g2 g3 hcl hpa har hcd (X _ _ lc2) rfl hc4 hfi hns (hgl ▸ gN) (PySem.W.ns_none_of X gN gs) (hbl ▸ bN) ((bb "super" (by decide)).trans super_boot)
    (fun h' k => ⟨_, k _ _ (X _ _ lcc), rfl⟩) (X _ _ lC) (PySem.W.tail_of_in X tl) he hv0 heC (fun h Y => looks_isType Y (by rw [hcd']; rfl)) (fun h Y => PySem.W.looks_mroIn Y m1) (fun h Y => PySem.W.looks_mroIn Y m2) (fun h Y => PySem.W.looks_opaque Y op) (fun h Y => hmx ▸ (PySem.W.looks_clsIn Y hcd').andThen .now) (fun L => rfl) _ heq hin hsw hs hp ht hh hdb
    (fun o z => by rw [lk] at z; cases z) (fun h vs' z => ⟨z, rfl, rfl, trivial⟩) hq ?_
  intro L A1 s1 E1 Q1 hn hq1
  have len : ∀ z : Str, z.length ≤ 800 → z.length ≤ sizeLine := fun z h => Nat.le_trans h (by rw [sizeLine_eq]; decide)
  refine fstr_eval (v := v) (u := u) (y := y) g3 hX2 hdb hn (by simp [List.lookup]) r sh ?_ ?_ hq1
  · exact len _ (by rw [strLen]; show 0 + msg.length ≤ 800; omega)
  · exact len _ (by rw [strLen, strLen]; show 0 + msg.length + y.length ≤ 800; omega)
end L2
namespace L2
open PySem PySem.Spec PyProof.Rows
structure FunG (K : PySem.W.Frag) (x qual : Str) (st : Stmt) (dV : Value) (f : Addr) (fd : FuncData) : Prop where
  ex : ∃ (oc : Value) (od : Option Addr) (kV doc pm : Value) (an : Option Addr) (cdv ct : Value) (osl : Array (Option Value)),
    fd = PySem.W.fnOf x qual (defArgs st) (defBody st) (defScope st) dV kV doc pm an cdv ct ∧ K.lookup f = some ⟨oc, od, .func fd, osl⟩ ∧ PySem.W.codeIn K cdv qual = true
  kp : PySem.W.keepIn K (.ref f) = true
section
variable {P : Program} {w : World} {K : PySem.W.Frag} {mg : Str → Option Value} {base : Heap} {x qual : Str} {st : Stmt} {dV : Value} {f : Addr} {fd : FuncData} {N ps : List Str} {k : Nat} {sp : Sp}
theorem FunG.okE (F : FunG K x qual st dV f fd) (S : FnScope N ps (defScope st)) (len : ∀ vs H Q E, sp vs H Q E → vs.length = ps.length)
    (hbody : ∀ (cdv : Value) (A : Around) (outer : List Env) (s : Shared) (H : Hp) (vs : List V) (Q : VK) (E : XK), Room k (A.deeper (envOfC qual (defScope st) s.heap.objs.size f cdv)) → sp vs H Q E →
      ∃ t, PSs (cxOf (CXE P w) P w K mg base N qual (defScope st) f cdv A outer s H E) (defBody st) t ∧ t { nx := fun _ H' => Q .non H', rt := Q } (start N vs) H) : FnOk P w K mg base (CXE P w) (k + 1) f fd ps sp := by
  obtain ⟨oc, od, kV, doc, pm, an, cdv, ct, osl, rfl, lk, hcd⟩ := F.ex
  exact fn_of lk hcd S len fun A outer s H vs Q E hr hsp => hbody cdv A outer s H vs Q E hr hsp
theorem FunG.okN (F : FunG K x qual st dV f fd) (S : FnScope N ps (defScope st)) (len : ∀ vs H Q E, sp vs H Q E → vs.length = ps.length)
    (hbody : ∀ (cdv : Value) (A : Around) (outer : List Env) (s : Shared) (H : Hp) (vs : List V) (Q : VK) (E : XK), Room k (A.deeper (envOfC qual (defScope st) s.heap.objs.size f cdv)) → sp vs H Q E →
      ∃ t, PSs (cxOf (CXE P w) P w K mg base N qual (defScope st) f cdv A outer s H E).nox (defBody st) t ∧ t { nx := fun _ H' => Q .non H', rt := Q } (start N vs) H) : FnOk P w K mg base (CXE P w) (k + 1) f fd ps sp :=
  F.okE S len fun cdv A outer s H vs Q E hr hsp => by
    obtain ⟨t, h, q⟩ := hbody cdv A outer s H vs Q E hr hsp
    exact ⟨t, h.nox, q⟩
theorem FunG.binds (F : FunG K x qual st .none f fd)
    (h : ∀ (kV doc pm : Value) (an : Option Addr) (cdv ct : Value) (us : List Value), us.length = ps.length → bindArgs (PySem.W.fnOf x qual (defArgs st) (defBody st) (defScope st) .none kV doc pm an cdv ct) ⟨us, []⟩ = pure (ps.zip us)) : Binds K fd ps [] := by
  obtain ⟨oc, od, kV, doc, pm, an, cdv, ct, osl, rfl, lk, hcd⟩ := F.ex
  exact .all (h kV doc pm an cdv ct)
theorem fung_mk {oc : Value} {od an : Option Addr} {osl : Array (Option Value)} {kV doc pm cdv ct : Value} (l : K.lookup f = some ⟨oc, od, .func (PySem.W.fnOf x qual (defArgs st) (defBody st) (defScope st) dV kV doc pm an cdv ct), osl⟩)
    (c : PySem.W.codeIn K cdv qual = true) (k : PySem.W.keepIn K (.ref f) = true) : FunG K x qual st dV f (PySem.W.fnOf x qual (defArgs st) (defBody st) (defScope st) dV kV doc pm an cdv ct) := ⟨⟨oc, od, kV, doc, pm, an, cdv, ct, osl, rfl, l, c⟩, k⟩
end
inductive Th (H : Hp) : V → Prop where
  | non : Th H .non
  | bl (b : Bool) : Th H (.bl b)
  | int (i : Int) : Th H (.int i)
  | str (x : Str) : Th H (.str x)
  | lst {a : Addr} {xs : List V} (h : H a = some (.lst xs)) : Th H (.ref a)
  | tup {a : Addr} {xs : List V} (h : H a = some (.tup xs)) : Th H (.ref a)
  | dK {a : Addr} {xs : List (Key × V)} (h : H a = some (.dK xs)) : Th H (.ref a)
theorem boot_bool : bootBuiltins "bool" = some (.type "bool") := by decide +kernel
end L2
namespace G1
open PySem L2
def top (i : Nat) : Stmt := PySem.Challenge.pw_dearsigns_k22_first_wrong_sign.main.body.getD i (.Pass ⟨0, 0, 0, 0⟩)
abbrev sName : Stmt := top 20
abbrev sBegins : Stmt := top 22
abbrev sClash : Stmt := top 25
abbrev sPlainB : Stmt := top 27
abbrev sReader : Stmt := top 29
abbrev sBehind : Stmt := top 30
abbrev sRead : Stmt := top 31
abbrev sPool : Stmt := top 33
abbrev sDraw : Stmt := top 34
abbrev sPlain : Stmt := top 35
abbrev sText : Stmt := top 36
abbrev sDue : Stmt := top 37
abbrev sTold : Stmt := top 38
abbrev sLaw : Stmt := top 39
abbrev sInit : Stmt := inClass sReader 0
abbrev sPut : Stmt := inClass sReader 1
abbrev sAmid : Stmt := inClass sReader 2
structure Bl (mg : Str → Option Value) : Prop where
  isi : mg "isinstance" = none
  int : mg "int" = none
  bool : mg "bool" = none
  tuple : mg "tuple" = none
  abs : mg "abs" = none
  len : mg "len" = none
  enum : mg "enumerate" = none
  str : mg "str" = none
  range : mg "range" = none
  max : mg "max" = none
  all : mg "all" = none
  set : mg "set" = none
  list : mg "list" = none
  min : mg "min" = none
section
variable {P : Program} {w : World} {K : PySem.W.Frag} {mg : Str → Option Value} {base : Heap}
end
end G1
namespace GM
end GM
namespace G1
open PySem L2 GM
section
variable {P : Program} {w : World} {K : PySem.W.Frag} {mg : Str → Option Value} {base : Heap}
end
end G1
namespace G1
open PySem L2 GM
section
variable {P : Program} {w : World} {K : PySem.W.Frag} {mg : Str → Option Value} {base : Heap}
end
end G1
namespace G1
open PySem L2 GM
section
variable {P : Program} {w : World} {K : PySem.W.Frag} {mg : Str → Option Value} {base : Heap} {c : List Addr}
theorem same_upd {H : Hp} {p : Addr} {o : HO} (h : H p = none) : Same H (upd H p o) := fun b u e => by rw [upd_ne (ne_of_none e h)]; exact e
structure Src (H : Hp) (p : Addr) : Prop where
  ex : ∃ n s : Int, H p = some (.lst [.int n, .int s]) ∧ 0 ≤ n ∧ 0 ≤ s ∧ s < 2147483647
def spDraw : Sp := fun vs H Q _ => ∃ (p : Addr) (m : Int), vs = [.ref p, .int m] ∧ Src H p ∧ 0 < m ∧ m.natAbs < big ∧ ∀ d H', 0 ≤ d → d < m → Src H' p → (∀ b, b ≠ p → H' b = H b) → Q (.int d) H'
theorem scD : FnScope ["_law_pool_here", "_law_many", "_law_found"] ["_law_pool_here", "_law_many"] (defScope sDraw) := ⟨rfl, rfl, rfl, by decide +kernel, rfl, by decide +kernel, by decide +kernel⟩
theorem ok_draw {f : Addr} {fd : FuncData} (F : FunG K "_law_take" "_law_take" sDraw .none f fd) : FnOk P w K mg base (CXE P w) 1 f fd ["_law_pool_here", "_law_many"] spDraw := by
  refine F.okN scD (fun vs H Q E h => ?_) (fun cdv A outer s H vs Q E hr h => ?_)
  · obtain ⟨p, m, rfl, _⟩ := h
    rfl
  · obtain ⟨p, m, rfl, ⟨n, sd, hp, n0, s0, s1⟩, m0, mb, q⟩ := h
    refine ⟨_, pss_cons (ps_if (pt_cmpR op_gt (pe_ix ix_list (pv 0) pe_int (fun _ _ => rfl)) pe_int (nomark _))
        (pss_cons (ps_set (i := 2) scD.nd rfl (Or.inl rfl) (pe_op op_mod (pe_ix ix_list (pv 0) pe_int (fun _ _ => rfl)) (pv 1)))
        (pss_cons (ps_asg (pe_op op_fdivP (pe_ix ix_list (pv 0) pe_int (fun _ _ => rfl)) (pv 1)) (pg_sub (pv 0) pe_int set_list))
        (pss_one (ps_ret (pv 2))))) pss_nil)
      (pss_cons (ps_asg (pe_op op_mod (pe_op op_add (pe_op op_mul (pe_ix ix_list (pv 0) pe_int (fun _ _ => rfl)) pe_int) pe_int) pe_int) (pg_sub (pv 0) pe_int set_list))
      (pss_one (ps_ret (pe_op op_mod (pe_op op_fdiv (pe_op op_mod (pe_op op_mul (pe_ix ix_list (pv 0) pe_int (fun _ _ => rfl)) (pe_ix ix_list (pv 0) pe_int (fun _ _ => rfl))) pe_int) pe_int) (pv 1))))), ?_⟩
    have st : SqL K H p [.int n, .int sd] := SqL.of hp
    refine ⟨_, rfl, p, _, _, _, rfl, rfl, st, rfl, _, _, rfl, rfl, _, rfl, ?_⟩
    refine ite2 (fun hn => ?_) (fun hn => ?_)
    · have n1 : (0 : Int) < n := of_decide_eq_true hn
      refine ⟨_, rfl, p, _, _, _, rfl, rfl, st, rfl, _, rfl, _, _, rfl, rfl, m0, ?_⟩
      refine ⟨_, rfl, p, _, _, _, rfl, rfl, st, rfl, _, rfl, _, _, rfl, rfl, ⟨m0, mb⟩, _, rfl, p, _, _, 0, rfl, rfl, hp, rfl, ?_⟩
      refine ⟨_, rfl, ?_⟩
      exact q _ _ (Int.emod_nonneg _ (by omega)) (Int.emod_lt_of_pos _ m0) ⟨_, _, upd_same, Int.ediv_nonneg n0 (by omega), s0, s1⟩ fun b hb => upd_ne hb
    · refine ⟨_, rfl, p, _, _, _, rfl, rfl, st, rfl, _, _, rfl, rfl, .inr ⟨by decide, by decide⟩, _, _, rfl, rfl, _, _, rfl, rfl, (by show (0 : Int) < 2147483647; decide), _, rfl, p, _, _, 1, rfl, rfl, hp, rfl, ?_⟩
      have t0 : (0 : Int) ≤ (sd * 48271 + 11) % 2147483647 := Int.emod_nonneg _ (by decide)
      have t1 : (sd * 48271 + 11) % 2147483647 < 2147483647 := Int.emod_lt_of_pos _ (by decide)
      have st2 : SqL K (upd H p (.lst [.int n, .int ((sd * 48271 + 11) % 2147483647)])) p [.int n, .int ((sd * 48271 + 11) % 2147483647)] := SqL.of upd_same
      refine ⟨_, rfl, p, _, _, _, rfl, rfl, st2, rfl, _, rfl, p, _, _, _, rfl, rfl, st2, rfl, _, _, rfl, rfl, .inl ⟨by show _ < (sd * 48271 + 11) % 2147483647; omega, by show (sd * 48271 + 11) % 2147483647 < _; omega⟩, _, _, rfl, rfl, (by show (0 : Int) < 2147483629; decide), _, _, rfl, rfl, ⟨by decide, by decide⟩, _, rfl, _, _, rfl, rfl, m0, ?_⟩
      exact q _ _ (Int.emod_nonneg _ (by omega)) (Int.emod_lt_of_pos _ m0) ⟨_, _, upd_same, n0, t0, t1⟩ fun b hb => upd_ne hb
end
end G1
namespace L2
open PySem PySem.Spec PyProof.Rows
def tCut (t : TS) : TS := fun D σ H => ∃ J : St → Hp → Prop, t { D with nx := J } σ H ∧ ∀ σ' H', J σ' H' → D.nx σ' H'
theorem ps_cut {X : Cx} {st : Stmt} {t : TS} (h : PS X st t) : PS X st (tCut t) := by
  intro pins s σ H D I hw
  obtain ⟨J, h1, h2⟩ := hw
  refine thn (h pins s σ H _ I h1) fun f s1 q => ?_
  cases f with
  | next =>
    obtain ⟨σ', H', I', q⟩ := q
    exact ⟨σ', H', I', h2 σ' H' q⟩
  | ret v => exact q
  | brk => exact q
  | cont => exact q
section
variable {X : Cx} {es : List Expr} {t : TA} {te : TE} {pos : Pos} {l r : List Expr} {k : Nat} {o : Operator} {a b : Expr} {cst : Const} {x : Str} {u : UnaryOp} {kw : List Keyword} {f : Expr}
theorem pac_c (ha : PE X (.Constant cst k pos) te) (hr : PA X es t) : PA X (.Constant cst k pos :: es) (tCons te t) := pa_cons ha hr rfl
theorem pac_n (ha : PE X (.Name x pos) te) (hr : PA X es t) : PA X (.Name x pos :: es) (tCons te t) := pa_cons ha hr rfl
theorem pac_t (ha : PE X (.Tuple l k pos) te) (hr : PA X es t) : PA X (.Tuple l k pos :: es) (tCons te t) := pa_cons ha hr rfl
theorem pac_d {ks : List (Option Expr)} {vs : List Expr} (ha : PE X (.Dict ks vs pos) te) (hr : PA X es t) : PA X (.Dict ks vs pos :: es) (tCons te t) := pa_cons ha hr rfl
theorem pac_b (ha : PE X (.BinOp a o b pos) te) (hr : PA X es t) : PA X (.BinOp a o b pos :: es) (tCons te t) := pa_cons ha hr rfl
theorem pac_f (ha : PE X (.Call f l kw pos) te) (hr : PA X es t) : PA X (.Call f l kw pos :: es) (tCons te t) := pa_cons ha hr rfl
end
end L2
namespace G1
open PySem L2 GM
def Ext (p : Addr) (H H' : Hp) : Prop := ∀ b o, b ≠ p → H b = some o → H' b = some o
theorem Ext.trans {p : Addr} {H H1 H2 : Hp} (a : Ext p H H1) (b : Ext p H1 H2) : Ext p H H2 := fun c o n h => b c o n (a c o n h)
theorem Ext.of_eq {p : Addr} {H H' : Hp} (h : ∀ b, b ≠ p → H' b = H b) : Ext p H H' := fun b o n e => (h b n).trans e
theorem Src.ne {H : Hp} {p l : Addr} (s : Src H p) (h : H l = none) : l ≠ p := fun z => by
  obtain ⟨n, d, e, _⟩ := s.ex
  rw [← z, h] at e; cases e
structure ThP (H : Hp) (p : Addr) (x : V) : Prop where
  th : Th H x
  ne : x ≠ .ref p
theorem ThP.ext {H H' : Hp} {p : Addr} {x : V} (h : ThP H p x) (e : Ext p H H') : ThP H' p x := by
  obtain ⟨h, ne⟩ := h
  refine ⟨?_, ne⟩
  cases h with
  | non => exact .non
  | bl b => exact .bl b
  | int i => exact .int i
  | str x => exact .str x
  | lst h => exact .lst (e _ _ (fun z => ne (by rw [z])) h)
  | tup h => exact .tup (e _ _ (fun z => ne (by rw [z])) h)
  | dK h => exact .dK (e _ _ (fun z => ne (by rw [z])) h)
end G1
namespace L2
open PySem PySem.Spec PyProof.Rows
structure SPE (X : Cx) (e : Expr) (t : TE) : Prop where
  out : PE X e t
structure SPT (X : Cx) (e : Expr) (t : TT) : Prop where
  out : PT X e t
structure SPW (X : Cx) (e : Expr) (t : TT) : Prop where
  out : PW X e t
structure SPA (X : Cx) (es : List Expr) (t : TA) : Prop where
  out : PA X es t
structure SPS (X : Cx) (st : Stmt) (t : TS) : Prop where
  out : PS X st t
structure SPSs (X : Cx) (st : List Stmt) (t : TS) : Prop where
  out : PSs X st t
structure SPG (X : Cx) (e : Expr) (t : TG) : Prop where
  out : PG X e t
structure SPGs (X : Cx) (es : List Expr) (t : TGs) : Prop where
  out : PGs X es t
structure SPI (X : Cx) (tg e : Expr) (t : TI) : Prop where
  out : PI X tg e t
structure SPEX (X : Cx) (e : Expr) (t : TEX) : Prop where
  out : PEX X e t
structure SPSX (X : Cx) (st : List Stmt) (t : TSX) : Prop where
  out : PSX X st t
structure SPC (X : Cx) (op : CmpOp) (a b : Expr) (t : TE) : Prop where
  out : PC X op a b t
structure SPO (X : Cx) (e : Option Expr) (t : TO) : Prop where
  out : PO X e t
theorem SPW.pt {X : Cx} {e : Expr} {t : TT} (h : SPW X e t) : SPT X e t := ⟨h.out.pt⟩
section
variable {X : Cx}
theorem zpv (i : Nat) {x : Str} {pos : Pos} (hN : X.N[i]? = some x := by rfl) (hv : Vis X.env.scope x := by first | exact Or.inl rfl | exact Or.inr (Or.inl rfl) | exact Or.inr (Or.inr rfl)) (hd : (x == ("__debug__" : Str)) = false := by decide) (hcd : (x == ("__classdict__" : Str)) = false := by decide) : SPE X (.Name x pos) (tVar i) := ⟨pv i hN hv hd hcd⟩
end
section
variable {X : Cx}
theorem zpe_int {i j pos} : SPE X (.Constant (.int i) j pos) (tC (.int i)) := ⟨pe_int ⟩
end
section
variable {X : Cx}
theorem zpe_bl {b j pos} : SPE X (.Constant (.bool b) j pos) (tC (.bl b)) := ⟨pe_bl ⟩
end
section
variable {X : Cx}
theorem zpe_non {j pos} : SPE X (.Constant .none j pos) (tC .non) := ⟨pe_non ⟩
end
section
variable {X : Cx}
theorem zpe_str {x j pos} : SPE X (.Constant (.str x) j pos) (tC (.str x)) := ⟨pe_str ⟩
end
section
variable {X : Cx}
theorem zpe_glob {x : Str} {v : V} {u : Value} {pos : Pos} (hg : Gl X x) (hm : X.mg x = some u) (r : RelV v u) (hd : (x == ("__debug__" : Str)) = false := by decide) : SPE X (.Name x pos) (tC v) := ⟨pe_glob hg hm r hd⟩
end
section
variable {X : Cx}
theorem zpe_bltn {x : Str} {v : V} {u : Value} {pos : Pos} (hg : Gl X x) (hm : X.mg x = none) (hv : bootBuiltins x = some u) (r : RelV v u) (hn : x ≠ "__name__" := by decide) (hd : (x == ("__debug__" : Str)) = false := by decide) : SPE X (.Name x pos) (tC v) := ⟨pe_bltn hg hm hv r hn hd⟩
end
section
variable {X : Cx} {a b : Expr} {ta tb : TE} {pos : Pos} {tA tB' : TT} {rest : List Expr}
end
section
variable {X : Cx} {a b : Expr} {ta tb : TE} {pos : Pos} {tA tB' : TT} {rest : List Expr}
end
section
variable {X : Cx} {a b : Expr} {ta tb : TE} {pos : Pos} {tA tB' : TT} {rest : List Expr}
end
section
variable {X : Cx} {a b : Expr} {ta tb : TE} {pos : Pos} {tA tB' : TT} {rest : List Expr}
end
section
variable {X : Cx} {a b : Expr} {ta tb : TE} {pos : Pos} {tA tB' : TT} {rest : List Expr}
end
section
variable {X : Cx} {a b : Expr} {ta tb : TE} {pos : Pos}
end
section
variable {X : Cx} {a b : Expr} {ta tb : TE} {pos : Pos}
theorem zpc_isN {j pos'} (ha : SPE X a ta) : SPC X .Is a (.Constant .none j pos') (tIsN ta) := ⟨pc_isN ha.out⟩
end
section
variable {X : Cx} {a b : Expr} {ta tb : TE} {pos : Pos}
theorem zpc_notN {j pos'} (ha : SPE X a ta) : SPC X .IsNot a (.Constant .none j pos') (tNotN ta) := ⟨pc_notN ha.out⟩
end
section
variable {X : Cx} {a b : Expr} {ta tb : TE} {pos : Pos}
theorem zpt_cmp {op : CmpOp} {t : TE} (h : SPC X op a b t) (h1 : behindInMarks op b = false := by first | exact nobehind _ (by decide) (by decide) | rfl) : SPT X (.Compare a [op] [b] pos) (tB t) := ⟨pt_cmp h.out h1⟩
end
section
variable {X : Cx} {a b : Expr} {ta tb : TE} {pos : Pos}
theorem zpt_val {e : Expr} {t : TE} (h : SPE X e t) (he : ∀ whole, isTrue e X.env whole = (do let v ← whole; standAt e.pos; holding [v] (truthy v)) := by intro _; rfl) : SPT X e (tB t) := ⟨pt_val h.out he⟩
end
section
variable {X : Cx} {a b : Expr} {ta tb : TE} {pos : Pos} {tA tB' : TT} {rest : List Expr}
theorem zpw_and1 (ha : SPT X a tA) : SPW X (.BoolOp .And [a] pos) tA := ⟨pw_and1 ha.out⟩
end
section
variable {X : Cx} {a b : Expr} {ta tb : TE} {pos : Pos} {tA tB' : TT} {rest : List Expr}
theorem zpw_or1 (ha : SPT X a tA) : SPW X (.BoolOp .Or [a] pos) tA := ⟨pw_or1 ha.out⟩
end
section
variable {X : Cx} {a b : Expr} {ta tb : TE} {pos : Pos} {tA tB' : TT} {rest : List Expr}
theorem zpw_and (ha : SPT X a tA) (hb : SPW X (.BoolOp .And (b :: rest) pos) tB') : SPW X (.BoolOp .And (a :: b :: rest) pos) (tAnd tA tB') := ⟨pw_and ha.out hb.out⟩
end
section
variable {X : Cx} {a b : Expr} {ta tb : TE} {pos : Pos} {tA tB' : TT} {rest : List Expr}
theorem zpw_or (ha : SPT X a tA) (hb : SPW X (.BoolOp .Or (b :: rest) pos) tB') : SPW X (.BoolOp .Or (a :: b :: rest) pos) (tOr tA tB') := ⟨pw_or ha.out hb.out⟩
end
section
variable {X : Cx} {a b : Expr} {ta tb : TE} {pos : Pos} {tA tB' : TT} {rest : List Expr}
theorem zpt_not (ha : SPT X a tA) : SPT X (.UnaryOp .Not a pos) (tNot tA) := ⟨pt_not ha.out⟩
end
section
variable {X : Cx} {st : Stmt} {rest : List Stmt} {t u : TS} {e : Expr} {te : TE} {pos : Pos}
theorem zpss_nil  : SPSs X [] tNext := ⟨pss_nil ⟩
end
section
variable {X : Cx} {st : Stmt} {rest : List Stmt} {t u : TS} {e : Expr} {te : TE} {pos : Pos}
theorem zpss_cons (h1 : SPS X st t) (h2 : SPSs X rest u) : SPSs X (st :: rest) (tSeq t u) := ⟨pss_cons h1.out h2.out⟩
end
section
variable {X : Cx} {st : Stmt} {rest : List Stmt} {t u : TS} {e : Expr} {te : TE} {pos : Pos}
theorem zpss_one (h1 : SPS X st t) : SPSs X [st] t := ⟨pss_one h1.out⟩
end
section
variable {X : Cx} {st : Stmt} {rest : List Stmt} {t u : TS} {e : Expr} {te : TE} {pos : Pos}
end
section
variable {X : Cx} {st : Stmt} {rest : List Stmt} {t u : TS} {e : Expr} {te : TE} {pos : Pos}
end
section
variable {X : Cx} {st : Stmt} {rest : List Stmt} {t u : TS} {e : Expr} {te : TE} {pos : Pos}
end
section
variable {X : Cx} {st : Stmt} {rest : List Stmt} {t u : TS} {e : Expr} {te : TE} {pos : Pos}
theorem zps_expr (he : SPE X e te) (hs : swapsWith e none pos.line X.env = pure false := by rfl) : SPS X (.Expr e pos) (tDrop te) := ⟨ps_expr he.out hs⟩
end
section
variable {X : Cx} {st : Stmt} {rest : List Stmt} {t u : TS} {e : Expr} {te : TE} {pos : Pos}
theorem zps_ret (he : SPE X e te) : SPS X (.Return (some e) pos) (tRet te) := ⟨ps_ret he.out⟩
end
section
variable {X : Cx} {st : Stmt} {rest : List Stmt} {t u : TS} {e : Expr} {te : TE} {pos : Pos}
end
section
variable {X : Cx} {st : Stmt} {rest : List Stmt} {t u : TS} {e : Expr} {te : TE} {pos : Pos}
theorem zps_if {c : Expr} {a b : List Stmt} {tc : TT} (hc : SPT X c tc) (ha : SPSs X a t) (hb : SPSs X b u) : SPS X (.If c a b pos) (tIfS tc t u) := ⟨ps_if hc.out ha.out hb.out⟩
end
section
variable {X : Cx} {pos : Pos}
theorem zpg_name {i : Nat} {x : Str} (hN : X.N.Nodup) (hi : X.N[i]? = some x) (hx : Loc X.env.scope x) (hf : X.fn x = true ∨ X.env.scope.names.lookup x = some .local := by first | exact .inl rfl | exact .inr rfl | assumption) : SPG X (.Name x pos) (gName i) := ⟨pg_name hN hi hx hf⟩
end
section
variable {X : Cx} {pos : Pos}
theorem zpgs_nil  : SPGs X [] gNil := ⟨pgs_nil ⟩
end
section
variable {X : Cx} {pos : Pos}
theorem zpgs_cons {e : Expr} {es : List Expr} {t : TG} {u : TGs} (h1 : SPG X e t) (h2 : SPGs X es u) (hs : (assignEach (e :: es) X.env).map (·.2) = assign e X.env :: (assignEach es X.env).map (·.2) := by rfl) : SPGs X (e :: es) (gCons t u) := ⟨pgs_cons h1.out h2.out hs⟩
end
section
variable {X : Cx} {pos : Pos}
theorem zpg_tup {es : List Expr} {k : Nat} {t : TGs} {n : Nat} (hc : X.calm = true) (h : SPGs X es t) (hn : (assignEach es X.env).length = n := by rfl) (hst : (assignEach es X.env).findIdx? (·.1) = none := by rfl) : SPG X (.Tuple es k pos) (gTup X.K n t) := ⟨pg_tup hc h.out hn hst⟩
end
section
variable {X : Cx} {pos : Pos}
end
section
variable {X : Cx} {pos : Pos}
end
section
variable {X : Cx} {pos : Pos}
theorem zps_set {i : Nat} {x : Str} {e : Expr} {te : TE} {pos' : Pos} (hN : X.N.Nodup) (hi : X.N[i]? = some x) (hx : Loc X.env.scope x) (he : SPE X e te) (hs : swapsWith e (some (.Name x pos')) pos.line X.env = pure false := by rfl) (hf : X.fn x = true ∨ X.env.scope.names.lookup x = some .local := by first | exact .inl rfl | exact .inr rfl | assumption) : SPS X (.Assign [.Name x pos'] e pos) (tAsg te (gName i)) := ⟨ps_set hN hi hx he.out hs hf⟩
end
section
variable {X : Cx} {pos : Pos}
end
section
variable {X : Cx} {pos : Pos}
end
section
variable {X : Cx} {pos : Pos}
theorem zps_while {c : Expr} {body : List Stmt} {tc : TT} {tb : TS} (hp : PassesOwn (model X.prog X.w) X.A X.env X.xe) (hc : SPT X c tc) (hb : SPSs X body tb) : SPS X (.While c body [] pos) (tWhile tc tb) := ⟨ps_while hp hc.out hb.out⟩
end
section
variable {X : Cx} {tg : Expr}
theorem zpi_list {l : Expr} {tl : TE} (hl : SPE X l tl) : SPI X tg l (iList X.K tl) := ⟨pi_list hl.out⟩
end
section
variable {X : Cx} {tg : Expr}
end
section
variable {X : Cx} {tg : Expr}
theorem zpi_range1 {a : Expr} {ta : TA} {p pos : Pos} (hg : Gl X "range") (hm : X.mg "range" = none) (ha : SPA X [a] ta) (hs : starEach [a] X.env = [(false, eval a X.env)] := by rfl) : SPI X tg (.Call (.Name "range" p) [a] [] pos) (iRng1 ta) := ⟨pi_range1 hg hm ha.out hs⟩
end
section
variable {X : Cx} {tg : Expr}
theorem zpi_range2 {a b : Expr} {ta : TA} {p pos : Pos} (hg : Gl X "range") (hm : X.mg "range" = none) (ha : SPA X [a, b] ta) (hs : starEach [a, b] X.env = [(false, eval a X.env), (false, eval b X.env)] := by rfl) (hs2 : starEach [b] X.env = [(false, eval b X.env)] := by rfl) : SPI X tg (.Call (.Name "range" p) [a, b] [] pos) (iRng2 ta) := ⟨pi_range2 hg hm ha.out hs hs2⟩
end
section
variable {X : Cx} {es : List Expr} {tk : Nat} {tpos : Pos}
theorem zpi_enum {l : Expr} {ta : TA} {p pos : Pos} (hg : Gl X "enumerate") (hm : X.mg "enumerate" = none) (ha : SPA X [l] ta) (hs : starEach [l] X.env = [(false, eval l X.env)] := by rfl) : SPI X (.Tuple es tk tpos) (.Call (.Name "enumerate" p) [l] [] pos) (iEnum X.K ta) := ⟨pi_enum hg hm ha.out hs⟩
end
section
variable {X : Cx} {tg : Expr}
theorem zps_for {iter : Expr} {body : List Stmt} {wi : TI} {g : TG} {tb : TS} {pos : Pos} (hp : PassesOwn (model X.prog X.w) X.A X.env X.xe) (hc : X.calm = true) (hi : SPI X tg iter wi) (hg : SPG X tg g) (hb : SPSs X body tb) (hs : ∀ x, foldedSetIterable iter X.env x = pure x := by intro _; rfl) : SPS X (.For tg iter body [] pos) (tFor wi g tb) := ⟨ps_for hp hc hi.out hg.out hb.out hs⟩
end
section
variable {X : Cx} {a b c : Expr} {ta tb tc : TE} {pos : Pos}
theorem zpe_op {op : Operator} {r : R2} (ho : OpR X (binaryOp op) r) (ha : SPE X a ta) (hb : SPE X b tb) : SPE X (.BinOp a op b pos) (tOp r ta tb) := ⟨pe_op ho ha.out hb.out⟩
end
section
variable {X : Cx} {a b c : Expr} {ta tb tc : TE} {pos : Pos}
end
section
variable {X : Cx} {a b c : Expr} {ta tb tc : TE} {pos : Pos}
theorem zpe_cmpR {op : CmpOp} {r : R2} (ho : OpR X (compareOp op) r) (ha : SPE X a ta) (hb : SPE X b tb) (hm : behindInMarks op b = false) : SPE X (.Compare a [op] [b] pos) (tOp r ta tb) := ⟨pe_cmpR ho ha.out hb.out hm⟩
end
section
variable {X : Cx} {a b c : Expr} {ta tb tc : TE} {pos : Pos}
theorem zpt_cmpR {op : CmpOp} {r : R2} (ho : OpR X (compareOp op) r) (ha : SPE X a ta) (hb : SPE X b tb) (hm : behindInMarks op b = false) : SPT X (.Compare a [op] [b] pos) (tTest (tOp r ta tb)) := ⟨pt_cmpR ho ha.out hb.out hm⟩
end
section
variable {X : Cx} {a b c : Expr} {ta tb tc : TE} {pos : Pos}
end
section
variable {X : Cx} {a b c : Expr} {ta tb tc : TE} {pos : Pos}
end
section
variable {X : Cx} {a b c : Expr} {ta tb tc : TE} {pos : Pos}
end
section
variable {X : Cx} {e : Expr} {es : List Expr} {te : TE} {t : TA} {pos : Pos}
theorem zpe_tup {x1} (h : SPA X es t) : SPE X (.Tuple es x1 pos) (tTup t) := ⟨pe_tup h.out⟩
end
section
variable {X : Cx} {e : Expr} {es : List Expr} {te : TE} {t : TA} {pos : Pos}
theorem zpe_lst (h : SPA X es t) : SPE X (.List es pos) (tLst t) := ⟨pe_lst h.out⟩
end
section
variable {X : Cx} {CX : CXT} {k : Nat} {f C : Addr} {fd : FuncData} {ps : List Str} {sp : Sp} {dvs : List V} {ds : List Value} {E : XK} {x m : Str} {p pos apos : Pos} {e o : Expr} {es : List Expr} {ta : TE} {t : TA}
theorem zpe_call (F : FnOk X.prog X.w X.K X.mg X.base CX k f fd ps sp) (hr : Room k X.A) (hg : Gl X x) (hm : X.mg x = some (.ref f)) (hk : PySem.W.keepIn X.K (.ref f) = true) (hb : Binds X.K fd ps ds) (hd : Vals dvs ds) (hx : Passes CX X E) (ha : SPA X (e :: es) t) (hdb : (x == ("__debug__" : Str)) = false := by decide) (he : starEach (e :: es) X.env = (false, eval e X.env) :: starEach es X.env := by rfl) (hpl : (backTo pos (starEach es X.env)).any (·.1) = false := by rfl) : SPE X (.Call (.Name x p) (e :: es) [] pos) (tCall sp dvs E t) := ⟨pe_call F hr hg hm hk hb hd hx ha.out hdb he hpl⟩
end
section
variable {X : Cx} {CX : CXT} {k : Nat} {f C : Addr} {fd : FuncData} {ps : List Str} {sp : Sp} {dvs : List V} {ds : List Value} {E : XK} {x m : Str} {p pos apos : Pos} {e o : Expr} {es : List Expr} {ta : TE} {t : TA}
end
section
variable {X : Cx} {x : Str} {p pos : Pos} {e : Expr} {es : List Expr} {t : TA} {id T : String} {r : List V → Hp → VK → Prop}
theorem zpe_callB (hc : CallR X (.builtin id) r) (hg : Gl X x) (hm : X.mg x = none) (hv : bootBuiltins x = some (.builtin id)) (ha : SPA X (e :: es) t) (hn : x ≠ "__name__" := by decide) (hdb : (x == ("__debug__" : Str)) = false := by decide) (he : starEach (e :: es) X.env = (false, eval e X.env) :: starEach es X.env := by rfl) (hpl : (backTo pos (starEach es X.env)).any (·.1) = false := by rfl) : SPE X (.Call (.Name x p) (e :: es) [] pos) (tCB r t) := ⟨pe_callB hc hg hm hv ha.out hn hdb he hpl⟩
end
section
variable {X : Cx} {x : Str} {p pos : Pos} {e : Expr} {es : List Expr} {t : TA} {id T : String} {r : List V → Hp → VK → Prop}
theorem zpe_callTy (hc : CallR X (.type T) r) (hg : Gl X x) (hm : X.mg x = none) (hv : bootBuiltins x = some (.type T)) (ha : SPA X (e :: es) t) (hn : x ≠ "__name__" := by decide) (hdb : (x == ("__debug__" : Str)) = false := by decide) (he : starEach (e :: es) X.env = (false, eval e X.env) :: starEach es X.env := by rfl) (hpl : (backTo pos (starEach es X.env)).any (·.1) = false := by rfl) : SPE X (.Call (.Name x p) (e :: es) [] pos) (tCB r t) := ⟨pe_callTy hc hg hm hv ha.out hn hdb he hpl⟩
end
section
variable {X : Cx} {x : Str} {p pos : Pos} {e : Expr} {es : List Expr} {t : TA} {id T : String} {r : List V → Hp → VK → Prop}
end
section
variable {X : Cx} {e : Expr} {te : TE} {lo hi : Option Expr} {tl th : TO} {pos p2 : Pos}
theorem zpe_slice {r : V → Option Int → Option Int → Hp → VK → Prop} (hr : SlR X r) (he : SPE X e te) (hl : SPO X lo tl) (hu : SPO X hi th) : SPE X (.Subscript e (.Slice lo hi none p2) pos) (tSl r te tl th) := ⟨pe_slice hr he.out hl.out hu.out⟩
end
section
variable {X : Cx} {e : Expr} {te : TE} {lo hi : Option Expr} {tl th : TO} {pos p2 : Pos}
theorem zpo_none  : SPO X none tNoPart := ⟨po_none ⟩
end
section
variable {X : Cx} {e : Expr} {te : TE} {lo hi : Option Expr} {tl th : TO} {pos p2 : Pos}
theorem zpo_some (h : SPE X e te) : SPO X (some e) (tPart te) := ⟨po_some h.out⟩
end
section
variable {X : Cx} {a b : Expr} {ta tb : TE} {pos : Pos}
theorem zpe_ix {r : R2} (hr : IxR X r) (ha : SPE X a ta) (hb : SPE X b tb) (hs : PlainIx b) : SPE X (.Subscript a b pos) (tOp r ta tb) := ⟨pe_ix hr ha.out hb.out hs⟩
end
section
variable {X : Cx} {a b : Expr} {ta tb : TE} {pos : Pos} {o e : Expr} {es : List Expr} {to : TE} {t : TA} {name : Str} {apos cpos : Pos} {T id : String} {r : V → List V → Hp → VK → Prop}
end
section
variable {X : Cx} {a b : Expr} {ta tb : TE} {pos : Pos} {o e : Expr} {es : List Expr} {to : TE} {t : TA} {name : Str} {apos cpos : Pos} {T id : String} {r : V → List V → Hp → VK → Prop}
theorem zpe_bm (pa : PlainAttrs T) (slot : Slot T name id) (hty : typeOf (.builtin id) = pure (.type "method_descriptor")) (hm : MtR X id r) (ho : SPE X o to) (ha : SPA X (e :: es) t) (hbase : attributeBase o name X.env (eval o X.env) = eval o X.env := by rfl) (hfew : ((backTo cpos (starEach (e :: es) X.env)).all (fun x => !x.1) && (backToKw cpos (keywordEach [] X.env)).all (fun x => x.1.isSome)
      && decide ((e :: es).length + ([] : List Keyword).length + (if ([] : List Keyword).isEmpty then 0 else 1) < 30)) = true := by rfl) (hline : (apos.endLine == cpos.line) = true := by rfl) (hs : starEach (e :: es) X.env = (false, eval e X.env) :: starEach es X.env := by rfl) (hplain : (backTo cpos (starEach es X.env)).any (·.1) = false := by rfl) : SPE X (.Call (.Attribute o name apos) (e :: es) [] cpos) (tBM X.K T r to t) := ⟨pe_bm pa slot hty hm ho.out ha.out hbase hfew hline hs hplain⟩
end
section
variable {X : Cx} {e : Expr} {es : List Expr} {te : TE} {t : TA} {pos : Pos}
theorem zpa_nil  : SPA X [] tNil := ⟨pa_nil ⟩
end
section
variable {X : Cx} {e : Expr} {es : List Expr} {te : TE} {t : TA} {pos : Pos}
end
section
theorem zpe_dict0 {X : Cx} {pos : Pos} : SPE X (.Dict [] [] pos) tDict0 := ⟨pe_dict0 ⟩
end
section
theorem zps_raise {X : Cx} {x : Str} {C : Addr} {e0 : Expr} {es : List Expr} {t : TA} {E : XK} {np cpos pos : Pos} (hth : ∀ (pins : List (Addr × Obj)) (σ : St) (H : Hp) (s : Shared) (h1 : Heap) (e : Addr) (args : List Value), Inv X pins σ H s → Heap.MadeExcOf s.heap h1 e (.ref C) args → E (.ref C) none H → X.xe (.ref e) { s with heap := h1 }) (hc : X.calm = true) (hg : Gl X x) (hm : X.mg x = some (.ref C)) (q : ExcK X.K C) (ha : SPA X (e0 :: es) t) (hd : (x == ("__debug__" : Str)) = false := by decide) (he : starEach (e0 :: es) X.env = (false, eval e0 X.env) :: starEach es X.env := by rfl) (hp : (backTo cpos (starEach es X.env)).any (·.1) = false := by rfl) : SPS X (.Raise (some (.Call (.Name x np) (e0 :: es) [] cpos)) none pos) (tRaise C E t) := ⟨ps_raise hth hc hg hm q ha.out hd he hp⟩
end
section
variable {X : Cx} {k : Nat} {f : Addr} {fd : FuncData} {ps : List Str} {sp : Sp} {dvs : List V} {ds : List Value} {x : Str} {p pos : Pos} {e : Expr} {es : List Expr} {t : TA}
theorem zpex_call (F : FnOk X.prog X.w X.K X.mg X.base (CXE X.prog X.w) k f fd ps sp) (hr : Room k X.A) (hg : Gl X x) (hm : X.mg x = some (.ref f)) (hk : PySem.W.keepIn X.K (.ref f) = true) (hb : Binds X.K fd ps ds) (hd : Vals dvs ds) (ha : SPA X.nox (e :: es) t) (hdb : (x == ("__debug__" : Str)) = false := by decide) (he : starEach (e :: es) X.env = (false, eval e X.env) :: starEach es X.env := by rfl) (hpl : (backTo pos (starEach es X.env)).any (·.1) = false := by rfl) : SPEX X (.Call (.Name x p) (e :: es) [] pos) (tCallX sp dvs t) := ⟨pex_call F hr hg hm hk hb hd ha.out hdb he hpl⟩
end
section
variable {X : Cx} {k : Nat} {f : Addr} {fd : FuncData} {ps : List Str} {sp : Sp} {dvs : List V} {ds : List Value} {x : Str} {p pos : Pos} {e : Expr} {es : List Expr} {t : TA}
end
section
variable {X : Cx} {k : Nat} {f : Addr} {fd : FuncData} {ps : List Str} {sp : Sp} {dvs : List V} {ds : List Value} {x : Str} {p pos : Pos} {e : Expr} {es : List Expr} {t : TA}
theorem zpsx_asg {i : Nat} {y : Str} {te : TEX} {py : Pos} (hN : X.N.Nodup) (hi : X.N[i]? = some y) (hx : Loc X.env.scope y) (he : SPEX X e te) (hs : swapsWith e (some (.Name y py)) pos.line X.env = pure false := by rfl) (hf : X.fn y = true ∨ X.env.scope.names.lookup y = some .local := by first | exact .inl rfl | exact .inr rfl | assumption) : SPSX X [.Assign [.Name y py] e pos] (fun D E σ H => te σ H (fun v H1 => D.nx (σ.set i (some v)) H1) E) := ⟨psx_asg hN hi hx he.out hs hf⟩
end
section
variable {X : Cx} {k : Nat} {f : Addr} {fd : FuncData} {ps : List Str} {sp : Sp} {dvs : List V} {ds : List Value} {x : Str} {p pos : Pos} {e : Expr} {es : List Expr} {t : TA}
end
section
variable {X : Cx} {k : Nat} {f : Addr} {fd : FuncData} {ps : List Str} {sp : Sp} {dvs : List V} {ds : List Value} {x : Str} {p pos : Pos} {e : Expr} {es : List Expr} {t : TA}
end
section
theorem zps_cut {X : Cx} {st : Stmt} {t : TS} (h : SPS X st t) : SPS X st (tCut t) := ⟨ps_cut h.out⟩
end
section
variable {X : Cx} {es : List Expr} {t : TA} {te : TE} {pos : Pos} {l r : List Expr} {k : Nat} {o : Operator} {a b : Expr} {cst : Const} {x : Str} {u : UnaryOp} {kw : List Keyword} {f : Expr}
theorem zpac_c (ha : SPE X (.Constant cst k pos) te) (hr : SPA X es t) : SPA X (.Constant cst k pos :: es) (tCons te t) := ⟨pac_c ha.out hr.out⟩
end
section
variable {X : Cx} {es : List Expr} {t : TA} {te : TE} {pos : Pos} {l r : List Expr} {k : Nat} {o : Operator} {a b : Expr} {cst : Const} {x : Str} {u : UnaryOp} {kw : List Keyword} {f : Expr}
theorem zpac_n (ha : SPE X (.Name x pos) te) (hr : SPA X es t) : SPA X (.Name x pos :: es) (tCons te t) := ⟨pac_n ha.out hr.out⟩
end
section
variable {X : Cx} {es : List Expr} {t : TA} {te : TE} {pos : Pos} {l r : List Expr} {k : Nat} {o : Operator} {a b : Expr} {cst : Const} {x : Str} {u : UnaryOp} {kw : List Keyword} {f : Expr}
end
section
variable {X : Cx} {es : List Expr} {t : TA} {te : TE} {pos : Pos} {l r : List Expr} {k : Nat} {o : Operator} {a b : Expr} {cst : Const} {x : Str} {u : UnaryOp} {kw : List Keyword} {f : Expr}
theorem zpac_t (ha : SPE X (.Tuple l k pos) te) (hr : SPA X es t) : SPA X (.Tuple l k pos :: es) (tCons te t) := ⟨pac_t ha.out hr.out⟩
end
section
variable {X : Cx} {es : List Expr} {t : TA} {te : TE} {pos : Pos} {l r : List Expr} {k : Nat} {o : Operator} {a b : Expr} {cst : Const} {x : Str} {u : UnaryOp} {kw : List Keyword} {f : Expr}
theorem zpac_d {ks : List (Option Expr)} {vs : List Expr} (ha : SPE X (.Dict ks vs pos) te) (hr : SPA X es t) : SPA X (.Dict ks vs pos :: es) (tCons te t) := ⟨pac_d ha.out hr.out⟩
end
section
variable {X : Cx} {es : List Expr} {t : TA} {te : TE} {pos : Pos} {l r : List Expr} {k : Nat} {o : Operator} {a b : Expr} {cst : Const} {x : Str} {u : UnaryOp} {kw : List Keyword} {f : Expr}
theorem zpac_b (ha : SPE X (.BinOp a o b pos) te) (hr : SPA X es t) : SPA X (.BinOp a o b pos :: es) (tCons te t) := ⟨pac_b ha.out hr.out⟩
end
section
variable {X : Cx} {es : List Expr} {t : TA} {te : TE} {pos : Pos} {l r : List Expr} {k : Nat} {o : Operator} {a b : Expr} {cst : Const} {x : Str} {u : UnaryOp} {kw : List Keyword} {f : Expr}
end
section
variable {X : Cx} {es : List Expr} {t : TA} {te : TE} {pos : Pos} {l r : List Expr} {k : Nat} {o : Operator} {a b : Expr} {cst : Const} {x : Str} {u : UnaryOp} {kw : List Keyword} {f : Expr}
theorem zpac_f (ha : SPE X (.Call f l kw pos) te) (hr : SPA X es t) : SPA X (.Call f l kw pos :: es) (tCons te t) := ⟨pac_f ha.out hr.out⟩
end
section
variable {X : Cx} {es : List Expr} {t : TA} {te : TE} {pos : Pos} {l r : List Expr} {k : Nat} {o : Operator} {a b : Expr} {cst : Const} {x : Str} {u : UnaryOp} {kw : List Keyword} {f : Expr}
end
theorem zps_try_as {X : Cx} {body : List Stmt} {tb : TSX} {th : TS} {d n : Str} {D : Addr} {j : Nat} {b0 : Stmt} {suite : List Stmt} {pd hpos pos : Pos} (hb : SPSX X body tb) (hN : X.N.Nodup) (hj : X.N[j]? = some n) (hx : X.env.scope.names.lookup n = some .local)
    (hst : X.stack = X.env :: X.outer) (hL : X.env.frame = some X.env.locals) (hg : Gl X d) (hm : X.mg d = some (.ref D)) (c : CatchK X.K D) (hs : ∀ e, SPSs (X.held e) (b0 :: suite) th) (hd : (d == ("__debug__" : Str)) = false := by decide) :
    SPS X (.Try body [.ExceptHandler (some (.Name d pd)) (some n) (b0 :: suite) hpos] [] [] pos) (tTryAs X.K D j tb th) := ⟨ps_try_as hb.out hN hj hx hst hL hg hm c (fun e => (hs e).out) hd⟩
structure SPTs (X : Cx) (ifs : List Expr) (t : TT) : Prop where
  out : PTs X ifs t
theorem zpts_nil {X : Cx} : SPTs X [] (fun _ H Q => Q true H) := ⟨pts_nil⟩
theorem zpts_one {X : Cx} {e : Expr} {t : TT} (h : SPT X e t) : SPTs X [e] t := ⟨pts_one h.out⟩
section
variable {X : Cx} {tg iter elt : Expr} {ifs : List Expr} {scope esc : Scope} {pos gpos p : Pos} {N os : List Str} {fi : List Nat} {wi : TI} {g : TG} {tt : TT} {te : TE} {c P : Addr} {k : Nat}
theorem zpi_str {l : Expr} {tl : TE} (hl : SPE X l tl) : SPI X tg l (iStr tl) := ⟨pi_str hl.out⟩
theorem zpe_all (N os : List Str) (fi : List Nat) (esc : Scope) (hc : X.calm = true) (hr : Room k X.A) (hgl : Gl X "all") (hm : X.mg "all" = none) (hcd : X.env.code = .ref c) (CK : CodeK X.K c P) (BM : BmK X) (hN : X.N = N) (he : X.env.scope = esc) (B : BlkOk esc scope N fi) (hco : scope.isCoroutine = false) (h0 : scope.names.lookup (".0" : Str) = some NameKind.local) (hi : SPI X tg iter wi)
    (hg : ∀ code s H fp, SPG (gblk X scope (nB N os fi) code s H fp) tg g) (hel : ∀ code s H fp, SPE (gblk X scope (nB N os fi) code s H fp) elt te)
    (hs : ∀ x, genFold iter X.env x = pure x := by intro _; rfl) : SPE X (.Call (.Name "all" p) [.GeneratorExp elt [⟨tg, iter, [], 0⟩] scope gpos] [] pos) (tAll P os fi wi g te) :=
  ⟨pe_all hc hr hgl hm hcd CK BM hN he B hco h0 hi.out (fun code s H fp => (hg code s H fp).out) (fun code s H fp => (hel code s H fp).out) hs⟩
end
section
variable {X : Cx} {elt tg iter tg2 iter2 : Expr} {ifs ifs2 : List Expr} {scope esc : Scope} {pos p : Pos} {N os : List Str} {fi : List Nat} {wi wi2 : TI} {g g2 : TG} {tt tt2 : TT} {te : TE}
theorem pac_x {e : Expr} {te : TE} {es : List Expr} {t : TA} (ha : PE X e te) (hr : PA X es t) (hs : starEach (e :: es) X.env = (false, eval e X.env) :: starEach es X.env := by rfl) : PA X (e :: es) (tCons te t) := pa_cons ha hr hs
theorem zpac_x {e : Expr} {te : TE} {es : List Expr} {t : TA} (ha : SPE X e te) (hr : SPA X es t) (hs : starEach (e :: es) X.env = (false, eval e X.env) :: starEach es X.env := by rfl) : SPA X (e :: es) (tCons te t) := ⟨pac_x ha.out hr.out hs⟩
end
theorem zpg_tupK {X : Cx} {es : List Expr} {k : Nat} {pos : Pos} {t : TGs} (K : PySem.W.Frag) (n : Nat) (hK : X.K = K) (hc : X.calm = true) (h : SPGs X es t) (hn : (assignEach es X.env).length = n := by rfl) (hst : (assignEach es X.env).findIdx? (·.1) = none := by rfl) : SPG X (.Tuple es k pos) (gTup K n t) := hK ▸ zpg_tup hc h hn hst
section
variable {X : Cx} {kx vx tg iter : Expr} {ifs : List Expr} {scope esc : Scope} {pos p : Pos} {N os : List Str} {fi : List Nat} {wi : TI} {g : TG} {tt : TT} {tk tv : TE}
theorem zpe_dictcomp (N os : List Str) (fi : List Nat) (esc : Scope) (hc : X.calm = true) (hN : X.N = N) (he : X.env.scope = esc) (B : BlkOk esc scope N fi) (hi : SPI X tg iter wi)
    (hg : ∀ s H fp, SPG (blk X scope (nB N os fi) s H fp) tg g) (ht : ∀ s H fp, SPTs (blk X scope (nB N os fi) s H fp) ifs tt)
    (hk : ∀ s H fp, SPE (blk X scope (nB N os fi) s H fp) kx tk) (hv : ∀ s H fp, SPE (blk X scope (nB N os fi) s H fp) vx tv)
    (hs : ∀ x, foldedSetIterable iter X.env x = pure x := by intro _; rfl) :
    SPE X (.DictComp kx vx [⟨tg, iter, ifs, 0⟩] scope pos) (tCG (fun _ => .dK []) os fi wi g tt fun D => tEmD D tk tv) :=
  ⟨pe_dictcomp hc hN he B hi.out (fun s H fp => (hg s H fp).out) (fun s H fp => (ht s H fp).out) (fun s H fp => (hk s H fp).out) (fun s H fp => (hv s H fp).out) hs⟩
theorem zpe_dget {o i : Expr} {td ty : TE} (hu : X.A.units + 1 < cLine) (ho : SPE X o td) (hi : SPE X i ty) (hs : NoSl i) : SPE X (.Subscript o i pos) (tDGet td ty) := ⟨pe_dget hu ho.out hi.out hs⟩
end
theorem Room.units1 {k : Nat} {A : Around} (r : Room k A) : A.units + 1 < cLine := by have := r.un; omega
theorem for_str {x : Str} {g : TG} {tb : TS} {D : Ends} {σ : St} {H : Hp} (Pv : Nat → St → Hp → Prop) (h0 : Pv 0 σ H)
    (hs : ∀ (i c : Nat) (σ : St) (H : Hp), x.cps[i]? = some c → Pv i σ H → g (.str ⟨#[c]⟩) σ H fun σ2 H2 => tb { D with nx := Pv (i + 1), ct := Pv (i + 1), bk := D.nx } σ2 H2) (hd : ∀ σ H, Pv x.cps.size σ H → D.nx σ H) :
    ∃ W : Nat → Nat → St → Hp → Prop, (∃ m, W 0 m σ H) ∧ ∀ i m σ H, W i m σ H →
      ((Its x).stop i H ∧ D.nx σ H) ∨ ((Its x).go i H ∧ ∃ N : St → Hp → Prop, (∀ σ' H', N σ' H' → ∃ m', m' < m ∧ W (i + 1) m' σ' H') ∧ ∀ y H', (Its x).yld i H y H' → g y σ H' fun σ2 H2 => tb { D with nx := N, ct := N, bk := D.nx } σ2 H2) := by
  refine ⟨fun i m σ H => m = x.cps.size - i ∧ i ≤ x.cps.size ∧ Pv i σ H, ⟨x.cps.size, by simp, Nat.zero_le _, h0⟩, ?_⟩
  rintro i m σ H ⟨rfl, hi, p⟩
  by_cases hlt : i < x.cps.size
  · refine .inr ⟨hlt, Pv (i + 1), fun σ' H' p' => ⟨x.cps.size - (i + 1), by omega, rfl, hlt, p'⟩, ?_⟩
    rintro y H' ⟨rfl, c, hc, rfl⟩
    exact hs i c σ H' hc p
  · have e : i = x.cps.size := by omega
    subst e
    exact .inl ⟨rfl, hd σ H p⟩
section
variable {X : Cx} {elt kx vx tg iter tg2 iter2 : Expr} {ifs ifs2 : List Expr} {scope esc : Scope} {pos p : Pos} {N os : List Str} {fi : List Nat} {wi wi2 : TI} {g g2 : TG} {tt tt2 : TT} {te tk tv : TE}
theorem zpe_compL (N os : List Str) (fi : List Nat) (esc : Scope) (hc : X.calm = true) (hN : X.N = N) (he : X.env.scope = esc) (B : BlkOk esc scope N fi) (hi : SPI X tg iter wi)
    (hg : ∀ s H fp, SPG (blk X scope (nB N os fi) s H fp) tg g) (ht : ∀ s H fp, SPTs (blk X scope (nB N os fi) s H fp) ifs tt) (hel : ∀ s H fp, SPE (blk X scope (nB N os fi) s H fp) elt te)
    (hs : ∀ x, foldedSetIterable iter X.env x = pure x := by intro _; rfl) : SPE X (.ListComp elt [⟨tg, iter, ifs, 0⟩] scope pos) (tCG (fun _ => .lst []) os fi wi g tt fun D => tEmL D te) :=
  ⟨pe_compL hc hN he B hi.out (fun s H fp => (hg s H fp).out) (fun s H fp => (ht s H fp).out) (fun s H fp => (hel s H fp).out) hs⟩
theorem zps_compL (N os : List Str) (fi : List Nat) (esc : Scope) {i : Nat} {y : Str} {py spos : Pos} (hc : X.calm = true) (hN : X.N = N) (he : X.env.scope = esc) (B : BlkOk esc scope N fi) (hnd : X.N.Nodup) (hy : X.N[i]? = some y) (hl : Loc X.env.scope y) (hi : SPI X tg iter wi)
    (hg : ∀ s H fp, SPG (blk X scope (nB N os fi) s H fp) tg g) (ht : ∀ s H fp, SPTs (blk X scope (nB N os fi) s H fp) ifs tt) (hel : ∀ s H fp, SPE (blk X scope (nB N os fi) s H fp) elt te)
    (hsw : swapsWith (.ListComp elt [⟨tg, iter, ifs, 0⟩] scope pos) (some (.Name y py)) spos.line X.env = pure true := by rfl)
    (hfn : X.fn y = true ∨ X.env.scope.names.lookup y = some .local := by first | exact .inl rfl | exact .inr rfl | assumption)
    (hs : ∀ x, foldedSetIterable iter X.env x = pure x := by intro _; rfl) : SPS X (.Assign [.Name y py] (.ListComp elt [⟨tg, iter, ifs, 0⟩] scope pos) spos) (fun D σ H => tCG (fun _ => .lst []) os fi wi g tt (fun D => tEmL D te) σ H fun v H' => D.nx (σ.set i (some v)) H') :=
  ⟨ps_compL hc hN he B hnd hy hl hi.out (fun s H fp => (hg s H fp).out) (fun s H fp => (ht s H fp).out) (fun s H fp => (hel s H fp).out) hsw hfn hs⟩
end
theorem zpe_xd {X : Cx} {o : Expr} {f : Str} {pos : Pos} {ta : TE} (he : SPE X o ta) (hb : attributeBase o f X.env (eval o X.env) = eval o X.env := by rfl) : SPE X (.Attribute o f pos) (tXd X.K ta f) := ⟨pe_xd he.out hb⟩
theorem zps_raiseI {P : Program} {w : World} {K : PySem.W.Frag} {mg : Str → Option Value} {base : Heap} {N : List Str} {qual : Str} {scope : Scope} {f : Addr} {cd : Value} {A : Around} {outer : List Env} {s : Shared} {H : Hp} {E : XK}
    {x Xn : Str} {C fI : Addr} {e0 : Expr} {t : TA} {k : Nat} {np cpos pos : Pos} (hA : Room (k + 1) (cxOf (CXE P w) P w K mg base N qual scope f cd A outer s H E).A)
    (hg : Gl (cxOf (CXE P w) P w K mg base N qual scope f cd A outer s H E) x) (hm : mg x = some (.ref C)) (q : InitK P w K mg C fI Xn) (ha : SPA (cxOf (CXE P w) P w K mg base N qual scope f cd A outer s H E) [e0] t) (hd : (x == ("__debug__" : Str)) = false := by decide)
    (he : starEach [e0] (cxOf (CXE P w) P w K mg base N qual scope f cd A outer s H E).env = [(false, eval e0 (cxOf (CXE P w) P w K mg base N qual scope f cd A outer s H E).env)] := by rfl) :
    SPS (cxOf (CXE P w) P w K mg base N qual scope f cd A outer s H E) (.Raise (some (.Call (.Name x np) [e0] [] cpos)) none pos) (tRaiseI C Xn E t) := ⟨ps_raiseI hA rfl hg hm q ha.out hd he⟩
end L2
namespace L2
open PySem PySem.Spec PyProof.Rows
section
variable {P : Program} {w : World} {K : PySem.W.Frag} {mg : Str → Option Value} {base : Heap} {x qual : Str} {st : Stmt} {dV : Value} {f : Addr} {fd : FuncData} {N ps : List Str} {k : Nat} {sp : Sp}
theorem FunG.zokE (F : FunG K x qual st dV f fd) (S : FnScope N ps (defScope st)) (len : ∀ vs H Q E, sp vs H Q E → vs.length = ps.length)
    (hbody : ∀ (cdv : Value) (A : Around) (outer : List Env) (s : Shared) (H : Hp) (vs : List V) (Q : VK) (E : XK), Room k (A.deeper (envOfC qual (defScope st) s.heap.objs.size f cdv)) → sp vs H Q E →
      ∃ t, SPSs (cxOf (CXE P w) P w K mg base N qual (defScope st) f cdv A outer s H E) (defBody st) t ∧ t { nx := fun _ H' => Q .non H', rt := Q } (start N vs) H) : FnOk P w K mg base (CXE P w) (k + 1) f fd ps sp :=
  F.okE S len fun cdv A outer s H vs Q E hr hsp => by
    obtain ⟨t, h, q⟩ := hbody cdv A outer s H vs Q E hr hsp
    exact ⟨t, h.out, q⟩
theorem FunG.zokN (F : FunG K x qual st dV f fd) (S : FnScope N ps (defScope st)) (len : ∀ vs H Q E, sp vs H Q E → vs.length = ps.length)
    (hbody : ∀ (cdv : Value) (A : Around) (outer : List Env) (s : Shared) (H : Hp) (vs : List V) (Q : VK) (E : XK), Room k (A.deeper (envOfC qual (defScope st) s.heap.objs.size f cdv)) → sp vs H Q E →
      ∃ t, SPSs (cxOf (CXE P w) P w K mg base N qual (defScope st) f cdv A outer s H E).nox (defBody st) t ∧ t { nx := fun _ H' => Q .non H', rt := Q } (start N vs) H) : FnOk P w K mg base (CXE P w) (k + 1) f fd ps sp :=
  F.okN S len fun cdv A outer s H vs Q E hr hsp => by
    obtain ⟨t, h, q⟩ := hbody cdv A outer s H vs Q E hr hsp
    exact ⟨t, h.out, q⟩
end
end L2
namespace L2
open PySem PySem.Spec PyProof.Rows
section
variable {P : Program} {w : World} {K : PySem.W.Frag} {mg : Str → Option Value} {base : Heap} {x qual : Str} {st : Stmt} {dV kV doc pm ct oc : Value} {an od : Option Addr} {osl : Array (Option Value)} {f c : Addr} {N ps : List Str} {k : Nat} {sp : Sp}
theorem okC (lk : K.lookup f = some ⟨oc, od, .func (PySem.W.fnOf x qual (defArgs st) (defBody st) (defScope st) dV kV doc pm an (.ref c) ct), osl⟩) (hcd : PySem.W.codeIn K (.ref c) qual = true) (S : FnScope N ps (defScope st)) (len : ∀ vs H Q E, sp vs H Q E → vs.length = ps.length)
    (hbody : ∀ (A : Around) (outer : List Env) (s : Shared) (H : Hp) (vs : List V) (Q : VK) (E : XK), Room k (A.deeper (envOfC qual (defScope st) s.heap.objs.size f (.ref c))) → sp vs H Q E →
      ∃ t, SPSs (cxOf (CXE P w) P w K mg base N qual (defScope st) f (.ref c) A outer s H E).nox (defBody st) t ∧ t { nx := fun _ H' => Q .non H', rt := Q } (start N vs) H) :
    FnOk P w K mg base (CXE P w) (k + 1) f (PySem.W.fnOf x qual (defArgs st) (defBody st) (defScope st) dV kV doc pm an (.ref c) ct) ps sp :=
  fn_of lk hcd S len fun A outer s H vs Q E hr h => by
    obtain ⟨t, h1, h2⟩ := hbody A outer s H vs Q E hr h
    exact ⟨t, h1.out.nox, h2⟩
end
theorem boot_str : bootBuiltins "str" = some (.type "str") := by decide +kernel
end L2
namespace G1
open PySem L2 GM
def letters : Str := "abcdefghijklmnopqrstuvwxyz"
def occ (c : Nat) : Bool := !(Builtin.Str.occurrences letters ⟨#[c]⟩ 0 letters.length 1).isEmpty
def nameB : V → Bool
  | .str z => decide (z ≠ "") && (decide (z.length ≤ 8) && z.cps.toList.all occ)
  | _ => false
def isS : V → Bool
  | .str _ => true
  | _ => false
section
variable {P : Program} {w : World} {K : PySem.W.Frag} {mg : Str → Option Value} {base : Heap}
theorem ks1 : PySem.W.kitOne K (.type "int") (.type "str") = some false := by kernel_rfl
theorem ks2 : PySem.W.kitOne K (.type "bool") (.type "str") = some false := by kernel_rfl
theorem ks3 : PySem.W.kitOne K (.type "NoneType") (.type "str") = some false := by kernel_rfl
theorem ks4 : PySem.W.kitOne K (.type "str") (.type "str") = some true := by kernel_rfl
theorem ks5 : PySem.W.kitOne K (.type "list") (.type "str") = some false := by kernel_rfl
theorem ks6 : PySem.W.kitOne K (.type "tuple") (.type "str") = some false := by kernel_rfl
theorem ks7 : PySem.W.kitOne K (.type "dict") (.type "str") = some false := by kernel_rfl
theorem _root_.L2.Th.tyS {H : Hp} {x : V} (h : Th H x) : ∃ t, TyX K H x t ∧ PySem.W.kitOne K t (.type "str") = some (isS x) := by
  cases h with
  | non => exact ⟨_, .of .non, ks3⟩
  | bl b => exact ⟨_, .of (.bl b), ks2⟩
  | int i => exact ⟨_, .of (.int i), ks1⟩
  | str x => exact ⟨_, .of (.str x), ks4⟩
  | lst h => exact ⟨_, .of (.lst h), ks5⟩
  | tup h => exact ⟨_, .of (.tup h), ks6⟩
  | dK h => exact ⟨_, .of (.dK h), ks7⟩
def spName (T : Addr) : Sp := fun vs H Q _ => ∃ x ps, vs = [x] ∧ Th H x ∧ (∀ z, x = .str z → z.length ≤ sizeLine) ∧ H T = some (.tbl ps) ∧ TriplesOk ps.toList ∧ ∀ ps', TriplesOk ps'.toList → Q (.bl (nameB x)) (upd H T (.tbl ps'))
theorem scN : FnScope ["thing"] ["thing"] (defScope sName) := ⟨rfl, rfl, rfl, by decide +kernel, rfl, by decide +kernel, by decide +kernel⟩
theorem ok_name {f c T : Addr} {kV doc pm ct oc : Value} {an od : Option Addr} {osl : Array (Option Value)} {t1 t2 : Tok}
    (lk : K.lookup f = some ⟨oc, od, .func (PySem.W.fnOf "is_name" "is_name" (defArgs sName) (defBody sName) (defScope sName) .none kV doc pm an (.ref c) ct), osl⟩) (hcd : PySem.W.codeIn K (.ref c) "is_name" = true)
    (B : Bl mg) (CK : CodeK K c T) (hbm : BmOf mg base) (mL : mg "LETTERS" = some (.str letters t1)) (mM : mg "LONGEST_NAME" = some (.int 8 t2)) :
    FnOk P w K mg base (CXE P w) 2 f (PySem.W.fnOf "is_name" "is_name" (defArgs sName) (defBody sName) (defScope sName) .none kV doc pm an (.ref c) ct) ["thing"] (spName T) := by
  refine okC lk hcd scN (fun vs H Q E h => ?_) (fun A outer s H vs Q E hr h => ?_)
  · obtain ⟨x, ps, rfl, _⟩ := h
    rfl
  · obtain ⟨x, ps, rfl, hx, len, hT, tr, q⟩ := h
    refine ⟨_, zpss_cons (zps_if (zpw_or (zpt_not (zpt_val (zpe_callB call_isi (by rfl) B.isi boot_isi (zpac_n (zpv 0) (zpac_n (zpe_bltn (by rfl) B.str boot_str (v := .ty "str") rfl) zpa_nil)))))
        (zpw_or (zpt_cmpR op_eq (zpv 0) zpe_str (nomark _)) (zpw_or1 (zpt_cmpR op_gt (zpe_callB call_len_str (by rfl) B.len PySem.boot_len (zpac_n (zpv 0) zpa_nil)) (zpe_glob (by rfl) mM (v := .int 8) ⟨_, rfl⟩) (nomark _))))).pt (zpss_one (zps_ret zpe_bl)) zpss_nil)
      (zpss_one (zps_ret (zpe_all ["thing"] ["sign"] [] (defScope sName) rfl hr (by rfl) B.all rfl CK ⟨hbm⟩ rfl rfl ⟨by decide +kernel, by decide +kernel, by decide +kernel, by decide +kernel, by decide +kernel⟩ (by decide +kernel) (by decide +kernel) (zpi_str (zpv 0))
        (fun code s H fp => zpg_name (i := 0) (show List.Nodup [("sign" : Str)] by decide +kernel) rfl (Or.inl rfl)) (fun code s H fp => zpe_cmpR op_in_str (zpv 0) (zpe_glob (by rfl) mL (v := .str letters) ⟨_, rfl⟩) rfl)))), ?_⟩
    obtain ⟨t, ty, e1⟩ := hx.tyS (K := K)
    refine ⟨_, rfl, _, _, t, isS x, rfl, ty, .inl ⟨_, rfl, e1⟩, _, rfl, ?_⟩
    have self : ∀ {b : Bool}, nameB x = b → Q (.bl b) H := fun {b} e => by
      have := q ps tr
      rw [upd_self hT, e] at this
      exact this
    cases x with
    | str z =>
      refine iteF ⟨_, rfl, rfl, _, rfl, ?_⟩
      refine ite2 (fun e => ?_) (fun e => ?_)
      · have e' : V.str z = V.str "" := of_decide_eq_true e
        injection e' with e'
        refine iteT (self ?_)
        simp [nameB, e']
      · have ne : z ≠ "" := fun y => e (decide_eq_true (by rw [y]))
        refine ⟨_, rfl, z, rfl, len z rfl, _, _, rfl, rfl, _, rfl, ?_⟩
        refine ite2 (fun e8 => ?_) (fun e8 => ?_)
        · have g8 : (8 : Int) < (z.length : Int) := of_decide_eq_true e8
          refine self ?_
          have : decide (z.length ≤ 8) = false := decide_eq_false (by omega)
          simp [nameB, this]
        · have l8 : z.length ≤ 8 := by
            have : ¬ (8 : Int) < (z.length : Int) := fun y => e8 (decide_eq_true y)
            omega
          refine ⟨_, rfl, z, rfl, ps, hT, tr, fun ps' tr' => ?_⟩
          refine ⟨fun i m σ2 H2 => H2 = upd H T (.tbl ps') ∧ i ≤ z.cps.size ∧ m = z.cps.size - i ∧ (∃ v, σ2 = [v]) ∧ (∀ j c, j < i → z.cps[j]? = some c → occ c = true), ⟨_, rfl, Nat.zero_le _, rfl, ⟨_, rfl⟩, fun j c hj => absurd hj (Nat.not_lt_zero _)⟩, ?_⟩
          rintro i m σ2 H2 ⟨rfl, hi, rfl, ⟨v, rfl⟩, ok⟩
          by_cases hlt : i < z.cps.size
          · refine .inr ⟨hlt, ?_⟩
            rintro y H3 ⟨rfl, c, hc, rfl⟩
            refine ⟨_, rfl, ⟨#[c]⟩, letters, rfl, rfl, _, rfl, ?_⟩
            cases ho : occ c with
            | true =>
              rw [if_pos (show (!(Builtin.Str.occurrences letters ⟨#[c]⟩ 0 letters.length 1).isEmpty) = true from ho)]
              refine ⟨z.cps.size - (i + 1), by omega, rfl, hlt, rfl, ⟨_, rfl⟩, fun j d hj hd => ?_⟩
              rcases Nat.lt_or_ge j i with h | h
              · exact ok j d h hd
              · have e : j = i := by omega
                subst e
                rw [hc] at hd; cases hd
                exact ho
            | false =>
              rw [if_neg (by rw [show (!(Builtin.Str.occurrences letters ⟨#[c]⟩ 0 letters.length 1).isEmpty) = false from ho]; decide)]
              have e : nameB (.str z) = false := by
                have a : z.cps.toList.all occ = false := by
                  rw [List.all_eq_false]
                  exact ⟨c, by
                    have : z.cps.toList[i]? = some c := by simpa using hc
                    exact List.mem_of_getElem? this, by rw [ho]; decide⟩
                simp [nameB, a]
              rw [← e, ← show (!(Builtin.Str.occurrences letters ⟨#[c]⟩ 0 letters.length 1).isEmpty) = nameB (.str z) from by rw [e]; exact ho]
              have := q ps' tr'
              rw [e] at this
              rw [show (!(Builtin.Str.occurrences letters ⟨#[c]⟩ 0 letters.length 1).isEmpty) = false from ho]
              exact this
          · have e : i = z.cps.size := by omega
            subst e
            refine .inl ⟨rfl, ?_⟩
            have a : z.cps.toList.all occ = true := by
              rw [List.all_eq_true]
              intro c hc
              obtain ⟨j, hj⟩ := List.getElem?_of_mem hc
              have hj' : z.cps[j]? = some c := by simpa using hj
              exact ok j c (Array.getElem?_eq_some_iff.mp hj').1 hj'
            have n1 : nameB (.str z) = true := by
              simp [nameB, ne, l8]
              simpa using a
            have := q ps' tr'
            rw [n1] at this
            exact this
    | _ => exact iteT (self rfl)
end
end G1
namespace G1
open PySem L2 GM
def Kp (H H' : Hp) : Prop := ∀ b o, H b = some o → (∀ ps, o ≠ .tbl ps) → H' b = some o
theorem Kp.refl {H : Hp} : Kp H H := fun _ _ h _ => h
theorem Kp.trans {H H1 H2 : Hp} (a : Kp H H1) (b : Kp H1 H2) : Kp H H2 := fun c o h n => b c o (a c o h n) n
theorem Kp.same {H H' : Hp} (s : Same H H') : Kp H H' := fun b o h _ => s b o h
theorem Kp.lst {H H' : Hp} {a : Addr} {xs : List V} (k : Kp H H') (h : H a = some (.lst xs)) : H' a = some (.lst xs) := k a _ h nofun
def Tab (T : Addr) (H : Hp) : Prop := ∃ ps, H T = some (.tbl ps) ∧ TriplesOk ps.toList
theorem Kp.tab {H : Hp} {T : Addr} {ps' : Array Value} (h : Tab T H) : Kp H (upd H T (.tbl ps')) := fun b o e n => by
  obtain ⟨ps, hp, _⟩ := h
  rw [upd_ne (fun z => by rw [z, hp] at e; cases e; exact n _ rfl)]; exact e
theorem Tab.put {H : Hp} {T T' : Addr} {ps' : Array Value} (h : Tab T H) (t : TriplesOk ps'.toList) : Tab T (upd H T' (.tbl ps')) := by
  obtain ⟨ps, hp, t0⟩ := h
  by_cases e : T = T'
  · subst e; exact ⟨ps', upd_same, t⟩
  · exact ⟨ps, by rw [upd_ne e]; exact hp, t0⟩
theorem Tab.same {H H' : Hp} {T : Addr} (h : Tab T H) (s : Same H H') : Tab T H' := by
  obtain ⟨ps, hp, t⟩ := h
  exact ⟨ps, s _ _ hp, t⟩
end G1
namespace G1
open PySem L2 GM
section
variable {P : Program} {w : World} {K : PySem.W.Frag} {mg : Str → Option Value} {base : Heap}
def spPool (K : PySem.W.Frag) : Sp := fun vs H Q _ => ∃ (a : Addr) (ns : List Int) (k : Int), vs = [.ref a, .int k] ∧ SqL K H a (ns.map V.int) ∧ 0 ≤ k ∧ k ≤ 1000 ∧ ∀ p H', H p = none → Src H' p → (∀ b, b ≠ p → H' b = H b) → Q (.ref p) H'
theorem scPo : FnScope ["_law_script", "_law_k", "_law_cell", "_law_seed"] ["_law_script", "_law_k"] (defScope sPool) := ⟨rfl, rfl, rfl, by decide +kernel, rfl, by decide +kernel, by decide +kernel⟩
theorem ok_pool {f : Addr} {fd : FuncData} (F : FunG K "_law_pool" "_law_pool" sPool .none f fd) (B : Bl mg) : FnOk P w K mg base (CXE P w) 1 f fd ["_law_script", "_law_k"] (spPool K) := by
  refine F.zokN scPo (fun vs H Q E h => ?_) (fun cdv A outer s H vs Q E hr h => ?_)
  · obtain ⟨a, ns, k, rfl, _⟩ := h
    rfl
  · obtain ⟨a, ns, k, rfl, ha, k0, k1, q⟩ := h
    refine ⟨_, (zpss_cons (zps_set (i := 2) scPo.nd rfl (Or.inl rfl) zpe_int)
      (zpss_cons (zps_cut (zps_if (zpt_cmpR op_lt (zpv 1) (zpe_callB call_len_seq (by rfl) B.len PySem.boot_len (zpac_n (zpv 0) zpa_nil)) (nomark _)) (zpss_one (zps_set (i := 2) scPo.nd rfl (Or.inl rfl) (zpe_ix ix_list (zpv 0) (zpv 1) (fun _ _ => rfl)))) zpss_nil))
      (zpss_cons (zps_set (i := 3) scPo.nd rfl (Or.inl rfl) (zpe_op op_mod (zpe_op op_mul (zpe_op op_add (zpe_op op_add (zpe_op op_mod (zpv 2) zpe_int) (zpe_op op_mul (zpe_op op_mul zpe_int (zpv 1)) (zpv 1))) zpe_int) zpe_int) zpe_int))
      (zpss_cons (zps_cut (zps_if (zpt_cmpR op_lt (zpv 2) (zpe_op op_pow zpe_int zpe_int) (nomark _)) (zpss_one (zps_set (i := 2) scPo.nd rfl (Or.inl rfl) zpe_int)) zpss_nil))
      (zpss_one (zps_ret (zpe_lst (zpac_n (zpv 2) (zpac_n (zpv 3) zpa_nil))))))))), ?_⟩
    refine ⟨fun σ H2 => H2 = H ∧ ∃ z : Int, σ = [some (.ref a), some (.int k), some (.int z), none], ?_, ?_⟩
    · refine ⟨_, rfl, _, rfl, a, _, rfl, .inl ha, _, _, rfl, rfl, _, rfl, ?_⟩
      refine ite2 (fun e => ?_) (fun _ => ⟨rfl, _, rfl⟩)
      have lt := of_decide_eq_true e
      obtain ⟨n, rfl⟩ := Int.eq_ofNat_of_zero_le k0
      rw [List.length_map] at lt
      have hn : n < ns.length := by omega
      exact ⟨_, rfl, _, rfl, a, _, _, _, rfl, rfl, ha, atI_nat (v := .int ns[n]) (by simp [hn]), rfl, _, rfl⟩
    · rintro σ H2 ⟨rfl, z, rfl⟩
      refine ⟨_, rfl, _, _, rfl, rfl, (by show (0 : Int) < 1000000007; decide), _, rfl, _, _, rfl, rfl, .inl ⟨by decide, by decide⟩, _, rfl, _, _, rfl, rfl, .inr ⟨by omega, by omega⟩, _, _, rfl, rfl, _, _, rfl, rfl, _, _, rfl, rfl, .inr ⟨by decide, by decide⟩, _, _, rfl, rfl, (by show (0 : Int) < 2147483647; decide), ?_⟩
      refine ⟨fun σ H3 => H3 = H2 ∧ ∃ z s : Int, σ = [some (.ref a), some (.int k), some (.int z), some (.int s)] ∧ 0 ≤ z ∧ 0 ≤ s ∧ s < 2147483647, ?_, ?_⟩
      · refine ⟨_, rfl, _, _, rfl, rfl, ⟨by decide, by decide, by decide⟩, _, _, rfl, rfl, _, rfl, ?_⟩
        have s0 : ∀ y : Int, (0 : Int) ≤ y % 2147483647 := fun y => Int.emod_nonneg _ (by decide)
        have s1 : ∀ y : Int, y % 2147483647 < 2147483647 := fun y => Int.emod_lt_of_pos _ (by decide)
        refine ite2 (fun e => ?_) (fun e => ?_)
        · exact ⟨rfl, 0, _, rfl, by decide, s0 _, s1 _⟩
        · have : ¬ z < 10 ^ (18 : Int).toNat := fun y => e (decide_eq_true y)
          have h18 : (10 : Int) ^ (18 : Int).toNat = 1000000000000000000 := by decide
          exact ⟨rfl, z, _, rfl, by omega, s0 _, s1 _⟩
      · rintro σ H3 ⟨rfl, z, s, rfl, z0, s0, s1⟩
        refine ⟨_, rfl, _, rfl, by show 2 ≤ sizeLine; decide, fun p hp => ?_⟩
        exact q p _ hp ⟨_, _, upd_same, z0, s0, s1⟩ fun b hb => upd_ne hb
end
end G1
namespace L2
open PySem PySem.Spec PyProof.Rows
theorem newH {H : Hp} {a : Addr} {o : HO} {H' : Hp} (h : upd H a o = H') (n : H a = none) : Same H H' ∧ H' a = some o ∧ ∀ b, b ≠ a → H' b = H b := by
  subst h
  exact ⟨fun b u e => by rw [upd_ne (ne_of_none e n)]; exact e, upd_same, fun b hb => upd_ne hb⟩
theorem newC {H : Hp} {a : Addr} {o : HO} {H' : Hp} {C : Prop} (h : upd H a o = H') (n : H a = none) (k : Same H H' → H' a = some o → (∀ b, b ≠ a → H' b = H b) → C) : C :=
  k (newH h n).1 (newH h n).2.1 (newH h n).2.2
theorem lr_range {lo : Int} {n : Nat} {g : TG} {tt : TT} {tb : TB} {σ : St} {H : Hp} {N : St → Hp → Prop} (Pv : Nat → St → Hp → Prop) (h0 : Pv 0 σ H)
    (step : ∀ (i : Nat) (σ : St) (H : Hp) (C : St → Hp → Prop), i < n → Pv i σ H → (∀ σ' H', Pv (i + 1) σ' H' → C σ' H') → g (.int (lo + i)) σ H fun σ4 H4 => tt σ4 H4 fun ok H5 => if ok = true then tb σ4 H5 C else C σ4 H5)
    (fin : ∀ σ H, Pv n σ H → N σ H) : LR (Itr lo n) g tt tb σ H N := by
  refine ⟨fun i m σ H => m = n - i ∧ i ≤ n ∧ Pv i σ H, ⟨_, rfl, Nat.zero_le _, h0⟩, ?_⟩
  rintro i m σ2 H2 ⟨rfl, hi, p⟩
  by_cases hlt : i < n
  · refine .inr ⟨hlt, ?_⟩
    rintro x H3 ⟨rfl, rfl⟩
    exact step i σ2 H3 _ hlt p fun σ' H' p' => ⟨n - (i + 1), by omega, rfl, hlt, p'⟩
  · have e : i = n := by omega
    subst e
    exact .inl ⟨Nat.le_refl _, fin _ _ p⟩
end L2
namespace L2
open PySem PySem.Spec PyProof.Rows
theorem str_ext {x y : Str} (h : x.cps.toList = y.cps.toList) : x = y := by
  cases x; cases y
  simp only at h
  rw [Array.ext' h]
theorem starts_iff {x y : Str} : Txt.startswith x y = true ↔ y.cps.toList <+: x.cps.toList := by
  unfold Txt.startswith Builtin.Str.subAt Str.length
  rw [Bool.and_eq_true_iff, decide_eq_true_iff, beq_iff_eq, Nat.zero_add]
  constructor
  · rintro ⟨h1, h2⟩
    rw [List.prefix_iff_eq_take]
    have := congrArg Array.toList h2
    rw [Array.toList_extract] at this
    rw [← this]
    simp [List.extract_eq_drop_take]
  · intro h
    have l := h.length_le
    refine ⟨by simpa using l, ?_⟩
    apply Array.ext'
    rw [Array.toList_extract]
    rw [List.prefix_iff_eq_take] at h
    rw [List.extract_eq_drop_take]
    simp only [Nat.sub_zero, List.drop_zero]
    rw [show y.cps.size = y.cps.toList.length from by simp]
    exact h.symm
def catT (ts : List Str) : Str := ⟨(ts.map fun t => t.cps.toList).flatten.toArray⟩
theorem catT_len (ts : List Str) : (catT ts).length = (ts.map (·.length)).sum := by
  unfold catT Str.length
  induction ts with
  | nil => rfl
  | cons t ts ih => simp at ih ⊢; omega
def repT (z : Str) (n : Nat) : Str := catT (List.replicate n z)
theorem repT_len (z : Str) (n : Nat) : (repT z n).length = z.length * n := by
  unfold repT
  rw [catT_len, List.map_replicate, List.sum_replicate_nat, Nat.mul_comm]
theorem fold_repT (z : Array Nat) : ∀ (n : Nat) (a : Array Nat), (List.replicate n z).foldl (· ++ ·) a = a ++ ((List.replicate n z.toList).flatten).toArray
  | 0, a => by simp
  | n + 1, a => by
    rw [List.replicate_succ, List.foldl_cons, fold_repT z n, List.replicate_succ]
    apply Array.ext'
    simp
theorem op_mulT {X : Cx} : OpR X (binaryOp .Mult) (fun x y H Q => ∃ (z : Str) (n : Nat), x = .str z ∧ y = .int n ∧ z.length * n ≤ 100000 ∧ z.length ≤ 100000 ∧ n ≤ 100000 ∧ Q (.str (repT z n)) H) := by
  intro pins s σ H x y v u Q I rx ry h
  obtain ⟨z, n, rfl, rfl, hn, hz, hn2, q⟩ := h
  obtain ⟨t, rfl⟩ := rx
  obtain ⟨t', rfl⟩ := ry
  have len : ∀ m : Nat, m ≤ 100000 → m ≤ sizeLine := fun m h => Nat.le_trans h (by rw [sizeLine_eq]; decide)
  refine PySem.P.mul_str ?_ ?_ ?_ ?_
  · have h1 : ¬ ((n : Int) < -(2 ^ 63 : Int)) := by omega
    have h2 : ¬ ((n : Int) ≥ 2 ^ 63) := by omega
    rw [decide_eq_false h1, decide_eq_false h2]; rfl
  · intro h1 _
    have : (z.length : Int) ≤ (2 ^ 63 - 1) / (n : Int) := by
      apply Int.le_ediv_of_mul_le
      · omega
      · rw [← Int.natCast_mul]; omega
    omega
  · intro _ _
    have := len (z.length * n) hn
    show decide (z.length * ((n : Int).toNat) > sizeLine) = false
    rw [Int.toNat_natCast]
    exact decide_eq_false (by omega)
  · split
    · have e : n = 0 := by omega
      subst e
      exact ⟨by decide, .str (repT z 0), H, I.tok _, ⟨_, rfl⟩, q⟩
    · split
      · rename_i h1 h2
        have e : z = repT z n := by
          rcases Bool.or_eq_true_iff.mp h2 with w | w
          · have := eq_of_beq w
            have : n = 1 := by omega
            subst this
            apply str_ext; simp [repT, catT]
          · have w : z.length = 0 := eq_of_beq w
            have w' : z.cps.toList = [] := by
              have : z.cps.toList.length = 0 := by simpa [Str.length] using w
              exact List.length_eq_zero_iff.mp this
            apply str_ext
            unfold repT catT
            rw [List.map_replicate, w']
            simp
        exact ⟨.str (repT z n), H, I, ⟨_, by rw [← e]⟩, q⟩
      · have e : (⟨(List.replicate (n : Int).toNat z.cps).foldl (· ++ ·) #[]⟩ : Str) = repT z n := by
          unfold repT catT
          rw [fold_repT, Int.toNat_natCast, List.map_replicate]
          simp
        rw [e]
        exact ⟨by rw [repT_len]; exact len _ hn, .str (repT z n), H, I.tok _, ⟨_, rfl⟩, q⟩
theorem gl_list {K : PySem.W.Frag} {S : Addr} {xs : List V} {g : TG} {te : TE} {σ : St} {H : Hp} {Q : VK} (Pv : Nat → St → Hp → Prop) (h0 : Pv 0 σ H) (hS : ∀ i σ H, Pv i σ H → SqL K H S xs)
    (step : ∀ (i : Nat) (x : V) (σ : St) (H : Hp) (C : St → Hp → Prop), xs[i]? = some x → Pv i σ H → (∀ σ' H', Pv (i + 1) σ' H' → C σ' H') → g x σ H fun σ4 H4 => te σ4 H4 fun v H5 => ∃ b, v = .bl b ∧ if b = true then C σ4 H5 else Q (.bl false) H5)
    (fin : ∀ σ H, Pv xs.length σ H → Q (.bl true) H) : GLr (Itl K S) g te σ H Q := by
  refine ⟨fun i m σ H => m = xs.length - i ∧ i ≤ xs.length ∧ Pv i σ H, ⟨_, rfl, Nat.zero_le _, h0⟩, ?_⟩
  rintro i m σ2 H2 ⟨rfl, hi, p⟩
  have sq := hS i σ2 H2 p
  by_cases hlt : i < xs.length
  · refine .inr ⟨⟨xs, _, sq, List.getElem?_eq_getElem hlt⟩, ?_⟩
    rintro x H3 ⟨rfl, hx⟩
    exact step i x σ2 H3 _ (hx _ sq) p fun σ' H' p' => ⟨xs.length - (i + 1), by omega, rfl, hlt, p'⟩
  · have e : i = xs.length := by omega
    subst e
    exact .inl ⟨⟨_, sq, Nat.le_refl _⟩, fin _ _ p⟩
end L2
namespace L2
open PySem PySem.Spec PyProof.Rows
def tyN (H : Hp) : V → String
  | .non => "NoneType"
  | .bl _ => "bool"
  | .int _ => "int"
  | .str _ => "str"
  | .ref a => match H a with
    | some (.lst _) => "list"
    | some (.tup _) => "tuple"
    | some (.dK _) => "dict"
    | _ => ""
  | _ => ""
theorem tyN_lst {H : Hp} {a : Addr} {xs : List V} (h : H a = some (.lst xs)) : tyN H (.ref a) = "list" := by simp [tyN, h]
theorem tyN_tup {H : Hp} {a : Addr} {xs : List V} (h : H a = some (.tup xs)) : tyN H (.ref a) = "tuple" := by simp [tyN, h]
theorem tyN_dK {H : Hp} {a : Addr} {xs : List (Key × V)} (h : H a = some (.dK xs)) : tyN H (.ref a) = "dict" := by simp [tyN, h]
theorem Th.tyQ {K : PySem.W.Frag} {H : Hp} {x : V} (h : Th H x) : TyX K H x (.type (tyN H x)) := by
  cases h with
  | non => exact .of .non
  | bl b => exact .of (.bl b)
  | int i => exact .of (.int i)
  | str x => exact .of (.str x)
  | lst h => rw [tyN_lst h]; exact .of (.lst h)
  | tup h => rw [tyN_tup h]; exact .of (.tup h)
  | dK h => rw [tyN_dK h]; exact .of (.dK h)
theorem kit_lst {K : PySem.W.Frag} {H : Hp} {x : V} (h : Th H x) : PySem.W.kitOne K (.type (tyN H x)) (.type "list") = some (decide (tyN H x = "list")) := by
  cases h with
  | lst h => rw [tyN_lst h]; kernel_rfl
  | tup h => rw [tyN_tup h]; kernel_rfl
  | dK h => rw [tyN_dK h]; kernel_rfl
  | _ => kernel_rfl
theorem Th.isLst {H : Hp} {x : V} (h : Th H x) (e : tyN H x = "list") : ∃ a xs, x = .ref a ∧ H a = some (.lst xs) := by
  cases h with
  | lst h => exact ⟨_, _, rfl, h⟩
  | tup h => rw [tyN_tup h] at e; exact absurd e (by decide)
  | dK h => rw [tyN_dK h] at e; exact absurd e (by decide)
  | _ => exact absurd e (by simp [tyN])
end L2
namespace L2
open PySem
theorem boot_list : bootBuiltins "list" = some (.type "list") := by decide +kernel
theorem boot_max : bootBuiltins "max" = some (.builtin "max") := by decide +kernel
theorem boot_min : bootBuiltins "min" = some (.builtin "min") := by decide +kernel
end L2
namespace L2
open PySem PySem.Spec PyProof.Rows
structure Other (K : PySem.W.Frag) (CN C : Addr) : Prop where
  no : PySem.W.mroIn K CN (.ref C) = some false
  hd : PySem.W.hasDictIn K C = true
  ty : PySem.W.typeIn K (.ref C) = some (.type "type")
theorem Other.one {K : PySem.W.Frag} {CN C : Addr} (self : PySem.W.mroIn K CN (.ref CN) = some true) (o : Other K CN C) : PySem.W.kitOne K (.ref CN) (.ref C) = some false := by
  have ne : ¬ ((Value.ref CN == Value.ref C) = true) := fun z => by
    have e : CN = C := Value.ref.inj (beq_iff_eq.mp z)
    have h := o.no
    rw [← e, self] at h
    cases h
  obtain ⟨cd, q, _⟩ := PySem.W.any_some o.hd
  unfold PySem.W.kitOne
  rw [if_neg ne]
  show (if ((PySem.W.clsIn K C).isSome && PySem.W.typeIn K (.ref C) == some (.type "type")) = true then PySem.W.subIn K (.ref CN) (.ref C) else none) = some false
  rw [if_pos (by rw [q, o.ty]; simp)]
  exact o.no
theorem Other.all {K : PySem.W.Frag} {CN : Addr} (self : PySem.W.mroIn K CN (.ref CN) = some true) : ∀ {cs : List Addr}, (∀ C ∈ cs, Other K CN C) → PySem.W.kitAny K (.ref CN) (cs.map Value.ref) = some false
  | [], _ => rfl
  | c :: cs, h => by
    show (match PySem.W.kitOne K (.ref CN) (.ref c) with | some true => some true | some false => PySem.W.kitAny K (.ref CN) (cs.map Value.ref) | none => none) = some false
    rw [(h c (by simp)).one self]
    exact Other.all self fun C hC => h C (by simp [hC])
theorem kit_self {K : PySem.W.Frag} {C : Addr} : PySem.W.kitOne K (.ref C) (.ref C) = some true := by
  unfold PySem.W.kitOne
  rw [if_pos (by simp)]
theorem kit_type {K : PySem.W.Frag} {C : Addr} (h : PySem.W.mroIn K C (.type "ValueError") = some true) : PySem.W.kitOne K (.ref C) (.type "ValueError") = some true := by
  unfold PySem.W.kitOne
  rw [if_neg (by simp)]
  show (if PySem.W.kitMeta "ValueError" = true then PySem.W.subIn K (.ref C) (.type "ValueError") else none) = some true
  rw [if_pos (by decide +kernel)]
  exact h
theorem boot_ve : bootBuiltins "ValueError" = some (.type "ValueError") := by decide +kernel
end L2
namespace G1
open PySem L2 GM
theorem _root_.L2.Th.kp {H H' : Hp} {x : V} (h : Th H x) (s : Kp H H') : Th H' x := by
  cases h with
  | non => exact .non
  | bl b => exact .bl b
  | int i => exact .int i
  | str x => exact .str x
  | lst h => exact .lst (s _ _ h nofun)
  | tup h => exact .tup (s _ _ h nofun)
  | dK h => exact .dK (s _ _ h nofun)
def txs (ts : List Str) : List V := ts.map V.str
theorem txs_flat (ts : List Str) : (txs ts).all flatV = true := by
  unfold txs
  rw [List.all_map]
  exact List.all_eq_true.mpr fun _ _ => rfl
theorem inV_txs (t : Str) (ts : List Str) : inV (.str t) (txs ts) = decide (t ∈ ts) := by
  unfold inV txs
  rw [List.any_map, Bool.eq_iff_iff, List.any_eq_true, decide_eq_true_iff]
  constructor
  · rintro ⟨y, hy, e⟩
    have : (y == t) = true := e
    rw [← eq_of_beq this]; exact hy
  · intro h
    exact ⟨t, h, by show (t == t) = true; exact beq_self_eq_true t⟩
def Pt (H : Hp) (z : V) : Prop := Th H z ∧ ∀ x, z = .str x → x.length ≤ sizeLine
theorem Pt.text {H : Hp} {z : Str} (h : z.length ≤ sizeLine) : Pt H (.str z) := ⟨.str z, fun y e => by injection e with e; rw [← e]; exact h⟩
theorem ac0 {p : V → Prop} : ∀ y ∈ ([] : List V), p y := fun _ h => nomatch h
theorem ac {p : V → Prop} {x : V} {xs : List V} (h : p x) (k : ∀ y ∈ xs, p y) : ∀ y ∈ x :: xs, p y := fun y hy => by
  rcases List.mem_cons.mp hy with rfl | hy
  · exact h
  · exact k y hy
theorem at_ofV {xs : List V} {d : Int} (h0 : 0 ≤ d) (h1 : d < xs.length) : ∃ c ∈ xs, atI xs d = some c := by
  obtain ⟨n, rfl⟩ := Int.eq_ofNat_of_zero_le h0
  have hn : n < xs.length := by omega
  exact ⟨xs[n], List.getElem_mem hn, atI_nat (List.getElem?_eq_getElem hn)⟩
theorem Src.same {H H' : Hp} {p : Addr} (s : Src H p) (k : Same H H') : Src H' p := by
  obtain ⟨a, b, h, r⟩ := s.ex
  exact ⟨a, b, k _ _ h, r⟩
theorem Ext.same {H H' : Hp} {p : Addr} (k : Same H H') : Ext p H H' := fun b o _ e => k b o e
theorem cut_to (xs : List V) (k : Nat) : cutV xs none (some (k : Int)) = xs.take k := by
  unfold cutV
  rw [HT.sIx_nat, HT.sIx_none, List.drop_zero, Nat.sub_zero]
  by_cases h : k ≤ xs.length
  · rw [Nat.min_eq_left h]
  · rw [Nat.min_eq_right (by omega), List.take_of_length_le (by omega), List.take_of_length_le (by omega)]
theorem cut_from (xs : List V) (k : Nat) : cutV xs (some (k : Int)) none = xs.drop k := by
  unfold cutV
  rw [HT.sIx_nat, HT.sIx_none, List.take_of_length_le (by rw [List.length_drop]; omega)]
  by_cases h : k ≤ xs.length
  · rw [Nat.min_eq_left h]
  · rw [Nat.min_eq_right (by omega), List.drop_of_length_le (by omega), List.drop_of_length_le (by omega)]
theorem Kp.seq {K : PySem.W.Frag} {H H' : Hp} {a : Addr} {xs : List V} (k : Kp H H') (h : SqL K H a xs) : SqL K H' a xs := by
  rcases h with (h | ⟨o, h⟩) | h
  · exact .inl (.inl (k _ _ h nofun))
  · exact .inl (.inr ⟨o, k _ _ h nofun⟩)
  · exact .inr h
structure Cl (K : PySem.W.Frag) (mg : Str → Option Value) (c : List Addr) : Prop where
  len : c.length = 15
  dear : mg "DearError" = some (.ref (c.getD 0 0))
  c1 : mg "BadSign" = some (.ref (c.getD 1 0))
  c2 : mg "NoBook" = some (.ref (c.getD 2 0))
  c3 : mg "NoCount" = some (.ref (c.getD 3 0))
  c4 : mg "NoNumber" = some (.ref (c.getD 4 0))
  c5 : mg "NoRow" = some (.ref (c.getD 5 0))
  c6 : mg "NoText" = some (.ref (c.getD 6 0))
  c7 : mg "NoThing" = some (.ref (c.getD 7 0))
  c8 : mg "NoTongue" = some (.ref (c.getD 8 0))
  c9 : mg "NoTree" = some (.ref (c.getD 9 0))
  c10 : mg "NoTurn" = some (.ref (c.getD 10 0))
  c11 : mg "NoUndo" = some (.ref (c.getD 11 0))
  c12 : mg "NoWants" = some (.ref (c.getD 12 0))
  c13 : mg "TooMany" = some (.ref (c.getD 13 0))
  c14 : mg "Unknown" = some (.ref (c.getD 14 0))
  cls : ClsX K (c.getD 1 0)
  self : PySem.W.mroIn K (c.getD 1 0) (.ref (c.getD 1 0)) = some true
  ve : PySem.W.mroIn K (c.getD 1 0) (.type "ValueError") = some true
  up : PySem.W.mroIn K (c.getD 1 0) (.ref (c.getD 0 0)) = some true
  catch_ : CatchK K (c.getD 0 0)
  oth : ∀ i, 2 ≤ i → i < 15 → Other K (c.getD 1 0) (c.getD i 0)
  num : PySem.W.findIn K (.ref (c.getD 1 0)) "place" = some none
section
variable {K : PySem.W.Frag}
theorem kb2 {K : PySem.W.Frag} : PySem.W.kitOne K (.type "int") (.type "bool") = some false := by kernel_rfl
end
end G1
namespace G1
open PySem L2 GM
def pf (x y : Str) : Prop := x.cps.toList <+: y.cps.toList
def Cl2 (ts : List Str) (i j : Nat) : Prop := ∃ x y, ts[i]? = some x ∧ ts[j]? = some y ∧ i ≠ j ∧ pf x y
def NoCl (ts : List Str) : Prop := ∀ i j, ¬ Cl2 ts i j
structure FC (ts : List Str) (i j : Nat) : Prop where
  at_ : Cl2 ts i j
  rows : ∀ i' j', i' < i → ¬ Cl2 ts i' j'
  row : ∀ j', j' < j → ¬ Cl2 ts i j'
section
variable {P : Program} {w : World} {K : PySem.W.Frag} {mg : Str → Option Value} {base : Heap}
def spClash : Sp := fun vs H Q _ => ∃ (a : Addr) (ts : List Str), vs = [.ref a] ∧ H a = some (.lst (txs ts)) ∧ (NoCl ts → ∀ H', Same H H' → Q .non H') ∧ (∀ i j t H', FC ts i j → Same H H' → H' t = some (.tup [.int i, .int j]) → Q (.ref t) H')
theorem scFc : FnScope ["texts", "number", "text", "other", "longer"] ["texts"] (defScope sClash) := ⟨rfl, rfl, rfl, by decide +kernel, rfl, by decide +kernel, by decide +kernel⟩
theorem ok_clash {f : Addr} {fd : FuncData} (F : FunG K "first_clash" "first_clash" sClash .none f fd) (B : Bl mg) : FnOk P w K mg base (CXE P w) 1 f fd ["texts"] spClash := by
  refine F.zokN scFc (fun vs H Q E h => ?_) (fun cdv A outer s H vs Q E hr h => ?_)
  · obtain ⟨a, ts, rfl, _⟩ := h
    rfl
  · obtain ⟨a, ts, rfl, ha, qn, qt⟩ := h
    refine ⟨_, (zpss_cons (zps_for PassesOwn.never rfl (zpi_enum (by rfl) B.enum (zpac_n (zpv 0) zpa_nil)) (zpg_tup rfl (zpgs_cons (zpg_name (i := 1) scFc.nd rfl (Or.inl rfl)) (zpgs_cons (zpg_name (i := 2) scFc.nd rfl (Or.inl rfl)) zpgs_nil)))
          (zpss_one (zps_for PassesOwn.never rfl (zpi_enum (by rfl) B.enum (zpac_n (zpv 0) zpa_nil)) (zpg_tup rfl (zpgs_cons (zpg_name (i := 3) scFc.nd rfl (Or.inl rfl)) (zpgs_cons (zpg_name (i := 4) scFc.nd rfl (Or.inl rfl)) zpgs_nil)))
          (zpss_one (zps_if (SPW.pt (zpw_and (zpt_cmpR op_ne (zpv 1) (zpv 3) (nomark _)) (zpw_and1 (zpt_val (zpe_bm PySem.F.plainAttrs_str PySem.F.slot_str_startswith PySem.F.type_str_startswith mt_startswith (zpv 4) (zpac_n (zpv 2) zpa_nil)))))) (zpss_one (zps_ret (zpe_tup (zpac_n (zpv 1) (zpac_n (zpv 3) zpa_nil))))) zpss_nil)))))
      (zpss_one (zps_ret zpe_non))), ?_⟩
    have at_ : ∀ {i : Nat} {y : V}, (txs ts)[i]? = some y → ∃ x, y = .str x ∧ ts[i]? = some x := fun {i y} e => by
      unfold txs at e
      rw [List.getElem?_map] at e
      obtain ⟨x, e1, e2⟩ := Option.map_eq_some_iff.mp e
      exact ⟨x, e2.symm, e1⟩
    refine ⟨_, rfl, a, rfl, ⟨_, SqL.of ha⟩, for_enum (K := K) (a := a) (xs := txs ts) (fun i σ H2 => (∃ v1 v2 v3 v4, σ = [some (.ref a), v1, v2, v3, v4]) ∧ Same H H2 ∧ ∀ i' j', i' < i → ¬ Cl2 ts i' j') ⟨⟨_, _, _, _, rfl⟩, Same.refl _, fun i' _ h => absurd h (Nat.not_lt_zero _)⟩ ?_ ?_ ?_⟩
    · rintro i σ H2 _ ⟨_, k2, _⟩
      exact SqL.of (k2 _ _ ha)
    · rintro i y t σ H2 hi ⟨⟨v1, v2, v3, v4, rfl⟩, k2, no⟩ ht
      obtain ⟨x, rfl, hx⟩ := at_ hi
      have k3 := k2.trans (same_upd (o := .tup [.int i, .str x]) ht)
      refine ⟨t, _, rfl, SqT.of upd_same, rfl, _, _, rfl, _, _, rfl, rfl, ?_⟩
      refine ⟨_, rfl, a, rfl, ⟨_, SqL.of (k3 _ _ ha)⟩, for_enum (K := K) (a := a) (xs := txs ts) (fun j σ H2 => (∃ v3 v4, σ = [some (.ref a), some (.int i), some (.str x), v3, v4]) ∧ Same H H2 ∧ ∀ j', j' < j → ¬ Cl2 ts i j') ⟨⟨_, _, rfl⟩, k3, fun _ h => absurd h (Nat.not_lt_zero _)⟩ ?_ ?_ ?_⟩
      · rintro i σ H2 _ ⟨_, k2, _⟩
        exact SqL.of (k2 _ _ ha)
      · rintro j y u σ H4 hj ⟨⟨v3, v4, rfl⟩, k4, row⟩ hu
        obtain ⟨z, rfl, hz⟩ := at_ hj
        have k5 := k4.trans (same_upd (o := .tup [.int j, .str z]) hu)
        refine ⟨u, _, rfl, SqT.of upd_same, rfl, _, _, rfl, _, _, rfl, rfl, ?_⟩
        have nxt : ¬ Cl2 ts i j → ∀ j', j' < j + 1 → ¬ Cl2 ts i j' := fun n j' h => by
          by_cases e : j' = j
          · rw [e]; exact n
          · exact row j' (by omega)
        refine ⟨_, rfl, _, rfl, rfl, _, rfl, ?_⟩
        by_cases ij : i = j
        · subst ij
          rw [decide_eq_true rfl]
          refine iteF (iteF ⟨⟨_, _, rfl⟩, k5, nxt ?_⟩)
          rintro ⟨_, _, _, _, n, _⟩
          exact n rfl
        · rw [decide_eq_false (fun z => ij (by injection z with z; omega))]
          refine iteT ?_
          refine ⟨_, rfl, rfl, _, rfl, z, x, rfl, rfl, _, rfl, ?_⟩
          by_cases sw : Txt.startswith z x = true
          · rw [sw]
            refine iteT ⟨_, rfl, _, rfl, by show 2 ≤ sizeLine; decide, ?_⟩
            (intro t2 g2; generalize hEq : upd _ t2 _ = H6; refine newC hEq g2 ?_; clear hEq; intro S6 e6 o6)
            exact qt i j t2 H6 ⟨⟨x, z, hx, hz, ij, starts_iff.mp sw⟩, no, row⟩ (k5.trans S6) e6
          · rw [Bool.eq_false_iff.mpr sw]
            refine iteF ⟨⟨_, _, rfl⟩, k5, nxt ?_⟩
            rintro ⟨x', z', hx', hz', _, p⟩
            rw [hx] at hx'; rw [hz] at hz'
            cases hx'; cases hz'
            exact sw (starts_iff.mpr p)
      · rintro σ H4 ⟨⟨v3, v4, rfl⟩, k4, row⟩
        refine ⟨⟨_, _, _, _, rfl⟩, k4, fun i' j' h => ?_⟩
        by_cases e : i' = i
        · subst e
          by_cases jl : j' < (txs ts).length
          · exact row j' jl
          · rintro ⟨_, y, _, hy, _⟩
            have := (List.getElem?_eq_some_iff.mp hy).1
            exact jl (by unfold txs; rw [List.length_map]; exact this)
        · exact no i' j' (by omega)
    · rintro σ H2 ⟨⟨v1, v2, v3, v4, rfl⟩, k2, no⟩
      refine qn (fun i j => ?_) H2 k2
      by_cases il : i < (txs ts).length
      · exact no i j il
      · rintro ⟨x, _, hx, _⟩
        have := (List.getElem?_eq_some_iff.mp hx).1
        exact il (by unfold txs; rw [List.length_map]; exact this)
end
end G1
namespace L2
open PySem PySem.Spec PyProof.Rows
section
variable {P : Program} {w : World} {K : PySem.W.Frag} {mg : Str → Option Value} {base : Heap} {x qual : Str} {st : Stmt} {dV kV doc pm ct oc : Value} {an od : Option Addr} {c f : Addr} {osl : Array (Option Value)} {N ps : List Str} {k : Nat} {sp : Sp}
theorem okCE (lk : K.lookup f = some ⟨oc, od, .func (PySem.W.fnOf x qual (defArgs st) (defBody st) (defScope st) dV kV doc pm an (.ref c) ct), osl⟩) (hcd : PySem.W.codeIn K (.ref c) qual = true) (S : FnScope N ps (defScope st)) (len : ∀ vs H Q E, sp vs H Q E → vs.length = ps.length)
    (hbody : ∀ (A : Around) (outer : List Env) (s : Shared) (H : Hp) (vs : List V) (Q : VK) (E : XK), Room k (A.deeper (envOfC qual (defScope st) s.heap.objs.size f (.ref c))) → sp vs H Q E →
      ∃ t, SPSs (cxOf (CXE P w) P w K mg base N qual (defScope st) f (.ref c) A outer s H E) (defBody st) t ∧ t { nx := fun _ H' => Q .non H', rt := Q } (start N vs) H) :
    FnOk P w K mg base (CXE P w) (k + 1) f (PySem.W.fnOf x qual (defArgs st) (defBody st) (defScope st) dV kV doc pm an (.ref c) ct) ps sp :=
  fn_of lk hcd S len fun A outer s H vs Q E hr h => by
    obtain ⟨t, h1, h2⟩ := hbody A outer s H vs Q E hr h
    exact ⟨t, h1.out, h2⟩
end
end L2
namespace G1
open PySem L2 GM
structure ThB (H : Hp) (x : V) : Prop where
  th : Th H x
  els : ∀ a xs, x = .ref a → H a = some (.lst xs) → ∀ y ∈ xs, Pt H y
theorem _root_.L2.Same.kp {H H' : Hp} (s : Same H H') : Kp H H' := Kp.same s
theorem Pt.kp {H H' : Hp} {x : V} (h : Pt H x) (k : Kp H H') : Pt H' x := ⟨h.1.kp k, h.2⟩
structure GB (H : Hp) (x : V) (a : Addr) (ts : List Str) : Prop where
  ref : x = .ref a
  at_ : H a = some (.lst (txs ts))
  l1 : 1 ≤ ts.length
  l2 : ts.length ≤ 20
  nm : ∀ t ∈ ts, nameB (.str t) = true
  no : NoCl ts
theorem GB.kp {H H' : Hp} {x : V} {a : Addr} {ts : List Str} (h : GB H x a ts) (k : Kp H H') : GB H' x a ts := ⟨h.ref, k.lst h.at_, h.l1, h.l2, h.nm, h.no⟩
theorem nameB_str {y : V} (h : nameB y = true) : ∃ z, y = .str z := by
  cases y with
  | str z => exact ⟨z, rfl⟩
  | _ => cases h
theorem all_str {xs : List V} (h : ∀ y ∈ xs, nameB y = true) : ∃ ts : List Str, xs = txs ts := by
  induction xs with
  | nil => exact ⟨[], rfl⟩
  | cons x xs ih =>
    obtain ⟨z, rfl⟩ := nameB_str (h x (by simp))
    obtain ⟨ts, rfl⟩ := ih fun y hy => h y (by simp [hy])
    exact ⟨z :: ts, rfl⟩
section
variable {P : Program} {w : World} {K : PySem.W.Frag} {mg : Str → Option Value} {base : Heap}
def spPlainB (C T1 T2 : Addr) : Sp := fun vs H Q E => ∃ x, vs = [x] ∧ ThB H x ∧ Tab T1 H ∧ Tab T2 H ∧ (∀ a ts H', GB H x a ts → Kp H H' → Tab T1 H' → Tab T2 H' → Q .non H') ∧ (∀ H', (∀ a ts, ¬ GB H x a ts) → Kp H H' → Tab T1 H' → Tab T2 H' → E (.ref C) none H')
theorem scPb : FnScope ["thing"] ["thing"] (defScope sPlainB) := ⟨rfl, rfl, rfl, by decide +kernel, rfl, by decide +kernel, by decide +kernel⟩
theorem ok_plainB {CB T1 T2 f c fF fN : Addr} {fdF fdN : FuncData} {kV doc pm ct oc : Value} {an od : Option Addr} {osl : Array (Option Value)} {t1 : Tok}
    (lk : K.lookup f = some ⟨oc, od, .func (PySem.W.fnOf "look_at_plain_book" "look_at_plain_book" (defArgs sPlainB) (defBody sPlainB) (defScope sPlainB) .none kV doc pm an (.ref c) ct), osl⟩) (hcd : PySem.W.codeIn K (.ref c) "look_at_plain_book" = true)
    (B : Bl mg) (CK : CodeK K c T2) (hbm : BmOf mg base) (mM : mg "MOST_THINGS" = some (.int 20 t1)) (mB : mg "NoBook" = some (.ref CB)) (eB : ExcK K CB)
    (GF : FnOk P w K mg base (CXE P w) 1 fF fdF ["texts"] spClash) (mF : mg "first_clash" = some (.ref fF)) (kF : PySem.W.keepIn K (.ref fF) = true) (bF : Binds K fdF ["texts"] [])
    (GN : FnOk P w K mg base (CXE P w) 2 fN fdN ["thing"] (spName T1)) (mN : mg "is_name" = some (.ref fN)) (kN : PySem.W.keepIn K (.ref fN) = true) (bN : Binds K fdN ["thing"] []) :
    FnOk P w K mg base (CXE P w) 4 f (PySem.W.fnOf "look_at_plain_book" "look_at_plain_book" (defArgs sPlainB) (defBody sPlainB) (defScope sPlainB) .none kV doc pm an (.ref c) ct) ["thing"] (spPlainB CB T1 T2) := by
  refine okCE lk hcd scPb (fun vs H Q E h => ?_) (fun A outer s H vs Q E hr h => ?_)
  · obtain ⟨x, rfl, _⟩ := h
    rfl
  · obtain ⟨x, rfl, hx, ht1, ht2, q, qe⟩ := h
    refine ⟨_, (zpss_cons (zps_if (SPW.pt (zpw_or (zpt_not (zpt_val (zpe_callB call_isi (by rfl) B.isi boot_isi (zpac_n (zpv 0) (zpac_n (zpe_bltn (by rfl) B.list boot_list (v := .ty "list") rfl) zpa_nil))))) (zpw_or (zpt_cmpR op_lt (zpe_callB call_len_seq (by rfl) B.len PySem.boot_len (zpac_n (zpv 0) zpa_nil)) zpe_int (nomark _)) (zpw_or1 (zpt_cmpR op_gt (zpe_callB call_len_seq (by rfl) B.len PySem.boot_len (zpac_n (zpv 0) zpa_nil)) (zpe_glob (by rfl) mM (v := .int 20) ⟨_, rfl⟩) (nomark _)))))) (zpss_one (zps_raise (E := E) (fun pins σ H1 s1 h1 e args I hx hE => throw_fn I hx hE) rfl (by rfl) mB eB (zpac_c zpe_str zpa_nil))) zpss_nil)
      (zpss_cons (zps_if (zpt_not (zpt_val (zpe_all ["thing"] ["word"] [] (defScope sPlainB) rfl hr (by rfl) B.all rfl CK ⟨hbm⟩ rfl rfl ⟨by decide +kernel, by decide +kernel, by decide +kernel, by decide +kernel, by decide +kernel⟩ (by decide +kernel) (by decide +kernel) (zpi_list (zpv 0)) (fun code s H fp => (zpg_name (i := 0) (show List.Nodup [("word" : Str)] by decide +kernel) rfl (Or.inl rfl))) (fun code s H fp => (zpe_call GN hr.gen (by rfl) mN kN bN .nil passE0 (zpac_n (zpv 0) zpa_nil)))))) (zpss_one (zps_raise (E := E) (fun pins σ H1 s1 h1 e args I hx hE => throw_fn I hx hE) rfl (by rfl) mB eB (zpac_c zpe_str zpa_nil))) zpss_nil)
      (zpss_one (zps_if (zpt_cmp (zpc_notN (zpe_call GF (hr.mono (by decide)) (by rfl) mF kF bF .nil passE0 (zpac_n (zpv 0) zpa_nil)))) (zpss_one (zps_raise (E := E) (fun pins σ H1 s1 h1 e args I hx hE => throw_fn I hx hE) rfl (by rfl) mB eB (zpac_c zpe_str zpa_nil))) zpss_nil)))), ?_⟩
    have bad : ∀ {H' : Hp}, (∀ a ts, ¬ GB H x a ts) → Kp H H' → Tab T1 H' → Tab T2 H' → 1 ≤ sizeLine ∧ E (.ref CB) none H' := fun n k a b => ⟨by decide, qe _ n k a b⟩
    refine ⟨_, rfl, _, _, _, _, rfl, hx.th.tyQ, .inl ⟨_, rfl, kit_lst hx.th⟩, _, rfl, ?_⟩
    by_cases ht : tyN H x = "list"
    · rw [decide_eq_true ht]
      obtain ⟨a, xs, rfl, ha⟩ := hx.th.isLst ht
      have one : ∀ {b ts}, GB H (.ref a) b ts → a = b ∧ xs = txs ts := fun g => by
        have e := g.ref
        injection e with e
        subst e
        have := g.at_
        rw [ha] at this
        injection this with this; injection this with this
        exact ⟨rfl, this⟩
      have sq : SqL K H a xs := SqL.of ha
      refine iteF ⟨_, rfl, a, xs, rfl, .inl sq, _, _, rfl, rfl, _, rfl, ?_⟩
      refine ite2 (fun e => ?_) (fun e => ?_)
      · have l0 : (xs.length : Int) < 1 := of_decide_eq_true e
        refine bad (fun b ts g => ?_) Kp.refl ht1 ht2
        have := (one g).2
        have l1 := g.l1
        rw [this] at l0
        unfold txs at l0
        rw [List.length_map] at l0; omega
      have l0 : ¬ (xs.length : Int) < 1 := fun z => e (decide_eq_true z)
      refine ⟨_, rfl, a, xs, rfl, .inl sq, _, _, rfl, rfl, _, rfl, ?_⟩
      refine ite2 (fun e2 => ?_) (fun e2 => ?_)
      · have l1 : (20 : Int) < (xs.length : Int) := of_decide_eq_true e2
        refine bad (fun b ts g => ?_) Kp.refl ht1 ht2
        have := (one g).2
        have l2 := g.l2
        rw [this] at l1
        unfold txs at l1
        rw [List.length_map] at l1; omega
      have l1 : ¬ (20 : Int) < (xs.length : Int) := fun z => e2 (decide_eq_true z)
      obtain ⟨ps2, hT2, tr2⟩ := id ht2
      refine ⟨_, rfl, a, rfl, ⟨_, sq⟩, ps2, hT2, tr2, fun ps' tr' => ?_⟩
      refine gl_list (K := K) (S := a) (xs := xs) (fun i σ H2 => (∃ v, σ = [v]) ∧ Kp H H2 ∧ Tab T1 H2 ∧ Tab T2 H2 ∧ ∀ j y, j < i → xs[j]? = some y → nameB y = true) ⟨⟨_, rfl⟩, Kp.tab ht2, ht1.put tr', ht2.put tr', fun _ _ h => absurd h (Nat.not_lt_zero _)⟩ ?_ ?_ ?_
      · rintro i σ H2 ⟨_, k2, _⟩
        exact SqL.of (k2.lst ha)
      · rintro i y σ H2 C hi ⟨⟨v, rfl⟩, k2, a2, b2, al⟩ nx
        have hy := (hx.els a xs rfl ha y (List.mem_of_getElem? hi)).kp k2
        obtain ⟨ps1, hT1, tr1⟩ := id a2
        refine ⟨_, rfl, y, ps1, rfl, hy.1, hy.2, hT1, tr1, fun ps'' tr'' => ⟨_, rfl, ?_⟩⟩
        cases hn : nameB y with
        | true =>
          refine iteT (nx _ _ ⟨⟨_, rfl⟩, k2.trans (Kp.tab a2), a2.put tr'', b2.put tr'', fun j z hj ez => ?_⟩)
          by_cases e : j = i
          · subst e; rw [hi] at ez; cases ez; exact hn
          · exact al j z (by omega) ez
        | false =>
          refine iteF ⟨_, rfl, iteT (bad (fun b ts g => ?_) (k2.trans (Kp.tab a2)) (a2.put tr'') (b2.put tr''))⟩
          have e := (one g).2
          rw [e] at hi
          have m := List.mem_of_getElem? hi
          obtain ⟨z, hz, rfl⟩ := List.mem_map.mp m
          rw [g.nm z hz] at hn; cases hn
      rintro σ H2 ⟨⟨v, rfl⟩, k2, a2, b2, al⟩
      refine ⟨_, rfl, iteF ?_⟩
      obtain ⟨ts, rfl⟩ := all_str (xs := xs) fun y hy => by
        obtain ⟨j, hj⟩ := List.getElem?_of_mem hy
        exact al j y ((List.getElem?_eq_some_iff.mp hj).1) hj
      have tl : (txs ts).length = ts.length := by unfold txs; rw [List.length_map]
      have nm : ∀ t ∈ ts, nameB (.str t) = true := fun t m => by
        obtain ⟨j, hj⟩ := List.getElem?_of_mem m
        have : (txs ts)[j]? = some (.str t) := by unfold txs; rw [List.getElem?_map, hj]; rfl
        exact al j _ ((List.getElem?_eq_some_iff.mp this).1) this
      refine ⟨_, rfl, a, ts, rfl, k2.lst ha, fun no H3 k3 => ?_, fun i j t H3 fc k3 e3 => ?_⟩
      · refine ⟨_, rfl, iteF ?_⟩
        exact q a ts H3 ⟨rfl, ha, by omega, by omega, nm, no⟩ (k2.trans k3.kp) (a2.same k3) (b2.same k3)
      · refine ⟨_, rfl, iteT (bad (fun b us g => ?_) (k2.trans k3.kp) (a2.same k3) (b2.same k3))⟩
        have e := (one g).2
        have : ts = us := List.map_inj_right (fun _ _ z => by injection z) |>.mp e
        subst this
        exact g.no i j fc.at_
    · rw [decide_eq_false ht]
      refine iteT (bad (fun a ts g => ?_) Kp.refl ht1 ht2)
      rw [g.ref] at ht
      exact ht (tyN_lst g.at_)
end
end G1
namespace G1
open PySem L2 GM
def Apart (x y : Str) : Prop := ¬ pf x y ∧ ¬ pf y x
theorem Apart.symm {x y : Str} (h : Apart x y) : Apart y x := ⟨h.2, h.1⟩
def sg1 (c : Nat) : Str := ⟨#[c]⟩
def ltr (j : Nat) : Nat := letters.cps.toList.getD j 97
theorem ltr_occ : ∀ j : Fin 26, occ (ltr j.val) = true := by decide +kernel
theorem ltr_at {j : Nat} (h : j < 26) : atI letters.cps.toList (j : Int) = some (ltr j) := by
  have l : letters.cps.toList.length = 26 := by decide +kernel
  refine atI_nat (v := ltr j) ?_
  unfold ltr
  rw [List.getD_eq_getElem?_getD, List.getElem?_eq_getElem (by omega)]; rfl
theorem ltr_inj : ∀ i j : Fin 26, ltr i.val = ltr j.val → i = j := by decide +kernel
structure En (ts : List Str) : Prop where
  ap : ts.Pairwise Apart
  l8 : ∀ t ∈ ts, t.length ≤ 8
  oc : ∀ t ∈ ts, t.cps.toList.all occ = true
  l1 : 1 ≤ ts.length
  l2 : ts.length ≤ 20
theorem add_cps (a b : Str) : (a ++ b).cps.toList = a.cps.toList ++ b.cps.toList := by
  show (a.cps ++ b.cps).toList = _
  simp
theorem sg1_cps (c : Nat) : (sg1 c).cps.toList = [c] := rfl
theorem add_len (a b : Str) : (a ++ b).length = a.length + b.length := by
  show (a.cps ++ b.cps).size = _
  simp [Str.length]
theorem apart_ext {x b : Str} {c : Nat} (h : Apart x b) : Apart x (b ++ sg1 c) := by
  constructor
  · intro p
    unfold pf at p
    rw [add_cps, sg1_cps, List.prefix_concat_iff] at p
    rcases p with p | p
    · exact h.2 (by unfold pf; rw [p]; exact List.prefix_append _ _)
    · exact h.1 p
  · intro p
    refine h.2 (List.IsPrefix.trans ?_ p)
    rw [add_cps]; exact List.prefix_append _ _
theorem apart_two {b : Str} {c d : Nat} (h : c ≠ d) : Apart (b ++ sg1 c) (b ++ sg1 d) := by
  have one : ∀ {c d : Nat}, c ≠ d → ¬ pf (b ++ sg1 c) (b ++ sg1 d) := fun {c d} h p => by
    unfold pf at p
    rw [add_cps, add_cps, sg1_cps, sg1_cps, List.prefix_append_right_inj] at p
    have := List.IsPrefix.eq_of_length p rfl
    injection this with this
    exact h this
  exact ⟨one h, one (Ne.symm h)⟩
theorem En.part {l r : List Str} {b : Str} {cs : List Nat} (h : En (l ++ [b] ++ r)) (nd : cs.Nodup) (oc : ∀ c ∈ cs, occ c = true) (n1 : 1 ≤ cs.length) (b8 : b.length < 8) (n2 : (l ++ [b] ++ r).length + cs.length < 22) :
    En (l ++ cs.map (fun c => b ++ sg1 c) ++ r) := by
  have hp := h.ap
  rw [List.append_assoc, List.pairwise_append] at hp
  obtain ⟨pl, pr, lr⟩ := hp
  rw [List.singleton_append, List.pairwise_cons] at pr
  obtain ⟨br, pr⟩ := pr
  have ln : (l ++ [b] ++ r).length = l.length + 1 + r.length := by simp; omega
  refine ⟨?_, ?_, ?_, ?_, ?_⟩
  · rw [List.append_assoc, List.pairwise_append]
    refine ⟨pl, ?_, fun x hx y hy => ?_⟩
    · rw [List.pairwise_append]
      refine ⟨List.Pairwise.map _ (fun c d hcd => apart_two hcd) nd, pr, fun x hx y hy => ?_⟩
      obtain ⟨c, _, rfl⟩ := List.mem_map.mp hx
      exact (apart_ext (br y hy).symm).symm
    · rcases List.mem_append.mp hy with hy | hy
      · obtain ⟨c, _, rfl⟩ := List.mem_map.mp hy
        exact apart_ext (lr x hx b (by simp))
      · exact lr x hx y (by simp [hy])
  · intro t ht
    rw [List.append_assoc] at ht
    rcases List.mem_append.mp ht with ht | ht
    · exact h.l8 t (by simp [ht])
    rcases List.mem_append.mp ht with ht | ht
    · obtain ⟨c, _, rfl⟩ := List.mem_map.mp ht
      rw [add_len]
      show b.length + 1 ≤ 8
      omega
    · exact h.l8 t (by simp [ht])
  · intro t ht
    rw [List.append_assoc] at ht
    rcases List.mem_append.mp ht with ht | ht
    · exact h.oc t (by simp [ht])
    rcases List.mem_append.mp ht with ht | ht
    · obtain ⟨c, hc, rfl⟩ := List.mem_map.mp ht
      rw [add_cps, List.all_append, h.oc b (by simp), sg1_cps]
      simp [oc c hc]
    · exact h.oc t (by simp [ht])
  · simp only [List.length_append, List.length_map]; omega
  · simp only [List.length_append, List.length_map]; omega
def lts (sh st : Nat) (i : Nat) : Nat := ltr ((sh + st * i) % 26)
theorem cop : ∀ (st : Fin 4) (i j : Fin 8), (([1, 3, 5, 7].getD st.val 1) * i.val) % 26 = (([1, 3, 5, 7].getD st.val 1) * j.val) % 26 → i = j := by decide +kernel
theorem lts_nd {sh st n : Nat} (hs : ∃ k : Nat, k < 4 ∧ st = [1, 3, 5, 7].getD k 1) (hn : n ≤ 8) : ((List.range n).map (lts sh st)).Nodup := by
  obtain ⟨k, hk, rfl⟩ := hs
  refine List.Pairwise.map _ (R := fun i j => i < 8 ∧ j < 8 ∧ i ≠ j) (fun i j h e => ?_) ?_
  · obtain ⟨h1, h2, h3⟩ := h
    have e : ltr ((sh + [1, 3, 5, 7].getD k 1 * i) % 26) = ltr ((sh + [1, 3, 5, 7].getD k 1 * j) % 26) := e
    have e2 := ltr_inj ⟨_, Nat.mod_lt _ (by decide)⟩ ⟨_, Nat.mod_lt _ (by decide)⟩ e
    have e3 : (sh + [1, 3, 5, 7].getD k 1 * i) % 26 = (sh + [1, 3, 5, 7].getD k 1 * j) % 26 := congrArg Fin.val e2
    have e4 : ([1, 3, 5, 7].getD k 1 * i) % 26 = ([1, 3, 5, 7].getD k 1 * j) % 26 := by omega
    have := cop ⟨k, hk⟩ ⟨i, h1⟩ ⟨j, h2⟩ e4
    exact h3 (by injection this)
  · rw [List.pairwise_iff_getElem]
    intro i j hi hj hij
    rw [List.getElem_range, List.getElem_range]
    rw [List.length_range] at hi hj
    exact ⟨by omega, by omega, by omega⟩
theorem lts_occ {sh st i : Nat} : occ (lts sh st i) = true := ltr_occ ⟨_, Nat.mod_lt _ (by decide)⟩
theorem En.good {ts us : List Str} (h : En ts) (ne : ts ≠ [("" : Str)]) (p : ts.Perm us) : 1 ≤ us.length ∧ us.length ≤ 20 ∧ (∀ t ∈ us, nameB (.str t) = true) ∧ NoCl us := by
  have pl := p.length_eq
  have ap := (List.Perm.pairwise_iff (fun {_ _} => Apart.symm) p).mp h.ap
  refine ⟨by rw [← pl]; exact h.l1, by rw [← pl]; exact h.l2, fun t ht => ?_, ?_⟩
  · have ht' := p.mem_iff.mpr ht
    have t0 : t.length ≠ 0 := fun z => by
      have e0 : t.cps.toList = [] := by
        have : t.cps.toList.length = 0 := by simpa [Str.length] using z
        exact List.length_eq_zero_iff.mp this
      have te : t = "" := by apply str_ext; rw [e0]; rfl
      obtain ⟨i, hi⟩ := List.getElem?_of_mem ht'
      obtain ⟨il, ie⟩ := List.getElem?_eq_some_iff.mp hi
      by_cases l1 : ts.length = 1
      · apply ne
        match ts, l1, ht' with
        | [u], _, ht' => rw [← List.mem_singleton.mp ht', te]
      · have hp := List.pairwise_iff_getElem.mp h.ap
        have j : ∃ j, j < ts.length ∧ j ≠ i := by
          by_cases i0 : i = 0
          · exact ⟨1, by have := h.l1; omega, by omega⟩
          · exact ⟨0, by omega, fun z => i0 z.symm⟩
        obtain ⟨j, jl, ji⟩ := j
        have pre : ∀ y : Str, pf t y := fun y => by unfold pf; rw [e0]; exact List.nil_prefix
        by_cases lt : i < j
        · exact (hp i j il jl lt).1 (by rw [ie]; exact pre _)
        · exact (hp j i jl il (by omega)).2 (by rw [ie]; exact pre _)
    unfold nameB
    have l8 := h.l8 t ht'
    rw [Bool.and_eq_true_iff, Bool.and_eq_true_iff]
    exact ⟨decide_eq_true fun z => t0 (by rw [z]; rfl), decide_eq_true l8, h.oc t ht'⟩
  · rintro i j ⟨x, y, hx, hy, ij, pxy⟩
    obtain ⟨il, ie⟩ := List.getElem?_eq_some_iff.mp hx
    obtain ⟨jl, je⟩ := List.getElem?_eq_some_iff.mp hy
    have hp := List.pairwise_iff_getElem.mp ap
    by_cases lt : i < j
    · have := (hp i j il jl lt).1
      rw [ie, je] at this; exact this pxy
    · have := (hp j i jl il (by omega)).2
      rw [ie, je] at this; exact this pxy
theorem eqVs_txs : ∀ a b : List Str, eqVs (txs a) (txs b) = decide (a = b)
  | [], [] => rfl
  | [], _ :: _ => rfl
  | _ :: _, [] => rfl
  | x :: a, y :: b => by
    show ((x == y) && eqVs (txs a) (txs b)) = _
    rw [eqVs_txs a b, Bool.eq_iff_iff, Bool.and_eq_true_iff, beq_iff_eq, decide_eq_true_iff, decide_eq_true_iff]
    constructor
    · rintro ⟨rfl, rfl⟩; rfl
    · intro h; injection h with h1 h2; exact ⟨h1, h2⟩
theorem erase_perm {α : Type} : ∀ (l : List α) (k : Nat) (h : k < l.length), (l.eraseIdx k ++ [l[k]]).Perm l
  | x :: l, 0, _ => by
    show (l ++ [x]).Perm (x :: l)
    exact List.perm_append_comm
  | x :: l, k + 1, h => by
    have hk : k < l.length := by simpa using h
    show (x :: (l.eraseIdx k ++ [l[k]])).Perm (x :: l)
    exact List.Perm.cons x (erase_perm l k (by simpa using h))
end G1
namespace G1
open PySem L2 GM
theorem En.start : En [("" : Str)] := ⟨List.pairwise_singleton _ _, fun t h => by rw [List.mem_singleton.mp h]; decide, fun t h => by rw [List.mem_singleton.mp h]; rfl, by decide, by decide⟩
theorem pick4 {d : Int} (h0 : 0 ≤ d) (h1 : d < 4) : ∃ m : Nat, atI [V.int 1, V.int 3, V.int 5, V.int 7] d = some (.int m) ∧ (∃ k : Nat, k < 4 ∧ m = [1, 3, 5, 7].getD k 1) ∧ m ≤ 7 := by
  rcases (show d = 0 ∨ d = 1 ∨ d = 2 ∨ d = 3 by omega) with rfl | rfl | rfl | rfl
  · exact ⟨1, rfl, ⟨0, by decide, rfl⟩, by decide⟩
  · exact ⟨3, rfl, ⟨1, by decide, rfl⟩, by decide⟩
  · exact ⟨5, rfl, ⟨2, by decide, rfl⟩, by decide⟩
  · exact ⟨7, rfl, ⟨3, by decide, rfl⟩, by decide⟩
theorem txs_len (ts : List Str) : (txs ts).length = ts.length := by unfold txs; rw [List.length_map]
theorem txs_app (a b : List Str) : txs (a ++ b) = txs a ++ txs b := by unfold txs; rw [List.map_append]
theorem txs_take (a : List Str) (n : Nat) : (txs a).take n = txs (a.take n) := by unfold txs; rw [List.map_take]
theorem txs_drop (a : List Str) (n : Nat) : (txs a).drop n = txs (a.drop n) := by unfold txs; rw [List.map_drop]
theorem txs_at {a : List Str} {i : Nat} {t : Str} (h : a[i]? = some t) : (txs a)[i]? = some (.str t) := by unfold txs; rw [List.getElem?_map, h]; rfl
theorem txs_erase : ∀ (a : List Str) (k : Nat), (txs a).eraseIdx k = txs (a.eraseIdx k)
  | [], _ => rfl
  | _ :: _, 0 => rfl
  | x :: a, k + 1 => by
    show V.str x :: (txs a).eraseIdx k = V.str x :: txs (a.eraseIdx k)
    rw [txs_erase a k]
theorem seqIx {k n : Nat} (h : k < n) : seqIndex? (k : Int) n = some k := by
  simp only [seqIndex?]
  rw [if_neg (show ¬ (k : Int) < 0 by omega), if_pos (by rw [decide_eq_true (show (0 : Int) ≤ (k : Int) by omega), decide_eq_true (show (k : Int) < (n : Int) by omega)]; rfl), Int.toNat_natCast]
theorem split_at {ts : List Str} {j : Nat} {b : Str} (h : ts[j]? = some b) : ts = ts.take j ++ [b] ++ ts.drop (j + 1) := by
  obtain ⟨hj, he⟩ := List.getElem?_eq_some_iff.mp h
  rw [← he, List.append_assoc, List.singleton_append, List.getElem_cons_drop, List.take_append_drop]
theorem rep_ok {c n : Nat} (h : occ c = true) (h1 : 1 ≤ n) (h8 : n ≤ 8) : En [repT (sg1 c) n] ∧ [repT (sg1 c) n] ≠ [("" : Str)] := by
  have ln : (repT (sg1 c) n).length = n := by rw [repT_len]; show 1 * n = n; omega
  have cps : ∀ d ∈ (repT (sg1 c) n).cps.toList, d = c := fun d hd => by
    unfold repT catT at hd
    rw [List.map_replicate] at hd
    have hd : d ∈ (List.replicate n [c]).flatten := by simpa [sg1] using hd
    obtain ⟨l, hl, hz⟩ := List.mem_flatten.mp hd
    rw [List.eq_of_mem_replicate hl] at hz
    exact List.mem_singleton.mp hz
  refine ⟨⟨List.pairwise_singleton _ _, fun t m => by rw [List.mem_singleton.mp m, ln]; exact h8, fun t m => ?_, by show 1 ≤ 1; decide, by show 1 ≤ 20; decide⟩, fun z => ?_⟩
  · rw [List.mem_singleton.mp m]
    exact List.all_eq_true.mpr fun d hd => by rw [cps d hd]; exact h
  · injection z with z
    rw [z] at ln
    have : (Str.ofString "").length = 0 := by decide
    rw [this] at ln; omega
section
variable {P : Program} {w : World} {K : PySem.W.Frag} {mg : Str → Option Value} {base : Heap}
def spPlain : Sp := fun vs H Q _ => ∃ (p : Addr), vs = [.ref p] ∧ Src H p ∧ ∀ L ts H', H L = none → GB H' (.ref L) L ts → L ≠ p → Src H' p → Ext p H H' → Q (.ref L) H'
theorem scPl : FnScope ["_law_pool_here", "_law_ends", "_law_k", "_law_at", "_law_many", "_law_shift", "_law_step", "_law_begin", "_law_letters", "_law_found"] ["_law_pool_here"] (defScope sPlain) := ⟨rfl, rfl, rfl, by decide +kernel, rfl, by decide +kernel, by decide +kernel⟩
theorem ok_plain {f fD : Addr} {fd fdD : FuncData} (F : FunG K "_law_plain" "_law_plain" sPlain .none f fd) (B : Bl mg)
    (GD : FnOk P w K mg base (CXE P w) 1 fD fdD ["_law_pool_here", "_law_many"] spDraw) (mD : mg "_law_take" = some (.ref fD)) (kD : PySem.W.keepIn K (.ref fD) = true) (bD : Binds K fdD ["_law_pool_here", "_law_many"] []) :
    FnOk P w K mg base (CXE P w) 2 f fd ["_law_pool_here"] spPlain := by
  refine F.zokN scPl (fun vs H Q E h => ?_) (fun cdv A outer s H vs Q E hr h => ?_)
  · obtain ⟨p, rfl, _⟩ := h
    rfl
  · obtain ⟨p, rfl, hs, q⟩ := h
    have hu := hr.units0
    refine ⟨_, (zpss_cons (zps_set (i := 1) scPl.nd rfl (Or.inl rfl) (zpe_lst (zpac_c zpe_str zpa_nil)))
      (zpss_cons (zps_for PassesOwn.never rfl (zpi_range1 (by rfl) B.range (zpac_f (zpe_call GD hr (by rfl) mD kD bD .nil passE0 (zpac_n (zpv 0) (zpac_c zpe_int zpa_nil))) zpa_nil)) (zpg_name (i := 2) scPl.nd rfl (Or.inl rfl))
          (zpss_cons (zps_set (i := 3) scPl.nd rfl (Or.inl rfl) (zpe_call GD hr (by rfl) mD kD bD .nil passE0 (zpac_n (zpv 0) (zpac_f (zpe_callB call_len_seq (by rfl) B.len PySem.boot_len (zpac_n (zpv 1) zpa_nil)) zpa_nil))))
      (zpss_cons (zps_set (i := 4) scPl.nd rfl (Or.inl rfl) (zpe_op op_add zpe_int (zpe_call GD hr (by rfl) mD kD bD .nil passE0 (zpac_n (zpv 0) (zpac_c zpe_int zpa_nil)))))
      (zpss_cons (zps_set (i := 5) scPl.nd rfl (Or.inr rfl) (zpe_call GD hr (by rfl) mD kD bD .nil passE0 (zpac_n (zpv 0) (zpac_c zpe_int zpa_nil))))
      (zpss_cons (zps_set (i := 6) scPl.nd rfl (Or.inr rfl) (zpe_ix ix_list (zpe_lst (zpac_c zpe_int (zpac_c zpe_int (zpac_c zpe_int (zpac_c zpe_int zpa_nil))))) (zpe_call GD hr (by rfl) mD kD bD .nil passE0 (zpac_n (zpv 0) (zpac_c zpe_int zpa_nil))) (fun _ _ => rfl)))
      (zpss_cons (zps_set (i := 7) scPl.nd rfl (Or.inr rfl) (zpe_ix ix_list (zpv 1) (zpv 3) (fun _ _ => rfl)))
      (zpss_one (zps_if (SPW.pt (zpw_and (zpt_cmpR op_lt (zpe_callB call_len_str (by rfl) B.len PySem.boot_len (zpac_n (zpv 7) zpa_nil)) zpe_int (nomark _)) (zpw_and1 (zpt_cmpR op_lt (zpe_op op_add (zpe_callB call_len_seq (by rfl) B.len PySem.boot_len (zpac_n (zpv 1) zpa_nil)) (zpv 4)) zpe_int (nomark _))))) (zpss_cons (zps_compL (i := 8) ["_law_pool_here", "_law_ends", "_law_k", "_law_at", "_law_many", "_law_shift", "_law_step", "_law_begin", "_law_letters", "_law_found"] ["_law_j"] [5, 6] (defScope sPlain) rfl rfl rfl ⟨by decide +kernel, by decide +kernel, by decide +kernel, by decide +kernel, by decide +kernel⟩ scPl.nd rfl (Or.inl rfl) (zpi_range1 (by rfl) B.range (zpac_n (zpv 4) zpa_nil)) (fun s H fp => (zpg_name (i := 0) (show List.Nodup [("_law_j" : Str), "_law_shift", "_law_step"] by decide +kernel) rfl (Or.inl rfl))) (fun s H fp => zpts_nil) (fun s H fp => (zpe_ix ix_str zpe_str (zpe_op op_mod (zpe_op op_add (zpv 1) (zpe_op op_mul (zpv 2) (zpv 0))) zpe_int) (fun _ _ => rfl))))
      (zpss_one (zps_set (i := 1) scPl.nd rfl (Or.inl rfl) (zpe_op op_cat (zpe_op op_cat (zpe_slice sl_list (zpv 1) zpo_none (zpo_some (zpv 3))) (zpe_compL ["_law_pool_here", "_law_ends", "_law_k", "_law_at", "_law_many", "_law_shift", "_law_step", "_law_begin", "_law_letters", "_law_found"] ["_law_letter"] [7] (defScope sPlain) rfl rfl rfl ⟨by decide +kernel, by decide +kernel, by decide +kernel, by decide +kernel, by decide +kernel⟩ (zpi_list (zpv 8)) (fun s H fp => (zpg_name (i := 0) (show List.Nodup [("_law_letter" : Str), "_law_begin"] by decide +kernel) rfl (Or.inl rfl))) (fun s H fp => zpts_nil) (fun s H fp => (zpe_op op_add_str (zpv 1) (zpv 0))))) (zpe_slice sl_list (zpv 1) (zpo_some (zpe_op op_add (zpv 3) zpe_int)) zpo_none))))) zpss_nil))))))))
      (zpss_cons (zps_cut (zps_if (zpt_cmpR (op_eqL hu) (zpv 1) (zpe_lst (zpac_c zpe_str zpa_nil)) (nomark _)) (zpss_one (zps_set (i := 1) scPl.nd rfl (Or.inl rfl) (zpe_lst (zpac_b (zpe_op op_mulT (zpe_ix ix_str zpe_str (zpe_call GD hr (by rfl) mD kD bD .nil passE0 (zpac_n (zpv 0) (zpac_c zpe_int zpa_nil))) (fun _ _ => rfl)) (zpe_op op_add zpe_int (zpe_call GD hr (by rfl) mD kD bD .nil passE0 (zpac_n (zpv 0) (zpac_c zpe_int zpa_nil))))) zpa_nil)))) zpss_nil))
      (zpss_cons (zps_set (i := 3) scPl.nd rfl (Or.inl rfl) (zpe_call GD hr (by rfl) mD kD bD .nil passE0 (zpac_n (zpv 0) (zpac_f (zpe_callB call_len_seq (by rfl) B.len PySem.boot_len (zpac_n (zpv 1) zpa_nil)) zpa_nil))))
      (zpss_cons (zps_set (i := 6) scPl.nd rfl (Or.inr rfl) (zpe_call GD hr (by rfl) mD kD bD .nil passE0 (zpac_n (zpv 0) (zpac_c zpe_int zpa_nil))))
      (zpss_cons (zps_set (i := 9) scPl.nd rfl (Or.inl rfl) (zpe_lst zpa_nil))
      (zpss_cons (zps_while PassesOwn.never (zpt_cmpR (op_neV hu) (zpv 1) (zpe_lst zpa_nil) (nomark _)) (zpss_one (zps_expr (zpe_bm PySem.F.plainAttrs_list PySem.F.slot_list_append PySem.F.type_list_append mt_append (zpv 9) (zpac_f (zpe_bm PySem.F.plainAttrs_list PySem.F.slot_list_pop PySem.F.type_list_pop mt_popAt (zpv 1) (zpac_b (zpe_op op_mod (zpe_op op_add (zpv 3) (zpe_op op_mul (zpv 6) (zpe_callB call_len_seq (by rfl) B.len PySem.boot_len (zpac_n (zpv 9) zpa_nil)))) (zpe_callB call_len_seq (by rfl) B.len PySem.boot_len (zpac_n (zpv 1) zpa_nil))) zpa_nil)) zpa_nil)))))
      (zpss_one (zps_ret (zpv 9)))))))))), ?_⟩
    refine ⟨by show 1 ≤ sizeLine; decide, ?_⟩
    (intro L0 g0; generalize hEq : upd _ L0 _ = H1; refine newC hEq g0 ?_; clear hEq; intro S1 e1 o1)
    have s1 := hs.same S1
    refine ⟨_, rfl, p, _, rfl, s1, by decide, by decide, fun k0 H2 k00 k01 s2 k2 => ?_⟩
    have E2 : Ext p H H2 := (Ext.same S1).trans (Ext.of_eq k2)
    have L0p : L0 ≠ p := hs.ne g0
    refine ⟨_, rfl, by omega, by omega, ?_⟩
    refine for_range (lo := 0) (n := k0.toNat) (fun i σ H' => ∃ L ts, (∃ v2 v3 v4 v5 v6 v7 v8 v9, σ = [some (.ref p), some (.ref L), v2, v3, v4, v5, v6, v7, v8, v9]) ∧ H' L = some (.lst (txs ts)) ∧ L ≠ p ∧ H L = none ∧ En ts ∧ Src H' p ∧ Ext p H H') ⟨L0, [("" : Str)], ⟨_, _, _, _, _, _, _, _, rfl⟩, by rw [k2 L0 L0p]; exact e1, L0p, g0, En.start, s2, E2⟩ ?_ ?_
    · rintro i σ H3 hi ⟨L, ts, ⟨v2, v3, v4, v5, v6, v7, v8, v9, rfl⟩, hL, Lp, Ln, en, s3, E3⟩
      have tl := txs_len ts
      have el1 := en.l1
      have el2 := en.l2
      refine ⟨_, rfl, _, rfl, L, _, rfl, .inl (SqL.of hL), p, _, rfl, s3, by omega, ?_, fun at_ H4 a0 a1 s4 k4 => ?_⟩
      · exact Nat.lt_of_le_of_lt (show ((txs ts).length : Int).natAbs ≤ 20 by omega) (by decide +kernel)
      obtain ⟨j, rfl⟩ := Int.eq_ofNat_of_zero_le a0
      have jl : j < ts.length := by omega
      refine ⟨_, rfl, p, _, rfl, s4, by decide, by decide, fun mn H5 m0 m1 s5 k5 => ⟨_, _, rfl, rfl, ?_⟩⟩
      obtain ⟨mm, rfl⟩ := Int.eq_ofNat_of_zero_le m0
      refine ⟨_, rfl, p, _, rfl, s5, by decide, by decide, fun sh H6 h0 h1 s6 k6 => ?_⟩
      obtain ⟨shn, rfl⟩ := Int.eq_ofNat_of_zero_le h0
      refine ⟨by show 4 ≤ sizeLine; decide, ?_⟩
      (intro M gM; generalize hEq : upd _ M _ = H7; refine newC hEq gM ?_; clear hEq; intro S7 eM o7)
      have s7 := s6.same S7
      refine ⟨_, rfl, p, _, rfl, s7, by decide, by decide, fun st H8 t0 t1 s8 k8 => ?_⟩
      obtain ⟨m, em, hm, m7⟩ := pick4 t0 t1
      refine ⟨M, _, _, _, rfl, rfl, SqL.of (by rw [k8 M (s6.ne gM)]; exact eM), em, ?_⟩
      have E38 : Ext p H3 H8 := ((((Ext.of_eq k4).trans (Ext.of_eq k5)).trans (Ext.of_eq k6)).trans (Ext.same S7)).trans (Ext.of_eq k8)
      have E8 := E3.trans E38
      have hL8 := E38 _ _ Lp hL
      obtain ⟨b, hb⟩ : ∃ b, ts[j]? = some b := ⟨ts[j], List.getElem?_eq_getElem jl⟩
      have b8 := en.l8 b (List.mem_of_getElem? hb)
      refine ⟨_, rfl, _, rfl, L, _, _, _, rfl, rfl, SqL.of hL8, atI_nat (txs_at hb), ?_⟩
      refine ⟨_, rfl, b, rfl, Nat.le_trans b8 (by decide), _, _, rfl, rfl, _, rfl, ite2 (fun lt8 => ?_) (fun _ => iteF ⟨L, ts, ⟨_, _, _, _, _, _, _, _, rfl⟩, hL8, Lp, Ln, en, s8, E8⟩)⟩
      refine ⟨_, rfl, L, _, rfl, .inl (SqL.of hL8), _, rfl, _, _, rfl, rfl, _, _, rfl, rfl, _, rfl, ite2 (fun lt22 => ?_) (fun _ => ⟨L, ts, ⟨_, _, _, _, _, _, _, _, rfl⟩, hL8, Lp, Ln, en, s8, E8⟩)⟩
      have lt8 : (b.length : Int) < 8 := of_decide_eq_true lt8
      have lt22 : ((txs ts).length : Int) + (1 + (mm : Int)) < 22 := of_decide_eq_true lt22
      have h26 : shn < 26 := by omega
      have mm8 : mm < 8 := by omega
      refine ⟨_, rfl, _, rfl, by omega, by omega, ?_⟩
      (intro D gD; generalize hEq : upd _ D _ = H9; refine newC hEq gD ?_; clear hEq; intro S9 eD o9)
      have nE : ((1 : Int) + (mm : Int)).toNat = 1 + mm := by omega
      rw [nE]
      refine lr_range (fun i σ H' => (∃ v, σ = [v, some (.int shn), some (.int m)]) ∧ Same H8 H' ∧ H' D = some (.lst (txs ((List.range i).map fun k => sg1 (lts shn m k))))) ⟨⟨_, rfl⟩, S9, eD⟩ ?_ ?_
      · rintro u σ H' C hu ⟨⟨v, rfl⟩, k, hD⟩ nx
        have hu : u < 1 + mm := hu
        have mod_ : ((shn : Int) + (m : Int) * ((0 : Int) + (u : Int))) % 26 = (((shn + m * u) % 26 : Nat) : Int) := by
          rw [Int.zero_add]
          show ((shn : Int) + (m : Int) * (u : Int)) % ((26 : Nat) : Int) = _
          rw [← Int.natCast_mul, ← Int.natCast_add, ← Int.natCast_emod]
        refine ⟨_, rfl, _, rfl, _, rfl, _, _, rfl, rfl, .inl ⟨by omega, by omega⟩, _, _, rfl, rfl, _, _, rfl, rfl, (by show (0 : Int) < 26; decide), letters, _, _, rfl, rfl, by decide, by rw [mod_]; exact ltr_at (Nat.mod_lt _ (by decide)), _, hD, ?_, nx _ _ ⟨⟨_, rfl⟩, fun c o e => ?_, ?_⟩⟩
        · rw [txs_len, List.length_map, List.length_range]
          exact Nat.lt_of_le_of_lt (show u ≤ 8 by omega) (by decide)
        · rw [upd_ne (ne_of_none e gD)]; exact k _ _ e
        · rw [List.range_succ, List.map_append, txs_app]; exact upd_same
      rintro σ9 H10 ⟨_, k10, hD10⟩
      have hL10 := k10 _ _ hL8
      refine ⟨_, rfl, _, rfl, _, rfl, L, _, rfl, SqL.of hL10, ?_⟩
      (intro b1 g1; generalize hEq : upd _ b1 _ = H11; refine newC hEq g1 ?_; clear hEq; intro S11 f1 p11)
      refine ⟨_, rfl, D, rfl, ⟨_, SqL.of (S11 _ _ hD10)⟩, ?_⟩
      (intro D2 gD2; generalize hEq : upd _ D2 _ = H12; refine newC hEq gD2 ?_; clear hEq; intro S12 eD2 o12)
      refine lr_list (K := K) (S := D) (xs := txs ((List.range (1 + mm)).map fun k => sg1 (lts shn m k))) (fun i σ H' => (∃ v, σ = [v, some (.str b)]) ∧ Same H11 H' ∧ H' D2 = some (.lst (txs ((List.range i).map fun k => b ++ sg1 (lts shn m k))))) ⟨⟨_, rfl⟩, S12, eD2⟩ ?_ ?_ ?_
      · rintro i σ H' ⟨_, k, _⟩
        exact SqL.of (k _ _ (S11 _ _ hD10))
      · rintro u y σ H' C hu ⟨⟨v, rfl⟩, k, hD⟩ nx
        have ul : u < 1 + mm := by
          have := (List.getElem?_eq_some_iff.mp hu).1
          rw [txs_len, List.length_map, List.length_range] at this; exact this
        have ey : y = .str (sg1 (lts shn m u)) := by
          rw [txs_at (t := sg1 (lts shn m u)) (by rw [List.getElem?_map, List.getElem?_range ul]; rfl)] at hu
          cases hu; rfl
        subst ey
        refine ⟨_, rfl, _, rfl, _, _, rfl, rfl, ?_, _, hD, ?_, nx _ _ ⟨⟨_, rfl⟩, fun c o e => ?_, ?_⟩⟩
        · exact Nat.le_trans (show b.length + 1 ≤ 9 by omega) (by decide)
        · rw [txs_len, List.length_map, List.length_range]
          exact Nat.lt_of_le_of_lt (show u ≤ 8 by omega) (by decide)
        · rw [upd_ne (ne_of_none e gD2)]; exact k _ _ e
        · rw [List.range_succ, List.map_append, txs_app]; exact upd_same
      rintro σ12 H13 ⟨_, k13, hD13⟩
      rw [txs_len, List.length_map, List.length_range] at hD13
      have bs : ((List.range (1 + mm)).map fun k => b ++ sg1 (lts shn m k)) = ((List.range (1 + mm)).map (lts shn m)).map fun c => b ++ sg1 c := by rw [List.map_map]; rfl
      rw [bs] at hD13
      have enN : En (ts.take j ++ ((List.range (1 + mm)).map (lts shn m)).map (fun c => b ++ sg1 c) ++ ts.drop (j + 1)) := by
        have e := split_at hb
        rw [e] at en
        refine en.part (lts_nd hm (by omega)) (fun c hc => ?_) (by simp) (by omega) ?_
        · obtain ⟨k, _, rfl⟩ := List.mem_map.mp hc
          exact lts_occ
        · rw [← e, List.length_map, List.length_range]; omega
      have eN2 := enN.l2
      have sz20 : (20 : Nat) ≤ sizeLine := by decide
      refine ⟨_, _, _, _, rfl, rfl, k13 _ _ f1, hD13, ?_, ?_⟩
      · rw [cut_to, txs_take, txs_len, txs_len]
        refine Nat.le_trans ?_ sz20
        rw [List.length_append, List.length_append] at eN2
        omega
      (intro b3 g3; generalize hEq : upd _ b3 _ = H14; refine newC hEq g3 ?_; clear hEq; intro S14 f3 p14)
      have hL14 := S14 _ _ (k13 _ _ (S11 _ _ hL10))
      refine ⟨_, rfl, _, rfl, _, _, rfl, rfl, _, rfl, L, _, rfl, SqL.of hL14, ?_⟩
      (intro b4 g4; generalize hEq : upd _ b4 _ = H15; refine newC hEq g4 ?_; clear hEq; intro S15 f4 p15)
      have jc : cutV (txs ts) (some ((j : Int) + 1)) none = txs (ts.drop (j + 1)) := by
        rw [← txs_drop]; exact cut_from (txs ts) (j + 1)
      rw [jc] at f4
      rw [cut_to, txs_take, ← txs_app] at f3
      refine ⟨_, _, _, _, rfl, rfl, S15 _ _ f3, f4, ?_, ?_⟩
      · rw [txs_len, txs_len, ← List.length_append]; exact Nat.le_trans eN2 sz20
      (intro b5 g5; generalize hEq : upd _ b5 _ = H16; refine newC hEq g5 ?_; clear hEq; intro S16 f5 p16)
      rw [← txs_app] at f5
      have S816 : Same H8 H16 := (((((k10.trans S11).trans k13).trans S14).trans S15).trans S16)
      have s15 := s8.same ((((k10.trans S11).trans k13).trans S14).trans S15)
      have E15 := E8.trans (Ext.same ((((k10.trans S11).trans k13).trans S14).trans S15))
      have b5n : H b5 = none := by
        cases hb5 : H b5 with
        | none => rfl
        | some o =>
          have := E15 _ _ (s15.ne g5) hb5
          rw [g5] at this; cases this
      exact ⟨b5, _, ⟨_, _, _, _, _, _, _, _, rfl⟩, f5, s15.ne g5, b5n, enN, s8.same S816, E8.trans (Ext.same S816)⟩
    · rintro σ H3 ⟨L, ts, ⟨v2, v3, v4, v5, v6, v7, v8, v9, rfl⟩, hL, Lp, Ln, en, s3, E3⟩
      refine ⟨fun σ H' => ∃ L ts, (∃ v2 v3 v4 v5 v6 v7 v8 v9, σ = [some (.ref p), some (.ref L), v2, v3, v4, v5, v6, v7, v8, v9]) ∧ H' L = some (.lst (txs ts)) ∧ L ≠ p ∧ H L = none ∧ En ts ∧ ts ≠ [("" : Str)] ∧ Src H' p ∧ Ext p H H', ?_, ?_⟩
      · refine ⟨_, rfl, by show 1 ≤ sizeLine; decide, ?_⟩
        (intro M gM; generalize hEq : upd _ M _ = H4; refine newC hEq gM ?_; clear hEq; intro S4 eM o4)
        refine ⟨L, M, txs ts, txs [("" : Str)], rfl, rfl, SqL.of (S4 _ _ hL), SqL.of eM, txs_flat _, txs_flat _, _, rfl, ?_⟩
        rw [if_neg (by decide), eqVs_txs]
        have s4 := s3.same S4
        have E4 := E3.trans (Ext.same S4)
        refine ite2 (fun _ => ?_) (fun ne => ⟨L, ts, ⟨_, _, _, _, _, _, _, _, rfl⟩, S4 _ _ hL, Lp, Ln, en, fun z => ne (decide_eq_true z), s4, E4⟩)
        refine ⟨_, rfl, p, _, rfl, s4, by decide, by decide, fun c H5 c0 c1 s5 k5 => ?_⟩
        obtain ⟨cn, rfl⟩ := Int.eq_ofNat_of_zero_le c0
        have c26 : cn < 26 := by omega
        refine ⟨letters, _, _, rfl, rfl, by decide, ltr_at c26, ?_⟩
        refine ⟨_, rfl, p, _, rfl, s5, by decide, by decide, fun n H6 n0 n1 s6 k6 => ?_⟩
        obtain ⟨nn, rfl⟩ := Int.eq_ofNat_of_zero_le n0
        refine ⟨_, _, rfl, rfl, sg1 (ltr cn), 1 + nn, rfl, rfl, ?_, by show 1 ≤ 100000; decide, by omega, by show 1 ≤ sizeLine; decide, ?_⟩
        · show 1 * (1 + nn) ≤ 100000
          omega
        (intro N gN; generalize hEq : upd _ N _ = H7; refine newC hEq gN ?_; clear hEq; intro S7 eN o7)
        have E6 := (E4.trans (Ext.of_eq k5)).trans (Ext.of_eq k6)
        have Np := s6.ne gN
        have Nn : H N = none := by
          cases hN : H N with
          | none => rfl
          | some o =>
            have := E6 _ _ Np hN
            rw [gN] at this; cases this
        obtain ⟨r1, r2⟩ := rep_ok (c := ltr cn) (n := 1 + nn) (ltr_occ ⟨cn, c26⟩) (by omega) (by omega)
        exact ⟨N, [repT (sg1 (ltr cn)) (1 + nn)], ⟨_, _, _, _, _, _, _, _, rfl⟩, eN, Np, Nn, r1, r2, s6.same S7, E6.trans (Ext.same S7)⟩
      rintro σ H4 ⟨L, ts, ⟨v2, v3, v4, v5, v6, v7, v8, v9, rfl⟩, hL, Lp, Ln, en, ne, s4, E4⟩
      have tl := txs_len ts
      have el1 := en.l1
      have el2 := en.l2
      refine ⟨_, rfl, _, rfl, L, _, rfl, .inl (SqL.of hL), p, _, rfl, s4, by omega, ?_, fun at_ H5 a0 a1 s5 k5 => ?_⟩
      · exact Nat.lt_of_le_of_lt (show ((txs ts).length : Int).natAbs ≤ 20 by omega) (by decide +kernel)
      refine ⟨_, rfl, p, _, rfl, s5, by decide, by decide, fun st H6 t0 t1 s6 k6 => ?_⟩
      refine ⟨by show 0 ≤ sizeLine; decide, ?_⟩
      (intro F gF; generalize hEq : upd _ F _ = H7; refine newC hEq gF ?_; clear hEq; intro S7 eF o7)
      have E6 := (E4.trans (Ext.of_eq k5)).trans (Ext.of_eq k6)
      have E7 := E6.trans (Ext.same S7)
      have Fp := s6.ne gF
      have Fn : H F = none := by
        cases hF : H F with
        | none => rfl
        | some o =>
          have := E6 _ _ Fp hF
          rw [gF] at this; cases this
      have hL6 : H6 L = some (.lst (txs ts)) := by rw [k6 L Lp, k5 L Lp]; exact hL
      have LF : L ≠ F := fun z => by rw [z, gF] at hL6; cases hL6
      refine ⟨fun m σ H' => ∃ es fs, m = es.length ∧ (∃ v2 v4 v5 v7 v8, σ = [some (.ref p), some (.ref L), v2, some (.int at_), v4, v5, some (.int st), v7, v8, some (.ref F)]) ∧ H' L = some (.lst (txs es)) ∧ H' F = some (.lst (txs fs)) ∧ (es ++ fs).Perm ts ∧ Src H' p ∧ Ext p H H',
        ⟨_, ts, [], rfl, ⟨_, _, _, _, _, rfl⟩, S7 _ _ hL6, eF, by rw [List.append_nil], s6.same S7, E7⟩, ?_⟩
      rintro m σ H8 ⟨es, fs, rfl, ⟨v2, v4, v5, v7, v8, rfl⟩, hL8, hF8, pm, s8, E8⟩
      have pl := pm.length_eq
      rw [List.length_append] at pl
      refine ⟨_, rfl, by show 0 ≤ sizeLine; decide, ?_⟩
      (intro M gM; generalize hEq : upd _ M _ = H9; refine newC hEq gM ?_; clear hEq; intro S9 eM o9)
      have hL9 := S9 _ _ hL8
      have hF9 := S9 _ _ hF8
      have s9 := s8.same S9
      have E9 := E8.trans (Ext.same S9)
      refine ⟨L, M, txs es, txs [], rfl, rfl, SqL.of hL9, SqL.of eM, txs_flat _, txs_flat _, _, rfl, ?_⟩
      rw [if_pos rfl, eqVs_txs]
      cases es with
      | nil =>
        refine iteF ⟨_, rfl, ?_⟩
        rw [List.nil_append] at pm
        obtain ⟨q1, q2, q3, q4⟩ := en.good ne pm.symm
        exact q F fs H9 Fn ⟨rfl, hF9, q1, q2, q3, q4⟩ Fp s9 E9
      | cons e0 es0 =>
        refine iteT ⟨fun σ H' => ∃ es fs, es.length < (e0 :: es0).length ∧ (∃ v2 v4 v5 v7 v8, σ = [some (.ref p), some (.ref L), v2, some (.int at_), v4, v5, some (.int st), v7, v8, some (.ref F)]) ∧ H' L = some (.lst (txs es)) ∧ H' F = some (.lst (txs fs)) ∧ (es ++ fs).Perm ts ∧ Src H' p ∧ Ext p H H', ?_, ?_⟩
        · rintro σ' H' ⟨es', fs', lt, r⟩
          exact ⟨_, lt, es', fs', rfl, r⟩
        have hpos : 0 < (e0 :: es0).length := by simp
        generalize e0 :: es0 = es at hL8 pm pl hL9 hpos ⊢
        have fl : fs.length ≤ 20 := by omega
        have modN : ∃ k : Nat, k < es.length ∧ (at_ + st * ((txs fs).length : Int)) % ((txs es).length : Int) = (k : Int) := by
          rw [txs_len es]
          have p0 : (0 : Int) < (es.length : Int) := by omega
          have h0 := Int.emod_nonneg (at_ + st * ((txs fs).length : Int)) (show (es.length : Int) ≠ 0 by omega)
          have h1 := Int.emod_lt_of_pos (at_ + st * ((txs fs).length : Int)) p0
          obtain ⟨k, hk⟩ := Int.eq_ofNat_of_zero_le h0
          exact ⟨k, by omega, hk⟩
        obtain ⟨k, kl, ek⟩ := modN
        have six : seqIndex? ((k : Nat) : Int) (txs es).length = some k := by
          rw [txs_len]
          exact seqIx kl
        refine ⟨_, rfl, .inl ⟨rfl, _, SqL.of hF9⟩, _, rfl, .inl ⟨rfl, _, SqL.of hL9⟩, _, rfl, _, rfl, _, rfl, F, _, rfl, .inl (SqL.of hF9), _, _, rfl, rfl, .inl ⟨by omega, by omega⟩, _, _, rfl, rfl, _, rfl, L, _, rfl, .inl (SqL.of hL9), _, _, rfl, rfl, ?_, L, _, _, k, .str es[k], rfl, rfl, hL9, ?_, ?_, by rw [ek]; exact six, txs_at (List.getElem?_eq_getElem kl), ?_⟩
        · show (0 : Int) < ((txs es).length : Int)
          rw [txs_len]; omega
        · rw [ek]; omega
        · rw [ek]; omega
        refine ⟨F, _, _, rfl, rfl, by rw [upd_ne (Ne.symm LF)]; exact hF9, ?_, es.eraseIdx k, fs ++ [es[k]], ?_, ⟨_, _, _, _, _, rfl⟩, ?_, ?_, ?_, ?_, fun c o nc e => ?_⟩
        · rw [txs_len]; exact Nat.lt_of_le_of_lt fl (by decide)
        · rw [List.length_eraseIdx, if_pos kl]; omega
        · rw [upd_ne LF, upd_same]
          rw [txs_erase]
        · rw [upd_same, txs_app]; rfl
        · refine List.Perm.trans ?_ pm
          rw [← List.append_assoc]
          have h1 := erase_perm es k kl
          have h2 : (es.eraseIdx k ++ fs ++ [es[k]]).Perm (es.eraseIdx k ++ [es[k]] ++ fs) := by
            rw [List.append_assoc, List.append_assoc]
            exact List.Perm.append_left _ List.perm_append_comm
          exact h2.trans (h1.append_right fs)
        · obtain ⟨w1, w2, w3, w4⟩ := s9.ex
          exact ⟨w1, w2, by rw [upd_ne (Ne.symm Fp), upd_ne (Ne.symm Lp)]; exact w3, w4⟩
        · rw [upd_ne (ne_of_none e Fn), upd_ne (ne_of_none e Ln)]; exact E9 _ _ nc e
end
end G1
namespace L2
open PySem PySem.Spec PyProof.Rows
end L2
namespace L2
open PySem PySem.Spec PyProof.Rows
end L2
namespace L2
open PySem PySem.Spec PyProof.Rows
end L2
namespace L2
open PySem PySem.Spec PyProof.Rows
theorem lr_enum {K : PySem.W.Frag} {S : Addr} {xs : List V} {g : TG} {tt : TT} {tb : TB} {σ : St} {H : Hp} {N : St → Hp → Prop} (Pv : Nat → St → Hp → Prop) (h0 : Pv 0 σ H) (hS : ∀ i σ H, Pv i σ H → SqL K H S xs)
    (step : ∀ (i : Nat) (x : V) (t : Addr) (σ : St) (H : Hp) (C : St → Hp → Prop), xs[i]? = some x → Pv i σ H → H t = none → (∀ σ' H', Pv (i + 1) σ' H' → C σ' H') → g (.ref t) σ (upd H t (.tup [.int i, x])) fun σ4 H4 => tt σ4 H4 fun ok H5 => if ok = true then tb σ4 H5 C else C σ4 H5)
    (fin : ∀ σ H, Pv xs.length σ H → N σ H) : LR (Ite K S) g tt tb σ H N := by
  refine ⟨fun i m σ H => m = xs.length - i ∧ i ≤ xs.length ∧ Pv i σ H, ⟨_, rfl, Nat.zero_le _, h0⟩, ?_⟩
  rintro i m σ2 H2 ⟨rfl, hi, p⟩
  have sq := hS i σ2 H2 p
  by_cases hlt : i < xs.length
  · refine .inr ⟨⟨xs, _, sq, List.getElem?_eq_getElem hlt⟩, ?_⟩
    rintro x H3 ⟨t, y, n, rfl, hy, rfl⟩
    exact step i y t σ2 H2 _ (hy _ sq) p n fun σ' H' p' => ⟨xs.length - (i + 1), by omega, rfl, hlt, p'⟩
  · have e : i = xs.length := by omega
    subst e
    exact .inl ⟨⟨xs, sq, Nat.le_refl _⟩, fin σ2 H2 p⟩
end L2
namespace L2
open PySem
end L2
namespace L2
open PySem PySem.Spec PyProof.Rows
section
variable {pr : Program} {wd : World} {Ar : Around} {Rs : Result → Shared → Prop} {J : Addr} {fo wo : List Addr} {Ge : Array GenState → Array GenState → Prop} {m : Nat} {Pv : Nat → Value → Prop} {Sa : Nat → Shared → Prop}
end
section
variable {pr : Program} {wd : World} {Ar : Around} {Ex : Value → Shared → Prop} {s : Shared}
end
section
variable {X : Cx}
end
end L2
namespace L2
open PySem PySem.Spec PyProof.Rows
end L2
namespace L2
open PySem PySem.Spec PyProof.Rows
section
variable {prog : Program} {w : World} {A : Around} {E : Value → Shared → Prop} {s : Shared} {z TI TO i1 i2 : Addr} {n1 n2 k : Nat} {P1 P2 : Nat → Value → Prop} {St1 St2 : Nat → Heap → Prop} {fp1 fp2 : List Addr} {a b : Value}
end
section
variable {prog : Program} {w : World} {A : Around} {E : Value → Shared → Prop} {s : Shared} {z TI TO i1 i2 : Addr} {n1 n2 k : Nat} {P1 P2 : Nat → Value → Prop} {St1 St2 : Nat → Heap → Prop} {fp1 fp2 : List Addr} {a b : Value}
end
section
variable {prog : Program} {w : World} {A : Around} {E : Value → Shared → Prop} {s : Shared}
end
end L2
namespace L2
open PySem PySem.Spec PyProof.Rows
section
variable {prog : Program} {w : World} {A : Around} {E : Value → Shared → Prop} {s : Shared}
end
section
variable {X : Cx} {es : List Expr} {tk : Nat} {tpos : Pos}
end
theorem kV_rel {k : Key} {u : Value} (h : keyIs k u = true) : RelV (kV k) u := by
  rcases keyIs_shape h with ⟨i, t, rfl, rfl⟩ | ⟨x, t, rfl, rfl⟩
  · exact ⟨t, rfl⟩
  · exact ⟨t, rfl⟩
theorem kv_get : ∀ {kvs : List (Key × V)} {vs : List (Key × Value)} (rel : KV kvs vs) {i : Nat} (hi : i < kvs.length), ∃ w', vs[i]? = some (kvs[i].1, w') ∧ RelV kvs[i].2 w'
  | p :: kvs, q :: vs, .cons r rs, 0, _ => ⟨q.2, by
      obtain ⟨e, _⟩ := r
      show some q = some (p.1, q.2)
      rw [e], r.2⟩
  | p :: kvs, q :: vs, .cons r rs, i + 1, hi => kv_get rs (Nat.lt_of_succ_lt_succ hi)
section
variable {X : Cx} {tg : Expr}
end
end L2
namespace L2
open PySem PySem.Spec PyProof.Rows PySem.W
section
variable {X : Cx} {o : Expr} {to : TE} {p pos apos cpos : Pos}
end
end L2
namespace L2
open PySem PySem.Spec PyProof.Rows
section
variable {X : Cx} {es : List Expr} {tk : Nat} {tpos : Pos}
end
end L2
namespace L2
open PySem PySem.Spec PyProof.Rows
theorem orStand_led (t : SetTable) (n : Nat) : (t.orStandIn n).led = t.led := by
  unfold SetTable.orStandIn
  split <;> rfl
theorem layNew_led (t : SetTable) (es : Array (Int × Value)) (h : Int) (x : Value) : (layNew t es h x).2.1.led = t.led := by
  unfold layNew
  split
  · show (SetTable.orStandIn _ _).led = _
    rw [orStand_led]; rfl
  · rfl
theorem laid_eq {mask finger moves : Nat} {led plain : Bool} {hs : Array Int} {t : SetTable} {o : Array Nat} (h : SetTable.laid mask finger moves led plain hs = some (t, o)) : t.led = led ∧ t.plain = plain := by
  unfold SetTable.laid at h
  cases e : SetTable.layClean mask hs with
  | none => rw [e] at h; cases h
  | some ow =>
    rw [e] at h
    simp only [Option.bind_eq_bind, Option.bind_some, Option.pure_def, Option.some.injEq, Prod.mk.injEq] at h
    rw [← h.1]
    exact ⟨rfl, rfl⟩
theorem relay_led (t : SetTable) (es : Array (Int × Value)) (n : Nat) : (relayAll t es n).2.1.led = t.led := by
  unfold relayAll
  split
  · rename_i t' o e
    dsimp only
    split
    · exact (laid_eq e).1
    · rfl
  · rfl
theorem relay_plain (t : SetTable) (es : Array (Int × Value)) (n : Nat) (h : t.plain = false) : (relayAll t es n).2.1.plain = false := by
  unfold relayAll
  split
  · rename_i t' o e
    dsimp only
    split
    · exact (laid_eq e).2.trans h
    · rfl
  · rfl
abbrev byT (w : World) : Bool := w.params.followText "set-order"
def SetX (P : Program) (w : World) (h : Heap) (a : Addr) (ks : List Str) : Prop := ∃ o es ep t, h.get? a = some o ∧ o.ExactSet ∧ o.data = Data.set es ep t ∧ ElemsOf (mixKind P w) es.toList ∧ (∀ k : Key, ssOf ks k = true ↔ ∃ e, e ∈ es.toList ∧ (mixKind P w).is k e.2 = true) ∧
  es.size < scanBound ∧ t.fits es.size = true ∧ es.size = ks.length ∧ t.led = !byT w ∧ (es.size = 0 ∨ t.plain = false)
theorem SetX.of {P : Program} {w : World} {h : Heap} {a : Addr} {ks : List Str} (x : SetX P w h a ks) : h.SetOf (mixKind P w) a (ssOf ks) ks.length := by
  obtain ⟨o, es, ep, t, h1, h2, h3, h4, h5, h6, h7, h8, _⟩ := x
  exact ⟨o, es, ep, t, h1, h2, h3, h4, h5, h6, h7, h8⟩
section
variable {P : Program} {w : World} {A : Around} {E : Value → Shared → Prop} {s : Shared} {a : Addr} {ks : List Str}
theorem storeX {o : Obj} {es : Array (Int × Value)} {ep : Nat} {t : SetTable} (h1 : s.heap.get? a = some o) (h2 : o.ExactSet) (h3 : o.data = Data.set es ep t) {es' : Array (Int × Value)} {t' : SetTable} {ks' : List Str} (e1 : ElemsOf (mixKind P w) es'.toList)
    (e2 : ∀ k : Key, ssOf ks' k = true ↔ ∃ e, e ∈ es'.toList ∧ (mixKind P w).is k e.2 = true) (e3 : es'.size < scanBound) (e4 : t'.fits es'.size = true) (e5 : es'.size = ks'.length) (e6 : t'.led = !byT w) (e7 : t'.plain = false) {Q : Unit → Shared → Prop}
    (q : ∀ h', Heap.SameBut a s.heap h' → (∃ o', h'.get? a = some o' ∧ o'.ExactSet ∧ o'.data = Data.set es' (ep + 1) t') → SetX P w h' a ks' → Q () { s with heap := h' }) : wpAny (model P w) A (storeSet a es' t') Q E s := by
  have sb : Heap.SameBut a s.heap (s.heap.update a (Obj.putSet es' t')) := Heap.SameBut.update _ _ _
  obtain ⟨g1, _⟩ := SetOf_store h1 h2 h3 e1 e2 e3 e4
  refine wpAny_storeSet_of h1 h3 (q _ sb ⟨_, g1, h2, rfl⟩ ⟨_, es', ep + 1, t', g1, h2, rfl, e1, e2, e3, e4, e5, e6, .inr e7⟩) (fits_of_scanBound e3)
theorem tailX {g : Bool → Sem Unit} (hg : ∀ (b : Bool) (s₁ : Shared) (Q' : Unit → Shared → Prop), Q' () s₁ → wpAny (model P w) A (g b) Q' E s₁) {o : Obj} {es : Array (Int × Value)} {ep : Nat} {t : SetTable} (h1 : s.heap.get? a = some o) (h2 : o.ExactSet) (h3 : o.data = Data.set es ep t)
    {es1 : Array (Int × Value)} {t2 : SetTable} {ks' : List Str} (e1 : ElemsOf (mixKind P w) es1.toList) (e2 : ∀ k : Key, ssOf ks' k = true ↔ ∃ e, e ∈ es1.toList ∧ (mixKind P w).is k e.2 = true) (e3 : es1.size < scanBound) (e4 : t2.fits es1.size = true) (e5 : es1.size = ks'.length) (e6 : t2.led = !byT w) (e7 : t2.plain = false)
    {wd : Bool} {R : Option Bool → Shared → Prop} (q : ∀ h', Heap.SameBut a s.heap h' → SetX P w h' a ks' → R (some true) { s with heap := h' }) :
    wpAny (model P w) A (do
      storeSet a es1 t2
      if (!wd && t2.tooFull) = true then do
          g (relayAll t2 es1 (SetTable.grown es1.size)).snd.snd
          storeSet a (relayAll t2 es1 (SetTable.grown es1.size)).fst (relayAll t2 es1 (SetTable.grown es1.size)).snd.fst
          pure (some true)
        else pure (some true)) R E s := by
  refine wpAny_bind (storeX h1 h2 h3 e1 e2 e3 e4 e5 e6 e7 fun h' sb ⟨o', g1, g2, g3⟩ x => ?_)
  by_cases c : (!wd && t2.tooFull) = true
  · rw [if_pos c]
    have pm := relayAll_perm t2 es1 (SetTable.grown es1.size)
    have pl := pm.length_eq
    rw [Array.length_toList, Array.length_toList] at pl
    refine wpAny_bind (hg _ _ _ (wpAny_bind (storeX (s := { s with heap := h' }) (ks' := ks') g1 g2 g3 (e1.perm pm) (fun k => ?_) (by omega) (relayAll_fits _ _ _) (by omega) ((relay_led _ _ _).trans e6) (relay_plain _ _ _ e7) fun h'' sb' _ x' => wpAny_pure (q h'' (sb.trans sb') x'))))
    rw [e2 k]
    constructor
    · rintro ⟨e, he, r⟩
      exact ⟨e, pm.mem_iff.mpr he, r⟩
    · rintro ⟨e, he, r⟩
      exact ⟨e, pm.mem_iff.mp he, r⟩
  · rw [if_neg c]
    exact wpAny_pure (q h' sb x)
theorem meets_addX (x : Str) (tk : Tok) : MeetsIn P w (Builtin.«set.add» { pos := [.ref a, .str x tk] }) (fun _ R s => SetX P w s.heap a ks ∧ ks.length + 1 < scanBound ∧ ∀ h', Heap.SameBut a s.heap h' → SetX P w h' a (insT x ks) → R (.ok (.ret .none)) { s with heap := h', toks := s.toks + 1 }) := by
  rintro A R s ⟨⟨o, es, ep, t, h1, h2, h3, h4, h5, h6, h7, h8, h9, hp⟩, hz, q⟩
  show wpAny (model P w) A.in1 (do let _ ← setAdd a (.str x tk); ret Value.none) _ _ s
  refine wpAny_bind ?_
  unfold setAdd
  refine wpAny_holding (wpAny_bind (wpAny_pyHash_str ?_))
  unfold setAddHashed
  refine wpAny_holding ?_
  rw [setAddHashedIn.eq_def]
  refine wpAny_bind (wpAny_setState_of h1 h3 h7 ?_)
  have bs : byScan (Value.str x tk) es = true := byScan_of (knd := mixKind P w) rfl h6 h4
  dsimp only
  rw [if_pos bs]
  unfold setAddByScan
  have ik : (mixKind P w).is (Sum.inr x : Key) (.str x tk) = true := mixKind_str _ _ x tk
  refine wpAny_bind (wpAny_bind (wpAny_rule (wpAny_bind (wpAny_setScan_of ik h1 h3 h7 h4 ?_))))
  have fin_ : ∀ h', Heap.SameBut a s.heap h' → SetX P w h' a (insT x ks) → wpAny (model P w) A.in1 (ret Value.none)
      (fun fin s' => match fin with
        | Fin.done f => R (Except.ok f) s'
        | Fin.again c' => c'.quiet = true ∧ codeAny (model P w) A c' R s')
      (fun e s' => R (Except.error e) s') { s with heap := h', toks := s.toks + 1 } := fun h' sb x' => wpAny_pure (q h' sb x')
  cases hf : List.findIdx? (fun e => (mixKind P w).is (Sum.inr x : Key) e.snd) es.toList with
  | some j =>
    refine wpAny_pure (wpAny_pure ?_)
    have hx : x ∈ ks := by
      obtain ⟨hj, hk, _⟩ := List.findIdx?_eq_some_iff_getElem.mp hf
      have := (h5 (Sum.inr x)).mpr ⟨_, List.getElem_mem hj, hk⟩
      simpa [ssOf] using this
    refine fin_ s.heap (Heap.SameBut.refl _ _) ?_
    rw [show insT x ks = ks from if_pos hx]
    exact ⟨o, es, ep, t, h1, h2, h3, h4, h5, h6, h7, h8, h9, hp⟩
  | none =>
    have hx : x ∉ ks := fun m => by
      obtain ⟨e, he, hk⟩ := (h5 (Sum.inr x)).mp (by simpa [ssOf] using m)
      rw [List.findIdx?_eq_none_iff.mp hf e he] at hk; cases hk
    have f1 := layNew_fits t es (hashStr w x) (Value.str x tk)
    have f2 := layNew_perm t es (hashStr w x) (Value.str x tk)
    have f3 := layNew_led t es (hashStr w x) (Value.str x tk)
    dsimp only
    generalize layNew t es (hashStr w x) (Value.str x tk) = ln at f1 f2 f3
    obtain ⟨es1, t1, wd, gv⟩ := ln
    dsimp only at f1 f2 f3 ⊢
    refine wpAny_bind ?_
    have g : wpAny (model P w) A.in1 (hashByValue 8 (Value.str x tk)) (fun b s' => b = false ∧ s' = { s with toks := s.toks + 1 }) (fun e s' => R (Except.error e) s') { s with toks := s.toks + 1 } :=
      wpAny_of_eq (hashByValue_scannable 8 (x := Value.str x tk) rfl) ⟨rfl, rfl⟩
    have pm : es1.toList.Perm (es.toList ++ [((mixKind P w).hash (Sum.inr x), Value.str x tk)]) := by
      have : (es.push (hashStr w x, Value.str x tk)).toList = es.toList ++ [(hashStr w x, Value.str x tk)] := Array.toList_push ..
      rw [this] at f2
      exact f2
    have e1 : ElemsOf (mixKind P w) es1.toList := (h4.push ik rfl).perm pm
    have e2 : ∀ k : Key, ssOf (insT x ks) k = true ↔ ∃ e, e ∈ es1.toList ∧ (mixKind P w).is k e.2 = true := fun k => by
      rw [← ins_eq]
      exact mem_push_iff ik h5 pm k
    have sz : es1.size = (insT x ks).length := by
      have := pm.length_eq
      rw [List.length_append, Array.length_toList, Array.length_toList] at this
      unfold insT
      rw [if_neg hx, List.length_append, this, h8]; rfl
    have e3 : es1.size < scanBound := by
      have : (insT x ks).length ≤ ks.length + 1 := by unfold insT; rw [if_neg hx, List.length_append]; exact Nat.le_refl _
      omega
    have gw : ∀ (s₁ : Shared) (Q' : Unit → Shared → Prop), Q' () s₁ → ∀ tag : String, wpAny (model P w) A.in1 (rule tag) Q' (fun e s' => R (Except.error e) s') s₁ := fun s₁ Q' h tag => wpAny_rule h
    have step : ∀ {t2 : SetTable}, t2.fits es1.size = true → t2.led = !byT w → t2.plain = false → ∀ (R2 : Option Bool → Shared → Prop), (∀ h', Heap.SameBut a s.heap h' → SetX P w h' a (insT x ks) → R2 (some true) { s with heap := h', toks := s.toks + 1 }) → ∀ {g : Bool → Sem Unit}, (∀ (b : Bool) (s₁ : Shared) (Q' : Unit → Shared → Prop), Q' () s₁ → wpAny (model P w) A.in1 (g b) Q' (fun e s' => R (Except.error e) s') s₁) →
        wpAny (model P w) A.in1 (do
      storeSet a es1 t2
      if (!wd && t2.tooFull) = true then do
          g (relayAll t2 es1 (SetTable.grown es1.size)).snd.snd
          storeSet a (relayAll t2 es1 (SetTable.grown es1.size)).fst (relayAll t2 es1 (SetTable.grown es1.size)).snd.fst
          pure (some true)
        else pure (some true)) R2 (fun e s' => R (Except.error e) s') { s with toks := s.toks + 1 } := fun {t2} a1 a2 a3 R2 q2 {g} hg =>
      tailX (s := { s with toks := s.toks + 1 }) hg h1 h2 h3 e1 e2 e3 a1 sz a2 a3 q2
    have last : ∀ h', Heap.SameBut a s.heap h' → SetX P w h' a (insT x ks) → wpAny (model P w) A.in1 (match some true with
          | some added => pure added
          | none => setAddHashedIn a (Value.str x tk) (hashStr w x) 99999) (fun a s' => wpAny (model P w) A.in1 (ret Value.none)
          (fun fin s' => match fin with
            | Fin.done f => R (Except.ok f) s'
            | Fin.again c' => c'.quiet = true ∧ codeAny (model P w) A c' R s')
          (fun e s' => R (Except.error e) s') s') (fun e s' => R (Except.error e) s') { s with heap := h', toks := s.toks + 1 } := fun h' sb x' => wpAny_pure (fin_ h' sb x')
    cases gv with
    | true =>
      refine gw _ _ ?_ _
      cases hp1 : t1.plain with
      | true =>
        rw [if_pos rfl]
        refine wpAny_bind (wpAny_mono g (fun b s' hb => ?_) fun e s' h => h)
        obtain ⟨rfl, rfl⟩ := hb
        simp only [Bool.false_eq_true, if_false]
        exact step (SetTable.fits_plain_off f1) (f3.trans h9) rfl _ last fun b s₁ Q' h => match b with | false => wpAny_pure h | true => gw _ _ h _
      | false =>
        rw [if_neg nofun]
        refine wpAny_bind (wpAny_pure ?_)
        simp only [if_true]
        exact step f1 (f3.trans h9) hp1 _ last fun b s₁ Q' h => match b with | false => wpAny_pure h | true => gw _ _ h _
    | false =>
      refine wpAny_pure ?_
      cases hp1 : t1.plain with
      | true =>
        rw [if_pos rfl]
        refine wpAny_bind (wpAny_mono g (fun b s' hb => ?_) fun e s' h => h)
        obtain ⟨rfl, rfl⟩ := hb
        simp only [Bool.false_eq_true, if_false]
        exact step (SetTable.fits_plain_off f1) (f3.trans h9) rfl _ last fun b s₁ Q' h => match b with | false => wpAny_pure h | true => gw _ _ h _
      | false =>
        rw [if_neg nofun]
        refine wpAny_bind (wpAny_pure ?_)
        simp only [if_true]
        exact step f1 (f3.trans h9) hp1 _ last fun b s₁ Q' h => match b with | false => wpAny_pure h | true => gw _ _ h _
end
end L2
namespace L2
open PySem PySem.Spec PyProof.Rows
section
variable {X : Cx}
end
end L2
namespace L2
open PySem PySem.Spec PyProof.Rows
section
variable {X : Cx}
theorem mt_index : MtR X "list.index" (fun x vs H Q => ∃ (l : Addr) (xs : List V) (y : V) (j : Nat), x = .ref l ∧ vs = [y] ∧ SqL X.K H l xs ∧ xs.all flatV = true ∧ flatV y = true ∧ (∃ z, xs[j]? = some z ∧ eqV z y = true) ∧ (∀ (m : Nat) (z : V), m < j → xs[m]? = some z → eqV z y = false) ∧ Q (.int j) H) := by
  intro pins s σ H x xs v us Q I rx rv h
  obtain ⟨l, xs, y, j, rfl, rfl, hq, fx, fy, ⟨z, hz, ez⟩, no, q⟩ := h
  cases rx
  obtain ⟨u, rfl, ru⟩ := vals1 rv
  obtain ⟨its, r, p, hsz⟩ := I.list hq
  obtain ⟨⟨cls, dd, data, sl⟩, ho, hc, n, hd⟩ := id p.isList
  simp only at hc hd
  subst hc hd
  have jl : j < xs.length := (List.getElem?_eq_some_iff.mp hz).1
  have il : its.length = xs.length := r.length.symm
  obtain ⟨u1, hu1, ru1⟩ := r.get hz
  have hj : j < its.toArray.size := by rw [List.size_toArray]; omega
  refine call_meets PySem.F.slot_list_index ⟨_, ho, rfl⟩ PySem.F.entry_list_index (PySem.F.args_list_index_2 _ _)
    (SeqAt.list_indexAt l its.toArray n dd sl u (eqU y) j hj ?_ ?_ ?_) ⟨ho, fun w hw => mem_eqAt ru fy r fx w (by simpa using hw), ?_⟩
  · have : xs.length ≤ sizeLine := hsz
    have : sizeLine < 2 ^ 63 - 1 := by decide
    omega
  · show eqU y its[j] = true
    have e : its[j]'(by omega) = u1 := by
      have := List.getElem?_eq_getElem (l := its) (i := j) (by omega)
      rw [hu1] at this
      exact (Option.some.inj this).symm
    rw [e, eqU_of ru1 ((List.all_eq_true.mp fx) z (List.mem_of_getElem? hz))]
    exact ez
  · intro m hm hlt
    have ml : m < xs.length := by rw [List.size_toArray] at hm; omega
    have hx : xs[m]? = some xs[m] := List.getElem?_eq_getElem ml
    obtain ⟨u2, hu2, ru2⟩ := r.get hx
    have e : its[m]'(by omega) = u2 := by
      have := List.getElem?_eq_getElem (l := its) (i := m) (by omega)
      rw [hu2] at this
      exact (Option.some.inj this).symm
    show eqU y its[m] = false
    rw [e, eqU_of ru2 ((List.all_eq_true.mp fx) _ (List.mem_of_getElem? hx))]
    exact no m _ hlt hx
  · exact ⟨.int j, H, I.tok _, ⟨_, rfl⟩, q⟩
end
end L2
namespace L2
open PySem PySem.Spec PyProof.Rows
theorem hint_set {prog : Program} {w : World} {A : Around} {E : Value → Shared → Prop} {s : Shared} {r : Addr} {Q : Bool → Shared → Prop} (hT : s.TypeIs (Value.ref r) "set") (h : Q false s) : wpAny (model prog w) A (Builtin.List.listLengthHint (Value.ref r)) Q E s := by
  unfold Builtin.List.listLengthHint
  refine wpAny_bind (wpAny_specialOf hT F.slot_set_len.lookup ?_)
  dsimp only
  have hs : splitId "set.__len__" = some ("set", "__len__") := by decide +kernel
  rw [hs]
  dsimp only
  refine wpAny_bind (wpAny_isInstance hT (U := "set") (b := true) (by rw [isSubtype_type]; rfl) ?_)
  refine wpAny_ite_split (fun h => absurd h (by decide)) fun _ => wpAny_ite_split (fun _ => wpAny_bind (wpAny_typeOf hT (wpAny_pure h))) fun hab => absurd (of_decide_eq_true (by decide +kernel)) hab
theorem wpAny_chooseI {M : Model} {A : Around} {E : Value → Shared → Prop} {s : Shared} {src : Source} {n : Nat} {Q : Nat → Shared → Prop} (h0 : n ≠ 0) (h : ∀ i, i < n → Q i { s with drawn := s.drawn.bump src }) : wpAny M A (choose src n) Q E s := by
  intro Γ p hΓ
  unfold choose
  rw [Sem.wp_choose]
  refine ⟨h0, ?_⟩
  exact h _ (Nat.mod_lt _ (Nat.pos_of_ne_zero h0))
theorem erase_perm {α : Type} : ∀ {l : List α} {i : Nat} (h : i < l.length), (l[i] :: l.eraseIdx i).Perm l
  | x :: l, 0, h => .refl _
  | x :: l, i + 1, h => by
    have hi : i < l.length := Nat.lt_of_succ_lt_succ h
    have ih := erase_perm (l := l) hi
    rw [List.eraseIdx_cons_succ]
    show (l[i] :: x :: l.eraseIdx i).Perm (x :: l)
    exact (List.Perm.swap _ _ _).trans (ih.cons _)
theorem wpAny_drawOrderI {M : Model} {A : Around} {E : Value → Shared → Prop} {α : Type} : ∀ (n : Nat) (xs : List α) (s : Shared) (Q : List α → Shared → Prop), xs.length = n → (∀ ys d, ys.Perm xs → Q ys { s with drawn := d }) → wpAny M A (drawOrder n xs) Q E s
  | 0, xs, s, Q, hl, h => by
    have : xs = [] := List.length_eq_zero_iff.mp hl
    subst this
    unfold drawOrder
    exact wpAny_pure (h [] s.drawn (.refl _))
  | n + 1, [], s, Q, hl, h => by cases hl
  | n + 1, x :: xs, s, Q, hl, h => by
    unfold drawOrder
    refine wpAny_bind (wpAny_chooseI (Nat.succ_ne_zero _) fun i hi => ?_)
    have e : (x :: xs)[i]? = some (x :: xs)[i] := List.getElem?_eq_getElem hi
    rw [e]
    refine wpAny_bind (wpAny_drawOrderI n _ _ _ (by rw [List.length_eraseIdx_of_lt hi]; omega) fun ys d pm => ?_)
    exact wpAny_pure (h _ d ((pm.cons _).trans (erase_perm hi)))
theorem entry_set_iter : entryFor table "set.__iter__" = some Builtin.«frozenset.__iter__» := entryFor_alias (id' := "frozenset.__iter__") (by rw [fastTable_eq_tree]; rfl) (by decide +kernel) (by decide +kernel) (by rw [fastTable_eq_tree]; rfl)
theorem entry_si_next : entryFor table "set_iterator.__next__" = some Builtin.«set_iterator.__next__» := entryFor_of_tree (by kernel_rfl)
theorem slot_si_next : Slot "set_iterator" "__next__" "set_iterator.__next__" :=
  Slot.of (owner := "set_iterator") (n := "__next__") (by rw [typeLookup_type, builtinLookup_eq_fast]; rfl) (by decide +kernel) (by decide +kernel) (by decide +kernel) (Or.inl (by decide +kernel)) (by rw [isSubtype_type]; rfl) (by decide +kernel)
theorem args_si_next (a : Value) : argsOk "set_iterator.__next__" { pos := [a] } := by show _ = _; rfl
def SIter (h : Heap) (I : Addr) (f : Value) (i : Nat) (a : Addr) (n ep : Nat) : Prop := ∃ o, h.get? I = some o ∧ o.cls = .type "set_iterator" ∧ o.isFreed = false ∧ o.data = .fields #[f, rawInt i, .ref a, rawInt n, rawInt ep]
section
variable {P : Program} {w : World} {A : Around} {E : Value → Shared → Prop} {s : Shared} {I a : Addr} {f : Value} {i n ep : Nat}
theorem SIter.typeIs (h : SIter s.heap I f i a n ep) : s.TypeIs (.ref I) "set_iterator" := by
  obtain ⟨o, h1, h2, _⟩ := h
  exact ⟨o, h1, h2⟩
theorem si_next {Q : Option Value → Shared → Prop} (hI : SIter s.heap I f i a n ep)
    (h : wpAny (model P w) A.in1 (Builtin.«set_iterator.__next__» { pos := [.ref I] }) (fun fin s' => ∃ v, fin = Fin.done (Flow.ret v) ∧ Q (some v) s')
      (fun e s' => wpAny (model P w) A (do
        let b ← PySem.isInstance e (Value.type "StopIteration")
        if b = true then pure none else throw e) Q E s') s) : wpAny (model P w) A (pyNext (.ref I)) Q E s := by
  unfold pyNext
  refine wpAny_bind (wpAny_attempt (wpAny_callSpecial?_slot hI.typeIs slot_si_next (wpAny_call_entry slot_si_next hI.typeIs entry_si_next ?_ (args_si_next _))))
  refine wpAny_mono h (fun fin s' ⟨v, e, q⟩ => ⟨v, e, wpAny_pure q⟩) fun e s' q => q
theorem put_field {h : Heap} {o : Obj} {vs : Array Value} {k : Nat} {x : Value} (h1 : h.get? I = some o) (fr : o.isFreed = false) (hd : o.data = .fields vs) : ∃ o', (h.update I (Obj.mapFields (·.setIfInBounds k x))).get? I = some o' ∧ o'.cls = o.cls ∧ o'.isFreed = false ∧ o'.data = .fields (vs.setIfInBounds k x) := by
  obtain ⟨c, d, dt, sl⟩ := o
  subst hd
  exact ⟨_, Heap.get?_update_self _ h1 rfl, rfl, rfl, rfl⟩
theorem wpAny_seqItems {M : Model} {T : Addr} {ps : Array Value} {Q : Option (Array Value) → Shared → Prop} (hT : s.heap.IsTuple T ps) (q : Q (some ps) s) : wpAny M A (seqItems? (.ref T)) Q E s := by
  obtain ⟨ot, t1, t2, nt, t3⟩ := hT
  unfold seqItems?
  refine wpAny_bind (wpAny_load' t1 ?_)
  rw [t3]
  exact wpAny_pure q
theorem wpAny_setNextDrawn {o : Obj} {es : Array (Int × Value)} {t : SetTable} {j : Nat} {hh : Int} {x : Value} {Q : Value → Shared → Prop} (ha : s.heap.get? a = some o) (hd : o.data = .set es ep t) (ft : t.fits es.size = true) (hx : es[j]? = some (hh, x)) (q : Q x s) : wpAny (model P w) A (setNextDrawn a j ep) Q E s := by
  unfold setNextDrawn
  refine wpAny_bind (wpAny_setState_of ha hd ft ?_)
  dsimp only
  rw [if_neg (by simp), hx]
  exact wpAny_pure q
theorem nextD_item {T : Addr} {ps : Array Value} {o : Obj} {es : Array (Int × Value)} {t : SetTable} {j : Nat} {hh : Int} {x : Value} {Q : Option Value → Shared → Prop} (hI : SIter s.heap I (.ref T) i a n ep) (hT : s.heap.IsTuple T ps) (ha : s.heap.get? a = some o) (hd : o.data = .set es ep t) (ft : t.fits es.size = true)
    (sz : es.size = n) (hp : ps[i]? = some (rawInt j)) (hx : es[j]? = some (hh, x)) (q : ∀ h', Heap.SameBut I s.heap h' → SIter h' I (.ref T) (i + 1) a n ep → Q (some x) { s with heap := h' }) : wpAny (model P w) A (pyNext (.ref I)) Q E s := by
  refine si_next hI ?_
  obtain ⟨oi, i1, i2, i3, i4⟩ := hI
  unfold Builtin.«set_iterator.__next__»
  refine wpAny_bind (wpAny_of_eq (a := (Value.ref I, [])) rfl ?_)
  refine wpAny_bind (wpAny_fieldsOf i1 i4 ?_)
  dsimp only [rawInt]
  refine wpAny_bind (wpAny_setEntries_of ha hd ft ?_)
  rw [if_neg (by rw [sz]; simp)]
  refine wpAny_bind (wpAny_seqItems hT ?_)
  dsimp only
  rw [Int.toNat_natCast, hp]
  dsimp only [rawInt]
  rw [Int.toNat_natCast, Int.toNat_natCast]
  refine wpAny_bind (wpAny_setNextDrawn ha hd ft hx ?_)
  refine wpAny_bind (wpAny_setField i1 i4 (by show 1 < 5; decide) ?_)
  obtain ⟨o', p1, p2, p3, p4⟩ := put_field (k := 1) (x := Value.int ((i : Int) + 1) 0) i1 i3 i4
  exact wpAny_pure ⟨x, rfl, q _ (Heap.SameBut.update _ _ _) ⟨o', p1, p2.trans i2, p3, p4⟩⟩
theorem stop_out {Q : Option Value → Shared → Prop} (hh : A.handled = none) (q : ∀ h', (∀ b u, s.heap.get? b = some u → h'.get? b = some u) → Q none { s with heap := h' }) :
    wpAny (model P w) A.in1 (do
      let e ← newExc (Value.type "StopIteration") []
      raiseNew e) (fun fin s' => ∃ v, fin = Fin.done (Flow.ret v) ∧ Q (some v) s')
      (fun e s' => wpAny (model P w) A (do
        let b ← PySem.isInstance e (Value.type "StopIteration")
        if b = true then pure none else throw e) Q E s') s := by
  unfold newExc
  refine wpAny_bind (wpAny_bind (wpAny_newTuple ?_ (by decide)))
  refine wpAny_bind (wpAny_of_eq (a := Value.none) rfl ?_)
  refine wpAny_newObj_type ?_ ?_
  · refine wpAny_raiseNew_none hh ?_
    refine wpAny_bind (wpAny_isInstance (T := "StopIteration") ⟨_, Heap.get?_push_size _ rfl, rfl⟩ isSubtype_stop ?_)
    rw [if_pos rfl]
    exact wpAny_pure (q _ fun b u e => Heap.get?_push_of_some _ (Heap.get?_push_of_some _ e))
  · exact sizeOk_excFields _ _ _ _ _ _ _ _
theorem nextD_end {T : Addr} {ps : Array Value} {o : Obj} {es : Array (Int × Value)} {t : SetTable} {Q : Option Value → Shared → Prop} (hh : A.handled = none) (hI : SIter s.heap I (.ref T) i a n ep) (hT : s.heap.IsTuple T ps) (ha : s.heap.get? a = some o) (hd : o.data = .set es ep t) (ft : t.fits es.size = true)
    (sz : es.size = n) (hp : ps[i]? = none) (q : ∀ h', Heap.ExtBut I s.heap h' → Q none { s with heap := h' }) : wpAny (model P w) A (pyNext (.ref I)) Q E s := by
  refine si_next hI ?_
  obtain ⟨oi, i1, i2, i3, i4⟩ := hI
  unfold Builtin.«set_iterator.__next__»
  refine wpAny_bind (wpAny_of_eq (a := (Value.ref I, [])) rfl ?_)
  refine wpAny_bind (wpAny_fieldsOf i1 i4 ?_)
  dsimp only [rawInt]
  refine wpAny_bind (wpAny_setEntries_of ha hd ft ?_)
  rw [if_neg (by rw [sz]; simp)]
  refine wpAny_bind (wpAny_seqItems hT ?_)
  dsimp only
  rw [Int.toNat_natCast, hp]
  dsimp only
  refine wpAny_bind (wpAny_setField i1 i4 (by show 0 < 5; decide) ?_)
  obtain ⟨o1, p1, p2, p3, p4⟩ := put_field (k := 0) (x := Value.int 0 0) i1 i3 i4
  refine wpAny_bind (wpAny_setField p1 p4 (by show 2 < 5; decide) ?_)
  refine stop_out hh fun h' k => q h' fun b u nb e => k b u ?_
  rw [Heap.get?_update_ne _ _ _ _ nb, Heap.get?_update_ne _ _ _ _ nb]
  exact e
theorem wpAny_byText {Q : Bool → Shared → Prop} (q : Q (byT w) s) : wpAny (model P w) A setsByText Q E s := by
  unfold setsByText
  exact wpAny_bind (wpAny_askSetting (wpAny_pure q))
theorem setNext_text {o : Obj} {es : Array (Int × Value)} {t : SetTable} {slot : Nat} {Q : Option (Value × Nat) → Shared → Prop} (bt : byT w = true) (ha : s.heap.get? a = some o) (hd : o.data = .set es ep t) (ft : t.fits es.size = true)
    (q : Q ((pickOrder (w.params.setOrder a ep) es)[i]?.map fun e => (e.2, slot)) s) : wpAny (model P w) A (setNext a slot i ep) Q E s := by
  unfold setNext
  refine wpAny_bind (wpAny_setState_of ha hd ft ?_)
  dsimp only
  refine wpAny_bind (wpAny_byText ?_)
  rw [if_pos bt, if_neg (by simp)]
  refine wpAny_bind ?_
  unfold setWalk
  refine wpAny_bind (wpAny_setState_of ha hd ft ?_)
  dsimp only
  refine wpAny_bind (wpAny_byText ?_)
  rw [if_pos bt]
  exact wpAny_bind (wpAny_askSetting (wpAny_pure (wpAny_pure q)))
theorem setNext_few {o : Obj} {es : Array (Int × Value)} {t : SetTable} {slot : Nat} {Q : Option (Value × Nat) → Shared → Prop} (bt : byT w = false) (ha : s.heap.get? a = some o) (hd : o.data = .set es ep t) (ft : t.fits es.size = true) (few : es.size ≤ 1) (led : t.led = true)
    (q : Q (match es[SetTable.below t.place slot]?, t.place[SetTable.below t.place slot]? with
      | some (_, x), some j => some (x, j + 1)
      | _, _ => none) s) : wpAny (model P w) A (setNext a slot i ep) Q E s := by
  unfold setNext
  refine wpAny_bind (wpAny_setState_of ha hd ft ?_)
  dsimp only
  refine wpAny_bind (wpAny_byText ?_)
  rw [if_neg (by rw [bt]; nofun)]
  have dn : (!t.plain && decide (es.size > 1)) = false := by
    rw [decide_eq_false (by omega), Bool.and_false]
  refine wpAny_ite_split (fun h => ?_) fun _ => ?_
  · exfalso
    have h : (!t.plain && decide (es.size > 1)) = true := h
    rw [dn] at h; cases h
  refine wpAny_bind ?_
  show wpAny (model P w) A (if (!t.led && !es.isEmpty) = true then PySem.unsupported "set:maker-not-led" else pure ()) _ _ _
  rw [if_neg (by rw [led]; simp)]
  exact wpAny_pure (wpAny_pure q)
theorem below_one {p : Nat} : SetTable.below #[p] 0 = 0 ∧ SetTable.below #[p] (p + 1) = 1 := by
  constructor <;> · unfold SetTable.below; first | rfl | (simp [SetTable.below.go]; done)
theorem pick_go {α : Type} {next : Nat → Nat} : ∀ (n k : Nat) (left : List α) (out : Array α), left.length = n → (pickOrder.go next n k left out).toList.Perm (out.toList ++ left)
  | 0, k, left, out, h => by
    have : left = [] := List.length_eq_zero_iff.mp h
    subst this
    unfold pickOrder.go
    rw [List.append_nil]
  | n + 1, k, left, out, h => by
    unfold pickOrder.go
    have hi : next k % left.length < left.length := Nat.mod_lt _ (by omega)
    rw [List.getElem?_eq_getElem hi]
    refine (pick_go n (k + 1) _ _ (by rw [List.length_eraseIdx_of_lt hi]; omega)).trans ?_
    rw [Array.toList_push, List.append_assoc]
    exact (erase_perm hi).append_left _
theorem pick_perm {α : Type} (next : Nat → Nat) (xs : Array α) : (pickOrder next xs).toList.Perm xs.toList := by
  unfold pickOrder
  have := pick_go (next := next) xs.size 0 xs.toList #[] (Array.length_toList ..)
  simpa using this
theorem nextN_item {o : Obj} {es : Array (Int × Value)} {t : SetTable} {slot nx : Nat} {x : Value} {Q : Option Value → Shared → Prop} (hI : SIter s.heap I (rawInt slot) i a n ep) (ha : s.heap.get? a = some o) (hd : o.data = .set es ep t) (ft : t.fits es.size = true)
    (sz : es.size = n) (hn : ∀ (s : Shared) (E : Value → Shared → Prop) (Q : Option (Value × Nat) → Shared → Prop), s.heap.get? a = some o → Q (some (x, nx)) s → wpAny (model P w) A.in1 (setNext a slot i ep) Q E s) (q : ∀ h', Heap.SameBut I s.heap h' → SIter h' I (rawInt nx) (i + 1) a n ep → Q (some x) { s with heap := h' }) : wpAny (model P w) A (pyNext (.ref I)) Q E s := by
  refine si_next hI ?_
  obtain ⟨oi, i1, i2, i3, i4⟩ := hI
  unfold Builtin.«set_iterator.__next__»
  refine wpAny_bind (wpAny_of_eq (a := (Value.ref I, [])) rfl ?_)
  refine wpAny_bind (wpAny_fieldsOf i1 i4 ?_)
  dsimp only [rawInt]
  refine wpAny_bind (wpAny_setEntries_of ha hd ft ?_)
  rw [if_neg (by rw [sz]; simp)]
  rw [Int.toNat_natCast, Int.toNat_natCast, Int.toNat_natCast]
  refine wpAny_bind (hn _ _ _ ha ?_)
  dsimp only
  refine wpAny_bind (wpAny_setField i1 i4 (by show 0 < 5; decide) ?_)
  obtain ⟨o1, p1, p2, p3, p4⟩ := put_field (k := 0) (x := rawInt nx) i1 i3 i4
  refine wpAny_bind (wpAny_setField p1 p4 (by show 1 < 5; decide) ?_)
  obtain ⟨o2, r1, r2, r3, r4⟩ := put_field (k := 1) (x := rawInt ((i : Int) + 1)) p1 p3 p4
  exact wpAny_pure ⟨x, rfl, q _ ((Heap.SameBut.update _ _ _).trans (Heap.SameBut.update _ _ _)) ⟨o2, r1, r2.trans (p2.trans i2), r3, r4⟩⟩
theorem nextN_end {o : Obj} {es : Array (Int × Value)} {t : SetTable} {slot : Nat} {Q : Option Value → Shared → Prop} (hh : A.handled = none) (hI : SIter s.heap I (rawInt slot) i a n ep) (ha : s.heap.get? a = some o) (hd : o.data = .set es ep t) (ft : t.fits es.size = true)
    (sz : es.size = n) (hn : ∀ (s : Shared) (E : Value → Shared → Prop) (Q : Option (Value × Nat) → Shared → Prop), s.heap.get? a = some o → Q none s → wpAny (model P w) A.in1 (setNext a slot i ep) Q E s) (q : ∀ h', Heap.ExtBut I s.heap h' → Q none { s with heap := h' }) : wpAny (model P w) A (pyNext (.ref I)) Q E s := by
  refine si_next hI ?_
  obtain ⟨oi, i1, i2, i3, i4⟩ := hI
  unfold Builtin.«set_iterator.__next__»
  refine wpAny_bind (wpAny_of_eq (a := (Value.ref I, [])) rfl ?_)
  refine wpAny_bind (wpAny_fieldsOf i1 i4 ?_)
  dsimp only [rawInt]
  refine wpAny_bind (wpAny_setEntries_of ha hd ft ?_)
  rw [if_neg (by rw [sz]; simp)]
  rw [Int.toNat_natCast, Int.toNat_natCast, Int.toNat_natCast]
  refine wpAny_bind (hn _ _ _ ha ?_)
  dsimp only
  refine wpAny_bind (wpAny_setField i1 i4 (by show 2 < 5; decide) ?_)
  refine stop_out hh fun h' k => q h' fun b u nb e => k b u ?_
  rw [Heap.get?_update_ne _ _ _ _ nb]
  exact e
theorem slot_si_iter : Slot "set_iterator" "__iter__" "set_iterator.__iter__" :=
  Slot.of (owner := "set_iterator") (n := "__iter__") (by rw [typeLookup_type, builtinLookup_eq_fast]; rfl) (by decide +kernel) (by decide +kernel) (by decide +kernel) (Or.inl (by decide +kernel)) (by rw [isSubtype_type]; rfl) (by decide +kernel)
theorem args_si_iter (a : Value) : argsOk "set_iterator.__iter__" { pos := [a] } := by show _ = _; rfl
theorem entry_si_iter : entryFor table "set_iterator.__iter__" = some Builtin.«dict_keyiterator.__iter__» := entryFor_alias (id' := "dict_keyiterator.__iter__") (by rw [fastTable_eq_tree]; rfl) (by decide +kernel) (by decide +kernel) (by rw [fastTable_eq_tree]; rfl)
theorem si_self {Q : Value → Shared → Prop} (hI : SIter s.heap I f i a n ep) (q : Q (.ref I) s) : wpAny (model P w) A (pyIter (.ref I)) Q E s := by
  refine wpAny_pyIter_slot hI.typeIs slot_si_iter (wpAny_call_entry slot_si_iter hI.typeIs entry_si_iter ?_ (args_si_iter _))
  exact wpAny_pure ⟨_, rfl, _, _, hI.typeIs, slot_si_next.lookup, q⟩
theorem SIter.keep {h h' : Heap} (x : SIter h I f i a n ep) (k : ∀ o, h.get? I = some o → h'.get? I = some o) : SIter h' I f i a n ep := by
  obtain ⟨o, h1, h2⟩ := x
  exact ⟨o, k _ h1, h2⟩
theorem walkD {T : Addr} {ps : Array Value} {o : Obj} {es : Array (Int × Value)} {t : SetTable} {ord : List Value} (hh : A.handled = none) (nT : T ≠ I) (na : a ≠ I) (hd : o.data = .set es ep t) (ft : t.fits es.size = true) (sz : es.size = n)
    (hps : ∀ i, i < n → ∃ (j : Nat) (hv : Int) (x : Value), ps[i]? = some (rawInt j) ∧ es[j]? = some (hv, x) ∧ ord[i]? = some x) (hpe : ps[n]? = none) :
    WalksS P w A I [I, T, a] [I] (fun a b => b = a) n (fun i v => ord[i]? = some v) (fun i s => SIter s.heap I (.ref T) i a n ep ∧ s.heap.IsTuple T ps ∧ s.heap.get? a = some o) where
  sub := fun b hb => by simp at hb ⊢; exact .inl hb
  grefl := fun _ => rfl
  gtrans := fun a b c h1 h2 => h2.trans h1
  frame := fun i s h' tk ⟨h1, ⟨ot, h2, h3⟩, h4⟩ _ k => ⟨h1.keep fun o e => k I (by simp) o e, ⟨ot, k T (by simp) _ h2, h3⟩, k a (by simp) _ h4⟩
  item := fun i s Q E hi ⟨h1, h2, h3⟩ q => by
    obtain ⟨j, hv, x, e1, e2, e3⟩ := hps i hi
    refine nextD_item h1 h2 h3 hd ft sz e1 e2 fun h' sb h1' => q x _ e3 ⟨h1', ?_, (sb.2 a na).trans h3⟩ ⟨fun b u nb e => (sb.2 b (by simpa using nb)).trans e, rfl, rfl, rfl, Nat.le_refl _⟩
    obtain ⟨ot, g1, g2⟩ := h2
    exact ⟨ot, (sb.2 T nT).trans g1, g2⟩
  done := fun s Q E ⟨h1, h2, h3⟩ q => nextD_end hh h1 h2 h3 hd ft sz hpe fun h' x => q _ ⟨fun b u nb e => x b u (by simpa using nb) e, rfl, rfl, rfl, Nat.le_refl _⟩
  self := fun i s Q E ⟨h1, _⟩ q => si_self h1 q
theorem walkN {o : Obj} {es : Array (Int × Value)} {t : SetTable} {ord : List Value} {sl : Nat → Nat} (hh : A.handled = none) (na : a ≠ I) (hd : o.data = .set es ep t) (ft : t.fits es.size = true) (sz : es.size = n)
    (hn : ∀ i, i < n → ∃ x, ord[i]? = some x ∧ ∀ (s : Shared) (E : Value → Shared → Prop) (Q : Option (Value × Nat) → Shared → Prop), s.heap.get? a = some o → Q (some (x, sl (i + 1))) s → wpAny (model P w) A.in1 (setNext a (sl i) i ep) Q E s)
    (he : ∀ (s : Shared) (E : Value → Shared → Prop) (Q : Option (Value × Nat) → Shared → Prop), s.heap.get? a = some o → Q none s → wpAny (model P w) A.in1 (setNext a (sl n) n ep) Q E s) :
    WalksS P w A I [I, a] [I] (fun a b => b = a) n (fun i v => ord[i]? = some v) (fun i s => SIter s.heap I (rawInt (sl i)) i a n ep ∧ s.heap.get? a = some o) where
  sub := fun b hb => by simp at hb ⊢; exact .inl hb
  grefl := fun _ => rfl
  gtrans := fun a b c h1 h2 => h2.trans h1
  frame := fun i s h' tk ⟨h1, h4⟩ _ k => ⟨h1.keep fun o e => k I (by simp) o e, k a (by simp) _ h4⟩
  item := fun i s Q E hi ⟨h1, h3⟩ q => by
    obtain ⟨x, e3, hx⟩ := hn i hi
    exact nextN_item h1 h3 hd ft sz hx fun h' sb h1' => q x _ e3 ⟨h1', (sb.2 a na).trans h3⟩ ⟨fun b u nb e => (sb.2 b (by simpa using nb)).trans e, rfl, rfl, rfl, Nat.le_refl _⟩
  done := fun s Q E ⟨h1, h3⟩ q => nextN_end hh h1 h3 hd ft sz he fun h' x => q _ ⟨fun b u nb e => x b u (by simpa using nb) e, rfl, rfl, rfl, Nat.le_refl _⟩
  self := fun i s Q E ⟨h1, _⟩ q => si_self h1 q
end
end L2
namespace L2
open PySem PySem.Spec PyProof.Rows
theorem perm_of_sub : ∀ {ks ts : List Str}, ks.Nodup → (∀ y ∈ ks, y ∈ ts) → ts.length = ks.length → ts.Perm ks
  | [], ts, _, _, h => by rw [List.length_eq_zero_iff.mp h]
  | k :: ks, ts, nd, sub, h => by
    obtain ⟨n1, n2⟩ := List.nodup_cons.mp nd
    have hk := sub k List.mem_cons_self
    have p := List.perm_cons_erase hk
    refine p.trans ((perm_of_sub n2 (fun y hy => ?_) ?_).cons k)
    · exact (List.mem_erase_of_ne (show y ≠ k from fun e => n1 (by rw [← e]; exact hy))).mpr (sub y (List.mem_cons_of_mem _ hy))
    · rw [List.length_erase_of_mem hk, h]; rfl
theorem isStrOf_str {x : Str} {v : Value} (h : Value.isStrOf x v = true) : ∃ t, v = .str x t := by
  cases v with
  | str y t =>
    have : y = x := by simpa [Value.isStrOf] using h
    exact ⟨t, by rw [this]⟩
  | _ => simp [Value.isStrOf] at h
section
variable {P : Program} {w : World} {A : Around} {E : Value → Shared → Prop} {s : Shared} {a : Addr} {ks : List Str}
theorem strs_all : ∀ {l : List Value}, (∀ v ∈ l, ∃ x t, v = Value.str x t) → ∃ ts, StrsAre l ts ∧ (∀ y, y ∈ ts ↔ ∃ t, Value.str y t ∈ l) ∧ ts.length = l.length
  | [], _ => ⟨[], .nil, fun y => by simp, rfl⟩
  | v :: l, h => by
    obtain ⟨ts, h1, h2, h3⟩ := strs_all fun u hu => h u (List.mem_cons_of_mem _ hu)
    obtain ⟨x, t, rfl⟩ := h v List.mem_cons_self
    refine ⟨x :: ts, .cons x t h1, fun y => ?_, by rw [List.length_cons, List.length_cons, h3]⟩
    constructor
    · intro hy
      rcases List.mem_cons.mp hy with rfl | hy
      · exact ⟨t, List.mem_cons_self⟩
      · obtain ⟨t', ht⟩ := (h2 y).mp hy
        exact ⟨t', List.mem_cons_of_mem _ ht⟩
    · rintro ⟨t', ht⟩
      rcases List.mem_cons.mp ht with e | ht
      · cases e; exact List.mem_cons_self
      · exact List.mem_cons_of_mem _ ((h2 y).mpr ⟨t', ht⟩)
theorem strs_ofX {es : List (Int × Value)} (h4 : ElemsOf (mixKind P w) es) (h5 : ∀ k : Key, ssOf ks k = true ↔ ∃ e, e ∈ es ∧ (mixKind P w).is k e.2 = true) (sz : es.length = ks.length) (nd : ks.Nodup) : ∃ ts, StrsAre (es.map Prod.snd) ts ∧ ts.Perm ks := by
  have all : ∀ v ∈ es.map Prod.snd, ∃ x t, v = Value.str x t := fun v hv => by
    obtain ⟨e, he, rfl⟩ := List.mem_map.mp hv
    obtain ⟨⟨k, hk, _⟩, _⟩ := h4 e he
    have := (h5 k).mpr ⟨e, he, hk⟩
    cases k with
    | inl i => cases this
    | inr x =>
      obtain ⟨t, e⟩ := isStrOf_str (x := x) hk
      exact ⟨x, t, e⟩
  obtain ⟨ts, h1, h2, h3⟩ := strs_all all
  refine ⟨ts, h1, perm_of_sub nd (fun y hy => (h2 y).mpr ?_) (by rw [h3, List.length_map, sz])⟩
  obtain ⟨e, he, hk⟩ := (h5 (Sum.inr y)).mp (by simpa [ssOf] using hy)
  obtain ⟨t, e2⟩ := isStrOf_str (x := y) hk
  exact ⟨t, e2 ▸ List.mem_map_of_mem he⟩
theorem strs_perm {l l' : List Value} {ts : List Str} (p : l'.Perm l) (h : StrsAre l ts) : ∃ ts', StrsAre l' ts' ∧ ts'.Perm ts := by
  induction p generalizing ts with
  | nil => exact ⟨ts, h, .refl _⟩
  | cons x p ih =>
    cases h with
    | cons y t h =>
      obtain ⟨ts', h1, h2⟩ := ih h
      exact ⟨y :: ts', .cons y t h1, h2.cons y⟩
  | swap x y l =>
    cases h with
    | cons y t h =>
      cases h with
      | cons z t' h => exact ⟨_, .cons z t' (.cons y t h), List.Perm.swap _ _ _⟩
  | trans p q ih1 ih2 =>
    obtain ⟨ts', h1, h2⟩ := ih2 h
    obtain ⟨ts'', h3, h4⟩ := ih1 h1
    exact ⟨ts'', h3, h4.trans h2⟩
theorem SetX.typeIs (hx : SetX P w s.heap a ks) : s.TypeIs (.ref a) "set" := hx.of.typeIs
theorem iterX {A' : Around} (hh : A'.handled = none) (hx : SetX P w s.heap a ks) (nd : ks.Nodup) {Q : Value → Shared → Prop}
    (q : ∀ (I : Addr) (h' : Heap) (d : Drawn) (fp : List Addr) (St : Nat → Shared → Prop) (ord : List Value) (ts : List Str), (∀ b u, s.heap.get? b = some u → h'.get? b = some u) → s.heap.objs.size ≤ I → (∀ b ∈ fp, b = a ∨ s.heap.objs.size ≤ b) →
      WalksS P w A' I fp [I] (fun a b => b = a) ks.length (fun i v => ord[i]? = some v) St → St 0 { s with heap := h', drawn := d } → StrsAre ord ts → ts.Perm ks → Q (.ref I) { s with heap := h', drawn := d }) : wpAny (model P w) A (pyIter (.ref a)) Q E s := by
  have T := hx.typeIs
  obtain ⟨o, es, ep, t, h1, h2, h3, h4, h5, h6, h7, h8, h9, hp⟩ := hx
  obtain ⟨ts, t1, t2⟩ := strs_ofX h4 h5 (by rw [Array.length_toList, h8]) nd
  have alt : a < s.heap.objs.size := Heap.lt_size h1
  rw [← h8] at q
  have szl : es.size ≤ sizeLine := fits_of_scanBound h6
  refine wpAny_pyIter_slot T F.slot_set_iter (wpAny_call_entry F.slot_set_iter T entry_set_iter ?_ (F.args_set_iter_1 _))
  unfold Builtin.«frozenset.__iter__»
  refine wpAny_bind (wpAny_of_eq (a := a) rfl ?_)
  unfold Builtin.Frozenset.sizeOf
  refine wpAny_bind (wpAny_bind (wpAny_setEntries_of h1 h3 h7 (wpAny_pure ?_)))
  unfold setDrawn
  refine wpAny_bind (wpAny_bind (wpAny_setState_of h1 h3 h7 (wpAny_bind (wpAny_byText (wpAny_pure ?_)))))
  refine wpAny_ite_split (fun c => ?_) fun c => ?_
  · -- its order is drawn
    refine wpAny_bind (wpAny_drawOrderI _ _ _ _ (List.length_range ..) fun ys d pm => ?_)
    have yl : ys.length = es.size := by rw [pm.length_eq, List.length_range]
    refine wpAny_bind (wpAny_newTuple ?_ (by rw [List.length_map, yl]; exact szl))
    have k1 : ∀ b u, s.heap.get? b = some u → (s.heap.push { cls := Value.type "tuple", data := Data.seq (List.map (fun (i : Nat) => rawInt i) ys).toArray }).get? b = some u := fun b u e => Heap.get?_push_of_some _ e
    refine wpAny_bind (wpAny_setEpoch_of (k1 _ _ h1) h3 h7 ?_)
    unfold newFields
    refine wpAny_bind (wpAny_newObj_type ?_ (by show 5 ≤ sizeLine + 2; decide))
    have e1 : (s.heap.push { cls := Value.type "tuple", data := Data.seq (List.map (fun (i : Nat) => rawInt i) ys).toArray }).get? s.heap.objs.size = some { cls := Value.type "tuple", data := Data.seq (List.map (fun (i : Nat) => rawInt i) ys).toArray } := Heap.get?_push_size _ rfl
    have z1 : (s.heap.push { cls := Value.type "tuple", data := Data.seq (List.map (fun (i : Nat) => rawInt i) ys).toArray }).objs.size = s.heap.objs.size + 1 := Heap.size_push _ _
    have e2 : ((s.heap.push { cls := Value.type "tuple", data := Data.seq (List.map (fun (i : Nat) => rawInt i) ys).toArray }).push { cls := Value.type "set_iterator", data := Data.fields #[Value.ref s.heap.objs.size, rawInt 0, Value.ref a, rawInt (es.size : Int), rawInt (ep : Int)] }).get? (s.heap.objs.size + 1) = some { cls := Value.type "set_iterator", data := Data.fields #[Value.ref s.heap.objs.size, rawInt 0, Value.ref a, rawInt (es.size : Int), rawInt (ep : Int)] } := by
      have := Heap.get?_push_size (s.heap.push { cls := Value.type "tuple", data := Data.seq (List.map (fun (i : Nat) => rawInt i) ys).toArray }) (o := { cls := Value.type "set_iterator", data := Data.fields #[Value.ref s.heap.objs.size, rawInt 0, Value.ref a, rawInt (es.size : Int), rawInt (ep : Int)] }) rfl
      rwa [z1] at this
    generalize s.heap.push { cls := Value.type "tuple", data := Data.seq (List.map (fun (i : Nat) => rawInt i) ys).toArray } = H1 at k1 e1 z1 e2 ⊢
    have k2 : ∀ b u, H1.get? b = some u → (H1.push { cls := Value.type "set_iterator", data := Data.fields #[Value.ref s.heap.objs.size, rawInt 0, Value.ref a, rawInt (es.size : Int), rawInt (ep : Int)] }).get? b = some u := fun b u e => Heap.get?_push_of_some _ e
    show wpAny _ _ (pure (Fin.done (Flow.ret (Value.ref H1.objs.size)))) _ _ { s with heap := H1.push _, drawn := d }
    rw [z1]
    generalize H1.push { cls := Value.type "set_iterator", data := Data.fields #[Value.ref s.heap.objs.size, rawInt 0, Value.ref a, rawInt (es.size : Int), rawInt (ep : Int)] } = H2 at k2 e2 ⊢
    have si : SIter H2 (s.heap.objs.size + 1) (.ref s.heap.objs.size) 0 a es.size ep := ⟨_, e2, rfl, rfl, rfl⟩
    have pf : ((List.range es.size).map fun j => (es.getD j (0, Value.none)).2) = es.toList.map Prod.snd := by
      refine List.ext_getElem (by simp) fun i h1 h2 => ?_
      have hi : i < es.size := by simpa using h1
      simp [Array.getD, hi]
    obtain ⟨ts', u1, u2⟩ := strs_perm ((pm.map fun j => (es.getD j (0, Value.none)).2).trans (by rw [pf])) t1
    refine wpAny_pure ⟨_, rfl, "set_iterator", _, si.typeIs (s := { s with heap := H2, drawn := d }), slot_si_next.lookup, q _ H2 d [s.heap.objs.size + 1, s.heap.objs.size, a] _ (ys.map fun j => (es.getD j (0, Value.none)).2) ts' (fun b u e => k2 _ _ (k1 _ _ e)) (Nat.le_succ _) (fun b hb => ?_)
      (walkD (T := s.heap.objs.size) (ps := (List.map (fun (i : Nat) => rawInt i) ys).toArray) hh (Nat.ne_of_lt (Nat.lt_succ_self _)) (Nat.ne_of_lt (Nat.lt_succ_of_lt alt)) h3 h7 rfl (fun i hi => ?_) ?_) ⟨si, ⟨_, k2 _ _ e1, rfl, _, rfl⟩, k2 _ _ (k1 _ _ h1)⟩ u1 (u2.trans t2)⟩
    · simp at hb
      rcases hb with rfl | rfl | rfl
      · exact .inr (Nat.le_succ _)
      · exact .inr (Nat.le_refl _)
      · exact .inl rfl
    · have hi' : i < ys.length := by omega
      have jm : ys[i] < es.size := List.mem_range.mp (pm.mem_iff.mp (List.getElem_mem hi'))
      refine ⟨ys[i], es[ys[i]].1, es[ys[i]].2, ?_, ?_, ?_⟩
      · simp [hi']
      · rw [Array.getElem?_eq_getElem jm]
      · rw [List.getElem?_map, List.getElem?_eq_getElem hi']
        simp [Array.getD, jm]
    · simp [yl]
  · -- it goes by slots, or by a text
    refine wpAny_bind (wpAny_pure ?_)
    refine wpAny_bind (wpAny_setEpoch_of h1 h3 h7 ?_)
    unfold newFields
    refine wpAny_bind (wpAny_newObj_type ?_ (by show 5 ≤ sizeLine + 2; decide))
    have e2 : (s.heap.push { cls := Value.type "set_iterator", data := Data.fields #[rawInt 0, rawInt 0, Value.ref a, rawInt (es.size : Int), rawInt (ep : Int)] }).get? s.heap.objs.size = some { cls := Value.type "set_iterator", data := Data.fields #[rawInt 0, rawInt 0, Value.ref a, rawInt (es.size : Int), rawInt (ep : Int)] } := Heap.get?_push_size _ rfl
    have k2 : ∀ b u, s.heap.get? b = some u → (s.heap.push { cls := Value.type "set_iterator", data := Data.fields #[rawInt 0, rawInt 0, Value.ref a, rawInt (es.size : Int), rawInt (ep : Int)] }).get? b = some u := fun b u e => Heap.get?_push_of_some _ e
    show wpAny _ _ (pure (Fin.done (Flow.ret (Value.ref s.heap.objs.size)))) _ _ { s with heap := s.heap.push _ }
    generalize s.heap.push { cls := Value.type "set_iterator", data := Data.fields #[rawInt 0, rawInt 0, Value.ref a, rawInt (es.size : Int), rawInt (ep : Int)] } = H2 at k2 e2 ⊢
    have si : SIter H2 s.heap.objs.size (rawInt 0) 0 a es.size ep := ⟨_, e2, rfl, rfl, rfl⟩
    have na : a ≠ s.heap.objs.size := Nat.ne_of_lt alt
    have fin_ : ∀ (sl : Nat → Nat) (ord : List Value), sl 0 = 0 → ord.Perm (es.toList.map Prod.snd) → WalksS P w A' s.heap.objs.size [s.heap.objs.size, a] [s.heap.objs.size] (fun a b => b = a) es.size (fun i v => ord[i]? = some v) (fun i s' => SIter s'.heap s.heap.objs.size (rawInt (sl i)) i a es.size ep ∧ s'.heap.get? a = some o) →
        wpAny (model P w) A.in1 (pure (Fin.done (Flow.ret (Value.ref s.heap.objs.size)))) (fun fin s' => ∃ v, fin = Fin.done (Flow.ret v) ∧ ∃ T' r, s'.TypeIs v T' ∧ typeLookup (Value.type T') (Str.ofString "__next__") = pure (some r) ∧ Q v s') E { s with heap := H2 } := fun sl ord z pm W => by
      obtain ⟨ts', u1, u2⟩ := strs_perm pm t1
      refine wpAny_pure ⟨_, rfl, "set_iterator", _, si.typeIs (s := { s with heap := H2 }), slot_si_next.lookup, q _ H2 s.drawn [s.heap.objs.size, a] _ ord ts' k2 (Nat.le_refl _) (fun b hb => ?_) W ⟨by rw [z]; exact si, k2 _ _ h1⟩ u1 (u2.trans t2)⟩
      simp at hb
      rcases hb with rfl | rfl
      · exact .inr (Nat.le_refl _)
      · exact .inl rfl
    cases bt : byT w with
    | true =>
      have pp := pick_perm (w.params.setOrder a ep) es
      have pl : (pickOrder (w.params.setOrder a ep) es).size = es.size := by
        have := pp.length_eq
        rwa [Array.length_toList, Array.length_toList] at this
      refine fin_ (fun _ => 0) ((pickOrder (w.params.setOrder a ep) es).toList.map Prod.snd) rfl (pp.map _) (walkN (sl := fun _ => 0) hh na h3 h7 rfl (fun i hi => ⟨((pickOrder (w.params.setOrder a ep) es)[i]'(by omega)).2, ?_, fun s E Q ha q => setNext_text bt ha h3 h7 ?_⟩) fun s E Q ha q => setNext_text bt ha h3 h7 ?_)
      · rw [List.getElem?_map, Array.getElem?_toList, Array.getElem?_eq_getElem (by omega)]; rfl
      · rw [Array.getElem?_eq_getElem (by omega)]
        exact q
      · rw [Array.getElem?_eq_none (by omega)]
        exact q
    | false =>
      have led : t.led = true := by rw [h9, bt]; rfl
      have few : es.size ≤ 1 := by
        rcases hp with z | z
        · omega
        · refine Classical.byContradiction fun big => c ?_
          show (!byT w && (!t.plain && decide (es.size > 1))) = true
          rw [bt, z, decide_eq_true (by omega)]; rfl
      have pz : t.place.size = es.size := by
        unfold SetTable.fits at h7
        simpa using (Bool.and_eq_true_iff.mp h7).1
      by_cases n0 : es.size = 0
      · refine fin_ (fun _ => 0) (es.toList.map Prod.snd) rfl (.refl _) (walkN (sl := fun _ => 0) hh na h3 h7 rfl (fun i hi => absurd hi (by omega)) fun s E Q ha q => setNext_few bt ha h3 h7 few led ?_)
        rw [Array.getElem?_eq_none (by omega)]
        exact q
      · have n1 : es.size = 1 := by omega
        obtain ⟨p, hp'⟩ : ∃ p, t.place = #[p] := ⟨t.place[0]'(by omega), Array.ext (by simp; omega) fun i h1 h2 => by
          have : i = 0 := by simp at h2; exact h2
          subst this; rfl⟩
        obtain ⟨b1, b2⟩ := below_one (p := p)
        refine fin_ (fun i => if i = 0 then 0 else p + 1) (es.toList.map Prod.snd) rfl (.refl _) (walkN (sl := fun i => if i = 0 then 0 else p + 1) hh na h3 h7 rfl (fun i hi => ⟨(es[i]'hi).2, ?_, fun s E Q ha q => setNext_few bt ha h3 h7 few led ?_⟩) fun s E Q ha q => setNext_few bt ha h3 h7 few led ?_)
        · rw [List.getElem?_map, Array.getElem?_toList, Array.getElem?_eq_getElem hi]; rfl
        · have i0 : i = 0 := by omega
          subst i0
          rw [hp', if_pos rfl, b1, Array.getElem?_eq_getElem (show 0 < es.size by omega)]
          exact q
        · rw [if_neg (by omega), hp', b2, Array.getElem?_eq_none (show es.size ≤ 1 by omega)]
          exact q
theorem SetX.keep {h h' : Heap} (hx : SetX P w h a ks) (k : ∀ o, h.get? a = some o → h'.get? a = some o) : SetX P w h' a ks := by
  obtain ⟨o, es, ep, t, h1, r⟩ := hx
  exact ⟨o, es, ep, t, k _ h1, r⟩
theorem strsLen : ∀ {vs : List Value} {ts : List Str}, StrsAre vs ts → ts.length = vs.length
  | _, _, .nil => rfl
  | _, _, .cons _ _ r => by rw [List.length_cons, List.length_cons, strsLen r]
theorem extendX (hh : A.handled = none) (hx : SetX P w s.heap a ks) (nd : ks.Nodup) {S : Addr} {res : Value} {c₀ : Nat} (hS : s.heap.get? S = some { cls := Value.type "list", data := Data.seq #[] c₀ }) {R : Result → Shared → Prop}
    (hR : ∀ (h' : Heap) (d : Drawn) (tk : Nat) (acc : Array Value) (ts : List Str) (c' : Nat), (∀ b o, b ≠ S → s.heap.get? b = some o → h'.get? b = some o) → h'.get? S = some { cls := Value.type "list", data := Data.seq acc c' } → StrsAre acc.toList ts → ts.Perm ks → R (Except.ok (Flow.ret res)) { s with heap := h', drawn := d, toks := tk }) :
    wpAny (model P w) A.in1 (Builtin.List.listExtendWith (Value.ref S) (Value.ref a) res) (fun fin s' => match fin with
        | Fin.done f => R (Except.ok f) s'
        | Fin.again c' => c'.quiet = true ∧ codeAny (model P w) A c' R s') (fun e s' => R (Except.error e) s') s := by
  have T := hx.typeIs
  have hn : ks.length ≤ sizeLine := by
    obtain ⟨o, es, ep, t, _, _, _, _, _, h6, _, h8, _⟩ := hx
    rw [← h8]; exact fits_of_scanBound h6
  have Sa : S ≠ a := fun e => by
    obtain ⟨o, es, ep, t, h1, h2, h3, _⟩ := hx
    rw [e, h1] at hS
    cases hS
    cases h3
  have Slt : S < s.heap.objs.size := Heap.lt_size hS
  unfold Builtin.List.listExtendWith
  refine wpAny_bind (wpAny_typeOf T ?_)
  refine wpAny_ite_split (fun c => ?_) fun _ => ?_
  · exfalso
    simp [Builtin.List.listSameRef, Sa] at c
  refine wpAny_bind (iterX (A' := A.in1) hh hx nd fun I h1 d fp St ord ts k1 Ige fpo W st so pm => ?_)
  have nS : ¬ S ∈ fp := fun m => by
    rcases fpo S m with e | e
    · exact Sa e
    · exact absurd Slt (Nat.not_lt.mpr e)
  have SI : S ≠ I := fun e => absurd Slt (by rw [e]; exact Nat.not_lt.mpr Ige)
  refine wpAny_bind (wpAny_holding (hint_set (s := { s with heap := h1, drawn := d }) ((hx.keep fun o e => k1 _ _ e).typeIs (s := { s with heap := h1, drawn := d })) ?_))
  have ol : ord.length = ks.length := by rw [← strsLen so, pm.length_eq]
  have loop : ∀ (h2 : Heap) (c : Nat), (∀ b u, b ≠ S → h1.get? b = some u → h2.get? b = some u) → h2.get? S = some { cls := Value.type "list", data := Data.seq #[] c } →
      (Code.builtin "list.extend.loop" { pos := [Value.ref S, Value.ref I, res] }).quiet = true ∧ codeAny (model P w) A (Code.builtin "list.extend.loop" { pos := [Value.ref S, Value.ref I, res] }) R { s with heap := h2, drawn := d } := fun h2 c k2 hS2 => by
    have st2 := W.frame 0 { s with heap := h1, drawn := d } h2 s.toks st (Nat.le_refl _) fun b hb o e => k2 b o (fun z => nS (by rw [← z]; exact hb)) e
    refine ⟨plainId_quiet F.plain_extend_loop _, codeAny_extend_loopS W hn S nS res ks.length 0 { s with heap := h2, drawn := d } #[] c rfl (Nat.zero_le _) st2 hS2 (ItemsOf.nil _) fun s' acc c' hm hS' hacc => ?_⟩
    have es := Moved.eq_with hm
    rw [es]
    have ea : acc.toList = ord := by
      refine List.ext_getElem? fun j => ?_
      by_cases hj : j < acc.size
      · have e := hacc.2 j _ (Array.getElem?_eq_getElem hj)
        rw [e, Array.getElem?_toList, Array.getElem?_eq_getElem hj]
      · rw [List.getElem?_eq_none (by rw [Array.length_toList]; omega), List.getElem?_eq_none (by have := hacc.1; omega)]
    refine hR s'.heap d s'.toks acc ts c' (fun b o nb e => ?_) hS' (by rw [ea]; exact so) pm
    refine hm.heap b o (fun m => ?_) (k2 b o nb (k1 _ _ e))
    rcases List.mem_cons.mp m with m | m
    · exact nb m
    · rw [List.mem_singleton.mp m] at e
      exact absurd (Heap.lt_size e) (Nat.not_lt.mpr Ige)
  have hS1 := k1 _ _ hS
  refine wpAny_ite_split (fun _ => ?_) fun _ => ?_
  · refine wpAny_bind (wpAny_rule (wpAny_bind ?_))
    unfold Builtin.List.listTouch
    refine wpAny_bind (listUpdate_at (s := { s with heap := h1, drawn := d }) hS1 rfl ?_)
    have g1 : (h1.update S (Obj.mapSeq fun x => x.push Value.none)).get? S = some { cls := Value.type "list", data := Data.seq #[Value.none] (c₀ + 1) } := Heap.get?_update_self _ hS1 rfl
    refine listUpdate_at (s := { s with heap := h1.update S (Obj.mapSeq fun x => x.push Value.none), drawn := d }) g1 rfl ?_
    have g2 : ((h1.update S (Obj.mapSeq fun x => x.push Value.none)).update S (Obj.mapSeq fun x => x.pop)).get? S = some { cls := Value.type "list", data := Data.seq #[] (c₀ + 1 + 1) } := Heap.get?_update_self _ g1 rfl
    exact wpAny_pure (loop _ _ (fun b u nb e => by rw [Heap.get?_update_ne _ _ _ _ nb, Heap.get?_update_ne _ _ _ _ nb]; exact e) g2)
  · exact wpAny_pure (loop h1 c₀ (fun _ _ _ e => e) hS1)
theorem collectX (hh : A.handled = none) (hx : SetX P w s.heap a ks) (nd : ks.Nodup) {Q : List Value → Shared → Prop}
    (q : ∀ (h' : Heap) (d : Drawn) (tk : Nat) (vs : List Value) (ts : List Str), (∀ b o, s.heap.get? b = some o → h'.get? b = some o) → s.heap.objs.size < h'.objs.size → StrsAre vs ts → ts.Perm ks → Q vs { s with heap := h', drawn := d, toks := tk }) : wpAny (model P w) A (collect (Value.ref a)) Q E s := by
  unfold collect
  refine wpAny_bind (wpAny_runValue (codeAny_builtin entry_proto_collect' ?_))
  rw [Around.under_plainId F.plain_proto_collect]
  show wpAny (model P w) A.in1 (do
    let l ← newList []
    again (Code.builtin "list.__iadd__" { pos := [l, Value.ref a] })) _ _ s
  refine wpAny_bind (wpAny_newList ?_ (Nat.zero_le _))
  refine wpAny_pure ⟨plainId_quiet F.plain_list_iadd _, codeAny_builtin entry_list_iadd' ?_⟩
  rw [Around.under_plainId F.plain_list_iadd]
  have hS : (s.heap.push { cls := Value.type "list", data := Data.seq ([] : List Value).toArray }).get? s.heap.objs.size = some { cls := Value.type "list", data := Data.seq #[] } := Heap.get?_push_size _ rfl
  have k1 : ∀ b u, s.heap.get? b = some u → (s.heap.push { cls := Value.type "list", data := Data.seq ([] : List Value).toArray }).get? b = some u := fun b u e => Heap.get?_push_of_some _ e
  generalize s.heap.push { cls := Value.type "list", data := Data.seq ([] : List Value).toArray } = H1 at hS k1 ⊢
  show wpAny (model P w) A.in1 (Builtin.List.listExtendWith (Value.ref s.heap.objs.size) (Value.ref a) (Value.ref s.heap.objs.size)) _ _ { s with heap := H1 }
  have key := extendX (s := { s with heap := H1 }) (P := P) (w := w) (res := Value.ref s.heap.objs.size) hh (hx.keep fun o e => k1 _ _ e) nd hS (R := fun r s' => ∃ (h' : Heap) (d : Drawn) (tk : Nat) (acc : Array Value) (ts : List Str) (c' : Nat), r = Except.ok (Flow.ret (Value.ref s.heap.objs.size)) ∧ s' = { s with heap := h', drawn := d, toks := tk } ∧
      (∀ b o, b ≠ s.heap.objs.size → H1.get? b = some o → h'.get? b = some o) ∧ h'.get? s.heap.objs.size = some { cls := Value.type "list", data := Data.seq acc c' } ∧ StrsAre acc.toList ts ∧ ts.Perm ks)
    fun h' d tk acc ts c' k2 hS' so pm => ⟨h', d, tk, acc, ts, c', rfl, rfl, k2, hS', so, pm⟩
  have use_ : ∀ (h' : Heap) (d : Drawn) (tk : Nat) (acc : Array Value) (ts : List Str) (c' : Nat), (∀ b o, b ≠ s.heap.objs.size → H1.get? b = some o → h'.get? b = some o) → h'.get? s.heap.objs.size = some { cls := Value.type "list", data := Data.seq acc c' } → StrsAre acc.toList ts → ts.Perm ks →
      wpAny (model P w) A (do
        let o ← load s.heap.objs.size
        match o.data with
          | Data.seq xs epoch => pure xs.toList
          | x => PySem.unsupported "internal:collect") Q E { s with heap := h', drawn := d, toks := tk } := fun h' d tk acc ts c' k2 hS' so pm => by
    refine wpAny_bind (wpAny_load hS' ?_)
    refine wpAny_pure (q h' d tk acc.toList ts (fun b o e => k2 b o (fun z => ?_) (k1 _ _ e)) (Heap.lt_size hS') so pm)
    rw [z] at e
    exact absurd (Heap.lt_size e) (Nat.lt_irrefl _)
  refine wpAny_mono key (fun fin s' x => ?_) fun e s' x => ?_
  · cases fin with
    | done f =>
      obtain ⟨h', d, tk, acc, ts, c', e, rfl, k2, hS', so, pm⟩ := x
      cases e
      exact use_ h' d tk acc ts c' k2 hS' so pm
    | again c =>
      refine ⟨x.1, codeAny_mono x.2 fun r s' y => ?_⟩
      obtain ⟨h', d, tk, acc, ts, c', rfl, rfl, k2, hS', so, pm⟩ := y
      exact use_ h' d tk acc ts c' k2 hS' so pm
  · obtain ⟨h', d, tk, acc, ts, c', e', _⟩ := x
    cases e'
theorem sortedX (hh : A.handled = none) (hx : SetX P w s.heap a ks) (nd : ks.Nodup) (few : ks.length < 64) {Q : Value → Shared → Prop}
    (q : ∀ (l : Addr) (h' : Heap) (d : Drawn) (tk : Nat) (out : Array Value) (ts : List Str) (e : Nat), (∀ b o, s.heap.get? b = some o → h'.get? b = some o) → s.heap.get? l = none → s.heap.objs.size ≤ l → h'.get? l = some (seqObj "list" out e) → StrsAre out.toList ts → ts.Perm ks → sortedS ts = true → Q (.ref l) { s with heap := h', drawn := d, toks := tk }) : wpAny (model P w) A (call (Value.builtin "sorted") [Value.ref a]) Q E s := by
  refine Calls.call_function_entry kind_sorted plain_sorted entry_sorted (args_sorted1 (Value.ref a)) ?_
  unfold Builtin.sorted
  refine wpAny_bind (wpAny_pure (wpAny_bind (collectX (A := A.in1) hh hx nd fun h1 d tk vs ts k1 lt so pm => ?_)))
  have vl : vs.length = ks.length := by rw [← strsLen so, pm.length_eq]
  refine wpAny_bind (wpAny_newList ?_ (by have := sizeLine_eq; omega))
  have hoL : (h1.push { cls := Value.type "list", data := Data.seq vs.toArray }).get? h1.objs.size = some (seqObj "list" vs.toArray 0) := Heap.get?_push_size _ rfl
  have k2 : ∀ b u, h1.get? b = some u → (h1.push { cls := Value.type "list", data := Data.seq vs.toArray }).get? b = some u := fun b u e => Heap.get?_push_of_some _ e
  have z2 : (h1.push { cls := Value.type "list", data := Data.seq vs.toArray }).objs.size = h1.objs.size + 1 := Heap.size_push _ _
  show wpAny (model P w) A.in1 (do
    let _ ← holding [Value.ref h1.objs.size] (call (Value.builtin "list.sort") [Value.ref h1.objs.size] ([] : List (Str × Value)))
    ret (Value.ref h1.objs.size)) _ _ { s with heap := h1.push { cls := Value.type "list", data := Data.seq vs.toArray }, drawn := d, toks := tk }
  generalize h1.push { cls := Value.type "list", data := Data.seq vs.toArray } = H2 at hoL k2 z2 ⊢
  refine wpAny_bind (wpAny_holding (wpAny_call_entry slot_list_sort (s := { s with heap := H2, drawn := d, toks := tk }) ⟨_, hoL, rfl⟩ entry_list_sort (list_sort_treeK strKind_oneLt hoL (StrsAre.keysOf so) (fun v₁ v₂ rest e => keyKind_strs (by rw [← e]; exact so)) (by omega) fun st' a1 a2 => ⟨_, rfl, ?_⟩) (args_list_sort _)))
  obtain ⟨ts', b1, b2, b3⟩ := sorted_out_str so a1 a2
  obtain ⟨e, he⟩ := sortedHeap_at (out := Array.map (fun x => x.snd) (arrOf st')) hoL
  refine wpAny_pure ⟨_, rfl, q h1.objs.size _ d tk _ ts' e (fun b o eb => ?_) ?_ (Nat.le_of_lt lt) he b1 (b2.trans pm) b3⟩
  · have lb := Heap.lt_size (k1 _ _ eb)
    rw [sortedHeap_old (Nat.ne_of_lt lb) (by rw [z2]; exact Nat.lt_succ_of_lt lb)]
    exact k2 _ _ (k1 _ _ eb)
  · cases e' : s.heap.get? h1.objs.size with
    | none => rfl
    | some o => exact absurd (Heap.lt_size (k1 _ _ e')) (Nat.lt_irrefl _)
end
end L2
namespace L2
open PySem PySem.Spec PyProof.Rows
def SetTX (P : Program) (w : World) (a : Addr) (ks : List Str) : HO := .ext fun h => SetX P w h a ks
theorem setX_ok {P : Program} {w : World} {H : Hp} {h : Heap} {a : Addr} {ks : List Str} (x : SetX P w h a ks) : ObjOk P w H h a (SetTX P w a ks) :=
  ⟨x, let ⟨o, _, _, _, e, _⟩ := x; ⟨o, e⟩, fun h1 h2 x k => x.keep k⟩
section
variable {X : Cx} {pins : List (Addr × Obj)} {σ : St} {H : Hp} {s : Shared} {a : Addr} {ks : List Str}
theorem Inv.setX (I : Inv X pins σ H s) (h : H a = some (SetTX X.prog X.w a ks)) : SetX X.prog X.w s.heap a ks := (I.hok a _ h).1
theorem Inv.setPutX {h' : Heap} {ks' : List Str} {t' : Nat} (I : Inv X pins σ H s) (h : H a = some (SetTX X.prog X.w a ks)) (sb : Heap.SameBut a s.heap h') (n : SetX X.prog X.w h' a ks') : Inv X pins σ (upd H a (SetTX X.prog X.w a ks')) { s with heap := h', toks := t' } :=
  I.write (x := a) (e := a) (by rw [h]; exact trivial) (.inl rfl) (fun b u hb e => (sb.2 b hb).trans e) (let ⟨o, _, _, _, e, _⟩ := n; ⟨o, e⟩) (setX_ok n)
theorem Inv.drawn (I : Inv X pins σ H s) (d : Drawn) : Inv X pins σ H { s with drawn := d } := ⟨I.ok, I.os, I.bare, I.base, I.loc, I.cell, I.free, I.freeC, I.pin, I.hok, I.len⟩
theorem mem_nx {P : Program} {w : World} {h : Heap} (led : Bool) (e : led = !byT w) : SetX P w (h.push { cls := .type "set", dict := none, data := .set #[] 0 (.fresh 0 0 led) }) h.objs.size [] :=
  ⟨_, #[], 0, _, Heap.get?_push_size _ rfl, ⟨rfl, rfl, rfl⟩, rfl, fun e he => by simp at he, fun k => by cases k <;> simp [ssOf], by decide, by rfl, rfl, e, .inl rfl⟩
theorem new_setX {X : Cx} : NewRule X (newSet (.type "set")) (fun a => SetTX X.prog X.w a []) := by
  intro pins s σ H E Q I h
  unfold newSet
  refine wpAny_bind (wpAny_bind (wpAny_askSetting (wpAny_pure ?_)))
  refine wpAny_newObj_type ?_
  exact h _ (fun b o e => Heap.get?_push_of_some _ e) (I.laid (t' := s.toks) (fun b u e => Heap.get?_push_of_some _ e) (Nat.le_refl _) (setX_ok (mem_nx _ rfl)))
def rAddX (P : Program) (w : World) : V → List V → Hp → VK → Prop := fun x xs H Q => ∃ a z ks, x = .ref a ∧ xs = [.str z] ∧ H a = some (SetTX P w a ks) ∧ ks.length + 1 < 4096 ∧ Q .non (upd H a (SetTX P w a (insT z ks)))
theorem mt_setaddX {X : Cx} : MtR X "set.add" (rAddX X.prog X.w) := by
  intro pins s σ H x xs v us Q I rx rv h
  obtain ⟨a, z, ks, rfl, rfl, ha, hz, q⟩ := h
  cases rx
  obtain ⟨u, rfl, t, rfl⟩ := vals1 rv
  have hx := I.setX ha
  obtain ⟨o, es, ep, tb, e1, e2, e3, _⟩ := id hx
  exact call_meetsIn F.slot_set_add ⟨o, e1, e2.1⟩ F.entry_set_add (F.args_set_add_2 _ _) (meets_addX z t) ⟨hx, hz, fun h' sb n => ⟨.non, _, I.setPutX ha sb n, rfl, q⟩⟩
def tEmSX (P : Program) (w : World) (D : Addr) (te : TE) : TB := fun σ H N => te σ H fun v H6 => ∃ z ks, v = .str z ∧ H6 D = some (SetTX P w D ks) ∧ ks.length + 1 < 4096 ∧ N σ (upd H6 D (SetTX P w D (insT z ks)))
theorem pb_setX {Y : Cx} {elt : Expr} {te : TE} {D : Addr} (hx : Y.xe = F0) (hel : PE Y elt te) : PB Y (setBody elt (.ref D) Y.env) (tEmSX Y.prog Y.w D te) := by
  intro pins s σ H N k R I h hk
  have a1 := hel pins s σ H _ I h
  rw [hx] at a1
  refine wpAny_bind (wpAny_bind (of_F0 a1 fun y sA ⟨v, HA, IA, rA, z, ks, ev, hD, hz, wA⟩ => wpAny_bind (wpAny_standAt (wpAny_bind ?_))))
  have a2 := mt_setaddX pins sA σ HA (.ref D) [v] (.ref D) [y] (fun _ H' => N σ H') IA rfl (.cons rA .nil) ⟨D, z, ks, rfl, by rw [ev], hD, hz, wA⟩
  rw [hx] at a2
  exact of_F0 a2 fun _ sB' ⟨_, HB, IB, _, wB⟩ => wpAny_pure (hk σ HB sB' IB wB)
section
variable {X : Cx} {elt tg iter : Expr} {ifs : List Expr} {scope esc : Scope} {pos : Pos} {N os : List Str} {fi : List Nat} {wi : TI} {g : TG} {tt : TT} {te : TE}
theorem pe_setcompX (hc : X.calm = true) (hN : X.N = N) (he : X.env.scope = esc) (B : BlkOk esc scope N fi) (hi : PI X tg iter wi)
    (hg : ∀ s H fp, PG (blk X scope (nB N os fi) s H fp) tg g) (ht : ∀ s H fp, PTs (blk X scope (nB N os fi) s H fp) ifs tt)
    (hel : ∀ s H fp, PE (blk X scope (nB N os fi) s H fp) elt te)
    (hs : ∀ x, foldedSetIterable iter X.env x = pure x := by intro _; rfl) :
    PE X (.SetComp elt [⟨tg, iter, ifs, 0⟩] scope pos) (tCG (fun a => SetTX X.prog X.w a []) os fi wi g tt fun D => tEmSX X.prog X.w D te) :=
  pe_compG (gs := []) (body := fun D env => setBody elt (.ref D) env) rfl rfl hc hN he B loop_set (start_set rfl rfl) (fun _ _ _ => rfl) new_setX hi hg ht (fun D s H fp => pb_setX rfl (hel s H fp)) hs
end
theorem vals_txs : ∀ {its : List Value} {ts : List Str}, StrsAre its ts → Vals (ts.map V.str) its
  | _, _, .nil => .nil
  | _, _, .cons _ _ r => .cons ⟨_, rfl⟩ (vals_txs r)
theorem call_sortedX {X : Cx} (hc : X.calm = true) : CallR X (.builtin "sorted") (fun xs H Q => ∃ (a : Addr) (ks : List Str), xs = [.ref a] ∧ H a = some (SetTX X.prog X.w a ks) ∧ ks.Nodup ∧ ks.length < 64 ∧ ∀ (ts : List Str) (p : Addr), ts.Perm ks → sortedS ts = true → H p = none → Q (.ref p) (upd H p (.lst (ts.map V.str)))) := by
  intro pins s σ H xs us Q I r h
  obtain ⟨a, ks, rfl, ha, nd, hl, q⟩ := h
  obtain ⟨u, rfl, ru⟩ := vals1 r
  cases (show u = Value.ref a from ru)
  refine sortedX (I.ok.hd hc) (I.setX ha) nd hl fun l h' d tk out ts e k fr sz hL so pm sd => ?_
  have tl : ts.length < 64 := pm.length_eq ▸ hl
  have I1 : Inv X pins σ (upd H l (.lst (ts.map V.str))) { s with heap := h', drawn := d, toks := tk } :=
    (I.drawn d).laid (t' := tk) k sz ⟨by rw [List.length_map]; exact Nat.le_of_lt (Nat.lt_of_lt_of_le tl (by decide)), out.toList, e, vals_txs so, hL⟩
  exact ⟨.ref l, _, I1, rfl, q ts l pm sd (I.hok.fresh sz)⟩
end
end L2
namespace L2
open PySem PySem.Spec PyProof.Rows
section
variable {X : Cx}
def keysV (kvs : List (Key × V)) : List V := kvs.map fun p => kV p.1
theorem vals_keys {P : Program} {w : World} {kvs : List (Key × V)} {vs : List (Key × Value)} {acc : Array Value} (rel : KV kvs vs) (h : ItemsOf (fun i v => ∃ k x, vs[i]? = some (k, x) ∧ (mixKind P w).is k v = true) acc vs.length) : Vals (keysV kvs) acc.toList := by
  have go : ∀ (its : List Value) (xs : List V), its.length = xs.length → (∀ (j : Nat) (v : Value), its[j]? = some v → ∃ x, xs[j]? = some x ∧ RelV x v) → Vals xs its := by
    intro its
    induction its with
    | nil => intro xs hl _; rw [List.length_eq_zero_iff.mp hl.symm]; exact .nil
    | cons v r ih =>
      intro xs hl hx
      match xs, hl with
      | x :: xs, hl =>
        obtain ⟨y, e1, e2⟩ := hx 0 v rfl
        cases e1
        exact .cons e2 (ih xs (by simpa using hl) fun j v hv => hx (j + 1) v hv)
  refine go _ _ (by rw [Array.length_toList, h.1]; unfold keysV; rw [List.length_map, rel.length]) fun j v hv => ?_
  obtain ⟨k, x, e1, e2⟩ := h.2 j v (by rw [← hv, Array.getElem?_toList])
  have jl : j < kvs.length := by
    have := (List.getElem?_eq_some_iff.mp e1).1
    rw [rel.length]; exact this
  obtain ⟨w', hw, rv⟩ := kv_get rel (i := j) jl
  rw [e1] at hw
  cases hw
  exact ⟨_, by unfold keysV; rw [List.getElem?_map, List.getElem?_eq_getElem jl]; rfl, kV_rel e2⟩
theorem call_listD (hc : X.calm = true) : CallR X (.type "list") (fun xs H Q => ∃ (a : Addr) (kvs : List (Key × V)), xs = [.ref a] ∧ Rd H a (.dK kvs) ∧ ∀ l, H l = none → Q (.ref l) (upd H l (.lst (keysV kvs)))) := by
  intro pins s σ H xs us Q I r h
  obtain ⟨a, kvs, rfl, ha, q⟩ := h
  obtain ⟨u, rfl, rx⟩ := vals1 r
  cases rx
  obtain ⟨hz, hs, vs, rel, dd⟩ := dk_rd I.hok ha
  obtain ⟨ep, da⟩ := dd.dictAt
  refine PySem.W.kdl_call (PySem.W.kdl_dict (knd := mixKind X.prog X.w) (kvs := vs) (ep := ep) hs) (I.ok.hd hc) da (by rw [← rel.length]; exact hz) fun h' tk acc c hk hl hacc => ?_
  have vl := vals_keys rel hacc
  exact ⟨.ref s.heap.objs.size, _, I.laid (t' := tk) hk (Nat.le_refl _) (show ObjOk X.prog X.w _ h' _ (.lst (keysV kvs)) from ⟨by unfold keysV; rw [List.length_map]; exact hz, acc.toList, c, vl, by simpa using hl⟩), rfl, q _ (I.hok.fresh (Nat.le_refl _))⟩
end
section
variable {X : Cx} {kx vx tg iter tg2 iter2 : Expr} {ifs ifs2 : List Expr} {scope esc : Scope} {pos : Pos} {N os : List Str} {fi : List Nat} {wi wi2 : TI} {g g2 : TG} {tt tt2 : TT} {tk tv : TE}
theorem pe_dictcomp2 (hc : X.calm = true) (hN : X.N = N) (he : X.env.scope = esc) (B : BlkOk esc scope N fi) (hi : PI X tg iter wi)
    (hg : ∀ s H fp, PG (blk X scope (nB N os fi) s H fp) tg g) (ht : ∀ s H fp, PTs (blk X scope (nB N os fi) s H fp) ifs tt)
    (hi2 : ∀ s H fp, PI (blk X scope (nB N os fi) s H fp) tg2 iter2 wi2) (hg2 : ∀ s H fp, PG (blk X scope (nB N os fi) s H fp) tg2 g2) (ht2 : ∀ s H fp, PTs (blk X scope (nB N os fi) s H fp) ifs2 tt2)
    (hk : ∀ s H fp, PE (blk X scope (nB N os fi) s H fp) kx tk) (hv : ∀ s H fp, PE (blk X scope (nB N os fi) s H fp) vx tv)
    (hs : ∀ x, foldedSetIterable iter X.env x = pure x := by intro _; rfl) (hs2 : ∀ env x, foldedSetIterable iter2 env x = pure x := by intro _ _; rfl) :
    PE X (.DictComp kx vx [⟨tg, iter, ifs, 0⟩, ⟨tg2, iter2, ifs2, 0⟩] scope pos) (tCG (fun _ => .dK []) os fi wi g tt fun D => tIn wi2 g2 tt2 (tEmD D tk tv)) := by
  refine pe_compG (gs := [⟨tg2, iter2, ifs2, 0⟩]) (body := fun D env => inBody (.DictComp kx vx [⟨tg, iter, ifs, 0⟩, ⟨tg2, iter2, ifs2, 0⟩] scope pos) 1 iter2 (.ref D) env) rfl rfl hc hN he B loop_dict (start_dict rfl rfl) (fun _ _ _ => rfl) new_dict hi hg ht (fun D s H fp => ?_) hs
  exact pb_in (body := dictBody kx vx D (blk X scope (nB N os fi) s H fp).env) loop_dict (start_dict rfl rfl) hc rfl (fun _ => rfl) (hi2 s H fp) (hg2 s H fp) (ht2 s H fp) (pb_dict rfl (hk s H fp) (hv s H fp)) (hs2 _)
end
theorem in_addS {X : Cx} : InOp X .Add (fun x y H Q => ∃ i j, x = .str i ∧ y = .str j ∧ i.length + j.length ≤ sizeLine ∧ Q (.str (i ++ j)) H) := fun pins s σ H x y u v Q I rx ry h => iop_add_str pins s σ H x y u v Q I rx ry h
end L2
namespace L2
open PySem PySem.Spec PyProof.Rows
section
variable {X : Cx} {o e f i value : Expr} {td ty tx tv : TE} {p pos apos cpos tpos : Pos}
theorem zpe_dget1 (hu : X.A.units + 1 < cLine) (ho : SPE X o td) (he : SPE X e ty) (m1 : attributeBase o "get" X.env (eval o X.env) = eval o X.env := by rfl)
    (m2 : ((backTo cpos (starEach [e] X.env)).all (fun x => !x.1) && (backToKw cpos (keywordEach [] X.env)).all (fun x => x.1.isSome) && decide (([e] : List Expr).length + ([] : List Keyword).length + (if ([] : List Keyword).isEmpty then 0 else 1) < 30)) = true := by rfl)
    (m3 : (apos.endLine == cpos.line) = true := by rfl) (m4 : backTo cpos (starEach [e] X.env) = [(false, eval e X.env)] := by rfl) : SPE X (.Call (.Attribute o "get" apos) [e] [] cpos) (tDGet1 td ty) := ⟨pe_dget1 hu ho.out he.out ⟨m1, m2, m3, m4⟩⟩
end
end L2
namespace L2
open PySem PySem.Spec PyProof.Rows
section
variable {X : Cx} {CX : CXT} {k : Nat} {f C : Addr} {fd : FuncData} {ps : List Str} {sp : Sp} {dvs : List V} {ds : List Value} {E : XK} {x m : Str} {p pos pos' tpos apos : Pos} {e o elt tg iter value kx vx : Expr} {es ifs : List Expr} {ta te tv tk : TE} {t : TA} {fl : Str}
  {scope esc : Scope} {N os : List Str} {fi : List Nat} {wi wi2 : TI} {g g2 : TG} {tt tt2 : TT} {tg2 iter2 : Expr} {ifs2 : List Expr}
theorem zpe_setcompX (N os : List Str) (fi : List Nat) (esc : Scope) (hc : X.calm = true) (hN : X.N = N) (he : X.env.scope = esc) (B : BlkOk esc scope N fi) (hi : SPI X tg iter wi)
    (hg : ∀ s H fp, SPG (blk X scope (nB N os fi) s H fp) tg g) (ht : ∀ s H fp, SPTs (blk X scope (nB N os fi) s H fp) ifs tt)
    (hel : ∀ s H fp, SPE (blk X scope (nB N os fi) s H fp) elt te)
    (hs : ∀ x, foldedSetIterable iter X.env x = pure x := by intro _; rfl) :
    SPE X (.SetComp elt [⟨tg, iter, ifs, 0⟩] scope pos) (tCG (fun a => SetTX X.prog X.w a []) os fi wi g tt fun D => tEmSX X.prog X.w D te) :=
  ⟨pe_setcompX hc hN he B hi.out (fun s H fp => (hg s H fp).out) (fun s H fp => (ht s H fp).out) (fun s H fp => (hel s H fp).out) hs⟩
theorem zpe_dictcomp2 (N os : List Str) (fi : List Nat) (esc : Scope) (hc : X.calm = true) (hN : X.N = N) (he : X.env.scope = esc) (B : BlkOk esc scope N fi) (hi : SPI X tg iter wi)
    (hg : ∀ s H fp, SPG (blk X scope (nB N os fi) s H fp) tg g) (ht : ∀ s H fp, SPTs (blk X scope (nB N os fi) s H fp) ifs tt)
    (hi2 : ∀ s H fp, SPI (blk X scope (nB N os fi) s H fp) tg2 iter2 wi2) (hg2 : ∀ s H fp, SPG (blk X scope (nB N os fi) s H fp) tg2 g2) (ht2 : ∀ s H fp, SPTs (blk X scope (nB N os fi) s H fp) ifs2 tt2)
    (hk : ∀ s H fp, SPE (blk X scope (nB N os fi) s H fp) kx tk) (hv : ∀ s H fp, SPE (blk X scope (nB N os fi) s H fp) vx tv)
    (hs : ∀ x, foldedSetIterable iter X.env x = pure x := by intro _; rfl) (hs2 : ∀ env x, foldedSetIterable iter2 env x = pure x := by intro _ _; rfl) :
    SPE X (.DictComp kx vx [⟨tg, iter, ifs, 0⟩, ⟨tg2, iter2, ifs2, 0⟩] scope pos) (tCG (fun _ => .dK []) os fi wi g tt fun D => tIn wi2 g2 tt2 (tEmD D tk tv)) :=
  ⟨pe_dictcomp2 hc hN he B hi.out (fun s H fp => (hg s H fp).out) (fun s H fp => (ht s H fp).out) (fun s H fp => (hi2 s H fp).out) (fun s H fp => (hg2 s H fp).out) (fun s H fp => (ht2 s H fp).out) (fun s H fp => (hk s H fp).out) (fun s H fp => (hv s H fp).out) hs hs2⟩
theorem zpe_fld (he : SPE X e ta) (hb : attributeBase e fl X.env (eval e X.env) = eval e X.env := by rfl) : SPE X (.Attribute e fl pos) (tFld X.K ta fl) := ⟨pe_fld he.out hb⟩
theorem zps_fld (ha : SPE X o ta) (hv : SPE X value tv) (hs : swapsWith value (some (.Attribute o fl pos')) pos.line X.env = pure false := by rfl) : SPS X (.Assign [.Attribute o fl pos'] value pos) (sFld X.K ta tv fl) := ⟨ps_fld ha.out hv.out hs⟩
theorem zps_fldaug {op : Operator} {rd : V → V → Hp → VK → Prop} (ha : SPE X o ta) (hv : SPE X value tv) (hop : InOp X op rd) : SPS X (.AugAssign (.Attribute o fl tpos) op value pos) (sFldAug X.K ta tv rd fl) := ⟨ps_fldaug ha.out hv.out hop⟩
theorem zpe_make (M : Mk X.K C f) (F : FnOk X.prog X.w X.K X.mg X.base CX k f fd ps sp) (hr : Room (k + 1) X.A) (hg : Gl X x) (hm : X.mg x = some (.ref C)) (hb : Binds X.K fd ps ds) (hd : Vals dvs ds) (hx : Passes CX X E)
    (ha : SPA X (e :: es) t) (hdb : (x == ("__debug__" : Str)) = false := by decide) (he : starEach (e :: es) X.env = (false, eval e X.env) :: starEach es X.env := by rfl) (hpl : (backTo pos (starEach es X.env)).any (·.1) = false := by rfl) :
    SPE X (.Call (.Name x p) (e :: es) [] pos) (tMake C sp dvs E t) := ⟨pe_make M F hr hg hm hb hd hx ha.out hdb he hpl⟩
theorem zpe_meth {pl : Sem Bool} (he : SPE X o ta) (c : Cls X.K C) (hm : Meth X.K C m f) (F : FnOk X.prog X.w X.K X.mg X.base CX k f fd ps sp) (hr : Room k X.A) (hb : Binds X.K fd ps ds) (hd : Vals dvs ds) (hx : Passes CX X E) (ha : SPA X (e :: es) t)
    (hst : starEach (e :: es) X.env = (false, eval e X.env) :: starEach es X.env := by rfl) (hpl : (backTo pos (starEach es X.env)).any (·.1) = false := by rfl)
    (ht : eval (.Call (.Attribute o m apos) (e :: es) [] pos) X.env = (do
      let ov ← eval o X.env
      standAt apos.atName
      let (f, first) ← holding [ov] (getMethod ov m pl)
      callWith pos f first (backTo pos (starEach (e :: es) X.env)) (backToKw pos (keywordEach [] X.env))) := by rfl) :
    SPE X (.Call (.Attribute o m apos) (e :: es) [] pos) (tMeth C m sp dvs E ta t) := ⟨pe_meth he.out c hm F hr hb hd hx ha.out hst hpl ht⟩
theorem zpe_meth0 {pl : Sem Bool} (he : SPE X o ta) (c : Cls X.K C) (hm : Meth X.K C m f) (F : FnOk X.prog X.w X.K X.mg X.base CX k f fd ps sp) (hr : Room k X.A) (hb : Binds X.K fd ps ds) (hd : Vals dvs ds) (hx : Passes CX X E)
    (ht : eval (.Call (.Attribute o m apos) [] [] pos) X.env = (do
      let ov ← eval o X.env
      standAt apos.atName
      let (f, first) ← holding [ov] (getMethod ov m pl)
      callWith pos f first (backTo pos (starEach [] X.env)) (backToKw pos (keywordEach [] X.env))) := by rfl) :
    SPE X (.Call (.Attribute o m apos) [] [] pos) (tMeth C m sp dvs E ta tNil) := ⟨pe_meth0 he.out c hm F hr hb hd hx ht⟩
end
theorem zpe_bmK {X : Cx} {e o : Expr} {es : List Expr} {to : TE} {t : TA} {name : Str} {apos cpos : Pos} {T id : String} {r : V → List V → Hp → VK → Prop} (K : PySem.W.Frag) (hK : X.K = K) (pa : PlainAttrs T) (slot : Slot T name id) (hty : typeOf (.builtin id) = pure (.type "method_descriptor")) (hm : MtR X id r) (ho : SPE X o to) (ha : SPA X (e :: es) t) (hbase : attributeBase o name X.env (eval o X.env) = eval o X.env := by rfl) (hfew : ((backTo cpos (starEach (e :: es) X.env)).all (fun x => !x.1) && (backToKw cpos (keywordEach [] X.env)).all (fun x => x.1.isSome)
      && decide ((e :: es).length + ([] : List Keyword).length + (if ([] : List Keyword).isEmpty then 0 else 1) < 30)) = true := by rfl) (hline : (apos.endLine == cpos.line) = true := by rfl) (hs : starEach (e :: es) X.env = (false, eval e X.env) :: starEach es X.env := by rfl) (hplain : (backTo cpos (starEach es X.env)).any (·.1) = false := by rfl) : SPE X (.Call (.Attribute o name apos) (e :: es) [] cpos) (tBM K T r to t) := by
  subst hK
  exact zpe_bm pa slot hty hm ho ha hbase hfew hline hs hplain
end L2
namespace G1
open PySem L2 GM
def ppf (s x : Str) : Prop := pf s x ∧ s.length < x.length
def Am (ts : List Str) (s : Str) : Prop := ∃ x ∈ ts, ppf s x
def Nx (ts : List Str) (s : Str) (c : Nat) : Prop := ∃ x ∈ ts, pf (s ++ sg1 c) x
theorem len_cps (z : Str) : z.cps.toList.length = z.length := by simp [Str.length]
theorem cut_pre (z : Str) (k : Nat) (h : k ≤ z.length) : (cutS z none (some (k : Int))).cps.toList = z.cps.toList.take k := by
  unfold cutS
  have e : HT.sIx z.length z.length (some (k : Int)) = k := by
    rw [HT.sIx_nat]
    exact Nat.min_eq_left h
  rw [e]
  show ((z.cps.toList.drop 0).take (k - 0)).toArray.toList = _
  rw [List.drop_zero, Nat.sub_zero]
theorem ppf_take (z s : Str) : ppf s z ↔ ∃ k, k < z.length ∧ s = cutS z none (some (k : Int)) := by
  constructor
  · rintro ⟨p, l⟩
    refine ⟨s.length, l, str_ext ?_⟩
    rw [cut_pre z _ (Nat.le_of_lt l), ← len_cps s]
    exact List.prefix_iff_eq_take.mp p
  · rintro ⟨k, hk, rfl⟩
    have e := cut_pre z k (Nat.le_of_lt hk)
    refine ⟨by unfold pf; rw [e]; exact List.take_prefix _ _, ?_⟩
    rw [← len_cps, e, List.length_take, len_cps]; omega
theorem pf_snoc {s x : Str} {c : Nat} : pf (s ++ sg1 c) x ↔ pf s x ∧ x.cps.toList[s.length]? = some c := by
  have e : (s ++ sg1 c).cps.toList = s.cps.toList ++ [c] := by
    show (s.cps ++ #[c]).toList = _
    rw [Array.toList_append]
  unfold pf
  rw [e]
  constructor
  · rintro ⟨t, h⟩
    refine ⟨⟨c :: t, by rw [← h]; simp⟩, ?_⟩
    rw [← h, ← len_cps s]
    simp
  · rintro ⟨⟨t, h⟩, hc⟩
    rw [← h, ← len_cps s] at hc
    rw [List.getElem?_append_right (Nat.le_refl _), Nat.sub_self] at hc
    match t, hc with
    | d :: t, hc =>
      simp at hc
      exact ⟨t, by rw [← h, hc]; simp⟩
theorem keys_put (kvs : List (Key × V)) (k : Key) (v : V) : ∀ j, j ∈ (putK kvs k v).map (·.1) ↔ j = k ∨ j ∈ kvs.map (·.1) := by
  intro j
  have mem : ∀ l : List (Key × V), j ∈ l.map (·.1) ↔ (valV l j).isSome = true := fun l => by
    unfold valV
    rw [Option.isSome_map, List.find?_isSome]
    constructor
    · intro h
      obtain ⟨p, hp, rfl⟩ := List.mem_map.mp h
      exact ⟨p, hp, by simp⟩
    · rintro ⟨p, hp, e⟩
      have : p.1 = j := by simpa using e
      exact List.mem_map.mpr ⟨p, hp, this⟩
  rw [mem, mem, valV_put]
  by_cases h : j = k
  · rw [if_pos h]; simp [h]
  · rw [if_neg h]; simp [h]
theorem sg1_in {c d : Nat} (h : sg1 c = sg1 d) : c = d := by
  have := congrArg (fun z : Str => z.cps.toList) h
  simpa [sg1] using this
theorem nd_sg : ∀ {cs : List Nat}, cs.Nodup → (cs.map sg1).Nodup
  | [], _ => List.nodup_nil
  | c :: cs, h => by
    obtain ⟨n, h⟩ := List.nodup_cons.mp h
    rw [List.map_cons]
    exact List.nodup_cons.mpr ⟨fun z => n (by obtain ⟨d, hd, e⟩ := List.mem_map.mp z; rw [← sg1_in e]; exact hd), nd_sg h⟩
theorem perm_sg {us : List Str} {cs : List Nat} (h : us.Perm (cs.map sg1)) : ∃ ds : List Nat, us = ds.map sg1 ∧ ds.Perm cs := by
  have mem : ∀ u ∈ us, ∃ c, u = sg1 c := fun u hu => by
    obtain ⟨c, _, e⟩ := List.mem_map.mp (h.mem_iff.mp hu)
    exact ⟨c, e.symm⟩
  have all : ∀ us : List Str, (∀ u ∈ us, ∃ c, u = sg1 c) → ∃ ds : List Nat, us = ds.map sg1 := fun us => by
    induction us with
    | nil => exact fun _ => ⟨[], rfl⟩
    | cons u us ih =>
      intro m
      obtain ⟨c, rfl⟩ := m u (by simp)
      obtain ⟨ds, rfl⟩ := ih fun u hu => m u (by simp [hu])
      exact ⟨c :: ds, rfl⟩
  obtain ⟨ds, rfl⟩ := all us mem
  refine ⟨ds, rfl, ?_⟩
  have := h.map fun z : Str => z.cps.toList.headD 0
  rwa [List.map_map, List.map_map, show (fun z : Str => z.cps.toList.headD 0) ∘ sg1 = id from by funext c; simp [sg1], List.map_id, List.map_id] at this
theorem all_str' {xs : List V} (h : ∀ y ∈ xs, ∃ s, y = .str s) : ∃ ts : List Str, xs = txs ts := by
  induction xs with
  | nil => exact ⟨[], rfl⟩
  | cons x xs ih =>
    obtain ⟨z, rfl⟩ := h x (by simp)
    obtain ⟨ts, rfl⟩ := ih fun y hy => h y (by simp [hy])
    exact ⟨z :: ts, rfl⟩
theorem _root_.L2.Same.none {H H' : Hp} {a : Addr} (k : Same H H') (h : H' a = none) : H a = none := by
  cases e : H a with
  | none => rfl
  | some o => rw [k _ _ e] at h; cases h
section
variable {P : Program} {w : World} {K : PySem.W.Frag} {mg : Str → Option Value} {base : Heap}
def spBegins : Sp := fun vs H Q _ => ∃ (a : Addr) (ts : List Str), vs = [.ref a] ∧ H a = some (.lst (txs ts)) ∧ ts.length ≤ 20 ∧ (∀ t ∈ ts, t.length ≤ 8) ∧ ∀ l bs H', H l = none → Same H H' → H' l = some (.lst (txs bs)) → bs.length ≤ 160 → (∀ s, s ∈ bs ↔ Am ts s) → Q (.ref l) H'
theorem scBe : FnScope ["book"] ["book"] (defScope sBegins) := ⟨rfl, rfl, rfl, by decide +kernel, rfl, by decide +kernel, by decide +kernel⟩
theorem ok_begins {f : Addr} {fd : FuncData} (F : FunG K "begins_of" "begins_of" sBegins .none f fd) (B : Bl mg) : FnOk P w K mg base (CXE P w) 1 f fd ["book"] spBegins := by
  refine F.zokN scBe (fun vs H Q E h => ?_) (fun cdv A outer s H vs Q E hr h => ?_)
  · obtain ⟨a, ts, rfl, _⟩ := h
    rfl
  · obtain ⟨a, ts, rfl, ha, l20, l8, q⟩ := h
    refine ⟨_, (zpss_one (zps_ret (zpe_callTy (call_listD rfl) (by rfl) B.list boot_list (zpac_x (zpe_dictcomp2 ["book"] ["word", "deep"] [] (defScope sBegins) rfl rfl rfl ⟨by decide +kernel, by decide +kernel, by decide +kernel, by decide +kernel, by decide +kernel⟩ (zpi_list (zpv 0)) (fun s H fp => (zpg_name (i := 0) (show List.Nodup [("word" : Str), "deep"] by decide +kernel) rfl (Or.inl rfl))) (fun s H fp => zpts_nil) (fun s H fp => (zpi_range1 (by rfl) B.range (zpac_f (zpe_callB call_len_str (by rfl) B.len PySem.boot_len (zpac_n (zpv 0) zpa_nil)) zpa_nil))) (fun s H fp => (zpg_name (i := 1) (show List.Nodup [("word" : Str), "deep"] by decide +kernel) rfl (Or.inl rfl))) (fun s H fp => zpts_nil) (fun s H fp => (zpe_slice sl_str (zpv 0) zpo_none (zpo_some (zpv 1)))) (fun s H fp => zpe_bl)) zpa_nil)))), ?_⟩
    refine ⟨_, rfl, a, rfl, ⟨_, SqL.of ha⟩, ?_⟩
    (intro D gD; generalize hEq : upd _ D _ = H1; refine newC hEq gD ?_; clear hEq; intro S1 eD o1)
    have at_ : ∀ {i : Nat} {y : V}, (txs ts)[i]? = some y → ∃ x, y = .str x ∧ ts[i]? = some x := fun {i y} e => by
      unfold txs at e
      rw [List.getElem?_map] at e
      obtain ⟨x, e1, e2⟩ := Option.map_eq_some_iff.mp e
      exact ⟨x, e2.symm, e1⟩
    refine lr_list (K := K) (S := a) (xs := txs ts) (fun i σ H' => (∃ v1 v2, σ = [v1, v2]) ∧ Same H H' ∧ ∃ kvs bs, H' D = some (.dK kvs) ∧ kvs.length ≤ 8 * i ∧ keysV kvs = txs bs ∧ ∀ s, s ∈ bs ↔ ∃ j x, j < i ∧ ts[j]? = some x ∧ ppf s x) ⟨⟨_, _, rfl⟩, S1, [], [], eD, Nat.le_refl _, rfl, fun s => ⟨nofun, fun ⟨j, _, h, _⟩ => absurd h (Nat.not_lt_zero _)⟩⟩ ?_ ?_ ?_
    · rintro i σ H2 ⟨_, k2, _⟩
      exact SqL.of (k2 _ _ ha)
    · rintro i y σ H2 C hi ⟨⟨v1, v2, rfl⟩, k2, kvs, bs, hD, hl, hk, hb⟩ nx
      obtain ⟨x, rfl, hx⟩ := at_ hi
      have xl := l8 x (List.mem_of_getElem? hx)
      refine ⟨_, rfl, x, rfl, Nat.le_trans xl (by decide), _, rfl, by omega, by omega, ?_⟩
      refine lr_range (fun k σ H' => (∃ v2, σ = [some (.str x), v2]) ∧ Same H H' ∧ ∃ kvs bs, H' D = some (.dK kvs) ∧ kvs.length ≤ 8 * i + k ∧ keysV kvs = txs bs ∧ ∀ s, s ∈ bs ↔ (∃ j x, j < i ∧ ts[j]? = some x ∧ ppf s x) ∨ ∃ m, m < k ∧ s = cutS x none (some (m : Int))) ⟨⟨_, rfl⟩, k2, kvs, bs, hD, by omega, hk, fun s => by rw [hb s]; exact ⟨.inl, fun h => h.elim id fun ⟨_, h, _⟩ => absurd h (Nat.not_lt_zero _)⟩⟩ ?_ ?_
      · rintro k σ H3 C2 hk' ⟨⟨v2, rfl⟩, k3, kvs', bs', hD', hl', hk2, hb'⟩ nx2
        have kl : k < x.length := by omega
        have dl : kvs'.length < sizeLine := by
          have : i < 20 := by
            have := (List.getElem?_eq_some_iff.mp hx).1
            omega
          exact Nat.lt_of_le_of_lt (show kvs'.length ≤ 168 by omega) (by decide)
        have zk : (0 : Int) + (k : Int) = (k : Int) := Int.zero_add _
        rw [zk]
        have kn := length_putK kvs' (Sum.inr (cutS x none (some (k : Int))) : Key) (V.bl true)
        have mk : ∀ s : Str, .str s ∈ keysV (putK kvs' (Sum.inr (cutS x none (some (k : Int))) : Key) (V.bl true)) ↔ s ∈ bs' ++ [cutS x none (some (k : Int))] := fun s => by
          have e1 : ∀ l : List (Key × V), V.str s ∈ keysV l ↔ (Sum.inr s : Key) ∈ l.map (·.1) := fun l => by
            unfold keysV
            rw [List.mem_map, List.mem_map]
            constructor
            · rintro ⟨p, hp, e⟩
              refine ⟨p, hp, ?_⟩
              cases hh : p.1 with
              | inl n => rw [hh] at e; cases e
              | inr t => rw [hh] at e; cases e; rfl
            · rintro ⟨p, hp, e⟩
              exact ⟨p, hp, by rw [e]; rfl⟩
          rw [e1, keys_put, ← e1, hk2, List.mem_append, List.mem_singleton]
          unfold txs
          rw [List.mem_map]
          constructor
          · rintro (h | ⟨z, hz, e⟩)
            · injection h with h; exact .inr h
            · cases e; exact .inl hz
          · rintro (h | h)
            · exact .inr ⟨s, h, rfl⟩
            · exact .inl (by rw [h])
        have al : ∀ y ∈ keysV (putK kvs' (Sum.inr (cutS x none (some (k : Int))) : Key) (V.bl true)), ∃ s, y = .str s := fun y hy => by
          unfold keysV at hy
          obtain ⟨p, hp, rfl⟩ := List.mem_map.mp hy
          have : p.1 ∈ (putK kvs' (Sum.inr (cutS x none (some (k : Int))) : Key) (V.bl true)).map (·.1) := List.mem_map_of_mem hp
          rcases (keys_put _ _ _ _).mp this with e | h
          · exact ⟨_, by rw [e]; rfl⟩
          · obtain ⟨p', hp', e⟩ := List.mem_map.mp h
            have : kV p'.1 ∈ keysV kvs' := List.mem_map.mpr ⟨p', hp', rfl⟩
            rw [hk2] at this
            obtain ⟨z, _, ez⟩ := List.mem_map.mp this
            exact ⟨z, by rw [← e]; exact ez.symm⟩
        obtain ⟨bs2, hbs2⟩ := all_str' al
        refine ⟨_, rfl, _, rfl, _, rfl, x, rfl, Nat.le_trans xl (by decide), .inr _, kvs', rfl, hD', dl, nx2 _ _ ⟨⟨_, rfl⟩, fun c o e => by rw [upd_ne (ne_of_none e gD)]; exact k3 _ _ e, _, bs2, upd_same, by omega, hbs2, fun s => ?_⟩⟩
        have m1 := mk s
        rw [hbs2] at m1
        have m2 : s ∈ bs2 ↔ V.str s ∈ txs bs2 := by
          unfold txs
          rw [List.mem_map]
          exact ⟨fun h => ⟨s, h, rfl⟩, fun ⟨z, hz, e⟩ => by cases e; exact hz⟩
        rw [m2, m1, List.mem_append, List.mem_singleton, hb' s]
        constructor
        · rintro ((h | ⟨m, hm, e⟩) | e)
          · exact .inl h
          · exact .inr ⟨m, by omega, e⟩
          · exact .inr ⟨k, by omega, e⟩
        · rintro (h | ⟨m, hm, e⟩)
          · exact .inl (.inl h)
          · by_cases c : m = k
            · exact .inr (by rw [e, c])
            · exact .inl (.inr ⟨m, by omega, e⟩)
      · rintro σ H3 ⟨⟨v2, rfl⟩, k3, kvs', bs', hD', hl', hk2, hb'⟩
        rw [Int.toNat_natCast] at hl' hb'
        refine nx _ _ ⟨⟨_, _, rfl⟩, k3, kvs', bs', hD', by omega, hk2, fun s => ?_⟩
        rw [hb' s, ← ppf_take]
        constructor
        · rintro (⟨j, z, hj, e, h⟩ | h)
          · exact ⟨j, z, by omega, e, h⟩
          · exact ⟨i, x, by omega, hx, h⟩
        · rintro ⟨j, z, hj, e, h⟩
          by_cases c : j = i
          · subst c; rw [hx] at e; cases e; exact .inr h
          · exact .inl ⟨j, z, by omega, e, h⟩
    · rintro σ H2 ⟨_, k2, kvs, bs, hD, hl, hk, hb⟩
      refine ⟨D, kvs, rfl, .inl hD, ?_⟩
      (intro L gL; generalize hEq : upd _ L _ = H3; refine newC hEq gL ?_; clear hEq; intro S3 eL o3)
      rw [hk] at eL
      have tl : (txs ts).length = ts.length := by unfold txs; rw [List.length_map]
      have bl : bs.length ≤ 160 := by
        have := congrArg List.length hk
        unfold keysV txs at this
        rw [List.length_map, List.length_map] at this
        omega
      refine q L bs H3 (k2.none gL) (k2.trans S3) eL bl fun s => ?_
      rw [hb s]
      constructor
      · rintro ⟨j, x, hj, e, h⟩
        exact ⟨x, List.mem_of_getElem? e, h⟩
      · rintro ⟨x, hx, h⟩
        obtain ⟨j, e⟩ := List.getElem?_of_mem hx
        refine ⟨j, x, ?_, e, h⟩
        unfold txs
        rw [List.length_map]
        exact (List.getElem?_eq_some_iff.mp e).1
def spBehind : Sp := fun vs H Q _ => ∃ (a : Addr) (ts : List Str) (b : Str), vs = [.ref a, .str b] ∧ H a = some (.lst (txs ts)) ∧ ts.length ≤ 20 ∧ (∀ t ∈ ts, t.length ≤ 8) ∧ (∀ t ∈ ts, pf b t → b.length < t.length) ∧ ∀ (l : Addr) (cs : List Nat) (H' : Hp), H l = none → Same H H' → H' l = some (.lst (txs (cs.map sg1))) → cs.Nodup → PyProof.Rows.sortedS (cs.map sg1) = true → (∀ c, c ∈ cs ↔ Nx ts b c) → Q (.ref l) H'
theorem scBd : FnScope ["book", "begin"] ["book", "begin"] (defScope sBehind) := ⟨rfl, rfl, rfl, by decide +kernel, rfl, by decide +kernel, by decide +kernel⟩
theorem ok_behind {f : Addr} {fd : FuncData} (F : FunG K "signs_behind" "signs_behind" sBehind .none f fd) (B : Bl mg) (msort : mg "sorted" = none) : FnOk P w K mg base (CXE P w) 1 f fd ["book", "begin"] spBehind := by
  refine F.zokN scBd (fun vs H Q E h => ?_) (fun cdv A outer s H vs Q E hr h => ?_)
  · obtain ⟨a, ts, b, rfl, _⟩ := h
    rfl
  · obtain ⟨a, ts, b, rfl, ha, l20, l8, lt, q⟩ := h
    refine ⟨_, (zpss_one (zps_ret (zpe_callB (call_sortedX rfl) (by rfl) msort PyProof.Rows.boot_sorted (zpac_x (zpe_setcompX ["book", "begin"] ["word"] [1] (defScope sBehind) rfl rfl rfl ⟨by decide +kernel, by decide +kernel, by decide +kernel, by decide +kernel, by decide +kernel⟩ (zpi_list (zpv 0)) (fun s H fp => (zpg_name (i := 0) (show List.Nodup [("word" : Str), "begin"] by decide +kernel) rfl (Or.inl rfl))) (fun s H fp => (zpts_one (zpt_val (zpe_bmK K rfl PySem.F.plainAttrs_str PySem.F.slot_str_startswith PySem.F.type_str_startswith mt_startswith (zpv 0) (zpac_n (zpv 1) zpa_nil))))) (fun s H fp => (zpe_ix ix_str (zpv 0) (zpe_callB call_len_str (by rfl) B.len PySem.boot_len (zpac_n (zpv 1) zpa_nil)) (fun _ _ => rfl)))) zpa_nil)))), ?_⟩
    refine ⟨_, rfl, a, rfl, ⟨_, SqL.of ha⟩, ?_⟩
    (intro D gD; generalize hEq : upd _ D _ = H1; refine newC hEq gD ?_; clear hEq; intro S1 eD o1)
    have at_ : ∀ {i : Nat} {y : V}, (txs ts)[i]? = some y → ∃ x, y = .str x ∧ ts[i]? = some x := fun {i y} e => by
      unfold txs at e
      rw [List.getElem?_map] at e
      obtain ⟨x, e1, e2⟩ := Option.map_eq_some_iff.mp e
      exact ⟨x, e2.symm, e1⟩
    refine lr_list (K := K) (S := a) (xs := txs ts) (fun i σ H' => (∃ v1, σ = [v1, some (.str b)]) ∧ Same H H' ∧ ∃ cs : List Nat, H' D = some (SetTX P w D (cs.map sg1)) ∧ cs.length ≤ i ∧ cs.Nodup ∧ ∀ c, c ∈ cs ↔ ∃ j x, j < i ∧ ts[j]? = some x ∧ pf (b ++ sg1 c) x) ⟨⟨_, rfl⟩, S1, [], eD, Nat.le_refl _, List.nodup_nil, fun s => ⟨nofun, fun ⟨j, _, h, _⟩ => absurd h (Nat.not_lt_zero _)⟩⟩ ?_ ?_ ?_
    · rintro i σ H2 ⟨_, k2, _⟩
      exact SqL.of (k2 _ _ ha)
    · rintro i y σ H2 C hi ⟨⟨v1, rfl⟩, k2, cs, hD, hl, nd, hb⟩ nx
      obtain ⟨x, rfl, hx⟩ := at_ hi
      have xl := l8 x (List.mem_of_getElem? hx)
      refine ⟨_, rfl, rfl, _, rfl, x, b, rfl, rfl, _, rfl, ?_⟩
      have no : ∀ (c : Nat), ¬ pf (b ++ sg1 c) x → (∀ d, d ∈ cs ↔ ∃ j y, j < i ∧ ts[j]? = some y ∧ pf (b ++ sg1 d) y) → (c ∈ cs ↔ ∃ j y, j < i + 1 ∧ ts[j]? = some y ∧ pf (b ++ sg1 c) y) := fun c n h => by
        rw [h c]
        constructor
        · rintro ⟨j, y, hj, e, h⟩
          exact ⟨j, y, by omega, e, h⟩
        · rintro ⟨j, y, hj, e, h⟩
          by_cases z : j = i
          · subst z; rw [hx] at e; cases e; exact absurd h n
          · exact ⟨j, y, by omega, e, h⟩
      by_cases sw : Txt.startswith x b = true
      · rw [sw]
        have pb := starts_iff.mp sw
        have bl := lt x (List.mem_of_getElem? hx) pb
        obtain ⟨c, hc⟩ : ∃ c, x.cps.toList[b.length]? = some c := ⟨_, List.getElem?_eq_getElem (by rw [len_cps]; exact bl)⟩
        refine iteT ⟨_, rfl, _, rfl, b, rfl, Nat.le_trans (Nat.le_of_lt (Nat.lt_of_lt_of_le bl xl)) (by decide), x, _, c, rfl, rfl, Nat.le_trans xl (by decide), atI_nat hc, sg1 c, _, rfl, hD, ?_, nx _ _ ⟨⟨_, rfl⟩, fun d o e => by rw [upd_ne (ne_of_none e gD)]; exact k2 _ _ e, if c ∈ cs then cs else cs ++ [c], ?_, ?_, ?_, fun d => ?_⟩⟩
        · rw [List.length_map]
          have := (List.getElem?_eq_some_iff.mp hx).1
          omega
        · have e : insT (sg1 c) (cs.map sg1) = (if c ∈ cs then cs else cs ++ [c]).map sg1 := by
            unfold insT
            by_cases m : c ∈ cs
            · rw [if_pos m, if_pos (List.mem_map_of_mem m)]
            · rw [if_neg m, if_neg (fun z => m (by obtain ⟨d, hd, e⟩ := List.mem_map.mp z; rw [← sg1_in e]; exact hd)), List.map_append]; rfl
          rw [e]; exact upd_same
        · by_cases m : c ∈ cs
          · rw [if_pos m]; omega
          · rw [if_neg m, List.length_append, List.length_singleton]; omega
        · by_cases m : c ∈ cs
          · rw [if_pos m]; exact nd
          · rw [if_neg m]
            exact List.nodup_append.mpr ⟨nd, by simp, fun y hy z hz e => m (by rw [List.mem_singleton.mp hz] at e; rw [← e]; exact hy)⟩
        · have md : d ∈ (if c ∈ cs then cs else cs ++ [c]) ↔ d ∈ cs ∨ d = c := by
            by_cases m : c ∈ cs
            · rw [if_pos m]
              exact ⟨.inl, fun h => h.elim id fun e => by rw [e]; exact m⟩
            · rw [if_neg m, List.mem_append, List.mem_singleton]
          rw [md]
          by_cases dc : d = c
          · subst dc
            exact ⟨fun _ => ⟨i, x, by omega, hx, pf_snoc.mpr ⟨pb, hc⟩⟩, fun _ => .inr rfl⟩
          · rw [← no d (fun z => dc (by have := (pf_snoc.mp z).2; rw [hc] at this; cases this; rfl)) hb]
            exact ⟨fun h => h.elim id fun z => absurd z dc, .inl⟩
      · rw [Bool.eq_false_iff.mpr sw]
        exact iteF (nx _ _ ⟨⟨_, rfl⟩, k2, cs, hD, by omega, nd, fun c => no c (fun z => sw (starts_iff.mpr (pf_snoc.mp z).1)) hb⟩)
    · rintro σ H2 ⟨⟨v1, rfl⟩, k2, cs, hD, hl, nd, hb⟩
      have tl : (txs ts).length = ts.length := by unfold txs; rw [List.length_map]
      have nm : (cs.map sg1).Nodup := nd_sg nd
      refine ⟨D, cs.map sg1, rfl, hD, nm, by rw [List.length_map]; omega, fun us p pm sd np => ?_⟩
      obtain ⟨ds, rfl, dp⟩ : ∃ ds : List Nat, us = ds.map sg1 ∧ ds.Perm cs := perm_sg pm
      refine q p ds _ (k2.none np) (k2.trans (same_upd np)) upd_same (dp.nodup_iff.mpr nd) sd fun c => ?_
      rw [dp.mem_iff, hb c]
      constructor
      · rintro ⟨j, x, hj, e, h⟩
        exact ⟨x, List.mem_of_getElem? e, h⟩
      · rintro ⟨x, hx, h⟩
        obtain ⟨j, e⟩ := List.getElem?_of_mem hx
        exact ⟨j, x, by rw [tl]; exact (List.getElem?_eq_some_iff.mp e).1, e, h⟩
end
end G1
namespace G1
open PySem L2 GM
structure RdC (K : PySem.W.Frag) (C : Addr) : Prop where
  cl : Cls K C
  a1 : NoAttr K C "numbers"
  a2 : NoAttr K C "comers"
  a3 : NoAttr K C "behind"
  a4 : NoAttr K C "taken"
def Nums (H : Hp) (d : Addr) (ts : List Str) : Prop := ∃ kvs, H d = some (.dK kvs) ∧ (∀ (i : Nat) (s : Str), ts[i]? = some s → valV kvs (.inr s : Key) = some (.int i)) ∧ ∀ s, s ∉ ts → valV kvs (.inr s : Key) = none
def Coms (H : Hp) (d : Addr) (ts : List Str) : Prop := ∃ kvs, H d = some (.dK kvs) ∧ ∀ s, Am ts s → ∃ (l : Addr) (cs : List Nat), valV kvs (.inr s : Key) = some (.ref l) ∧ H l = some (.lst (txs (cs.map sg1))) ∧ cs.Nodup ∧ PyProof.Rows.sortedS (cs.map sg1) = true ∧ ∀ c, c ∈ cs ↔ Nx ts s c
def rdF (dn dc : Addr) (s : Str) (n : Int) : List (Str × V) := [("numbers", .ref dn), ("comers", .ref dc), ("behind", .str s), ("taken", .int n)]
structure Rdr (H : Hp) (a C : Addr) (ts : List Str) (d : Addr × Addr × Addr) (s : Str) (n : Int) : Prop where
  ins : H a = some (.ins C d.1 (rdF d.2.1 d.2.2 s n))
  nums : Nums H d.2.1 ts
  coms : Coms H d.2.2 ts
  am : Am ts s
  e0 : Am ts ""
  l8 : ∀ t ∈ ts, t.length ≤ 8
def ExtA (a : Addr) (H H' : Hp) : Prop := ∀ b o, b ≠ a → H b = some o → H' b = some o
def Stp (ts : List Str) (t : Str) (v : V) (s' : Str) : Prop := (∃ i : Nat, ts[i]? = some t ∧ v = .int i ∧ s' = "") ∨ (t ∉ ts ∧ v = .non ∧ s' = t)
theorem put_taken {dn dc : Addr} {s : Str} {n m : Int} : putF "taken" (.int m) (rdF dn dc s n) = rdF dn dc s m := rfl
theorem put_behind {dn dc : Addr} {s t : Str} {n : Int} : putF "behind" (.str t) (rdF dn dc s n) = rdF dn dc t n := rfl
theorem updE {H H' : Hp} {a : Addr} {o : HO} (h : upd H a o = H') : H' a = some o ∧ ∀ b, b ≠ a → H' b = H b := by
  subst h
  exact ⟨upd_same, fun b hb => upd_ne hb⟩
theorem ExtA.refl {a : Addr} {H : Hp} : ExtA a H H := fun _ _ _ h => h
theorem ExtA.trans {a : Addr} {H H1 H2 : Hp} (k : ExtA a H H1) (l : ExtA a H1 H2) : ExtA a H H2 := fun b o n e => l b o n (k b o n e)
theorem ExtA.of {a : Addr} {H H' : Hp} (h : ∀ b, b ≠ a → H' b = H b) : ExtA a H H' := fun b o n e => (h b n).trans e
theorem ExtA.same {a : Addr} {H H' : Hp} (h : Same H H') : ExtA a H H' := fun b o _ e => h b o e
theorem Nums.ext {H H' : Hp} {d : Addr} {ts : List Str} (h : Nums H d ts) (k : ∀ o, (∃ kvs, o = .dK kvs) → H d = some o → H' d = some o) : Nums H' d ts := by
  obtain ⟨kvs, e, r⟩ := h
  exact ⟨kvs, k _ ⟨_, rfl⟩ e, r⟩
theorem Coms.ext {H H' : Hp} {d : Addr} {ts : List Str} (h : Coms H d ts) (k : ∀ b o, ((∃ kvs, o = .dK kvs) ∨ ∃ xs, o = .lst xs) → H b = some o → H' b = some o) : Coms H' d ts := by
  obtain ⟨kvs, e, r⟩ := h
  refine ⟨kvs, k _ _ (.inl ⟨_, rfl⟩) e, fun s hs => ?_⟩
  obtain ⟨l, cs, h1, h2, h3⟩ := r s hs
  exact ⟨l, cs, h1, k _ _ (.inr ⟨_, rfl⟩) h2, h3⟩
theorem ExtA.ni {a : Addr} {H H' : Hp} {C dx : Addr} {fs : List (Str × V)} (k : ExtA a H H') (ha : H a = some (.ins C dx fs)) : ∀ b o, ((∃ kvs, o = .dK kvs) ∨ ∃ xs, o = .lst xs) → H b = some o → H' b = some o := fun b o w e => k b o (fun z => by
  rw [z, ha] at e
  cases e
  rcases w with ⟨_, w⟩ | ⟨_, w⟩ <;> cases w) e
theorem Am.lt {ts : List Str} {s : Str} (h : Am ts s) (l8 : ∀ t ∈ ts, t.length ≤ 8) : s.length < 8 := by
  obtain ⟨x, hx, _, l⟩ := h
  exact Nat.lt_of_lt_of_le l (l8 x hx)
theorem pf_eq {s x : Str} (h : pf s x) (l : ¬ s.length < x.length) : s = x := by
  apply str_ext
  refine List.IsPrefix.eq_of_length h ?_
  have := h.length_le
  rw [len_cps, len_cps] at *
  omega
theorem Nx.stay {ts : List Str} {s : Str} {c : Nat} (h : Nx ts s c) (n : s ++ sg1 c ∉ ts) : Am ts (s ++ sg1 c) := by
  obtain ⟨x, hx, p⟩ := h
  refine ⟨x, hx, p, ?_⟩
  refine Decidable.byContradiction fun l => n ?_
  rw [pf_eq p l]; exact hx
section
variable {P : Program} {w : World} {K : PySem.W.Frag} {mg : Str → Option Value} {base : Heap}
theorem fig1000 : ∀ j : Fin 1001, (Str.ofString (toString ((j.val : Nat) : Int))).length ≤ 700 := by decide +kernel
theorem shown1000 {n : Nat} (h : n ≤ 1000) : ∃ y, Shown (.int (n : Int)) y ∧ y.length ≤ 700 :=
  ⟨_, .int (Nat.lt_of_le_of_lt (Nat.log2_le_self _) (show ((n : Int)).natAbs < 1920 by omega)), fig1000 ⟨n, by omega⟩⟩
def spPut (CS C : Addr) : Sp := fun vs H Q E => ∃ (a : Addr) (c : Nat) (ts : List Str) (d : Addr × Addr × Addr) (s : Str) (n : Nat), vs = [.ref a, .str (sg1 c)] ∧ Rdr H a C ts d s (n : Int) ∧ n ≤ 1000 ∧ (Nx ts s c → ∀ v s' H', Stp ts (s ++ sg1 c) v s' → Rdr H' a C ts d s' ((n : Int) + 1) → ExtA a H H' → Q v H') ∧
  (¬ Nx ts s c → ∀ dx H', Same H H' → H' dx = some (.xd [("place", .int (n : Int))]) → E (.ref CS) (some dx) H')
theorem scPu : FnScope ["self", "sign", "number"] ["self", "sign"] (defScope sPut) := ⟨rfl, rfl, rfl, by decide +kernel, rfl, by decide +kernel, by decide +kernel⟩
theorem ok_put {c : List Addr} {CR fI f : Addr} {fd : FuncData} (F : FunG K "put_sign" "Reader.put_sign" sPut .none f fd) (B : Bl mg) (R : RdC K CR) (C : Cl K mg c) (IK : InitK P w K mg (c.getD 1 0) fI "place") : FnOk P w K mg base (CXE P w) 2 f fd ["self", "sign"] (spPut (c.getD 1 0) CR) := by
  refine F.zokE scPu (fun vs H Q E h => ?_) (fun cdv A outer s H vs Q E hr h => ?_)
  · obtain ⟨a, c, ts, d, s, n, rfl, _⟩ := h
    rfl
  · obtain ⟨a, c, ts, d, s, n, rfl, rd, nb, q, qe⟩ := h
    refine ⟨_, (zpss_cons (zps_if (zpt_cmpR op_notIn_seq (zpv 1) (zpe_dget hr.units1 (zpe_fld (zpv 0)) (zpe_fld (zpv 0)) (fun _ _ => rfl)) rfl) (zpss_one (zps_raiseI (k := 0) hr (by rfl) C.c1 IK (zpac_x (zpe_fld (zpv 0)) zpa_nil))) zpss_nil)
      (zpss_cons (zps_fldaug (zpv 0) zpe_int in_add)
      (zpss_cons (zps_fldaug (zpv 0) (zpv 1) in_addS)
      (zpss_cons (zps_set (i := 2) scPu.nd rfl (Or.inl rfl) (zpe_dget1 hr.units1 (zpe_fld (zpv 0)) (zpe_fld (zpv 0))))
      (zpss_cons (zps_if (zpt_cmp (zpc_notN (zpv 2))) (zpss_one (zps_fld (zpv 0) zpe_str)) zpss_nil)
      (zpss_one (zps_ret (zpv 2)))))))), ?_⟩
    obtain ⟨dx, dn, dc⟩ := d
    obtain ⟨ha, hn, hc⟩ : H a = some (.ins CR dx (rdF dn dc s n)) ∧ Nums H dn ts ∧ Coms H dc ts := ⟨rd.ins, rd.nums, rd.coms⟩
    obtain ⟨kvn, en, n1, n2⟩ := id hn
    obtain ⟨kvc, ec, c1⟩ := id hc
    obtain ⟨l, cs, v1, el, nd, sd, mem⟩ := c1 s rd.am
    have gt : DGet H dc (.str s) (some (.ref l)) := by
      have := DGet.k (k := (.inr s : Key)) ec
      rw [v1] at this; exact this
    refine ⟨_, rfl, _, rfl, a, CR, dx, _, .ref dc, rfl, ha, R.cl, R.a2, rfl, _, rfl, a, CR, dx, _, .str s, rfl, ha, R.cl, R.a3, rfl, dc, .ref l, rfl, gt, l, _, rfl, .inl (SqL.of el), rfl, txs_flat _, ?_⟩
    rw [inV_txs]
    by_cases nx : Nx ts s c
    case neg =>
      rw [decide_eq_false (fun z => nx ((mem c).mp (by obtain ⟨e, he, z⟩ := List.mem_map.mp z; rw [← sg1_in z]; exact he)))]
      exact ⟨_, rfl, iteT ⟨_, rfl, a, CR, dx, _, .int n, rfl, ha, R.cl, R.a4, rfl, .int n, rfl, shown1000 nb, fun dx' hd => qe nx dx' _ (same_upd hd) upd_same⟩⟩
    replace q := q nx
    rw [decide_eq_true (List.mem_map_of_mem ((mem c).mpr nx))]
    refine ⟨_, rfl, iteF ?_⟩
    refine ⟨_, rfl, a, CR, dx, _, .int n, rfl, ha, R.cl, R.a4, rfl, n, 1, rfl, rfl, dx, _, ha, (show (4 : Nat) < 1000 by decide), ?_⟩
    rw [put_taken]
    generalize hE1 : upd H a _ = H1
    obtain ⟨e1, o1⟩ := updE hE1
    have sl := rd.am.lt rd.l8
    have len : s.length + (sg1 c).length ≤ sizeLine := Nat.le_trans (show s.length + 1 ≤ 9 by omega) (by decide)
    refine ⟨_, rfl, a, CR, dx, _, .str s, rfl, e1, R.cl, R.a3, rfl, _, rfl, s, sg1 c, rfl, rfl, len, dx, _, e1, (show (4 : Nat) < 1000 by decide), ?_⟩
    rw [put_behind]
    generalize hE2 : upd H1 a _ = H2
    obtain ⟨e2, o2⟩ := updE hE2
    have k2 : ExtA a H H2 := (ExtA.of o1).trans (ExtA.of o2)
    have en2 := k2.ni ha _ _ (.inl ⟨_, rfl⟩) en
    have gn : DGet H2 dn (.str (s ++ sg1 c)) (valV kvn (.inr (s ++ sg1 c) : Key)) := DGet.k (k := (.inr (s ++ sg1 c) : Key)) en2
    refine ⟨_, rfl, a, CR, dx, _, .ref dn, rfl, e2, R.cl, R.a1, rfl, dn, rfl, .inl ⟨_, .inl en2⟩, _, rfl, a, CR, dx, _, .str (s ++ sg1 c), rfl, e2, R.cl, R.a3, rfl, _, gn, ?_⟩
    by_cases m : s ++ sg1 c ∈ ts
    · obtain ⟨i, hi⟩ := List.getElem?_of_mem m
      rw [n1 i _ hi]
      refine ⟨_, rfl, _, rfl, iteT ?_⟩
      refine ⟨_, rfl, a, CR, dx, _, rfl, e2, R.cl, R.a3, (show (4 : Nat) < 1000 by decide), ?_⟩
      rw [put_behind]
      generalize hE3 : upd H2 a _ = H3
      obtain ⟨e3, o3⟩ := updE hE3
      have k3 := k2.trans (ExtA.of o3)
      exact ⟨_, rfl, q (.int i) "" H3 (.inl ⟨i, hi, rfl, rfl⟩) ⟨e3, hn.ext fun o w e => k3.ni ha _ _ (.inl w) e, hc.ext (k3.ni ha), rd.e0, rd.e0, rd.l8⟩ k3⟩
    · rw [n2 _ m]
      refine ⟨_, rfl, _, rfl, iteF ?_⟩
      exact ⟨_, rfl, q .non _ H2 (.inr ⟨m, rfl, rfl⟩) ⟨e2, hn.ext fun o w e => k2.ni ha _ _ (.inl w) e, hc.ext (k2.ni ha), nx.stay m, rd.e0, rd.l8⟩ k2⟩
def spAmid (C : Addr) : Sp := fun vs H Q _ => ∃ (a : Addr) (ts : List Str) (d : Addr × Addr × Addr) (s : Str) (n : Int), vs = [.ref a] ∧ Rdr H a C ts d s n ∧ Q (.str s) H
theorem scAm : FnScope ["self"] ["self"] (defScope sAmid) := ⟨rfl, rfl, rfl, by decide +kernel, rfl, by decide +kernel, by decide +kernel⟩
theorem ok_amid {CR f : Addr} {fd : FuncData} (F : FunG K "amid" "Reader.amid" sAmid .none f fd) (R : RdC K CR) : FnOk P w K mg base (CXE P w) 1 f fd ["self"] (spAmid CR) := by
  refine F.zokN scAm (fun vs H Q E h => ?_) (fun cdv A outer s H vs Q E hr h => ?_)
  · obtain ⟨a, ts, d, s, n, rfl, _⟩ := h
    rfl
  · obtain ⟨a, ts, d, s, n, rfl, rd, q⟩ := h
    refine ⟨_, (zpss_one (zps_ret (zpe_fld (zpv 0)))), ?_⟩
    exact ⟨_, rfl, a, CR, d.1, _, .str s, rfl, rd.ins, R.cl, R.a3, rfl, q⟩
theorem nameB_len {t : Str} (h : nameB (.str t) = true) : t.length ≤ 8 := by
  unfold nameB at h
  exact of_decide_eq_true (Bool.and_eq_true_iff.mp (Bool.and_eq_true_iff.mp h).2).1
theorem GB.thb {H : Hp} {x : V} {a : Addr} {ts : List Str} (h : GB H x a ts) : ThB H x := by
  refine ⟨by rw [h.ref]; exact .lst h.at_, fun b xs e e' y hy => ?_⟩
  have := h.ref
  rw [e] at this
  injection this with this
  subst this
  rw [h.at_] at e'; cases e'
  obtain ⟨t, m, rfl⟩ := List.mem_map.mp hy
  exact Pt.text (Nat.le_trans (nameB_len (h.nm t m)) (by decide))
theorem GB.nodup {H : Hp} {x : V} {a : Addr} {ts : List Str} (g : GB H x a ts) {i j : Nat} {s : Str} (hi : ts[i]? = some s) (hj : ts[j]? = some s) : i = j :=
  Decidable.byContradiction fun n => g.no i j ⟨s, s, hi, hj, n, List.prefix_refl _⟩
theorem GB.len8 {H : Hp} {x : V} {a : Addr} {ts : List Str} (g : GB H x a ts) : ∀ t ∈ ts, t.length ≤ 8 := fun t m => nameB_len (g.nm t m)
theorem GB.longer {H : Hp} {x : V} {a : Addr} {ts : List Str} (g : GB H x a ts) {s t : Str} (h : Am ts s) (m : t ∈ ts) (p : pf s t) : s.length < t.length := by
  obtain ⟨y, hy, p2, l⟩ := h
  refine Decidable.byContradiction fun n => ?_
  have e := pf_eq p n
  subst e
  obtain ⟨i, hi⟩ := List.getElem?_of_mem m
  obtain ⟨j, hj⟩ := List.getElem?_of_mem hy
  refine g.no i j ⟨s, y, hi, hj, fun z => ?_, p2⟩
  subst z
  rw [hi] at hj; cases hj
  exact Nat.lt_irrefl _ l
theorem GB.am0 {H : Hp} {x : V} {a : Addr} {ts : List Str} (g : GB H x a ts) : Am ts "" := by
  have l := g.l1
  match ts, g, l with
  | t :: ts, g, _ =>
    refine ⟨t, by simp, ⟨t.cps.toList, rfl⟩, ?_⟩
    have := g.nm t (by simp)
    unfold nameB at this
    simp at this
    show 0 < t.length
    refine Nat.pos_of_ne_zero fun z => ?_
    have e : t = "" := str_ext (by
      have : t.cps.toList.length = 0 := by rw [len_cps]; exact z
      rw [List.length_eq_zero_iff.mp this]; rfl)
    simp [e] at this
theorem Rdr.at {H H' : Hp} {a C : Addr} {ts : List Str} {d : Addr × Addr × Addr} {s s' : Str} {n n' : Int} (r : Rdr H a C ts d s n) (k : ExtA a H H') (h : H' a = some (.ins C d.1 (rdF d.2.1 d.2.2 s' n'))) (m : Am ts s') : Rdr H' a C ts d s' n' :=
  ⟨h, r.nums.ext fun o w e => k.ni r.ins _ _ (.inl w) e, r.coms.ext (k.ni r.ins), m, r.e0, r.l8⟩
def spInit (C T1 T2 : Addr) : Sp := fun vs H Q _ => ∃ (x dx L : Addr) (ts : List Str), vs = [.ref x, .ref L] ∧ H x = some (.ins C dx []) ∧ GB H (.ref L) L ts ∧ Tab T1 H ∧ Tab T2 H ∧ ∀ d H', Rdr H' x C ts d "" 0 → (∀ b o, b ≠ x → H b = some o → (∀ ps, o ≠ .tbl ps) → H' b = some o) → Tab T1 H' → Tab T2 H' → Q .non H'
theorem scIn : FnScope ["self", "book"] ["self", "book"] (defScope sInit) := ⟨rfl, rfl, rfl, by decide +kernel, rfl, by decide +kernel, by decide +kernel⟩
theorem ok_init {CR CB T1 T2 : Addr} {f fG fH fZ : Addr} {fd fdG fdH fdZ : FuncData} (F : FunG K "__init__" "Reader.__init__" sInit .none f fd) (B : Bl mg) (R : RdC K CR)
    (GG : FnOk P w K mg base (CXE P w) 1 fG fdG ["book"] spBegins) (mG : mg "begins_of" = some (.ref fG)) (kG : PySem.W.keepIn K (.ref fG) = true) (bG : Binds K fdG ["book"] [])
    (GH : FnOk P w K mg base (CXE P w) 1 fH fdH ["book", "begin"] spBehind) (mH : mg "signs_behind" = some (.ref fH)) (kH : PySem.W.keepIn K (.ref fH) = true) (bH : Binds K fdH ["book", "begin"] [])
    (GZ : FnOk P w K mg base (CXE P w) 4 fZ fdZ ["thing"] (spPlainB CB T1 T2)) (mZ : mg "look_at_plain_book" = some (.ref fZ)) (kZ : PySem.W.keepIn K (.ref fZ) = true) (bZ : Binds K fdZ ["thing"] []) : FnOk P w K mg base (CXE P w) 5 f fd ["self", "book"] (spInit CR T1 T2) := by
  refine F.zokN scIn (fun vs H Q E h => ?_) (fun cdv A outer s H vs Q E hr h => ?_)
  · obtain ⟨x, dx, L, ts, rfl, _⟩ := h
    rfl
  · obtain ⟨x, dx, L, ts, rfl, hx, gb, t1, t2, q⟩ := h
    refine ⟨_, (zpss_cons (zps_expr (zpe_call GZ hr (by rfl) mZ kZ bZ .nil passE0 (zpac_n (zpv 1) zpa_nil)))
      (zpss_cons (zps_fld (zpv 0) (zpe_dictcomp ["self", "book"] ["number", "word"] [] (defScope sInit) rfl rfl rfl ⟨by decide +kernel, by decide +kernel, by decide +kernel, by decide +kernel, by decide +kernel⟩ (zpi_enum (by rfl) B.enum (zpac_n (zpv 1) zpa_nil)) (fun s H fp => (zpg_tupK K 2 rfl rfl (zpgs_cons (zpg_name (i := 0) (show List.Nodup [("number" : Str), "word"] by decide +kernel) rfl (Or.inl rfl)) (zpgs_cons (zpg_name (i := 1) (show List.Nodup [("number" : Str), "word"] by decide +kernel) rfl (Or.inl rfl)) zpgs_nil)))) (fun s H fp => zpts_nil) (fun s H fp => (zpv 1)) (fun s H fp => (zpv 0))))
      (zpss_cons (zps_fld (zpv 0) (zpe_dictcomp ["self", "book"] ["begin"] [1] (defScope sInit) rfl rfl rfl ⟨by decide +kernel, by decide +kernel, by decide +kernel, by decide +kernel, by decide +kernel⟩ (zpi_list (zpe_call GG (hr.mono (by decide)) (by rfl) mG kG bG .nil passE0 (zpac_n (zpv 1) zpa_nil))) (fun s H fp => (zpg_name (i := 0) (show List.Nodup [("begin" : Str), "book"] by decide +kernel) rfl (Or.inl rfl))) (fun s H fp => zpts_nil) (fun s H fp => (zpv 0)) (fun s H fp => (zpe_call GH (hr.mono (by decide)) (by rfl) mH kH bH .nil passE0 (zpac_n (zpv 1) (zpac_n (zpv 0) zpa_nil))))))
      (zpss_cons (zps_fld (zpv 0) zpe_str)
      (zpss_one (zps_fld (zpv 0) zpe_int)))))), ?_⟩
    have bad : ∀ {A : Prop}, (∀ a us, ¬ GB H (.ref L) a us) → A := fun n => absurd gb (n _ _)
    refine ⟨_, rfl, .ref L, rfl, gb.thb, t1, t2, fun a' us H1 _ k1 u1 u2 => ?_, fun H1 n _ _ _ => bad n⟩
    have hL1 := k1.lst gb.at_
    have hx1 := k1 _ _ hx nofun
    have l8 := gb.len8
    have tl : (txs ts).length = ts.length := by unfold txs; rw [List.length_map]
    have at_ : ∀ {us : List Str} {i : Nat} {y : V}, (txs us)[i]? = some y → ∃ x, y = .str x ∧ us[i]? = some x := fun {us i y} e => by
      unfold txs at e
      rw [List.getElem?_map] at e
      obtain ⟨x, e1, e2⟩ := Option.map_eq_some_iff.mp e
      exact ⟨x, e2.symm, e1⟩
    refine ⟨_, rfl, L, rfl, ⟨_, SqL.of hL1⟩, ?_⟩
    (intro D gD; generalize hEq : upd _ D _ = H2; refine newC hEq gD ?_; clear hEq; intro S2 eD o2)
    refine lr_enum (K := K) (S := L) (xs := txs ts) (fun i σ H' => (∃ v1 v2, σ = [v1, v2]) ∧ Same H1 H' ∧ ∃ kvs, H' D = some (.dK kvs) ∧ kvs.length ≤ i ∧ (∀ (j : Nat) (s : Str), j < i → ts[j]? = some s → valV kvs (.inr s : Key) = some (.int j)) ∧ ∀ s, (∀ j, j < i → ts[j]? ≠ some s) → valV kvs (.inr s : Key) = none) ⟨⟨_, _, rfl⟩, S2, [], eD, Nat.le_refl _, fun _ _ h => absurd h (Nat.not_lt_zero _), fun _ _ => rfl⟩ ?_ ?_ ?_
    · rintro i σ H' ⟨_, k, _⟩
      exact SqL.of (k _ _ hL1)
    · rintro i y t σ H' C hi ⟨⟨v1, v2, rfl⟩, k, kvs, hD, hl, h1, h2⟩ ht nx
      obtain ⟨z, rfl, hz⟩ := at_ hi
      have k' := k.trans (same_upd (o := .tup [.int i, .str z]) ht)
      have il := (List.getElem?_eq_some_iff.mp hz).1
      have l20 := gb.l2
      have tD : D ≠ t := ne_of_none hD ht
      refine ⟨t, _, rfl, SqT.of upd_same, rfl, _, _, rfl, _, _, rfl, rfl, ?_⟩
      refine ⟨_, rfl, _, rfl, .inr z, kvs, rfl, by rw [upd_ne tD]; exact hD, Nat.lt_of_le_of_lt (show kvs.length ≤ 20 by omega) (by decide), nx _ _ ⟨⟨_, _, rfl⟩, fun c o e => by rw [upd_ne (ne_of_none e gD)]; exact k' _ _ e, _, upd_same, Nat.le_trans (length_putK _ _ _) (by omega), fun j s hj e => ?_, fun s hs => ?_⟩⟩
      · rw [valV_put]
        by_cases c : (.inr s : Key) = .inr z
        · injection c with c
          subst c
          rw [if_pos rfl, gb.nodup e hz]
        · rw [if_neg c]
          refine h1 j s (Nat.lt_of_le_of_ne (by omega) fun q => c ?_) e
          subst q; rw [hz] at e; cases e; rfl
      · rw [valV_put, if_neg (fun c => by injection c with c; subst c; exact hs i (by omega) hz)]
        exact h2 s fun j hj => hs j (by omega)
    rintro σ2 H3 ⟨_, k3, kvn, hD3, _, n1, n2⟩
    have hx3 := k3 _ _ hx1
    refine ⟨_, rfl, x, CR, dx, _, rfl, hx3, R.cl, R.a1, (show (0 : Nat) < 1000 by decide), ?_⟩
    generalize hE4 : upd H3 x _ = H4
    obtain ⟨e4, o4⟩ := updE hE4
    have hL4 : H4 L = some (.lst (txs ts)) := by
      rw [o4 L (fun z => by rw [z, hx1] at hL1; cases hL1)]; exact k3 _ _ hL1
    refine ⟨_, rfl, L, ts, rfl, hL4, gb.l2, l8, fun B0 bs H5 nB k5 eB bl bm => ?_⟩
    refine ⟨B0, rfl, ⟨_, SqL.of eB⟩, ?_⟩
    (intro D2 gD2; generalize hEq : upd _ D2 _ = H6; refine newC hEq gD2 ?_; clear hEq; intro S6 eD2 o6)
    have hL5 := k5 _ _ hL4
    refine lr_list (K := K) (S := B0) (xs := txs bs) (fun i σ H' => (∃ v1, σ = [v1, some (.ref L)]) ∧ Same H5 H' ∧ ∃ kvs, H' D2 = some (.dK kvs) ∧ kvs.length ≤ i ∧ ∀ (j : Nat) (s : Str), j < i → bs[j]? = some s → ∃ (l : Addr) (cs : List Nat), valV kvs (.inr s : Key) = some (.ref l) ∧ H' l = some (.lst (txs (cs.map sg1))) ∧ cs.Nodup ∧ PyProof.Rows.sortedS (cs.map sg1) = true ∧ ∀ c, c ∈ cs ↔ Nx ts s c) ⟨⟨_, rfl⟩, S6, [], eD2, Nat.le_refl _, fun _ _ h => absurd h (Nat.not_lt_zero _)⟩ ?_ ?_ ?_
    · rintro i σ H' ⟨_, k, _⟩
      exact SqL.of (k _ _ eB)
    · rintro i y σ H' C hi ⟨⟨v1, rfl⟩, k, kvs, hD, hl, h1⟩ nx
      obtain ⟨z, rfl, hz⟩ := at_ hi
      have az := (bm z).mp (List.mem_of_getElem? hz)
      have il := (List.getElem?_eq_some_iff.mp hz).1
      refine ⟨_, rfl, _, rfl, _, rfl, L, ts, z, rfl, k _ _ hL5, gb.l2, l8, fun t m p => gb.longer az m p, fun l cs H'' nl k'' el nd sd mem => ?_⟩
      have hD'' := k'' _ _ hD
      have lD : ∀ {l : Addr} {xs : List V}, H'' l = some (.lst xs) → l ≠ D2 := fun e z => by rw [z, hD''] at e; cases e
      refine ⟨.inr z, kvs, rfl, hD'', Nat.lt_of_le_of_lt (show kvs.length ≤ 160 by omega) (by decide), nx _ _ ⟨⟨_, rfl⟩, fun c o e => by rw [upd_ne (ne_of_none e gD2)]; exact k'' _ _ (k _ _ e), _, upd_same, Nat.le_trans (length_putK _ _ _) (by omega), fun j s hj e => ?_⟩⟩
      by_cases c : (.inr s : Key) = .inr z
      · injection c with c
        subst c
        exact ⟨l, cs, by rw [valV_put, if_pos rfl], by rw [upd_ne (lD el)]; exact el, nd, sd, mem⟩
      · obtain ⟨l', cs', a1, a2, a3⟩ := h1 j s (Nat.lt_of_le_of_ne (by omega) fun q => c (by subst q; rw [hz] at e; cases e; rfl)) e
        have a2 := k'' _ _ a2
        exact ⟨l', cs', by rw [valV_put, if_neg c]; exact a1, by rw [upd_ne (lD a2)]; exact a2, a3⟩
    rintro σ5 H7 ⟨_, k7, kvc, hD7, _, c1⟩
    have blen : (txs bs).length = bs.length := by unfold txs; rw [List.length_map]
    have k47 : Same H4 H7 := k5.trans k7
    refine ⟨_, rfl, x, CR, dx, _, rfl, k47 _ _ e4, R.cl, R.a2, (show (1 : Nat) < 1000 by decide), ?_⟩
    generalize hE8 : upd H7 x _ = H8
    obtain ⟨e8, o8⟩ := updE hE8
    refine ⟨_, rfl, x, CR, dx, _, rfl, e8, R.cl, R.a3, (show (2 : Nat) < 1000 by decide), ?_⟩
    generalize hE9 : upd H8 x _ = H9
    obtain ⟨e9, o9⟩ := updE hE9
    refine ⟨_, rfl, x, CR, dx, _, rfl, e9, R.cl, R.a4, (show (3 : Nat) < 1000 by decide), ?_⟩
    generalize hE10 : upd H9 x _ = H10
    obtain ⟨e10, o10⟩ := updE hE10
    have k7' : ∀ b, b ≠ x → H10 b = H7 b := fun b n => by rw [o10 b n, o9 b n, o8 b n]
    have k3' : ∀ b o, b ≠ x → H3 b = some o → H10 b = some o := fun b o n e => by rw [k7' b n]; exact k47 _ _ (by rw [o4 b n]; exact e)
    have Dx : D ≠ x := fun z => by rw [z, hx3] at hD3; cases hD3
    have hx7 := k47 _ _ e4
    have D2x : D2 ≠ x := fun z => by rw [z, hx7] at hD7; cases hD7
    have tab : ∀ {T : Addr}, Tab T H1 → Tab T H10 := fun {T} h => by
      obtain ⟨ps, e, tr⟩ := h
      exact ⟨ps, k3' _ _ (fun z => by rw [z, hx1] at e; cases e) (k3 _ _ e), tr⟩
    refine q (dx, D, D2) H10 ⟨e10, ⟨kvn, k3' _ _ Dx hD3, fun i s h => n1 i s (by rw [tl]; exact (List.getElem?_eq_some_iff.mp h).1) h, fun s m => n2 s fun j _ h => m (List.mem_of_getElem? h)⟩, ⟨kvc, by rw [k7' _ D2x]; exact hD7, fun s hs => ?_⟩, gb.am0, gb.am0, l8⟩ (fun b o n e nt => k3' _ _ n (k3 _ _ (k1 _ _ e nt))) (tab u1) (tab u2)
    obtain ⟨j, hj⟩ := List.getElem?_of_mem ((bm s).mpr hs)
    obtain ⟨l, cs, a1, a2, a3⟩ := c1 j s (by rw [blen]; exact (List.getElem?_eq_some_iff.mp hj).1) hj
    exact ⟨l, cs, a1, by rw [k7' l (fun z => by rw [z, hx7] at a2; cases a2)]; exact a2, a3⟩
end
end G1
namespace G1
open PySem L2 GM
open Classical in
noncomputable def stp (ts : List Str) (q : List Nat × Str) (c : Nat) : Option (List Nat × Str) :=
  if Nx ts q.2 c then (match ts.findIdx? (fun t => decide (t = q.2 ++ sg1 c)) with
    | some i => some (q.1 ++ [i], ("" : Str))
    | none => some (q.1, q.2 ++ sg1 c)) else none
def Once (ts : List Str) : Prop := ∀ (i j : Nat) (s : Str), ts[i]? = some s → ts[j]? = some s → i = j
theorem stp_word {ts : List Str} {q : List Nat × Str} {c i : Nat} (h : Nx ts q.2 c) (o : Once ts) (e : ts[i]? = some (q.2 ++ sg1 c)) : stp ts q c = some (q.1 ++ [i], ("" : Str)) := by
  unfold stp
  rw [if_pos h]
  cases f : ts.findIdx? (fun t => decide (t = q.2 ++ sg1 c)) with
  | some j =>
    obtain ⟨hj, hp, _⟩ := List.findIdx?_eq_some_iff_getElem.mp f
    have := o i j _ e (by rw [List.getElem?_eq_getElem hj, of_decide_eq_true hp])
    subst this; rfl
  | none =>
    have := List.findIdx?_eq_none_iff.mp f _ (List.mem_of_getElem? e)
    simp at this
theorem stp_amid {ts : List Str} {q : List Nat × Str} {c : Nat} (h : Nx ts q.2 c) (n : q.2 ++ sg1 c ∉ ts) : stp ts q c = some (q.1, q.2 ++ sg1 c) := by
  unfold stp
  rw [if_pos h]
  cases f : ts.findIdx? (fun t => decide (t = q.2 ++ sg1 c)) with
  | some j =>
    obtain ⟨hj, hp, _⟩ := List.findIdx?_eq_some_iff_getElem.mp f
    exact absurd (by rw [← of_decide_eq_true hp]; exact List.getElem_mem hj) n
  | none => rfl
theorem stp_no {ts : List Str} {q : List Nat × Str} {c : Nat} (h : ¬ Nx ts q.2 c) : stp ts q c = none := by
  unfold stp
  rw [if_neg h]
theorem GB.once {H : Hp} {x : V} {a : Addr} {ts : List Str} (g : GB H x a ts) : Once ts := fun i j s h1 h2 => g.nodup h1 h2
def upI (ns : List Nat) : List V := ns.map fun n : Nat => V.int (n : Int)
theorem upI_snoc (r : List Nat) (i : Nat) : upI (r ++ [i]) = upI r ++ [V.int (i : Int)] := by unfold upI; rw [List.map_append]; rfl
def Nw (H : Hp) (R : Addr) : Prop := ∀ o, H R = some o → ∃ ps, o = .tbl ps
theorem Nw.of {H H' : Hp} {R : Addr} (k : Kp H H') (n : H' R = none) : Nw H R := fun o e => Classical.byContradiction fun z => by
  have := k R o e fun ps h => z ⟨ps, h⟩
  rw [n] at this; cases this
section
variable {P : Program} {w : World} {K : PySem.W.Frag} {mg : Str → Option Value} {base : Heap}
noncomputable def rdP (ts : List Str) : List Nat → Nat → List Nat × Str → List Nat ⊕ Nat
  | [], k, q => if q.2 = ("" : Str) then .inl q.1 else .inr k
  | c :: cs, k, q => match stp ts q c with
    | some q' => rdP ts cs (k + 1) q'
    | none => .inr k
noncomputable def rdO (ts : List Str) : V → List Nat ⊕ Nat
  | .str z => rdP ts z.cps.toList 0 ([], ("" : Str))
  | _ => .inr 0
theorem rdO_no {ts : List Str} {x : V} (h : isS x = false) : rdO ts x = .inr 0 := by
  cases x with
  | str z => cases h
  | _ => rfl
def spRead (CS T1 T2 : Addr) : Sp := fun vs H Q E => ∃ (L : Addr) (x : V) (ts : List Str), vs = [.ref L, x] ∧ GB H (.ref L) L ts ∧ Tab T1 H ∧ Tab T2 H ∧ Th H x ∧ (∀ z, x = .str z → z.length ≤ 1000) ∧ (∀ row, rdO ts x = .inl row → ∀ R H', Nw H R → H' R = some (.lst (upI row)) → Kp H H' → Tab T1 H' → Tab T2 H' → Q (.ref R) H') ∧
  (∀ n, rdO ts x = .inr n → ∀ dx H', Kp H H' → Tab T1 H' → Tab T2 H' → H' dx = some (.xd [("place", .int (n : Int))]) → E (.ref CS) (some dx) H')
theorem scRe : FnScope ["book", "text", "reader", "row", "sign", "number"] ["book", "text"] (defScope sRead) := ⟨rfl, rfl, rfl, by decide +kernel, rfl, by decide +kernel, by decide +kernel⟩
theorem ok_read {c : List Addr} {CR T1 T2 fW : Addr} {f fI fP fA : Addr} {fd fdI fdP fdA : FuncData} (F : FunG K "read_row" "read_row" sRead .none f fd) (B : Bl mg) (cR : Cls K CR) (C : Cl K mg c) (IK : InitK P w K mg (c.getD 1 0) fW "place")
    (GI : FnOk P w K mg base (CXE P w) 5 fI fdI ["self", "book"] (spInit CR T1 T2)) (MI : Mk K CR fI) (mI : mg "Reader" = some (.ref CR)) (bI : Binds K fdI ["self", "book"] [])
    (GP : FnOk P w K mg base (CXE P w) 2 fP fdP ["self", "sign"] (spPut (c.getD 1 0) CR)) (hP : Meth K CR "put_sign" fP) (bP : Binds K fdP ["self", "sign"] [])
    (GA : FnOk P w K mg base (CXE P w) 1 fA fdA ["self"] (spAmid CR)) (hA : Meth K CR "amid" fA) (bA : Binds K fdA ["self"] []) : FnOk P w K mg base (CXE P w) 7 f fd ["book", "text"] (spRead (c.getD 1 0) T1 T2) := by
  refine F.zokE scRe (fun vs H Q E h => ?_) (fun cdv A outer s H vs Q E hr h => ?_)
  · obtain ⟨L, x, ts, rfl, _⟩ := h
    rfl
  · obtain ⟨L, x0, ts, rfl, gb, t1, t2, hx0, zl, q, qe⟩ := h
    refine ⟨_, (zpss_cons (zps_set (i := 2) scRe.nd rfl (Or.inl rfl) (zpe_make MI GI hr (by rfl) mI bI .nil passE0 (zpac_n (zpv 0) zpa_nil)))
      (zpss_cons (zps_if (zpt_not (zpt_val (zpe_callB call_isi (by rfl) B.isi boot_isi (zpac_n (zpv 1) (zpac_n (zpe_bltn (by rfl) B.str boot_str (v := .ty "str") rfl) zpa_nil))))) (zpss_one (zps_raiseI (k := 5) hr (by rfl) C.c1 IK (zpac_c zpe_int zpa_nil))) zpss_nil)
      (zpss_cons (zps_set (i := 3) scRe.nd rfl (Or.inl rfl) (zpe_lst zpa_nil))
      (zpss_cons (zps_for PassesOwn.leaving rfl (zpi_str (zpv 1)) (zpg_name (i := 4) scRe.nd rfl (Or.inl rfl))
          (zpss_cons (zps_set (i := 5) scRe.nd rfl (Or.inl rfl) (zpe_meth (zpv 2) cR hP GP (hr.mono (by decide)) bP .nil (passes_fn fun _ _ _ z => z) (zpac_n (zpv 4) zpa_nil)))
      (zpss_one (zps_if (zpt_cmp (zpc_notN (zpv 5))) (zpss_one (zps_expr (zpe_bm PySem.F.plainAttrs_list PySem.F.slot_list_append PySem.F.type_list_append mt_append (zpv 3) (zpac_n (zpv 5) zpa_nil)))) zpss_nil))))
      (zpss_cons (zps_if (zpt_cmpR op_ne (zpe_meth0 (zpv 2) cR hA GA (hr.mono (by decide)) bA .nil passE0) zpe_str (nomark _)) (zpss_one (zps_raiseI (k := 5) hr (by rfl) C.c1 IK (zpac_f (zpe_callB call_len_str (by rfl) B.len PySem.boot_len (zpac_n (zpv 1) zpa_nil)) zpa_nil))) zpss_nil)
      (zpss_one (zps_ret (zpv 3)))))))), ?_⟩
    refine ⟨_, rfl, fun x dx nx ndx xd => ?_⟩
    have hx1 : upd (upd H dx (.own x)) x (.ins CR dx []) x = some (.ins CR dx []) := upd_same
    have S1 : Same H (upd (upd H dx (.own x)) x (.ins CR dx [])) := fun b o e => by rw [upd_ne (ne_of_none e nx), upd_ne (ne_of_none e ndx)]; exact e
    generalize upd (upd H dx (.own x)) x (.ins CR dx []) = H1 at hx1 S1 ⊢
    refine ⟨x, dx, L, ts, rfl, hx1, gb.kp S1.kp, t1.same S1, t2.same S1, fun d H2 rd k2 u1 u2 => ⟨rfl, ?_⟩⟩
    have K2 : Kp H H2 := fun b o e nt => k2 b o (ne_of_none e nx) (S1 _ _ e) nt
    have hx2 := hx0.kp K2
    obtain ⟨t, ty, e1⟩ := hx2.tyS (K := K)
    have tab : ∀ {T : Addr} {H' : Hp}, Tab T H2 → ExtA x H2 H' → Tab T H' := fun {T H'} u k => by
      obtain ⟨ps, e, tr⟩ := u
      exact ⟨ps, k _ _ (fun z => by rw [z, rd.ins] at e; cases e) e, tr⟩
    have kx : ∀ {H' : Hp}, ExtA x H2 H' → Kp H H' := fun k b o e nt => k b o (ne_of_none e nx) (K2 b o e nt)
    have bad : ∀ {n : Nat} {H' : Hp}, rdO ts x0 = .inr n → ExtA x H2 H' → n ≤ 1000 → ∃ u, [V.int (n : Int)] = [u] ∧ (∃ y, Shown u y ∧ y.length ≤ 700) ∧ ∀ dx, H' dx = none → E (.ref (c.getD 1 0)) (some dx) (upd H' dx (.xd [("place", u)])) := fun {n H'} o k l =>
      ⟨_, rfl, shown1000 l, fun dx hd => qe n o dx _ (kx (k.trans (ExtA.same (same_upd hd)))) (tab u1 (k.trans (ExtA.same (same_upd hd)))) (tab u2 (k.trans (ExtA.same (same_upd hd)))) upd_same⟩
    refine ⟨_, rfl, _, _, t, isS x0, rfl, ty, .inl ⟨_, rfl, e1⟩, _, rfl, ?_⟩
    cases hs : isS x0 with
    | false => exact iteT (bad (n := 0) (rdO_no hs) ExtA.refl (by decide))
    | true =>
    obtain ⟨z, rfl⟩ : ∃ z, x0 = .str z := by
      cases x0 with
      | str z => exact ⟨z, rfl⟩
      | _ => cases hs
    have zl := zl z rfl
    refine iteF ?_
    refine ⟨by show 0 ≤ sizeLine; decide, ?_⟩
    (intro R gR; generalize hEq : upd _ R _ = H3; refine newC hEq gR ?_; clear hEq; intro S3 eR o3)
    have xR : x ≠ R := ne_of_none rd.ins gR
    have on : Once ts := gb.once
    refine ⟨_, rfl, z, rfl, for_str (x := z) (fun j σ H' => (∃ v1 v2, σ = [some (.ref L), some (.str z), some (.ref x), some (.ref R), v1, v2]) ∧ ∃ r s, rdO ts (.str z) = rdP ts (z.cps.toList.drop j) j (r, s) ∧ H' R = some (.lst (upI r)) ∧ r.length ≤ j ∧ H' x = some (.ins CR d.1 (rdF d.2.1 d.2.2 s (j : Int))) ∧ Am ts s ∧ ExtA x H2 H') ⟨⟨_, _, rfl⟩, [], "", rfl, eR, Nat.le_refl _, S3 _ _ rd.ins, rd.e0, ExtA.same S3⟩ ?_ ?_⟩
    · rintro j c' σ H4 hj ⟨⟨v1, v2, rfl⟩, r, s, hr4, hR4, rl, hx4, am4, k4⟩
      have rd4 := rd.at k4 hx4 am4
      have hc : z.cps.toList[j]? = some c' := by rw [Array.getElem?_toList]; exact hj
      have jl : j < z.length := by rw [← len_cps]; exact (List.getElem?_eq_some_iff.mp hc).1
      have dr : z.cps.toList.drop j = c' :: z.cps.toList.drop (j + 1) := by
        obtain ⟨hj, e⟩ := List.getElem?_eq_some_iff.mp hc
        rw [← e]; exact List.drop_eq_getElem_cons hj
      rw [dr] at hr4
      have hr4 : rdO ts (.str z) = match stp ts (r, s) c' with
        | some q' => rdP ts (z.cps.toList.drop (j + 1)) (j + 1) q'
        | none => .inr j := hr4
      refine ⟨_, rfl, x, d.1, _, rfl, hx4, rfl, _, rfl, x, c', ts, d, s, j, rfl, rd4, by omega, fun nxc v s' H5 sp rd5 k5 => ?_, fun nxc dx' H5 S5 hd => ?_⟩
      · have hR5 := k5 R _ (Ne.symm xR) hR4
        have k25 := k4.trans k5
        rcases sp with ⟨i, hi, rfl, rfl⟩ | ⟨ni, rfl, rfl⟩
        · rw [stp_word (q := (r, s)) nxc on hi] at hr4
          refine ⟨_, rfl, _, rfl, iteT ?_⟩
          refine ⟨_, rfl, .inl ⟨rfl, _, SqL.of hR5⟩, _, rfl, R, _, _, rfl, rfl, hR5, ?_, ⟨_, _, rfl⟩, _, _, hr4, by rw [upI_snoc]; exact upd_same, by rw [List.length_append]; exact Nat.succ_le_succ rl, ?_, rd5.am, fun b o n e => ?_⟩
          · unfold upI
            rw [List.length_map]
            exact Nat.lt_of_le_of_lt (show r.length ≤ 100000 by omega) (by decide)
          · rw [upd_ne xR, rd5.ins]; rfl
          · rw [upd_ne (ne_of_none e gR)]; exact k25 _ _ n e
        · rw [stp_amid (q := (r, s)) nxc ni] at hr4
          refine ⟨_, rfl, _, rfl, iteF ?_⟩
          exact ⟨⟨_, _, rfl⟩, _, _, hr4, hR5, Nat.le_succ_of_le rl, by rw [rd5.ins]; rfl, rd5.am, k25⟩
      · rw [stp_no (q := (r, s)) nxc] at hr4
        exact qe j hr4 dx' H5 (kx (k4.trans (ExtA.same S5))) (tab u1 (k4.trans (ExtA.same S5))) (tab u2 (k4.trans (ExtA.same S5))) hd
    · rintro σ H4 ⟨⟨v1, v2, rfl⟩, r, s, hr4, hR4, rl, hx4, am4, k4⟩
      rw [List.drop_eq_nil_of_le (by simp)] at hr4
      have hr4 : rdO ts (.str z) = if s = ("" : Str) then .inl r else .inr z.cps.size := hr4
      refine ⟨_, rfl, x, d.1, _, rfl, hx4, rfl, x, ts, d, _, _, rfl, rd.at k4 hx4 am4, rfl, _, rfl, ?_⟩
      by_cases es : s = ("" : Str)
      · rw [if_pos es] at hr4
        rw [es, decide_eq_true rfl]
        exact iteF ⟨_, rfl, q r hr4 R H4 (Nw.of K2 gR) hR4 (kx k4) (tab u1 k4) (tab u2 k4)⟩
      · rw [if_neg es] at hr4
        rw [decide_eq_false (fun e => es (by injection e))]
        exact iteT ⟨_, rfl, z, rfl, Nat.le_trans zl (by decide), bad (n := z.length) hr4 k4 zl⟩
end
end G1
namespace G1
open PySem L2 GM
def oddS : Str := " !\"#$&'()*+,-./0123456789:;<=>?@ABCDEFGHIJKLMNOPQRSTUVWXYZ[\\]^_`{|}~\t\n"
theorem oddS_len : oddS.length = 70 := by decide +kernel
theorem atI_ex {α : Type} {xs : List α} {d : Int} (h0 : 0 ≤ d) (h1 : d < xs.length) : ∃ v, atI xs d = some v := by
  obtain ⟨n, rfl⟩ := Int.eq_ofNat_of_zero_le h0
  exact ⟨_, atI_nat (List.getElem?_eq_getElem (by omega))⟩
section
variable {P : Program} {w : World} {K : PySem.W.Frag} {mg : Str → Option Value} {base : Heap} {c : List Addr}
def spText : Sp := fun vs H Q _ => ∃ (p L : Addr) (ts : List Str), vs = [.ref p, .ref L] ∧ Src H p ∧ H L = some (.lst (txs ts)) ∧ L ≠ p ∧ 1 ≤ ts.length ∧ ts.length ≤ 20 ∧ (∀ t ∈ ts, t.length ≤ 8) ∧ ∀ z H', z.length ≤ 300 → Src H' p → Ext p H H' → Q (.str z) H'
theorem scTx : FnScope ["_law_pool_here", "_law_book", "_law_text_here", "_law_k", "_law_way", "_law_at", "_law_sign", "_law_some", "_law_word"] ["_law_pool_here", "_law_book"] (defScope sText) := ⟨rfl, rfl, rfl, by decide +kernel, rfl, by decide +kernel, by decide +kernel⟩
theorem ok_text {f fD : Addr} {fd fdD : FuncData} (F : FunG K "_law_text" "_law_text" sText .none f fd) (B : Bl mg)
    (GD : FnOk P w K mg base (CXE P w) 1 fD fdD ["_law_pool_here", "_law_many"] spDraw) (mD : mg "_law_take" = some (.ref fD)) (kD : PySem.W.keepIn K (.ref fD) = true) (bD : Binds K fdD ["_law_pool_here", "_law_many"] []) : FnOk P w K mg base (CXE P w) 2 f fd ["_law_pool_here", "_law_book"] spText := by
  refine F.zokN scTx (fun vs H Q E h => ?_) (fun cdv A outer s H vs Q E hr h => ?_)
  · obtain ⟨p, L, ts, rfl, _⟩ := h
    rfl
  · obtain ⟨p, L, ts, rfl, hs, hL, Lp, l1, l20, l8, q⟩ := h
    refine ⟨_, (zpss_cons (zps_set (i := 2) scTx.nd rfl (Or.inl rfl) zpe_str)
      (zpss_cons (zps_cut (zps_for PassesOwn.never rfl (zpi_range1 (by rfl) B.range (zpac_f (zpe_call GD hr (by rfl) mD kD bD .nil passE0 (zpac_n (zpv 0) (zpac_c zpe_int zpa_nil))) zpa_nil)) (zpg_name (i := 3) scTx.nd rfl (Or.inl rfl))
          (zpss_one (zps_set (i := 2) scTx.nd rfl (Or.inl rfl) (zpe_op op_add_str (zpv 2) (zpe_ix ix_list (zpv 1) (zpe_call GD hr (by rfl) mD kD bD .nil passE0 (zpac_n (zpv 0) (zpac_f (zpe_callB call_len_seq (by rfl) B.len PySem.boot_len (zpac_n (zpv 1) zpa_nil)) zpa_nil))) (fun _ _ => rfl)))))))
      (zpss_cons (zps_set (i := 4) scTx.nd rfl (Or.inl rfl) (zpe_call GD hr (by rfl) mD kD bD .nil passE0 (zpac_n (zpv 0) (zpac_c zpe_int zpa_nil))))
      (zpss_cons (zps_set (i := 5) scTx.nd rfl (Or.inl rfl) (zpe_call GD hr (by rfl) mD kD bD .nil passE0 (zpac_n (zpv 0) (zpac_b (zpe_op op_add (zpe_callB call_len_str (by rfl) B.len PySem.boot_len (zpac_n (zpv 2) zpa_nil)) zpe_int) zpa_nil))))
      (zpss_cons (zps_set (i := 6) scTx.nd rfl (Or.inl rfl) (zpe_ix ix_str zpe_str (zpe_call GD hr (by rfl) mD kD bD .nil passE0 (zpac_n (zpv 0) (zpac_c zpe_int zpa_nil))) (fun _ _ => rfl)))
      (zpss_cons (zps_cut (zps_if (zpt_cmpR op_eq (zpe_call GD hr (by rfl) mD kD bD .nil passE0 (zpac_n (zpv 0) (zpac_c zpe_int zpa_nil))) zpe_int (nomark _)) (zpss_cons (zps_set (i := 7) scTx.nd rfl (Or.inl rfl) zpe_str)
      (zpss_one (zps_set (i := 6) scTx.nd rfl (Or.inl rfl) (zpe_ix ix_str (zpv 7) (zpe_call GD hr (by rfl) mD kD bD .nil passE0 (zpac_n (zpv 0) (zpac_f (zpe_callB call_len_str (by rfl) B.len PySem.boot_len (zpac_n (zpv 7) zpa_nil)) zpa_nil))) (fun _ _ => rfl))))) zpss_nil))
      (zpss_cons (zps_if (zpt_cmpR op_eq (zpv 4) zpe_int (nomark _)) (zpss_one (zps_ret (zpe_op op_add_str (zpe_op op_add_str (zpe_slice sl_str (zpv 2) zpo_none (zpo_some (zpv 5))) (zpv 6)) (zpe_slice sl_str (zpv 2) (zpo_some (zpv 5)) zpo_none)))) zpss_nil)
      (zpss_cons (zps_if (zpt_cmpR op_eq (zpv 4) zpe_int (nomark _)) (zpss_one (zps_ret (zpe_op op_add_str (zpe_slice sl_str (zpv 2) zpo_none (zpo_some (zpv 5))) (zpe_slice sl_str (zpv 2) (zpo_some (zpe_op op_add (zpv 5) zpe_int)) zpo_none)))) zpss_nil)
      (zpss_cons (zps_if (zpt_cmpR op_eq (zpv 4) zpe_int (nomark _)) (zpss_one (zps_ret (zpe_op op_add_str (zpe_op op_add_str (zpe_slice sl_str (zpv 2) zpo_none (zpo_some (zpv 5))) (zpv 6)) (zpe_slice sl_str (zpv 2) (zpo_some (zpe_op op_add (zpv 5) zpe_int)) zpo_none)))) zpss_nil)
      (zpss_cons (zps_if (zpt_cmpR op_eq (zpv 4) zpe_int (nomark _)) (zpss_one (zps_ret (zpe_slice sl_str (zpv 2) zpo_none (zpo_some (zpv 5))))) zpss_nil)
      (zpss_cons (zps_if (zpt_cmpR op_eq (zpv 4) zpe_int (nomark _)) (zpss_cons (zps_set (i := 8) scTx.nd rfl (Or.inl rfl) (zpe_ix ix_list (zpv 1) (zpe_call GD hr (by rfl) mD kD bD .nil passE0 (zpac_n (zpv 0) (zpac_f (zpe_callB call_len_seq (by rfl) B.len PySem.boot_len (zpac_n (zpv 1) zpa_nil)) zpa_nil))) (fun _ _ => rfl)))
      (zpss_one (zps_ret (zpe_op op_add_str (zpv 2) (zpe_slice sl_str (zpv 8) zpo_none (zpo_some (zpe_call GD hr (by rfl) mD kD bD .nil passE0 (zpac_n (zpv 0) (zpac_b (zpe_op op_add (zpe_callB call_len_str (by rfl) B.len PySem.boot_len (zpac_n (zpv 8) zpa_nil)) zpe_int) zpa_nil))))))))) zpss_nil)
      (zpss_one (zps_ret (zpv 2)))))))))))))), ?_⟩
    have tl := txs_len ts
    have at_ : ∀ {d : Int}, 0 ≤ d → d < (txs ts).length → ∃ b, b ∈ ts ∧ atI (txs ts) d = some (.str b) := fun {d} h0 h1 => by
      obtain ⟨y, hy, e⟩ := at_ofV h0 h1
      obtain ⟨b, hb, rfl⟩ := List.mem_map.mp hy
      exact ⟨b, hb, e⟩
    have big : ∀ {n : Nat}, n ≤ 1000 → n ≤ sizeLine := fun h => Nat.le_trans h (by decide)
    have sm : ∀ {i : Int}, i.natAbs ≤ 1000 → i.natAbs < L2.big := fun h => Nat.lt_of_le_of_lt h (by decide +kernel)
    refine ⟨fun σ H' => (∃ (z : Str) (v3 v4 v5 v6 v7 v8 : Option V), σ = [some (.ref p), some (.ref L), some (.str z), v3, v4, v5, v6, v7, v8] ∧ z.length ≤ 96) ∧ Src H' p ∧ Ext p H H', ?_, ?_⟩
    · refine ⟨_, rfl, p, _, rfl, hs, by decide, by decide, fun d H1 d0 d1 s1 k1 => ?_⟩
      refine ⟨_, rfl, by omega, by omega, ?_⟩
      refine for_range (lo := 0) (n := d.toNat) (fun i σ H' => (∃ (z : Str) (v3 v4 v5 v6 v7 v8 : Option V), σ = [some (.ref p), some (.ref L), some (.str z), v3, v4, v5, v6, v7, v8] ∧ z.length ≤ 8 * i) ∧ Src H' p ∧ Ext p H H') ⟨⟨_, _, _, _, _, _, _, rfl, Nat.le_refl _⟩, s1, Ext.of_eq k1⟩ ?_ ?_
      · rintro i σ H2 hi ⟨⟨z, v3, v4, v5, v6, v7, v8, rfl, zl⟩, s2, E2⟩
        refine ⟨_, rfl, _, rfl, _, rfl, _, rfl, L, _, rfl, .inl (SqL.of (E2 _ _ Lp hL)), p, _, rfl, s2, by omega, sm (by omega), fun a H3 a0 a1 s3 k3 => ?_⟩
        have E3 := E2.trans (Ext.of_eq k3)
        obtain ⟨b, hb, eb⟩ := at_ a0 a1
        have bl := l8 b hb
        refine ⟨L, _, _, _, rfl, rfl, SqL.of (E3 _ _ Lp hL), eb, z, b, rfl, rfl, big (by omega), ⟨_, _, _, _, _, _, _, rfl, ?_⟩, s3, E3⟩
        rw [← len_cps, add_cps, List.length_append, len_cps, len_cps]; omega
      · rintro σ H2 ⟨⟨z, v3, v4, v5, v6, v7, v8, rfl, zl⟩, s2, E2⟩
        exact ⟨⟨z, _, _, _, _, _, _, rfl, by omega⟩, s2, E2⟩
    · rintro σ H2 ⟨⟨z, v3, v4, v5, v6, v7, v8, rfl, zl⟩, s2, E2⟩
      refine ⟨_, rfl, p, _, rfl, s2, by decide, by decide, fun way H3 w0 w1 s3 k3 => ?_⟩
      refine ⟨_, rfl, _, rfl, z, rfl, big (by omega), _, _, rfl, rfl, p, _, rfl, s3, by omega, sm (by omega), fun a H4 a0 a1 s4 k4 => ?_⟩
      refine ⟨_, rfl, p, _, rfl, s4, by decide, by decide, fun sg H5 g0 g1 s5 k5 => ?_⟩
      obtain ⟨sgn, rfl⟩ := Int.eq_ofNat_of_zero_le g0
      refine ⟨letters, _, _, rfl, rfl, by decide, ltr_at (by omega), ?_⟩
      have E5 : Ext p H H5 := ((E2.trans (Ext.of_eq k3)).trans (Ext.of_eq k4)).trans (Ext.of_eq k5)
      refine ⟨fun σ H' => (∃ (g : Str) (v7 : Option V), σ = [some (.ref p), some (.ref L), some (.str z), v3, some (.int way), some (.int a), some (.str g), v7, v8] ∧ g.length = 1) ∧ Src H' p ∧ Ext p H H', ?_, ?_⟩
      · refine ⟨_, rfl, p, _, rfl, s5, by decide, by decide, fun e H6 e0 e1 s6 k6 => ⟨rfl, _, rfl, ?_⟩⟩
        have E6 := E5.trans (Ext.of_eq k6)
        refine ite2 (fun _ => ?_) (fun _ => ⟨⟨_, _, rfl, rfl⟩, s6, E6⟩)
        have ol : ((oddS.length : Nat) : Int) = 70 := by rw [oddS_len]; rfl
        refine ⟨_, rfl, _, rfl, _, rfl, oddS, rfl, by rw [oddS_len]; decide, p, _, rfl, s6, by omega, sm (by omega), fun g H7 q0 q1 s7 k7 => ?_⟩
        obtain ⟨cc, hcc⟩ := atI_ex (xs := oddS.cps.toList) q0 (by rw [len_cps]; exact q1)
        exact ⟨oddS, _, cc, rfl, rfl, by rw [oddS_len]; decide, hcc, ⟨_, _, rfl, rfl⟩, s7, E6.trans (Ext.of_eq k7)⟩
      · rintro σ H6 ⟨⟨g, v7, rfl, gl⟩, s6, E6⟩
        have cl : ∀ lo hi, (cutS z lo hi).length ≤ 96 := fun lo hi => Nat.le_trans (cutS_len z lo hi) zl
        refine ⟨_, rfl, rfl, _, rfl, ite2 (fun _ => ?_) (fun _ => ?_)⟩
        · have := cl none (some a)
          have := cl (some a) none
          refine ⟨_, rfl, _, rfl, _, rfl, z, rfl, big (by omega), _, rfl, _, _, rfl, rfl, big (by omega), _, rfl, _, rfl, _, rfl, z, rfl, big (by omega), _, _, rfl, rfl, big (by rw [add_len]; omega), q _ H6 (by rw [add_len, add_len]; omega) s6 E6⟩
        refine ⟨_, rfl, rfl, _, rfl, ite2 (fun _ => ?_) (fun _ => ?_)⟩
        · have := cl none (some a)
          have := cl (some (a + 1)) none
          refine ⟨_, rfl, _, rfl, _, rfl, z, rfl, big (by omega), _, rfl, _, rfl, _, _, rfl, rfl, _, rfl, z, rfl, big (by omega), _, _, rfl, rfl, big (by omega), q _ H6 (by rw [add_len]; omega) s6 E6⟩
        refine ⟨_, rfl, rfl, _, rfl, ite2 (fun _ => ?_) (fun _ => ?_)⟩
        · have := cl none (some a)
          have := cl (some (a + 1)) none
          refine ⟨_, rfl, _, rfl, _, rfl, z, rfl, big (by omega), _, rfl, _, _, rfl, rfl, big (by omega), _, rfl, _, rfl, _, _, rfl, rfl, _, rfl, z, rfl, big (by omega), _, _, rfl, rfl, big (by rw [add_len]; omega), q _ H6 (by rw [add_len, add_len]; omega) s6 E6⟩
        refine ⟨_, rfl, rfl, _, rfl, ite2 (fun _ => ?_) (fun _ => ?_)⟩
        · have := cl none (some a)
          exact ⟨_, rfl, _, rfl, _, rfl, z, rfl, big (by omega), q _ H6 (by omega) s6 E6⟩
        refine ⟨_, rfl, rfl, _, rfl, ite2 (fun _ => ?_) (fun _ => ⟨_, rfl, q _ H6 (by omega) s6 E6⟩)⟩
        refine ⟨_, rfl, _, rfl, _, rfl, L, _, rfl, .inl (SqL.of (E6 _ _ Lp hL)), p, _, rfl, s6, by omega, sm (by omega), fun b H7 b0 b1 s7 k7 => ?_⟩
        have E7 := E6.trans (Ext.of_eq k7)
        obtain ⟨b', hb, eb⟩ := at_ b0 b1
        have bl := l8 b' hb
        refine ⟨L, _, _, _, rfl, rfl, SqL.of (E7 _ _ Lp hL), eb, ?_⟩
        refine ⟨_, rfl, _, rfl, _, rfl, _, rfl, b', rfl, big (by omega), _, _, rfl, rfl, p, _, rfl, s7, by omega, sm (by omega), fun e H8 e0 e1 s8 k8 => ?_⟩
        have := cutS_len b' none (some e)
        exact ⟨_, rfl, b', rfl, big (by omega), _, _, rfl, rfl, big (by omega), q _ H8 (by rw [add_len]; omega) s8 (E7.trans (Ext.of_eq k8))⟩
def TellT (H : Hp) (t : Addr) (o : List Nat ⊕ Nat) : Prop := match o with
  | .inl r => ∃ R, H t = some (.tup [.str "row", .ref R]) ∧ H R = some (.lst (upI r))
  | .inr n => H t = some (.tup [.str "place", .int (n : Int)])
def spDue : Sp := fun vs H Q _ => ∃ (L : Addr) (x : V) (ts : List Str), vs = [.ref L, x] ∧ GB H (.ref L) L ts ∧ Th H x ∧ (∀ z, x = .str z → z.length ≤ 1000) ∧ ∀ t H', TellT H' t (rdO ts x) → Same H H' → H t = none → Q (.ref t) H'
theorem scDu : FnScope ["_law_book", "_law_text_here", "_law_row", "_law_since", "_law_k"] ["_law_book", "_law_text_here"] (defScope sDue) := ⟨rfl, rfl, rfl, by decide +kernel, rfl, by decide +kernel, by decide +kernel⟩
theorem ok_due {f : Addr} {fd : FuncData} (F : FunG K "_law_due" "_law_due" sDue .none f fd) (B : Bl mg) : FnOk P w K mg base (CXE P w) 1 f fd ["_law_book", "_law_text_here"] spDue := by
  refine F.zokN scDu (fun vs H Q E h => ?_) (fun cdv A outer s H vs Q E hr h => ?_)
  · obtain ⟨L, x, ts, rfl, _⟩ := h
    rfl
  · obtain ⟨L, x, ts, rfl, gb, hx, zl, q⟩ := h
    refine ⟨_, (zpss_cons (zps_if (zpt_not (zpt_val (zpe_callB call_isi (by rfl) B.isi boot_isi (zpac_n (zpv 1) (zpac_n (zpe_bltn (by rfl) B.str boot_str (v := .ty "str") rfl) zpa_nil))))) (zpss_one (zps_ret (zpe_tup (zpac_c zpe_str (zpac_c zpe_int zpa_nil))))) zpss_nil)
      (zpss_cons (zps_set (i := 2) scDu.nd rfl (Or.inl rfl) (zpe_lst zpa_nil))
      (zpss_cons (zps_set (i := 3) scDu.nd rfl (Or.inr rfl) zpe_str)
      (zpss_cons (zps_for PassesOwn.never rfl (zpi_range1 (by rfl) B.range (zpac_f (zpe_callB call_len_str (by rfl) B.len PySem.boot_len (zpac_n (zpv 1) zpa_nil)) zpa_nil)) (zpg_name (i := 4) scDu.nd rfl (Or.inl rfl))
          (zpss_cons (zps_set (i := 3) scDu.nd rfl (Or.inr rfl) (zpe_op op_add_str (zpv 3) (zpe_ix ix_str (zpv 1) (zpv 4) (fun _ _ => rfl))))
      (zpss_one (zps_if (zpt_cmpR op_in_seq (zpv 3) (zpv 0) rfl) (zpss_cons (zps_expr (zpe_bm PySem.F.plainAttrs_list PySem.F.slot_list_append PySem.F.type_list_append mt_append (zpv 2) (zpac_f (zpe_bm PySem.F.plainAttrs_list PySem.F.slot_list_index PySem.F.type_list_index mt_index (zpv 0) (zpac_n (zpv 3) zpa_nil)) zpa_nil)))
      (zpss_one (zps_set (i := 3) scDu.nd rfl (Or.inr rfl) zpe_str))) (zpss_one (zps_if (zpt_cmpR (op_eqL hr.units0) (zpe_compL ["_law_book", "_law_text_here", "_law_row", "_law_since", "_law_k"] ["_law_word"] [3] (defScope sDue) rfl rfl rfl ⟨by decide +kernel, by decide +kernel, by decide +kernel, by decide +kernel, by decide +kernel⟩ (zpi_list (zpv 0)) (fun s H fp => (zpg_name (i := 0) (show List.Nodup [("_law_word" : Str), "_law_since"] by decide +kernel) rfl (Or.inl rfl))) (fun s H fp => (zpts_one (zpt_val (zpe_bmK K rfl PySem.F.plainAttrs_str PySem.F.slot_str_startswith PySem.F.type_str_startswith mt_startswith (zpv 0) (zpac_n (zpv 1) zpa_nil))))) (fun s H fp => (zpv 0))) (zpe_lst zpa_nil) (nomark _)) (zpss_one (zps_ret (zpe_tup (zpac_c zpe_str (zpac_n (zpv 4) zpa_nil))))) zpss_nil))))))
      (zpss_cons (zps_if (zpt_cmpR op_ne (zpv 3) zpe_str (nomark _)) (zpss_one (zps_ret (zpe_tup (zpac_c zpe_str (zpac_f (zpe_callB call_len_str (by rfl) B.len PySem.boot_len (zpac_n (zpv 1) zpa_nil)) zpa_nil))))) zpss_nil)
      (zpss_one (zps_ret (zpe_tup (zpac_c zpe_str (zpac_n (zpv 2) zpa_nil)))))))))), ?_⟩
    obtain ⟨t, ty, e1⟩ := hx.tyS (K := K)
    refine ⟨_, rfl, _, _, t, isS x, rfl, ty, .inl ⟨_, rfl, e1⟩, _, rfl, ?_⟩
    cases hs : isS x with
    | false =>
      refine iteT ⟨by show 2 ≤ sizeLine; decide, ?_⟩
      (intro t gt; generalize hEq : upd _ t _ = H1; refine newC hEq gt ?_; clear hEq; intro S1 et o1)
      exact q t H1 (by rw [rdO_no hs]; exact et) S1 gt
    | true =>
    obtain ⟨z, rfl⟩ : ∃ z, x = .str z := by
      cases x with
      | str z => exact ⟨z, rfl⟩
      | _ => cases hs
    have zl := zl z rfl
    refine iteF ?_
    have big : ∀ {n : Nat}, n ≤ 2000 → n ≤ sizeLine := fun h => Nat.le_trans h (by decide)
    have on := gb.once
    refine ⟨by show 0 ≤ sizeLine; decide, ?_⟩
    (intro R gR; generalize hEq : upd _ R _ = H1; refine newC hEq gR ?_; clear hEq; intro S1 eR o1)
    refine ⟨_, rfl, z, rfl, big (by omega), _, rfl, by omega, by omega, ?_⟩
    refine for_range (lo := 0) (n := z.length) (fun j σ H' => (∃ (r : List Nat) (s : Str) (v4 : Option V), σ = [some (.ref L), some (.str z), some (.ref R), some (.str s), v4] ∧ rdO ts (.str z) = rdP ts (z.cps.toList.drop j) j (r, s) ∧ H' R = some (.lst (upI r)) ∧ r.length ≤ j ∧ s.length ≤ j) ∧ Same H H') ⟨⟨[], "", _, rfl, rfl, eR, Nat.le_refl _, Nat.le_refl _⟩, S1⟩ ?_ ?_
    · rintro j σ H2 hj ⟨⟨r, s, v4, rfl, hr, hR, rl, sl⟩, k⟩
      obtain ⟨c, hc⟩ : ∃ c, z.cps.toList[j]? = some c := ⟨_, List.getElem?_eq_getElem (by rw [len_cps]; exact hj)⟩
      have dr : z.cps.toList.drop j = c :: z.cps.toList.drop (j + 1) := by
        obtain ⟨hj, e⟩ := List.getElem?_eq_some_iff.mp hc
        rw [← e]; exact List.drop_eq_getElem_cons hj
      rw [dr] at hr
      have hr : rdO ts (.str z) = match stp ts (r, s) c with
        | some q' => rdP ts (z.cps.toList.drop (j + 1)) (j + 1) q'
        | none => .inr j := hr
      have sc : (s ++ sg1 c).length = s.length + 1 := by rw [← len_cps, add_cps, List.length_append, len_cps]; rfl
      have sq : SqL K H2 L (txs ts) := SqL.of (k _ _ gb.at_)
      refine ⟨_, rfl, _, rfl, _, rfl, z, _, c, rfl, rfl, big (by omega), by rw [Int.zero_add]; exact atI_nat hc, s, sg1 c, rfl, rfl, big (show s.length + 1 ≤ 2000 by omega), ?_⟩
      refine ⟨_, rfl, _, rfl, L, txs ts, rfl, .inl sq, rfl, txs_flat _, ?_⟩
      rw [inV_txs]
      by_cases m : s ++ sg1 c ∈ ts
      · obtain ⟨i, hi⟩ := List.getElem?_of_mem m
        rw [stp_word (q := (r, s)) ⟨_, m, List.prefix_refl _⟩ on hi] at hr
        rw [decide_eq_true m]
        refine ⟨_, rfl, iteT ?_⟩
        refine ⟨_, rfl, .inl ⟨rfl, _, SqL.of hR⟩, _, rfl, .inl ⟨rfl, _, sq⟩, _, rfl, L, txs ts, .str (s ++ sg1 c), i, rfl, rfl, sq, txs_flat _, rfl, ⟨_, txs_at hi, by show ((s ++ sg1 c) == (s ++ sg1 c)) = true; simp⟩, fun m' y hm hy => ?_, R, _, _, rfl, rfl, hR, ?_, ⟨r ++ [i], "", _, rfl, hr, by rw [upI_snoc]; exact upd_same, by rw [List.length_append]; exact Nat.succ_le_succ rl, Nat.zero_le _⟩, fun b o e => by rw [upd_ne (ne_of_none e gR)]; exact k _ _ e⟩
        · unfold txs at hy
          rw [List.getElem?_map] at hy
          obtain ⟨y', h1, rfl⟩ := Option.map_eq_some_iff.mp hy
          show (y' == (s ++ sg1 c)) = false
          rw [beq_eq_false_iff_ne]
          intro e
          subst e
          have := on m' i _ h1 hi
          omega
        · unfold upI
          rw [List.length_map]
          exact Nat.lt_of_le_of_lt (show r.length ≤ 1000 by omega) (by decide)
      · rw [decide_eq_false m]
        refine ⟨_, rfl, iteF ?_⟩
        refine ⟨_, rfl, L, rfl, ⟨_, sq⟩, ?_⟩
        (intro D gD; generalize hEq : upd _ D _ = H3; refine newC hEq gD ?_; clear hEq; intro S3 eD o3)
        refine lr_list (K := K) (S := L) (xs := txs ts) (fun i σ H' => (∃ v, σ = [v, some (.str (s ++ sg1 c))]) ∧ Same H2 H' ∧ H' D = some (.lst (txs ((ts.take i).filter fun y => Txt.startswith y (s ++ sg1 c))))) ⟨⟨_, rfl⟩, S3, eD⟩ ?_ ?_ ?_
        · rintro i σ H' ⟨_, k', _⟩
          exact k'.kp.seq sq
        · rintro i y σ H' C hi ⟨⟨v, rfl⟩, k', hD⟩ nx
          unfold txs at hi
          rw [List.getElem?_map] at hi
          obtain ⟨y', h1, rfl⟩ := Option.map_eq_some_iff.mp hi
          refine ⟨_, rfl, rfl, _, rfl, y', _, rfl, rfl, _, rfl, ?_⟩
          have fs : ((ts.take (i + 1)).filter fun y => Txt.startswith y (s ++ sg1 c)) = ((ts.take i).filter fun y => Txt.startswith y (s ++ sg1 c)) ++ (if Txt.startswith y' (s ++ sg1 c) then [y'] else []) := by
            rw [List.take_add_one, h1, List.filter_append]
            show _ ++ [y'].filter _ = _
            rw [List.filter_cons]; rfl
          by_cases sw : Txt.startswith y' (s ++ sg1 c) = true
          · rw [sw] at fs ⊢
            refine iteT ⟨_, rfl, _, hD, ?_, nx _ _ ⟨⟨_, rfl⟩, fun b o e => ?_, ?_⟩⟩
            · rw [txs_len]
              have := List.length_filter_le (fun y => Txt.startswith y (s ++ sg1 c)) (ts.take i)
              rw [List.length_take] at this
              have := gb.l2
              exact Nat.lt_of_le_of_lt (show _ ≤ 20 by omega) (by decide)
            · rw [upd_ne (ne_of_none e gD)]; exact k' _ _ e
            · rw [fs, if_pos rfl]
              unfold txs
              rw [List.map_append]; exact upd_same
          · rw [Bool.eq_false_iff.mpr sw] at fs ⊢
            refine iteF (nx _ _ ⟨⟨_, rfl⟩, k', ?_⟩)
            rw [fs, if_neg nofun, List.append_nil]; exact hD
        · rintro σ H4 ⟨_, k', hD⟩
          rw [txs_len, List.take_length] at hD
          refine ⟨by show 0 ≤ sizeLine; decide, ?_⟩
          (intro M gM; generalize hEq : upd _ M _ = H5; refine newC hEq gM ?_; clear hEq; intro S5 eM o5)
          refine ⟨D, M, _, txs [], rfl, rfl, SqL.of (S5 _ _ hD), SqL.of eM, txs_flat _, txs_flat _, _, rfl, ?_⟩
          have K5 := (k.trans k').trans S5
          rw [eqVs_txs]
          by_cases em : (ts.filter fun y => Txt.startswith y (s ++ sg1 c)) = []
          · have no : ¬ Nx ts s c := fun ⟨y, hy, py⟩ => by
              have : y ∈ ts.filter fun y => Txt.startswith y (s ++ sg1 c) := List.mem_filter.mpr ⟨hy, starts_iff.mpr py⟩
              rw [em] at this; cases this
            rw [stp_no (q := (r, s)) no] at hr
            rw [decide_eq_true em]
            refine iteT ⟨_, rfl, by show 2 ≤ sizeLine; decide, ?_⟩
            (intro t gt; generalize hEq : upd _ t _ = H6; refine newC hEq gt ?_; clear hEq; intro S6 et o6)
            exact q t H6 (by rw [hr]; rw [Int.zero_add] at et; exact et) (K5.trans S6) (K5.none gt)
          · have nx : Nx ts s c := by
              obtain ⟨y, hy⟩ := List.exists_mem_of_ne_nil _ em
              obtain ⟨h1, h2⟩ := List.mem_filter.mp hy
              exact ⟨y, h1, starts_iff.mp h2⟩
            rw [stp_amid (q := (r, s)) nx m] at hr
            rw [decide_eq_false em]
            exact iteF ⟨⟨r, s ++ sg1 c, _, rfl, hr, S5 _ _ (k' _ _ hR), Nat.le_succ_of_le rl, by rw [sc]; omega⟩, K5⟩
    · rintro σ H2 ⟨⟨r, s, v4, rfl, hr, hR, rl, sl⟩, k⟩
      rw [List.drop_eq_nil_of_le (by rw [len_cps]; omega)] at hr
      have hr : rdO ts (.str z) = if s = ("" : Str) then .inl r else .inr z.length := hr
      refine ⟨_, rfl, rfl, _, rfl, ?_⟩
      by_cases es : s = ("" : Str)
      · rw [if_pos es] at hr
        rw [es, decide_eq_true rfl]
        refine iteF ⟨_, rfl, by show 2 ≤ sizeLine; decide, ?_⟩
        (intro t gt; generalize hEq : upd _ t _ = H3; refine newC hEq gt ?_; clear hEq; intro S3 et o3)
        exact q t H3 (by rw [hr]; exact ⟨R, et, S3 _ _ hR⟩) (k.trans S3) (k.none gt)
      · rw [if_neg es] at hr
        rw [decide_eq_false (fun e => es (by injection e))]
        refine iteT ⟨_, rfl, z, rfl, big (by omega), by show 2 ≤ sizeLine; decide, ?_⟩
        (intro t gt; generalize hEq : upd _ t _ = H3; refine newC hEq gt ?_; clear hEq; intro S3 et o3)
        exact q t H3 (by rw [hr]; exact et) (k.trans S3) (k.none gt)
def spTold (CS T1 T2 : Addr) : Sp := fun vs H Q _ => ∃ (L : Addr) (x : V) (ts : List Str), vs = [.ref L, x] ∧ GB H (.ref L) L ts ∧ Tab T1 H ∧ Tab T2 H ∧ Th H x ∧ (∀ z, x = .str z → z.length ≤ 1000) ∧ ∀ t H', TellT H' t (rdO ts x) → Kp H H' → Tab T1 H' → Tab T2 H' → Q (.ref t) H'
theorem scTo : FnScope ["_law_book", "_law_text_here", "_law_error", "_law_found", "e"] ["_law_book", "_law_text_here"] (defScope sTold) := ⟨rfl, rfl, rfl, by decide +kernel, rfl, by decide +kernel, by decide +kernel⟩
theorem ok_told {T1 T2 : Addr} {f fR : Addr} {fd fdR : FuncData} (F : FunG K "_law_told" "_law_told" sTold .none f fd) (B : Bl mg) (hve : mg "ValueError" = none) (C : Cl K mg c)
    (GR : FnOk P w K mg base (CXE P w) 7 fR fdR ["book", "text"] (spRead (c.getD 1 0) T1 T2)) (mR : mg "read_row" = some (.ref fR)) (kR : PySem.W.keepIn K (.ref fR) = true) (bR : Binds K fdR ["book", "text"] []) : FnOk P w K mg base (CXE P w) 8 f fd ["_law_book", "_law_text_here"] (spTold (c.getD 1 0) T1 T2) := by
  refine F.zokN scTo (fun vs H Q E h => ?_) (fun cdv A outer s H vs Q E hr h => ?_)
  · obtain ⟨L, x, ts, rfl, _⟩ := h
    rfl
  · obtain ⟨L, x, ts, rfl, gb, ht1, ht2, hx, zl, q⟩ := h
    refine ⟨_, (zpss_cons (zps_set (i := 2) scTo.nd rfl (Or.inl rfl) zpe_non)
      (zpss_cons (zps_set (i := 3) scTo.nd rfl (Or.inl rfl) zpe_non)
      (zpss_cons (zps_try_as (j := 4) (zpsx_asg (i := 3) scTo.nd rfl (Or.inl rfl) (zpex_call GR hr (by rfl) mR kR bR .nil (zpac_n (zpv 0) (zpac_n (zpv 1) zpa_nil)))) scTo.nd rfl rfl rfl rfl (by rfl) C.dear C.catch_ (fun e => (zpss_one (zps_set (i := 2) scTo.nd rfl (Or.inl rfl) (zpv 4)))))
      (zpss_cons (zps_if (zpt_cmp (zpc_isN (zpv 2))) (zpss_one (zps_ret (zpe_tup (zpac_c zpe_str (zpac_n (zpv 3) zpa_nil))))) zpss_nil)
      (zpss_cons (zps_if (SPW.pt (zpw_or (zpt_not (zpt_val (zpe_callB call_isi (by rfl) B.isi boot_isi (zpac_n (zpv 2) (zpac_n (zpe_glob (by rfl) C.c1 (v := .ref _) rfl) zpa_nil))))) (zpw_or (zpt_not (zpt_val (zpe_callB call_isi (by rfl) B.isi boot_isi (zpac_n (zpv 2) (zpac_n (zpe_bltn (by rfl) hve boot_ve (v := .ty "ValueError") rfl) zpa_nil))))) (zpw_or1 (zpt_val (zpe_callB call_isi (by rfl) B.isi boot_isi (zpac_x (zpe_xd (zpv 2)) (zpac_n (zpe_bltn (by rfl) B.bool boot_bool (v := .ty "bool") rfl) zpa_nil)))))))) (zpss_one (zps_ret (zpe_tup (zpac_c zpe_str (zpac_c zpe_non zpa_nil))))) zpss_nil)
      (zpss_cons (zps_if (zpt_val (zpe_callB call_isi (by rfl) B.isi boot_isi (zpac_n (zpv 2) (zpac_t (zpe_tup (zpac_n (zpe_glob (by rfl) C.c2 (v := .ref _) rfl) (zpac_n (zpe_glob (by rfl) C.c3 (v := .ref _) rfl) (zpac_n (zpe_glob (by rfl) C.c4 (v := .ref _) rfl) (zpac_n (zpe_glob (by rfl) C.c5 (v := .ref _) rfl) (zpac_n (zpe_glob (by rfl) C.c6 (v := .ref _) rfl) (zpac_n (zpe_glob (by rfl) C.c7 (v := .ref _) rfl) (zpac_n (zpe_glob (by rfl) C.c8 (v := .ref _) rfl) (zpac_n (zpe_glob (by rfl) C.c9 (v := .ref _) rfl) (zpac_n (zpe_glob (by rfl) C.c10 (v := .ref _) rfl) zpa_nil)))))))))) zpa_nil)))) (zpss_one (zps_ret (zpe_tup (zpac_c zpe_str (zpac_c zpe_non zpa_nil))))) zpss_nil)
      (zpss_cons (zps_if (zpt_val (zpe_callB call_isi (by rfl) B.isi boot_isi (zpac_n (zpv 2) (zpac_t (zpe_tup (zpac_n (zpe_glob (by rfl) C.c11 (v := .ref _) rfl) (zpac_n (zpe_glob (by rfl) C.c12 (v := .ref _) rfl) (zpac_n (zpe_glob (by rfl) C.c13 (v := .ref _) rfl) (zpac_n (zpe_glob (by rfl) C.c14 (v := .ref _) rfl) zpa_nil))))) zpa_nil)))) (zpss_one (zps_ret (zpe_tup (zpac_c zpe_str (zpac_c zpe_non zpa_nil))))) zpss_nil)
      (zpss_one (zps_ret (zpe_tup (zpac_c zpe_str (zpac_x (zpe_xd (zpv 2)) zpa_nil)))))))))))), ?_⟩
    refine ⟨_, rfl, _, rfl, L, x, ts, rfl, gb, ht1, ht2, hx, zl, fun row er R H1 _ eR k1 a1 b1 => ?_, fun n en dx H1 k1 a1 b1 hd => ?_⟩
    · refine ⟨_, rfl, _, rfl, iteT ⟨_, rfl, by show 2 ≤ sizeLine; decide, ?_⟩⟩
      (intro t gt; generalize hEq : upd _ t _ = H2; refine newC hEq gt ?_; clear hEq; intro S2 et o2)
      exact q t H2 (by rw [er]; exact ⟨R, et, S2 _ _ eR⟩) (k1.trans S2.kp) (a1.same S2) (b1.same S2)
    · refine ⟨c.getD 1 0, rfl, C.up, ?_⟩
      (intro e he; generalize hEq : upd _ e _ = H2; refine newC hEq he ?_; clear hEq; intro S2 he2 o2)
      have hd2 := S2 _ _ hd
      have k2 := k1.trans (Kp.same S2)
      have a2 := a1.same S2
      have b2 := b1.same S2
      have ty : ∀ {H' : Hp}, Same H2 H' → TyX K H' (.ref e) (.ref (c.getD 1 0)) := fun s => .excD (s _ _ he2) (s _ _ hd2) C.cls
      have s0 : Same H2 H2 := fun _ _ h => h
      have xd : ∀ {H' : Hp}, Same H2 H' → ∀ {R : V → Hp → Prop}, R (.int (n : Int)) H' → ∃ e' C' d fs v', V.ref e = .ref e' ∧ H' e' = some (ExcD C' e' (some d)) ∧ H' d = some (.xd fs) ∧ ClsX K C' ∧ PySem.W.findIn K (.ref C') "place" = some none ∧ fs.lookup ("place" : Str) = some v' ∧ R v' H' :=
        fun s R r => ⟨e, _, dx, _, _, rfl, s _ _ he2, s _ _ hd2, C.cls, C.num, rfl, r⟩
      refine ⟨_, rfl, ?_⟩
      refine ⟨_, rfl, _, rfl, iteF ?_⟩
      refine ⟨_, rfl, _, _, _, true, rfl, ty s0, .inl ⟨_, rfl, kit_self⟩, _, rfl, ?_⟩
      refine iteF ⟨_, rfl, _, _, _, true, rfl, ty s0, .inl ⟨_, rfl, kit_type C.ve⟩, _, rfl, ?_⟩
      refine iteF ?_
      refine ⟨_, rfl, xd s0 ⟨_, _, _, false, rfl, .of (.int _), .inl ⟨_, rfl, kb2⟩, _, rfl, ?_⟩⟩
      refine iteF ?_
      refine ⟨_, rfl, by show 9 ≤ sizeLine; decide, ?_⟩
      (intro t gt; generalize hEq : upd _ t _ = H3; refine newC hEq gt ?_; clear hEq; intro S3 et o3)
      refine ⟨_, _, _, false, rfl, ty S3, .inr ⟨t, _, [2, 3, 4, 5, 6, 7, 8, 9, 10].map (fun i => Value.ref (c.getD i 0)), rfl, SqT.of et, rfl, ?_⟩, _, rfl, ?_⟩
      · exact Other.all (cs := [2, 3, 4, 5, 6, 7, 8, 9, 10].map (fun i => c.getD i 0)) C.self fun a ha => by
          obtain ⟨i, hi, rfl⟩ := List.mem_map.mp ha
          exact C.oth i (by simp at hi; omega) (by simp at hi; omega)
      refine iteF ?_
      refine ⟨_, rfl, by show 4 ≤ sizeLine; decide, ?_⟩
      (intro u gu; generalize hEq : upd _ u _ = H4; refine newC hEq gu ?_; clear hEq; intro S4 eu o4)
      have S24 := S3.trans S4
      refine ⟨_, _, _, false, rfl, ty S24, .inr ⟨u, _, [11, 12, 13, 14].map (fun i => Value.ref (c.getD i 0)), rfl, SqT.of eu, rfl, ?_⟩, _, rfl, ?_⟩
      · exact Other.all (cs := [11, 12, 13, 14].map (fun i => c.getD i 0)) C.self fun a ha => by
          obtain ⟨i, hi, rfl⟩ := List.mem_map.mp ha
          exact C.oth i (by simp at hi; omega) (by simp at hi; omega)
      refine iteF ?_
      refine ⟨_, rfl, xd S24 ⟨by show 2 ≤ sizeLine; decide, ?_⟩⟩
      (intro v gv; generalize hEq : upd _ v _ = H5; refine newC hEq gv ?_; clear hEq; intro S5 ev o5)
      have S25 := S24.trans S5
      exact q v H5 (by rw [en]; exact ev) (k2.trans S25.kp) (a2.same S25) (b2.same S25)
end
end G1
namespace G1
open PySem L2 GM
theorem all_true (n : Nat) : ((List.range n).all fun _ => true) = true := List.all_eq_true.2 fun _ _ => rfl
theorem upI_flat (r : List Nat) : ∀ x ∈ upI r, ∃ n : Nat, x = .int (n : Int) := fun x hx => by
  unfold upI at hx
  obtain ⟨n, _, rfl⟩ := List.mem_map.mp hx
  exact ⟨n, rfl⟩
theorem eqd_upI {K : PySem.W.Frag} {H : Hp} {a b : Addr} {r : List Nat} (ha : H a = some (.lst (upI r))) (hb : H b = some (.lst (upI r))) : EqD K H 1 (.ref a) (.ref b) true := by
  by_cases e : a = b
  · subst e
    exact .inl (.inr ⟨a, rfl, rfl, rfl⟩)
  · refine .inr ⟨a, b, rfl, rfl, e, ?_⟩
    have z := TopR.lsts (K := K) (H := H) (R := EqD K H 0) (fun _ => true) (SqL.of ha) (SqL.of hb) rfl fun j x y h1 h2 => by
      rw [h1] at h2; cases h2
      obtain ⟨n, rfl⟩ := upI_flat r x (List.mem_of_getElem? h1)
      exact .inl ⟨rfl, rfl, by show true = ((n : Int) == (n : Int)); simp⟩
    rw [all_true] at z
    exact z
theorem TellT.same {H H' : Hp} {t : Addr} {o : List Nat ⊕ Nat} (h : TellT H t o) (k : Same H H') : TellT H' t o := by
  cases o with
  | inl r =>
    obtain ⟨R, h1, h2⟩ := h
    exact ⟨R, k _ _ h1, k _ _ h2⟩
  | inr n => exact k _ _ h
theorem tell_top {K : PySem.W.Frag} {H : Hp} {t u : Addr} {o : List Nat ⊕ Nat} (h : TellT H t o) (h' : TellT H u o) : TopR K H (EqD K H 1) (.ref t) (.ref u) true := by
  cases o with
  | inl r =>
    obtain ⟨R, h1, h2⟩ := h
    obtain ⟨R', h3, h4⟩ := h'
    exact TopR.tups (K := K) (H := H) (R := EqD K H 1) (fun _ => true) (SqT.of h1) (SqT.of h3) fun j x y e1 e2 => by
      match j, e1, e2 with
      | 0, e1, e2 =>
        cases e1; cases e2
        exact .inl (.inl ⟨rfl, rfl, by decide⟩)
      | 1, e1, e2 =>
        cases e1; cases e2
        exact eqd_upI h2 h4
      | j + 2, e1, _ => cases e1
  | inr n =>
    exact TopR.tups (K := K) (H := H) (R := EqD K H 1) (fun _ => true) (SqT.of h) (SqT.of h') fun j x y e1 e2 => by
      match j, e1, e2 with
      | 0, e1, e2 =>
        cases e1; cases e2
        exact .inl (.inl ⟨rfl, rfl, by decide⟩)
      | 1, e1, e2 =>
        cases e1; cases e2
        exact .inl (.inl ⟨rfl, rfl, by show true = ((n : Int) == (n : Int)); simp⟩)
      | j + 2, e1, _ => cases e1
section
variable {P : Program} {w : World} {K : PySem.W.Frag} {mg : Str → Option Value} {base : Heap} {c : List Addr}
def spLaw (T1 T2 : Addr) (K : PySem.W.Frag) : Sp := fun vs H Q _ => ∃ (a : Addr) (ns : List Int), vs = [.ref a] ∧ SqL K H a (ns.map V.int) ∧ ns.length ≤ 63 ∧ Tab T1 H ∧ Tab T2 H ∧ ∀ H', Q (.bl true) H'
theorem scLa : FnScope ["_law_script", "_law_book", "_law_kept", "_law_k", "_law_pool_here", "_law_text_here"] ["_law_script"] (defScope sLaw) := ⟨rfl, rfl, rfl, by decide +kernel, rfl, by decide +kernel, by decide +kernel⟩
theorem ok_law {T1 T2 : Addr} {f fP fD fN fX fU fO : Addr} {fd fdP fdD fdN fdX fdU fdO : FuncData} (F : FunG K "law" "law" sLaw .none f fd) (B : Bl mg)
    (GP : FnOk P w K mg base (CXE P w) 1 fP fdP ["_law_script", "_law_k"] (spPool K)) (mP : mg "_law_pool" = some (.ref fP)) (kP : PySem.W.keepIn K (.ref fP) = true) (bP : Binds K fdP ["_law_script", "_law_k"] [])
    (GD : FnOk P w K mg base (CXE P w) 1 fD fdD ["_law_pool_here", "_law_many"] spDraw) (mD : mg "_law_take" = some (.ref fD)) (kD : PySem.W.keepIn K (.ref fD) = true) (bD : Binds K fdD ["_law_pool_here", "_law_many"] [])
    (GN : FnOk P w K mg base (CXE P w) 2 fN fdN ["_law_pool_here"] spPlain) (mN : mg "_law_plain" = some (.ref fN)) (kN : PySem.W.keepIn K (.ref fN) = true) (bN : Binds K fdN ["_law_pool_here"] [])
    (GX : FnOk P w K mg base (CXE P w) 2 fX fdX ["_law_pool_here", "_law_book"] spText) (mX : mg "_law_text" = some (.ref fX)) (kX : PySem.W.keepIn K (.ref fX) = true) (bX : Binds K fdX ["_law_pool_here", "_law_book"] [])
    (GU : FnOk P w K mg base (CXE P w) 1 fU fdU ["_law_book", "_law_text_here"] spDue) (mU : mg "_law_due" = some (.ref fU)) (kU : PySem.W.keepIn K (.ref fU) = true) (bU : Binds K fdU ["_law_book", "_law_text_here"] [])
    (GO : FnOk P w K mg base (CXE P w) 8 fO fdO ["_law_book", "_law_text_here"] (spTold (c.getD 1 0) T1 T2)) (mO : mg "_law_told" = some (.ref fO)) (kO : PySem.W.keepIn K (.ref fO) = true) (bO : Binds K fdO ["_law_book", "_law_text_here"] []) :
    FnOk P w K mg base (CXE P w) 9 f fd ["_law_script"] (spLaw T1 T2 K) := by
  refine F.zokN scLa (fun vs H Q E h => ?_) (fun cdv A outer s H vs Q E hr h => ?_)
  · obtain ⟨a, ns, rfl, _⟩ := h
    rfl
  · obtain ⟨a, ns, rfl, ha, hlen, hT1, hT2, q⟩ := h
    refine ⟨_, (zpss_cons (zps_set (i := 1) scLa.nd rfl (Or.inl rfl) (zpe_call GN (hr.mono (by decide)) (by rfl) mN kN bN .nil passE0 (zpac_f (zpe_call GP (hr.mono (by decide)) (by rfl) mP kP bP .nil passE0 (zpac_n (zpv 0) (zpac_c zpe_int zpa_nil))) zpa_nil)))
      (zpss_cons (zps_set (i := 2) scLa.nd rfl (Or.inl rfl) (zpe_callTy call_list_of (by rfl) B.list boot_list (zpac_n (zpv 1) zpa_nil)))
      (zpss_cons (zps_for PassesOwn.never rfl (zpi_range2 (by rfl) B.range (zpac_c zpe_int (zpac_f (zpe_callB (call_max2 rfl) (by rfl) B.max boot_max (zpac_c zpe_int (zpac_f (zpe_callB (call_min2 rfl) (by rfl) B.min boot_min (zpac_f (zpe_callB call_len_seq (by rfl) B.len PySem.boot_len (zpac_n (zpv 0) zpa_nil)) (zpac_c zpe_int zpa_nil))) zpa_nil))) zpa_nil))) (zpg_name (i := 3) scLa.nd rfl (Or.inl rfl))
          (zpss_cons (zps_set (i := 4) scLa.nd rfl (Or.inl rfl) (zpe_call GP (hr.mono (by decide)) (by rfl) mP kP bP .nil passE0 (zpac_n (zpv 0) (zpac_n (zpv 3) zpa_nil))))
      (zpss_cons (zps_set (i := 5) scLa.nd rfl (Or.inl rfl) (zpe_call GX (hr.mono (by decide)) (by rfl) mX kX bX .nil passE0 (zpac_n (zpv 4) (zpac_n (zpv 2) zpa_nil))))
      (zpss_cons (zps_cut (zps_if (zpt_cmpR op_eq (zpe_call GD (hr.mono (by decide)) (by rfl) mD kD bD .nil passE0 (zpac_n (zpv 4) (zpac_c zpe_int zpa_nil))) zpe_int (nomark _)) (zpss_one (zps_set (i := 5) scLa.nd rfl (Or.inl rfl) (zpe_ix ix_list (zpe_lst (zpac_c zpe_non (zpac_c zpe_int (zpac_c zpe_bl (zpac_f (zpe_callTy (call_listS rfl) (by rfl) B.list boot_list (zpac_n (zpv 5) zpa_nil)) (zpac_t (zpe_tup (zpac_n (zpv 5) zpa_nil)) (zpac_d zpe_dict0 zpa_nil))))))) (zpe_call GD (hr.mono (by decide)) (by rfl) mD kD bD .nil passE0 (zpac_n (zpv 4) (zpac_c zpe_int zpa_nil))) (fun _ _ => rfl)))) zpss_nil))
      (zpss_one (zps_if (SPW.pt (zpw_or (zpt_cmpR (op_neD hr.units60) (zpe_call GO hr (by rfl) mO kO bO .nil passE0 (zpac_n (zpv 1) (zpac_n (zpv 5) zpa_nil))) (zpe_call GU (hr.mono (by decide)) (by rfl) mU kU bU .nil passE0 (zpac_n (zpv 2) (zpac_n (zpv 5) zpa_nil))) (nomark _)) (zpw_or1 (zpt_cmpR (op_neV hr.units0) (zpv 1) (zpv 2) (nomark _))))) (zpss_one (zps_ret zpe_bl)) zpss_nil))))))
      (zpss_one (zps_ret zpe_bl))))), ?_⟩
    refine ⟨_, rfl, a, ns, _, rfl, ha, by decide, by decide, fun p0 H1 hp0 s1 k1 => ?_⟩
    refine ⟨p0, rfl, s1, fun L ts H2 hL gb Lp s2 E2 => ?_⟩
    have S2 : Same H H2 := fun b o e => E2 b o (ne_of_none e hp0) ((k1 b (ne_of_none e hp0)).trans e)
    have sq : ∀ {H' : Hp}, Kp H H' → SqL K H' a (ns.map V.int) := fun k => k.seq ha
    have tl := txs_len ts
    have gl1 := gb.l1
    have gl2 := gb.l2
    refine ⟨_, rfl, L, _, rfl, .inl (SqL.of gb.at_), ?_⟩
    (intro B1 gB1; generalize hEq : upd _ B1 _ = H3; refine newC hEq gB1 ?_; clear hEq; intro S3 eB1 o3)
    have gb3 := gb.kp S3.kp
    have S13 := S2.trans S3
    have gbB : GB H3 (.ref B1) B1 ts := ⟨rfl, eB1, gb.l1, gb.l2, gb.nm, gb.no⟩
    refine ⟨_, rfl, a, _, rfl, .inl (sq S13.kp), _, _, rfl, _, _, rfl, _, _, rfl, ⟨by decide, by decide, ?_, ?_⟩, ?_⟩
    · rw [List.length_map]; split <;> (try split) <;> omega
    · rw [List.length_map]; split <;> (try split) <;> omega
    refine for_range (lo := 1) (fun i σ H' => (∃ v3 v4 v5, σ = [some (.ref a), some (.ref L), some (.ref B1), v3, v4, v5]) ∧ Kp H3 H' ∧ Tab T1 H' ∧ Tab T2 H') ⟨⟨_, _, _, rfl⟩, Kp.refl, hT1.same S13, hT2.same S13⟩ ?_ ?_
    · rintro i σ H4 hi ⟨⟨v3, v4, v5, rfl⟩, k4, a4, b4⟩
      have il : i ≤ 62 := by
        rw [List.length_map] at hi
        split at hi <;> (try split at hi) <;> omega
      have K4 : Kp H H4 := S13.kp.trans k4
      refine ⟨_, rfl, _, rfl, a, ns, _, rfl, sq K4, by omega, by omega, fun p H5 hp s5 k5 => ?_⟩
      have E5 : ∀ b o, H4 b = some o → H5 b = some o := fun b o e => (k5 b (ne_of_none e hp)).trans e
      have hB4 := k4.lst eB1
      refine ⟨_, rfl, _, rfl, p, B1, ts, rfl, s5, E5 _ _ hB4, ne_of_none hB4 hp, gl1, gl2, gb.len8, fun z H6 zl s6 E6 => ?_⟩
      have S46 : ∀ b o, H4 b = some o → H6 b = some o := fun b o e => E6 _ _ (ne_of_none e hp) (E5 _ _ e)
      refine ⟨fun σ H' => (∃ x, σ = [some (.ref a), some (.ref L), some (.ref B1), some (.int (1 + (i : Int))), some (.ref p), some x] ∧ Th H' x ∧ ∀ z, x = .str z → z.length ≤ 1000) ∧ Same H4 H', ?_, ?_⟩
      · refine ⟨_, rfl, p, _, rfl, s6, by decide, by decide, fun d H7 d0 d1 s7 k7 => ⟨rfl, _, rfl, ?_⟩⟩
        have E7 : Ext p H6 H7 := Ext.of_eq k7
        have S47 : Same H4 H7 := fun b o e => E7 _ _ (ne_of_none e hp) (S46 _ _ e)
        refine ite2 (fun _ => ?_) (fun _ => ⟨⟨_, rfl, .str z, fun y e => by injection e with e; rw [← e]; omega⟩, S47⟩)
        refine ⟨_, rfl, z, rfl, Nat.le_trans zl (by decide), ?_⟩
        (intro A1 g1; generalize hEq : upd _ A1 _ = H8; refine newC hEq g1 ?_; clear hEq; intro S8 e1 o8)
        refine ⟨_, rfl, by show 1 ≤ sizeLine; decide, ?_⟩
        (intro A2 g2; generalize hEq : upd _ A2 _ = H9; refine newC hEq g2 ?_; clear hEq; intro S9 e2 o9)
        (intro A3 g3; generalize hEq : upd _ A3 _ = H10; refine newC hEq g3 ?_; clear hEq; intro S10 e3 o10)
        refine ⟨by show 6 ≤ sizeLine; decide, ?_⟩
        (intro A4 g4; generalize hEq : upd _ A4 _ = H11; refine newC hEq g4 ?_; clear hEq; intro S11 e4 o11)
        have s8 := s7.same S8
        have s9 := s8.same S9
        have s10 := s9.same S10
        have s11 := s10.same S11
        have S911 := S10.trans S11
        have W := ac (p := fun y => ThP H11 p y ∧ ∀ z, y = .str z → z.length ≤ 1000) (x := V.non) ⟨⟨.non, nofun⟩, nofun⟩ (ac (x := V.int 5) ⟨⟨.int _, nofun⟩, nofun⟩ (ac (x := V.bl true) ⟨⟨.bl _, nofun⟩, nofun⟩
          (ac (x := V.ref A1) ⟨⟨.lst (S11 _ _ (S10 _ _ (S9 _ _ e1))), fun z => by injection z with z; exact s7.ne g1 z⟩, nofun⟩ (ac (x := V.ref A2) ⟨⟨.tup (S911 _ _ e2), fun z => by injection z with z; exact s8.ne g2 z⟩, nofun⟩
          (ac (x := V.ref A3) ⟨⟨.dK (S11 _ _ e3), fun z => by injection z with z; exact s9.ne g3 z⟩, nofun⟩ ac0)))))
        refine ⟨_, rfl, p, _, rfl, s11, by decide, by decide, fun e H12 q0 q1 s12 k12 => ?_⟩
        obtain ⟨x, mx, ex⟩ := at_ofV q0 (show e < ([V.non, .int 5, .bl true, .ref A1, .ref A2, .ref A3] : List V).length from q1)
        obtain ⟨w1, w2⟩ := W x mx
        have E12 : Ext p H11 H12 := Ext.of_eq k12
        exact ⟨A4, _, _, x, rfl, rfl, SqL.of (E12 _ _ (s10.ne g4) e4), ex, ⟨x, rfl, (w1.ext E12).th, w2⟩, fun b o e => E12 _ _ (ne_of_none e hp) (S11 _ _ (S10 _ _ (S9 _ _ (S8 _ _ (S47 _ _ e)))))⟩
      · rintro σ H7 ⟨⟨x, rfl, th, xl⟩, S7⟩
        have K7 := k4.trans S7.kp
        refine ⟨_, rfl, _, rfl, L, x, ts, rfl, gb3.kp K7, a4.same S7, b4.same S7, th, xl, fun t1 H8 tt1 k8 a8 b8 => ?_⟩
        have K8 := K7.trans k8
        refine ⟨_, rfl, _, rfl, B1, x, ts, rfl, gbB.kp K8, th.kp k8, xl, fun t2 H9 tt2 S9 n2 => ?_⟩
        refine ⟨1, true, by decide, tell_top (tt1.same S9) tt2, ?_⟩
        refine ⟨_, rfl, iteF ?_⟩
        have K9 := K8.trans S9.kp
        refine ⟨_, rfl, _, rfl, L, B1, txs ts, txs ts, rfl, rfl, SqL.of (gb3.kp K9).at_, SqL.of (K9.lst eB1), txs_flat _, txs_flat _, ?_⟩
        rw [eqVs_txs, decide_eq_true rfl]
        exact ⟨_, rfl, iteF ⟨⟨_, _, _, rfl⟩, K9, a8.same S9, b8.same S9⟩⟩
    · rintro σ H4 ⟨⟨v3, v4, v5, rfl⟩, k4, a4, b4⟩
      exact q H4
end
end G1
namespace L2
open PySem PySem.Spec PyProof.Rows PySem.W PySem.W.X
def keepP (p : Addr × Obj) : Bool := match p.2.data with | .fields vs => !vs.isEmpty | _ => true
def filt (K : Frag) : Frag := K.filter keepP
theorem filt_look {a : Addr} {o : Obj} : ∀ {K : Frag}, K.lookup a = some o → keepP (a, o) = true → (filt K).lookup a = some o
  | [], e, _ => nomatch e
  | (b, u) :: K, e, k => by
    by_cases q : a = b
    · subst q
      have e' : some u = some o := by rw [List.lookup_cons, beq_self_eq_true] at e; exact e
      cases e'
      have z : filt ((a, o) :: K) = (a, o) :: filt K := List.filter_cons_of_pos k
      rw [z, List.lookup_cons, beq_self_eq_true]
    · have f : (a == b) = false := beq_eq_false_iff_ne.mpr q
      have e' : K.lookup a = some o := by rw [List.lookup_cons, f] at e; exact e
      have r := filt_look e' k
      cases hk : keepP (b, u) with
      | true =>
        have z : filt ((b, u) :: K) = (b, u) :: filt K := List.filter_cons_of_pos hk
        rw [z, List.lookup_cons, f]; exact r
      | false =>
        have z : filt ((b, u) :: K) = filt K := List.filter_cons_of_neg (by rw [hk]; exact Bool.false_ne_true)
        rw [z]; exact r
theorem filt_ns {K : Frag} {ns : Addr} {x : Str} {v : Option Value} (e : nsIn K ns x = some v) : nsIn (filt K) ns x = some v := by
  unfold nsIn at e ⊢
  split at e
  next cls d es ep sl l => rw [filt_look l rfl]; exact e
  next => cases e
theorem filt_code {K : Frag} {cd : Value} {q : Str} (e : codeIn K cd q = true) : codeIn (filt K) cd q = true := by
  unfold codeIn at e ⊢
  split at e
  next c =>
    split at e
    next cls d vs sl l =>
      rw [filt_look l (by
        show (!vs.isEmpty) = true
        cases hv : vs.isEmpty with
        | false => rfl
        | true =>
          rw [Array.isEmpty_iff] at hv
          subst hv
          exact e)]
      exact e
    next => cases e
  next => cases e
theorem filt_mem {a : Addr} {o : Obj} : ∀ {K : Frag}, (filt K).lookup a = some o → (a, o) ∈ K
  | [], e => nomatch e
  | (b, u) :: K, e => by
    cases hk : keepP (b, u) with
    | true =>
      have z : filt ((b, u) :: K) = (b, u) :: filt K := List.filter_cons_of_pos hk
      rw [z, List.lookup_cons] at e
      by_cases q : a = b
      · subst q
        rw [beq_self_eq_true] at e
        cases e
        exact List.mem_cons_self ..
      · rw [beq_eq_false_iff_ne.mpr q] at e
        exact List.mem_cons_of_mem _ (filt_mem e)
    | false =>
      have z : filt ((b, u) :: K) = filt K := List.filter_cons_of_neg (by rw [hk]; exact Bool.false_ne_true)
      rw [z] at e
      exact List.mem_cons_of_mem _ (filt_mem e)
theorem allIn_mem {h : Heap} : ∀ {K : Frag} {p : Addr × Obj}, AllIn h K → p ∈ K → h.get? p.1 = some p.2
  | [], _, _, m => nomatch m
  | q :: K, p, A, m => by
    rcases List.mem_cons.mp m with rfl | m
    · exact A.1
    · exact allIn_mem A.2 m
theorem walkX_of {q : Program} {loose : List Str} {XP : (Str → Option Value) → Heap → Prop} {K : Params → Frag} {as : List Addr} {n t : Nat} {r : RowW} {d : DefRec} {kwd : List (Str × PySem.Expr)} {run : Value → List Value → Sem Value}
    (e : ∀ P, as = (K P).map (·.1)) (h : WalkO q loose XP (fun w h => (filt (K w.params)).In h) r d kwd run) : WalkX q loose XP (obsZ as) (valZ K n t) r d kwd run :=
  fun w s₀ s₁ mg mb G Y a o pm cd doc dV kV ho hd hcd hD hmg hg args vals as L hpre hlay hrd hwl hlo =>
    h w s₀ s₁ mg mb G (fun b u l => L.keeps _ _ (allIn_mem (z_facts e Y).1 (filt_mem l))) a o pm cd doc dV kV ho hd hcd hD hmg hg args vals as hpre hlay hrd hwl hlo
end L2
namespace L2
open PySem PySem.Spec PyProof.Rows PySem.W PySem.W.X
theorem filt_own {K : Frag} {x : Str} {v : Value} {r : Option Value} (e : ownIn K x v = some r) : ownIn (filt K) x v = some r := by
  unfold ownIn at e ⊢
  split at e
  next n => exact e
  next a =>
    split at e
    next cls d cd sl l => rw [filt_look l rfl]; exact filt_ns e
    next => cases e
  next h1 h2 => exact e
theorem filt_along {K : Frag} {x : Str} : ∀ {l : List Value} {r : Option Value}, alongIn K x l = some r → alongIn (filt K) x l = some r
  | [], r, e => by rw [alongIn.eq_1] at e ⊢; exact e
  | c :: l, r, e => by
    rw [alongIn.eq_2] at e ⊢
    cases h : ownIn K x c with
    | none => rw [h] at e; cases e
    | some o =>
      rw [h] at e
      rw [filt_own h]
      cases o with
      | some v => exact e
      | none => exact filt_along e
theorem filt_find {K : Frag} {t : Value} {x : Str} {r : Option Value} (e : findIn K t x = some r) : findIn (filt K) t x = some r := by
  unfold findIn at e ⊢
  split at e
  next n => exact e
  next a =>
    split at e
    next cls d cd sl l => rw [filt_look l rfl]; exact filt_along e
    next => cases e
  next => cases e
end L2
namespace G1
open PySem PySem.Spec PyProof.Rows L2 GM
theorem keep_of {K : PySem.W.Frag} {f : Addr} {oc : Value} {od : Option Addr} {fd : FuncData} {sl : Array (Option Value)} (l : K.lookup f = some ⟨oc, od, .func fd, sl⟩) : PySem.W.keepIn K (.ref f) = true := by
  unfold PySem.W.keepIn
  simp only [l]
theorem cd_of {K : PySem.W.Frag} {n x q : Str} {f c T : Addr} {fd : FuncData} {oc : Value} {od : Option Addr} {sl : Array (Option Value)} {ar : Arguments} {bo : List Stmt} {sc : Scope} {dV kV dc pm cd ct : Value} {an : Option Addr} (C : CodeN K n f c T fd) (l : K.lookup f = some ⟨oc, od, .func (PySem.W.fnOf x q ar bo sc dV kV dc pm an cd ct), sl⟩) : cd = .ref c := by
  obtain ⟨oc', od', sl', l'⟩ := C.l
  rw [l] at l'
  injection l' with l'; injection l' with _ _ l' _; injection l' with l'
  rw [← C.hc, ← l']
theorem len1 {us : List Value} (h : us.length = 1) : ∃ a0, us = [a0] := by
  match us, h with
  | [a0], _ => exact ⟨a0, rfl⟩
theorem len2 {us : List Value} (h : us.length = 2) : ∃ a0 a1, us = [a0, a1] := by
  match us, h with
  | [a0, a1], _ => exact ⟨a0, a1, rfl⟩
theorem all_mk {l : PySem.W.OpenLaw} {w : World} {K : PySem.W.Frag} {h : Heap} {mg : Str → Option Value} {fa : Addr} (X : K.In h) (G : h.Ns mainGlobals mg) (hfa : mg "law" = some (.ref fa))
    {f0 : Addr} {od0 an0 : Option Addr} {sl0 : Array (Option Value)} {oc0 kV0 dc0 pm0 cd0 ct0 : Value}
    {cc0 T0 : Addr} {fdT0 : FuncData}
    {f1 : Addr} {od1 an1 : Option Addr} {sl1 : Array (Option Value)} {oc1 kV1 dc1 pm1 cd1 ct1 : Value}
    {f2 : Addr} {od2 an2 : Option Addr} {sl2 : Array (Option Value)} {oc2 kV2 dc2 pm2 cd2 ct2 : Value}
    {f3 : Addr} {od3 an3 : Option Addr} {sl3 : Array (Option Value)} {oc3 kV3 dc3 pm3 cd3 ct3 : Value}
    {cc3 T3 : Addr} {fdT3 : FuncData}
    {f4 : Addr} {od4 an4 : Option Addr} {sl4 : Array (Option Value)} {oc4 kV4 dc4 pm4 cd4 ct4 : Value}
    {f5 : Addr} {od5 an5 : Option Addr} {sl5 : Array (Option Value)} {oc5 kV5 dc5 pm5 cd5 ct5 : Value}
    {f6 : Addr} {od6 an6 : Option Addr} {sl6 : Array (Option Value)} {oc6 kV6 dc6 pm6 cd6 ct6 : Value}
    {f7 : Addr} {od7 an7 : Option Addr} {sl7 : Array (Option Value)} {oc7 kV7 dc7 pm7 cd7 ct7 : Value}
    {f8 : Addr} {od8 an8 : Option Addr} {sl8 : Array (Option Value)} {oc8 kV8 dc8 pm8 cd8 ct8 : Value}
    {f9 : Addr} {od9 an9 : Option Addr} {sl9 : Array (Option Value)} {oc9 kV9 dc9 pm9 cd9 ct9 : Value}
    {f10 : Addr} {od10 an10 : Option Addr} {sl10 : Array (Option Value)} {oc10 kV10 dc10 pm10 cd10 ct10 : Value}
    {f11 : Addr} {od11 an11 : Option Addr} {sl11 : Array (Option Value)} {oc11 kV11 dc11 pm11 cd11 ct11 : Value}
    {f12 : Addr} {od12 an12 : Option Addr} {sl12 : Array (Option Value)} {oc12 kV12 dc12 pm12 cd12 ct12 : Value}
    {tkA tkB tkC : Tok}
    {C0 C1 C2 C3 C4 C5 C6 C7 C8 C9 C10 C11 C12 C13 C14 : Addr}
    {fI1 : Addr}
    {CR : Addr}
    {f101 : Addr} {od101 an101 : Option Addr} {sl101 : Array (Option Value)} {oc101 kV101 dc101 pm101 cd101 ct101 : Value}
    {f102 : Addr} {od102 an102 : Option Addr} {sl102 : Array (Option Value)} {oc102 kV102 dc102 pm102 cd102 ct102 : Value}
    {f103 : Addr} {od103 an103 : Option Addr} {sl103 : Array (Option Value)} {oc103 kV103 dc103 pm103 cd103 ct103 : Value}
    (CN0 : CodeN K "is_name" f0 cc0 T0 fdT0)
    (CN3 : CodeN K "look_at_plain_book" f3 cc3 T3 fdT3)
    (a0 : PySem.W.nsIn K mainGlobals "is_name" = some (some (.ref f0)))
    (l0 : K.lookup f0 = some ⟨oc0, od0, .func (PySem.W.fnOf "is_name" "is_name" (defArgs sName) (defBody sName) (defScope sName) .none kV0 dc0 pm0 an0 cd0 ct0), sl0⟩)
    (c0 : PySem.W.codeIn K cd0 "is_name" = true)
    (a1 : PySem.W.nsIn K mainGlobals "begins_of" = some (some (.ref f1)))
    (l1 : K.lookup f1 = some ⟨oc1, od1, .func (PySem.W.fnOf "begins_of" "begins_of" (defArgs sBegins) (defBody sBegins) (defScope sBegins) .none kV1 dc1 pm1 an1 cd1 ct1), sl1⟩)
    (c1 : PySem.W.codeIn K cd1 "begins_of" = true)
    (a2 : PySem.W.nsIn K mainGlobals "first_clash" = some (some (.ref f2)))
    (l2 : K.lookup f2 = some ⟨oc2, od2, .func (PySem.W.fnOf "first_clash" "first_clash" (defArgs sClash) (defBody sClash) (defScope sClash) .none kV2 dc2 pm2 an2 cd2 ct2), sl2⟩)
    (c2 : PySem.W.codeIn K cd2 "first_clash" = true)
    (a3 : PySem.W.nsIn K mainGlobals "look_at_plain_book" = some (some (.ref f3)))
    (l3 : K.lookup f3 = some ⟨oc3, od3, .func (PySem.W.fnOf "look_at_plain_book" "look_at_plain_book" (defArgs sPlainB) (defBody sPlainB) (defScope sPlainB) .none kV3 dc3 pm3 an3 cd3 ct3), sl3⟩)
    (c3 : PySem.W.codeIn K cd3 "look_at_plain_book" = true)
    (a4 : PySem.W.nsIn K mainGlobals "signs_behind" = some (some (.ref f4)))
    (l4 : K.lookup f4 = some ⟨oc4, od4, .func (PySem.W.fnOf "signs_behind" "signs_behind" (defArgs sBehind) (defBody sBehind) (defScope sBehind) .none kV4 dc4 pm4 an4 cd4 ct4), sl4⟩)
    (c4 : PySem.W.codeIn K cd4 "signs_behind" = true)
    (a5 : PySem.W.nsIn K mainGlobals "read_row" = some (some (.ref f5)))
    (l5 : K.lookup f5 = some ⟨oc5, od5, .func (PySem.W.fnOf "read_row" "read_row" (defArgs sRead) (defBody sRead) (defScope sRead) .none kV5 dc5 pm5 an5 cd5 ct5), sl5⟩)
    (c5 : PySem.W.codeIn K cd5 "read_row" = true)
    (a6 : PySem.W.nsIn K mainGlobals "_law_pool" = some (some (.ref f6)))
    (l6 : K.lookup f6 = some ⟨oc6, od6, .func (PySem.W.fnOf "_law_pool" "_law_pool" (defArgs sPool) (defBody sPool) (defScope sPool) .none kV6 dc6 pm6 an6 cd6 ct6), sl6⟩)
    (c6 : PySem.W.codeIn K cd6 "_law_pool" = true)
    (a7 : PySem.W.nsIn K mainGlobals "_law_take" = some (some (.ref f7)))
    (l7 : K.lookup f7 = some ⟨oc7, od7, .func (PySem.W.fnOf "_law_take" "_law_take" (defArgs sDraw) (defBody sDraw) (defScope sDraw) .none kV7 dc7 pm7 an7 cd7 ct7), sl7⟩)
    (c7 : PySem.W.codeIn K cd7 "_law_take" = true)
    (a8 : PySem.W.nsIn K mainGlobals "_law_plain" = some (some (.ref f8)))
    (l8 : K.lookup f8 = some ⟨oc8, od8, .func (PySem.W.fnOf "_law_plain" "_law_plain" (defArgs sPlain) (defBody sPlain) (defScope sPlain) .none kV8 dc8 pm8 an8 cd8 ct8), sl8⟩)
    (c8 : PySem.W.codeIn K cd8 "_law_plain" = true)
    (a9 : PySem.W.nsIn K mainGlobals "_law_text" = some (some (.ref f9)))
    (l9 : K.lookup f9 = some ⟨oc9, od9, .func (PySem.W.fnOf "_law_text" "_law_text" (defArgs sText) (defBody sText) (defScope sText) .none kV9 dc9 pm9 an9 cd9 ct9), sl9⟩)
    (c9 : PySem.W.codeIn K cd9 "_law_text" = true)
    (a10 : PySem.W.nsIn K mainGlobals "_law_due" = some (some (.ref f10)))
    (l10 : K.lookup f10 = some ⟨oc10, od10, .func (PySem.W.fnOf "_law_due" "_law_due" (defArgs sDue) (defBody sDue) (defScope sDue) .none kV10 dc10 pm10 an10 cd10 ct10), sl10⟩)
    (c10 : PySem.W.codeIn K cd10 "_law_due" = true)
    (a11 : PySem.W.nsIn K mainGlobals "_law_told" = some (some (.ref f11)))
    (l11 : K.lookup f11 = some ⟨oc11, od11, .func (PySem.W.fnOf "_law_told" "_law_told" (defArgs sTold) (defBody sTold) (defScope sTold) .none kV11 dc11 pm11 an11 cd11 ct11), sl11⟩)
    (c11 : PySem.W.codeIn K cd11 "_law_told" = true)
    (a12 : PySem.W.nsIn K mainGlobals "law" = some (some (.ref f12)))
    (l12 : K.lookup f12 = some ⟨oc12, od12, .func (PySem.W.fnOf "law" "law" (defArgs sLaw) (defBody sLaw) (defScope sLaw) .none kV12 dc12 pm12 an12 cd12 ct12), sl12⟩)
    (c12 : PySem.W.codeIn K cd12 "law" = true)
    (aLe : PySem.W.nsIn K mainGlobals "LETTERS" = some (some (.str letters tkA)))
    (aLo : PySem.W.nsIn K mainGlobals "LONGEST_NAME" = some (some (.int 8 tkB)))
    (aMt : PySem.W.nsIn K mainGlobals "MOST_THINGS" = some (some (.int 20 tkC)))
    (m0 : PySem.W.nsIn K mainGlobals "DearError" = some (some (.ref C0)))
    (m1 : PySem.W.nsIn K mainGlobals "BadSign" = some (some (.ref C1)))
    (m2 : PySem.W.nsIn K mainGlobals "NoBook" = some (some (.ref C2)))
    (m3 : PySem.W.nsIn K mainGlobals "NoCount" = some (some (.ref C3)))
    (m4 : PySem.W.nsIn K mainGlobals "NoNumber" = some (some (.ref C4)))
    (m5 : PySem.W.nsIn K mainGlobals "NoRow" = some (some (.ref C5)))
    (m6 : PySem.W.nsIn K mainGlobals "NoText" = some (some (.ref C6)))
    (m7 : PySem.W.nsIn K mainGlobals "NoThing" = some (some (.ref C7)))
    (m8 : PySem.W.nsIn K mainGlobals "NoTongue" = some (some (.ref C8)))
    (m9 : PySem.W.nsIn K mainGlobals "NoTree" = some (some (.ref C9)))
    (m10 : PySem.W.nsIn K mainGlobals "NoTurn" = some (some (.ref C10)))
    (m11 : PySem.W.nsIn K mainGlobals "NoUndo" = some (some (.ref C11)))
    (m12 : PySem.W.nsIn K mainGlobals "NoWants" = some (some (.ref C12)))
    (m13 : PySem.W.nsIn K mainGlobals "TooMany" = some (some (.ref C13)))
    (m14 : PySem.W.nsIn K mainGlobals "Unknown" = some (some (.ref C14)))
    (q1 : PySem.W.findIn K (.ref C1) "__getattribute__" = some (some (.builtin "BaseException.__getattribute__")))
    (q0 : PySem.W.findIn K (.ref C1) "__getattr__" = some none)
    (q2 : PySem.W.hasDictIn K C1 = true)
    (q3 : PySem.W.findIn K (.ref C1) "__class__" = some (some (.builtin "object.__class__")))
    (q4 : PySem.W.specialIn K (.builtin "object.__class__") "__get__" = some (some (.builtin "getset_descriptor.__get__")))
    (q5 : PySem.W.takesIn K (.builtin "object.__class__") = some true)
    (q6 : PySem.W.mroIn K C1 (.type "object") = some true)
    (qb : PySem.W.mroIn K C1 (.type "BaseException") = some true)
    (q7 : PySem.W.mroIn K C1 (.ref C1) = some true)
    (q8 : PySem.W.mroIn K C1 (.type "ValueError") = some true)
    (q9 : PySem.W.mroIn K C1 (.ref C0) = some true)
    (r1 : PySem.W.instIn K (.ref C0) (.type "tuple") = some false)
    (r2 : PySem.W.hasDictIn K C0 = true)
    (r3 : PySem.W.mroIn K C0 (.type "BaseException") = some true)
    (n2 : PySem.W.mroIn K C1 (.ref C2) = some false)
    (d2 : PySem.W.hasDictIn K C2 = true)
    (t2 : PySem.W.typeIn K (.ref C2) = some (.type "type"))
    (n3 : PySem.W.mroIn K C1 (.ref C3) = some false)
    (d3 : PySem.W.hasDictIn K C3 = true)
    (t3 : PySem.W.typeIn K (.ref C3) = some (.type "type"))
    (n4 : PySem.W.mroIn K C1 (.ref C4) = some false)
    (d4 : PySem.W.hasDictIn K C4 = true)
    (t4 : PySem.W.typeIn K (.ref C4) = some (.type "type"))
    (n5 : PySem.W.mroIn K C1 (.ref C5) = some false)
    (d5 : PySem.W.hasDictIn K C5 = true)
    (t5 : PySem.W.typeIn K (.ref C5) = some (.type "type"))
    (n6 : PySem.W.mroIn K C1 (.ref C6) = some false)
    (d6 : PySem.W.hasDictIn K C6 = true)
    (t6 : PySem.W.typeIn K (.ref C6) = some (.type "type"))
    (n7 : PySem.W.mroIn K C1 (.ref C7) = some false)
    (d7 : PySem.W.hasDictIn K C7 = true)
    (t7 : PySem.W.typeIn K (.ref C7) = some (.type "type"))
    (n8 : PySem.W.mroIn K C1 (.ref C8) = some false)
    (d8 : PySem.W.hasDictIn K C8 = true)
    (t8 : PySem.W.typeIn K (.ref C8) = some (.type "type"))
    (n9 : PySem.W.mroIn K C1 (.ref C9) = some false)
    (d9 : PySem.W.hasDictIn K C9 = true)
    (t9 : PySem.W.typeIn K (.ref C9) = some (.type "type"))
    (n10 : PySem.W.mroIn K C1 (.ref C10) = some false)
    (d10 : PySem.W.hasDictIn K C10 = true)
    (t10 : PySem.W.typeIn K (.ref C10) = some (.type "type"))
    (n11 : PySem.W.mroIn K C1 (.ref C11) = some false)
    (d11 : PySem.W.hasDictIn K C11 = true)
    (t11 : PySem.W.typeIn K (.ref C11) = some (.type "type"))
    (n12 : PySem.W.mroIn K C1 (.ref C12) = some false)
    (d12 : PySem.W.hasDictIn K C12 = true)
    (t12 : PySem.W.typeIn K (.ref C12) = some (.type "type"))
    (n13 : PySem.W.mroIn K C1 (.ref C13) = some false)
    (d13 : PySem.W.hasDictIn K C13 = true)
    (t13 : PySem.W.typeIn K (.ref C13) = some (.type "type"))
    (n14 : PySem.W.mroIn K C1 (.ref C14) = some false)
    (d14 : PySem.W.hasDictIn K C14 = true)
    (t14 : PySem.W.typeIn K (.ref C14) = some (.type "type"))
    (nx : PySem.W.findIn K (.ref C1) "place" = some none)
    (IKf : PySem.W.findIn K (.ref C1) "__init__" = some (some (.ref fI1)))
    (IK : InitK l.prog w K mg C1 fI1 "place")
    (zve : PySem.W.nsIn K mainGlobals "ValueError" = some none)
    (excB : PySem.W.excIn K C2 bmV "ValueError.__new__" = true)
    (zso : PySem.W.nsIn K mainGlobals "sorted" = some none)
    (mR : PySem.W.nsIn K mainGlobals "Reader" = some (some (.ref CR)))
    (IK101f : PySem.W.findIn K (.ref CR) "__init__" = some (some (.ref f101)))
    (l101 : K.lookup f101 = some ⟨oc101, od101, .func (PySem.W.fnOf "__init__" "Reader.__init__" (defArgs sInit) (defBody sInit) (defScope sInit) .none kV101 dc101 pm101 an101 cd101 ct101), sl101⟩)
    (c101 : PySem.W.codeIn K cd101 "Reader.__init__" = true)
    (d101 : PySem.W.isFn K (.ref f101) = true)
    (IK102f : PySem.W.findIn K (.ref CR) "put_sign" = some (some (.ref f102)))
    (l102 : K.lookup f102 = some ⟨oc102, od102, .func (PySem.W.fnOf "put_sign" "Reader.put_sign" (defArgs sPut) (defBody sPut) (defScope sPut) .none kV102 dc102 pm102 an102 cd102 ct102), sl102⟩)
    (c102 : PySem.W.codeIn K cd102 "Reader.put_sign" = true)
    (d102 : PySem.W.isFn K (.ref f102) = true)
    (IK103f : PySem.W.findIn K (.ref CR) "amid" = some (some (.ref f103)))
    (l103 : K.lookup f103 = some ⟨oc103, od103, .func (PySem.W.fnOf "amid" "Reader.amid" (defArgs sAmid) (defBody sAmid) (defScope sAmid) .none kV103 dc103 pm103 an103 cd103 ct103), sl103⟩)
    (c103 : PySem.W.codeIn K cd103 "Reader.amid" = true)
    (d103 : PySem.W.isFn K (.ref f103) = true)
    (d201 : PySem.W.plainGet K CR Str.empty = true)
    (d202 : PySem.W.hasDictIn K CR = true)
    (d203 : PySem.W.plainOver K CR = true)
    (d204 : PySem.W.findIn K (.ref CR) "__setattr__" = some (some (.builtin "object.__setattr__")))
    (n201 : PySem.W.findIn K (.ref CR) "numbers" = some none)
    (n202 : PySem.W.findIn K (.ref CR) "comers" = some none)
    (n203 : PySem.W.findIn K (.ref CR) "behind" = some none)
    (n204 : PySem.W.findIn K (.ref CR) "taken" = some none)
    (d205 : PySem.W.makesIn K CR = true)
    (d206 : PySem.W.keepIn K (.ref CR) = true)
    (z_isi : PySem.W.nsIn K mainGlobals "isinstance" = some none)
    (z_int : PySem.W.nsIn K mainGlobals "int" = some none)
    (z_bool : PySem.W.nsIn K mainGlobals "bool" = some none)
    (z_tuple : PySem.W.nsIn K mainGlobals "tuple" = some none)
    (z_abs : PySem.W.nsIn K mainGlobals "abs" = some none)
    (z_len : PySem.W.nsIn K mainGlobals "len" = some none)
    (z_enum : PySem.W.nsIn K mainGlobals "enumerate" = some none)
    (z_str : PySem.W.nsIn K mainGlobals "str" = some none)
    (z_range : PySem.W.nsIn K mainGlobals "range" = some none)
    (z_max : PySem.W.nsIn K mainGlobals "max" = some none)
    (z_all : PySem.W.nsIn K mainGlobals "all" = some none)
    (z_set : PySem.W.nsIn K mainGlobals "set" = some none)
    (z_list : PySem.W.nsIn K mainGlobals "list" = some none)
    (z_min : PySem.W.nsIn K mainGlobals "min" = some none) :
    ∃ fd : FuncData, (∀ (s : Shared) (v : Value), BindsTo s fd ⟨[v], []⟩ [("_law_script", v)]) ∧ ∀ base : Heap, K.In base → base.Ns mainGlobals mg → BmOf mg base → FnOk l.prog w K mg base (CXE l.prog w) 9 fa fd ["_law_script"] (spLaw (tbOf K "is_name") (tbOf K "look_at_plain_book") K) := by
  have e := hfa.symm.trans (PySem.W.mg_of X G a12)
  cases e
  have B : Bl mg := ⟨PySem.W.mg_none_of X G z_isi, PySem.W.mg_none_of X G z_int, PySem.W.mg_none_of X G z_bool, PySem.W.mg_none_of X G z_tuple, PySem.W.mg_none_of X G z_abs, PySem.W.mg_none_of X G z_len, PySem.W.mg_none_of X G z_enum, PySem.W.mg_none_of X G z_str, PySem.W.mg_none_of X G z_range, PySem.W.mg_none_of X G z_max, PySem.W.mg_none_of X G z_all, PySem.W.mg_none_of X G z_set, PySem.W.mg_none_of X G z_list, PySem.W.mg_none_of X G z_min⟩
  have hcd0 := cd_of CN0 l0
  subst hcd0
  rw [CN0.tb]
  have hcd3 := cd_of CN3 l3
  subst hcd3
  rw [CN3.tb]
  have k0 := keep_of l0
  have F0 := fung_mk (st := sName) l0 c0 k0
  have k1 := keep_of l1
  have F1 := fung_mk (st := sBegins) l1 c1 k1
  have k2 := keep_of l2
  have F2 := fung_mk (st := sClash) l2 c2 k2
  have k3 := keep_of l3
  have F3 := fung_mk (st := sPlainB) l3 c3 k3
  have k4 := keep_of l4
  have F4 := fung_mk (st := sBehind) l4 c4 k4
  have k5 := keep_of l5
  have F5 := fung_mk (st := sRead) l5 c5 k5
  have k6 := keep_of l6
  have F6 := fung_mk (st := sPool) l6 c6 k6
  have k7 := keep_of l7
  have F7 := fung_mk (st := sDraw) l7 c7 k7
  have k8 := keep_of l8
  have F8 := fung_mk (st := sPlain) l8 c8 k8
  have k9 := keep_of l9
  have F9 := fung_mk (st := sText) l9 c9 k9
  have k10 := keep_of l10
  have F10 := fung_mk (st := sDue) l10 c10 k10
  have k11 := keep_of l11
  have F11 := fung_mk (st := sTold) l11 c11 k11
  have k12 := keep_of l12
  have F12 := fung_mk (st := sLaw) l12 c12 k12
  have b0 := F0.binds (ps := ["thing"]) fun _ _ _ _ _ _ us hl => by obtain ⟨_, rfl⟩ := len1 hl; rfl
  have b1 := F1.binds (ps := ["book"]) fun _ _ _ _ _ _ us hl => by obtain ⟨_, rfl⟩ := len1 hl; rfl
  have b2 := F2.binds (ps := ["texts"]) fun _ _ _ _ _ _ us hl => by obtain ⟨_, rfl⟩ := len1 hl; rfl
  have b3 := F3.binds (ps := ["thing"]) fun _ _ _ _ _ _ us hl => by obtain ⟨_, rfl⟩ := len1 hl; rfl
  have b4 := F4.binds (ps := ["book", "begin"]) fun _ _ _ _ _ _ us hl => by obtain ⟨_, _, rfl⟩ := len2 hl; rfl
  have b5 := F5.binds (ps := ["book", "text"]) fun _ _ _ _ _ _ us hl => by obtain ⟨_, _, rfl⟩ := len2 hl; rfl
  have b6 := F6.binds (ps := ["_law_script", "_law_k"]) fun _ _ _ _ _ _ us hl => by obtain ⟨_, _, rfl⟩ := len2 hl; rfl
  have b7 := F7.binds (ps := ["_law_pool_here", "_law_many"]) fun _ _ _ _ _ _ us hl => by obtain ⟨_, _, rfl⟩ := len2 hl; rfl
  have b8 := F8.binds (ps := ["_law_pool_here"]) fun _ _ _ _ _ _ us hl => by obtain ⟨_, rfl⟩ := len1 hl; rfl
  have b9 := F9.binds (ps := ["_law_pool_here", "_law_book"]) fun _ _ _ _ _ _ us hl => by obtain ⟨_, _, rfl⟩ := len2 hl; rfl
  have b10 := F10.binds (ps := ["_law_book", "_law_text_here"]) fun _ _ _ _ _ _ us hl => by obtain ⟨_, _, rfl⟩ := len2 hl; rfl
  have b11 := F11.binds (ps := ["_law_book", "_law_text_here"]) fun _ _ _ _ _ _ us hl => by obtain ⟨_, _, rfl⟩ := len2 hl; rfl
  have cl : ∀ {D : Addr}, PySem.W.hasDictIn K D = true → (PySem.W.clsIn K D).isSome = true := fun q => by
    obtain ⟨cd, z, _⟩ := PySem.W.any_some q
    rw [z]; rfl
  have C : Cl K mg [C0, C1, C2, C3, C4, C5, C6, C7, C8, C9, C10, C11, C12, C13, C14] := by
    refine ⟨rfl, PySem.W.mg_of X G m0, PySem.W.mg_of X G m1, PySem.W.mg_of X G m2, PySem.W.mg_of X G m3, PySem.W.mg_of X G m4, PySem.W.mg_of X G m5, PySem.W.mg_of X G m6, PySem.W.mg_of X G m7, PySem.W.mg_of X G m8, PySem.W.mg_of X G m9, PySem.W.mg_of X G m10, PySem.W.mg_of X G m11, PySem.W.mg_of X G m12, PySem.W.mg_of X G m13, PySem.W.mg_of X G m14, ⟨q1, q0, q2, q3, q4, q5, q6, qb⟩, q7, q8, q9, ⟨r1, cl r2, r3⟩, fun i h1 h2 => ?_, nx⟩
    have L : ∀ D ∈ [C2, C3, C4, C5, C6, C7, C8, C9, C10, C11, C12, C13, C14], Other K C1 D := List.forall_mem_cons.mpr ⟨⟨n2, d2, t2⟩, List.forall_mem_cons.mpr ⟨⟨n3, d3, t3⟩, List.forall_mem_cons.mpr ⟨⟨n4, d4, t4⟩, List.forall_mem_cons.mpr ⟨⟨n5, d5, t5⟩, List.forall_mem_cons.mpr ⟨⟨n6, d6, t6⟩, List.forall_mem_cons.mpr ⟨⟨n7, d7, t7⟩, List.forall_mem_cons.mpr ⟨⟨n8, d8, t8⟩, List.forall_mem_cons.mpr ⟨⟨n9, d9, t9⟩, List.forall_mem_cons.mpr ⟨⟨n10, d10, t10⟩, List.forall_mem_cons.mpr ⟨⟨n11, d11, t11⟩, List.forall_mem_cons.mpr ⟨⟨n12, d12, t12⟩, List.forall_mem_cons.mpr ⟨⟨n13, d13, t13⟩, List.forall_mem_cons.mpr ⟨⟨n14, d14, t14⟩, fun _ h => nomatch h⟩⟩⟩⟩⟩⟩⟩⟩⟩⟩⟩⟩⟩
    obtain ⟨j, rfl⟩ : ∃ j, i = j + 2 := ⟨i - 2, by omega⟩
    have hj : j < 13 := by omega
    show Other K C1 ([C2, C3, C4, C5, C6, C7, C8, C9, C10, C11, C12, C13, C14].getD j 0)
    rw [List.getD_eq_getElem?_getD, List.getElem?_eq_getElem (by exact hj)]
    exact L _ (List.getElem_mem _)
  have k101 := keep_of l101
  have F101 := fung_mk (st := sInit) l101 c101 k101
  have b101 := F101.binds (ps := ["self", "book"]) fun _ _ _ _ _ _ us hl => by obtain ⟨_, _, rfl⟩ := len2 hl; rfl
  have k102 := keep_of l102
  have F102 := fung_mk (st := sPut) l102 c102 k102
  have b102 := F102.binds (ps := ["self", "sign"]) fun _ _ _ _ _ _ us hl => by obtain ⟨_, _, rfl⟩ := len2 hl; rfl
  have h102 : Meth K CR "put_sign" f102 := ⟨IK102f, d102, k102⟩
  have k103 := keep_of l103
  have F103 := fung_mk (st := sAmid) l103 c103 k103
  have b103 := F103.binds (ps := ["self"]) fun _ _ _ _ _ _ us hl => by obtain ⟨_, rfl⟩ := len1 hl; rfl
  have h103 : Meth K CR "amid" f103 := ⟨IK103f, d103, k103⟩
  have RC : RdC K CR := ⟨⟨d201, d202, d203, d204⟩, n201, n202, n203, n204⟩
  have MI : Mk K CR f101 := ⟨d205, IK101f, d101, d206⟩
  refine ⟨PySem.W.fnOf "law" "law" (defArgs sLaw) (defBody sLaw) (defScope sLaw) .none kV12 dc12 pm12 an12 cd12 ct12, fun s v => .of_eq rfl, fun base _ _ BM => ?_⟩
  have GNa := ok_name (P := l.prog) (w := w) (mg := mg) (base := base) l0 c0 B CN0.ck BM (PySem.W.mg_of X G aLe) (PySem.W.mg_of X G aLo)
  have GCl := ok_clash (P := l.prog) (w := w) (mg := mg) (base := base) F2 B
  have GPb := ok_plainB (P := l.prog) (w := w) (mg := mg) (base := base) l3 c3 B CN3.ck BM (PySem.W.mg_of X G aMt) (PySem.W.mg_of X G m2) excB GCl (PySem.W.mg_of X G a2) k2 b2 GNa (PySem.W.mg_of X G a0) k0 b0
  have GBe := ok_begins (P := l.prog) (w := w) (mg := mg) (base := base) F1 B
  have GBd := ok_behind (P := l.prog) (w := w) (mg := mg) (base := base) F4 B (PySem.W.mg_none_of X G zso)
  have GIn := ok_init (P := l.prog) (w := w) (mg := mg) (base := base) F101 B RC GBe (PySem.W.mg_of X G a1) k1 b1 GBd (PySem.W.mg_of X G a4) k4 b4 GPb (PySem.W.mg_of X G a3) k3 b3
  have GPu := ok_put (P := l.prog) (w := w) (mg := mg) (base := base) F102 B RC C IK
  have GAm := ok_amid (P := l.prog) (w := w) (mg := mg) (base := base) F103 RC
  have GRe := ok_read (P := l.prog) (w := w) (mg := mg) (base := base) F5 B RC.cl C IK GIn MI (PySem.W.mg_of X G mR) b101 GPu h102 b102 GAm h103 b103
  have GP := ok_pool (P := l.prog) (w := w) (mg := mg) (base := base) F6 B
  have GD := ok_draw (P := l.prog) (w := w) (mg := mg) (base := base) F7
  have GPl := ok_plain (P := l.prog) (w := w) (mg := mg) (base := base) F8 B GD (PySem.W.mg_of X G a7) k7 b7
  have GTx := ok_text (P := l.prog) (w := w) (mg := mg) (base := base) F9 B GD (PySem.W.mg_of X G a7) k7 b7
  have GDu := ok_due (P := l.prog) (w := w) (mg := mg) (base := base) F10 B
  have GTo := ok_told (P := l.prog) (w := w) (mg := mg) (base := base) F11 B (PySem.W.mg_none_of X G zve) C GRe (PySem.W.mg_of X G a5) k5 b5
  exact ok_law (c := [C0, C1, C2, C3, C4, C5, C6, C7, C8, C9, C10, C11, C12, C13, C14]) F12 B GP (PySem.W.mg_of X G a6) k6 b6 GD (PySem.W.mg_of X G a7) k7 b7 GPl (PySem.W.mg_of X G a8) k8 b8 GTx (PySem.W.mg_of X G a9) k9 b9 GDu (PySem.W.mg_of X G a10) k10 b10 GTo (PySem.W.mg_of X G a11) k11 b11
theorem walk {l : PySem.W.OpenLaw} {q : Program} {loose : List Str} {XP : (Str → Option Value) → Heap → Prop} {YP : World → Heap → Prop} {d : DefRec} {K : Params → PySem.W.Frag} (hn : l.most = some 63) (hdf : d.params.defaults = [])
    (hY : ∀ (w : World) (h : Heap), YP w h → (K w.params).In h) (hf : HF q ["is_name", "look_at_plain_book"]) (hC : ∀ w : World, HC (K w.params) ["is_name", "look_at_plain_book"]) (hKT : ∀ w : World, HT0 (K w.params) ["is_name", "look_at_plain_book"])
    (F : ∀ (w : World) (mg : Str → Option Value) (fa : Addr) (h : Heap), (K w.params).In h → h.Ns mainGlobals mg → mg d.name = some (.ref fa) →
      ∃ fd : FuncData, (∀ (s : Shared) (u : Value), BindsTo s fd ⟨[u], []⟩ [("_law_script", u)]) ∧ ∀ base : Heap, (K w.params).In base → base.Ns mainGlobals mg → BmOf mg base → FnOk l.prog w (K w.params) mg base (CXE l.prog w) 9 fa fd ["_law_script"] (spLaw (tbOf (K w.params) "is_name") (tbOf (K w.params) "look_at_plain_book") (K w.params))) :
    PySem.W.WalkO q loose XP YP l.row.toRowW d [] (fun f vs => PySem.call f vs) := by
  refine L2.walk_ofN ["is_name", "look_at_plain_book"] (n := 63) (k := 9) (x := "_law_script") (CX := fun w => CXE l.prog w) (sp := fun w => spLaw (tbOf (K w.params) "is_name") (tbOf (K w.params) "look_at_plain_book") (K w.params)) hn (by decide) hdf ⟨rfl, by decide, by decide⟩ hY hf hC hKT F ?_ fun _ _ _ _ _ z => ?_
  · intro w H a ns hl hT hS
    exact ⟨a, ns, rfl, hS, hl, ⟨#[], hT "is_name" (by simp), trivial⟩, ⟨#[], hT "look_at_plain_book" (by simp), trivial⟩, fun _ => rfl⟩
  · obtain ⟨_, _, _, _, _, _, _, _, _, _, _, _, z⟩ := z
    exact z
theorem walkF {l : PySem.W.OpenLaw} {q : Program} {loose : List Str} {XP : (Str → Option Value) → Heap → Prop} {d : DefRec} {K : Params → PySem.W.Frag} (hn : l.most = some 63) (hdf : d.params.defaults = [])
    (hf : HF q ["is_name", "look_at_plain_book"]) (hC : ∀ w : World, HC (filt (K w.params)) ["is_name", "look_at_plain_book"]) (hKT : ∀ w : World, HT0 (filt (K w.params)) ["is_name", "look_at_plain_book"])
    (F : ∀ (w : World) (mg : Str → Option Value) (fa : Addr) (h : Heap), (filt (K w.params)).In h → h.Ns mainGlobals mg → mg d.name = some (.ref fa) →
      ∃ fd : FuncData, (∀ (s : Shared) (u : Value), BindsTo s fd ⟨[u], []⟩ [("_law_script", u)]) ∧ ∀ base : Heap, (filt (K w.params)).In base → base.Ns mainGlobals mg → BmOf mg base → FnOk l.prog w (filt (K w.params)) mg base (CXE l.prog w) 9 fa fd ["_law_script"] (spLaw (tbOf (filt (K w.params)) "is_name") (tbOf (filt (K w.params)) "look_at_plain_book") (filt (K w.params)))) :
    PySem.W.WalkO q loose XP (fun w h => (filt (K w.params)).In h) l.row.toRowW d [] (fun f vs => PySem.call f vs) :=
  walk (K := fun P => filt (K P)) hn hdf (fun w h Y => Y) hf hC hKT F
end G1
open PySem PySem.W PyProof.Rows
local macro_rules | `(tactic| refine $t) => `(tactic| (refine' $t; try (case hl => exact HD.left_cutZ HP.e1 (by kernel_rfl) HP.e2 HP.pre HP.blk HP.body HP.chain (by kernel_rfl) HP.look1 (fun w => by kernel_rfl) (fun w => by kernel_rfl))))
set_option maxRecDepth 100000 in
set_option maxHeartbeats 0 in
theorem PySem.Challenge.cw_dearsigns_k22_first_wrong_sign_holds : PySem.Challenge.rw_dearsigns_k22_first_wrong_sign.Holds := by
  w_on; o_law; z_head; (case hw => w_witness2)
  k_fill
  refine L2.walkX_of (fun _ => by kernel_rfl) (G1.walkF (l := PySem.Challenge.rw_dearsigns_k22_first_wrong_sign) rfl rfl ⟨⟨_, rfl⟩, ⟨_, rfl⟩, trivial⟩ ?C ?KT ?F)
  case C =>
    intro w
    refine' ⟨⟨_, _, _, _, L2.codeN_mk ?x0_a ?x0_l ?x0_hc ?x0_lc ?x0_h11 ?x0_h18 ?x0_h7 ?x0_h9 ?x0_h10 ?x0_ne⟩, ⟨_, _, _, _, L2.codeN_mk ?x1_a ?x1_l ?x1_hc ?x1_lc ?x1_h11 ?x1_h18 ?x1_h7 ?x1_h9 ?x1_h10 ?x1_ne⟩, trivial⟩
    (case x0_a => refine L2.filt_ns ?_; k_is)
    (case x0_l => refine L2.filt_look ?zz1 ?zz2; (case zz1 => k_is); (case zz2 => rfl))
    (case x0_hc => rfl)
    (case x0_lc => refine L2.filt_look ?zz1 ?zz2; (case zz1 => k_is); (case zz2 => rfl))
    (case x0_h11 => rfl)
    (case x0_h18 => rfl)
    (case x0_h7 => rfl)
    (case x0_h9 => rfl)
    (case x0_h10 => rfl)
    (case x0_ne => decide)
    (case x1_a => refine L2.filt_ns ?_; k_is)
    (case x1_l => refine L2.filt_look ?zz1 ?zz2; (case zz1 => k_is); (case zz2 => rfl))
    (case x1_hc => rfl)
    (case x1_lc => refine L2.filt_look ?zz1 ?zz2; (case zz1 => k_is); (case zz2 => rfl))
    (case x1_h11 => rfl)
    (case x1_h18 => rfl)
    (case x1_h7 => rfl)
    (case x1_h9 => rfl)
    (case x1_h10 => rfl)
    (case x1_ne => decide)
  case KT =>
    intro w
    exact ⟨by kernel_rfl, by kernel_rfl, trivial⟩
  case F =>
    intro w mg fa h KX G hmg
    refine' G1.all_mk KX G hmg (L2.codeN_mk ?y0_a ?y0_l ?y0_hc ?y0_lc ?y0_h11 ?y0_h18 ?y0_h7 ?y0_h9 ?y0_h10 ?y0_ne) (L2.codeN_mk ?y1_a ?y1_l ?y1_hc ?y1_lc ?y1_h11 ?y1_h18 ?y1_h7 ?y1_h9 ?y1_h10 ?y1_ne) ?a0 ?l0 ?c0 ?a1 ?l1 ?c1 ?a2 ?l2 ?c2 ?a3 ?l3 ?c3 ?a4 ?l4 ?c4 ?a5 ?l5 ?c5 ?a6 ?l6 ?c6 ?a7 ?l7 ?c7 ?a8 ?l8 ?c8 ?a9 ?l9 ?c9 ?a10 ?l10 ?c10 ?a11 ?l11 ?c11 ?a12 ?l12 ?c12 ?aLe ?aLo ?aMt ?m0 ?m1 ?m2 ?m3 ?m4 ?m5 ?m6 ?m7 ?m8 ?m9 ?m10 ?m11 ?m12 ?m13 ?m14 ?q1 ?q0 ?q2 ?q3 ?q4 ?q5 ?q6 ?qb ?q7 ?q8 ?q9 ?r1 ?r2 ?r3 ?n2 ?d2 ?t2 ?n3 ?d3 ?t3 ?n4 ?d4 ?t4 ?n5 ?d5 ?t5 ?n6 ?d6 ?t6 ?n7 ?d7 ?t7 ?n8 ?d8 ?t8 ?n9 ?d9 ?t9 ?n10 ?d10 ?t10 ?n11 ?d11 ?t11 ?n12 ?d12 ?t12 ?n13 ?d13 ?t13 ?n14 ?d14 ?t14 ?nx ?IKf ?IK ?zve ?excB ?zso ?mR ?IK101f ?l101 ?c101 ?d101 ?IK102f ?l102 ?c102 ?d102 ?IK103f ?l103 ?c103 ?d103 ?d201 ?d202 ?d203 ?d204 ?n201 ?n202 ?n203 ?n204 ?d205 ?d206 ?z_isi ?z_int ?z_bool ?z_tuple ?z_abs ?z_len ?z_enum ?z_str ?z_range ?z_max ?z_all ?z_set ?z_list ?z_min
    (case y0_a => refine L2.filt_ns ?_; k_is)
    (case y0_l => refine L2.filt_look ?zz1 ?zz2; (case zz1 => k_is); (case zz2 => rfl))
    (case y0_hc => rfl)
    (case y0_lc => refine L2.filt_look ?zz1 ?zz2; (case zz1 => k_is); (case zz2 => rfl))
    (case y0_h11 => rfl)
    (case y0_h18 => rfl)
    (case y0_h7 => rfl)
    (case y0_h9 => rfl)
    (case y0_h10 => rfl)
    (case y0_ne => decide)
    (case y1_a => refine L2.filt_ns ?_; k_is)
    (case y1_l => refine L2.filt_look ?zz1 ?zz2; (case zz1 => k_is); (case zz2 => rfl))
    (case y1_hc => rfl)
    (case y1_lc => refine L2.filt_look ?zz1 ?zz2; (case zz1 => k_is); (case zz2 => rfl))
    (case y1_h11 => rfl)
    (case y1_h18 => rfl)
    (case y1_h7 => rfl)
    (case y1_h9 => rfl)
    (case y1_h10 => rfl)
    (case y1_ne => decide)
    (case a0 => refine L2.filt_ns ?_; k_is)
    (case l0 => refine L2.filt_look ?zz1 ?zz2; (case zz1 => k_is); (case zz2 => rfl))
    (case c0 => refine L2.filt_code ?_; k_is)
    (case a1 => refine L2.filt_ns ?_; k_is)
    (case l1 => refine L2.filt_look ?zz1 ?zz2; (case zz1 => k_is); (case zz2 => rfl))
    (case c1 => refine L2.filt_code ?_; k_is)
    (case a2 => refine L2.filt_ns ?_; k_is)
    (case l2 => refine L2.filt_look ?zz1 ?zz2; (case zz1 => k_is); (case zz2 => rfl))
    (case c2 => refine L2.filt_code ?_; k_is)
    (case a3 => refine L2.filt_ns ?_; k_is)
    (case l3 => refine L2.filt_look ?zz1 ?zz2; (case zz1 => k_is); (case zz2 => rfl))
    (case c3 => refine L2.filt_code ?_; k_is)
    (case a4 => refine L2.filt_ns ?_; k_is)
    (case l4 => refine L2.filt_look ?zz1 ?zz2; (case zz1 => k_is); (case zz2 => rfl))
    (case c4 => refine L2.filt_code ?_; k_is)
    (case a5 => refine L2.filt_ns ?_; k_is)
    (case l5 => refine L2.filt_look ?zz1 ?zz2; (case zz1 => k_is); (case zz2 => rfl))
    (case c5 => refine L2.filt_code ?_; k_is)
    (case a6 => refine L2.filt_ns ?_; k_is)
    (case l6 => refine L2.filt_look ?zz1 ?zz2; (case zz1 => k_is); (case zz2 => rfl))
    (case c6 => refine L2.filt_code ?_; k_is)
    (case a7 => refine L2.filt_ns ?_; k_is)
    (case l7 => refine L2.filt_look ?zz1 ?zz2; (case zz1 => k_is); (case zz2 => rfl))
    (case c7 => refine L2.filt_code ?_; k_is)
    (case a8 => refine L2.filt_ns ?_; k_is)
    (case l8 => refine L2.filt_look ?zz1 ?zz2; (case zz1 => k_is); (case zz2 => rfl))
    (case c8 => refine L2.filt_code ?_; k_is)
    (case a9 => refine L2.filt_ns ?_; k_is)
    (case l9 => refine L2.filt_look ?zz1 ?zz2; (case zz1 => k_is); (case zz2 => rfl))
    (case c9 => refine L2.filt_code ?_; k_is)
    (case a10 => refine L2.filt_ns ?_; k_is)
    (case l10 => refine L2.filt_look ?zz1 ?zz2; (case zz1 => k_is); (case zz2 => rfl))
    (case c10 => refine L2.filt_code ?_; k_is)
    (case a11 => refine L2.filt_ns ?_; k_is)
    (case l11 => refine L2.filt_look ?zz1 ?zz2; (case zz1 => k_is); (case zz2 => rfl))
    (case c11 => refine L2.filt_code ?_; k_is)
    (case a12 => refine L2.filt_ns ?_; k_is)
    (case l12 => refine L2.filt_look ?zz1 ?zz2; (case zz1 => k_is); (case zz2 => rfl))
    (case c12 => refine L2.filt_code ?_; k_is)
    (case aLe => refine L2.filt_ns ?_; k_is)
    (case aLo => refine L2.filt_ns ?_; k_is)
    (case aMt => refine L2.filt_ns ?_; k_is)
    (case m0 => refine L2.filt_ns ?_; k_is)
    (case m1 => refine L2.filt_ns ?_; k_is)
    (case m2 => refine L2.filt_ns ?_; k_is)
    (case m3 => refine L2.filt_ns ?_; k_is)
    (case m4 => refine L2.filt_ns ?_; k_is)
    (case m5 => refine L2.filt_ns ?_; k_is)
    (case m6 => refine L2.filt_ns ?_; k_is)
    (case m7 => refine L2.filt_ns ?_; k_is)
    (case m8 => refine L2.filt_ns ?_; k_is)
    (case m9 => refine L2.filt_ns ?_; k_is)
    (case m10 => refine L2.filt_ns ?_; k_is)
    (case m11 => refine L2.filt_ns ?_; k_is)
    (case m12 => refine L2.filt_ns ?_; k_is)
    (case m13 => refine L2.filt_ns ?_; k_is)
    (case m14 => refine L2.filt_ns ?_; k_is)
    (case q1 => kernel_rfl)
    (case q0 => kernel_rfl)
    (case q2 => kernel_rfl)
    (case q3 => kernel_rfl)
    (case q4 => kernel_rfl)
    (case q5 => kernel_rfl)
    (case q6 => kernel_rfl)
    (case qb => kernel_rfl)
    (case q7 => kernel_rfl)
    (case q8 => kernel_rfl)
    (case q9 => kernel_rfl)
    (case r1 => kernel_rfl)
    (case r2 => kernel_rfl)
    (case r3 => kernel_rfl)
    (case n2 => kernel_rfl)
    (case d2 => kernel_rfl)
    (case t2 => kernel_rfl)
    (case n3 => kernel_rfl)
    (case d3 => kernel_rfl)
    (case t3 => kernel_rfl)
    (case n4 => kernel_rfl)
    (case d4 => kernel_rfl)
    (case t4 => kernel_rfl)
    (case n5 => kernel_rfl)
    (case d5 => kernel_rfl)
    (case t5 => kernel_rfl)
    (case n6 => kernel_rfl)
    (case d6 => kernel_rfl)
    (case t6 => kernel_rfl)
    (case n7 => kernel_rfl)
    (case d7 => kernel_rfl)
    (case t7 => kernel_rfl)
    (case n8 => kernel_rfl)
    (case d8 => kernel_rfl)
    (case t8 => kernel_rfl)
    (case n9 => kernel_rfl)
    (case d9 => kernel_rfl)
    (case t9 => kernel_rfl)
    (case n10 => kernel_rfl)
    (case d10 => kernel_rfl)
    (case t10 => kernel_rfl)
    (case n11 => kernel_rfl)
    (case d11 => kernel_rfl)
    (case t11 => kernel_rfl)
    (case n12 => kernel_rfl)
    (case d12 => kernel_rfl)
    (case t12 => kernel_rfl)
    (case n13 => kernel_rfl)
    (case d13 => kernel_rfl)
    (case t13 => kernel_rfl)
    (case n14 => kernel_rfl)
    (case d14 => kernel_rfl)
    (case t14 => kernel_rfl)
    (case nx => kernel_rfl)
    (case IKf => refine L2.filt_find ?_; k_is)
    (case IK => (refine' L2.initK_mk ?IK_lC ?IK_tl ?IK_no ?IK_ni ?IK_lf ?IK_cq ?IK_hb ?IK_hbi ?IK_hXs ?IK_hce ?IK_h1 ?IK_hX2 ?IK_h3 ?IK_h4 ?IK_g1 ?IK_g2 ?IK_g3 ?IK_hcl ?IK_hpa ?IK_har ?IK_hcd ?IK_lc2 ?IK_hc4 ?IK_hfi ?IK_hns ?IK_hgl ?IK_hbl ?IK_gs ?IK_lcc ?IK_m1 ?IK_m2 ?IK_op ?IK_hline ?IK_hin ?IK_hsw ?IK_hs ?IK_hp ?IK_ht ?IK_hh ?IK_hdb ?IK_hml; (case IK_lf => refine L2.filt_look ?zz1 ?zz2; (case zz1 => k_is); (case zz2 => rfl)); (case IK_lC => refine L2.filt_look ?zz1 ?zz2; (case zz1 => k_is); (case zz2 => rfl)); (case IK_ni => refine L2.filt_ns ?_; k_is); (case IK_tl => kernel_rfl); (case IK_no => kernel_rfl); (case IK_cq => refine L2.filt_code ?_; first | k_is | kernel_rfl); (case IK_hb => rfl); (case IK_hbi => exact fun s e u => .of_eq rfl); (case IK_hXs => decide); (case IK_hce => decide); (case IK_h1 => rfl); (case IK_hX2 => rfl); (case IK_h3 => rfl); (case IK_h4 => rfl); (case IK_g1 => rfl); (case IK_g2 => rfl); (case IK_g3 => rfl); (case IK_hcl => rfl); (case IK_hpa => rfl); (case IK_har => rfl); (case IK_hcd => rfl); (case IK_lc2 => refine L2.filt_look ?zz1 ?zz2; (case zz1 => k_is); (case zz2 => rfl)); (case IK_hc4 => rfl); (case IK_hfi => decide +kernel); (case IK_hns => decide +kernel); (case IK_hgl => rfl); (case IK_hbl => rfl); (case IK_gs => refine L2.filt_ns ?_; k_is); (case IK_lcc => refine L2.filt_look ?zz1 ?zz2; (case zz1 => k_is); (case zz2 => rfl)); (case IK_m1 => kernel_rfl); (case IK_m2 => kernel_rfl); (case IK_op => refine L2.filt_ns ?_; k_is); (case IK_hline => rfl); (case IK_hin => exact fun L => rfl); (case IK_hsw => exact fun L => rfl); (case IK_hs => kernel_rfl); (case IK_hp => kernel_rfl); (case IK_ht => kernel_rfl); (case IK_hh => kernel_rfl); (case IK_hdb => decide); (case IK_hml => decide)))
    (case zve => refine L2.filt_ns ?_; k_is)
    (case excB => kernel_rfl)
    (case zso => refine L2.filt_ns ?_; k_is)
    (case mR => refine L2.filt_ns ?_; k_is)
    (case IK101f => refine L2.filt_find ?_; k_is)
    (case l101 => refine L2.filt_look ?zz1 ?zz2; (case zz1 => k_is); (case zz2 => rfl))
    (case c101 => refine L2.filt_code ?_; k_is)
    (case d101 => kernel_rfl)
    (case IK102f => refine L2.filt_find ?_; k_is)
    (case l102 => refine L2.filt_look ?zz1 ?zz2; (case zz1 => k_is); (case zz2 => rfl))
    (case c102 => refine L2.filt_code ?_; k_is)
    (case d102 => kernel_rfl)
    (case IK103f => refine L2.filt_find ?_; k_is)
    (case l103 => refine L2.filt_look ?zz1 ?zz2; (case zz1 => k_is); (case zz2 => rfl))
    (case c103 => refine L2.filt_code ?_; k_is)
    (case d103 => kernel_rfl)
    (case d201 => kernel_rfl)
    (case d202 => kernel_rfl)
    (case d203 => kernel_rfl)
    (case d204 => kernel_rfl)
    (case n201 => kernel_rfl)
    (case n202 => kernel_rfl)
    (case n203 => kernel_rfl)
    (case n204 => kernel_rfl)
    (case d205 => kernel_rfl)
    (case d206 => kernel_rfl)
    (case z_isi => refine L2.filt_ns ?_; k_is)
    (case z_int => refine L2.filt_ns ?_; k_is)
    (case z_bool => refine L2.filt_ns ?_; k_is)
    (case z_tuple => refine L2.filt_ns ?_; k_is)
    (case z_abs => refine L2.filt_ns ?_; k_is)
    (case z_len => refine L2.filt_ns ?_; k_is)
    (case z_enum => refine L2.filt_ns ?_; k_is)
    (case z_str => refine L2.filt_ns ?_; k_is)
    (case z_range => refine L2.filt_ns ?_; k_is)
    (case z_max => refine L2.filt_ns ?_; k_is)
    (case z_all => refine L2.filt_ns ?_; k_is)
    (case z_set => refine L2.filt_ns ?_; k_is)
    (case z_list => refine L2.filt_ns ?_; k_is)
    (case z_min => refine L2.filt_ns ?_; k_is)
