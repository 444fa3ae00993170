import PyProof.Rows.All
import Wide.All
import OpenK.AllK
import Wide.FinOn
import Lean
import PyProof.EqAt
import PyProof.EqKinds
import PyProof.NeKinds
import PyProof.TupleCall
import PyProof.SetRoads
import PyProof.SetNew
import PyProof.Rows.Range3
import KE.KRevSl
import PyProof.SliceStr2
import PyProof.ListStr
import PyProof.TupleOfStr
import PyProof.StrCalls
import KE.KDictOf
import PyProof.AttrMissHeap
import PyProof.Rows.SumAny
import PyProof.ConsumeWalk
import PyProof.SeqI3
import KE.KStar
import PyProof.SumWalkG
import PyProof.DictValues
import PyProof.ZipIter
import PyProof.Draws
import PyProof.DictIter
import PyProof.Rows.SortWalk
import PyProof.StrOps2
import PyProof.Rows.SetFrom
import PySem.Challenge.RW_dearsigns_k58_orders_of_things
set_option Elab.async false
set_option linter.all false
set_option maxRecDepth 100000
set_option maxHeartbeats 4000000
set_option exponentiation.threshold 5000
namespace HD
open PySem PySem.W PySem.Calls PyProof.Rows
noncomputable def bootT (P : Params) : BT := .node (boot_o_0 P) (.node (boot_o_1 P) (.node (boot_o_3 P) (.node (boot_o_7 P) .nil .nil) .nil) (.node (boot_o_5 P) (.node (boot_o_9 P) .nil .nil) .nil)) (.node (boot_o_2 P) (.node (boot_o_4 P) (.node (boot_o_8 P) .nil .nil) .nil) (.node (boot_o_6 P) (.node (boot_o_10 P) .nil .nil) .nil))
theorem size_boot (P : Params) : ((boot_heap P).isNs mainGlobals, (boot_heap P).objs.size, (boot_heap P).nsMap mainGlobals "__annotations__") = (true, 11, some (.ref 6)) := by kernel_rfl
structure SM where
  T : BT
  n : Nat
  k : Nat
  D : List DictEntry
  pl : List Value
  nm : Value
noncomputable def key (P : Params) (x : Str) (t : Nat) (v : Value) : DictEntry := ⟨PyData.keyHash P x, .str x t, v⟩
noncomputable def SM.put (s : SM) (o : Obj) : SM := { s with T := s.T.ins s.n o, n := s.n + 1 }
noncomputable def SM.puts (s : SM) : List Obj → SM
  | [] => s
  | o :: r => (s.put o).puts r
noncomputable def tup (vs : List Value) : Obj := { cls := .type "tuple", data := .seq vs.toArray }
noncomputable def txts : List Str → Nat → List Value
  | [], _ => []
  | x :: r, t => .str x t :: txts r (t + 1)
noncomputable def theFile : Str := "/claim/cut.py"
structure CO where
  objs : List Obj
  k : Nat
  a : Nat
noncomputable def raw (n : Nat) : Value := .int n 0
noncomputable def codeObjs (n k : Nat) (name qual : Str) (line argc flags : Nat) (fn : Bool) (free : List Str) (pls : List Value) (loc : Option (List Str × List Str)) (tm : Option FuncData) : CO :=
  let f := free.length
  let o1 := [tup (txts free (k + 3)), { cls := .none, data := .fields pls.toArray }]
  let k1 := k + 3 + f
  let (o2, k2, n2, l, c) := match loc with
    | none => ([], k1, n + 2, Value.none, Value.none)
    | some (ls, cs) => ([tup (txts ls k1), tup (txts cs (k1 + ls.length))], k1 + ls.length + cs.length, n + 4, Value.ref (n + 2), Value.ref (n + 3))
  let (o3, n3, t) := match tm with
    | none => ([], n2, Value.none)
    | some fd => ([({ cls := .none, data := .func fd } : Obj)], n2 + 1, Value.ref n2)
  { objs := o1 ++ o2 ++ o3 ++ [{ cls := .type "code", data := .fields #[.str name k, .str qual (k + 1), .str theFile (k + 2), raw line, raw argc, raw 0, raw 0, raw flags, .ref n, .bool fn, raw 181, .ref (n + 1), .none, l, c, t, raw k2, raw line, .str theFile (k2 + 1)] }]
    k := k2 + 2
    a := n3 }
noncomputable def SM.store (P : Params) (s : SM) (x : Str) (v : Value) : SM :=
  match s.D with
  | e :: r => match Fast.sEq x "__name__" with
    | true => { s with D := ⟨e.hash, e.key, v⟩ :: r, k := s.k + 1, nm := v }
    | false => { s with D := e :: r ++ [key P x s.k v], k := s.k + 1 }
  | [] => s
noncomputable def constVals : List Expr → Nat → List Value × Nat
  | .Constant (.int i) _ _ :: r, k => let (vs, k') := constVals r (k + 1); (.int i k :: vs, k')
  | .Constant (.str i) _ _ :: r, k => let (vs, k') := constVals r (k + 1); (.str i k :: vs, k')
  | .Constant (.bool b) _ _ :: r, k => let (vs, k') := constVals r k; (.bool b :: vs, k')
  | _ :: r, k => let (vs, k') := constVals r k; (.none :: vs, k')
  | [], k => ([], k)
noncomputable def templ (name qual : Str) (args : Arguments) (body : List Stmt) (scope : Scope) : FuncData :=
  { name, qualname := qual, params := args, body := .stmts body, scope, globals := builtinsNs, closure := [], defaults := .none, kwdefaults := .none }
noncomputable def simFn (P : Params) (s : SM) (name : Str) (args : Arguments) (body : List Stmt) (scope : Scope) (pos : Pos) : SM :=
  let (dv, s) := match args.defaults with
    | [] => (Value.none, s)
    | d :: ds => let (vs, k') := constVals (d :: ds) s.k; (Value.ref s.n, ({ s with k := k' } : SM).put (tup vs))
  let c := codeObjs s.n s.k name name pos.line args.args.length 3 true [] [] (localNames args scope (.stmts body)) (some (templ name name args body scope))
  let s1 := s.puts c.objs
  let s2 : SM := { s1 with k := c.k, pl := s1.pl ++ [raw pos.line, raw pos.col, .ref c.a] }
  let f := s2.n
  let s3 := s2.put { cls := .type "function", data := .func { templ name name args body scope with globals := mainNs, defaults := dv, pyModule := s.nm, code := .ref c.a } }
  s3.store P name (.ref f)
noncomputable def findD (x : Str) : List DictEntry → Value
  | [] => .none
  | e :: r => match e.key with
    | .str y _ => match Fast.sEq x y with
      | true => e.val
      | false => findD x r
    | _ => findD x r
noncomputable def addSub (v : Value) (o : Obj) : Obj := match o.data with
  | .cls c => { o with data := .cls { c with subclasses := c.subclasses ++ [v] } }
  | _ => o
structure IOb where
  objs : List Obj
  pls : List Value
  es : List DictEntry
  k : Nat
noncomputable def simInit (P : Params) (cell n k : Nat) (cn : Str) (nm : Value) : List Stmt → IOb
  | .FunctionDef name args body _ _ _ scope _ _ pos :: _ =>
    let qual : Str := cn ++ "." ++ name
    let c := codeObjs (n + 1) k name qual pos.line args.args.length 3 true ["__class__"] [] (localNames args scope (.stmts body)) (some (templ name qual args body scope))
    let f := c.a + 1
    { objs := tup [.ref cell] :: c.objs ++ [{ cls := .type "function", data := .func { templ name qual args body scope with globals := mainNs, closure := [("__class__", cell)], pyModule := nm, code := .ref c.a, closureTuple := .ref n } }]
      pls := [raw pos.line, raw pos.col, .ref c.a]
      es := [key P name c.k (.ref f)]
      k := c.k + 1 }
  | _ => ⟨[], [], [], k⟩
noncomputable def excTypes : List Value := [.type "ValueError", .type "Exception", .type "BaseException", .type "object"]
noncomputable def simCls (P : Params) (s : SM) (name base : Str) (body : List Stmt) (statics : List Str) (pos : Pos) : SM :=
  let root := Fast.sEq base "ValueError"
  let bv : Value := match root with | true => .type "ValueError" | false => findD base s.D
  let own := match body with | .FunctionDef .. :: _ => true | _ => false
  let (n, k) := (s.n, s.k)
  let nsA := n + 2
  let c0 := match own with | true => n + 4 | false => n + 3
  let fr := c0 + 3
  let i := simInit P (n + 3) (fr + 1) (k + 12) name s.nm body
  let cc := codeObjs c0 (k + 2) name name pos.line 0 0 false [] i.pls none none
  let a := fr + 1 + i.objs.length
  let st := i.k + statics.length
  let ns2 := a + 1
  let cls := a + 2
  let e1 := key P "__module__" (k + 7) s.nm
  let e3 := key P "__firstlineno__" (k + 11) (.int pos.line (k + 10))
  let e5 := key P "__static_attributes__" st (.ref a)
  let (k5, cellE, cellO) := match own with
    | true => (st + 2, [key P "__classcell__" (st + 1) (.ref (n + 3))], [({ cls := .type "cell", data := .cell (some (.ref cls)) } : Obj)])
    | false => (st + 1, [], [])
  let (k6, weakE, weakO) := match root with
    | true => (k5 + 2, [key P "__weakref__" (k5 + 1) (.ref (cls + 1))], [({ cls := .type "getset_descriptor", data := .fields #[.str "__weakref__" k5, .ref cls, .builtin "ExceptionGroup.__weakref__", .none] } : Obj)])
    | false => (k5, [], [])
  let nsE := [e1, key P "__qualname__" (k + 9) (.str name (k + 8)), e3] ++ i.es ++ [e5] ++ cellE
  let ns2E := [e1, e3] ++ i.es ++ [e5] ++ weakE ++ [key P "__doc__" k6 .none]
  let mro := match root with | true => Value.ref cls :: excTypes | false => Value.ref cls :: bv :: excTypes
  let objs : List Obj := [tup [bv], { cls := .type "builtin_function_or_method", data := .fields #[.builtin "type.__prepare__", .type "type"] }, { cls := .type "dict", data := .dict nsE.toArray nsE.length }] ++ cellO ++ cc.objs ++
    [{ cls := .type "frame", slots := #[some (.ref (c0 + 2)), some (.ref mainNs), some (.ref nsA), none, some s.nm, none, some (.ref builtinsNs)] }] ++ i.objs ++
    [tup (txts statics i.k), { cls := .type "dict", data := .dict ns2E.toArray (ns2E.length - 2) },
     { cls := .type "type", data := .cls { name, bases := [bv], mro, ns := ns2, qualname := name }, slots := #[some (.ref n), none, some (.str name k), some (.str name (k + 8)), some (.builtin "ValueError.__new__"), some (.bool true)] }] ++ weakO ++
    [{ cls := .type "super", data := .fields #[.ref cls, .ref cls, .ref cls] }, { cls := .type "builtin_function_or_method", data := .fields #[.builtin "object.__init_subclass__", .ref cls] }]
  let s1 := s.puts objs
  let s2 : SM := { s1 with k := k6 + 2, pl := s1.pl ++ [raw pos.line, raw pos.col, .ref (c0 + 2)], T := match bv with | .ref b => s1.T.set b (addSub (.ref cls)) | _ => s1.T }
  s2.store P name (.ref cls)
noncomputable def simOne (P : Params) (s : SM) : Stmt → SM
  | .Assign (.Name x _ :: _) (.Constant (.str v) _ _) _ => ({ s with k := s.k + 1 } : SM).store P x (.str v s.k)
  | .Assign (.Name x _ :: _) (.Constant (.int v) _ _) _ => ({ s with k := s.k + 1 } : SM).store P x (.int v s.k)
  | .Assign (.Name x _ :: _) (.BinOp (.Constant (.int a) _ _) _ (.Constant (.int b) _ _) _) _ => ({ s with k := s.k + 3 } : SM).store P x (.int (a ^ b.toNat) (s.k + 2))
  | .Assign (.Name x _ :: _) (.Tuple es _ _) _ => let (vs, k') := constVals es s.k; (({ s with k := k' } : SM).put (tup vs)).store P x (.ref s.n)
  | .FunctionDef name args body _ _ _ scope _ _ pos => simFn P s name args body scope pos
  | .ClassDef name (.Name b _ :: _) _ body _ _ _ _ _ statics pos => simCls P s name b body statics pos
  | _ => s
noncomputable def simAll (P : Params) (s : SM) : List Stmt → SM
  | [] => s
  | x :: r => simAll P (simOne P s x) r
noncomputable def endPos (p : Pos) : Stmt → Pos
  | .Assign (.Name _ q :: _) _ _ => q
  | .FunctionDef _ _ _ _ _ _ _ _ _ q => q
  | .ClassDef _ _ _ _ _ _ _ _ _ _ q => q
  | _ => p
noncomputable def endPoses (p : Pos) : List Stmt → Pos
  | [] => p
  | x :: r => endPoses (endPos p x) r
noncomputable def sim0 (P : Params) : SM :=
  SM.puts ⟨bootT P, 11, 187, [key P "__name__" 165 (.str "__main__" 164), key P "__doc__" 166 .none, key P "__package__" 167 .none, key P "__loader__" 168 (.builtin "__main__.__loader__#opaque"), key P "__spec__" 169 .none, key P "__annotations__" 170 (.ref 6),
    key P "__builtins__" 171 (.ref 4), key P "__file__" 173 (.str theFile 172), key P "__cached__" 174 .none], [], .str "__main__" 164⟩
    ((codeObjs 11 182 "<module>" "<module>" 1 0 0 false [] [] none none).objs ++ [{ cls := .type "frame", slots := #[some (.ref 13), some (.ref mainNs), some (.ref mainNs), none, some (.str "__main__" 164), none, some (.ref builtinsNs)] }])
structure St where
  sim : Params → SM
  pos : Pos
noncomputable def SM.tree (s : SM) : BT := (s.T.set mainNs fun _ => { cls := .type "dict", data := .dict s.D.toArray s.D.length }).set 12 fun _ => { cls := .none, data := .fields s.pl.toArray }
noncomputable def St.at (S : St) (P : Params) (os : OsState) : SharedT := ⟨(S.sim P).tree, (S.sim P).n, {}, Array.mk [], boot_drawn, (S.sim P).k, os⟩
noncomputable def St.step (S : St) (l : List Stmt) : St := ⟨fun P => simAll P (S.sim P) l, endPoses S.pos l⟩
noncomputable def St0 : St := ⟨sim0, ⟨0, 0, 0, 0⟩⟩
abbrev pos0 : Pos := ⟨0, 0, 0, 0⟩
noncomputable def envOf (p : Program) : Env := { scope := p.main.scope, locals := mainNs, globals := mainNs, cells := [], code := .ref 13, frame := some 14 }
noncomputable def cOf (p : Program) : Code := .body (behindTheImports p) (envOf p)
abbrev annO : Option Value := some (.ref 6)
abbrev Piece (p : Program) (l : List Stmt) (m : Nat) (A B : St) : Prop :=
  ∀ w : World, (fun os => segRunT treeTable p w 11 annO 1 m (A.at w.params os) (piecesOf l (envOf p) (cOf p) A.pos [topFrame pos0])) = fun os => some (.next, B.at w.params os, cOf p, B.pos)
inductive Chain (p : Program) : List Stmt → Nat → St → St → Prop
  | nil (S : St) : Chain p [] 0 S S
  | cons {l r : List Stmt} {m n : Nat} {A B C : St} (h : Piece p l m A B) (t : Chain p r n B C) : Chain p (l ++ r) (m + n) A C
theorem fin_run {tb : String → Option Builtin} {p : Program} {w : World} {n₀ : Nat} {ann : Option Value} {c : Code} {pos q : Pos} (s : Shared) : topRun tb p w n₀ ann 2 s ⟨doneF .next, c, pos, [topFrame q]⟩ = some s := by
  obtain ⟨a, b, d, e, f⟩ := s
  rfl
theorem chain_run {p : Program} {w : World} {os : OsState} {b : List Stmt} {n : Nat} {A C : St} (h : Chain p b n A C) :
    topRun treeTable p w 11 annO (n + 2) (A.at w.params os).abs (restOf b (envOf p) (cOf p) A.pos [topFrame pos0]) = some (C.at w.params os).abs := by
  induction h with
  | nil S => exact piece_nil (fin_run _)
  | cons h _ ih =>
    have e := segRun_of (congrFun (h w) os)
    rw [Nat.add_assoc]
    exact piece_app e ih
abbrev Pre (p : Program) : Prop := ∀ w : World, (fun os => topGo treeTable p w 11 annO 12 ⟨boot_heap w.params, Array.mk [], boot_drawn, boot_toks, os⟩ (topStub p)) = fun os => some ((St0.at w.params os).abs, ⟨denote treeTable (cOf p), cOf p, pos0, [topFrame pos0]⟩)
abbrev Blk (p : Program) : Prop := ∀ (w : World) (hp : Heap) (gs : Array GenState) (d : Drawn) (k : Nat) (os : OsState),
  segRun treeTable p w 11 annO 1 1 ⟨hp, gs, d, k, os⟩ (blockOf (behindTheImports p) (envOf p) (cOf p) pos0 [topFrame pos0]) = some (.next, ⟨hp, gs, d, k, os⟩, cOf p, pos0)
abbrev Look1 (p : Program) (C : St) : Prop := ∀ w : World, (fun os => staticsOk (importedModules p.main.body) (boot_heap w.params) (C.at w.params os).abs.heap && namesBound p (C.at w.params os).abs.heap && gensDone (C.at w.params os).abs && laidKept (boot_heap w.params) (C.at w.params os).abs.heap) = fun _ => true
theorem left_cut {p q : Program} {loose : List Str} {Xt : Shared → Bool} {α : Type} {Yf : Shared → α} {Ya : World → α} {N n : Nat} {g0 : Bool} {b : List Stmt} {C : St}
    (e : opening p = plainProg p.main.scope.names) (hN : Nat.ble 600 N = true) (f : ∀ s, fenceModules? p s = some s)
    (pre : Pre p) (blk : Blk p) (hb : behindTheImports p = b) (ch : Chain p b n St0 C) (le : Nat.ble (12 + (1 + (n + 2))) N = true)
    (k1 : Look1 p C) (k2 : ∀ w : World, (fun os => openSeen q loose (importedModules p.main.body) Xt g0 (C.at w.params os).abs) = fun _ => openGood q loose) (k3 : ∀ w : World, (fun os => Yf (C.at w.params os).abs) = fun _ => Ya w) :
    LeftO p q loose Xt Yf Ya N g0 := fun w => by
  obtain ⟨⟨hp, gs, d, k, os⟩, a, a'⟩ := Option.map_eq_some_iff.mp (boot_open e hN f w)
  obtain ⟨rfl, rfl, rfl, rfl⟩ : hp = boot_heap w.params ∧ gs = #[] ∧ d = boot_drawn ∧ k = boot_toks := by simpa using a'
  obtain ⟨z1, z2, z3⟩ : _ ∧ _ ∧ _ := by simpa only [Prod.mk.injEq] using size_boot w.params
  have r1 := chain_run (w := w) (os := os) ch
  rw [← hb] at r1
  have r2 := piece_block (blk w _ _ _ _ _) r1
  have r3 := go_top (congrFun (pre w) os) r2
  have r' := topRun_mono (N - (12 + (1 + (n + 2)))) _ _ _ _ r3
  rw [show 12 + (1 + (n + 2)) + (N - (12 + (1 + (n + 2)))) = N by have := Nat.le_of_ble_eq_true le; omega] at r'
  have l1 := congrFun (k1 w) os
  have t : topFrom treeTable p w N ⟨boot_heap w.params, #[], boot_drawn, boot_toks, os⟩ = some (C.at w.params os).abs := by
    unfold topFrom
    dsimp only
    rw [z1, z2, z3, r']
    show (match staticsOk (importedModules p.main.body) (boot_heap w.params) (C.at w.params os).abs.heap && namesBound p (C.at w.params os).abs.heap && gensDone (C.at w.params os).abs && laidKept (boot_heap w.params) (C.at w.params os).abs.heap with | true => _ | false => _) = _
    rw [l1]
  unfold openEnds
  rw [a]
  show (topFrom treeTable p w N _).map _ = _
  rw [t]
  exact congrArg some (Prod.ext (congrFun (k2 w) os) (congrFun (k3 w) os))
end HD
namespace HP
open PySem PySem.W HD
noncomputable def pq : Program := PySem.Challenge.pw_dearsigns_k58_orders_of_things
theorem e1 : opening pq = plainProg pq.main.scope.names := by kernel_rfl
theorem e2 (s) : fenceModules? pq s = some s := by kernel_rfl
theorem pre : Pre pq := fun w => by kernel_rfl
theorem blk : Blk pq := fun w _ _ _ _ _ => by kernel_rfl
noncomputable def b0 : List Stmt := behindTheImports pq
noncomputable def S0 : St := St0
noncomputable def l0 : List Stmt := b0.take 5
noncomputable def b1 : List Stmt := b0.drop 5
noncomputable def S1 : St := S0.step l0
theorem q0 : Piece pq l0 835 S0 S1 := fun w => by kernel_rfl
noncomputable def l1 : List Stmt := b1.take 4
noncomputable def b2 : List Stmt := b1.drop 4
noncomputable def S2 : St := S1.step l1
theorem q1 : Piece pq l1 853 S1 S2 := fun w => by kernel_rfl
noncomputable def l2 : List Stmt := b2.take 4
noncomputable def b3 : List Stmt := b2.drop 4
noncomputable def S3 : St := S2.step l2
theorem q2 : Piece pq l2 949 S2 S3 := fun w => by kernel_rfl
noncomputable def l3 : List Stmt := b3.take 14
noncomputable def b4 : List Stmt := b3.drop 14
noncomputable def S4 : St := S3.step l3
theorem q3 : Piece pq l3 994 S3 S4 := fun w => by kernel_rfl
noncomputable def l4 : List Stmt := b4.take 19
noncomputable def S5 : St := S4.step l4
theorem q4 : Piece pq l4 515 S4 S5 := fun w => by kernel_rfl
theorem chain : Chain pq (l0 ++ (l1 ++ (l2 ++ (l3 ++ (l4 ++ []))))) (835 + (853 + (949 + (994 + (515 + (0)))))) S0 S5 := .cons q0 (.cons q1 (.cons q2 (.cons q3 (.cons q4 (Chain.nil S5)))))
theorem body : behindTheImports pq = l0 ++ (l1 ++ (l2 ++ (l3 ++ (l4 ++ [])))) := by kernel_rfl
theorem look1 : Look1 pq S5 := fun w => by kernel_rfl
end HP
namespace L2
open PySem PySem.Spec PyProof.Rows
abbrev Key := Sum Int Str
def keyIs : Key → Value → Bool
  | .inl k, v => Value.isInt k v
  | .inr x, v => Value.isStrOf x v
def keyH (w : World) : Key → Int
  | .inl k => hashInt k
  | .inr x => hashStr w x
theorem keyIs_shape : ∀ {k : Key} {v : Value}, keyIs k v = true → (∃ i t, k = Sum.inl i ∧ v = Value.int i t) ∨ (∃ x t, k = Sum.inr x ∧ v = Value.str x t)
  | .inl i, v, h => by
    obtain ⟨t, e⟩ := Value.isInt_shape (k := i) (v := v) h
    exact .inl ⟨i, t, rfl, e⟩
  | .inr x, v, h => by
    obtain ⟨t, e⟩ := Value.isStrOf_shape (x := x) (v := v) h
    exact .inr ⟨x, t, rfl, e⟩
theorem keyIs_int (i : Int) (t : Tok) : keyIs (.inl i) (.int i t) = true := by simp [keyIs, Value.isInt]
theorem keyIs_str (x : Str) (t : Tok) : keyIs (.inr x) (.str x t) = true := by simp [keyIs, Value.isStrOf]
theorem key_ll (a b : Int) : decide ((Sum.inl a : Key) = Sum.inl b) = (a == b) := by
  by_cases e : a = b
  · subst e; simp
  · have h : ¬ (Sum.inl a : Key) = Sum.inl b := fun q => e (Sum.inl.inj q)
    rw [decide_eq_false h]
    exact (beq_eq_false_iff_ne.mpr e).symm
theorem key_rr (a b : Str) : decide ((Sum.inr a : Key) = Sum.inr b) = decide (a = b) := by
  by_cases e : a = b
  · subst e; simp
  · have h : ¬ (Sum.inr a : Key) = Sum.inr b := fun q => e (Sum.inr.inj q)
    rw [decide_eq_false h, decide_eq_false e]
theorem key_lr (a : Int) (b : Str) : decide ((Sum.inl a : Key) = Sum.inr b) = false := decide_eq_false (fun q => nomatch q)
theorem key_rl (a : Str) (b : Int) : decide ((Sum.inr a : Key) = Sum.inl b) = false := decide_eq_false (fun q => nomatch q)
def mixKind (prog : Program) (w : World) : PySem.KeyKind prog w Key where
  is := keyIs
  hash := keyH w
  inj := fun v a b ha hb => by
    rcases keyIs_shape ha with ⟨i, t, rfl, rfl⟩ | ⟨x, t, rfl, rfl⟩
    · rcases keyIs_shape hb with ⟨j, u, rfl, e⟩ | ⟨y, u, rfl, e⟩
      · injection e with e1 _; rw [e1]
      · exact nomatch e
    · rcases keyIs_shape hb with ⟨j, u, rfl, e⟩ | ⟨y, u, rfl, e⟩
      · exact nomatch e
      · injection e with e1 _; rw [e1]
  byValue := fun k v h => by
    rcases keyIs_shape h with ⟨i, t, rfl, rfl⟩ | ⟨x, t, rfl, rfl⟩ <;> rfl
  pyHash := fun hv h => by
    rcases keyIs_shape hv with ⟨i, t, rfl, rfl⟩ | ⟨x, t, rfl, rfl⟩
    · exact wpAny_pyHash_int h
    · exact wpAny_pyHash_str h
  eqBool := fun hu hv h => by
    rcases keyIs_shape hu with ⟨i, t, rfl, rfl⟩ | ⟨x, t, rfl, rfl⟩
    · rcases keyIs_shape hv with ⟨j, u, rfl, rfl⟩ | ⟨y, u, rfl, rfl⟩
      · rw [key_ll] at h; exact wpAny_eqBool_int h
      · rw [key_lr] at h; exact SeqAt.EqAt.int_str i t y u _ _ _ _ h
    · rcases keyIs_shape hv with ⟨j, u, rfl, rfl⟩ | ⟨y, u, rfl, rfl⟩
      · rw [key_rl] at h; exact SeqAt.EqAt.str_int x t j u _ _ _ _ h
      · rw [key_rr] at h; exact wpAny_eqBool_str h
  «strs» := fun k x t v h => by
    rcases keyIs_shape h with ⟨i, u, rfl, e⟩ | ⟨y, u, rfl, e⟩
    · exact nomatch e
    · injection e with e1 _
      subst e1
      cases v <;> rfl
theorem mixKind_int (prog : Program) (w : World) (i : Int) (t : Tok) : (mixKind prog w).is (.inl i) (.int i t) = true := keyIs_int i t
theorem mixKind_str (prog : Program) (w : World) (x : Str) (t : Tok) : (mixKind prog w).is (.inr x) (.str x t) = true := keyIs_str x t
end L2
namespace L2
open PySem PySem.Spec PyProof.Rows
inductive V where
  | non | bl (b : Bool) | int (i : Int) | str (x : Str) | byt (b : Array UInt8) | flt (b : UInt64) | ref (a : Addr) | ty (n : String)
  deriving DecidableEq
def RelV : V → Value → Prop
  | .non, u => u = Value.none
  | .bl b, u => u = Value.bool b
  | .int i, u => ∃ t, u = Value.int i t
  | .str x, u => ∃ t, u = Value.str x t
  | .byt b, u => ∃ t, u = Value.bytes b t
  | .flt b, u => ∃ t, u = Value.float b t
  | .ref a, u => u = Value.ref a
  | .ty n, u => u = Value.type n
abbrev Vals : List V → List Value → Prop := Paired RelV
theorem Vals.length {xs : List V} {us : List Value} (r : Vals xs us) : xs.length = us.length := Paired.length r
theorem Vals.get : ∀ {xs : List V} {us : List Value} {i : Nat} {x : V}, Vals xs us → xs[i]? = some x → ∃ u, us[i]? = some u ∧ RelV x u
  | _, _, _, _, .nil, e => by simp at e
  | _, _, 0, _, .cons r _, e => by simp at e; subst e; exact ⟨_, rfl, r⟩
  | _, _, i + 1, x, .cons _ t, e => by
    obtain ⟨u, h1, h2⟩ := Vals.get (i := i) (x := x) t (by simpa using e)
    exact ⟨u, by simpa using h1, h2⟩
theorem Vals.append : ∀ {xs ys : List V} {us ws : List Value}, Vals xs us → Vals ys ws → Vals (xs ++ ys) (us ++ ws)
  | _, _, _, _, .nil, s => s
  | _, _, _, _, .cons r t, s => .cons r (Vals.append t s)
theorem Vals.take : ∀ {xs : List V} {us : List Value} (n : Nat), Vals xs us → Vals (xs.take n) (us.take n)
  | _, _, 0, _ => .nil
  | _, _, _ + 1, .nil => .nil
  | _, _, n + 1, .cons r t => .cons r (Vals.take n t)
theorem Vals.drop : ∀ {xs : List V} {us : List Value} (n : Nat), Vals xs us → Vals (xs.drop n) (us.drop n)
  | _, _, 0, r => r
  | _, _, _ + 1, .nil => .nil
  | _, _, n + 1, .cons _ t => Vals.drop n t
def RelO : Option V → Option Value → Prop
  | some v, some u => RelV v u
  | none, none => True
  | _, _ => False
def KV {κ : Type} : List (κ × V) → List (κ × Value) → Prop := Paired fun (p : κ × V) (q : κ × Value) => p.1 = q.1 ∧ RelV p.2 q.2
def kV : Key → V
  | .inl i => .int i
  | .inr x => .str x
inductive HO where
    | lst (xs : List V)
    | tup (xs : List V)
    | dK (kvs : List (Key × V)) | dT (kvs : List (List Key × V))
    | set (S : Int → Bool) (n : Nat)
    | ins (C dx : Addr) (fs : List (Str × V))
    | own (x : Addr)
    | xd (fs : List (Str × V))
    | met (f x : Addr)
    | rng (lo hi : Int)
    | frz (o : Obj) (u : HO)
    | tbl (ps : Array Value)
    | ext (φ : Heap → Prop)
abbrev Hp := Addr → Option HO
def upd (H : Hp) (a : Addr) (o : HO) : Hp := fun b => if b = a then some o else H b
theorem upd_same {H : Hp} {a : Addr} {o : HO} : upd H a o a = some o := by unfold upd; rw [if_pos rfl]
theorem upd_ne {H : Hp} {a b : Addr} {o : HO} (h : b ≠ a) : upd H a o b = H b := by unfold upd; rw [if_neg h]
theorem ne_of_none {H : Hp} {a b : Addr} {o : HO} (h : H a = some o) (h' : H b = none) : a ≠ b := by
  intro e; subst e; rw [h] at h'; cases h'
section
variable (P : Program) (w : World)
def ObjOk (H : Hp) (h : Heap) (a : Addr) : HO → Prop
  | .lst xs => xs.length ≤ sizeLine ∧ ∃ (its : List Value) (n : Nat), Vals xs its ∧ h.get? a = some { cls := .type "list", data := .seq its.toArray n }
  | .tup xs => xs.length ≤ sizeLine ∧ ∃ its : List Value, Vals xs its ∧ IsTup h a its.toArray
  | .dK kvs => kvs.length ≤ sizeLine ∧ (a == sysModules) = false ∧ ∃ vs, KV kvs vs ∧ h.DictOf (mixKind P w) a vs
  | .dT kvs => kvs.length ≤ sizeLine ∧ (a == sysModules) = false ∧ ∃ xs : List (List Key × Addr × Value),
      Paired (fun (p : List Key × V) (q : List Key × Addr × Value) => p.1 = q.1 ∧ H q.2.1 = some (.tup (p.1.map kV)) ∧ RelV p.2 q.2.2) kvs xs ∧
      ∃ o es ep, h.get? a = some o ∧ o.ExactDict ∧ o.data = .dict es ep ∧ es.toList = xs.map (entryOfKey (tupleKind (mixKind P w))) ∧ (xs.map (·.1)).Nodup
  | .set S n => h.SetOf (intKind P w) a S n
  | .ins C dx fs => H dx = some (.own a) ∧ fs.length ≤ 1000 ∧ dx ≠ a ∧ h.get? a = some (PySem.W.instObj C dx) ∧
      ∃ mA, h.Ns1 dx mA ∧ (∀ f, RelO (fs.lookup f) (mA f)) ∧ PySem.Within mA (fs.map (·.1))
  | .own _ => ∃ o, h.get? a = some o
  | .xd fs => ∃ mA, h.Ns1 a mA ∧ ∀ f, RelO (fs.lookup f) (mA f)
  | .rng lo hi => ∃ t u v, h.get? a = some { cls := .type "range", data := .fields #[.int lo t, .int hi u, .int 1 v] }
  | .frz o u => h.get? a = some o ∧ ObjOk H h a u
  | .tbl ps => h.get? a = some { cls := .none, data := .fields ps }
  | .met f x => h.get? a = some (PySem.W.methodObj (.ref f) (.ref x))
  | .ext φ => φ h ∧ (∃ o, h.get? a = some o) ∧ ∀ h1 h2 : Heap, φ h1 → (∀ o, h1.get? a = some o → h2.get? a = some o) → φ h2
def HOk (H : Hp) (h : Heap) : Prop := ∀ a o, H a = some o → ObjOk P w H h a o
end
section
variable {P : Program} {w : World} {H H' : Hp} {h h' : Heap} {a : Addr} {o : HO}
theorem ObjOk.lt (x : ObjOk P w H h a o) : a < h.objs.size := by
  cases o with
  | lst xs => obtain ⟨_, _, _, _, e⟩ := x; exact Heap.lt_size e
  | tup xs => obtain ⟨_, _, _, p⟩ := x; exact p.lt
  | dK kvs => obtain ⟨_, _, _, _, o, _, _, e, _⟩ := x; exact Heap.lt_size e
  | dT kvs => obtain ⟨_, _, _, _, o, _, _, e, _⟩ := x; exact Heap.lt_size e
  | set S n => obtain ⟨o, _, _, _, e, _⟩ := x; exact Heap.lt_size e
  | ins C dx fs => obtain ⟨_, _, _, e, _⟩ := x; exact Heap.lt_size e
  | own y => obtain ⟨_, e⟩ := x; exact Heap.lt_size e
  | xd fs => obtain ⟨_, ⟨_, _, _, e, _⟩, _⟩ := x; exact Heap.lt_size e
  | rng lo hi => obtain ⟨_, _, _, e⟩ := x; exact Heap.lt_size e
  | frz ob u => obtain ⟨e, _⟩ := x; exact Heap.lt_size e
  | tbl ps => exact Heap.lt_size (show h.get? a = some _ from x)
  | met f y => exact Heap.lt_size (show h.get? a = some _ from x)
  | ext φ => obtain ⟨_, ⟨_, e⟩, _⟩ := x; exact Heap.lt_size e
theorem Paired.mapP {α β : Type} {F G : α → β → Prop} : ∀ {l₁ : List α} {l₂ : List β}, Paired F l₁ l₂ → (∀ a b, F a b → G a b) → Paired G l₁ l₂
  | _, _, .nil, _ => .nil
  | _, _, .cons r t, f => .cons (f _ _ r) (Paired.mapP t f)
theorem ObjOk.stay (x : ObjOk P w H h a o) (k : ∀ b u, (b = a ∨ H b = some (.own a)) → h.get? b = some u → h'.get? b = some u)
    (ho : ∀ b, H b = some (.own a) → H' b = some (.own a)) (ht : ∀ b xs, H b = some (.tup xs) → H' b = some (.tup xs)) : ObjOk P w H' h' a o := by
  induction o with
  | lst xs => obtain ⟨z, its, n, r, e⟩ := x; exact ⟨z, its, n, r, k _ _ (.inl rfl) e⟩
  | tup xs => obtain ⟨z, its, r, ob, e, c⟩ := x; exact ⟨z, its, r, ob, k _ _ (.inl rfl) e, c⟩
  | dK kvs => obtain ⟨z, y, vs, r, ob, es, ep, e, c⟩ := x; exact ⟨z, y, vs, r, ob, es, ep, k _ _ (.inl rfl) e, c⟩
  | dT kvs =>
    obtain ⟨z, y, xs, r, ob, es, ep, e, c⟩ := x
    exact ⟨z, y, xs, Paired.mapP r fun p q z => ⟨z.1, ht _ _ z.2.1, z.2.2⟩, ob, es, ep, k _ _ (.inl rfl) e, c⟩
  | set S n => obtain ⟨ob, es, ep, t, e, c⟩ := x; exact ⟨ob, es, ep, t, k _ _ (.inl rfl) e, c⟩
  | ins C dx fs =>
    obtain ⟨d, z, ne, e, mA, ⟨od, es, ep, e2, c⟩, r⟩ := x
    exact ⟨ho _ d, z, ne, k _ _ (.inl rfl) e, mA, ⟨od, es, ep, k _ _ (.inr d) e2, c⟩, r⟩
  | own y => obtain ⟨ob, e⟩ := x; exact ⟨ob, k _ _ (.inl rfl) e⟩
  | xd fs => obtain ⟨mA, ⟨od, es, ep, e, c⟩, r⟩ := x; exact ⟨mA, ⟨od, es, ep, k _ _ (.inl rfl) e, c⟩, r⟩
  | rng lo hi => obtain ⟨t, u, v, e⟩ := x; exact ⟨t, u, v, k _ _ (.inl rfl) e⟩
  | frz ob u ih => obtain ⟨e, q⟩ := x; exact ⟨k _ _ (.inl rfl) e, ih q⟩
  | tbl ps =>
    have e : h.get? a = some { cls := .none, data := .fields ps } := x
    show h'.get? a = some { cls := .none, data := .fields ps }
    exact k a _ (.inl rfl) e
  | met f y =>
    have e : h.get? a = some (PySem.W.methodObj (.ref f) (.ref y)) := x
    show h'.get? a = some (PySem.W.methodObj (.ref f) (.ref y))
    exact k a _ (.inl rfl) e
  | ext φ => obtain ⟨p, ⟨o, e⟩, st⟩ := x; exact ⟨st _ _ p fun o q => k _ _ (.inl rfl) q, ⟨o, k _ _ (.inl rfl) e⟩, st⟩
theorem HOk.lt (x : HOk P w H h) (e : H a = some o) : a < h.objs.size := (x a o e).lt
theorem HOk.fresh (x : HOk P w H h) (e : h.objs.size ≤ a) : H a = none := by
  cases q : H a with
  | none => rfl
  | some u => exact absurd (Nat.lt_of_lt_of_le (x.lt q) e) (Nat.lt_irrefl _)
theorem HOk.kept (x : HOk P w H h) (k : ∀ b u, h.get? b = some u → h'.get? b = some u) : HOk P w H h' := fun a o e =>
  (x a o e).stay (fun b u _ q => k b u q) (fun _ q => q) fun _ _ q => q
theorem HOk.laid (x : HOk P w H h) (k : ∀ b u, h.get? b = some u → h'.get? b = some u) (hp : h.objs.size ≤ a) (new : ObjOk P w (upd H a o) h' a o) : HOk P w (upd H a o) h' := fun b u e => by
  have hn := x.fresh hp
  by_cases hb : b = a
  · subst hb; rw [upd_same] at e; cases e; exact new
  · rw [upd_ne hb] at e
    exact (x b u e).stay (fun c v _ q => k c v q) (fun c q => by rw [upd_ne (ne_of_none q hn)]; exact q) fun c xs q => by rw [upd_ne (ne_of_none q hn)]; exact q
end
def Rd (H : Hp) (a : Addr) (u : HO) : Prop := H a = some u ∨ ∃ o, H a = some (.frz o u)
theorem Rd.ok {P : Program} {w : World} {H : Hp} {h : Heap} {a : Addr} {u : HO} (r : Rd H a u) (x : HOk P w H h) : ObjOk P w H h a u := by
  rcases r with r | ⟨o, r⟩
  · exact x a u r
  · obtain ⟨_, q⟩ := x a _ r
    exact q
def Mut : Option HO → Prop
  | some (.lst _) => True
  | some (.dK _) => True
  | some (.dT _) => True
  | some (.set _ _) => True
  | some (.ins _ _ _) => True
  | some (.ext _) => True
  | _ => False
section
variable {P : Program} {w : World} {H : Hp} {h h' : Heap} {x e : Addr} {o' : HO}
theorem HOk.write (ok : HOk P w H h) (mu : Mut (H x)) (he : e = x ∨ H e = some (.own x)) (k : ∀ b u, b ≠ e → h.get? b = some u → h'.get? b = some u) (heo : ∃ u, h'.get? e = some u)
    (new : ObjOk P w (upd H x o') h' x o') : HOk P w (upd H x o') h' := fun b u q => by
  have nown : ∀ c y, H c = some (.own y) → c ≠ x := fun c y r z => by subst z; rw [r] at mu; exact mu
  have ntup : ∀ c xs, H c = some (.tup xs) → c ≠ x := fun c xs r z => by subst z; rw [r] at mu; exact mu
  by_cases hb : b = x
  · subst hb; rw [upd_same] at q; cases q; exact new
  · rw [upd_ne hb] at q
    by_cases hbe : b = e
    · have q' : H b = some (.own x) := by
        rcases he with z | z
        · exact absurd (hbe.trans z) hb
        · rw [hbe]; exact z
      rw [q] at q'; cases q'
      obtain ⟨v, hv⟩ := heo
      exact ⟨v, by rw [hbe]; exact hv⟩
    · refine (ok b u q).stay (fun c v hc r => k c v ?_ r) (fun c r => by rw [upd_ne (nown c b r)]; exact r) fun c xs r => by rw [upd_ne (ntup c xs r)]; exact r
      rcases hc with rfl | hc
      · exact hbe
      · rintro rfl
        rcases he with z | z
        · exact nown c b hc z
        · rw [hc] at z; cases z; exact hb rfl
end
structure Un (fs ex : List Addr) (H H' : Hp) (h h' : Heap) : Prop where
  keep : ∀ b o, h.get? b = some o → H b = none → b ∉ fs → b ∉ ex → h'.get? b = some o
  slot : ∀ b o, h.get? b = some o → H b = none → b ∈ fs → b ∉ ex → ∃ sl, h'.get? b = some { o with slots := sl }
  free : ∀ b o, h.get? b = some o → H b = none → b ∉ ex → H' b = none
  there : ∀ b o, h.get? b = some o → b ∉ ex → ∃ o', h'.get? b = some o'
  tups : ∀ b xs, H b = some (.tup xs) → H' b = some (.tup xs)
  frzs : ∀ b o u, H b = some (.frz o u) → H' b = some (.frz o u)
  tbls : ∀ b ps, H b = some (.tbl ps) → ∃ more, H' b = some (.tbl (ps ++ more))
section
variable {fs fs' ex ex' : List Addr} {H H1 H2 : Hp} {h h1 h2 h' : Heap} {a x e : Addr} {o : HO}
theorem Un.any (u : Un fs ex H H1 h h1) {b : Addr} {ob : Obj} (q : h.get? b = some ob) (n : H b = none) (hx : b ∉ ex) : ∃ sl, h1.get? b = some { ob with slots := sl } := by
  by_cases hb : b ∈ fs
  · exact u.slot b ob q n hb hx
  · exact ⟨ob.slots, u.keep b ob q n hb hx⟩
theorem Un.trans (a : Un fs ex H H1 h h1) (b : Un fs ex H1 H2 h1 h2) : Un fs ex H H2 h h2 where
  keep := fun c ob q n hc hx => b.keep c ob (a.keep c ob q n hc hx) (a.free c ob q n hx) hc hx
  slot := fun c ob q n hc hx => by
    obtain ⟨sl, e1⟩ := a.slot c ob q n hc hx
    obtain ⟨sl', e2⟩ := b.slot c _ e1 (a.free c ob q n hx) hc hx
    exact ⟨sl', e2⟩
  free := fun c ob q n hx => by
    obtain ⟨o', e1⟩ := a.there c ob q hx
    exact b.free c o' e1 (a.free c ob q n hx) hx
  there := fun c ob q hx => by
    obtain ⟨o', e1⟩ := a.there c ob q hx
    exact b.there c o' e1 hx
  tups := fun c xs q => b.tups c xs (a.tups c xs q)
  frzs := fun c ob xs q => b.frzs c ob xs (a.frzs c ob xs q)
  tbls := fun c ps q => by
    obtain ⟨m1, e1⟩ := a.tbls c ps q
    obtain ⟨m2, e2⟩ := b.tbls c _ e1
    exact ⟨m1 ++ m2, by rw [e2, Array.append_assoc]⟩
theorem Un.kept (k : ∀ b u, h.get? b = some u → h'.get? b = some u) : Un fs ex H H h h' :=
  ⟨fun b ob q _ _ _ => k b ob q, fun b ob q _ _ _ => ⟨ob.slots, k b ob q⟩, fun _ _ _ n _ => n, fun b ob q _ => ⟨ob, k b ob q⟩, fun _ _ q => q, fun _ _ _ q => q, fun _ ps q => ⟨#[], by rw [q]; simp⟩⟩
theorem Un.refl : Un fs ex H H h h := Un.kept fun _ _ q => q
theorem Un.laid (k : ∀ b u, h.get? b = some u → h'.get? b = some u) (hp : h.objs.size ≤ a) (hn : H a = none) : Un fs ex H (upd H a o) h h' where
  keep := fun b u q _ _ _ => k b u q
  slot := fun b u q _ _ _ => ⟨u.slots, k b u q⟩
  free := fun b u q n _ => by rw [upd_ne (Nat.ne_of_lt (Nat.lt_of_lt_of_le (Heap.lt_size q) hp))]; exact n
  there := fun b u q _ => ⟨u, k b u q⟩
  tups := fun b xs q => by rw [upd_ne (ne_of_none q hn)]; exact q
  frzs := fun b u xs q => by rw [upd_ne (ne_of_none q hn)]; exact q
  tbls := fun b ps q => ⟨#[], by rw [upd_ne (ne_of_none q hn), q]; simp⟩
theorem Un.write (mu : Mut (H x)) (he : e = x ∨ H e = some (.own x)) (k : ∀ b u, b ≠ e → h.get? b = some u → h'.get? b = some u) (heo : ∃ u, h'.get? e = some u) : Un fs ex H (upd H x o) h h' := by
  have hx : ∀ b, H b = none → b ≠ x := fun b n z => by subst z; rw [n] at mu; exact mu
  have hb : ∀ b, H b = none → b ≠ e := fun b n z => by
    subst z
    rcases he with r | r
    · exact hx b n r
    · rw [n] at r; cases r
  have hm : ∀ b u, H b = some u → ¬ Mut (some u) → b ≠ x := fun b u q nm z => by subst z; rw [q] at mu; exact nm mu
  refine ⟨fun b u q n _ _ => k b u (hb b n) q, fun b u q n _ _ => ⟨u.slots, k b u (hb b n) q⟩, fun b u q n _ => by rw [upd_ne (hx b n)]; exact n, fun b u q _ => ?_,
    fun b xs q => by rw [upd_ne (hm b _ q fun z => z)]; exact q, fun b u xs q => by rw [upd_ne (hm b _ q fun z => z)]; exact q, fun b ps q => ⟨#[], by rw [upd_ne (hm b _ q fun z => z), q]; simp⟩⟩
  by_cases hbe : b = e
  · subst hbe; exact heo
  · exact ⟨u, k b u hbe q⟩
theorem Un.mono (u : Un fs ex H H1 h h1) (hs : ∀ b ∈ fs, b ∈ fs') (hx : ∀ b ∈ ex, b ∈ ex') : Un fs' ex' H H1 h h1 :=
  ⟨fun b ob q n hb he => u.keep b ob q n (fun z => hb (hs b z)) fun z => he (hx b z), fun _ _ q n _ he => u.any q n fun z => he (hx _ z), fun b ob q n he => u.free b ob q n fun z => he (hx b z), fun b ob q he => u.there b ob q fun z => he (hx b z), u.tups, u.frzs, u.tbls⟩
end
def trk (h : Heap) (H : Hp) : List Addr := (List.range h.objs.size).filter fun a => (H a).isSome
def hidT (h : Heap) (H : Hp) : Heap := PySem.W.hideAll h (trk h H)
theorem hidT_size (h : Heap) (H : Hp) : (hidT h H).objs.size = h.objs.size := PySem.W.hideAll_size _ _
theorem hidT_get {h : Heap} {H : Hp} {b : Addr} {o : Obj} (e : h.get? b = some o) (n : H b = none) : (hidT h H).get? b = some o :=
  PySem.W.hideAll_get _ e fun hm => by
    have q : (H b).isSome = true := (List.mem_filter.mp hm).2
    rw [n] at q; simp at q
theorem of_hidT {h : Heap} {H : Hp} {b : Addr} {o : Obj} (e : (hidT h H).get? b = some o) : h.get? b = some o ∧ H b = none := by
  have e' : h.get? b = some o := PySem.W.of_hideAll (trk h H) e
  refine ⟨e', ?_⟩
  cases q : H b with
  | none => rfl
  | some x =>
    have hm : b ∈ trk h H := List.mem_filter.mpr ⟨List.mem_range.mpr (Heap.lt_size e'), by simp [q]⟩
    have z : (hidT h H).get? b = none := PySem.W.hideAll_none (trk h H) hm
    rw [z] at e; cases e
end L2
namespace L2
open PySem PySem.Spec PyProof.Rows
structure Mod (K : PySem.W.Frag) (mg : Str → Option Value) (base : Heap) : Prop where
  kin : K.In base
  glob : base.Ns mainGlobals mg
  blt : ∃ mb, base.Ns builtinsNs mb ∧ ∀ x : Str, x ≠ "__name__" → mb x = bootBuiltins x
  nolimit : base.NoLimit
structure Cx where
  prog : Program
  w : World
  K : PySem.W.Frag
  mg : Str → Option Value
  base : Heap
  A : Around
  N : List Str
  s₀ : Shared
  H₀ : Hp
  env : Env
  outer : List Env
  stack : List Env
  ex : List Addr
  fn : Str → Bool
  calm : Bool
  pn : List (Addr × Obj)
  xe : Value → Shared → Prop
def frs (l : List Env) : List Addr := l.filterMap (·.frame)
abbrev Cx.fs (X : Cx) : List Addr := frs X.outer
def Vis (sc : Scope) (x : Str) : Prop := sc.names.lookup x = some .local ∨ sc.names.lookup x = some .cell ∨ sc.names.lookup x = some .free
def Loc (sc : Scope) (x : Str) : Prop := sc.names.lookup x = some .local ∨ sc.names.lookup x = some .cell
def Look (env : Env) (h : Heap) (m : Str → Option Value) (x : Str) (u : Value) : Prop :=
  (env.kindOf x = some .local ∧ m x = some u) ∨ ((env.kindOf x = some .cell ∨ env.kindOf x = some .free) ∧ ∃ c, env.cells.lookup x = some c ∧ h.IsCell c (some u))
structure Cx.Ok (X : Cx) : Prop where
  mod : Mod X.K X.mg X.base
  kind : X.env.scope.kind = .function
  glob : X.env.globals = mainGlobals
  blt : X.env.builtins = builtinsNs
  above : X.s₀.heap.objs.size ≤ X.env.locals
  inj : ∀ x y c, X.env.cells.lookup x = some c → X.env.cells.lookup y = some c → x = y
  has : ∀ x, (X.env.kindOf x = some .cell ∨ X.env.kindOf x = some .free) → ∃ c, X.env.cells.lookup x = some c
  cab : ∀ x c, X.fn x = true → X.env.cells.lookup x = some c → X.s₀.heap.objs.size ≤ c
  hd : X.calm = true → X.A.handled = none
  frames : X.A.frames = some X.stack
  stk : X.stack = X.outer ∨ (X.stack = X.env :: X.outer ∧ X.env.frame = some X.env.locals)
  exf : ∀ b ∈ X.ex, b ≠ X.env.locals ∧ ∀ x c, X.env.cells.lookup x = some c → c ≠ b
  bs : ∀ b o, X.base.get? b = some o → X.s₀.heap.get? b = some o ∧ X.H₀ b = none
  bsz : X.base.objs.size ≤ X.s₀.heap.objs.size
  noex : ∀ b o, X.base.get? b = some o → b ∉ X.ex
  exfs : ∀ b ∈ X.ex, b ∉ X.fs
  funs : X.s₀.heap.FunFrames X.base X.outer
  frf : ∀ b ∈ X.fs, X.H₀ b = none
structure Inv (X : Cx) (pins : List (Addr × Obj)) (σ : List (Option V)) (H : Hp) (s : Shared) : Prop where
  ok : X.Ok
  os : s.os = X.s₀.os
  bare : AllBare s.gens
  base : Un X.fs X.ex X.H₀ H X.s₀.heap s.heap
  loc : ∃ m, s.heap.Ns X.env.locals m ∧ ∀ (i : Nat) (x : Str) (v : V), X.N[i]? = some x → σ[i]? = some (some v) → Vis X.env.scope x → ∃ u, RelV v u ∧ Look X.env s.heap m x u
  cell : ∀ x c, X.env.cells.lookup x = some c → ∃ v, s.heap.IsCell c v
  free : H X.env.locals = none
  freeC : ∀ x c, X.env.cells.lookup x = some c → H c = none
  pin : ∀ p ∈ X.pn ++ pins, s.heap.get? p.1 = some p.2 ∧ H p.1 = none ∧ p.1 ≠ X.env.locals ∧ p.1 ∉ X.fs ∧ ∀ v, p.2.data ≠ .cell v
  hok : HOk X.prog X.w H s.heap
  len : σ.length = X.N.length
section
variable {X : Cx} {pins : List (Addr × Obj)} {σ : List (Option V)} {H H' : Hp} {s : Shared} {h' : Heap}
theorem Cx.Ok.nofr (ok : X.Ok) {b : Addr} {o : Obj} (e : X.base.get? b = some o) : b ∉ X.fs := fun hb => by
  have := (ok.funs.mem hb).1
  rw [e] at this; cases this
theorem Inv.bs (I : Inv X pins σ H s) : ∀ b o, X.base.get? b = some o → s.heap.get? b = some o ∧ H b = none := fun b o e =>
  ⟨I.base.keep b o (I.ok.bs b o e).1 (I.ok.bs b o e).2 (I.ok.nofr e) (I.ok.noex b o e), I.base.free b o (I.ok.bs b o e).1 (I.ok.bs b o e).2 (I.ok.noex b o e)⟩
theorem Inv.bk (I : Inv X pins σ H s) : ∀ b o, X.base.get? b = some o → s.heap.get? b = some o := fun b o e => (I.bs b o e).1
theorem Inv.mod (I : Inv X pins σ H s) : Mod X.K X.mg X.base := I.ok.mod
theorem Inv.kIn (I : Inv X pins σ H s) : X.K.In s.heap := I.ok.mod.kin.keeps I.bk
theorem Inv.nolimit (I : Inv X pins σ H s) : s.heap.NoLimit := I.ok.mod.nolimit.keeps I.bk
theorem Inv.lt (I : Inv X pins σ H s) : X.env.locals < s.heap.objs.size := let ⟨_, hn, _⟩ := I.loc; hn.lt
theorem Inv.sz (I : Inv X pins σ H s) : X.s₀.heap.objs.size ≤ s.heap.objs.size := Nat.le_trans I.ok.above (Nat.le_of_lt I.lt)
theorem Inv.nofs (I : Inv X pins σ H s) {a : Addr} (h : s.heap.objs.size ≤ a) : a ∉ X.fs := fun hb => by
  obtain ⟨_, o, ho, _⟩ := I.ok.funs.mem hb
  exact absurd (Nat.lt_of_lt_of_le (Heap.lt_size ho) (Nat.le_trans I.sz h)) (Nat.lt_irrefl _)
theorem Inv.cne (I : Inv X pins σ H s) : ∀ x c, X.env.cells.lookup x = some c → c ≠ X.env.locals := fun x c e z => by
  obtain ⟨v, o, ho, hd⟩ := I.cell x c e
  obtain ⟨m, ⟨o', es, ep, ho', hd', _⟩, _⟩ := I.loc
  rw [z, ho'] at ho; cases ho; rw [hd'] at hd; cases hd
theorem Inv.funs (I : Inv X pins σ H s) : s.heap.FunFrames X.base X.outer := by
  have all : ∀ (l : List Env), (∀ b ∈ frs l, b ∈ X.fs) → X.s₀.heap.FunFrames X.base l → s.heap.FunFrames X.base l := by
    intro l
    induction l with
    | nil => intro _ _; trivial
    | cons env r ih =>
      intro hs hl
      obtain ⟨hk, ⟨L, o, hf, hn, ho, hd⟩, hr⟩ := hl
      have hL : L ∈ X.fs := hs L (by unfold frs; rw [List.filterMap_cons, hf]; exact List.mem_cons_self)
      obtain ⟨sl, e⟩ := I.base.slot L o ho (I.ok.frf L hL) hL fun z => I.ok.exfs L z hL
      exact ⟨hk, ⟨L, _, hf, hn, e, hd⟩, ih (fun b hb => hs b (by unfold frs; rw [List.filterMap_cons, hf]; exact List.mem_cons_of_mem _ hb)) hr⟩
  exact all X.outer (fun _ hb => hb) I.ok.funs
theorem Inv.stack (I : Inv X pins σ H s) : s.heap.FunFrames X.base X.stack := by
  rcases I.ok.stk with e | ⟨e, hf⟩
  · rw [e]; exact I.funs
  · rw [e]
    obtain ⟨m, hn, _⟩ := I.loc
    refine .cons (by rw [I.ok.kind]; decide) hf hn ?_ I.funs
    exact Heap.get?_none_of_le (Nat.le_trans I.ok.bsz I.ok.above)
theorem Inv.stkSub (I : Inv X pins σ H s) : ∀ b ∈ frs X.stack, b ∈ X.env.locals :: X.fs := fun b hb => by
  rcases I.ok.stk with e | ⟨e, hf⟩
  · rw [e] at hb; exact List.mem_cons_of_mem _ hb
  · rw [e] at hb
    unfold frs at hb
    rw [List.filterMap_cons, hf] at hb
    exact hb
theorem Inv.stkFree (I : Inv X pins σ H s) : ∀ b ∈ frs X.stack, H b = none := fun b hb => by
  rcases List.mem_cons.mp (I.stkSub b hb) with e | hb
  · rw [e]; exact I.free
  · obtain ⟨_, o, ho, _⟩ := I.ok.funs.mem hb
    exact I.base.free b o ho (I.ok.frf b hb) fun z => I.ok.exfs b z hb
theorem Inv.step {g' : Array GenState} {t' : Nat} {d' : Drawn} {ch : List Addr} (I : Inv X pins σ H s)
    (hch : ∀ b ∈ ch, (b ∈ X.ex ∨ X.s₀.heap.objs.size ≤ b) ∧ b ≠ X.env.locals ∧ (∀ x c, X.env.cells.lookup x = some c → c ≠ b) ∧ ∀ p ∈ X.pn ++ pins, p.1 ≠ b)
    (keep : ∀ b o, b ≠ X.env.locals → b ∉ X.fs → b ∉ ch → s.heap.get? b = some o → H b = none → h'.get? b = some o)
    (slot : ∀ b o, b ≠ X.env.locals → b ∈ X.fs → b ∉ ch → s.heap.get? b = some o → H b = none → ∃ sl, h'.get? b = some { o with slots := sl }) (free : ∀ b o, b ∉ ch → s.heap.get? b = some o → H b = none → H' b = none)
    (there : ∀ b o, b ∉ ch → s.heap.get? b = some o → ∃ o', h'.get? b = some o')
    (tups : ∀ b xs, H b = some (.tup xs) → H' b = some (.tup xs)) (frzs : ∀ b o u, H b = some (.frz o u) → H' b = some (.frz o u)) (tbls : ∀ b ps, H b = some (.tbl ps) → ∃ more, H' b = some (.tbl (ps ++ more)))
    (ns : ∀ m, s.heap.Ns X.env.locals m → h'.Ns X.env.locals m) (hok : HOk X.prog X.w H' h') (hg : AllBare g') :
    Inv X pins σ H' { s with heap := h', gens := g', drawn := d', toks := t' } := by
  have neL : ∀ b o, X.s₀.heap.get? b = some o → b ≠ X.env.locals := fun b o e => Nat.ne_of_lt (Nat.lt_of_lt_of_le (Heap.lt_size e) I.ok.above)
  have neC : ∀ b o, X.s₀.heap.get? b = some o → b ∉ X.ex → b ∉ ch := fun b o e hx hb => by
    rcases (hch b hb).1 with z | z
    · exact hx z
    · exact absurd (Nat.lt_of_lt_of_le (Heap.lt_size e) z) (Nat.lt_irrefl _)
  have cellK : ∀ x c, X.env.cells.lookup x = some c → ∀ v, s.heap.IsCell c v → h'.IsCell c v := fun x c e v ⟨o, ho, hd⟩ => by
    have nch : c ∉ ch := fun z => (hch c z).2.2.1 x c e rfl
    by_cases hc : c ∈ X.fs
    · obtain ⟨sl, q⟩ := slot c o (I.cne x c e) hc nch ho (I.freeC x c e)
      exact ⟨_, q, hd⟩
    · exact ⟨o, keep c o (I.cne x c e) hc nch ho (I.freeC x c e), hd⟩
  refine ⟨I.ok, I.os, hg, ⟨fun b o e n hb hx => ?_, fun b o e n hb hx => ?_, fun b o e n hx => ?_, fun b o e hx => ?_, fun b xs e => tups b xs (I.base.tups b xs e), fun b o xs e => frzs b o xs (I.base.frzs b o xs e), fun b ps e => ?_⟩, ?_, fun x c e => ?_, ?_, fun x c e => ?_, fun p hp => ?_, hok, I.len⟩
  · exact keep b o (neL b o e) hb (neC b o e hx) (I.base.keep b o e n hb hx) (I.base.free b o e n hx)
  · obtain ⟨sl, e1⟩ := I.base.slot b o e n hb hx
    obtain ⟨sl', e2⟩ := slot b _ (neL b o e) hb (neC b o e hx) e1 (I.base.free b o e n hx)
    exact ⟨sl', e2⟩
  · obtain ⟨o', e1⟩ := I.base.there b o e hx
    exact free b o' (neC b o e hx) e1 (I.base.free b o e n hx)
  · obtain ⟨o', e1⟩ := I.base.there b o e hx
    exact there b o' (neC b o e hx) e1
  · obtain ⟨m1, e1⟩ := I.base.tbls b ps e
    obtain ⟨m2, e2⟩ := tbls b _ e1
    exact ⟨m1 ++ m2, by rw [e2, Array.append_assoc]⟩
  · obtain ⟨m, hn, hl⟩ := I.loc
    refine ⟨m, ns m hn, fun i x v e1 e2 e3 => ?_⟩
    obtain ⟨u, r, l⟩ := hl i x v e1 e2 e3
    refine ⟨u, r, ?_⟩
    rcases l with l | ⟨k, c, e, z⟩
    · exact .inl l
    · exact .inr ⟨k, c, e, cellK x c e _ z⟩
  · obtain ⟨v, z⟩ := I.cell x c e
    exact ⟨v, cellK x c e v z⟩
  · obtain ⟨m, ⟨o, _, _, ho, _⟩, _⟩ := I.loc
    exact free _ o (fun z => (hch _ z).2.1 rfl) ho I.free
  · obtain ⟨v, o, ho, hd⟩ := I.cell x c e
    exact free c o (fun z => (hch c z).2.2.1 x c e rfl) ho (I.freeC x c e)
  · obtain ⟨e, n, ne, nf, d⟩ := I.pin p hp
    have nch : p.1 ∉ ch := fun z => (hch p.1 z).2.2.2 p hp rfl
    exact ⟨keep p.1 p.2 ne nf nch e n, free p.1 p.2 nch e n, ne, nf, d⟩
theorem Inv.un {t' : Nat} (I : Inv X pins σ H s) (u : Un X.fs [] H H' s.heap h') (hok : HOk X.prog X.w H' h') : Inv X pins σ H' { s with heap := h', toks := t' } := by
  obtain ⟨m, ⟨o, es, ep, ho, r⟩, _⟩ := id I.loc
  obtain ⟨sl, hL⟩ := u.any ho I.free (by simp)
  exact I.step (g' := s.gens) (d' := s.drawn) (ch := []) (fun _ z => nomatch z) (fun b o _ hb _ e n => u.keep b o e n hb (by simp)) (fun b o _ hb _ e n => u.slot b o e n hb (by simp)) (fun b o _ e n => u.free b o e n (by simp)) (fun b o _ e => u.there b o e (by simp)) u.tups u.frzs u.tbls (fun m' hm => by
    obtain ⟨o', es', ep', ho', r'⟩ := hm
    rw [ho] at ho'; cases ho'
    exact ⟨_, es', ep', hL, r'⟩) hok I.bare
theorem Inv.call {g' : Array GenState} {t' : Nat} {d' : Drawn} {ch : List Addr} (I : Inv X pins σ H s) (u : Un (frs X.stack) ch H H' s.heap h') (hok : HOk X.prog X.w H' h') (hg : AllBare g')
    (hch : ∀ b ∈ ch, (b ∈ X.ex ∨ X.s₀.heap.objs.size ≤ b) ∧ b ≠ X.env.locals ∧ (∀ x c, X.env.cells.lookup x = some c → c ≠ b) ∧ ∀ p ∈ X.pn ++ pins, p.1 ≠ b) :
    Inv X pins σ H' { s with heap := h', gens := g', drawn := d', toks := t' } := by
  obtain ⟨m, ⟨o, es, ep, ho, r⟩, _⟩ := id I.loc
  obtain ⟨sl, hL⟩ := u.any ho I.free fun z => (hch _ z).2.1 rfl
  exact I.step (ch := ch) hch (fun b o hL hb hc e n => u.keep b o e n (fun z => (List.mem_cons.mp (I.stkSub b z)).elim hL hb) hc) (fun b o _ _ hc e n => u.any e n hc) (fun b o hc e n => u.free b o e n hc) (fun b o hc e => u.there b o e hc) u.tups u.frzs u.tbls (fun m' hm => by
    obtain ⟨o', es', ep', ho', r'⟩ := hm
    rw [ho] at ho'; cases ho'
    exact ⟨_, es', ep', hL, r'⟩) hok hg
theorem Inv.turned {t' : Nat} {it : Addr} (I : Inv X pins σ H s) (k : ∀ b o, b ≠ it → s.heap.get? b = some o → h'.get? b = some o) (hn : H it = none) (hL : it ≠ X.env.locals)
    (h1 : it ∈ X.ex ∨ X.s₀.heap.objs.size ≤ it) (h2 : ∀ x c, X.env.cells.lookup x = some c → c ≠ it) (h3 : ∀ p ∈ X.pn ++ pins, p.1 ≠ it) : Inv X pins σ H { s with heap := h', toks := t' } := by
  have nit : ∀ b u, H b = some u → b ≠ it := fun b u e z => by rw [z, hn] at e; cases e
  refine I.step (g' := s.gens) (d' := s.drawn) (ch := [it]) (fun b hb => ?_) (fun b o _ _ hc e _ => k b o (fun z => hc (by simp [z])) e) (fun b o _ _ hc e _ => ⟨o.slots, k b o (fun z => hc (by simp [z])) e⟩) (fun _ _ _ _ n => n)
    (fun b o hc e => ⟨o, k b o (fun z => hc (by simp [z])) e⟩) (fun _ _ e => e) (fun _ _ _ e => e) (fun b ps e => ⟨#[], by rw [e]; simp⟩) (fun m hm => ?_) (fun b u e => ?_) I.bare
  · have e : b = it := by simpa using hb
    subst e
    exact ⟨h1, hL, h2, h3⟩
  · obtain ⟨o, es, ep, ho, r⟩ := hm
    exact ⟨o, es, ep, k _ o (Ne.symm hL) ho, r⟩
  · refine (I.hok b u e).stay (fun c v hc q => k c v ?_ q) (fun _ q => q) fun _ _ q => q
    rcases hc with z | z
    · rw [z]; exact nit b u e
    · exact nit c _ z
theorem Inv.tok (I : Inv X pins σ H s) (t : Nat) : Inv X pins σ H { s with toks := t } := I.un (h' := s.heap) (t' := t) Un.refl I.hok
theorem Inv.kept {t' : Nat} (I : Inv X pins σ H s) (k : ∀ b u, s.heap.get? b = some u → h'.get? b = some u) : Inv X pins σ H { s with heap := h', toks := t' } := I.un (Un.kept k) (I.hok.kept k)
theorem Inv.laid {a : Addr} {o : HO} {t' : Nat} (I : Inv X pins σ H s) (k : ∀ b u, s.heap.get? b = some u → h'.get? b = some u) (hp : s.heap.objs.size ≤ a) (new : ObjOk X.prog X.w (upd H a o) h' a o) :
    Inv X pins σ (upd H a o) { s with heap := h', toks := t' } := I.un (Un.laid k hp (I.hok.fresh hp)) (I.hok.laid k hp new)
theorem Inv.write {x e : Addr} {o : HO} {t' : Nat} (I : Inv X pins σ H s) (mu : Mut (H x)) (he : e = x ∨ H e = some (.own x)) (k : ∀ b u, b ≠ e → s.heap.get? b = some u → h'.get? b = some u) (heo : ∃ u, h'.get? e = some u)
    (new : ObjOk X.prog X.w (upd H x o) h' x o) : Inv X pins σ (upd H x o) { s with heap := h', toks := t' } := I.un (Un.write mu he k heo) (I.hok.write mu he k heo new)
theorem Inv.pins_of {pins' : List (Addr × Obj)} (I : Inv X pins σ H s) (h : ∀ p ∈ pins', s.heap.get? p.1 = some p.2 ∧ H p.1 = none ∧ p.1 ≠ X.env.locals ∧ p.1 ∉ X.fs ∧ ∀ v, p.2.data ≠ .cell v) : Inv X pins' σ H s :=
  ⟨I.ok, I.os, I.bare, I.base, I.loc, I.cell, I.free, I.freeC, fun p hp => (List.mem_append.mp hp).elim (fun z => I.pin p (List.mem_append_left _ z)) (h p), I.hok, I.len⟩
theorem nodup_ix {N : List Str} (hN : N.Nodup) {i j : Nat} {x : Str} (a : N[i]? = some x) (b : N[j]? = some x) : i = j := by
  obtain ⟨h1, e1⟩ := List.getElem?_eq_some_iff.mp a
  obtain ⟨h2, e2⟩ := List.getElem?_eq_some_iff.mp b
  exact (List.getElem_inj hN).mp (e1.trans e2.symm)
theorem store_ok2 {M : Model} {A : Around} {E : Value → Shared → Prop} {i : Nat} {x : Str} {v : V} {u : Value} {Q : Unit → Shared → Prop} (I : Inv X pins σ H s) (hN : X.N.Nodup) (hi : X.N[i]? = some x) (hx : Loc X.env.scope x) (r : RelV v u)
    (h : ∀ s', Inv X pins (σ.set i (some v)) H s' → (∃ a, Heap.SameBut a s.heap s'.heap ∧ (a = X.env.locals ∨ X.env.cells.lookup x = some a)) → Q () s') (hf : X.fn x = true ∨ X.env.scope.names.lookup x = some .local := by first | exact .inl rfl | exact .inr rfl | assumption) : wpAny M A (storeName X.env x u) Q E s := by
  obtain ⟨m, hn, hl⟩ := id I.loc
  have hcls : (X.env.scope.kind == .class || (X.env.scope.kind == .module && X.env.locals != X.env.globals)) = false := by rw [I.ok.kind]; rfl
  have hiσ : i < σ.length := by rw [I.len]; exact (List.getElem?_eq_some_iff.mp hi).1
  have cne := I.cne
  have tracked : ∀ {a : Addr} {h' : Heap}, (∃ o, s.heap.get? a = some o ∧ H a = none) → Heap.SameBut a s.heap h' → HOk X.prog X.w H h' := fun {a h'} ha hs b ob e => by
    obtain ⟨_, _, hfree⟩ := ha
    refine (I.hok b ob e).stay (fun c w' hc q => (hs.2 c ?_).trans q) (fun _ q => q) fun _ _ q => q
    rintro rfl
    rcases hc with rfl | hc
    · rw [hfree] at e; cases e
    · rw [hfree] at hc; cases hc
  rcases hx with hk | hk
  · refine wpAny_storeName_local hk hn (fun h' hn' hs => ?_) hcls
    obtain ⟨oL, _, _, hoL, _⟩ := id hn
    refine h _ ⟨I.ok, I.os, I.bare, ⟨fun b o e n hb hx => ?_, fun b o e n hb hx => ?_, I.base.free, fun b o e hx => ?_, I.base.tups, I.base.frzs, I.base.tbls⟩, ⟨_, hn', fun j y v' e1 e2 e3 => ?_⟩, fun y c e => ?_, I.free, I.freeC, fun p hp => ?_, tracked ⟨oL, hoL, I.free⟩ hs, by simpa using I.len⟩ ⟨_, hs, .inl rfl⟩
    · exact (hs.2 b (Nat.ne_of_lt (Nat.lt_of_lt_of_le (Heap.lt_size e) I.ok.above))).trans (I.base.keep b o e n hb hx)
    · obtain ⟨sl, e1⟩ := I.base.slot b o e n hb hx
      exact ⟨sl, (hs.2 b (Nat.ne_of_lt (Nat.lt_of_lt_of_le (Heap.lt_size e) I.ok.above))).trans e1⟩
    · obtain ⟨o', e1⟩ := I.base.there b o e hx
      exact ⟨o', (hs.2 b (Nat.ne_of_lt (Nat.lt_of_lt_of_le (Heap.lt_size e) I.ok.above))).trans e1⟩
    · by_cases hj : j = i
      · subst hj
        rw [hi] at e1; cases e1
        rw [List.getElem?_set_self hiσ] at e2
        cases e2
        exact ⟨u, r, .inl ⟨hk, by simp⟩⟩
      · rw [List.getElem?_set_ne (Ne.symm hj)] at e2
        obtain ⟨u', r', q⟩ := hl j y v' e1 e2 e3
        refine ⟨u', r', ?_⟩
        rcases q with ⟨k, e⟩ | ⟨k, c, e, z⟩
        · refine .inl ⟨k, ?_⟩
          have : y ≠ x := fun e => hj (nodup_ix hN e1 (e ▸ hi))
          simp [this, e]
        · exact .inr ⟨k, c, e, z.sameBut hs (cne y c e)⟩
    · obtain ⟨w', z⟩ := I.cell y c e
      exact ⟨w', z.sameBut hs (cne y c e)⟩
    · obtain ⟨e, n, ne, nf, d⟩ := I.pin p hp
      exact ⟨(hs.2 p.1 ne).trans e, n, ne, nf, d⟩
  · have hfn : X.fn x = true := by
      rcases hf with z | z
      · exact z
      · rw [z] at hk; cases hk
    obtain ⟨c, hc⟩ := I.ok.has x (.inl hk)
    obtain ⟨w', z⟩ := I.cell x c hc
    refine wpAny_storeName_cell I.ok.kind hk hc z (fun h' hc' hs => ?_)
    obtain ⟨oc, hoc, hocd⟩ := id z
    refine h { s with heap := h' } ⟨I.ok, I.os, I.bare, ⟨fun b o e n hb hx => ?_, fun b o e n hb hx => ?_, I.base.free, fun b o e hx => ?_, I.base.tups, I.base.frzs, I.base.tbls⟩, ⟨m, hn.sameBut hs (Ne.symm (cne x c hc)), fun j y v' e1 e2 e3 => ?_⟩, fun y c' e => ?_, I.free, I.freeC, fun p hp => ?_, tracked ⟨oc, hoc, I.freeC x c hc⟩ hs, by simpa using I.len⟩ ⟨c, hs, .inr hc⟩
    · exact (hs.2 b (Nat.ne_of_lt (Nat.lt_of_lt_of_le (Heap.lt_size e) (I.ok.cab x c hfn hc)))).trans (I.base.keep b o e n hb hx)
    · obtain ⟨sl, e1⟩ := I.base.slot b o e n hb hx
      exact ⟨sl, (hs.2 b (Nat.ne_of_lt (Nat.lt_of_lt_of_le (Heap.lt_size e) (I.ok.cab x c hfn hc)))).trans e1⟩
    · obtain ⟨o', e1⟩ := I.base.there b o e hx
      exact ⟨o', (hs.2 b (Nat.ne_of_lt (Nat.lt_of_lt_of_le (Heap.lt_size e) (I.ok.cab x c hfn hc)))).trans e1⟩
    · by_cases hj : j = i
      · subst hj
        rw [hi] at e1; cases e1
        rw [List.getElem?_set_self hiσ] at e2
        cases e2
        exact ⟨u, r, .inr ⟨.inl hk, c, hc, hc'⟩⟩
      · rw [List.getElem?_set_ne (Ne.symm hj)] at e2
        obtain ⟨u', r', q⟩ := hl j y v' e1 e2 e3
        refine ⟨u', r', ?_⟩
        rcases q with q | ⟨k, c', e, z'⟩
        · exact .inl q
        · refine .inr ⟨k, c', e, z'.sameBut hs ?_⟩
          rintro rfl
          exact hj (nodup_ix hN e1 (I.ok.inj _ _ _ e hc ▸ hi))
    · by_cases hcc : c' = c
      · subst hcc; exact ⟨_, hc'⟩
      · obtain ⟨w2, z2⟩ := I.cell y c' e
        exact ⟨w2, z2.sameBut hs hcc⟩
    · obtain ⟨e, n, ne, nf, d⟩ := I.pin p hp
      refine ⟨(hs.2 p.1 ?_).trans e, n, ne, nf, d⟩
      intro q
      rw [q, hoc] at e
      have q' : oc = p.2 := Option.some.inj e
      exact d w' (by rw [← q']; exact hocd)
theorem store_ok {M : Model} {A : Around} {E : Value → Shared → Prop} {i : Nat} {x : Str} {v : V} {u : Value} {Q : Unit → Shared → Prop} (I : Inv X pins σ H s) (hN : X.N.Nodup) (hi : X.N[i]? = some x) (hx : Loc X.env.scope x) (r : RelV v u)
    (h : ∀ s', Inv X pins (σ.set i (some v)) H s' → Q () s') (hf : X.fn x = true ∨ X.env.scope.names.lookup x = some .local := by first | exact .inl rfl | exact .inr rfl | assumption) : wpAny M A (storeName X.env x u) Q E s :=
  store_ok2 I hN hi hx r (fun s' I' _ => h s' I') hf
theorem Inv.call' {s' : Shared} {ch : List Addr} (I : Inv X pins σ H s) (ho : s'.os = s.os) (u : Un (frs X.stack) ch H H' s.heap s'.heap) (hok : HOk X.prog X.w H' s'.heap) (hg : AllBare s'.gens)
    (hch : ∀ b ∈ ch, (b ∈ X.ex ∨ X.s₀.heap.objs.size ≤ b) ∧ b ≠ X.env.locals ∧ (∀ x c, X.env.cells.lookup x = some c → c ≠ b) ∧ ∀ p ∈ X.pn ++ pins, p.1 ≠ b) : Inv X pins σ H' s' := by
  obtain ⟨h', g', d', t', o'⟩ := s'
  have e : o' = s.os := ho
  subst e
  exact I.call (g' := g') (t' := t') (d' := d') u hok hg hch
end
abbrev XK := Value → Option Addr → Hp → Prop
abbrev St := List (Option V)
abbrev VK := V → Hp → Prop
abbrev TE := St → Hp → VK → Prop
abbrev TT := St → Hp → (Bool → Hp → Prop) → Prop
abbrev TA := St → Hp → (List V → Hp → Prop) → Prop
structure Ends where
  nx : St → Hp → Prop
  rt : VK
  bk : St → Hp → Prop := fun _ _ => False
  ct : St → Hp → Prop := fun _ _ => False
abbrev TS := Ends → St → Hp → Prop
def EP (X : Cx) (pins : List (Addr × Obj)) (σ : St) (Q : VK) (u : Value) (s' : Shared) : Prop := ∃ v H', Inv X pins σ H' s' ∧ RelV v u ∧ Q v H'
def TP (X : Cx) (pins : List (Addr × Obj)) (σ : St) (Q : Bool → Hp → Prop) (b : Bool) (s' : Shared) : Prop := ∃ H', Inv X pins σ H' s' ∧ Q b H'
def AP (X : Cx) (pins : List (Addr × Obj)) (σ : St) (Q : List V → Hp → Prop) (us : List Value) (s' : Shared) : Prop := ∃ vs H', Inv X pins σ H' s' ∧ Vals vs us ∧ Q vs H'
def SP (X : Cx) (pins : List (Addr × Obj)) (D : Ends) (f : Flow) (s' : Shared) : Prop :=
  match f with
  | .next => ∃ σ' H', Inv X pins σ' H' s' ∧ D.nx σ' H'
  | .brk => ∃ σ' H', Inv X pins σ' H' s' ∧ D.bk σ' H'
  | .cont => ∃ σ' H', Inv X pins σ' H' s' ∧ D.ct σ' H'
  | .ret u => ∃ v σ' H', Inv X pins σ' H' s' ∧ RelV v u ∧ D.rt v H'
def PE (X : Cx) (e : Expr) (t : TE) : Prop :=
  ∀ (pins : List (Addr × Obj)) (s : Shared) (σ : St) (H : Hp) (Q : VK), Inv X pins σ H s → t σ H Q → wpAny (model X.prog X.w) X.A (eval e X.env) (EP X pins σ Q) X.xe s
def PT (X : Cx) (e : Expr) (t : TT) : Prop :=
  ∀ (pins : List (Addr × Obj)) (s : Shared) (σ : St) (H : Hp) (Q : Bool → Hp → Prop), Inv X pins σ H s → t σ H Q → wpAny (model X.prog X.w) X.A (isTrue e X.env (eval e X.env)) (TP X pins σ Q) X.xe s
def PW (X : Cx) (e : Expr) (t : TT) : Prop :=
  ∀ (whole : Sem Value) (pins : List (Addr × Obj)) (s : Shared) (σ : St) (H : Hp) (Q : Bool → Hp → Prop), Inv X pins σ H s → t σ H Q → wpAny (model X.prog X.w) X.A (isTrue e X.env whole) (TP X pins σ Q) X.xe s
theorem PW.pt {X : Cx} {e : Expr} {t : TT} (h : PW X e t) : PT X e t := h _
def PA (X : Cx) (es : List Expr) (t : TA) : Prop :=
  ∀ (pos : Pos) (pins : List (Addr × Obj)) (s : Shared) (σ : St) (H : Hp) (Q : List V → Hp → Prop), Inv X pins σ H s → t σ H Q → wpAny (model X.prog X.w) X.A (spliced (backTo pos (starEach es X.env))) (AP X pins σ Q) X.xe s
def PS (X : Cx) (st : Stmt) (t : TS) : Prop :=
  ∀ (pins : List (Addr × Obj)) (s : Shared) (σ : St) (H : Hp) (D : Ends), Inv X pins σ H s → t D σ H → wpAny (model X.prog X.w) X.A (exec st X.env) (SP X pins D) X.xe s
def PSs (X : Cx) (st : List Stmt) (t : TS) : Prop :=
  ∀ (pins : List (Addr × Obj)) (s : Shared) (σ : St) (H : Hp) (D : Ends), Inv X pins σ H s → t D σ H → wpAny (model X.prog X.w) X.A (execs st X.env) (SP X pins D) X.xe s
theorem thn {α : Type} {t : Sem α} {Q Q' : α → Shared → Prop} {M : Model} {A : Around} {E : Value → Shared → Prop} {s : Shared} (h : wpAny M A t Q E s) (hQ : ∀ a s, Q a s → Q' a s) : wpAny M A t Q' E s := wpAny_mono h hQ fun _ _ x => x
end L2
namespace L2
open PySem PySem.Spec PyProof.Rows
section
variable {X : Cx}
def tVar (i : Nat) : TE := fun σ H Q => ∃ v, σ[i]? = some (some v) ∧ Q v H
def tC (v : V) : TE := fun _ H Q => Q v H
theorem pe_var {i : Nat} {x : Str} {pos : Pos} (hN : X.N[i]? = some x) (hv : Vis X.env.scope x) (hd : (x == ("__debug__" : Str)) = false := by decide) (hcd : (x == ("__classdict__" : Str)) = false := by decide) : PE X (.Name x pos) (tVar i) := by
  intro pins s σ H Q I h
  obtain ⟨v, e, h⟩ := h
  obtain ⟨m, hn, hl⟩ := I.loc
  obtain ⟨u, r, l⟩ := hl i x v hN e hv
  have fin : EP X pins σ Q u s := ⟨v, H, I, r, h⟩
  rcases l with ⟨hk, hm⟩ | ⟨hk, c, hc, hcell⟩
  · exact wpAny_Name (wpAny_loadName_local I.ok.kind hk hn hm fin) hd
  · rcases hk with hk | hk
    · exact wpAny_Name (wpAny_loadName_cell I.ok.kind hk hc hcell fin) hd
    · exact wpAny_Name (wpAny_loadName_free I.ok.kind hk hc hcell fin hcd) hd
theorem pe_int {i j pos} : PE X (.Constant (.int i) j pos) (tC (.int i)) := fun _ _ _ H _ I h => wpAny_Constant_int ⟨.int i, H, I.tok _, ⟨_, rfl⟩, h⟩
theorem pe_bl {b j pos} : PE X (.Constant (.bool b) j pos) (tC (.bl b)) := fun _ _ _ H _ I h => Constant_bool ⟨.bl b, H, I, rfl, h⟩
theorem pe_non {j pos} : PE X (.Constant .none j pos) (tC .non) := fun _ _ _ H _ I h => Constant_none ⟨.non, H, I, rfl, h⟩
theorem pe_str {x j pos} : PE X (.Constant (.str x) j pos) (tC (.str x)) := fun _ _ _ H _ I h => Calls.Constant_str ⟨.str x, H, I.tok _, ⟨_, rfl⟩, h⟩
def Gl (X : Cx) (x : Str) : Prop := X.env.kindOf x = some .globalImplicit
theorem ld_glob {E : Value → Shared → Prop} {pins : List (Addr × Obj)} {s : Shared} {σ : St} {H : Hp} {x : Str} {u : Value} {pos : Pos} {Q : Value → Shared → Prop} (I : Inv X pins σ H s) (hg : Gl X x) (hm : X.mg x = some u) (h : Q u s)
    (hd : (x == ("__debug__" : Str)) = false := by decide) : wpAny (model X.prog X.w) X.A (eval (.Name x pos) X.env) Q E s :=
  Calls.Name_function_global I.ok.kind hg (Calls.loadGlobal_global (by rw [I.ok.glob]; exact I.mod.glob.keeps I.bk) hm h) hd
theorem ld_blt {E : Value → Shared → Prop} {pins : List (Addr × Obj)} {s : Shared} {σ : St} {H : Hp} {x : Str} {u : Value} {pos : Pos} {Q : Value → Shared → Prop} (I : Inv X pins σ H s) (hg : Gl X x) (hm : X.mg x = none) (hv : bootBuiltins x = some u) (h : Q u s)
    (hn : x ≠ "__name__" := by decide) (hd : (x == ("__debug__" : Str)) = false := by decide) : wpAny (model X.prog X.w) X.A (eval (.Name x pos) X.env) Q E s := by
  obtain ⟨mb, h1, h2⟩ := I.mod.blt
  exact Calls.Name_function_global I.ok.kind hg (Calls.loadGlobal_builtin (by rw [I.ok.glob]; exact I.mod.glob.keeps I.bk) hm (by rw [I.ok.blt]; exact h1.keeps I.bk) ((h2 x hn).trans hv) h) hd
theorem pe_glob {x : Str} {v : V} {u : Value} {pos : Pos} (hg : Gl X x) (hm : X.mg x = some u) (r : RelV v u) (hd : (x == ("__debug__" : Str)) = false := by decide) : PE X (.Name x pos) (tC v) :=
  fun _ _ _ H _ I h => ld_glob I hg hm ⟨v, H, I, r, h⟩ hd
theorem pe_bltn {x : Str} {v : V} {u : Value} {pos : Pos} (hg : Gl X x) (hm : X.mg x = none) (hv : bootBuiltins x = some u) (r : RelV v u) (hn : x ≠ "__name__" := by decide) (hd : (x == ("__debug__" : Str)) = false := by decide) : PE X (.Name x pos) (tC v) :=
  fun _ _ _ H _ I h => ld_blt I hg hm hv ⟨v, H, I, r, h⟩ hn hd
variable {a b : Expr} {ta tb : TE} {pos : Pos}
def tB (t : TE) : TT := fun σ H Q => t σ H fun x H1 => ∃ c, x = .bl c ∧ Q c H1
theorem pt_val {e : Expr} {t : TE} (h : PE X e t) (he : ∀ whole, isTrue e X.env whole = (do let v ← whole; standAt e.pos; holding [v] (truthy v)) := by intro _; rfl) : PT X e (tB t) := by
  intro pins s σ H Q I hw
  refine isTrue_plain (thn (h pins s σ H _ I hw) fun v s1 ⟨x, H1, I1, r1, q1⟩ => ?_) (he _)
  obtain ⟨d, rfl, q⟩ := q1
  cases r1
  exact wpAny_truthy_bool ⟨H1, I1, q⟩
variable {tA tB' : TT} {rest : List Expr}
def tAnd (t u : TT) : TT := fun σ H Q => t σ H fun c H1 => if c = true then u σ H1 Q else Q false H1
def tOr (t u : TT) : TT := fun σ H Q => t σ H fun c H1 => if c = true then Q true H1 else u σ H1 Q
def tNot (t : TT) : TT := fun σ H Q => t σ H fun c H1 => Q (!c) H1
theorem pw_and1 (ha : PT X a tA) : PW X (.BoolOp .And [a] pos) tA := by
  intro wh pins s σ H Q I h
  refine isTrue_and (thn (ha pins s σ H Q I h) fun c s1 e => ?_)
  cases c with
  | true => exact isTrue_and_nil e
  | false => exact e
theorem pw_or1 (ha : PT X a tA) : PW X (.BoolOp .Or [a] pos) tA := by
  intro wh pins s σ H Q I h
  refine isTrue_or (thn (ha pins s σ H Q I h) fun c s1 e => ?_)
  cases c with
  | false => exact isTrue_or_nil e
  | true => exact e
theorem pw_and (ha : PT X a tA) (hb : PW X (.BoolOp .And (b :: rest) pos) tB') : PW X (.BoolOp .And (a :: b :: rest) pos) (tAnd tA tB') := by
  intro wh pins s σ H Q I h
  refine isTrue_and (thn (ha pins s σ H _ I h) fun c s1 ⟨H1, I1, q1⟩ => ?_)
  cases c with
  | true => exact hb wh pins s1 σ H1 Q I1 q1
  | false => exact ⟨H1, I1, q1⟩
theorem pw_or (ha : PT X a tA) (hb : PW X (.BoolOp .Or (b :: rest) pos) tB') : PW X (.BoolOp .Or (a :: b :: rest) pos) (tOr tA tB') := by
  intro wh pins s σ H Q I h
  refine isTrue_or (thn (ha pins s σ H _ I h) fun c s1 ⟨H1, I1, q1⟩ => ?_)
  cases c with
  | true => exact ⟨H1, I1, q1⟩
  | false => exact hb wh pins s1 σ H1 Q I1 q1
theorem pt_not (ha : PT X a tA) : PT X (.UnaryOp .Not a pos) (tNot tA) := by
  intro pins s σ H Q I h
  exact isTrue_not (ha pins s σ H (fun c H1 => Q (!c) H1) I h)
def tAndV (ta tb : TE) : TE := fun σ H Q => ta σ H fun x H1 => ∃ c, x = .bl c ∧ if c = true then tb σ H1 Q else Q (.bl false) H1
def tNotV (ta : TE) : TE := fun σ H Q => ta σ H fun x H1 => ∃ c, x = .bl c ∧ Q (.bl (!c)) H1
theorem pe_one {op} {t : TE} (h : PE X a t) : PE X (.BoolOp op [a] pos) t := fun pins s σ H Q I hw => BoolOp_one (h pins s σ H Q I hw)
theorem pe_and (ha : PE X a ta) (hb : PE X (.BoolOp .And (b :: rest) pos) tb) : PE X (.BoolOp .And (a :: b :: rest) pos) (tAndV ta tb) := by
  intro pins s σ H Q I h
  refine BoolOp_and (thn (ha pins s σ H _ I h) fun v s1 ⟨x, H1, I1, r1, q1⟩ => ?_)
  obtain ⟨c, rfl, q1⟩ := q1
  cases r1
  refine wpAny_truthy_bool ?_
  cases c with
  | true => exact hb pins s1 σ H1 Q I1 q1
  | false => exact ⟨.bl false, H1, I1, rfl, q1⟩
theorem pe_not (ha : PE X a ta) : PE X (.UnaryOp .Not a pos) (tNotV ta) := by
  intro pins s σ H Q I h
  refine UnaryOp_ (thn (ha pins s σ H _ I h) fun v s1 ⟨x, H1, I1, r1, q1⟩ => ?_)
  obtain ⟨c, rfl, q1⟩ := q1
  cases r1
  exact not_of (wpAny_truthy_bool ⟨.bl (!c), H1, I1, rfl, q1⟩)
end
end L2
namespace L2
open PySem PySem.Spec PyProof.Rows
def SqL (K : PySem.W.Frag) (H : Hp) (a : Addr) (xs : List V) : Prop :=
  Rd H a (.lst xs) ∨
    ∃ (o : Obj) (its : Array Value) (n : Nat), K.lookup a = some o ∧ o.cls = .type "list" ∧ o.dict = none ∧ o.data = .seq its n ∧ its.size ≤ sizeLine ∧ Vals xs its.toList
def SqT (K : PySem.W.Frag) (H : Hp) (a : Addr) (xs : List V) : Prop :=
  Rd H a (.tup xs) ∨
    ∃ (o : Obj) (its : Array Value) (n : Nat), K.lookup a = some o ∧ o.cls = .type "tuple" ∧ o.data = .seq its n ∧ its.size ≤ sizeLine ∧ Vals xs its.toList
def absV : Value → Option V
  | .none => some .non
  | .bool b => some (.bl b)
  | .int i _ => some (.int i)
  | .str x _ => some (.str x)
  | .bytes b _ => some (.byt b)
  | .float b _ => some (.flt b)
  | .ref a => some (.ref a)
  | .type n => some (.ty n)
  | _ => none
theorem RelV.abs {x : V} {u : Value} (r : RelV x u) : absV u = some x := by
  cases x with
  | non => cases r; rfl
  | bl _ => cases r; rfl
  | int _ => obtain ⟨t, rfl⟩ := r; rfl
  | str _ => obtain ⟨t, rfl⟩ := r; rfl
  | byt _ => obtain ⟨t, rfl⟩ := r; rfl
  | flt _ => obtain ⟨t, rfl⟩ := r; rfl
  | ref _ => cases r; rfl
  | ty _ => cases r; rfl
theorem RelV.inj {x y : V} {u : Value} (r : RelV x u) (q : RelV y u) : x = y := Option.some.inj (r.abs.symm.trans q.abs)
theorem Vals.inj : ∀ {xs ys : List V} {us : List Value}, Vals xs us → Vals ys us → xs = ys
  | _, _, _, .nil, .nil => rfl
  | _, _, _, .cons r t, .cons r' t' => by rw [r.inj r', Vals.inj t t']
section
variable {X : Cx} {pins : List (Addr × Obj)} {σ : St} {H : Hp} {s : Shared} {a : Addr} {xs ys : List V}
theorem SqL.of {K : PySem.W.Frag} (h : H a = some (.lst xs)) : SqL K H a xs := .inl (.inl h)
theorem SqT.of {K : PySem.W.Frag} (h : H a = some (.tup xs)) : SqT K H a xs := .inl (.inl h)
theorem Inv.list (I : Inv X pins σ H s) (h : SqL X.K H a xs) : ∃ its : List Value, Vals xs its ∧ PlainL s.heap a its.toArray ∧ xs.length ≤ sizeLine := by
  rcases h with h | ⟨o, its, n, hk, hc, hd, hs, hz, r⟩
  · obtain ⟨z, its, n, r, e⟩ := h.ok I.hok
    exact ⟨its, r, ⟨_, n, e, rfl, rfl, rfl⟩, z⟩
  · refine ⟨its.toList, r, ⟨o, n, I.kIn a o hk, hc, hd, by simpa using hs⟩, ?_⟩
    have e := r.length
    simp only [Array.length_toList] at e
    omega
theorem Inv.tuple (I : Inv X pins σ H s) (h : SqT X.K H a xs) : ∃ its : List Value, Vals xs its ∧ IsTup s.heap a its.toArray ∧ xs.length ≤ sizeLine := by
  rcases h with h | ⟨o, its, n, hk, hc, hs, hz, r⟩
  · obtain ⟨z, its, r, p⟩ := h.ok I.hok
    exact ⟨its, r, p, z⟩
  · refine ⟨its.toList, r, ⟨o, I.kIn a o hk, hc, n, by simpa using hs⟩, ?_⟩
    have e := r.length
    simp only [Array.length_toList] at e
    omega
theorem Inv.list_inj (I : Inv X pins σ H s) (h : SqL X.K H a xs) (h' : SqL X.K H a ys) : xs = ys := by
  obtain ⟨its, r, ⟨o, n, e, _, _, d⟩, _⟩ := I.list h
  obtain ⟨its', r', ⟨o', n', e', _, _, d'⟩, _⟩ := I.list h'
  rw [e] at e'; cases e'
  rw [d] at d'
  injection d' with d1 _
  have : its = its' := by simpa using congrArg Array.toList d1
  subst this
  exact r.inj r'
end
abbrev Cx.wish (X : Cx) (E : Value → Shared → Prop) : Cx := { X with xe := E }
abbrev Cx.nox (X : Cx) : Cx := X.wish fun _ _ => False
theorem Cx.Ok.wish {X : Cx} (ok : X.Ok) (E : Value → Shared → Prop) : (X.wish E).Ok :=
  ⟨ok.mod, ok.kind, ok.glob, ok.blt, ok.above, ok.inj, ok.has, ok.cab, ok.hd, ok.frames, ok.stk, ok.exf, ok.bs, ok.bsz, ok.noex, ok.exfs, ok.funs, ok.frf⟩
theorem Cx.Ok.unwish {X : Cx} {E : Value → Shared → Prop} (ok : (X.wish E).Ok) : X.Ok :=
  ⟨ok.mod, ok.kind, ok.glob, ok.blt, ok.above, ok.inj, ok.has, ok.cab, ok.hd, ok.frames, ok.stk, ok.exf, ok.bs, ok.bsz, ok.noex, ok.exfs, ok.funs, ok.frf⟩
section
variable {X : Cx} {pins : List (Addr × Obj)} {σ : St} {H : Hp} {s : Shared} {E : Value → Shared → Prop}
theorem Inv.wish (I : Inv X pins σ H s) (E : Value → Shared → Prop) : Inv (X.wish E) pins σ H s := ⟨I.ok.wish E, I.os, I.bare, I.base, I.loc, I.cell, I.free, I.freeC, I.pin, I.hok, I.len⟩
theorem Inv.unwish (I : Inv (X.wish E) pins σ H s) : Inv X pins σ H s := ⟨I.ok.unwish, I.os, I.bare, I.base, I.loc, I.cell, I.free, I.freeC, I.pin, I.hok, I.len⟩
theorem SP.unwish {D : Ends} {f : Flow} {s' : Shared} (h : SP (X.wish E) pins D f s') : SP X pins D f s' := by
  cases f with
  | next => obtain ⟨σ', H', I, q⟩ := h; exact ⟨σ', H', I.unwish, q⟩
  | brk => obtain ⟨σ', H', I, q⟩ := h; exact ⟨σ', H', I.unwish, q⟩
  | cont => obtain ⟨σ', H', I, q⟩ := h; exact ⟨σ', H', I.unwish, q⟩
  | ret u => obtain ⟨v, σ', H', I, r, q⟩ := h; exact ⟨v, σ', H', I.unwish, r, q⟩
theorem PSs.nox {st : List Stmt} {t : TS} (h : PSs X.nox st t) : PSs X st t := fun pins s σ H D I hw =>
  wpAny_mono (h pins s σ H D (I.wish _) hw) (fun _ _ q => q.unwish) fun _ _ z => False.elim z
end
section
variable {X : Cx} {st : Stmt} {rest : List Stmt} {t u : TS} {e : Expr} {te : TE} {pos : Pos}
def tNext : TS := fun D σ H => D.nx σ H
def tSeq (t u : TS) : TS := fun D σ H => t { D with nx := u D } σ H
theorem pss_nil : PSs X [] tNext := fun _ _ σ H _ I h => wpAny_execs_nil ⟨σ, H, I, h⟩
theorem pss_cons (h1 : PS X st t) (h2 : PSs X rest u) : PSs X (st :: rest) (tSeq t u) := by
  intro pins s σ H D I h
  refine wpAny_execs_cons (thn (h1 pins s σ H { D with nx := u D } I h) fun f s1 q => ?_)
  cases f with
  | next =>
    obtain ⟨σ', H', I', q⟩ := q
    exact h2 pins s1 σ' H' D I' q
  | ret v => exact q
  | brk => exact q
  | cont => exact q
theorem pss_one (h1 : PS X st t) : PSs X [st] t := by
  intro pins s σ H D I h
  refine wpAny_execs_cons (thn (h1 pins s σ H D I h) fun f s1 q => ?_)
  cases f with
  | next => exact wpAny_execs_nil q
  | ret v => exact q
  | brk => exact q
  | cont => exact q
theorem Inv.quiet {pins : List (Addr × Obj)} {σ : St} {H : Hp} {s : Shared} (I : Inv X pins σ H s) : interactive X.env = false := by simp [interactive, I.ok.kind]
def tDrop (te : TE) : TS := fun D σ H => te σ H fun _ H1 => D.nx σ H1
theorem ps_expr (he : PE X e te) (hs : swapsWith e none pos.line X.env = pure false := by rfl) : PS X (.Expr e pos) (tDrop te) := by
  intro pins s σ H D I h
  exact wpAny_Expr_any (thn (he pins s σ H _ I h) fun v s1 ⟨x, H1, I1, r1, q1⟩ => ⟨σ, H1, I1, q1⟩) I.quiet hs
def tRet (te : TE) : TS := fun D σ H => te σ H D.rt
theorem ps_ret (he : PE X e te) : PS X (.Return (some e) pos) (tRet te) := by
  intro pins s σ H D I h
  exact wpAny_Return_some (thn (he pins s σ H _ I h) fun v s1 ⟨x, H1, I1, r1, q1⟩ => ⟨x, σ, H1, I1, r1, q1⟩)
def tIfS (c : TT) (t u : TS) : TS := fun D σ H => c σ H fun b H1 => if b = true then t D σ H1 else u D σ H1
theorem ps_if {c : Expr} {a b : List Stmt} {tc : TT} (hc : PT X c tc) (ha : PSs X a t) (hb : PSs X b u) : PS X (.If c a b pos) (tIfS tc t u) := by
  intro pins s σ H D I h
  refine wpAny_If (thn (hc pins s σ H _ I h) fun d s1 ⟨H1, I1, q1⟩ => ?_)
  cases d with
  | true => exact ha pins s1 σ H1 D I1 q1
  | false => exact hb pins s1 σ H1 D I1 q1
end
abbrev TG := V → St → Hp → (St → Hp → Prop) → Prop
abbrev TGs := List V → St → Hp → (St → Hp → Prop) → Prop
def PG (X : Cx) (target : Expr) (t : TG) : Prop :=
  ∀ (pins : List (Addr × Obj)) (s : Shared) (σ : St) (H : Hp) (v : V) (u : Value) (Q : St → Hp → Prop), Inv X pins σ H s → RelV v u → t v σ H Q →
    wpAny (model X.prog X.w) X.A (assign target X.env u) (fun _ s' => ∃ σ' H', Inv X pins σ' H' s' ∧ Q σ' H') X.xe s
def PGs (X : Cx) (ts : List Expr) (t : TGs) : Prop :=
  ∀ (pins : List (Addr × Obj)) (s : Shared) (σ : St) (H : Hp) (vs : List V) (us : List Value) (Q : St → Hp → Prop), Inv X pins σ H s → Vals vs us → t vs σ H Q →
    wpAny (model X.prog X.w) X.A (assignInOrder ((assignEach ts X.env).map (·.2)) us) (fun _ s' => ∃ σ' H', Inv X pins σ' H' s' ∧ Q σ' H') X.xe s
section
variable {X : Cx} {pos : Pos}
def gName (i : Nat) : TG := fun v σ H Q => Q (σ.set i (some v)) H
theorem pg_name {i : Nat} {x : Str} (hN : X.N.Nodup) (hi : X.N[i]? = some x) (hx : Loc X.env.scope x) (hf : X.fn x = true ∨ X.env.scope.names.lookup x = some .local := by first | exact .inl rfl | exact .inr rfl | assumption) : PG X (.Name x pos) (gName i) := by
  intro pins s σ H v u Q I r h
  exact wpAny_assign_Name (store_ok I hN hi hx r (fun s' I' => ⟨_, H, I', h⟩) hf)
def gNil : TGs := fun vs σ H Q => vs = [] ∧ Q σ H
def gCons (t : TG) (u : TGs) : TGs := fun vs σ H Q => ∃ v r, vs = v :: r ∧ t v σ H fun σ' H' => u r σ' H' Q
theorem pgs_nil : PGs X [] gNil := by
  intro pins s σ H vs us Q I r h
  obtain ⟨e, h⟩ := h
  subst e
  cases r
  exact assignInOrder_nil ⟨σ, H, I, h⟩
theorem pgs_cons {e : Expr} {es : List Expr} {t : TG} {u : TGs} (h1 : PG X e t) (h2 : PGs X es u)
    (hs : (assignEach (e :: es) X.env).map (·.2) = assign e X.env :: (assignEach es X.env).map (·.2) := by rfl) : PGs X (e :: es) (gCons t u) := by
  intro pins s σ H vs us Q I r h
  obtain ⟨v, vr, e1, h⟩ := h
  subst e1
  cases r with
  | cons r rr =>
    rw [hs]
    refine assignInOrder_cons (thn (h1 pins s σ H _ _ _ I r h) fun _ s1 ⟨σ1, H1, I1, q1⟩ => ?_)
    exact h2 pins s1 σ1 H1 _ _ Q I1 rr q1
def gTup (K : PySem.W.Frag) (n : Nat) (t : TGs) : TG := fun v σ H Q => ∃ a xs, v = .ref a ∧ SqT K H a xs ∧ xs.length = n ∧ t xs σ H Q
theorem pg_tup {es : List Expr} {k : Nat} {t : TGs} {n : Nat} (hc : X.calm = true) (h : PGs X es t)
    (hn : (assignEach es X.env).length = n := by rfl) (hst : (assignEach es X.env).findIdx? (·.1) = none := by rfl) : PG X (.Tuple es k pos) (gTup X.K n t) := by
  intro pins s σ H v u Q I r hw
  obtain ⟨a, xs, e1, hq, hl, hw⟩ := hw
  subst e1
  cases r
  obtain ⟨its, rv, ht, hz⟩ := I.tuple hq
  refine assign_Tuple_tuple (I.ok.hd hc) ht (by simp [hn, ← hl, rv.length]) hst fun h' hx => ?_
  have I1 : Inv X pins σ H { s with heap := h' } := I.kept (t' := s.toks) fun b o e => hx b o (Nat.ne_of_lt (Heap.lt_size e)) e
  exact h pins _ σ H xs _ Q I1 (by simpa using rv) hw
def tAsg (te : TE) (g : TG) : TS := fun D σ H => te σ H fun x H1 => g x σ H1 D.nx
theorem ps_asg {tg e : Expr} {te : TE} {g : TG} (he : PE X e te) (hg : PG X tg g) (hs : swapsWithSole [tg] e pos.line X.env = pure false := by rfl) (hw : swappedStores [tg] e X.env = pure none := by rfl)
    (h1 : (assignEach [tg] X.env).map (·.2) = [assign tg X.env] := by rfl) : PS X (.Assign [tg] e pos) (tAsg te g) := by
  intro pins s σ H D I h
  refine wpAny_Assign_stores (thn (he pins s σ H _ I h) fun v s1 ⟨x, H1, I1, r1, q1⟩ => ?_) hs hw
  rw [h1]
  exact thn (hg pins s1 σ H1 x v _ I1 r1 q1) fun _ s2 q => q
theorem ps_set {i : Nat} {x : Str} {e : Expr} {te : TE} {pos' : Pos} (hN : X.N.Nodup) (hi : X.N[i]? = some x) (hx : Loc X.env.scope x) (he : PE X e te) (hs : swapsWith e (some (.Name x pos')) pos.line X.env = pure false := by rfl) (hf : X.fn x = true ∨ X.env.scope.names.lookup x = some .local := by first | exact .inl rfl | exact .inr rfl | assumption) :
    PS X (.Assign [.Name x pos'] e pos) (tAsg te (gName i)) := by
  intro pins s σ H D I h
  refine wpAny_Assign_Name (thn (he pins s σ H _ I h) fun v s1 ⟨y, H1, I1, r1, q1⟩ => ?_) hs
  exact store_ok I1 hN hi hx r1 (fun s2 I2 => ⟨_, H1, I2, q1⟩) hf
end
section
variable {X : Cx} {pos : Pos}
end
structure It where
  go : Nat → Hp → Prop
  yld : Nat → Hp → V → Hp → Prop
  stop : Nat → Hp → Prop
def FpOk (X : Cx) (pins : List (Addr × Obj)) (H : Hp) (b : Addr) : Prop :=
  H b = none ∧ b ≠ X.env.locals ∧ b ∉ X.fs ∧ (b ∈ X.ex ∨ X.s₀.heap.objs.size ≤ b) ∧ (∀ x c, X.env.cells.lookup x = some c → c ≠ b) ∧ ∀ p ∈ X.pn ++ pins, p.1 ≠ b
theorem Inv.fpOk {X : Cx} {pins : List (Addr × Obj)} {σ : St} {H H' : Hp} {s : Shared} {b : Addr} (I : Inv X pins σ H s) (hb : s.heap.objs.size ≤ b) (hn : H' b = none) : FpOk X pins H' b := by
  refine ⟨hn, Nat.ne_of_gt (Nat.lt_of_lt_of_le I.lt hb), I.nofs hb, .inr (Nat.le_trans I.sz hb), fun x c e z => ?_, fun p hp z => ?_⟩
  · obtain ⟨v, q⟩ := I.cell x c e
    exact absurd (Nat.lt_of_lt_of_le q.lt (by rw [z]; exact hb)) (Nat.lt_irrefl _)
  · exact absurd (Nat.lt_of_lt_of_le (Heap.lt_size (I.pin p hp).1) (by rw [z]; exact hb)) (Nat.lt_irrefl _)
structure Turn (P : Program) (w : World) (K : PySem.W.Frag) (tg : Expr) (J : It) (fp : List Addr) (it : Addr) (tn : Nat → Heap → Prop) : Prop where
  mem : it ∈ fp
  obj : ∀ i h, tn i h → ∀ b ∈ fp, ∃ o, h.get? b = some o ∧ ∀ v, o.data ≠ .cell v
  keep : ∀ i h h', tn i h → (∀ b ∈ fp, ∀ o, h.get? b = some o → h'.get? b = some o) → tn i h'
  item : ∀ (X : Cx), X.prog = P → X.w = w → X.K = K → X.calm = true → ∀ (i : Nat) (pins : List (Addr × Obj)) (s : Shared) (σ : St) (H : Hp) (E : Value → Shared → Prop), Inv X pins σ H s → (∀ b ∈ fp, FpOk X pins H b) → tn i s.heap → J.go i H →
    wpAny (model P w) X.A (pyNext (.ref it)) (fun r s1 => ∃ u, r = some u ∧
      wpAny (model P w) X.A (letOwnedTupleGo tg (.ref it) u) (fun _ s2 => ∃ x H', Inv X pins σ H' s2 ∧ RelV x u ∧ J.yld i H x H' ∧ tn (i + 1) s2.heap ∧ ∀ b ∈ fp, H' b = none) E s1) E s
  done : ∀ (X : Cx), X.prog = P → X.w = w → X.K = K → X.calm = true → ∀ (i : Nat) (pins : List (Addr × Obj)) (s : Shared) (σ : St) (H : Hp) (E : Value → Shared → Prop), Inv X pins σ H s → (∀ b ∈ fp, FpOk X pins H b) → tn i s.heap → J.stop i H →
    wpAny (model P w) X.A (pyNext (.ref it)) (fun r s1 => r = none ∧ Inv X pins σ H s1) E s
  self : ∀ (A : Around) (i : Nat) (s : Shared) (Q : Value → Shared → Prop) (E : Value → Shared → Prop), tn i s.heap → Q (.ref it) s → wpAny (model P w) A (pyIter (.ref it)) Q E s
abbrev TI := St → Hp → (It → Hp → Prop) → Prop
def PIE (X : Cx) (pins : List (Addr × Obj)) (σ : St) (tg : Expr) (R : It → Hp → Prop) (itv : Value) (s2 : Shared) : Prop :=
  ∃ (it : Addr) (fp : List Addr) (tn : Nat → Heap → Prop) (J : It) (H' : Hp), itv = .ref it ∧ Inv X pins σ H' s2 ∧ Turn X.prog X.w X.K tg J fp it tn ∧ tn 0 s2.heap ∧ (∀ b ∈ fp, FpOk X pins H' b) ∧ R J H'
def PI (X : Cx) (tg iter : Expr) (wi : TI) : Prop :=
  ∀ (pins : List (Addr × Obj)) (s : Shared) (σ : St) (H : Hp) (R : It → Hp → Prop), Inv X pins σ H s → wi σ H R →
    wpAny (model X.prog X.w) X.A (eval iter X.env) (fun v s1 => wpAny (model X.prog X.w) X.A (pyIter v) (PIE X pins σ tg R) X.xe s1) X.xe s
theorem go_of {M : Model} {A : Around} {E : Value → Shared → Prop} {s : Shared} {tg : Expr} {it : Addr} {u : Value} {o : Obj} {n : String} {vs : Array Value} {Q : Unit → Shared → Prop} (ho : s.heap.get? it = some o) (hc : o.cls = .type n) (hd : o.data = .fields vs)
    (hn : ["enumerate", "zip", "dict_itemiterator", "dict_reverseitemiterator", "odict_iterator", "itertools.zip_longest", "itertools.pairwise"].contains n = false) (hQ : Q () s) : wpAny M A (letOwnedTupleGo tg (.ref it) u) Q E s := by
  unfold letOwnedTupleGo
  cases tg <;> first
    | exact wpAny_pure hQ
    | (cases u <;> first
        | exact wpAny_pure hQ
        | (refine wpAny_bind (wpAny_load ho ?_)
           rw [hc, hd]
           show wpAny M A (if (["enumerate", "zip", "dict_itemiterator", "dict_reverseitemiterator", "odict_iterator", "itertools.zip_longest", "itertools.pairwise"].contains n && vs[0]? == some (rawInt _)) = true then _ else _) Q E s
           rw [if_neg (by intro h; rw [hn, Bool.false_and] at h; cases h)]
           exact wpAny_pure hQ))
def Itl (K : PySem.W.Frag) (a : Addr) : It :=
  ⟨fun i H => ∃ xs x, SqL K H a xs ∧ xs[i]? = some x, fun i H x H' => H' = H ∧ ∀ xs, SqL K H a xs → xs[i]? = some x, fun i H => ∃ xs, SqL K H a xs ∧ xs.length ≤ i⟩
def Itr (lo : Int) (n : Nat) : It := ⟨fun i _ => i < n, fun i H x H' => H' = H ∧ x = .int (lo + i), fun i _ => n ≤ i⟩
theorem turn_list {P : Program} {w : World} {K : PySem.W.Frag} {tg : Expr} (a it : Addr) : Turn P w K tg (Itl K a) [it] it (fun i h => h.IsListIter it a i) where
  mem := by simp
  obj := fun i h st b hb => by
    have e : b = it := by simpa using hb
    subst e
    obtain ⟨o, e, c, d⟩ := st
    exact ⟨o, e, fun v z => by rw [d] at z; cases z⟩
  keep := fun i h h' st k => st.at fun o e => k it (by simp) o e
  item := by
    intro X hP hw hK hc i pins s σ H E I hf st hg
    subst hP hw hK
    obtain ⟨xs, x, hq, hx⟩ := hg
    obtain ⟨its, rv, p, hz⟩ := I.list hq
    obtain ⟨u, hu, ru⟩ := rv.get hx
    obtain ⟨f0, f1, f2, f3, f4, f5⟩ := hf it (by simp)
    refine wpAny_pyNext_list_item st p.isList (x := u) (by simpa using hu) fun h' st' sb => ?_
    have I1 : Inv X pins σ H { s with heap := h' } := I.turned (t' := s.toks) (fun b o hb e => (sb.2 b hb).trans e) f0 f1 f3 f4 f5
    obtain ⟨o, e, c, d⟩ := id st'
    exact ⟨u, rfl, go_of (s := { s with heap := h' }) e c d (by decide) ⟨x, H, I1, ru, ⟨rfl, fun ys hy => by rw [I.list_inj hy hq]; exact hx⟩, st', fun b hb => (hf b hb).1⟩⟩
  done := by
    intro X hP hw hK hc i pins s σ H E I hf st hg
    subst hP hw hK
    obtain ⟨xs, hq, hx⟩ := hg
    obtain ⟨its, rv, p, hz⟩ := I.list hq
    obtain ⟨f0, f1, f2, f3, f4, f5⟩ := hf it (by simp)
    have hl := rv.length
    exact wpAny_pyNext_list_end (I.ok.hd hc) st p.isList (by simp; omega) fun h' eb => ⟨rfl, I.turned (t' := s.toks) (fun b o hb e => eb b o hb e) f0 f1 f3 f4 f5⟩
  self := fun _ _ _ _ _ st h => wpAny_pyIter_listiter st h
theorem turn_range {P : Program} {w : World} {K : PySem.W.Frag} {tg : Expr} (it : Addr) (lo : Int) (n : Nat) : Turn P w K tg (Itr lo n) [it] it (fun i h => IsRangeIter h it (lo + (i : Nat) * 1) ((n : Int) - (i : Nat)) 1) where
  mem := by simp
  obj := fun i h st b hb => by
    have e : b = it := by simpa using hb
    subst e
    exact ⟨_, st, fun v z => by
      have z' : Data.fields _ = Data.cell v := z
      cases z'⟩
  keep := fun i h h' st k => k it (by simp) _ st
  item := by
    intro X hP hw hK hc i pins s σ H E I hf st hg
    subst hP hw hK
    obtain ⟨f0, f1, f2, f3, f4, f5⟩ := hf it (by simp)
    have W := Walks.range (prog := X.prog) (w := X.w) (I.ok.hd hc) it lo 1 n
    refine W.item i s _ _ hg st fun v h' tk hv st' kk => ?_
    obtain ⟨t, rfl⟩ := hv
    have I1 : Inv X pins σ H { s with heap := h', toks := tk } := I.turned (fun b o hb e => kk b o (by simpa using hb) e) f0 f1 f3 f4 f5
    refine ⟨_, rfl, go_of (s := { s with heap := h', toks := tk }) (n := "range_iterator") st' rfl rfl (by decide) ⟨.int (lo + i), H, I1, ⟨t, ?_⟩, ⟨rfl, rfl⟩, st', fun b hb => (hf b hb).1⟩⟩
    rw [Int.mul_one]
  done := by
    intro X hP hw hK hc i pins s σ H E I hf st hg
    subst hP hw hK
    obtain ⟨f0, f1, f2, f3, f4, f5⟩ := hf it (by simp)
    exact wpAny_pyNext_range_end (I.ok.hd hc) st (by have : n ≤ i := hg; omega) fun h' eb => ⟨rfl, I.turned (t' := s.toks) (fun b o hb e => eb b o hb e) f0 f1 f3 f4 f5⟩
  self := fun _ _ _ _ _ st h => wpAny_pyIter_rangeiter st h
end L2
namespace L2
open PySem PySem.Spec PyProof.Rows
section
variable {X : Cx} {tg : Expr}
def iList (K : PySem.W.Frag) (tl : TE) : TI := fun σ H R => tl σ H fun x H1 => ∃ a, x = .ref a ∧ (∃ xs, SqL K H1 a xs) ∧ R (Itl K a) H1
theorem pi_list {l : Expr} {tl : TE} (hl : PE X l tl) : PI X tg l (iList X.K tl) := by
  intro pins s σ H R I h
  refine thn (hl pins s σ H _ I h) fun v s1 ⟨x, H1, I1, r1, q1⟩ => ?_
  obtain ⟨a, e, ⟨xs, hq⟩, q⟩ := q1
  subst e
  cases r1
  obtain ⟨its, rv, p, hz⟩ := I1.list hq
  refine wpAny_pyIter_list p.isList ?_
  refine ⟨s1.heap.objs.size, [s1.heap.objs.size], _, _, H1, rfl, I1.kept (t' := s1.toks) fun b o e => Heap.get?_push_of_some _ e, turn_list a _, ⟨_, Heap.get?_push_size _ rfl, rfl, rfl⟩, fun b hb => ?_, q⟩
  have e : b = s1.heap.objs.size := by simpa using hb
  subst e
  exact I1.fpOk (Nat.le_refl _) (I1.hok.fresh (Nat.le_refl _))
theorem range_it {pins : List (Addr × Obj)} {σ : St} {H : Hp} {s : Shared} {R : It → Hp → Prop} {E : Value → Shared → Prop} {lo hi : Int} {t u v : Tok} {tk : Nat} (I : Inv X pins σ H s) (h1 : -(2 ^ 62) ≤ lo) (h2 : lo < 2 ^ 62) (h3 : -(2 ^ 62) ≤ hi) (h4 : hi < 2 ^ 62)
    (q : R (Itr lo (hi - lo).toNat) H) : wpAny (model X.prog X.w) X.A (pyIter (.ref s.heap.objs.size)) (PIE X pins σ tg R) E { s with heap := s.heap.push { cls := .type "range", data := .fields #[.int lo t, .int hi u, .int 1 v] }, toks := tk } := by
  refine wpAny_pyIter_range (IsRange.new ..) (small_one h1 h2 h3 h4) ?_
  have I1 : Inv X pins σ H { s with heap := s.heap.push { cls := .type "range", data := .fields #[.int lo t, .int hi u, .int 1 v] }, toks := tk } := I.kept fun b o e => Heap.get?_push_of_some _ e
  refine ⟨(s.heap.push { cls := .type "range", data := .fields #[.int lo t, .int hi u, .int 1 v] }).objs.size, [(s.heap.push { cls := .type "range", data := .fields #[.int lo t, .int hi u, .int 1 v] }).objs.size], _, _, H, rfl,
    I1.kept (t' := tk) fun b o e => Heap.get?_push_of_some _ e, turn_range _ lo (hi - lo).toNat, ?_, fun b hb => ?_, q⟩
  · have e1 : lo + ((0 : Nat) : Int) * 1 = lo := by simp
    have e2 : (((hi - lo).toNat : Nat) : Int) - ((0 : Nat) : Int) = Builtin.Range.rangeSize lo hi 1 := by rw [rangeSize_one]; split <;> omega
    show IsRangeIter _ _ (lo + ((0 : Nat) : Int) * 1) ((((hi - lo).toNat : Nat) : Int) - ((0 : Nat) : Int)) 1
    rw [e1, e2]
    exact Heap.get?_push_size _ rfl
  · have e : b = (s.heap.push { cls := .type "range", data := .fields #[.int lo t, .int hi u, .int 1 v] }).objs.size := by simpa using hb
    subst e
    exact I1.fpOk (Nat.le_refl _) (I1.hok.fresh (Nat.le_refl _))
def iRng1 (ta : TA) : TI := fun σ H R => ta σ H fun vs H1 => ∃ j : Int, vs = [.int j] ∧ -(2 ^ 62) ≤ j ∧ j < 2 ^ 62 ∧ R (Itr 0 j.toNat) H1
theorem pi_range1 {a : Expr} {ta : TA} {p pos : Pos} (hg : Gl X "range") (hm : X.mg "range" = none) (ha : PA X [a] ta) (hs : starEach [a] X.env = [(false, eval a X.env)] := by rfl) : PI X tg (.Call (.Name "range" p) [a] [] pos) (iRng1 ta) := by
  intro pins s σ H R I h
  refine Call_ (ld_blt I hg hm boot_range (PyProof.Rows.callWith_type1 (thn (ha pos pins s σ H _ I h) fun us s1 ⟨vs, H1, I1, r1, q1⟩ => ?_) hs rfl))
  obtain ⟨j, e, q1, q2, q⟩ := q1
  subst e
  cases r1 with
  | cons r rr =>
    cases rr
    obtain ⟨t, rfl⟩ := r
    exact call_range_1 (range_it I1 (by omega) (by omega) q1 q2 (by simpa using q))
def tFor (wi : TI) (g : TG) (tb : TS) : TS := fun D σ H => wi σ H fun J H1 => ∃ W : Nat → Nat → St → Hp → Prop, (∃ m, W 0 m σ H1) ∧ ∀ i m σ H, W i m σ H →
  (J.stop i H ∧ D.nx σ H) ∨ (J.go i H ∧ ∃ N : St → Hp → Prop, (∀ σ' H', N σ' H' → ∃ m', m' < m ∧ W (i + 1) m' σ' H') ∧ ∀ x H', J.yld i H x H' → g x σ H' fun σ2 H2 => tb { D with nx := N, ct := N, bk := D.nx } σ2 H2)
def pinsAt (fp : List Addr) (h : Heap) : List (Addr × Obj) := fp.filterMap fun b => (h.get? b).map fun o => (b, o)
theorem mem_pinsAt {fp : List Addr} {h : Heap} {b : Addr} {o : Obj} (hb : b ∈ fp) (e : h.get? b = some o) : (b, o) ∈ pinsAt fp h := List.mem_filterMap.mpr ⟨b, hb, by rw [e]; rfl⟩
theorem of_pinsAt {fp : List Addr} {h : Heap} {p : Addr × Obj} (hp : p ∈ pinsAt fp h) : p.1 ∈ fp ∧ h.get? p.1 = some p.2 := by
  obtain ⟨b, hb, e⟩ := List.mem_filterMap.mp hp
  cases q : h.get? b with
  | none => rw [q] at e; cases e
  | some o =>
    rw [q] at e
    have e' : (b, o) = p := Option.some.inj e
    subst e'
    exact ⟨hb, q⟩
theorem Inv.pinned {pins : List (Addr × Obj)} {σ : St} {H : Hp} {s : Shared} {fp : List Addr} (I : Inv X pins σ H s) (hf : ∀ b ∈ fp, FpOk X pins H b) (ho : ∀ b ∈ fp, ∃ o, s.heap.get? b = some o ∧ ∀ v, o.data ≠ .cell v) : Inv X (pins ++ pinsAt fp s.heap) σ H s :=
  I.pins_of fun p hp => (List.mem_append.mp hp).elim (fun z => I.pin p (List.mem_append_right _ z)) fun z => by
    obtain ⟨hb, e⟩ := of_pinsAt z
    obtain ⟨f0, f1, f2, _⟩ := hf p.1 hb
    obtain ⟨o, e', d⟩ := ho p.1 hb
    rw [e] at e'; cases e'
    exact ⟨e, f0, f1, f2, d⟩
theorem Inv.unpinned {pins pl : List (Addr × Obj)} {σ : St} {H : Hp} {s : Shared} (I : Inv X (pins ++ pl) σ H s) : Inv X pins σ H s := I.pins_of fun p hp => I.pin p (List.mem_append_right _ (List.mem_append_left _ hp))
theorem ps_for {iter : Expr} {body : List Stmt} {wi : TI} {g : TG} {tb : TS} {pos : Pos} (hp : PassesOwn (model X.prog X.w) X.A X.env X.xe) (hc : X.calm = true) (hi : PI X tg iter wi) (hg : PG X tg g) (hb : PSs X body tb)
    (hs : ∀ x, foldedSetIterable iter X.env x = pure x := by intro _; rfl) : PS X (.For tg iter body [] pos) (tFor wi g tb) := by
  intro pins s σ H D I h
  refine wpAny_For (thn (hi pins s σ H _ I h) fun v s1 h1 => thn h1 fun itv s2 h2 => ?_) hs
  obtain ⟨it, fp, tn, J, H2, e, I2, T, st2, f2, W, ⟨m0, w0⟩, turn⟩ := h2
  subst e
  have stat : ∀ {H' : Hp}, (∀ b ∈ fp, H' b = none) → ∀ b ∈ fp, FpOk X pins H' b := fun hn b hb => ⟨hn b hb, (f2 b hb).2⟩
  refine codeAny_forLoop_any (fun n s' => ∃ i σ' H', Inv X pins σ' H' s' ∧ tn i s'.heap ∧ (∀ b ∈ fp, H' b = none) ∧ W i n σ' H') ?_ m0 ⟨0, σ, H2, I2, st2, fun b hb => (f2 b hb).1, w0⟩
  rintro n s3 ⟨i, σ3, H3, I3, st3, fr3, w3⟩
  rcases turn i n σ3 H3 w3 with ⟨stop, qn⟩ | ⟨go, N, hN, step⟩
  · refine wpAny_passesOwn hp (thn (T.done X rfl rfl rfl hc i pins s3 σ3 H3 X.xe I3 (stat fr3) st3 stop) fun r s4 ⟨hr, I4⟩ => ?_)
    subst hr
    exact wpAny_execs_nil ⟨σ3, H3, I4, qn⟩
  · refine wpAny_passesOwn hp (thn (T.item X rfl rfl rfl hc i pins s3 σ3 H3 X.xe I3 (stat fr3) st3 go) fun r s4 ⟨u, hr, h4⟩ => ?_)
    subst hr
    refine wpAny_passesOwn hp (thn h4 fun _ s5 ⟨x, H5, I5, r5, y5, st5, fr5⟩ => ?_)
    have I5' := I5.pinned (stat fr5) (T.obj _ _ st5)
    refine wpAny_passesOwn hp (thn (hg _ s5 σ3 H5 x u _ I5' r5 (step x H5 y5)) fun _ s6 ⟨σ6, H6, I6, q6⟩ => ?_)
    refine wpAny_passesOwn hp (thn (hb _ s6 σ6 H6 _ I6 q6) fun f s7 q7 => ?_)
    have again : ∀ {σ7 : St} {H7 : Hp}, Inv X (pins ++ pinsAt fp s5.heap) σ7 H7 s7 → N σ7 H7 → ∃ m, m < n ∧ ∃ i σ' H', Inv X pins σ' H' s7 ∧ tn i s7.heap ∧ (∀ b ∈ fp, H' b = none) ∧ W i m σ' H' := fun {σ7 H7} I7 n7 => by
      obtain ⟨m', hm, w7⟩ := hN σ7 H7 n7
      refine ⟨m', hm, i + 1, σ7, H7, I7.unpinned, T.keep _ _ _ st5 fun b hb o e => (I7.pin (b, o) (List.mem_append_right _ (List.mem_append_right _ (mem_pinsAt hb e)))).1, fun b hb => ?_, w7⟩
      obtain ⟨o, e, d⟩ := T.obj _ _ st5 b hb
      exact (I7.pin (b, o) (List.mem_append_right _ (List.mem_append_right _ (mem_pinsAt hb e)))).2.1
    cases f with
    | next => obtain ⟨σ7, H7, I7, n7⟩ := q7; exact again I7 n7
    | cont => obtain ⟨σ7, H7, I7, n7⟩ := q7; exact again I7 n7
    | brk => obtain ⟨σ7, H7, I7, q7⟩ := q7; exact ⟨σ7, H7, I7.unpinned, q7⟩
    | ret v => obtain ⟨x7, σ7, H7, I7, r7, q7⟩ := q7; exact ⟨x7, σ7, H7, I7.unpinned, r7, q7⟩
end
theorem for_list {K : PySem.W.Frag} {a : Addr} {xs : List V} {g : TG} {tb : TS} {D : Ends} {σ : St} {H : Hp} (Pv : Nat → St → Hp → Prop) (h0 : Pv 0 σ H) (hl : ∀ i σ H, i ≤ xs.length → Pv i σ H → SqL K H a xs)
    (hs : ∀ i x σ H, xs[i]? = some x → Pv i σ H → g x σ H fun σ2 H2 => tb { D with nx := Pv (i + 1), ct := Pv (i + 1), bk := D.nx } σ2 H2) (hd : ∀ σ H, Pv xs.length σ H → D.nx σ H) :
    ∃ W : Nat → Nat → St → Hp → Prop, (∃ m, W 0 m σ H) ∧ ∀ i m σ H, W i m σ H →
      ((Itl K a).stop i H ∧ D.nx σ H) ∨ ((Itl K a).go i H ∧ ∃ N : St → Hp → Prop, (∀ σ' H', N σ' H' → ∃ m', m' < m ∧ W (i + 1) m' σ' H') ∧ ∀ x H', (Itl K a).yld i H x H' → g x σ H' fun σ2 H2 => tb { D with nx := N, ct := N, bk := D.nx } σ2 H2) := by
  refine ⟨fun i m σ H => m = xs.length - i ∧ i ≤ xs.length ∧ Pv i σ H, ⟨xs.length, by simp, Nat.zero_le _, h0⟩, ?_⟩
  rintro i m σ H ⟨rfl, hi, p⟩
  have q := hl i σ H hi p
  by_cases hlt : i < xs.length
  · refine .inr ⟨⟨xs, xs[i], q, by simp [hlt]⟩, Pv (i + 1), fun σ' H' p' => ⟨xs.length - (i + 1), by omega, rfl, hlt, p'⟩, fun x H' y => ?_⟩
    obtain ⟨e, y⟩ := y
    subst e
    exact hs i x σ _ (y xs q) p
  · have e : i = xs.length := by omega
    subst e
    exact .inl ⟨⟨xs, q, Nat.le_refl _⟩, hd σ H p⟩
theorem for_range {lo : Int} {n : Nat} {g : TG} {tb : TS} {D : Ends} {σ : St} {H : Hp} (Pv : Nat → St → Hp → Prop) (h0 : Pv 0 σ H)
    (hs : ∀ i σ H, i < n → Pv i σ H → g (.int (lo + i)) σ H fun σ2 H2 => tb { D with nx := Pv (i + 1), ct := Pv (i + 1), bk := D.nx } σ2 H2) (hd : ∀ σ H, Pv n σ H → D.nx σ H) :
    ∃ W : Nat → Nat → St → Hp → Prop, (∃ m, W 0 m σ H) ∧ ∀ i m σ H, W i m σ H →
      ((Itr lo n).stop i H ∧ D.nx σ H) ∨ ((Itr lo n).go i H ∧ ∃ N : St → Hp → Prop, (∀ σ' H', N σ' H' → ∃ m', m' < m ∧ W (i + 1) m' σ' H') ∧ ∀ x H', (Itr lo n).yld i H x H' → g x σ H' fun σ2 H2 => tb { D with nx := N, ct := N, bk := D.nx } σ2 H2) := by
  refine ⟨fun i m σ H => m = n - i ∧ i ≤ n ∧ Pv i σ H, ⟨n, by simp, Nat.zero_le _, h0⟩, ?_⟩
  rintro i m σ H ⟨rfl, hi, p⟩
  by_cases hlt : i < n
  · refine .inr ⟨hlt, Pv (i + 1), fun σ' H' p' => ⟨n - (i + 1), by omega, rfl, hlt, p'⟩, fun x H' y => ?_⟩
    obtain ⟨e, y⟩ := y
    subst e y
    exact hs i σ _ hlt p
  · have e : i = n := by omega
    subst e
    exact .inl ⟨Nat.le_refl _, hd σ H p⟩
end L2
namespace L2
open PySem PySem.Spec PyProof.Rows
abbrev R2 := V → V → Hp → VK → Prop
def OpR (X : Cx) (f : Value → Value → Sem Value) (r : R2) : Prop :=
  ∀ (pins : List (Addr × Obj)) (s : Shared) (σ : St) (H : Hp) (x y : V) (v u : Value) (Q : VK), Inv X pins σ H s → RelV x v → RelV y u → r x y H Q →
    wpAny (model X.prog X.w) X.A (f v u) (EP X pins σ Q) X.xe s
def UnR (X : Cx) (f : Value → Sem Value) (r : V → Hp → VK → Prop) : Prop :=
  ∀ (pins : List (Addr × Obj)) (s : Shared) (σ : St) (H : Hp) (x : V) (v : Value) (Q : VK), Inv X pins σ H s → RelV x v → r x H Q →
    wpAny (model X.prog X.w) X.A (f v) (EP X pins σ Q) X.xe s
def CallR (X : Cx) (f : Value) (r : List V → Hp → VK → Prop) : Prop :=
  ∀ (pins : List (Addr × Obj)) (s : Shared) (σ : St) (H : Hp) (xs : List V) (us : List Value) (Q : VK), Inv X pins σ H s → Vals xs us → r xs H Q →
    wpAny (model X.prog X.w) X.A (call f us) (EP X pins σ Q) X.xe s
def tOp (r : R2) (ta tb : TE) : TE := fun σ H Q => ta σ H fun x H1 => tb σ H1 fun y H2 => r x y H2 Q
def tUn (r : V → Hp → VK → Prop) (ta : TE) : TE := fun σ H Q => ta σ H fun x H1 => r x H1 Q
def rI (C : Int → Int → Prop) (g : Int → Int → V) : R2 := fun x y H Q => ∃ i j, x = .int i ∧ y = .int j ∧ C i j ∧ Q (g i j) H
def rI0 (g : Int → Int → V) : R2 := fun x y H Q => ∃ i j, x = .int i ∧ y = .int j ∧ Q (g i j) H
def rU (g : Int → V) : V → Hp → VK → Prop := fun x H Q => ∃ i, x = .int i ∧ Q (g i) H
section
variable {X : Cx} {a b c : Expr} {ta tb tc : TE} {pos : Pos}
theorem binT (ha : PE X a ta) (hb : PE X b tb) {pins : List (Addr × Obj)} {s : Shared} {σ : St} {H : Hp} {R : V → V → Hp → Prop} (I : Inv X pins σ H s)
    (h : ta σ H fun x H1 => tb σ H1 fun y H2 => R x y H2) {Q : Value → Shared → Prop} {f : Value → Value → Sem Value}
    (hf : ∀ v u s2 x y H2, Inv X pins σ H2 s2 → RelV x v → RelV y u → R x y H2 → wpAny (model X.prog X.w) X.A (f v u) Q X.xe s2) :
    wpAny (model X.prog X.w) X.A (eval a X.env) (fun v s₁ => wpAny (model X.prog X.w) X.A (eval b X.env) (fun u s₂ => wpAny (model X.prog X.w) X.A (f v u) Q X.xe s₂) X.xe s₁) X.xe s := by
  refine thn (ha pins s σ H _ I h) fun v s1 ⟨x, H1, I1, r1, q1⟩ => ?_
  refine thn (hb pins s1 σ H1 _ I1 q1) fun u s2 ⟨y, H2, I2, r2, q2⟩ => ?_
  exact hf v u s2 x y H2 I2 r1 r2 q2
theorem pe_op {op : Operator} {r : R2} (ho : OpR X (binaryOp op) r) (ha : PE X a ta) (hb : PE X b tb) : PE X (.BinOp a op b pos) (tOp r ta tb) := by
  intro pins s σ H Q I h
  exact wpAny_BinOp (binT ha hb I h fun v u s2 x y H2 I2 rx ry q => ho pins s2 σ H2 x y v u Q I2 rx ry q)
theorem pe_un {op : UnaryOp} {r : V → Hp → VK → Prop} (ho : UnR X (unaryOp op) r) (ha : PE X a ta) : PE X (.UnaryOp op a pos) (tUn r ta) := by
  intro pins s σ H Q I h
  exact UnaryOp_ (thn (ha pins s σ H _ I h) fun v s1 ⟨x, H1, I1, r1, q1⟩ => ho pins s1 σ H1 x v Q I1 r1 q1)
theorem opI {f : Value → Value → Sem Value} {C : Int → Int → Prop} {g : Int → Int → Int}
    (rule : ∀ (i j : Int) (t u : Tok) (s : Shared) (Q : Value → Shared → Prop) (E : Value → Shared → Prop), C i j → Q (.int (g i j) s.toks) { s with toks := s.toks + 1 } → wpAny (model X.prog X.w) X.A (f (.int i t) (.int j u)) Q E s) :
    OpR X f (rI C fun i j => .int (g i j)) := by
  intro pins s σ H x y v u Q I rx ry h
  obtain ⟨i, j, rfl, rfl, hc, q⟩ := h
  obtain ⟨t, rfl⟩ := rx
  obtain ⟨t', rfl⟩ := ry
  exact rule i j t t' s _ _ hc ⟨.int (g i j), H, I.tok _, ⟨_, rfl⟩, q⟩
theorem opI0 {f : Value → Value → Sem Value} {g : Int → Int → Int}
    (rule : ∀ (i j : Int) (t u : Tok) (s : Shared) (Q : Value → Shared → Prop) (E : Value → Shared → Prop), Q (.int (g i j) s.toks) { s with toks := s.toks + 1 } → wpAny (model X.prog X.w) X.A (f (.int i t) (.int j u)) Q E s) :
    OpR X f (rI0 fun i j => .int (g i j)) := by
  intro pins s σ H x y v u Q I rx ry h
  obtain ⟨i, j, rfl, rfl, q⟩ := h
  obtain ⟨t, rfl⟩ := rx
  obtain ⟨t', rfl⟩ := ry
  exact rule i j t t' s _ _ ⟨.int (g i j), H, I.tok _, ⟨_, rfl⟩, q⟩
theorem opB0 {f : Value → Value → Sem Value} {g : Int → Int → Bool}
    (rule : ∀ (i j : Int) (t u : Tok) (s : Shared) (Q : Value → Shared → Prop) (E : Value → Shared → Prop), Q (.bool (g i j)) s → wpAny (model X.prog X.w) X.A (f (.int i t) (.int j u)) Q E s) :
    OpR X f (rI0 fun i j => .bl (g i j)) := by
  intro pins s σ H x y v u Q I rx ry h
  obtain ⟨i, j, rfl, rfl, q⟩ := h
  obtain ⟨t, rfl⟩ := rx
  obtain ⟨t', rfl⟩ := ry
  exact rule i j t t' s _ _ ⟨.bl (g i j), H, I, rfl, q⟩
def CDiv (i j : Int) : Prop := 0 < j ∧ j < 1073741824
def CPow (i j : Int) : Prop := 0 ≤ j ∧ j ≤ 1000000 ∧ i.natAbs < 2 ^ 64
def CMul (i j : Int) : Prop := (-(2 ^ 64) < i ∧ i < 2 ^ 64) ∨ (-(2 ^ 64) < j ∧ j < 2 ^ 64)
theorem CMul.ok {i j : Int} (h : CMul i j) : IntMulOk i j := by
  rcases h with ⟨h1, h2⟩ | ⟨h1, h2⟩
  · exact .of_left (intBits_le_64 h1 h2)
  · exact .of_right (intBits_le_64 h1 h2)
theorem op_add : OpR X (binaryOp .Add) (rI0 fun i j => .int (i + j)) := opI0 fun _ _ _ _ _ _ _ q => add_int q
theorem op_sub : OpR X (binaryOp .Sub) (rI0 fun i j => .int (i - j)) := opI0 fun _ _ _ _ _ _ _ q => sub_int q
theorem op_mul : OpR X (binaryOp .Mult) (rI CMul fun i j => .int (i * j)) := opI fun _ _ _ _ _ _ _ hc q => mul_int q hc.ok
theorem op_fdiv : OpR X (binaryOp .FloorDiv) (rI CDiv fun i j => .int (i / j)) := opI fun i j _ _ _ _ _ hc q => by
  have h1 : (0 : Int) < j := hc.1
  have h2 : j < 1073741824 := hc.2
  exact floordiv_int (by omega) (by rw [Int.fdiv_eq_ediv_of_nonneg i (by omega)]; exact q) (.inl (PyProof.noPylong_small (by omega)))
theorem op_mod : OpR X (binaryOp .Mod) (rI (fun _ j => 0 < j) fun i j => .int (i % j)) := opI fun i j _ _ _ _ _ hc q => by
  have h1 : (0 : Int) < j := hc
  exact mod_int' (by omega) (by rw [Int.fmod_eq_emod_of_nonneg i (by omega)]; exact q)
theorem op_pow : OpR X (binaryOp .Pow) (rI CPow fun i j => .int (i ^ j.toNat)) := opI fun _ _ _ _ _ _ _ hc q => pow_int_small hc.1 hc.2.1 hc.2.2 q
theorem unI {f : Value → Sem Value} {g : Int → Int}
    (rule : ∀ (i : Int) (t : Tok) (s : Shared) (Q : Value → Shared → Prop) (E : Value → Shared → Prop), Q (.int (g i) s.toks) { s with toks := s.toks + 1 } → wpAny (model X.prog X.w) X.A (f (.int i t)) Q E s) :
    UnR X f (rU fun i => .int (g i)) := by
  intro pins s σ H x v Q I rx h
  obtain ⟨i, rfl, q⟩ := h
  obtain ⟨t, rfl⟩ := rx
  exact rule i t s _ _ ⟨.int (g i), H, I.tok _, ⟨_, rfl⟩, q⟩
theorem un_neg : UnR X (unaryOp .USub) (rU fun i => .int (-i)) := unI fun _ _ _ _ _ q => neg_int q
end
def scal : V → V → Bool
  | .non, .non => true | .non, .int _ => true | .int _, .non => true | .non, .bl _ => true | .bl _, .non => true | .non, .str _ => true | .str _, .non => true
  | .int _, .int _ => true | .bl _, .bl _ => true | .str _, .str _ => true | .byt _, .byt _ => true
  | .int _, .str _ => true | .str _, .int _ => true | .bl _, .str _ => true | .str _, .bl _ => true
  | _, _ => false
def rEq : R2 := fun x y H Q => scal x y = true ∧ Q (.bl (decide (x = y))) H
def rNe : R2 := fun x y H Q => scal x y = true ∧ Q (.bl (!decide (x = y))) H
theorem dec_int {i j : Int} : decide (V.int i = V.int j) = (i == j) := by
  rw [Bool.eq_iff_iff]
  simp
theorem dec_bl {i j : Bool} : decide (V.bl i = V.bl j) = (i == j) := by
  rw [Bool.eq_iff_iff]
  simp
theorem dec_str {i j : Str} : decide (V.str i = V.str j) = (i == j) := by
  rw [Bool.eq_iff_iff]
  simp
theorem dec_byt {i j : Array UInt8} : decide (V.byt i = V.byt j) = (i.toList == j.toList) := by
  rw [Bool.eq_iff_iff]
  cases i
  cases j
  simp
section
variable {X : Cx} {a b c : Expr} {ta tb tc : TE} {pos : Pos}
theorem fin_bl {pins : List (Addr × Obj)} {σ : St} {H : Hp} {s : Shared} {Q : VK} {k k' : Bool} (I : Inv X pins σ H s) (q : Q (.bl k) H) (e : k = k') : EP X pins σ Q (.bool k') s := by
  subst e
  exact ⟨.bl k, H, I, rfl, q⟩
theorem op_eq : OpR X (compareOp .Eq) rEq := by
  intro pins s σ H x y v u Q I rx ry h
  obtain ⟨hs, q⟩ := h
  cases x with
  | non =>
    cases rx
    cases y with
    | non => cases ry; exact PySem.EqNone.eq_none_none (fin_bl I q (by simp))
    | bl j => cases ry; exact PySem.EqNone.eq_none_bool (fin_bl I q (by simp))
    | int j => obtain ⟨t', rfl⟩ := ry; exact PySem.EqNone.eq_none_int (fin_bl I q (by simp))
    | str j => obtain ⟨t', rfl⟩ := ry; exact PySem.EqNone.eq_none_str (fin_bl I q (by simp))
    | _ => exact absurd (show false = true from hs) Bool.false_ne_true
  | bl i =>
    cases rx
    cases y with
    | non => cases ry; exact PySem.EqNone.eq_bool_none (fin_bl I q (by simp))
    | bl j => cases ry; exact eq_bool (fin_bl I q dec_bl)
    | str j => obtain ⟨t', rfl⟩ := ry; exact PySem.EqMixed.eq_bool_str (fin_bl I q (by simp))
    | _ => exact absurd (show false = true from hs) Bool.false_ne_true
  | int i =>
    obtain ⟨t, rfl⟩ := rx
    cases y with
    | non => cases ry; exact PySem.EqNone.eq_int_none (fin_bl I q (by simp))
    | int j => obtain ⟨t', rfl⟩ := ry; exact eq_int (fin_bl I q dec_int)
    | str j => obtain ⟨t', rfl⟩ := ry; exact PySem.EqMixed.eq_int_str (fin_bl I q (by simp))
    | _ => exact absurd (show false = true from hs) Bool.false_ne_true
  | str i =>
    obtain ⟨t, rfl⟩ := rx
    cases y with
    | non => cases ry; exact PySem.EqNone.eq_str_none (fin_bl I q (by simp))
    | bl j => cases ry; exact PySem.EqMixed.eq_str_bool (fin_bl I q (by simp))
    | int j => obtain ⟨t', rfl⟩ := ry; exact PySem.EqMixed.eq_str_int (fin_bl I q (by simp))
    | str j => obtain ⟨t', rfl⟩ := ry; exact eq_str (fin_bl I q dec_str)
    | _ => exact absurd (show false = true from hs) Bool.false_ne_true
  | byt i =>
    obtain ⟨t, rfl⟩ := rx
    cases y with
    | byt j => obtain ⟨t', rfl⟩ := ry; exact PySem.W.eq_bytes (fin_bl I q dec_byt)
    | _ => exact absurd (show false = true from hs) Bool.false_ne_true
  | _ => cases y <;> exact absurd (show false = true from hs) Bool.false_ne_true
theorem op_ne : OpR X (compareOp .NotEq) rNe := by
  intro pins s σ H x y v u Q I rx ry h
  obtain ⟨hs, q⟩ := h
  cases x with
  | non =>
    cases rx
    cases y with
    | non => cases ry; exact PySem.EqNone.ne_none_none (fin_bl I q (by simp))
    | bl j => cases ry; exact PySem.EqNone.ne_none_bool (fin_bl I q (by simp))
    | int j => obtain ⟨t', rfl⟩ := ry; exact PySem.EqNone.ne_none_int (fin_bl I q (by simp))
    | str j => obtain ⟨t', rfl⟩ := ry; exact PySem.EqNone.ne_none_str (fin_bl I q (by simp))
    | _ => exact absurd (show false = true from hs) Bool.false_ne_true
  | bl i =>
    cases rx
    cases y with
    | non => cases ry; exact PySem.EqNone.ne_bool_none (fin_bl I q (by simp))
    | bl j => cases ry; exact ne_bool (fin_bl I q (congrArg not dec_bl))
    | str j => obtain ⟨t', rfl⟩ := ry; exact PySem.EqMixed.ne_bool_str (fin_bl I q (by simp))
    | _ => exact absurd (show false = true from hs) Bool.false_ne_true
  | int i =>
    obtain ⟨t, rfl⟩ := rx
    cases y with
    | non => cases ry; exact PySem.EqNone.ne_int_none (fin_bl I q (by simp))
    | int j => obtain ⟨t', rfl⟩ := ry; exact ne_int (fin_bl I q (congrArg not dec_int))
    | str j => obtain ⟨t', rfl⟩ := ry; exact PySem.EqMixed.ne_int_str (fin_bl I q (by simp))
    | _ => exact absurd (show false = true from hs) Bool.false_ne_true
  | str i =>
    obtain ⟨t, rfl⟩ := rx
    cases y with
    | non => cases ry; exact PySem.EqNone.ne_str_none (fin_bl I q (by simp))
    | bl j => cases ry; exact PySem.EqMixed.ne_str_bool (fin_bl I q (by simp))
    | int j => obtain ⟨t', rfl⟩ := ry; exact PySem.EqMixed.ne_str_int (fin_bl I q (by simp))
    | str j => obtain ⟨t', rfl⟩ := ry; exact ne_str (fin_bl I q (congrArg not dec_str))
    | _ => exact absurd (show false = true from hs) Bool.false_ne_true
  | byt i =>
    obtain ⟨t, rfl⟩ := rx
    cases y with
    | byt j => obtain ⟨t', rfl⟩ := ry; exact PySem.W.ne_bytes (fin_bl I q (congrArg not dec_byt))
    | _ => exact absurd (show false = true from hs) Bool.false_ne_true
  | _ => cases y <;> exact absurd (show false = true from hs) Bool.false_ne_true
theorem op_lt : OpR X (compareOp .Lt) (rI0 fun i j => .bl (decide (i < j))) := opB0 fun _ _ _ _ _ _ _ q => lt_int q
theorem op_le : OpR X (compareOp .LtE) (rI0 fun i j => .bl (decide (i ≤ j))) := opB0 fun _ _ _ _ _ _ _ q => le_int q
theorem op_gt : OpR X (compareOp .Gt) (rI0 fun i j => .bl (decide (j < i))) := opB0 fun _ _ _ _ _ _ _ q => gt_int q
theorem op_ge : OpR X (compareOp .GtE) (rI0 fun i j => .bl (decide (j ≤ i))) := opB0 fun _ _ _ _ _ _ _ q => ge_int q
theorem op_in_str : OpR X (compareOp .In) (fun x y H Q => ∃ i j, x = .str i ∧ y = .str j ∧ Q (.bl (!(Builtin.Str.occurrences j i 0 j.length 1).isEmpty)) H) := by
  intro pins s σ H x y v u Q I rx ry h
  obtain ⟨i, j, rfl, rfl, q⟩ := h
  obtain ⟨t, rfl⟩ := rx
  obtain ⟨t', rfl⟩ := ry
  exact in_str (fin_bl I q rfl)
theorem nomark (b : Expr) {op : CmpOp} (h : op ≠ .In := by decide) (h2 : op ≠ .NotIn := by decide) : behindInMarks op b = false := by
  have e1 : (op == CmpOp.In) = false := by cases op <;> first | rfl | exact absurd rfl h
  have e2 : (op == CmpOp.NotIn) = false := by cases op <;> first | rfl | exact absurd rfl h2
  cases b <;> simp [behindInMarks, e1, e2]
theorem pe_cmpR {op : CmpOp} {r : R2} (ho : OpR X (compareOp op) r) (ha : PE X a ta) (hb : PE X b tb) (hm : behindInMarks op b = false) : PE X (.Compare a [op] [b] pos) (tOp r ta tb) := by
  intro pins s σ H Q I h
  exact wpAny_Compare1 (binT ha hb I h fun v u s2 x y H2 I2 rx ry q => ho pins s2 σ H2 x y v u Q I2 rx ry q) hm
def tTest (t : TE) : TT := fun σ H Q => t σ H fun x H' => ∃ k, x = .bl k ∧ Q k H'
theorem pt_cmpR {op : CmpOp} {r : R2} (ho : OpR X (compareOp op) r) (ha : PE X a ta) (hb : PE X b tb) (hm : behindInMarks op b = false) : PT X (.Compare a [op] [b] pos) (tTest (tOp r ta tb)) := by
  intro pins s σ H Q I h
  refine wpAny_isTrue_Compare1 (thn (ha pins s σ H _ I h) fun v s1 ⟨x, H1, I1, r1, q1⟩ => thn (hb pins s1 σ H1 _ I1 q1) fun u s2 ⟨y, H2, I2, r2, q2⟩ =>
    thn (ho pins s2 σ H2 x y v u _ I2 r1 r2 q2) fun c s3 ⟨z, H3, I3, r3, k, e, q3⟩ => ?_) hm
  subst e
  cases r3
  exact wpAny_truthy_bool ⟨H3, I3, q3⟩
theorem line63 : (sizeLine : Nat) < 2 ^ 63 := by rw [sizeLine_eq]; decide
theorem op_add_str : OpR X (binaryOp .Add) (fun x y H Q => ∃ i j, x = .str i ∧ y = .str j ∧ i.length + j.length ≤ sizeLine ∧ Q (.str (i ++ j)) H) := by
  intro pins s σ H x y v u Q I rx ry h
  obtain ⟨i, j, rfl, rfl, hz, q⟩ := h
  obtain ⟨t, rfl⟩ := rx
  obtain ⟨t', rfl⟩ := ry
  exact add_str (fun t' tk => ⟨.str (i ++ j), H, I.tok _, ⟨_, rfl⟩, q⟩) hz
theorem vals1 {x : V} {us : List Value} (r : Vals [x] us) : ∃ u, us = [u] ∧ RelV x u := by
  cases r with
  | cons r1 r2 => cases r2; exact ⟨_, rfl, r1⟩
theorem vals2 {x y : V} {us : List Value} (r : Vals [x, y] us) : ∃ u w', us = [u, w'] ∧ RelV x u ∧ RelV y w' := by
  cases r with
  | cons r1 r2 =>
    cases r2 with
    | cons r3 r4 => cases r4; exact ⟨_, _, rfl, r1, r3⟩
theorem call_abs : CallR X (.builtin "abs") (fun xs H Q => ∃ i, xs = [.int i] ∧ Q (.int (if i < 0 then -i else i)) H) := by
  intro pins s σ H xs us Q I r h
  obtain ⟨i, rfl, q⟩ := h
  obtain ⟨u, rfl, t, rfl⟩ := vals1 r
  exact call_abs_int fun u tk => ⟨.int (if i < 0 then -i else i), H, I.tok _, ⟨_, rfl⟩, q⟩
theorem call_min2 (hc : X.calm = true) : CallR X (.builtin "min") (fun xs H Q => ∃ i j, xs = [.int i, .int j] ∧ Q (.int (if j < i then j else i)) H) := by
  intro pins s σ H xs us Q I r h
  obtain ⟨i, j, rfl, q⟩ := h
  obtain ⟨u, w', rfl, ⟨t, rfl⟩, ⟨t', rfl⟩⟩ := vals2 r
  refine min_two_ints (I.ok.hd hc) fun h' tk k => ⟨_, H, I.kept k, ?_, q⟩
  by_cases hj : j < i
  · rw [if_pos hj, if_pos hj]; exact ⟨_, rfl⟩
  · rw [if_neg hj, if_neg hj]; exact ⟨_, rfl⟩
end
end L2
namespace L2
open PySem PySem.Spec PyProof.Rows
structure ObjM (h : Heap) (x dx C : Addr) (mA : Str → Option Value) : Prop where
  obj : h.get? x = some (PySem.W.instObj C dx)
  ns : h.Ns1 dx mA
  ne : dx ≠ x
theorem lookIn_ns {h : Heap} {dx : Addr} {mA : Str → Option Value} (n : h.Ns1 dx mA) : ∃ od, h.get? dx = some od ∧ ∀ name, PySem.W.lookIn name od = some (mA name) := by
  obtain ⟨o, es, ep, ho, hd, hk, _, hm⟩ := n
  refine ⟨o, ho, fun name => ?_⟩
  have e := hm name
  unfold nsFind findBy at e
  rw [← Array.find?_toList] at e
  unfold PySem.W.lookIn
  rw [hd]
  dsimp only
  split
  · rename_i y q
    rw [q] at e
    exact congrArg some e
  · rename_i q
    rw [q] at e
    have a : es.toList.any (·.refKey) = false := by
      rw [List.any_eq_false]
      intro y hy
      obtain ⟨z, t, hkey⟩ := hk y (Array.mem_toList_iff.mp hy)
      simp [DictEntry.refKey, hkey]
    have a' : ¬ es.toList.any (·.refKey) = true := by rw [a]; exact Bool.false_ne_true
    rw [if_neg a']
    exact congrArg some e
theorem ObjM.look {h : Heap} {x dx C : Addr} {mA : Str → Option Value} (I : ObjM h x dx C mA) : ∃ od, PySem.W.InstAt h x (PySem.W.instObj C dx) C (some od) ∧ ∀ name, PySem.W.lookIn name od = some (mA name) :=
  let ⟨od, ho, hl⟩ := lookIn_ns I.ns
  ⟨od, ⟨I.obj, rfl, rfl, ho⟩, hl⟩
section
variable {prog : Program} {w : World} {A : Around} {E : Value → Shared → Prop} {s : Shared} {K : PySem.W.Frag} {x dx C f : Addr} {mA : Str → Option Value} {name : Str} {v : Value}
end
theorem RelO.some_of {v : V} {o : Option Value} (r : RelO (some v) o) : ∃ u, o = some u ∧ RelV v u := by
  cases o with
  | none => exact (show False from r).elim
  | some u => exact ⟨u, rfl, r⟩
theorem handed_of {v : V} {u : Value} (r : RelV v u) : PySem.W.handedIn u = true := by
  cases v with
  | non => cases (show u = Value.none from r); rfl
  | bl b => cases (show u = Value.bool b from r); rfl
  | int i => obtain ⟨t, e⟩ := (show ∃ t, u = Value.int i t from r); cases e; rfl
  | str x => obtain ⟨t, e⟩ := (show ∃ t, u = Value.str x t from r); cases e; rfl
  | byt b => obtain ⟨t, e⟩ := (show ∃ t, u = Value.bytes b t from r); cases e; rfl
  | flt b => obtain ⟨t, e⟩ := (show ∃ t, u = Value.float b t from r); cases e; rfl
  | ref a => cases (show u = Value.ref a from r); rfl
  | ty n => cases (show u = Value.type n from r); rfl
section
variable {P : Program} {w : World} {H H' : Hp} {h h' : Heap} {a C dx : Addr} {fs fs' : List (Str × V)}
theorem ins_get (hok : HOk P w H h) (e : H a = some (.ins C dx fs)) : ∃ mA, ObjM h a dx C mA ∧ (∀ f, RelO (fs.lookup f) (mA f)) ∧ PySem.Within mA (fs.map (·.1)) ∧ fs.length ≤ 1000 ∧ H dx = some (.own a) := by
  obtain ⟨d, z, ne, ob, mA, n, r, q⟩ := (show ObjOk P w H h a (.ins C dx fs) from hok a _ e)
  exact ⟨mA, ⟨ob, n, ne⟩, r, q, z, d⟩
end
structure Cls (K : PySem.W.Frag) (C : Addr) : Prop where
  pg : PySem.W.plainGet K C Str.empty = true
  hd : PySem.W.hasDictIn K C = true
  po : PySem.W.plainOver K C = true
  sa : PySem.W.findIn K (.ref C) "__setattr__" = some (some (.builtin "object.__setattr__"))
theorem Cls.get {K : PySem.W.Frag} {C : Addr} (c : Cls K C) (f : Str) : PySem.W.plainGet K C f = true := c.pg
section
variable {X : Cx} {pins : List (Addr × Obj)} {σ : St} {H : Hp} {s : Shared} {a C dx : Addr} {fs : List (Str × V)} {f : Str} {v : V} {A : Around} {E : Value → Shared → Prop}
theorem attr_of {prog : Program} {w : World} {env : Env} {e : Expr} {f : Str} {pos : Pos} {s : Shared} {Q : Value → Shared → Prop} (hb : attributeBase e f env (eval e env) = eval e env)
    (h : wpAny (model prog w) A (eval e env) (fun o s₁ => wpAny (model prog w) A (getAttr o f true) Q E s₁) E s) : wpAny (model prog w) A (eval (.Attribute e f pos) env) Q E s :=
  Attribute_any_ h (by rw [arm_eval_Attribute, hb])
end
section
variable {X : Cx} {o e value : Expr} {f : Str} {pos pos' tpos : Pos} {ta tv : TE}
end
section
variable {X : Cx} {pins : List (Addr × Obj)} {σ : St} {H : Hp} {s : Shared} {A : Around} {E : Value → Shared → Prop} {Q : Value → Shared → Prop} {c : Value} {b : Bool}
inductive TyOf (K : PySem.W.Frag) (H : Hp) : V → Value → Prop where
  | non : TyOf K H .non (.type "NoneType")
  | bl (x : Bool) : TyOf K H (.bl x) (.type "bool")
  | int (i : Int) : TyOf K H (.int i) (.type "int")
  | str (x : Str) : TyOf K H (.str x) (.type "str")
  | flt (x : UInt64) : TyOf K H (.flt x) (.type "float")
  | lst {a : Addr} {xs : List V} (e : H a = some (.lst xs)) : TyOf K H (.ref a) (.type "list")
  | frz {a : Addr} {o : Obj} {xs : List V} (e : H a = some (.frz o (.lst xs))) : TyOf K H (.ref a) (.type "list")
  | tup {a : Addr} {xs : List V} (e : H a = some (.tup xs)) : TyOf K H (.ref a) (.type "tuple")
  | dK {a : Addr} {kvs : List (Key × V)} (e : H a = some (.dK kvs)) : TyOf K H (.ref a) (.type "dict")
  | dT {a : Addr} {kvs : List (List Key × V)} (e : H a = some (.dT kvs)) : TyOf K H (.ref a) (.type "dict")
  | ins {a C dx : Addr} {fs : List (Str × V)} (e : H a = some (.ins C dx fs)) (cl : Cls K C) (ha : PySem.W.findIn K (.ref C) "__class__" = some (some (.builtin "object.__class__")))
      (hn : PySem.W.specialIn K (.builtin "object.__class__") "__get__" = some (some (.builtin "getset_descriptor.__get__"))) (htk : PySem.W.takesIn K (.builtin "object.__class__") = some true)
      (hm : PySem.W.mroIn K C (.type "object") = some true) : TyOf K H (.ref a) (.ref C)
end
end L2
namespace L2
open PySem PySem.Spec PyProof.Rows
structure Room (k : Nat) (A : Around) : Prop where
  hd : A.handled = none
  dp : A.depth + 3 * k + 5 < recursionLimit
  un : A.units + 16 * k + 200 < cLine
theorem Room.mono {j k : Nat} {A : Around} (r : Room k A) (h : j ≤ k) : Room j A := ⟨r.hd, by have := r.dp; omega, by have := r.un; omega⟩
theorem Room.deeper {k : Nat} {A : Around} (r : Room (k + 1) A) (env : Env) : Room k (A.deeper env) :=
  ⟨r.hd, by have := r.dp; show A.depth + 1 + 3 * k + 5 < _; omega, by have := r.un; show A.units + 3 + 16 * k + 200 < _; omega⟩
theorem make_depth {A : Around} {C : Addr} {us : List Value} {kw : List (Str × Value)} : (A.under (.builtin "type.__call__" ⟨.ref C :: us, kw⟩)).depth = A.depth + 1 := by
  first | rfl | simp [Around.under, Code.weight, Code.isCreation, Code.isGuard, Code.isCaller, Code.frames, Code.isFrame, guardIds]
theorem make_units {A : Around} {C : Addr} {us : List Value} {kw : List (Str × Value)} : (A.under (.builtin "type.__call__" ⟨.ref C :: us, kw⟩)).units = A.units + 1 := by
  first | rfl | simp [Around.under, Code.cUnits, Code.frames, Code.isFrame]
theorem Room.make {k : Nat} {A : Around} (r : Room (k + 1) A) (C : Addr) (us : List Value) (kw : List (Str × Value)) : Room k (A.under (.builtin "type.__call__" ⟨.ref C :: us, kw⟩)) :=
  ⟨r.hd, by have := r.dp; rw [make_depth]; omega, by have := r.un; rw [make_units]; omega⟩
theorem Room.depth {k : Nat} {A : Around} (r : Room k A) : A.depth < recursionLimit := by have := r.dp; omega
theorem Room.units0 {k : Nat} {A : Around} (r : Room k A) : A.units < cLine := by have := r.un; omega
def tNil : TA := fun _ H Q => Q [] H
def tCons (ta : TE) (tr : TA) : TA := fun σ H Q => ta σ H fun x H1 => tr σ H1 fun xs H2 => Q (x :: xs) H2
section
variable {X : Cx} {e : Expr} {es : List Expr} {te : TE} {t : TA} {pos : Pos}
theorem pa_nil : PA X [] tNil := fun _ _ _ _ H Q I h => Calls.spliced_nil ⟨[], H, I, .nil, h⟩
theorem pa_cons (ha : PE X e te) (hr : PA X es t) (hs : starEach (e :: es) X.env = (false, eval e X.env) :: starEach es X.env := by rfl) : PA X (e :: es) (tCons te t) := by
  intro pos pins s σ H Q I h
  rw [hs]
  show wpAny _ _ (spliced ((false, eval e X.env) :: backTo pos (starEach es X.env))) _ _ s
  refine Calls.spliced_cons (thn (ha pins s σ H _ I h) fun u s1 ⟨x, H1, I1, r1, q1⟩ => ?_)
  exact thn (hr pos pins s1 σ H1 _ I1 q1) fun us s2 ⟨xs, H2, I2, r2, q2⟩ => ⟨x :: xs, H2, I2, .cons r1 r2, q2⟩
def tTup (t : TA) : TE := fun σ H Q => t σ H fun xs H1 => xs.length ≤ sizeLine ∧ ∀ p, H1 p = none → Q (.ref p) (upd H1 p (.tup xs))
def tLst (t : TA) : TE := fun σ H Q => t σ H fun xs H1 => xs.length ≤ sizeLine ∧ ∀ p, H1 p = none → Q (.ref p) (upd H1 p (.lst xs))
theorem pe_tup {x1} (h : PA X es t) : PE X (.Tuple es x1 pos) (tTup t) := by
  intro pins s σ H Q I hq
  refine wpAny_Tuple_spliced (thn (h pos pins s σ H _ I hq) fun us s1 ⟨xs, H1, I1, r, z, q⟩ => ⟨by rw [← r.length]; exact z, ?_⟩)
  have hf : H1 s1.heap.objs.size = none := I1.hok.fresh (Nat.le_refl _)
  refine ⟨.ref s1.heap.objs.size, upd H1 s1.heap.objs.size (.tup xs), I1.laid (t' := s1.toks) (fun b u e => Heap.get?_push_of_some _ e) (Nat.le_refl _) ?_, rfl, q _ hf⟩
  exact ⟨z, us, r, ⟨_, Heap.get?_push_size _ rfl, rfl, _, rfl⟩⟩
theorem pe_lst (h : PA X es t) : PE X (.List es pos) (tLst t) := by
  intro pins s σ H Q I hq
  refine wpAny_List_spliced (thn (h pos pins s σ H _ I hq) fun us s1 ⟨xs, H1, I1, r, z, q⟩ => ⟨by rw [← r.length]; exact z, ?_⟩)
  have hf : H1 s1.heap.objs.size = none := I1.hok.fresh (Nat.le_refl _)
  refine ⟨.ref s1.heap.objs.size, upd H1 s1.heap.objs.size (.lst xs), I1.laid (t' := s1.toks) (fun b u e => Heap.get?_push_of_some _ e) (Nat.le_refl _) ?_, rfl, q _ hf⟩
  exact ⟨z, us, 0, r, Heap.get?_push_size _ rfl⟩
end
abbrev Sp := List V → Hp → VK → XK → Prop
abbrev CXT := List Env → Hp → Shared → XK → Value → Shared → Prop
structure Env0 (P : Program) (w : World) (K : PySem.W.Frag) (mg : Str → Option Value) (base : Heap) (A : Around) (outer : List Env) (s : Shared) (H : Hp) : Prop where
  frames : A.frames = some outer
  mod : Mod K mg base
  bs : ∀ b o, base.get? b = some o → s.heap.get? b = some o ∧ H b = none
  bsz : base.objs.size ≤ s.heap.objs.size
  funs : s.heap.FunFrames base outer
  frf : ∀ b ∈ frs outer, H b = none
  hok : HOk P w H s.heap
  bare : AllBare s.gens
def CE (outer : List Env) (P : Program) (w : World) (H : Hp) (s : Shared) (Q : VK) (u : Value) (s' : Shared) : Prop :=
  ∃ v H', s'.os = s.os ∧ AllBare s'.gens ∧ Un (frs outer) [] H H' s.heap s'.heap ∧ HOk P w H' s'.heap ∧ RelV v u ∧ Q v H'
def CR (CX : CXT) (outer : List Env) (P : Program) (w : World) (H : Hp) (s : Shared) (Q : VK) (E : XK) (r : Result) (s' : Shared) : Prop :=
  match r with
  | .ok (.ret u) => CE outer P w H s Q u s'
  | .ok _ => False
  | .error e => CX outer H s E e s'
structure FnOk (P : Program) (w : World) (K : PySem.W.Frag) (mg : Str → Option Value) (base : Heap) (CX : CXT) (k : Nat) (f : Addr) (fd : FuncData) (ps : List Str) (sp : Sp) : Prop where
  len : ∀ vs H Q E, sp vs H Q E → vs.length = ps.length
  run : ∀ (A : Around) (outer : List Env) (s : Shared) (H : Hp) (args : Args) (us : List Value) (vs : List V) (Q : VK) (E : XK), Room k A → Env0 P w K mg base A outer s H → BindsTo s fd args (ps.zip us) → Vals vs us → sp vs H Q E →
    codeAny (model P w) A (.call (.ref f) args) (CR CX outer P w H s Q E) s
section
variable {X : Cx} {pins : List (Addr × Obj)} {σ : St} {H : Hp} {s s' : Shared}
theorem Inv.env0 (I : Inv X pins σ H s) : Env0 X.prog X.w X.K X.mg X.base X.A X.stack s H :=
  ⟨I.ok.frames, I.ok.mod, I.bs, Nat.le_trans I.ok.bsz I.sz, I.stack, I.stkFree, I.hok, I.bare⟩
theorem Inv.after {Q : VK} {u : Value} (I : Inv X pins σ H s) (h : CE X.stack X.prog X.w H s Q u s') : EP X pins σ Q u s' := by
  obtain ⟨v, H', os, bare, un, hok, r, q⟩ := h
  obtain ⟨hh, g, d, t, os'⟩ := s'
  obtain rfl : os' = s.os := os
  exact ⟨v, H', I.call (h' := hh) (g' := g) (d' := d) (t' := t) (ch := []) un hok bare (fun b z => absurd z (by simp)), r, q⟩
end
def tCall (sp : Sp) (dvs : List V) (E : XK) (t : TA) : TE := fun σ H Q => t σ H fun vs H1 => sp (vs ++ dvs) H1 Q E
def Binds (K : PySem.W.Frag) (fd : FuncData) (ps : List Str) (ds : List Value) : Prop :=
  ∀ (s : Shared) (us : List Value), K.In s.heap → (us ++ ds).length = ps.length → BindsTo s fd ⟨us, []⟩ (ps.zip (us ++ ds))
theorem Binds.all {K : PySem.W.Frag} {fd : FuncData} {ps : List Str} (h : ∀ us : List Value, us.length = ps.length → bindArgs fd ⟨us, []⟩ = pure (ps.zip us)) : Binds K fd ps [] := fun s us _ hl => by
  rw [List.append_nil] at hl ⊢
  exact .of_eq (h us hl)
def Passes (CX : CXT) (X : Cx) (E : XK) : Prop := ∀ (pins : List (Addr × Obj)) (σ : St) (H : Hp) (s : Shared) (e : Value) (s' : Shared), Inv X pins σ H s → CX X.stack H s E e s' → X.xe e s'
section
variable {X : Cx} {CX : CXT} {k : Nat} {f C : Addr} {fd : FuncData} {ps : List Str} {sp : Sp} {dvs : List V} {ds : List Value} {E : XK} {x m : Str} {p pos apos : Pos} {e o : Expr} {es : List Expr} {ta : TE} {t : TA}
theorem run_fn {pins : List (Addr × Obj)} {σ : St} {H : Hp} {s : Shared} {Q : VK} {us : List Value} {vs : List V} (F : FnOk X.prog X.w X.K X.mg X.base CX k f fd ps sp) (hr : Room k X.A) (hb : Binds X.K fd ps ds) (hd : Vals dvs ds) (hx : Passes CX X E)
    (I : Inv X pins σ H s) (r : Vals vs us) (h : sp (vs ++ dvs) H Q E) : wpAny (model X.prog X.w) X.A (call (.ref f) us) (EP X pins σ Q) X.xe s := by
  have r2 : Vals (vs ++ dvs) (us ++ ds) := r.append hd
  have hl : (us ++ ds).length = ps.length := by rw [← r2.length]; exact F.len _ _ _ _ h
  refine wpAny_call (codeAny_mono (F.run X.A X.stack s H ⟨us, []⟩ (us ++ ds) (vs ++ dvs) Q E hr I.env0 (hb s us I.kIn hl) r2 h) fun r s' hq => ?_)
  cases r with
  | error e => exact hx pins σ H s e s' I hq
  | ok fl =>
    cases fl with
    | ret u => exact I.after hq
    | next => exact False.elim hq
    | brk => exact False.elim hq
    | cont => exact False.elim hq
theorem pe_call (F : FnOk X.prog X.w X.K X.mg X.base CX k f fd ps sp) (hr : Room k X.A) (hg : Gl X x) (hm : X.mg x = some (.ref f)) (hk : PySem.W.keepIn X.K (.ref f) = true) (hb : Binds X.K fd ps ds) (hd : Vals dvs ds) (hx : Passes CX X E)
    (ha : PA X (e :: es) t) (hdb : (x == ("__debug__" : Str)) = false := by decide) (he : starEach (e :: es) X.env = (false, eval e X.env) :: starEach es X.env := by rfl) (hpl : (backTo pos (starEach es X.env)).any (·.1) = false := by rfl) :
    PE X (.Call (.Name x p) (e :: es) [] pos) (tCall sp dvs E t) := by
  intro pins s σ H Q I h
  refine wpAny_Call_Name_kw (ld_glob I hg hm ?_ hdb)
  refine PySem.W.callWith_K (h₀ := X.base) I.ok.mod.kin hk (thn (ha pos pins s σ H _ I h) fun us s1 ⟨vs, H1, I1, r, q⟩ => ⟨I1.kIn, ?_⟩) he hpl
  exact run_fn F hr hb hd hx I1 r q
end
section
variable {X : Cx} {CX : CXT} {k : Nat} {f C : Addr} {fd : FuncData} {ps ks : List Str} {sp : Sp} {E : XK} {x m : Str} {p pos apos kpos : Pos} {e o : Expr} {es : List Expr} {kws : List Keyword} {te ta : TE} {t tk : TA} {nm : Option Str}
variable {g : List Value → List Value → List Value} {gV : List V → List V → List V}
end
structure FnScope (N P : List Str) (sc : Scope) : Prop where
  kind : sc.kind = .function
  co : sc.isCoroutine = false
  gen : sc.isGenerator = false
  nd : N.Nodup
  pre : N.take P.length = P
  par : ∀ x ∈ P, sc.names.lookup x = some .local ∨ sc.names.lookup x = some .cell
  nofree : ∀ y ∈ sc.names, y.2 ≠ .free
theorem bindL_out {kindOf : Str → Option NameKind} {x : Str} : ∀ {binds : List (Str × Value)} {m : Str → Option Value}, (∀ v, (x, v) ∉ binds) → bindL kindOf binds m x = m x
  | [], _, _ => rfl
  | (n, v) :: r, m, h => by
    unfold bindL
    rw [bindL_out fun w hw => h w (List.mem_cons_of_mem _ hw)]
    split
    · have : x ≠ n := by rintro rfl; exact h v List.mem_cons_self
      simp [this]
    · rfl
theorem bindC_out {kindOf : Str → Option NameKind} {x : Str} : ∀ {binds : List (Str × Value)} {m : Str → Option Value}, (∀ v, (x, v) ∉ binds) → bindC kindOf binds m x = m x
  | [], _, _ => rfl
  | (n, v) :: r, m, h => by
    unfold bindC
    rw [bindC_out fun w hw => h w (List.mem_cons_of_mem _ hw)]
    split
    · rfl
    · have : x ≠ n := by rintro rfl; exact h v List.mem_cons_self
      simp [this]
theorem bindL_get {kindOf : Str → Option NameKind} {x : Str} {v : Value} : ∀ {P : List Str} {vs : List Value} {i : Nat} {m : Str → Option Value}, P.Nodup → P[i]? = some x → vs[i]? = some v → kindOf x = some .local →
    bindL kindOf (P.zip vs) m x = some v
  | [], _, _, _, _, h, _, _ => by simp at h
  | _ :: _, [], _, _, _, _, h, _ => by simp at h
  | p :: P, w :: vs, 0, m, nd, h1, h2, hk => by
    simp at h1 h2; subst h1; subst h2
    show bindL kindOf ((p, w) :: P.zip vs) m p = _
    unfold bindL
    rw [bindL_out fun v hv => (List.nodup_cons.mp nd).1 (List.of_mem_zip hv).1, if_pos hk]
    simp
  | p :: P, w :: vs, i + 1, m, nd, h1, h2, hk => by
    show bindL kindOf ((p, w) :: P.zip vs) m x = _
    unfold bindL
    exact bindL_get (i := i) (List.nodup_cons.mp nd).2 (by simpa using h1) (by simpa using h2) hk
theorem bindC_get {kindOf : Str → Option NameKind} {x : Str} {v : Value} : ∀ {P : List Str} {vs : List Value} {i : Nat} {m : Str → Option Value}, P.Nodup → P[i]? = some x → vs[i]? = some v → kindOf x ≠ some .local →
    bindC kindOf (P.zip vs) m x = some v
  | [], _, _, _, _, h, _, _ => by simp at h
  | _ :: _, [], _, _, _, _, h, _ => by simp at h
  | p :: P, w :: vs, 0, m, nd, h1, h2, hk => by
    simp at h1 h2; subst h1; subst h2
    show bindC kindOf ((p, w) :: P.zip vs) m p = _
    unfold bindC
    rw [bindC_out fun v hv => (List.nodup_cons.mp nd).1 (List.of_mem_zip hv).1, if_neg hk]
    simp
  | p :: P, w :: vs, i + 1, m, nd, h1, h2, hk => by
    show bindC kindOf ((p, w) :: P.zip vs) m x = _
    unfold bindC
    exact bindC_get (i := i) (List.nodup_cons.mp nd).2 (by simpa using h1) (by simpa using h2) hk
def start (N : List Str) (vs : List V) : St := vs.map some ++ List.replicate (N.length - vs.length) none
def cxOf (CX : CXT) (P : Program) (w : World) (K : PySem.W.Frag) (mg : Str → Option Value) (base : Heap) (N : List Str) (qual : Str) (scope : Scope) (f : Addr) (cd : Value) (A : Around) (outer : List Env) (s : Shared) (H : Hp) (E : XK) : Cx where
  prog := P
  w := w
  K := K
  mg := mg
  base := base
  A := A.deeper (envOfC qual scope s.heap.objs.size f cd)
  N := N
  s₀ := s
  H₀ := H
  env := envOfC qual scope s.heap.objs.size f cd
  outer := outer
  stack := envOfC qual scope s.heap.objs.size f cd :: outer
  ex := []
  calm := true
  fn := fun _ => true
  pn := []
  xe := fun e s' => wpAny (model P w) (A.deeper (envOfC qual scope s.heap.objs.size f cd)) (leaving (envOfC qual scope s.heap.objs.size f cd) e) (fun _ s'' => CX outer H s E e s'') (fun e' s'' => CX outer H s E e' s'') s'
theorem cell_has {sc : Scope} {n : Nat} {x : Str} (h : sc.names.lookup x = some .cell) : ∃ c, (cellsFrom n sc.names []).lookup x = some c := by
  have q := PySem.W.cellsFrom_some sc.names n [] (.inl h)
  exact Option.isSome_iff_exists.mp q
theorem inv_start {CX : CXT} {P : Program} {w : World} {K : PySem.W.Frag} {mg : Str → Option Value} {base : Heap} {N ps : List Str} {qual : Str} {scope : Scope} {f : Addr} {cd : Value} {A : Around} {outer : List Env} {s s1 : Shared} {H : Hp} {E : XK} {us : List Value} {vs : List V}
    (S : FnScope N ps scope) (hd : A.handled = none) (e0 : Env0 P w K mg base A outer s H) (hl : vs.length = ps.length) (r : Vals vs us)
    (x : InCallC s s.heap.objs.size (bindL (envOfC qual scope s.heap.objs.size f cd).kindOf (ps.zip us) fun _ => none) (cellsFrom (s.heap.objs.size + 1) scope.names []) (bindC (envOfC qual scope s.heap.objs.size f cd).kindOf (ps.zip us) fun _ => none) s1) :
    Inv (cxOf CX P w K mg base N qual scope f cd A outer s H E) [] (start N vs) H s1 := by
  have hpl : ps.length ≤ N.length := by have := congrArg List.length S.pre; rw [List.length_take] at this; omega
  obtain ⟨h1, tk, rfl, hk⟩ := x.done
  have noA : ∀ b : Addr, b ∉ (cxOf CX P w K mg base N qual scope f cd A outer s H E).ex := fun b z => absurd (show b ∈ ([] : List Addr) from z) (by simp)
  refine ⟨⟨e0.mod, S.kind, rfl, rfl, Nat.le_refl _, fun y z c h1 h2 => ?_, fun y hy => ?_, fun y c _ h => ?_, fun _ => hd, Around.frames_deeper e0.frames, .inr ⟨rfl, rfl⟩, fun b z => absurd z (noA b), e0.bs, e0.bsz, fun b _ _ => noA b, fun b z => absurd z (noA b), e0.funs, e0.frf⟩,
    rfl, e0.bare, Un.kept hk, ⟨_, x.toInCall.ns, fun i y v h1 h2 h3 => ?_⟩, fun y c h => ⟨_, x.cell y c h⟩, e0.hok.fresh (Nat.le_refl _), fun y c h => ?_, fun p hp => absurd (show p ∈ ([] : List (Addr × Obj)) from hp) (by simp), e0.hok.kept hk, ?_⟩
  · exact name_of_addr x.apart (PySem.mem_of_lookup h1) (PySem.mem_of_lookup h2)
  · have hy : scope.names.lookup y = some .cell ∨ scope.names.lookup y = some .free := hy
    rcases hy with hy | hy
    · exact cell_has hy
    · exact absurd rfl (S.nofree _ (PySem.mem_of_lookup hy))
  · exact Nat.le_of_lt (x.above y c (PySem.mem_of_lookup h))
  · have hi : i < vs.length := by
      unfold start at h2
      by_cases hi : i < vs.length
      · exact hi
      · rw [List.getElem?_append_right (by simpa using hi)] at h2
        rw [List.getElem?_replicate] at h2
        split at h2 <;> cases h2
    have ha : vs[i]? = some v := by
      unfold start at h2
      rw [List.getElem?_append_left (by simpa using hi), List.getElem?_map] at h2
      cases e : vs[i]? with
      | none => rw [e] at h2; cases h2
      | some a => rw [e] at h2; cases h2; rfl
    obtain ⟨u, hu, rv⟩ := r.get ha
    have hp : ps[i]? = some y := by
      rw [← S.pre, List.getElem?_take_of_lt (by omega)]; exact h1
    have ndP : ps.Nodup := by rw [← S.pre]; exact S.nd.sublist (List.take_sublist _ _)
    refine ⟨u, rv, ?_⟩
    rcases S.par y (List.mem_of_getElem? hp) with k | k
    · exact .inl ⟨k, bindL_get ndP hp hu k⟩
    · obtain ⟨c, e⟩ := cell_has (n := s.heap.objs.size + 1) k
      refine .inr ⟨.inl k, c, e, ?_⟩
      have q := x.cell y c e
      rw [bindC_get ndP hp hu (by show scope.names.lookup y ≠ _; rw [k]; decide)] at q
      exact q
  · exact e0.hok.fresh (Nat.le_of_lt (x.above y c (PySem.mem_of_lookup h)))
  · unfold start
    show _ = N.length
    rw [List.length_append, List.length_map, List.length_replicate]
    omega
theorem fn_of {CX : CXT} {P : Program} {w : World} {K : PySem.W.Frag} {mg : Str → Option Value} {base : Heap} {k : Nat} {f : Addr} {name qual : Str} {params : Arguments} {body : List Stmt} {scope : Scope} {dV kV doc pm cdv ct oc : Value} {an od : Option Addr}
    {osl : Array (Option Value)} {N ps : List Str} {sp : Sp} (lk : K.lookup f = some ⟨oc, od, .func (PySem.W.fnOf name qual params body scope dV kV doc pm an cdv ct), osl⟩) (hcd : PySem.W.codeIn K cdv qual = true) (S : FnScope N ps scope)
    (len : ∀ vs H Q E, sp vs H Q E → vs.length = ps.length)
    (hbody : ∀ (A : Around) (outer : List Env) (s : Shared) (H : Hp) (vs : List V) (Q : VK) (E : XK), Room k (A.deeper (envOfC qual scope s.heap.objs.size f cdv)) → sp vs H Q E →
      ∃ t, PSs (cxOf CX P w K mg base N qual scope f cdv A outer s H E) body t ∧ t { nx := fun _ H' => Q .non H', rt := Q } (start N vs) H) :
    FnOk P w K mg base CX (k + 1) f (PySem.W.fnOf name qual params body scope dV kV doc pm an cdv ct) ps sp := by
  refine ⟨len, fun A outer s H args us vs Q E hr e0 hb r hsp => ?_⟩
  have hl := len _ _ _ _ hsp
  have KX : K.In s.heap := e0.mod.kin.keeps fun b o e => (e0.bs b o e).1
  have lim : s.heap.NoLimit := e0.mod.nolimit.keeps fun b o e => (e0.bs b o e).1
  have hkind : ∀ y ∈ ps.zip us, scope.names.lookup y.1 = some .local ∨ (scope.names.lookup y.1 = some .cell ∧ ((cellsFrom (s.heap.objs.size + 1) scope.names []).lookup y.1).isSome = true) := fun ⟨n, v⟩ hy => by
    rcases S.par n (List.of_mem_zip hy).1 with q | q
    · exact .inl q
    · exact .inr ⟨q, PySem.W.cellsFrom_some _ _ _ (.inl q)⟩
  refine codeAny_call_function hr.depth (KX _ _ lk) rfl S.co S.gen rfl (PySem.W.codeRec_of KX hcd) (hb _ _ _ _ ?_)
  refine wpAny_newFunctionEnv_cells S.kind hkind fun env he s1 x => ?_
  subst he
  refine ⟨lim.keeps x.toInCall.keep, codeAny_func ?_⟩
  obtain ⟨t, ht, hq⟩ := hbody A outer s H vs Q E (hr.deeper _) hsp
  have I : Inv (cxOf CX P w K mg base N qual scope f cdv A outer s H E) [] (start N vs) H s1 := inv_start S hr.hd e0 hl r x
  refine wpAny_mono (ht [] s1 (start N vs) H _ I hq) (fun fl s' hs => ?_) fun e s' hs => hs
  have fin : ∀ {σ' : St} {H' : Hp} {v : V} {u : Value}, Inv (cxOf CX P w K mg base N qual scope f cdv A outer s H E) [] σ' H' s' → RelV v u → Q v H' → CE outer P w H s Q u s' :=
    fun {σ' H' v u} J rv q => ⟨v, H', J.os, J.bare, J.base, J.hok, rv, q⟩
  cases fl with
  | ret u =>
    obtain ⟨v, σ', H', J, rv, q⟩ := hs
    exact fin J rv q
  | next =>
    obtain ⟨σ', H', J, q⟩ := hs
    exact fin (v := V.non) (u := Value.none) J rfl q
  | brk =>
    obtain ⟨_, _, _, q⟩ := hs
    exact False.elim q
  | cont =>
    obtain ⟨_, _, _, q⟩ := hs
    exact False.elim q
end L2
namespace L2
open PySem PySem.Spec PyProof.Rows
section
variable {X : Cx} {x : Str} {p pos : Pos} {e : Expr} {es : List Expr} {t : TA} {id T : String} {r : List V → Hp → VK → Prop}
def tCB (r : List V → Hp → VK → Prop) (t : TA) : TE := fun σ H Q => t σ H fun vs H1 => r vs H1 Q
theorem pe_callB (hc : CallR X (.builtin id) r) (hg : Gl X x) (hm : X.mg x = none) (hv : bootBuiltins x = some (.builtin id)) (ha : PA X (e :: es) t) (hn : x ≠ "__name__" := by decide) (hdb : (x == ("__debug__" : Str)) = false := by decide)
    (he : starEach (e :: es) X.env = (false, eval e X.env) :: starEach es X.env := by rfl) (hpl : (backTo pos (starEach es X.env)).any (·.1) = false := by rfl) : PE X (.Call (.Name x p) (e :: es) [] pos) (tCB r t) := by
  intro pins s σ H Q I h
  refine wpAny_Call_Name_kw (ld_blt I hg hm hv ?_ hn hdb)
  exact PyProof.Rows.callWith_builtin1 (thn (ha pos pins s σ H _ I h) fun us s1 ⟨vs, H1, I1, r1, q1⟩ => hc pins s1 σ H1 vs us Q I1 r1 q1) he hpl
theorem pe_callTy (hc : CallR X (.type T) r) (hg : Gl X x) (hm : X.mg x = none) (hv : bootBuiltins x = some (.type T)) (ha : PA X (e :: es) t) (hn : x ≠ "__name__" := by decide) (hdb : (x == ("__debug__" : Str)) = false := by decide)
    (he : starEach (e :: es) X.env = (false, eval e X.env) :: starEach es X.env := by rfl) (hpl : (backTo pos (starEach es X.env)).any (·.1) = false := by rfl) : PE X (.Call (.Name x p) (e :: es) [] pos) (tCB r t) := by
  intro pins s σ H Q I h
  refine wpAny_Call_Name_kw (ld_blt I hg hm hv ?_ hn hdb)
  exact PyProof.Rows.callWith_type1 (thn (ha pos pins s σ H _ I h) fun us s1 ⟨vs, H1, I1, r1, q1⟩ => hc pins s1 σ H1 vs us Q I1 r1 q1) he hpl
theorem pe_callTy0 (hc : CallR X (.type T) r) (hg : Gl X x) (hm : X.mg x = none) (hv : bootBuiltins x = some (.type T)) (hn : x ≠ "__name__" := by decide) (hdb : (x == ("__debug__" : Str)) = false := by decide) :
    PE X (.Call (.Name x p) [] [] pos) (tCB r tNil) := by
  intro pins s σ H Q I h
  refine wpAny_Call_Name_kw (ld_blt I hg hm hv ?_ hn hdb)
  exact PyProof.Rows.callWith_type0 (hc pins s σ H [] [] Q I .nil h)
end
end L2
namespace HT
open PySem PyProof.Rows
section
open PySem.SeqAt
open PySem.AutoSeq1 (wpAny_loadPart')
open PySem.MeetsSeq PySem.MeetsSeq2 PySem.MeetsSeq3
end
section
variable {prog : Program} {w : World} {A : Around} {E : Value → Shared → Prop} {s : Shared}
def sIx (n d : Nat) : Option Int → Nat
  | none => d
  | some v => if v < 0 then (v + (n : Int)).toNat else min v.toNat n
theorem sIx_none (n d : Nat) : sIx n d none = d := rfl
theorem sIx_nat (n d k : Nat) : sIx n d (some (k : Int)) = min k n := by
  show (if (k : Int) < 0 then ((k : Int) + (n : Int)).toNat else min (k : Int).toNat n) = min k n
  rw [if_neg (by omega), Int.toNat_natCast]
end
end HT
namespace L2
open PySem PySem.Spec PyProof.Rows
abbrev TO := St → Hp → (Option Int → Hp → Prop) → Prop
def PO (X : Cx) (e : Option Expr) (t : TO) : Prop :=
  ∀ (pins : List (Addr × Obj)) (s : Shared) (σ : St) (H : Hp) (Q : Option Int → Hp → Prop), Inv X pins σ H s → t σ H Q →
    wpAny (model X.prog X.w) X.A (evalPart e X.env) (fun u s' => ∃ o H', Inv X pins σ H' s' ∧ IsPart u o ∧ Q o H') X.xe s
def tNoPart : TO := fun _ H Q => Q none H
def tPart (t : TE) : TO := fun σ H Q => t σ H fun x H1 => ∃ i, x = .int i ∧ Q (some i) H1
section
variable {X : Cx} {e : Expr} {te : TE} {lo hi : Option Expr} {tl th : TO} {pos p2 : Pos}
theorem po_none : PO X none tNoPart := by
  intro pins s σ H Q I h
  rw [evalPart_none]
  exact wpAny_pure ⟨none, H, I, .none, h⟩
theorem po_some (h : PE X e te) : PO X (some e) (tPart te) := by
  intro pins s σ H Q I hw
  rw [evalPart_some]
  refine thn (h pins s σ H _ I hw) fun u s1 ⟨x, H1, I1, r1, q1⟩ => ?_
  obtain ⟨i, rfl, q⟩ := q1
  obtain ⟨t, rfl⟩ := r1
  exact ⟨some i, H1, I1, .int i t, q⟩
def SlR (X : Cx) (r : V → Option Int → Option Int → Hp → VK → Prop) : Prop :=
  ∀ (pins : List (Addr × Obj)) (s : Shared) (σ : St) (H : Hp) (x : V) (v vl vu : Value) (lo hi : Option Int) (sl : Addr) (Q : VK), Inv X pins σ H s → RelV x v → s.heap.IsSliceOf sl vl vu .none → IsPart vl lo → IsPart vu hi → r x lo hi H Q →
    ∃ T id, typeLookup (.type T) "__getitem__" = pure (some (.builtin id)) ∧ s.TypeIs v T ∧ wpAny (model X.prog X.w) X.A (getItem v (.ref sl)) (EP X pins σ Q) X.xe s
def tSl (r : V → Option Int → Option Int → Hp → VK → Prop) (te : TE) (tl th : TO) : TE := fun σ H Q => te σ H fun x H1 => tl σ H1 fun l H2 => th σ H2 fun u H3 => r x l u H3 Q
theorem pe_slice {r : V → Option Int → Option Int → Hp → VK → Prop} (hr : SlR X r) (he : PE X e te) (hl : PO X lo tl) (hu : PO X hi th) : PE X (.Subscript e (.Slice lo hi none p2) pos) (tSl r te tl th) := by
  intro pins s σ H Q I h
  refine Subscript_ (thn (he pins s σ H _ I h) fun v s1 ⟨x, H1, I1, r1, q1⟩ => ?_)
  refine wpAny_Slice (thn (hl pins s1 σ H1 _ I1 q1) fun vl s2 ⟨l, H2, I2, pl, q2⟩ => thn (hu pins s2 σ H2 _ I2 q2) fun vu s3 ⟨u, H3, I3, pu, q3⟩ => ?_)
  rw [evalPart_none]
  refine wpAny_pure ?_
  have I4 : Inv X pins σ H3 { s3 with heap := s3.heap.push { cls := .type "slice", data := .fields #[vl, vu, .none] } } := I3.kept (t' := s3.toks) fun b ob q => Heap.get?_push_of_some _ q
  obtain ⟨T, id, hT, ht, hg⟩ := hr pins { s3 with heap := s3.heap.push { cls := .type "slice", data := .fields #[vl, vu, .none] } } σ H3 x v vl vu l u s3.heap.objs.size Q I4 r1 (Heap.IsSliceOf.new ..) pl pu q3
  show wpAny (model X.prog X.w) X.A (subscriptTail e (.Slice lo hi none p2) v (.ref s3.heap.objs.size)) (EP X pins σ Q) X.xe { s3 with heap := s3.heap.push { cls := .type "slice", data := .fields #[vl, vu, .none] } }
  exact tail_any (ops := [.ref s3.heap.objs.size, v]) ht hT hg (by with_unfolding_all rfl)
def cutV (xs : List V) (lo hi : Option Int) : List V := (xs.drop (HT.sIx xs.length 0 lo)).take (HT.sIx xs.length xs.length hi - HT.sIx xs.length 0 lo)
theorem cutV_length (xs : List V) (lo hi : Option Int) : (cutV xs lo hi).length ≤ xs.length := by
  unfold cutV
  rw [List.length_take, List.length_drop]
  omega
end
end L2
namespace L2
open PySem PySem.Spec PyProof.Rows
def ixN (n : Nat) (i : Int) : Option Nat := if 0 ≤ i then (if i < n then some i.toNat else none) else if -(n : Int) ≤ i then some (i + n).toNat else none
def atI {α : Type} (xs : List α) (i : Int) : Option α := (ixN xs.length i).bind fun j => xs[j]?
theorem ixN_seq {n : Nat} {i : Int} {j : Nat} (h : ixN n i = some j) : seqIndex? i n = some j ∧ j < n ∧ -(n : Int) ≤ i ∧ i < n := by
  unfold ixN at h
  by_cases h0 : 0 ≤ i
  · rw [if_pos h0] at h
    by_cases h1 : i < n
    · rw [if_pos h1] at h
      have e : i.toNat = j := Option.some.inj h
      exact ⟨by rw [seqIndex_of h0 h1, e], by omega, by omega, h1⟩
    · rw [if_neg h1] at h; cases h
  · rw [if_neg h0] at h
    by_cases h1 : -(n : Int) ≤ i
    · rw [if_pos h1] at h
      have e : (i + n).toNat = j := Option.some.inj h
      exact ⟨by rw [seqIndex_neg (by omega) h1, e], by omega, h1, by omega⟩
    · rw [if_neg h1] at h; cases h
theorem atI_get {α : Type} {xs : List α} {i : Int} {v : α} (h : atI xs i = some v) : ∃ j, seqIndex? i xs.length = some j ∧ xs[j]? = some v ∧ j < xs.length ∧ -(xs.length : Int) ≤ i ∧ i < xs.length := by
  unfold atI at h
  cases e : ixN xs.length i with
  | none => rw [e] at h; cases h
  | some j =>
    rw [e] at h
    obtain ⟨h1, h2, h3, h4⟩ := ixN_seq e
    exact ⟨j, h1, h, h2, h3, h4⟩
theorem atI_nat {α : Type} {xs : List α} {j : Nat} {v : α} (h : xs[j]? = some v) : atI xs (j : Int) = some v := by
  have hj : j < xs.length := (List.getElem?_eq_some_iff.mp h).1
  have e : ixN xs.length (j : Int) = some j := by
    unfold ixN
    rw [if_pos (by omega), if_pos (by omega)]; simp
  unfold atI; rw [e]; exact h
theorem atI_last {α : Type} (xs : List α) (v : α) : atI (xs ++ [v]) (-1) = some v := by
  have hl : (xs ++ [v]).length = xs.length + 1 := by simp
  have e : ixN (xs ++ [v]).length (-1) = some xs.length := by
    unfold ixN
    rw [hl, if_neg (by decide), if_pos (by omega)]
    congr 1
    omega
  unfold atI
  rw [e]
  show (xs ++ [v])[xs.length]? = some v
  simp
def PlainIx (b : Expr) : Prop := ∀ o i, subscripted b false o i = operate [o, i] (getItem o i)
def IxR (X : Cx) (r : R2) : Prop :=
  ∀ (value slice : Expr) (pins : List (Addr × Obj)) (s : Shared) (σ : St) (H : Hp) (x y : V) (v u : Value) (Q : VK), Inv X pins σ H s → RelV x v → RelV y u → r x y H Q →
    subscripted slice false v u = operate [v, u] (getItem v u) → wpAny (model X.prog X.w) X.A (subscriptTail value slice v u) (EP X pins σ Q) X.xe s
def MtR (X : Cx) (id : String) (r : V → List V → Hp → VK → Prop) : Prop :=
  ∀ (pins : List (Addr × Obj)) (s : Shared) (σ : St) (H : Hp) (x : V) (xs : List V) (v : Value) (us : List Value) (Q : VK), Inv X pins σ H s → RelV x v → Vals xs us → r x xs H Q →
    wpAny (model X.prog X.w) X.A (call (.builtin id) (v :: us)) (EP X pins σ Q) X.xe s
section
variable {X : Cx} {a b : Expr} {ta tb : TE} {pos : Pos}
theorem pe_ix {r : R2} (hr : IxR X r) (ha : PE X a ta) (hb : PE X b tb) (hs : PlainIx b) : PE X (.Subscript a b pos) (tOp r ta tb) := by
  intro pins s σ H Q I h
  exact Subscript_ (binT ha hb I h fun v u s2 x y H2 I2 rx ry q => hr a b pins s2 σ H2 x y v u Q I2 rx ry q (hs _ _))
def rIxL (K : PySem.W.Frag) : R2 := fun x y H Q => ∃ p xs i v, x = .ref p ∧ y = .int i ∧ SqL K H p xs ∧ atI xs i = some v ∧ Q v H
def rIxT (K : PySem.W.Frag) : R2 := fun x y H Q => ∃ p xs i v, x = .ref p ∧ y = .int i ∧ SqT K H p xs ∧ atI xs i = some v ∧ Q v H
def rIxS : R2 := fun x y H Q => ∃ z i c, x = .str z ∧ y = .int i ∧ z.length ≤ sizeLine ∧ atI z.cps.toList i = some c ∧ Q (.str ⟨#[c]⟩) H
theorem ix_list : IxR X (rIxL X.K) := by
  intro value slice pins s σ H x y v u Q I rx ry h hs
  obtain ⟨p, xs, i, z, rfl, rfl, hq, he, q⟩ := h
  cases rx
  obtain ⟨t, rfl⟩ := ry
  obtain ⟨its, r, pl, hz⟩ := I.list hq
  obtain ⟨j, h1, h2, h3, h4, h5⟩ := atI_get he
  obtain ⟨w, ew, rw'⟩ := r.get h2
  have hl := r.length
  have hn := line63
  have fin : EP X pins σ Q w s := ⟨z, H, I, rw', q⟩
  by_cases h0 : 0 ≤ i
  · have hj : i.toNat = j := by
      rw [seqIndex_of h0 h5] at h1
      exact Option.some.inj h1
    exact item_listR pl.isList h0 (by omega) (by rw [hj]; simpa using ew) fin hs
  · have hj : (i + (its.toArray.size : Int)).toNat = j := by
      rw [seqIndex_neg (by omega) h4] at h1
      rw [List.size_toArray, ← hl]
      exact Option.some.inj h1
    exact subscriptTail_builtinR (x := w) pl.isList.typeIs slot_list_getitem.lookup
      (wpAny_getItem_list_neg (Q := fun r s' => r = w ∧ EP X pins σ Q r s') pl.isList (by omega) (by rw [List.size_toArray] <;> omega) (by omega) (by rw [hj]; simpa using ew) ⟨rfl, fin⟩) hs
theorem ix_tup : IxR X (rIxT X.K) := by
  intro value slice pins s σ H x y v u Q I rx ry h hs
  obtain ⟨p, xs, i, z, rfl, rfl, hq, he, q⟩ := h
  cases rx
  obtain ⟨t, rfl⟩ := ry
  obtain ⟨its, r, pl, hz⟩ := I.tuple hq
  obtain ⟨j, h1, h2, h3, h4, h5⟩ := atI_get he
  obtain ⟨w, ew, rw'⟩ := r.get h2
  have hl := r.length
  have hn := line63
  have fin : EP X pins σ Q w s := ⟨z, H, I, rw', q⟩
  exact subscriptTail_builtinR (x := w) pl.typeIs slot_tuple_getitem.lookup
    (getItem_tuple (j := j) (Q := fun r s' => r = w ∧ EP X pins σ Q r s') pl (by omega) (by omega) (by rw [List.size_toArray, ← hl]; exact h1) (by simpa using ew) ⟨rfl, fin⟩) hs
theorem ix_str : IxR X rIxS := by
  intro value slice pins s σ H x y v u Q I rx ry h hs
  obtain ⟨z, i, c, rfl, rfl, hz, he, q⟩ := h
  obtain ⟨t, rfl⟩ := rx
  obtain ⟨t', rfl⟩ := ry
  obtain ⟨j, h1, h2, h3, h4, h5⟩ := atI_get he
  have hl : z.cps.toList.length = z.length := by simp [Str.length]
  rw [hl] at h1 h4 h5
  have hn := line63
  exact tail_any (typeIs_str s z t) slot_str_getitem.lookup (getItem_str (c := c) (by
    have e1 : decide (i < -(2 ^ 63 : Int)) = false := decide_eq_false (by omega)
    have e2 : decide (i ≥ 2 ^ 63) = false := decide_eq_false (by omega)
    rw [e1, e2, Bool.or_false]) (by rw [h1]; simpa using h2) ⟨.str ⟨#[c]⟩, H, I.tok _, ⟨_, rfl⟩, q⟩) hs
theorem slice_bounds (lo hi : Option Int) (n : Nat) : (sliceBounds lo hi none n).1 = ((HT.sIx n 0 lo : Nat) : Int) ∧ (sliceBounds lo hi none n).2.1 = ((HT.sIx n n hi : Nat) : Int) ∧ (sliceBounds lo hi none n).2.2 = 1 := by
  refine ⟨?_, ?_, rfl⟩
  · cases lo with
    | none => simp [sliceBounds, HT.sIx]
    | some i =>
      simp only [sliceBounds, HT.sIx, Option.getD_none, show (1 : Int) > 0 by decide, if_true]
      by_cases h : i < 0
      · simp only [h, if_true] <;> omega
      · simp only [h, if_false] <;> omega
  · cases hi with
    | none => simp [sliceBounds, HT.sIx]
    | some i =>
      simp only [sliceBounds, HT.sIx, Option.getD_none, show (1 : Int) > 0 by decide, if_true]
      by_cases h : i < 0
      · simp only [h, if_true] <;> omega
      · simp only [h, if_false] <;> omega
theorem slicePick_cut (its : List Value) (lo hi : Option Int) : slicePick its.toArray lo hi none = ((its.drop (HT.sIx its.length 0 lo)).take (HT.sIx its.length its.length hi - HT.sIx its.length 0 lo)).toArray := by
  obtain ⟨h1, h2, h3⟩ := slice_bounds lo hi its.toArray.size
  unfold slicePick
  rw [h1, h2, h3]
  simp only [sliceRange_one, pick_run, List.size_toArray] <;> rfl
def rSlL (K : PySem.W.Frag) : V → Option Int → Option Int → Hp → VK → Prop := fun x lo hi H Q => ∃ a xs, x = .ref a ∧ SqL K H a xs ∧ ∀ p, H p = none → Q (.ref p) (upd H p (.lst (cutV xs lo hi)))
theorem sl_list : SlR X (rSlL X.K) := by
  intro pins s σ H x v vl vu lo hi sl Q I rx hs pl pu h
  obtain ⟨a, xs, rfl, hx, q⟩ := h
  cases rx
  obtain ⟨its, r, ht, hz⟩ := I.list hx
  have hlen := r.length
  refine ⟨"list", _, slot_list_getitem.lookup, ht.isList.typeIs, ?_⟩
  refine wpAny_getItem_list_slice ht.isList hs pl pu .none (by simp) ?_ (by rw [List.size_toArray] <;> omega)
  rw [slicePick_cut, ← hlen]
  refine ⟨.ref s.heap.objs.size, _, I.laid (t' := s.toks) (o := .lst (cutV xs lo hi)) (fun b ob q => Heap.get?_push_of_some _ q) (Nat.le_refl _) ?_, rfl, q _ (I.hok.fresh (Nat.le_refl _))⟩
  exact ⟨Nat.le_trans (cutV_length xs lo hi) hz, _, 0, (r.drop (HT.sIx xs.length 0 lo)).take (HT.sIx xs.length xs.length hi - HT.sIx xs.length 0 lo), Heap.get?_push_size _ rfl⟩
def flatV : V → Bool
  | .non => true
  | .bl _ => true
  | .int _ => true
  | .str _ => true
  | _ => false
def eqV : V → V → Bool
  | .non, .non => true
  | .bl a, .bl b => a == b
  | .bl a, .int b => (if a then 1 else 0) == b
  | .int a, .bl b => a == (if b then 1 else 0)
  | .int a, .int b => a == b
  | .str a, .str b => a == b
  | _, _ => false
theorem eqAt_V {A : Around} {s : Shared} {y x : V} {u v : Value} (ry : RelV y u) (rx : RelV x v) (fy : flatV y = true) (fx : flatV x = true) : SeqAt.EqAt A s u v (eqV y x) := by
  cases y with
  | non =>
    cases ry
    cases x with
    | non => cases rx; exact SeqAt.EqAt.same _
    | bl b => cases rx; exact SeqAt.EqAt.none_bool b
    | int b => obtain ⟨t, rfl⟩ := rx; exact SeqAt.EqAt.none_int b t
    | str b => obtain ⟨t, rfl⟩ := rx; exact SeqAt.EqAt.none_str b t
    | _ => exact absurd (show false = true from fx) Bool.false_ne_true
  | bl a =>
    cases ry
    cases x with
    | non => cases rx; exact SeqAt.EqAt.bool_none a
    | bl b => cases rx; exact SeqAt.EqAt.bool_bool a b
    | int b => obtain ⟨t, rfl⟩ := rx; exact SeqAt.EqAt.bool_int a b t
    | str b => obtain ⟨t, rfl⟩ := rx; exact SeqAt.EqAt.bool_str a b t
    | _ => exact absurd (show false = true from fx) Bool.false_ne_true
  | int a =>
    obtain ⟨t', rfl⟩ := ry
    cases x with
    | non => cases rx; exact SeqAt.EqAt.int_none a t'
    | bl b => cases rx; exact SeqAt.EqAt.int_bool a t' b
    | int b => obtain ⟨t, rfl⟩ := rx; exact SeqAt.EqAt.int_int a t' b t
    | str b => obtain ⟨t, rfl⟩ := rx; exact SeqAt.EqAt.int_str a t' b t
    | _ => exact absurd (show false = true from fx) Bool.false_ne_true
  | str a =>
    obtain ⟨t', rfl⟩ := ry
    cases x with
    | non => cases rx; exact SeqAt.EqAt.str_none a t'
    | bl b => cases rx; exact SeqAt.EqAt.str_bool a t' b
    | int b => obtain ⟨t, rfl⟩ := rx; exact SeqAt.EqAt.str_int a t' b t
    | str b => obtain ⟨t, rfl⟩ := rx; exact SeqAt.EqAt.str_str a t' b t
    | _ => exact absurd (show false = true from fx) Bool.false_ne_true
  | _ => exact absurd (show false = true from fy) Bool.false_ne_true
def eqU (x : V) (u : Value) : Bool := match u with
  | .none => eqV .non x
  | .bool b => eqV (.bl b) x
  | .int i _ => eqV (.int i) x
  | .str z _ => eqV (.str z) x
  | _ => false
theorem eqU_of {x y : V} {u : Value} (r : RelV y u) (f : flatV y = true) : eqU x u = eqV y x := by
  cases y with
  | non => cases r; rfl
  | bl b => cases r; rfl
  | int i => obtain ⟨t, rfl⟩ := r; rfl
  | str z => obtain ⟨t, rfl⟩ := r; rfl
  | _ => exact absurd (show false = true from f) Bool.false_ne_true
theorem mem_eqAt {A : Around} {s : Shared} {x : V} {v : Value} (rx : RelV x v) (fx : flatV x = true) : ∀ {xs : List V} {us : List Value}, Vals xs us → xs.all flatV = true → ∀ u ∈ us, SeqAt.EqAt A s u v (eqU x u)
  | _, _, .nil, _ => fun u hu => by cases hu
  | y :: xs, u :: us, .cons r t, f => fun u' hu => by
    rw [List.all_cons, Bool.and_eq_true] at f
    rcases List.mem_cons.mp hu with rfl | hu
    · rw [eqU_of r f.1]; exact eqAt_V r rx f.1 fx
    · exact mem_eqAt rx fx t f.2 u' hu
theorem call_len_seq : CallR X (.builtin "len") (fun xs H Q => ∃ p ys, xs = [.ref p] ∧ (SqL X.K H p ys ∨ SqT X.K H p ys) ∧ Q (.int ys.length) H) := by
  intro pins s σ H xs us Q I r h
  obtain ⟨p, ys, rfl, hq, q⟩ := h
  obtain ⟨u, rfl, rx⟩ := vals1 r
  cases rx
  have hn := line63
  rcases hq with hq | hq
  · obtain ⟨its, r', pl, hz⟩ := I.list hq
    have hlen := r'.length
    exact Calls.call_len_list pl.isList (by simp only [List.size_toArray] <;> omega) ⟨.int ys.length, H, I.tok _, ⟨s.toks + 1, by rw [List.size_toArray, hlen]⟩, q⟩
  · obtain ⟨its, r', pl, hz⟩ := I.tuple hq
    have hlen := r'.length
    exact len_tuple pl (by simp only [List.size_toArray] <;> omega) ⟨.int ys.length, H, I.tok _, ⟨s.toks + 1, by rw [List.size_toArray, hlen]⟩, q⟩
theorem call_len_str : CallR X (.builtin "len") (fun xs H Q => ∃ z, xs = [.str z] ∧ z.length ≤ sizeLine ∧ Q (.int z.length) H) := by
  intro pins s σ H xs us Q I r h
  obtain ⟨z, rfl, hz, q⟩ := h
  obtain ⟨u, rfl, t, rfl⟩ := vals1 r
  have hn := line63
  exact len_str (by omega) ⟨.int z.length, H, I.tok _, ⟨_, rfl⟩, q⟩
theorem call_list_of : CallR X (.type "list") (fun xs H Q => ∃ p ys, xs = [.ref p] ∧ (SqL X.K H p ys ∨ SqT X.K H p ys) ∧ ∀ l, H l = none → Q (.ref l) (upd H l (.lst ys))) := by
  intro pins s σ H xs us Q I r h
  obtain ⟨p, ys, rfl, hq, q⟩ := h
  obtain ⟨u, rfl, rx⟩ := vals1 r
  cases rx
  have fin : ∀ (its : List Value), Vals ys its → ys.length ≤ sizeLine → ∀ (h' : Heap) (c' : Nat), (∀ b o', s.heap.get? b = some o' → h'.get? b = some o') →
      h'.get? s.heap.objs.size = some { cls := .type "list", dict := none, data := .seq its.toArray c', slots := #[] } → EP X pins σ Q (.ref s.heap.objs.size) { s with heap := h' } := fun its r' hz h' c' kp e =>
    ⟨.ref s.heap.objs.size, _, I.laid (t' := s.toks) kp (Nat.le_refl _) (show ObjOk X.prog X.w _ h' _ (.lst ys) from ⟨hz, its, c', r', e⟩), rfl, q _ (I.hok.fresh (Nat.le_refl _))⟩
  rcases hq with hq | hq
  · obtain ⟨its, r', pl, hz⟩ := I.list hq
    have hlen := r'.length
    obtain ⟨o, ho, hc, n, hd⟩ := pl.isList
    exact call_list_seq p (.inl rfl) ho hc hd (fun h' c' kp e => fin its r' hz h' c' kp e) (by simp only [List.size_toArray] <;> omega)
  · obtain ⟨its, r', pl, hz⟩ := I.tuple hq
    have hlen := r'.length
    obtain ⟨o, ho, hc, n, hd⟩ := pl
    exact call_list_seq p (.inr rfl) ho hc hd (fun h' c' kp e => fin its r' hz h' c' kp e) (by simp only [List.size_toArray] <;> omega)
theorem call_tuple_of : CallR X (.type "tuple") (fun xs H Q => ∃ p ys, xs = [.ref p] ∧ ((SqL X.K H p ys ∧ ∀ l, H l = none → Q (.ref l) (upd H l (.tup ys))) ∨ (SqT X.K H p ys ∧ Q (.ref p) H))) := by
  intro pins s σ H xs us Q I r h
  obtain ⟨p, ys, rfl, h⟩ := h
  obtain ⟨u, rfl, rx⟩ := vals1 r
  cases rx
  rcases h with ⟨hq, q⟩ | ⟨hq, q⟩
  · obtain ⟨its, r', pl, hz⟩ := I.list hq
    have hlen := r'.length
    refine call_tuple_list pl.isList (fun h' kp => ?_) (by simp only [List.size_toArray] <;> omega)
    have I1 : Inv X pins σ H { s with heap := h' } := I.kept (t' := s.toks) kp
    have I2 : Inv X pins σ (upd H h'.objs.size (.tup ys)) { s with heap := h'.push { cls := .type "tuple", data := .seq its.toArray } } :=
      I1.laid (t' := s.toks) (fun b o e => Heap.get?_push_of_some _ e) (Nat.le_refl _) (show ObjOk X.prog X.w _ _ _ (.tup ys) from ⟨hz, its, r', IsTup.new _ _⟩)
    exact ⟨.ref h'.objs.size, _, I2, rfl, q _ (I1.hok.fresh (Nat.le_refl _))⟩
  · obtain ⟨its, r', pl, hz⟩ := I.tuple hq
    exact call_tuple_same pl ⟨.ref p, H, I, rfl, q⟩
def tyV (K : PySem.W.Frag) (T : String) (x : V) (H : Hp) : Prop := match x with
  | .str _ => T = "str"
  | .int _ => T = "int"
  | .ref p => (T = "list" ∧ ∃ xs, SqL K H p xs) ∨ (T = "tuple" ∧ ∃ o, K.lookup p = some o ∧ o.cls = .type "tuple" ∧ o.dict = none) ∨
      (T = "dict" ∧ ((∃ kvs, H p = some (.dK kvs)) ∨ ∃ kvs, H p = some (.dT kvs))) ∨ (T = "set" ∧ ∃ S n, H p = some (.set S n))
  | _ => False
theorem tyV_is {pins : List (Addr × Obj)} {σ : St} {H : Hp} {s : Shared} {T : String} {x : V} {v : Value} (I : Inv X pins σ H s) (r : RelV x v) (ty : tyV X.K T x H) :
    s.TypeIs v T ∧ ∀ a, v = .ref a → ∃ ob, s.heap.get? a = some ob ∧ ob.dict = none := by
  cases x with
  | str z =>
    obtain ⟨t, rfl⟩ := r
    cases (show T = "str" from ty)
    exact ⟨typeIs_str s z t, fun _ e => nomatch e⟩
  | int i =>
    obtain ⟨t, rfl⟩ := r
    cases (show T = "int" from ty)
    exact ⟨typeIs_int s i t, fun _ e => nomatch e⟩
  | ref p =>
    cases r
    rcases ty with ⟨rfl, xs, hq⟩ | ⟨rfl, o, hk, hc, hd⟩ | ⟨rfl, hk⟩ | ⟨rfl, S, n, hk⟩
    · obtain ⟨its, _, pl, _⟩ := I.list hq
      refine ⟨pl.isList.typeIs, fun a e => ?_⟩
      cases e
      obtain ⟨o, n, e, c, hd, _⟩ := pl
      exact ⟨o, e, hd⟩
    · refine ⟨⟨o, I.kIn p o hk, hc⟩, fun a e => ?_⟩
      cases e
      exact ⟨o, I.kIn _ o hk, hd⟩
    · have z : ∃ o, s.heap.get? p = some o ∧ o.ExactDict := by
        rcases hk with ⟨kvs, hk⟩ | ⟨kvs, hk⟩
        · obtain ⟨_, _, _, _, o, _, _, e, ex, _⟩ := I.hok p _ hk
          exact ⟨o, e, ex⟩
        · obtain ⟨_, _, _, _, o, _, _, e, ex, _⟩ := I.hok p _ hk
          exact ⟨o, e, ex⟩
      obtain ⟨o, e, ex⟩ := z
      refine ⟨⟨o, e, ex.1⟩, fun a e2 => ?_⟩
      cases e2
      exact ⟨o, e, ex.2.1⟩
    · obtain ⟨o, _, _, _, e, ex, _⟩ := I.hok p _ hk
      refine ⟨⟨o, e, ex.1⟩, fun a e2 => ?_⟩
      cases e2
      exact ⟨o, e, ex.2.1⟩
  | _ => exact False.elim ty
def tBM0 (K : PySem.W.Frag) (T : String) (r : V → List V → Hp → VK → Prop) (to : TE) : TE := fun σ H Q => to σ H fun x H1 => tyV K T x H1 ∧ r x [] H1 Q
def tBM (K : PySem.W.Frag) (T : String) (r : V → List V → Hp → VK → Prop) (to : TE) (t : TA) : TE := fun σ H Q => to σ H fun x H1 => tyV K T x H1 ∧ t σ H1 fun xs H2 => r x xs H2 Q
variable {o e : Expr} {es : List Expr} {to : TE} {t : TA} {name : Str} {apos cpos : Pos} {T id : String} {r : V → List V → Hp → VK → Prop}
theorem pe_bm0 (pa : PlainAttrs T) (slot : Slot T name id) (hty : typeOf (.builtin id) = pure (.type "method_descriptor")) (hm : MtR X id r) (ho : PE X o to)
    (hbase : attributeBase o name X.env (eval o X.env) = eval o X.env := by rfl) (hline : (apos.endLine == cpos.line) = true := by rfl) : PE X (.Call (.Attribute o name apos) [] [] cpos) (tBM0 X.K T r to) := by
  intro pins s σ H Q I h
  refine wpAny_Call_method0_late hbase hline (thn (ho pins s σ H _ I h) fun v s1 ⟨x, H1, I1, r1, ty, q1⟩ => ?_)
  obtain ⟨h1, h2⟩ := tyV_is I1 r1 ty
  exact ⟨T, id, pa, slot, hty, h1, h2, Calls.callWith_builtin rfl (PySem.evalArgs_none (hm pins s1 σ H1 x [] v [] Q I1 r1 .nil q1))⟩
theorem pe_bm (pa : PlainAttrs T) (slot : Slot T name id) (hty : typeOf (.builtin id) = pure (.type "method_descriptor")) (hm : MtR X id r) (ho : PE X o to) (ha : PA X (e :: es) t)
    (hbase : attributeBase o name X.env (eval o X.env) = eval o X.env := by rfl)
    (hfew : ((backTo cpos (starEach (e :: es) X.env)).all (fun x => !x.1) && (backToKw cpos (keywordEach [] X.env)).all (fun x => x.1.isSome)
      && decide ((e :: es).length + ([] : List Keyword).length + (if ([] : List Keyword).isEmpty then 0 else 1) < 30)) = true := by rfl)
    (hline : (apos.endLine == cpos.line) = true := by rfl) (hs : starEach (e :: es) X.env = (false, eval e X.env) :: starEach es X.env := by rfl) (hplain : (backTo cpos (starEach es X.env)).any (·.1) = false := by rfl) :
    PE X (.Call (.Attribute o name apos) (e :: es) [] cpos) (tBM X.K T r to t) := by
  intro pins s σ H Q I h
  refine wpAny_Call_method_late hbase hfew hline rfl (thn (ho pins s σ H _ I h) fun v s1 ⟨x, H1, I1, r1, ty, q1⟩ => ?_)
  obtain ⟨h1, h2⟩ := tyV_is I1 r1 ty
  refine ⟨T, id, pa, slot, hty, h1, h2, ?_⟩
  have hA := ha cpos pins s1 σ H1 _ I1 q1
  rw [hs] at hA ⊢
  refine Calls.callWith_builtin (by show (false || (backTo cpos (starEach es X.env)).any (·.1)) = false; rw [hplain] <;> rfl) (Calls.evalArgs_plain ?_)
  exact thn hA fun us s2 ⟨vs, H2, I2, r2, q2⟩ => hm pins s2 σ H2 x vs v us Q I2 r1 r2 q2
/- xs.append(e), list.index on a module's tuple .. are MtR facts of 06m -/
end
end L2
namespace L2
open PySem PySem.Spec PyProof.Rows
def MtM (X : Cx) (id : String) (r : V → List V → Hp → VK → Prop) : Prop :=
  ∀ (pins : List (Addr × Obj)) (s : Shared) (σ : St) (H : Hp) (x : V) (xs : List V) (v : Value) (us : List Value) (Q : VK), Inv X pins σ H s → RelV x v → Vals xs us → r x xs H Q →
    wpAny (model X.prog X.w) X.A (call (.builtin id) (v :: us)) (EP X pins σ Q) X.xe s
theorem Vals.one : ∀ {x : V} {us : List Value}, Vals [x] us → ∃ u, us = [u] ∧ RelV x u
  | _, _, .cons r .nil => ⟨_, rfl, r⟩
theorem Vals.zero : ∀ {us : List Value}, Vals [] us → us = []
  | _, .nil => rfl
theorem Vals.eraseIdx : ∀ {xs : List V} {us : List Value} (i : Nat), Vals xs us → Vals (xs.eraseIdx i) (us.eraseIdx i)
  | _, _, _, .nil => .nil
  | _, _, 0, .cons _ t => t
  | _, _, i + 1, .cons r t => .cons r (Vals.eraseIdx i t)
theorem Vals.rep {xs : List V} {us : List Value} (h : Vals xs us) : ∀ k : Nat, Vals (List.replicate k xs).flatten (List.replicate k us).flatten
  | 0 => .nil
  | k + 1 => by
    rw [List.replicate_succ, List.replicate_succ, List.flatten_cons, List.flatten_cons]
    exact Vals.append h (Vals.rep h k)
theorem len_erase {α : Type} : ∀ (l : List α) (i : Nat), (l.eraseIdx i).length ≤ l.length
  | [], _ => Nat.le_refl _
  | _ :: _, 0 => Nat.le_succ _
  | _ :: r, i + 1 => Nat.succ_le_succ (len_erase r i)
theorem foldl_rep (its : List Value) : ∀ (k : Nat) (acc : List Value),
    List.foldl (fun x1 x2 => x1 ++ x2) acc.toArray (List.replicate k its.toArray) = (acc ++ (List.replicate k its).flatten).toArray
  | 0, acc => by simp
  | k + 1, acc => by
    have e : acc.toArray ++ its.toArray = (acc ++ its).toArray := by simp
    have e2 : (acc ++ its) ++ (List.replicate k its).flatten = acc ++ (List.replicate (k + 1) its).flatten := by
      rw [List.replicate_succ, List.flatten_cons, List.append_assoc]
    rw [← e2, ← foldl_rep its k (acc ++ its), ← e, List.replicate_succ, List.foldl_cons]
section
variable {X : Cx} {pins : List (Addr × Obj)} {σ : St} {H : Hp} {s : Shared} {l b : Addr} {xs ys zs : List V}
theorem Inv.lset {its its' : List Value} {n : Nat} {f : Array Value → Array Value} {t' : Nat} (I : Inv X pins σ H s) (hH : H l = some (.lst xs))
    (e : s.heap.get? l = some { cls := .type "list", data := .seq its.toArray n }) (hf : f its.toArray = its'.toArray) (hv : Vals ys its') (hz : ys.length ≤ sizeLine) :
    Inv X pins σ (upd H l (.lst ys)) { s with heap := s.heap.update l (Obj.mapSeq f), toks := t' } := by
  have q := PySem.IsL.update e f
  rw [hf] at q
  refine I.write (x := l) (e := l) (by rw [hH]; exact trivial) (.inl rfl) (fun b' u hb hu => (Heap.get?_update_other s.heap (Obj.mapSeq f) (Ne.symm hb)).trans hu) ⟨_, q⟩ ?_
  exact ⟨hz, its', _, hv, q⟩
theorem Inv.lnew {its : List Value} {t' : Nat} (I : Inv X pins σ H s) (hv : Vals ys its) (hz : ys.length ≤ sizeLine) :
    Inv X pins σ (upd H s.heap.objs.size (.lst ys)) { s with heap := s.heap.push { cls := .type "list", data := .seq its.toArray }, toks := t' } :=
  I.laid (fun _ _ q => Heap.get?_push_of_some _ q) (Nat.le_refl _) ⟨hz, its, 0, hv, Heap.get?_push_size _ rfl⟩
theorem Inv.fresh (I : Inv X pins σ H s) : H s.heap.objs.size = none := I.hok.fresh (Nat.le_refl _)
theorem Inv.lstM (I : Inv X pins σ H s) (hH : H l = some (.lst xs)) : xs.length ≤ sizeLine ∧ ∃ (its : List Value) (n : Nat), Vals xs its ∧ xs.length = its.length ∧ s.heap.get? l = some { cls := .type "list", data := .seq its.toArray n } := by
  obtain ⟨z, its, n, r, e⟩ := I.hok l _ hH
  exact ⟨z, its, n, r, r.length, e⟩
theorem notLongL {n : Nat} (h : n ≤ sizeLine) : Builtin.List.listTooLong n = false := by
  unfold Builtin.List.listTooLong
  exact decide_eq_false (by omega)
end
section
variable {X : Cx}
def rAppend : V → List V → Hp → VK → Prop := fun x vs H Q => ∃ l xs y, x = .ref l ∧ vs = [y] ∧ H l = some (.lst xs) ∧ xs.length < sizeLine ∧ Q .non (upd H l (.lst (xs ++ [y])))
theorem mt_append : MtM X "list.append" rAppend := by
  intro pins s σ H x vs v us Q I rx rv h
  obtain ⟨l, xs, y, rfl, rfl, hH, hz, q⟩ := h
  cases rx
  obtain ⟨u, rfl, ru⟩ := rv.one
  obtain ⟨z, its, n, r, hl, e⟩ := I.lstM hH
  refine call_meets F.slot_list_append ⟨_, e, rfl⟩ F.entry_list_append (F.args_list_append_2 _ _) (PySem.list_append l its.toArray n u (by rw [List.size_toArray]; omega)) ⟨e, ?_⟩
  refine ⟨.non, _, I.lset (its' := its ++ [u]) hH e (by simp) (r.append (.cons ru .nil)) ?_, rfl, q⟩
  rw [List.length_append, List.length_singleton]
  omega
def rPopAt : V → List V → Hp → VK → Prop := fun x vs H Q => ∃ l xs i k y, x = .ref l ∧ vs = [.int i] ∧ H l = some (.lst xs) ∧ -(2 ^ 63) ≤ i ∧ i < 2 ^ 63 ∧ seqIndex? i xs.length = some k ∧ xs[k]? = some y ∧ Q y (upd H l (.lst (xs.eraseIdx k)))
theorem mt_popAt : MtM X "list.pop" rPopAt := by
  intro pins s σ H x vs v us Q I rx rv h
  obtain ⟨l, xs, i, k, y, rfl, rfl, hH, h1, h2, hk, hy, q⟩ := h
  cases rx
  obtain ⟨u, rfl, ru⟩ := rv.one
  obtain ⟨t, rfl⟩ := ru
  obtain ⟨z, its, n, r, hl, e⟩ := I.lstM hH
  obtain ⟨w, hw, rw'⟩ := r.get hy
  refine call_meets F.slot_list_pop ⟨_, e, rfl⟩ F.entry_list_pop (F.args_list_pop_2 _ _)
    (MeetsSeq.list_pop_at l its.toArray n i t k w (fitsIndex_both h1 h2) (by rw [List.size_toArray, ← hl]; exact hk) (by rw [← Array.getElem?_toList]; exact hw) (by rw [List.size_toArray]; omega)) ⟨e, ?_⟩
  refine ⟨y, _, I.lset (its' := its.eraseIdx k) hH e ?_ (r.eraseIdx k) ?_, rw', q⟩
  · show its.toArray.eraseIdxIfInBounds k = (its.eraseIdx k).toArray
    rw [List.eraseIdxIfInBounds_toArray]
  · have := len_erase xs k
    omega
def rClear : V → List V → Hp → VK → Prop := fun x vs H Q => ∃ l xs, x = .ref l ∧ vs = [] ∧ H l = some (.lst xs) ∧ Q .non (upd H l (.lst []))
theorem mt_clear : MtM X "list.clear" rClear := by
  intro pins s σ H x vs v us Q I rx rv h
  obtain ⟨l, xs, rfl, rfl, hH, q⟩ := h
  cases rx
  have hus := rv.zero
  subst hus
  obtain ⟨z, its, n, r, hl, e⟩ := I.lstM hH
  refine call_meets F.slot_list_clear ⟨_, e, rfl⟩ F.entry_list_clear (F.args_list_clear_1 _) (AutoSeq1.list_clear_list_0 l its.toArray n (by rw [List.size_toArray]; omega)) ⟨e, ?_⟩
  exact ⟨.non, _, I.lset (its' := []) (ys := []) hH e rfl .nil (Nat.zero_le _), rfl, q⟩
def rCat : R2 := fun x y H Q => ∃ l b xs zs, x = .ref l ∧ y = .ref b ∧ H l = some (.lst xs) ∧ H b = some (.lst zs) ∧ xs.length + zs.length ≤ sizeLine ∧ ∀ p, H p = none → Q (.ref p) (upd H p (.lst (xs ++ zs)))
theorem op_cat : OpR X (binaryOp .Add) rCat := by
  intro pins s σ H x y v u Q I rx ry h
  obtain ⟨l, b, xs, zs, rfl, rfl, hH, hB, hz, q⟩ := h
  cases rx
  cases ry
  obtain ⟨z, its, n, r, hl, e⟩ := I.lstM hH
  obtain ⟨z2, its2, n2, r2, hl2, e2⟩ := I.lstM hB
  refine PySem.P.add_list e e2 ?_ (by rw [List.size_toArray, List.size_toArray]; omega)
  have ea : its.toArray ++ its2.toArray = (its ++ its2).toArray := by simp
  rw [ea]
  exact ⟨.ref _, _, I.lnew (t' := s.toks) (r.append r2) (by rw [List.length_append]; omega), rfl, q _ I.fresh⟩
def rRep : R2 := fun x y H Q => ∃ l k xs, x = .ref l ∧ y = .int k ∧ H l = some (.lst xs) ∧ -(2 ^ 63) ≤ k ∧ k < 2 ^ 63 ∧ xs.length * k.toNat ≤ sizeLine ∧
  ∀ p, H p = none → Q (.ref p) (upd H p (.lst (List.replicate k.toNat xs).flatten))
theorem len_rep {α : Type} (xs : List α) (k : Nat) : (List.replicate k xs).flatten.length = k * xs.length := by
  induction k with
  | zero => simp
  | succ k ih => rw [List.replicate_succ, List.flatten_cons, List.length_append, ih, Nat.succ_mul, Nat.add_comm]
theorem op_rep : OpR X (binaryOp .Mult) rRep := by
  intro pins s σ H x y v u Q I rx ry h
  obtain ⟨l, k, xs, rfl, rfl, hH, h1, h2, hz, q⟩ := h
  cases rx
  obtain ⟨t, rfl⟩ := ry
  obtain ⟨z, its, n, r, hl, e⟩ := I.lstM hH
  have hlen : its.toArray.size * k.toNat ≤ sizeLine := by rw [List.size_toArray, ← hl]; exact hz
  have hcap : ¬ its.toArray.size * k.toNat > (2 ^ 63 - 1) / 8 := by
    have : (sizeLine : Nat) ≤ (2 ^ 63 - 1) / 8 := by decide
    omega
  have hfit : ¬ (!Builtin.List.listFitsIndex k) = true := by
    rw [fitsIndex_both h1 h2]
    exact Bool.false_ne_true
  have hlong : ¬ Builtin.List.listTooLong (its.toArray.size * k.toNat) = true := by
    rw [notLongL hlen]
    exact Bool.false_ne_true
  have hnew : List.foldl (fun x1 x2 => x1 ++ x2) #[] (List.replicate (if its.toArray.isEmpty = true then 0 else k.toNat) its.toArray) = (List.replicate k.toNat its).flatten.toArray := by
    have f0 : ∀ m : Nat, List.foldl (fun x1 x2 => x1 ++ x2) #[] (List.replicate m its.toArray) = (List.replicate m its).flatten.toArray := fun m => by
      have := foldl_rep its m []
      rw [List.nil_append] at this
      exact this
    rw [f0]
    cases its with
    | nil => simp
    | cons a r' => rw [if_neg (by simp)]
  refine wpAny_binaryOp_repeat_ref (T := "list") (U := "int") (by decide) ⟨_, e, rfl⟩ (fun s' => typeIs_int s' k t) noFill_list_mul F.fills_int_mul F.slot_int_rmul repeat_list F.slot_int_index.lookup
    (call_meets F.slot_int_rmul (typeIs_int s k t) F.entry_int_rmul (F.args_int_rmul_2 _ _) (int___rmul___int_list k t l its.toArray n)
      ⟨e, rfl, ⟨_, e, rfl⟩, call_meets F.slot_list_mul ⟨_, e, rfl⟩ F.entry_list_mul (F.args_list_mul_2 _ _) (AutoListH.list___mul___list_int_3 l its.toArray n k t hfit hcap hlong) ⟨e, ?_⟩⟩)
  rw [hnew]
  exact ⟨.ref _, _, I.lnew (t' := s.toks) (r.rep k.toNat) (by rw [len_rep, Nat.mul_comm]; exact hz), rfl, q _ I.fresh⟩
end
section
variable {prog : Program} {w : World} {A : Around} {E : Value → Shared → Prop} {s : Shared}
set_option maxRecDepth 100000 in
end
section
variable {X : Cx}
end
end L2
namespace Att
open PySem PySem.W PySem.Calls PyProof.Rows
theorem ints_of_wellAll {P : Params} {h : Heap} : ∀ (ns : List Int) (vs : List Value), WellAll P h vs (ns.map WData.int) → IntsAre vs ns := by
  intro ns
  induction ns with
  | nil =>
    intro vs w
    rw [List.map_nil] at w
    cases w
    exact .nil
  | cons n ns ih =>
    intro vs w
    rw [List.map_cons] at w
    cases w with
    | cons a b =>
      cases a
      exact .cons _ _ (ih _ b)
theorem script_of {l : OpenLaw} {n : Nat} (hn : l.most = some n) {P : Params} {h : Heap} {args : List WData} {vals : List Value}
    (hpre : l.row.toRowW.claim.pre args = true) (hwl : WellAll P h vals args) :
    ∃ a vs ns, vals = [Value.ref a] ∧ args = [WData.list (ns.map WData.int)] ∧ h.get? a = some { cls := .type "list", data := .seq vs.toArray } ∧ IntsAre vs ns ∧ ns.length ≤ n := by
  have hsh : WShape.hasAll [] args [.list .int] = true := (pre_splitW hpre).1
  have hc : l.pre.holds [] { args := args } = true := (pre_splitW hpre).2
  obtain ⟨d, r, rfl, h1, h2⟩ := hasAllW_cons hsh
  obtain rfl := hasAllW_nil h2
  obtain ⟨xs, rfl, h3⟩ := hasW_list h1
  obtain ⟨ns, rfl⟩ := items_int h3
  have hlen : ns.length ≤ n := by
    unfold OpenLaw.pre at hc
    have h4 : (WTm.not (.lt (.lit (.int (n : Int))) (.len (.arg 0)))).holds [] { args := [.list (ns.map .int)] } = true := by
      have h4 := (holds_andW hc).1
      rw [hn] at h4
      exact h4
    have h5 := condW_of h4 (w_not (w_lt w_lit (w_len_list (w_arg rfl))))
    rw [List.length_map] at h5
    refine Nat.le_of_not_lt fun q => ?_
    have q' : (n : Int) < ((ns.length : Nat) : Int) := by omega
    first
      | (rw [decide_eq_true q'] at h5; exact absurd h5 (by decide))
      | (simp at h5; omega)
  cases hwl with
  | cons w1 w2 =>
    cases w2
    cases w1 with
    | list ho hall => exact ⟨_, _, ns, rfl, rfl, ho, ints_of_wellAll ns _ hall, hlen⟩
theorem post_true (l : OpenLaw) (args : List WData) : l.row.toRowW.claim.post args (.bool true) args = true :=
  postW_of (r := l.row.toRowW) (X := (true == true))
    (show WShape.has [] (.bool true) .bool = true by first | rfl | decide | simp [WShape.has, WShape.arms, WShape.armsAll])
    (show (WTm.eq .res (.lit (.bool true))).value [] { args := args, res := some (.bool true), after := args } = some (.bool (true == true)) from w_eq_bool (w_res rfl) w_lit) rfl
theorem attach_call {l : OpenLaw} {n : Nat} {q : Program} {loose : List Str} {XP : (Str → Option Value) → Heap → Prop} {YP : World → Heap → Prop} {d : DefRec}
    (hn : l.most = some n) (hdf : d.params.defaults = [])
    (call : ∀ (w : World) (s₀ s₁ : Shared) (mg mb : Str → Option Value) (fa : Addr) (o : Obj) (pm cd doc : Value) (a : Addr) (vs : List Value) (ns : List Int),
      Ground q loose [] XP w s₀ mg mb s₁.heap → YP w s₁.heap →
      s₁.heap.get? fa = some o → o.data = .func (docDef d.name d.params d.body d.scope pm cd doc) → s₁.heap.CodeRec cd d.name → mg d.name = some (.ref fa) →
      s₁.heap.get? a = some { cls := .type "list", data := .seq vs.toArray } → IntsAre vs ns → ns.length ≤ n → s₁.gens = #[] →
      codeAny (model l.prog w) callerA (.call (.ref fa) ⟨[.ref a], []⟩) (fun r s' => r = .ok (.ret (.bool true)) ∧ OldK s₁.heap s'.heap ∧ s'.os = s₁.os ∧ AllBare s'.gens) s₁) :
    WalkO q loose XP YP l.row.toRowW d [] (fun f vs => PySem.call f vs) := by
  intro w s₀ s₁ mg mb G Y fa o pm cd doc dV kV ho hd hcd hD hmg hg args vals as hpre hlay hrd hwl hlo
  obtain rfl : dV = .none := Dflts.none hD hdf
  obtain rfl : kV = .none := Dflts.noKw hD
  obtain ⟨a, vs, ns, rfl, rfl, hobj, hints, hlen⟩ := script_of hn hpre hwl
  refine enter_call (codeAny_mono (call w s₀ s₁ mg mb fa o pm cd doc a vs ns G Y ho (fd_plain hd) hcd hmg hobj hints hlen hg) fun r s' hq => ?_)
  obtain ⟨rfl, h2, h3, h4⟩ := hq
  exact ⟨.inl ⟨.bool true, .bool true, [], rfl, fun _ => rfl, .bool true, post_true l _, fun _ => ⟨List.Pairwise.nil, fun _ hm => (nomatch hm)⟩⟩, h2, h3, h4⟩
section
variable {prog : Program} {w : World} {A : Around} {E : Value → Shared → Prop} {s : Shared} {K : Frag}
end
end Att
namespace L2
open PySem PySem.Spec PyProof.Rows
theorem vals_ints : ∀ {vs : List Value} {ns : List Int}, IntsAre vs ns → Vals (ns.map V.int) vs
  | _, _, .nil => .nil
  | _, _, .cons n t h => .cons ⟨t, rfl⟩ (vals_ints h)
end L2
namespace L2
open PySem PySem.Spec PyProof.Rows
end L2
/- THE LAST THEOREM (shape; LID, My.* are yours):
   My.Adr: a structure of the addresses that your layer names (classes, functions); My.Txt K t: a structure (Prop) of the equations over K;
   My.txt_mk : {K} {implicit addresses ..} (e1 : nsIn K mainGlobals "law" = some (some (.ref f))) (e2 : K.lookup f = some ⟨oc, od, .func (fnOf "law" "law" params body scope dV kV doc pm an cdv ct), sl⟩) (e3 : codeIn K cdv "law" = true) .. : ∃ t, My.Txt K t
set_option maxRecDepth 100000 in
set_option maxHeartbeats 0 in
theorem PySem.Challenge.cw_LID_holds : PySem.Challenge.rw_LID.Holds := by
  w_on; o_law; k_head; (case hw => w_witness2)
  k_fill
  refine L2.walk_of (l := PySem.Challenge.rw_LID) (n := 63) (k := 40) (x := "script") (CX := fun w => ..) (sp := fun _ => My.sp_law) rfl (by decide) rfl ⟨rfl, by decide, by decide⟩ (fun w h Y => PySem.W.kIn_of Y) ?F ?S ?C
  case F =>
    intro w mg fa h KX G hmg
    have T : ∃ t, My.Txt (L2.KOf KX) t := by
      dsimp only [L2.KOf]                          -- K must stand as «<heap const> w.params» for k_is
      refine' My.txt_mk ?e1 ?e2 ?e3 ..
      (case e1 => PySem.W.k_is)                    -- in the order: a name -> its address -> its object -> its parts
      (case e2 => PySem.W.k_is)
      ..
    obtain ⟨t, T⟩ := T
    have e0 := hmg.symm.trans (PySem.W.mg_of KX G T.law)
    cases e0                                       -- fa is the law's own address
    exact ⟨_, fun s u => .of_eq rfl, fun base kb nb => My.law_fn T kb nb⟩     -- if «.of_eq rfl» comes too early: refine' ⟨_, ?b, fun base kb nb => My.law_fn T kb nb⟩; exact fun s u => .of_eq rfl
  case S => exact fun w H a ns hl hO hS => ..
  case C => exact ..
(the tactic k_is has no namespace: write k_is) -/
namespace L2
open PySem PySem.Spec PyProof.Rows
def defArgs (s : Stmt) : Arguments := match s with
  | .FunctionDef _ a _ _ _ _ _ _ _ _ => a
  | _ => { posonlyargs := [], args := [], vararg := none, kwonlyargs := [], kw_defaults := [], kwarg := none, defaults := [] }
def defBody (s : Stmt) : List Stmt := match s with
  | .FunctionDef _ _ b _ _ _ _ _ _ _ => b
  | _ => []
def defScope (s : Stmt) : Scope := match s with
  | .FunctionDef _ _ _ _ _ _ sc _ _ _ => sc
  | _ => { kind := .function, names := [], isGenerator := false, isCoroutine := false }
abbrev E0 : XK := fun _ _ _ => False
section
variable {P : Program} {w : World} {K : PySem.W.Frag} {mg : Str → Option Value} {base : Heap}
end
section
variable {X : Cx}
theorem pv (i : Nat) {x : Str} {pos : Pos} (hN : X.N[i]? = some x := by rfl) (hv : Vis X.env.scope x := by first | exact Or.inl rfl | exact Or.inr (Or.inl rfl) | exact Or.inr (Or.inr rfl)) (hd : (x == ("__debug__" : Str)) = false := by decide)
    (hcd : (x == ("__classdict__" : Str)) = false := by decide) : PE X (.Name x pos) (tVar i) := pe_var hN hv hd hcd
end
theorem iteF {A B : Prop} (h : B) : if false = true then A else B := by
  rw [if_neg Bool.false_ne_true]
  exact h
theorem iteT {A B : Prop} (h : A) : if true = true then A else B := by
  rw [if_pos rfl]
  exact h
theorem ite2 {c A B : Prop} [Decidable c] (h1 : c → A) (h2 : ¬ c → B) : if c then A else B := by
  by_cases h : c
  · rw [if_pos h]
    exact h1 h
  · rw [if_neg h]
    exact h2 h
def Same (H H' : Hp) : Prop := ∀ b o, H b = some o → H' b = some o
theorem Same.refl (H : Hp) : Same H H := fun _ _ h => h
theorem Same.trans {H H1 H2 : Hp} (a : Same H H1) (b : Same H1 H2) : Same H H2 := fun c o h => b c o (a c o h)
end L2
namespace L2
open PySem PySem.Spec PyProof.Rows
theorem Inv.turned2 {X : Cx} {pins : List (Addr × Obj)} {σ : St} {H : Hp} {s : Shared} {h' : Heap} {t' : Nat} {e it : Addr} (I : Inv X pins σ H s)
    (k : ∀ b o, b ≠ e → b ≠ it → s.heap.get? b = some o → h'.get? b = some o) (fe : FpOk X pins H e) (fi : FpOk X pins H it) : Inv X pins σ H { s with heap := h', toks := t' } := by
  have nit : ∀ b u, H b = some u → b ≠ e ∧ b ≠ it := fun b u q => ⟨(fun z => by rw [z, fe.1] at q; cases q), (fun z => by rw [z, fi.1] at q; cases q)⟩
  have out : ∀ b, b ∉ [e, it] → b ≠ e ∧ b ≠ it := fun b hb => ⟨fun z => hb (by simp [z]), fun z => hb (by simp [z])⟩
  refine I.step (g' := s.gens) (d' := s.drawn) (ch := [e, it]) (fun b hb => ?_) (fun b o _ _ hc q _ => k b o (out b hc).1 (out b hc).2 q) (fun b o _ _ hc q _ => ⟨o.slots, k b o (out b hc).1 (out b hc).2 q⟩) (fun _ _ _ _ n => n)
    (fun b o hc q => ⟨o, k b o (out b hc).1 (out b hc).2 q⟩) (fun _ _ q => q) (fun _ _ _ q => q) (fun b ps q => ⟨#[], by rw [q]; simp⟩) (fun m hm => ?_) (fun b u q => ?_) I.bare
  · rcases List.mem_cons.mp hb with z | hb
    · rw [z]; exact ⟨fe.2.2.2.1, fe.2.1, fe.2.2.2.2.1, fe.2.2.2.2.2⟩
    · have z : b = it := by simpa using hb
      rw [z]; exact ⟨fi.2.2.2.1, fi.2.1, fi.2.2.2.2.1, fi.2.2.2.2.2⟩
  · obtain ⟨o, es, ep, ho, r⟩ := hm
    exact ⟨o, es, ep, k _ o (Ne.symm fe.2.1) (Ne.symm fi.2.1) ho, r⟩
  · refine (I.hok b u q).stay (fun c v hc r => ?_) (fun _ r => r) fun _ _ r => r
    rcases hc with z | z
    · rw [z] at r ⊢; exact k b v (nit b u q).1 (nit b u q).2 r
    · exact k c v (nit c _ z).1 (nit c _ z).2 r
def Ite (K : PySem.W.Frag) (a : Addr) : It :=
  ⟨fun i H => ∃ xs x, SqL K H a xs ∧ xs[i]? = some x, fun i H x H' => ∃ t y, H t = none ∧ x = .ref t ∧ (∀ xs, SqL K H a xs → xs[i]? = some y) ∧ H' = upd H t (.tup [.int i, y]),
   fun i H => ∃ xs, SqL K H a xs ∧ xs.length ≤ i⟩
theorem turn_enum {P : Program} {w : World} {K : PySem.W.Frag} {es : List Expr} {k : Nat} {pos : Pos} (a e it : Addr) (hne : e ≠ it) :
    Turn P w K (.Tuple es k pos) (Ite K a) [e, it] e (fun i h => (∃ old, IsEnum h e it i old) ∧ h.IsListIter it a i) where
  mem := by simp
  obj := fun i h st b hb => by
    obtain ⟨⟨old, he⟩, o, e1, c, d⟩ := st
    rcases List.mem_cons.mp hb with z | hb
    · rw [z]; exact ⟨_, he, fun v z => by have z' : Data.fields _ = Data.cell v := z; cases z'⟩
    · have z : b = it := by simpa using hb
      rw [z]; exact ⟨o, e1, fun v z => by rw [d] at z; cases z⟩
  keep := fun i h h' st kk => by
    obtain ⟨⟨old, he⟩, st⟩ := st
    exact ⟨⟨old, kk e (by simp) _ he⟩, st.at fun o q => kk it (by simp) o q⟩
  item := by
    intro X hP hw hK hc i pins s σ H E I hf st hg
    subst hP hw hK
    obtain ⟨xs, x, hq, hx⟩ := hg
    obtain ⟨its, rv, p, hz⟩ := I.list hq
    obtain ⟨u, hu, ru⟩ := rv.get hx
    have fe := hf e (by simp)
    have fi := hf it (by simp)
    obtain ⟨⟨old, he⟩, hit⟩ := st
    refine wpAny_pyNext_enum_item he hit p.isList (x := u) (by simpa using hu) hne fun h1 eo it1 tp sz kk => ?_
    refine ⟨_, rfl, wpAny_letOwnedTupleGo_enum (s := { s with heap := h1, toks := s.toks + 1 }) eo fun h2 e2 sb2 => ?_⟩
    have hfr := I.hok.fresh (Nat.le_refl s.heap.objs.size)
    have I1 : Inv X pins σ (upd H s.heap.objs.size (.tup [.int i, x])) { s with heap := s.heap.push { cls := .type "tuple", data := .seq #[.int i s.toks, u] }, toks := s.toks } :=
      I.laid (o := .tup [.int i, x]) (fun b o q => Heap.get?_push_of_some _ q) (Nat.le_refl _) ⟨by show 2 ≤ sizeLine; decide, [.int i s.toks, u], .cons ⟨_, rfl⟩ (.cons ru .nil), IsTup.new _ _⟩
    have lt1 : e < s.heap.objs.size := Heap.lt_size he
    have lt2 : it < s.heap.objs.size := by obtain ⟨o, q, _⟩ := id hit; exact Heap.lt_size q
    have up : ∀ {b : Addr}, FpOk X pins H b → b < s.heap.objs.size → FpOk X pins (upd H s.heap.objs.size (.tup [.int i, x])) b := fun f l => ⟨by rw [upd_ne (Nat.ne_of_lt l)]; exact f.1, f.2⟩
    have I2 := I1.turned2 (h' := h2) (t' := s.toks + 1) (fun b o n1 n2 q => ?_) (up fe lt1) (up fi lt2)
    · refine ⟨.ref s.heap.objs.size, _, I2, rfl, ⟨_, x, hfr, rfl, fun ys hy => by rw [I.list_inj hy hq]; exact hx, rfl⟩, ⟨⟨u, ?_⟩, it1.extBut sb2.extBut (Ne.symm hne)⟩, fun b hb => ?_⟩
      · have e3 : ((i + 1 : Nat) : Int) = (i : Int) + 1 := by push_cast; rfl
        rw [e3]; exact e2
      · rcases List.mem_cons.mp hb with z | hb
        · rw [z]; exact (up fe lt1).1
        · have z : b = it := by simpa using hb
          rw [z]; exact (up fi lt2).1
    · have q1 : (s.heap.push { cls := .type "tuple", data := .seq #[.int i s.toks, u] }).get? b = some o := q
      refine sb2.extBut b o n1 ?_
      by_cases hb : b = s.heap.objs.size
      · subst hb
        rw [Heap.get?_push_size _ rfl] at q1
        cases q1
        exact tp
      · refine kk b o n1 n2 ?_
        rw [← q1]
        exact (Heap.get?_push_ne s.heap b _ hb).symm
  done := by
    intro X hP hw hK hc i pins s σ H E I hf st hg
    subst hP hw hK
    obtain ⟨xs, hq, hx⟩ := hg
    obtain ⟨its, rv, p, hz⟩ := I.list hq
    obtain ⟨⟨old, he⟩, hit⟩ := st
    obtain ⟨f0, f1, f2, f3, f4, f5⟩ := hf it (by simp)
    have hl := rv.length
    exact wpAny_pyNext_enum_end (I.ok.hd hc) he hit p.isList (by simp; omega) fun h' eb => ⟨rfl, I.turned (t' := s.toks) (fun b o hb q => eb b o hb q) f0 f1 f3 f4 f5⟩
  self := fun _ _ _ _ _ st h => by
    obtain ⟨⟨old, he⟩, _⟩ := st
    exact wpAny_pyIter_enum he h
section
variable {X : Cx} {es : List Expr} {tk : Nat} {tpos : Pos}
def iEnum (K : PySem.W.Frag) (ta : TA) : TI := fun σ H R => ta σ H fun vs H1 => ∃ a, vs = [.ref a] ∧ (∃ xs, SqL K H1 a xs) ∧ R (Ite K a) H1
theorem pi_enum {l : Expr} {ta : TA} {p pos : Pos} (hg : Gl X "enumerate") (hm : X.mg "enumerate" = none) (ha : PA X [l] ta) (hs : starEach [l] X.env = [(false, eval l X.env)] := by rfl) :
    PI X (.Tuple es tk tpos) (.Call (.Name "enumerate" p) [l] [] pos) (iEnum X.K ta) := by
  intro pins s σ H R I h
  refine Call_ (ld_blt I hg hm PyProof.Rows.boot_enumerate (PyProof.Rows.callWith_type1 (thn (ha pos pins s σ H _ I h) fun us s1 ⟨vs, H1, I1, r1, q1⟩ => ?_) hs rfl))
  obtain ⟨a, e, ⟨xs, hq⟩, q⟩ := q1
  subst e
  cases r1 with
  | cons r rr =>
    cases rr
    cases r
    obtain ⟨its, rv, pl, hz⟩ := I1.list hq
    refine call_enumerate_list pl.isList fun h' he hit hsz kk => wpAny_pyIter_enum he ?_
    refine ⟨_, [s1.heap.objs.size + 1, s1.heap.objs.size], _, _, H1, rfl, I1.kept (t' := s1.toks) kk, turn_enum a _ _ (Nat.succ_ne_self _), ⟨⟨_, he⟩, hit⟩, fun b hb => ?_, q⟩
    rcases List.mem_cons.mp hb with z | hb
    · rw [z]; exact I1.fpOk (Nat.le_succ _) (I1.hok.fresh (Nat.le_succ _))
    · have z : b = s1.heap.objs.size := by simpa using hb
      rw [z]; exact I1.fpOk (Nat.le_refl _) (I1.hok.fresh (Nat.le_refl _))
end
theorem for_enum {K : PySem.W.Frag} {a : Addr} {xs : List V} {g : TG} {tb : TS} {D : Ends} {σ : St} {H : Hp} (Pv : Nat → St → Hp → Prop) (h0 : Pv 0 σ H) (hl : ∀ i σ H, i ≤ xs.length → Pv i σ H → SqL K H a xs)
    (hs : ∀ i x t σ H, xs[i]? = some x → Pv i σ H → H t = none → g (.ref t) σ (upd H t (.tup [.int i, x])) fun σ2 H2 => tb { D with nx := Pv (i + 1), ct := Pv (i + 1), bk := D.nx } σ2 H2) (hd : ∀ σ H, Pv xs.length σ H → D.nx σ H) :
    ∃ W : Nat → Nat → St → Hp → Prop, (∃ m, W 0 m σ H) ∧ ∀ i m σ H, W i m σ H →
      ((Ite K a).stop i H ∧ D.nx σ H) ∨ ((Ite K a).go i H ∧ ∃ N : St → Hp → Prop, (∀ σ' H', N σ' H' → ∃ m', m' < m ∧ W (i + 1) m' σ' H') ∧ ∀ x H', (Ite K a).yld i H x H' → g x σ H' fun σ2 H2 => tb { D with nx := N, ct := N, bk := D.nx } σ2 H2) := by
  refine ⟨fun i m σ H => m = xs.length - i ∧ i ≤ xs.length ∧ Pv i σ H, ⟨xs.length, by simp, Nat.zero_le _, h0⟩, ?_⟩
  rintro i m σ H ⟨rfl, hi, p⟩
  have q := hl i σ H hi p
  by_cases hlt : i < xs.length
  · refine .inr ⟨⟨xs, xs[i], q, by simp [hlt]⟩, Pv (i + 1), fun σ' H' p' => ⟨xs.length - (i + 1), by omega, rfl, hlt, p'⟩, fun x H' y => ?_⟩
    obtain ⟨t, y, n, e1, e2, e3⟩ := y
    subst e1 e3
    exact hs i y t σ _ (e2 xs q) p n
  · have e : i = xs.length := by omega
    subst e
    exact .inl ⟨⟨xs, q, Nat.le_refl _⟩, hd σ H p⟩
def big : Nat := 2 ^ 4000
theorem big_log {n : Nat} (h : n < big) : n.log2 < 4000 := by
  by_cases h0 : n = 0
  · rw [h0]; decide +kernel
  · exact (Nat.log2_lt h0).mpr h
section
variable {X : Cx}
theorem op_fdivP : OpR X (binaryOp .FloorDiv) (rI (fun _ j => 0 < j ∧ j.natAbs < big) fun i j => .int (i / j)) := opI fun i j _ _ _ _ _ hc q => by
  have h1 : (0 : Int) < j := hc.1
  exact floordiv_int (by omega) (by rw [Int.fdiv_eq_ediv_of_nonneg i (by omega)]; exact q) (.inl (PyProof.noPylong_of_log2 (Nat.lt_trans (big_log hc.2) (by decide))))
def eqVs : List V → List V → Bool
  | [], [] => true
  | x :: xs, y :: ys => eqV x y && eqVs xs ys
  | _, _ => false
end
end L2
namespace L2
open PySem PySem.Spec PyProof.Rows
def TbOk (h : Heap) (e : Addr) (vs : Array Value) : Prop :=
  vs[1]? = some .none ∨ ∃ T oT ts, vs[1]? = some (.ref T) ∧ T ≠ e ∧ h.get? T = some oT ∧ oT.data = .fields ts ∧ ts[3]? = some .none
structure Noted (fs : List Addr) (e L : Addr) (oe : Obj) (vs : Array Value) (h h' : Heap) (T : Addr) (fl : Value) : Prop where
  new : h.get? T = none
  ne : T ≠ e
  exc : h'.get? e = some (oe.mapFields (·.setIfInBounds 1 (.ref T)))
  tb : ∃ oT ts, h'.get? T = some oT ∧ oT.data = .fields ts ∧ ts[3]? = some fl
  keep : ∀ b o, b ∉ fs → b ≠ e → vs[1]? ≠ some (.ref b) → h.get? b = some o → h'.get? b = some o
  slot : ∀ b o, b ∈ fs → h.get? b = some o → ∃ sl, h'.get? b = some { o with slots := sl }
section
variable {M : Model} {A : Around} {E : Value → Shared → Prop} {s : Shared} {env : Env} {outer : List Env} {base : Heap} {L e : Addr} {oe : Obj} {vs : Array Value} {Q : Unit → Shared → Prop}
theorem entry_ok {head : Value} {had : Bool} (hfr : A.frames = some (env :: outer)) (hl : s.heap.FunFrames base (env :: outer)) (hf : env.frame = some L)
    (he : s.heap.get? e = some oe) (hd : oe.data = .fields vs) (hz : 1 < vs.size)
    (h : ∀ h' T, s.heap.get? T = none → T ≠ e → h'.get? e = some (oe.mapFields (·.setIfInBounds 1 (.ref T))) → (∃ oT ts, h'.get? T = some oT ∧ oT.data = .fields ts ∧ ts[3]? = some (rawInt L)) →
      (∀ b o, b ∉ frs (env :: outer) → b ≠ e → s.heap.get? b = some o → h'.get? b = some o) → (∀ b o, b ∈ frs (env :: outer) → s.heap.get? b = some o → ∃ sl, h'.get? b = some { o with slots := sl }) →
      Q () { s with heap := h' }) :
    wpAny M A (do let f ← frameOf env; let p ← entryPlaceOf L had; let n ← EntryCells.newEntry head f .none (rawInt L) .none p; setField (.ref e) 1 n) Q E s := by
  have enf : e ∉ frs (env :: outer) := fun z => by
    obtain ⟨_, o, ho, hn⟩ := hl.mem z
    rw [he] at ho; cases ho
    exact hn vs hd
  refine wpAny_bind (wpAny_frameOf_fun hfr hl hf fun g1 so => ?_)
  refine wpAny_bind (wpAny_entryPlaceOf fun pl hp => ?_)
  unfold EntryCells.newEntry newFields
  refine wpAny_bind (wpAny_newObj_type ?_ (hp.sizeOk5 _ _ _ _ _))
  have e1 : g1.get? e = some oe := (so.2.1 e enf).trans he
  generalize htb : ({ cls := .type "traceback", dict := none, data := .fields ([head, .ref L, .none, rawInt L, .none] ++ (if pl.isEmpty then List.replicate 6 Value.none else pl)).toArray } : Obj) = tb
  have dtb : ∃ ts, tb.data = .fields ts ∧ ts[3]? = some (rawInt L) := by
    subst htb
    exact ⟨_, rfl, by simp⟩
  have ftb : tb.isFreed = false := by subst htb; rfl
  have e2 : (g1.push tb).get? e = some oe := Heap.get?_push_of_some _ e1
  have tne : g1.objs.size ≠ e := Nat.ne_of_gt (Heap.lt_size e1)
  refine wpAny_setField e2 hd hz ?_
  have d3 := Obj.data_mapFields hd (·.setIfInBounds 1 (Value.ref g1.objs.size))
  have keep : ∀ b o, b ≠ e → g1.get? b = some o → ((g1.push tb).update e (Obj.mapFields (·.setIfInBounds 1 (Value.ref g1.objs.size)))).get? b = some o := fun b o hb q => by
    rw [Heap.get?_update_other _ _ (Ne.symm hb)]
    exact Heap.get?_push_of_some _ q
  refine h _ g1.objs.size (Heap.get?_none_of_le (Nat.le_of_eq so.1.symm)) tne (Heap.get?_update_self _ e2 (Obj.isFreed_of_fields d3)) ?_ (fun b o n1 n2 q => keep b o n2 ((so.2.1 b n1).trans q)) (fun b o n1 q => ?_)
  · obtain ⟨ts, q1, q2⟩ := dtb
    refine ⟨tb, ts, ?_, q1, q2⟩
    rw [Heap.get?_update_other _ _ (Ne.symm tne)]
    exact Heap.get?_push_size g1 ftb
  · obtain ⟨sl, q1⟩ := so.2.2 b o q
    exact ⟨sl, keep b _ (fun z => enf (z ▸ n1)) q1⟩
theorem note_ok (hfr : A.frames = some (env :: outer)) (hl : s.heap.FunFrames base (env :: outer)) (hf : env.frame = some L)
    (he : s.heap.get? e = some oe) (hd : oe.data = .fields vs) (hv : TbOk s.heap e vs) (h : ∀ h' T, Noted (frs (env :: outer)) e L oe vs s.heap h' T (rawInt L) → Q () { s with heap := h' }) :
    wpAny M A (noteFrame (.ref e) env) Q E s := by
  unfold noteFrame
  simp only [hf]
  rcases hv with h1 | ⟨T, oT, ts, h1, ne, hT, dT, h3⟩
  · refine wpAny_bind (wpAny_field he hd h1 ?_)
    rw [if_neg (by decide)]
    exact entry_ok hfr hl hf he hd (Array.getElem?_eq_some_iff.mp h1).1 fun h' T a b c d k sl => h h' T ⟨a, b, c, d, fun b o n1 n2 _ q => k b o n1 n2 q, sl⟩
  · refine wpAny_bind (wpAny_field he hd h1 ?_)
    rw [if_pos (show (Value.ref T != Value.none) = true from by simp)]
    refine wpAny_bind (wpAny_field hT dT h3 ?_)
    rw [if_neg (show ¬ ((Value.none == rawInt L) = true) from by simp [rawInt])]
    refine wpAny_bind (wpAny_setField hT dT (Array.getElem?_eq_some_iff.mp h3).1 ?_)
    have oth : ∀ b, b ≠ T → (s.heap.update T (Obj.mapFields (·.setIfInBounds 3 Value.none))).get? b = s.heap.get? b := fun b hb => Heap.get?_update_other _ _ (Ne.symm hb)
    have nf : ∀ b o, s.heap.get? b = some o → (∀ vs, o.data ≠ .fields vs) → b ≠ T := fun b o q hn z => by
      rw [z, hT] at q; cases q
      exact hn ts dT
    have hl2 := hl.of_keeps (h' := s.heap.update T (Obj.mapFields (·.setIfInBounds 3 Value.none))) fun b o q hn => ⟨o, (oth b (nf b o q hn)).trans q, rfl⟩
    refine entry_ok (s := { s with heap := s.heap.update T (Obj.mapFields (·.setIfInBounds 3 Value.none)) }) hfr hl2 hf ((oth e (Ne.symm ne)).trans he) hd (Array.getElem?_eq_some_iff.mp h1).1 fun h' T' a b c d k sl => ?_
    have nT : T' ≠ T := fun z => by
      have a' : (s.heap.update T (Obj.mapFields (·.setIfInBounds 3 Value.none))).get? T' = none := a
      rw [z, Heap.get?_update_self _ hT (Obj.isFreed_of_fields (Obj.data_mapFields dT _))] at a'
      cases a'
    refine h h' T' ⟨(oth T' nT).symm.trans a, b, c, d, fun b o n1 n2 n3 q => k b o n1 n2 ((oth b fun z => n3 (by rw [z]; exact h1)).trans q), fun b o n1 q => ?_⟩
    refine sl b o n1 ((oth b fun z => ?_).trans q)
    obtain ⟨_, o', ho, hn⟩ := hl.mem n1
    exact nf b o' ho hn z
theorem land_ok {fs : List Addr} {h0 : Heap} {T : Addr} {fl : Value} (N : Noted fs e L oe vs h0 s.heap T fl) (hd : oe.data = .fields vs) (hz : 1 < vs.size) (hT : T ∉ fs)
    (h : ∀ h', Noted fs e L oe vs h0 h' T .none → Q () { s with heap := h' }) : wpAny M A (setFlight (.ref e) none) Q E s := by
  obtain ⟨oT, ts, q1, q2, q3⟩ := N.tb
  have h3 : 3 < ts.size := (Array.getElem?_eq_some_iff.mp q3).1
  refine wpAny_setFlight_none N.exc (Obj.data_mapFields hd _) (by simp [hz]) q1 q2 h3 (h _ ?_)
  have oth : ∀ b, b ≠ T → (s.heap.update T (Obj.mapFields (·.setIfInBounds 3 Value.none))).get? b = s.heap.get? b := fun b hb => Heap.get?_update_other _ _ (Ne.symm hb)
  have old : ∀ b o, h0.get? b = some o → b ≠ T := fun b o q z => by rw [z, N.new] at q; cases q
  refine ⟨N.new, N.ne, (oth e (Ne.symm N.ne)).trans N.exc, ⟨_, _, Heap.get?_update_self _ q1 (Obj.isFreed_of_fields (Obj.data_mapFields q2 _)), Obj.data_mapFields q2 _, by simp [h3]⟩,
    fun b o n1 n2 n3 q => (oth b (old b o q)).trans (N.keep b o n1 n2 n3 q), fun b o n1 q => ?_⟩
  obtain ⟨sl, q4⟩ := N.slot b o n1 q
  exact ⟨sl, (oth b (old b o q)).trans q4⟩
theorem leave_ok (hfr : A.frames = some (env :: outer)) (hl : s.heap.FunFrames base (env :: outer)) (hf : env.frame = some L)
    (he : s.heap.get? e = some oe) (hd : oe.data = .fields vs) (hv : TbOk s.heap e vs) (h : ∀ h' T, Noted (frs (env :: outer)) e L oe vs s.heap h' T .none → Q () { s with heap := h' }) :
    wpAny M A (leaving env (.ref e)) Q E s := by
  unfold leaving
  have hz : 1 < vs.size := by
    rcases hv with h1 | ⟨T, oT, ts, h1, _⟩
    · exact (Array.getElem?_eq_some_iff.mp h1).1
    · exact (Array.getElem?_eq_some_iff.mp h1).1
  refine wpAny_bind (note_ok hfr hl hf he hd hv fun h1 T N => ?_)
  refine land_ok (s := { s with heap := h1 }) N hd hz (fun z => ?_) fun h' N' => h h' T N'
  obtain ⟨_, o, ho, _⟩ := hl.mem z
  rw [N.new] at ho; cases ho
end
theorem ObjOk.there {P : Program} {w : World} {H : Hp} {h : Heap} {a : Addr} {o : HO} (x : ObjOk P w H h a o) : ∃ ob, h.get? a = some ob := by
  cases o with
  | lst xs => obtain ⟨_, _, _, _, e⟩ := x; exact ⟨_, e⟩
  | tup xs => obtain ⟨_, _, _, o, e, _⟩ := x; exact ⟨_, e⟩
  | dK kvs => obtain ⟨_, _, _, _, o, _, _, e, _⟩ := x; exact ⟨_, e⟩
  | dT kvs => obtain ⟨_, _, _, _, o, _, _, e, _⟩ := x; exact ⟨_, e⟩
  | set S n => obtain ⟨o, _, _, _, e, _⟩ := x; exact ⟨_, e⟩
  | ins C dx fs => obtain ⟨_, _, _, e, _⟩ := x; exact ⟨_, e⟩
  | own y => exact x
  | xd fs => obtain ⟨_, ⟨_, _, _, e, _⟩, _⟩ := x; exact ⟨_, e⟩
  | rng lo hi => obtain ⟨_, _, _, e⟩ := x; exact ⟨_, e⟩
  | frz ob u => obtain ⟨e, _⟩ := x; exact ⟨_, e⟩
  | tbl ps => exact ⟨_, (show h.get? a = some _ from x)⟩
  | met f y => exact ⟨_, (show h.get? a = some _ from x)⟩
  | ext φ => obtain ⟨_, e, _⟩ := x; exact e
theorem HOk.none_of {P : Program} {w : World} {H : Hp} {h : Heap} {a : Addr} (x : HOk P w H h) (e : h.get? a = none) : H a = none := by
  cases q : H a with
  | none => rfl
  | some o =>
    obtain ⟨ob, z⟩ := (x a o q).there
    rw [e] at z; cases z
theorem HOk.keepT {P : Program} {w : World} {H : Hp} {h h' : Heap} (x : HOk P w H h) (k : ∀ b o u, H b = some u → h.get? b = some o → h'.get? b = some o) : HOk P w H h' := fun a o e =>
  (x a o e).stay (fun b u hb q => by
    rcases hb with z | z
    · rw [z] at q ⊢; exact k a u o e q
    · exact k b u _ z q) (fun _ q => q) fun _ _ q => q
theorem Un.post {fs : List Addr} {H H' : Hp} {h h1 h2 : Heap} (u : Un fs [] H H' h h1) (k : ∀ b o p, h.get? b = some p → b ∉ fs → H' b = none → h1.get? b = some o → h2.get? b = some o)
    (sl : ∀ b o, b ∈ fs → h1.get? b = some o → ∃ sl, h2.get? b = some { o with slots := sl }) (th : ∀ b o p, h.get? b = some p → h1.get? b = some o → ∃ o', h2.get? b = some o') : Un fs [] H H' h h2 where
  keep := fun b o q n hb hx => k b o o q hb (u.free b o q n hx) (u.keep b o q n hb hx)
  slot := fun b o q n hb hx => by
    obtain ⟨s1, e1⟩ := u.slot b o q n hb hx
    obtain ⟨s2, e2⟩ := sl b _ hb e1
    exact ⟨s2, e2⟩
  free := u.free
  there := fun b o q hx => by
    obtain ⟨o1, e1⟩ := u.there b o q hx
    exact th b o1 o q e1
  tups := u.tups
  frzs := u.frzs
  tbls := u.tbls
theorem Un.less {fs fs' : List Addr} {H H' : Hp} {h h1 : Heap} (u : Un fs' [] H H' h h1) (hs : ∀ b ∈ fs, b ∈ fs') (hn : ∀ b ∈ fs', b ∉ fs → h.get? b = none) : Un fs [] H H' h h1 where
  keep := fun b o q n hb hx => u.keep b o q n (fun z => by rw [hn b z hb] at q; cases q) hx
  slot := fun b o q n hb hx => u.slot b o q n (hs b hb) hx
  free := u.free
  there := u.there
  tups := u.tups
  frzs := u.frzs
  tbls := u.tbls
end L2
namespace L2
open PySem PySem.Spec PyProof.Rows
def dxOf (h : Heap) (e : Addr) : Option Addr := (h.get? e).bind fun o => o.dict
theorem dxOf_of {h : Heap} {e : Addr} {o : Obj} (q : h.get? e = some o) : dxOf h e = o.dict := by unfold dxOf; rw [q]; rfl
structure Thrown (h0 h : Heap) (e C T : Addr) : Prop where
  n0 : h0.get? e = none
  t0 : h0.get? T = none
  ne : T ≠ e
  ob : ∃ oe vs, h.get? e = some oe ∧ oe.cls = .ref C ∧ oe.data = .fields vs ∧ vs[1]? = some (.ref T)
  tb : ∃ oT ts, h.get? T = some oT ∧ oT.data = .fields ts ∧ ts[3]? = some .none
def CXE (P : Program) (w : World) : CXT := fun outer H s E ev s' => ∃ e C T H', ev = .ref e ∧ s'.os = s.os ∧ AllBare s'.gens ∧ Un (frs outer) [] H H' s.heap s'.heap ∧ HOk P w H' s'.heap ∧ H' e = none ∧ H' T = none ∧
  Thrown s.heap s'.heap e C T ∧ E (.ref C) (dxOf s'.heap e) H'
theorem passE0 {X : Cx} {P : Program} {w : World} : Passes (CXE P w) X E0 := fun _ _ _ _ _ _ _ h => by
  obtain ⟨_, _, _, _, _, _, _, _, _, _, _, _, z⟩ := h
  exact z.elim
theorem mapF_cls (o : Obj) (f : Array Value → Array Value) : (o.mapFields f).dict = o.dict := by
  obtain ⟨c, d, dt, sl⟩ := o
  cases dt <;> rfl
section
variable {P : Program} {w : World} {K : PySem.W.Frag} {mg : Str → Option Value} {base : Heap} {N : List Str} {qual : Str} {scope : Scope} {f : Addr} {cd : Value} {A : Around} {outer : List Env} {s : Shared} {H : Hp} {E : XK}
theorem frame_own {X : Cx} {pins : List (Addr × Obj)} {σ : St} {H1 : Hp} {s1 : Shared} (I : Inv X pins σ H1 s1) (he : X.ex = []) {H2 : Hp} {h2 : Heap} (u : Un (frs X.stack) [] H1 H2 s1.heap h2) : Un X.fs [] X.H₀ H2 X.s₀.heap h2 := by
  have b0 := I.base
  rw [he] at b0
  have sub : ∀ b ∈ X.fs, b ∈ frs X.stack := fun b hb => by
    rcases I.ok.stk with e | ⟨e, hf⟩
    · rw [e]; exact hb
    · rw [e]; unfold frs; rw [List.filterMap_cons, hf]; exact List.mem_cons_of_mem _ hb
  refine Un.less ((b0.mono sub fun b z => z).trans u) sub fun b z nb => ?_
  rcases List.mem_cons.mp (I.stkSub b z) with e | z2
  · rw [e]; exact Heap.get?_none_of_le I.ok.above
  · exact absurd z2 nb
theorem throw_out {pins : List (Addr × Obj)} {σ : St} {H1 H2 : Hp} {s1 s2 : Shared} {e C : Addr} {oe : Obj} {vs : Array Value} (I : Inv (cxOf (CXE P w) P w K mg base N qual scope f cd A outer s H E) pins σ H1 s1)
    (os : s2.os = s1.os) (bare : AllBare s2.gens) (un : Un (frs (cxOf (CXE P w) P w K mg base N qual scope f cd A outer s H E).stack) [] H1 H2 s1.heap s2.heap) (hok : HOk P w H2 s2.heap) (he : H2 e = none) (n0 : s1.heap.get? e = none)
    (q1 : s2.heap.get? e = some oe) (q2 : oe.cls = .ref C) (q4 : oe.data = .fields vs) (q5 : vs[1]? = some .none) (hE : E (.ref C) oe.dict H2) : (cxOf (CXE P w) P w K mg base N qual scope f cd A outer s H E).xe (.ref e) s2 := by
  have I2 := I.call' os un hok bare (fun _ z => nomatch z)
  refine leave_ok I2.ok.frames I2.stack rfl q1 q4 (.inl q5) fun h' T Nt => ?_
  have ne1 : ∀ b o, s1.heap.get? b = some o → b ≠ e := fun b o q z => by rw [z, n0] at q; cases q
  have ne2 : ∀ b : Addr, vs[1]? ≠ some (.ref b) := fun b z => by rw [q5] at z; cases z
  have u : Un (frs (cxOf (CXE P w) P w K mg base N qual scope f cd A outer s H E).stack) [] H1 H2 s1.heap h' :=
    un.post (fun b o p q n _ r => Nt.keep b o n (ne1 b p q) (ne2 b) r) (fun b o n r => Nt.slot b o n r) (fun b o p q r => by
      by_cases hb : b ∈ frs (cxOf (CXE P w) P w K mg base N qual scope f cd A outer s H E).stack
      · obtain ⟨sl, z⟩ := Nt.slot b o hb r
        exact ⟨_, z⟩
      · exact ⟨o, Nt.keep b o hb (ne1 b p q) (ne2 b) r⟩)
  have hok2 : HOk P w H2 h' := HOk.keepT hok fun b o u q r => Nt.keep b o (fun z => by rw [I2.stkFree b z] at q; cases q) (fun z => by rw [z, he] at q; cases q) (ne2 b) r
  have base0 : ∀ {b : Addr}, s1.heap.get? b = none → s.heap.get? b = none := fun {b} q => by
    cases z : s.heap.get? b with
    | none => rfl
    | some o =>
      obtain ⟨o', r⟩ := I.base.there b o z (by intro y; exact absurd (show b ∈ ([] : List Addr) from y) (by simp))
      rw [q] at r; cases r
  have t1 : s1.heap.get? T = none := by
    cases z : s1.heap.get? T with
    | none => rfl
    | some o =>
      obtain ⟨o', r⟩ := un.there T o z (by simp)
      rw [Nt.new] at r; cases r
  refine ⟨e, C, T, H2, rfl, I2.os, bare, frame_own I rfl u, hok2, he, hok.none_of Nt.new, ⟨base0 n0, base0 t1, Nt.ne, ⟨_, _, Nt.exc, (Obj.cls_mapFields _ _).trans q2, Obj.data_mapFields q4 _, ?_⟩, Nt.tb⟩, ?_⟩
  · have z := (Array.getElem?_eq_some_iff.mp q5).1
    simp [z]
  · rw [dxOf_of Nt.exc, mapF_cls]
    exact hE
theorem throw_fn {pins : List (Addr × Obj)} {σ : St} {H1 : Hp} {s1 : Shared} {h1 : Heap} {e C : Addr} {args : List Value} (I : Inv (cxOf (CXE P w) P w K mg base N qual scope f cd A outer s H E) pins σ H1 s1)
    (hx : Heap.MadeExcOf s1.heap h1 e (.ref C) args) (hE : E (.ref C) none H1) : (cxOf (CXE P w) P w K mg base N qual scope f cd A outer s H E).xe (.ref e) { s1 with heap := h1 } := by
  obtain ⟨t, e1, _⟩ := hx.there
  have I1 := I.kept (h' := h1) (t' := s1.toks) hx.keeps
  exact throw_out (s2 := { s1 with heap := h1 }) I rfl I.bare (Un.kept (h := s1.heap) (h' := h1) hx.keeps) I1.hok (I.hok.none_of hx.new) hx.new e1 rfl rfl rfl hE
theorem passes_fn {E' : XK} (hE : ∀ c d H, E' c d H → E c d H) : Passes (CXE P w) (cxOf (CXE P w) P w K mg base N qual scope f cd A outer s H E) E' := by
  intro pins σ H1 s1 ev s2 I h
  obtain ⟨e, C, T, H2, rfl, os, bare, un, hok, he, hT, ⟨n0, t0, ne, ⟨oe, vs, q1, q2, q4, q5⟩, ⟨oT, ts, r1, r2, r3⟩⟩, hw⟩ := h
  have I2 := I.call' os un hok bare (fun _ z => nomatch z)
  refine leave_ok I2.ok.frames I2.stack rfl q1 q4 (.inr ⟨T, oT, ts, q5, ne, r1, r2, r3⟩) fun h' T' Nt => ?_
  have ne1 : ∀ b o, s1.heap.get? b = some o → b ≠ e := fun b o q z => by rw [z, n0] at q; cases q
  have ne2 : ∀ b o, s1.heap.get? b = some o → vs[1]? ≠ some (.ref b) := fun b o q z => by rw [q5] at z; cases z; rw [t0] at q; cases q
  have u : Un (frs (cxOf (CXE P w) P w K mg base N qual scope f cd A outer s H E).stack) [] H1 H2 s1.heap h' :=
    un.post (fun b o p q n _ r => Nt.keep b o n (ne1 b p q) (ne2 b p q) r) (fun b o n r => Nt.slot b o n r) (fun b o p q r => by
      by_cases hb : b ∈ frs (cxOf (CXE P w) P w K mg base N qual scope f cd A outer s H E).stack
      · obtain ⟨sl, z⟩ := Nt.slot b o hb r
        exact ⟨_, z⟩
      · exact ⟨o, Nt.keep b o hb (ne1 b p q) (ne2 b p q) r⟩)
  have hok2 : HOk P w H2 h' := HOk.keepT hok fun b o u q r => Nt.keep b o (fun z => by rw [I2.stkFree b z] at q; cases q) (fun z => by rw [z, he] at q; cases q) (fun z => by rw [q5] at z; cases z; rw [hT] at q; cases q) r
  have base0 : ∀ {b : Addr}, s1.heap.get? b = none → s.heap.get? b = none := fun {b} q => by
    cases z : s.heap.get? b with
    | none => rfl
    | some o =>
      obtain ⟨o', r⟩ := I.base.there b o z (by intro y; exact absurd (show b ∈ ([] : List Addr) from y) (by simp))
      rw [q] at r; cases r
  have t1 : s1.heap.get? T' = none := by
    cases z : s1.heap.get? T' with
    | none => rfl
    | some o =>
      obtain ⟨o', r⟩ := un.there T' o z (by simp)
      rw [Nt.new] at r; cases r
  refine ⟨e, C, T', H2, rfl, I2.os, bare, frame_own I rfl u, hok2, he, hok.none_of Nt.new, ⟨base0 n0, base0 t1, Nt.ne, ⟨_, _, Nt.exc, (Obj.cls_mapFields _ _).trans q2, Obj.data_mapFields q4 _, ?_⟩, Nt.tb⟩, ?_⟩
  · have z := (Array.getElem?_eq_some_iff.mp q5).1
    simp [z]
  · rw [dxOf_of Nt.exc, mapF_cls]
    rw [dxOf_of q1] at hw
    exact hE _ _ _ hw
end
abbrev bmV : List Value := [.type "ValueError", .type "Exception", .type "BaseException", .type "object"]
abbrev ExcK (K : PySem.W.Frag) (C : Addr) : Prop := PySem.W.excIn K C bmV "ValueError.__new__" = true
theorem exc_obj {K : PySem.W.Frag} {h : Heap} {C : Addr} (X : K.In h) (q : ExcK K C) : ∃ bm N nm qn bs hd sn sub ab col dd k0 k1 k2 k3 k5 mN,
    h.get? C = some (excClassObj nm qn C N bs bm hd sn sub ab col dd k0 k1 k2 k3 k5 "ValueError.__new__") ∧ h.Ns N mN ∧ mN "__init__" = none ∧ OwnTail h bmV bm := by
  have q : PySem.W.excIn K C bmV "ValueError.__new__" = true := q
  unfold PySem.W.excIn at q
  split at q
  · rename_i dd cd sl lk
    split at q
    · rename_i C1 bm a0 a1 a2 a3 n a5 em es
      simp only [Bool.and_eq_true, beq_iff_eq, Bool.not_eq_true'] at q
      obtain ⟨⟨⟨⟨⟨c1, c2⟩, c3⟩, c4⟩, c5⟩, c6⟩ := q
      subst c1 c2
      have ob := X _ _ lk
      obtain ⟨l⟩ := sl
      obtain ⟨nm, bs, mro, ns, qn, hd, sn, sub, ab, col, del⟩ := cd
      simp only at em es c3 c5 c6
      subst em es c3
      exact ⟨bm, ns, nm, qn, bs, hd, sn, sub, ab, col, dd, a0, a1, a2, a3, a5, _, ob, .of_isNs (PySem.W.isNs_of_in X c5), PySem.W.nsMap_none_of_in X c5 c6, PySem.W.tail_of_in X c4⟩
    · cases q
  · cases q
def tRaise (C : Addr) (E : XK) (t : TA) : TS := fun _ σ H => t σ H fun vs H1 => vs.length ≤ sizeLine ∧ E (.ref C) none H1
theorem ps_raise {X : Cx} {x : Str} {C : Addr} {e0 : Expr} {es : List Expr} {t : TA} {E : XK} {np cpos pos : Pos}
    (hth : ∀ (pins : List (Addr × Obj)) (σ : St) (H : Hp) (s : Shared) (h1 : Heap) (e : Addr) (args : List Value), Inv X pins σ H s → Heap.MadeExcOf s.heap h1 e (.ref C) args → E (.ref C) none H → X.xe (.ref e) { s with heap := h1 })
    (hc : X.calm = true) (hg : Gl X x) (hm : X.mg x = some (.ref C)) (q : ExcK X.K C) (ha : PA X (e0 :: es) t) (hd : (x == ("__debug__" : Str)) = false := by decide)
    (he : starEach (e0 :: es) X.env = (false, eval e0 X.env) :: starEach es X.env := by rfl) (hp : (backTo cpos (starEach es X.env)).any (·.1) = false := by rfl) :
    PS X (.Raise (some (.Call (.Name x np) (e0 :: es) [] cpos)) none pos) (tRaise C E t) := by
  intro pins s σ H D I h
  obtain ⟨bm, N, nm, qn, bs, hdt, sn, sub, ab, col, dd, k0, k1, k2, k3, k5, mN, hC, hN, hni, T⟩ := exc_obj I.mod.kin q
  refine wpAny_Raise_call_subT (C := C) (nm := nm) (q := qn) (N := N) (bs := bs) (bm := bm) (hdct := hdt) (sn := sn) (sub := sub) (ab := ab) (col := col) (dd := dd) (k0 := k0) (k1 := k1) (k2 := k2) (k3 := k3) (k5 := k5)
    PySem.F.excBase_ValueError (mN := mN) (T.hasType PySem.F.excBase_ValueError.hasBase) (I.ok.hd hc) (by rw [he]; show (false || (backTo cpos (starEach es X.env)).any (·.1)) = false; rw [hp]; rfl) hni (ld_glob I hg hm ⟨rfl, ?_⟩ hd)
  have hb := ha cpos pins s σ H _ I h
  rw [he] at hb ⊢
  exact Calls.evalArgs_plain (thn hb fun us s1 ⟨vs, H1, I1, r1, z1, z2⟩ => ⟨rfl, (by show us.length ≤ sizeLine; rw [← r1.length]; exact z1), I1.bk _ _ hC, hN.keeps I1.bk, T.keeps I1.bk, fun h' e hx => hth pins σ H1 s1 h' e us I1 hx z2⟩)
section
variable {P : Program} {w : World} {K : PySem.W.Frag} {mg : Str → Option Value} {base : Heap}
end
end L2
namespace L2
open PySem PySem.Spec PyProof.Rows
def CXX (X : Cx) (pins : List (Addr × Obj)) (σ : St) (E : XK) (ev : Value) (s' : Shared) : Prop := ∃ H s, Inv X pins σ H s ∧ CXE X.prog X.w X.stack H s E ev s'
abbrev TEX := St → Hp → VK → XK → Prop
def PEX (X : Cx) (e : Expr) (t : TEX) : Prop :=
  ∀ (pins : List (Addr × Obj)) (s : Shared) (σ : St) (H : Hp) (Q : VK) (E : XK), Inv X pins σ H s → t σ H Q E → wpAny (model X.prog X.w) X.A (eval e X.env) (EP X pins σ Q) (CXX X pins σ E) s
abbrev TSX := Ends → XK → St → Hp → Prop
def PSX (X : Cx) (st : List Stmt) (t : TSX) : Prop :=
  ∀ (pins : List (Addr × Obj)) (s : Shared) (σ : St) (H : Hp) (D : Ends) (E : XK), Inv X pins σ H s → t D E σ H → wpAny (model X.prog X.w) X.A (execs st X.env) (SP X pins D) (CXX X pins σ E) s
section
variable {X : Cx} {k : Nat} {f : Addr} {fd : FuncData} {ps : List Str} {sp : Sp} {dvs : List V} {ds : List Value} {x : Str} {p pos : Pos} {e : Expr} {es : List Expr} {t : TA}
def tCallX (sp : Sp) (dvs : List V) (t : TA) : TEX := fun σ H Q E => t σ H fun vs H1 => sp (vs ++ dvs) H1 Q E
theorem pex_call (F : FnOk X.prog X.w X.K X.mg X.base (CXE X.prog X.w) k f fd ps sp) (hr : Room k X.A) (hg : Gl X x) (hm : X.mg x = some (.ref f)) (hk : PySem.W.keepIn X.K (.ref f) = true) (hb : Binds X.K fd ps ds) (hd : Vals dvs ds)
    (ha : PA X.nox (e :: es) t) (hdb : (x == ("__debug__" : Str)) = false := by decide) (he : starEach (e :: es) X.env = (false, eval e X.env) :: starEach es X.env := by rfl) (hpl : (backTo pos (starEach es X.env)).any (·.1) = false := by rfl) :
    PEX X (.Call (.Name x p) (e :: es) [] pos) (tCallX sp dvs t) := by
  intro pins s σ H Q E I h
  refine wpAny_Call_Name_kw (ld_glob I hg hm ?_ hdb)
  refine PySem.W.callWith_K (h₀ := X.base) I.ok.mod.kin hk (wpAny_mono (ha pos pins s σ H _ (I.wish _) h) (fun us s1 ⟨vs, H1, I1, r, q⟩ => ⟨I1.unwish.kIn, ?_⟩) fun _ _ z => False.elim z) he hpl
  have I1' := I1.unwish
  have r2 : Vals (vs ++ dvs) (us ++ ds) := r.append hd
  have hl : (us ++ ds).length = ps.length := by rw [← r2.length]; exact F.len _ _ _ _ q
  refine wpAny_call (codeAny_mono (F.run X.A X.stack s1 H1 ⟨us, []⟩ (us ++ ds) (vs ++ dvs) Q E hr I1'.env0 (hb s1 us I1'.kIn hl) r2 q) fun r s' hq => ?_)
  cases r with
  | error ev => exact ⟨H1, s1, I1', hq⟩
  | ok fl =>
    cases fl with
    | ret u => exact I1'.after hq
    | next => exact False.elim hq
    | brk => exact False.elim hq
    | cont => exact False.elim hq
theorem psx_expr {te : TEX} (he : PEX X e te) (hs : swapsWith e none pos.line X.env = pure false := by rfl) : PSX X [.Expr e pos] (fun D E σ H => te σ H (fun _ H1 => D.nx σ H1) E) := by
  intro pins s σ H D E I h
  exact wpAny_execs_cons (wpAny_Expr_any (wpAny_mono (he pins s σ H _ E I h) (fun u s1 ⟨v, H1, I1, r1, q1⟩ => wpAny_execs_nil ⟨σ, H1, I1, q1⟩) fun _ _ z => z) I.quiet hs)
end
def excAtD (C e : Addr) (d : Option Addr) (h : Heap) : Prop := ∃ o, h.get? e = some o ∧ o.cls = .ref C ∧ o.dict = d ∧ PySem.W.notCls o = true
abbrev excAt (C e : Addr) (h : Heap) : Prop := excAtD C e none h
def ExcD (C e : Addr) (d : Option Addr) : HO := .ext (excAtD C e d)
abbrev ExcO (C e : Addr) : HO := ExcD C e none
theorem excO_ok {P : Program} {w : World} {H : Hp} {h : Heap} {C e : Addr} {d : Option Addr} (x : excAtD C e d h) : ObjOk P w H h e (ExcD C e d) := by
  obtain ⟨o, q⟩ := id x
  exact ⟨x, ⟨o, q.1⟩, fun h1 h2 ⟨o, a, b⟩ k => ⟨o, k o a, b⟩⟩
theorem caught_inv {X : Cx} {pins : List (Addr × Obj)} {σ : St} {H H' : Hp} {s s' : Shared} {e C T L T' : Addr} {oe : Obj} {vs : Array Value} {h3 : Heap} {d : Option Addr} (I : Inv X pins σ H s) (os : s'.os = s.os) (bare : AllBare s'.gens)
    (un : Un (frs X.stack) [] H H' s.heap s'.heap) (hok : HOk X.prog X.w H' s'.heap) (he : H' e = none) (hT : H' T = none) (n0 : s.heap.get? e = none) (t0 : s.heap.get? T = none) (q5 : vs[1]? = some (.ref T))
    (c1 : oe.cls = .ref C) (c2 : oe.dict = d) (c3 : oe.data = .fields vs) (Nt : Noted (frs X.stack) e L oe vs s'.heap h3 T' .none) : Inv X pins σ (upd H' e (ExcD C e d)) { s' with heap := h3 } := by
  have I2 := I.call' os un hok bare (fun _ z => nomatch z)
  have ne1 : ∀ b o, s.heap.get? b = some o → b ≠ e := fun b o q z => by rw [z, n0] at q; cases q
  have ne2 : ∀ b o, s.heap.get? b = some o → vs[1]? ≠ some (.ref b) := fun b o q z => by rw [q5] at z; cases z; rw [t0] at q; cases q
  have u : Un (frs X.stack) [] H H' s.heap h3 :=
    un.post (fun b o p q n _ r => Nt.keep b o n (ne1 b p q) (ne2 b p q) r) (fun b o n r => Nt.slot b o n r) (fun b o p q r => by
      by_cases hb : b ∈ frs X.stack
      · obtain ⟨sl, z⟩ := Nt.slot b o hb r
        exact ⟨_, z⟩
      · exact ⟨o, Nt.keep b o hb (ne1 b p q) (ne2 b p q) r⟩)
  have hok2 : HOk X.prog X.w H' h3 := HOk.keepT hok fun b o u q r => Nt.keep b o (fun z => by rw [I2.stkFree b z] at q; cases q) (fun z => by rw [z, he] at q; cases q) (fun z => by rw [q5] at z; cases z; rw [hT] at q; cases q) r
  have ne3 : ∀ b u, H' b = some u → b ≠ e := fun b u q z => by rw [z, he] at q; cases q
  have u2 : Un (frs X.stack) [] H (upd H' e (ExcD C e d)) s.heap h3 :=
    ⟨u.keep, u.slot, fun b o q n hx => by rw [upd_ne (ne1 b o q)]; exact u.free b o q n hx, u.there, fun b xs q => by rw [upd_ne (ne3 b _ (u.tups b xs q))]; exact u.tups b xs q,
     fun b o xs q => by rw [upd_ne (ne3 b _ (u.frzs b o xs q))]; exact u.frzs b o xs q, fun b p q => by
      obtain ⟨m, z⟩ := u.tbls b p q
      exact ⟨m, by rw [upd_ne (ne3 b _ z)]; exact z⟩⟩
  have ex : excAtD C e d h3 := ⟨_, Nt.exc, (Obj.cls_mapFields _ _).trans c1, (mapF_cls _ _).trans c2, by
    unfold PySem.W.notCls
    rw [Obj.data_mapFields c3]⟩
  have hok3 : HOk X.prog X.w (upd H' e (ExcD C e d)) h3 := fun b o q => by
    by_cases hb : b = e
    · subst hb
      rw [upd_same] at q; cases q
      exact excO_ok ex
    · rw [upd_ne hb] at q
      exact (hok2 b o q).stay (fun _ _ _ r => r) (fun c r => by rw [upd_ne (ne3 c _ r)]; exact r) fun c xs r => by rw [upd_ne (ne3 c _ r)]; exact r
  exact I.call' (s' := { s' with heap := h3 }) os u2 hok3 bare (fun _ z => nomatch z)
structure CatchK (K : PySem.W.Frag) (D : Addr) : Prop where
  tup : PySem.W.instIn K (.ref D) (.type "tuple") = some false
  cls : (PySem.W.clsIn K D).isSome = true
  exc : PySem.W.mroIn K D (.type "BaseException") = some true
theorem looks_isType {K : PySem.W.Frag} {M : Model} {h : Heap} {D : Addr} (X : K.In h) (c : (PySem.W.clsIn K D).isSome = true) : PySem.W.Looks M h (isType (.ref D)) true := by
  unfold PySem.W.clsIn at c
  split at c
  · rename_i a b cd sl lk
    intro A Q E s k q
    unfold isType loadHead
    exact wpAny_bind (wpAny_loadPart (k _ _ (X _ _ lk)) (wpAny_pure q))
  · cases c
theorem matches_ok {K : PySem.W.Frag} {M : Model} {A : Around} {E : Value → Shared → Prop} {s : Shared} {e C D : Addr} {o : Obj} {Q : Bool → Shared → Prop} (X : K.In s.heap) (c : CatchK K D) (sub : PySem.W.mroIn K C (.ref D) = some true)
    (he : s.heap.get? e = some o) (hc : o.cls = .ref C) (h : Q true s) : wpAny M A (excMatches (.ref e) (.ref D)) Q E s := by
  have l1 := PySem.W.looks_instIn (M := M) X c.tup
  have l2 := looks_isType (M := M) X c.cls
  have l3 := PySem.W.looks_mroIn (M := M) X c.exc
  have l4 := PySem.W.looks_mroIn (M := M) X sub
  obtain ⟨hh, g, d, t, os⟩ := s
  unfold excMatches
  refine wpAny_bind (l1.at ?_)
  simp only [Bool.false_eq_true, if_false, pure_bind, List.forIn_cons, List.forIn_nil]
  refine wpAny_bind (wpAny_bind (wpAny_bind ?_))
  unfold isExcClass
  refine wpAny_bind (l2.at ?_)
  rw [if_pos rfl]
  refine l3.at ?_
  simp only [Bool.not_true, Bool.false_eq_true, if_false]
  refine wpAny_pure (wpAny_pure ?_)
  refine wpAny_bind (wpAny_typeOf_ref he ?_)
  rw [hc]
  refine wpAny_bind (wpAny_bind (wpAny_bind (l4.at ?_)))
  rw [if_pos rfl]
  exact wpAny_pure (wpAny_pure (wpAny_pure h))
theorem Inv.relocal {X : Cx} {pins : List (Addr × Obj)} {σ σ' : St} {H : Hp} {s : Shared} {h' : Heap} {m' : Str → Option Value} {tk : Nat} (I : Inv X pins σ H s) (hs : Heap.SameBut X.env.locals s.heap h') (hn : h'.Ns X.env.locals m')
    (hl : ∀ (i : Nat) (x : Str) (v : V), X.N[i]? = some x → σ'[i]? = some (some v) → Vis X.env.scope x → ∃ u, RelV v u ∧ Look X.env h' m' x u) (len : σ'.length = σ.length) : Inv X pins σ' H { s with heap := h', toks := tk } := by
  have neL : ∀ b o, X.s₀.heap.get? b = some o → b ≠ X.env.locals := fun b o e => Nat.ne_of_lt (Nat.lt_of_lt_of_le (Heap.lt_size e) I.ok.above)
  refine ⟨I.ok, I.os, I.bare, ⟨fun b o e n hb hx => (hs.2 b (neL b o e)).trans (I.base.keep b o e n hb hx), fun b o e n hb hx => ?_, I.base.free, fun b o e hx => ?_, I.base.tups, I.base.frzs, I.base.tbls⟩, ⟨m', hn, hl⟩, fun y c e => ?_, I.free, I.freeC, fun p hp => ?_, ?_, len.trans I.len⟩
  · obtain ⟨sl, z⟩ := I.base.slot b o e n hb hx
    exact ⟨sl, (hs.2 b (neL b o e)).trans z⟩
  · obtain ⟨o', z⟩ := I.base.there b o e hx
    exact ⟨o', (hs.2 b (neL b o e)).trans z⟩
  · obtain ⟨w', z⟩ := I.cell y c e
    exact ⟨w', z.sameBut hs (I.cne y c e)⟩
  · obtain ⟨a, b, c, d, f⟩ := I.pin p hp
    exact ⟨(hs.2 p.1 c).trans a, b, c, d, f⟩
  · exact HOk.keepT I.hok fun b o u q r => (hs.2 b fun z => by rw [z, I.free] at q; cases q).trans r
theorem goes_ok {X : Cx} {M : Model} {A : Around} {E : Value → Shared → Prop} {pins : List (Addr × Obj)} {σ : St} {H : Hp} {s : Shared} {j : Nat} {n : Str} {pos : Pos} {Q : Unit → Shared → Prop} (I : Inv X pins σ H s) (hN : X.N.Nodup) (hj : X.N[j]? = some n)
    (hx : X.env.scope.names.lookup n = some .local) (h : ∀ s', Inv X pins (σ.set j none) H s' → Q () s') : wpAny M A (do bindName X.env n .none; unbindBehindTheSuite X.env n pos) Q E s := by
  obtain ⟨m, hn, hl⟩ := I.loc
  refine wpAny_nameGoes_keeps hx hn (by rw [I.ok.kind]; rfl) fun h' v hn' hs => h _ (I.relocal hs hn' (fun i x w e1 e2 e3 => ?_) (by simp))
  have hij : i ≠ j := fun z => by
    subst z
    rw [List.getElem?_set] at e2
    simp at e2
  rw [List.getElem?_set_ne (Ne.symm hij)] at e2
  obtain ⟨u, r, q⟩ := hl i x w e1 e2 e3
  refine ⟨u, r, ?_⟩
  rcases q with ⟨k, e⟩ | ⟨k, c, e, z⟩
  · refine .inl ⟨k, ?_⟩
    have : x ≠ n := fun e => hij (nodup_ix hN e1 (e ▸ hj))
    simp [this, e]
  · exact .inr ⟨k, c, e, z.sameBut hs (I.cne x c e)⟩
abbrev Cx.held (X : Cx) (e : Addr) : Cx := { X with A := X.A.mark (some (.ref e)), calm := false, xe := fun _ _ => False }
theorem Inv.held {X : Cx} {pins : List (Addr × Obj)} {σ : St} {H : Hp} {s : Shared} (I : Inv X pins σ H s) (e : Addr) : Inv (X.held e) pins σ H s :=
  ⟨⟨I.ok.mod, I.ok.kind, I.ok.glob, I.ok.blt, I.ok.above, I.ok.inj, I.ok.has, I.ok.cab, (fun z => nomatch z), I.ok.frames, I.ok.stk, I.ok.exf, I.ok.bs, I.ok.bsz, I.ok.noex, I.ok.exfs, I.ok.funs, I.ok.frf⟩, I.os, I.bare, I.base, I.loc, I.cell, I.free, I.freeC, I.pin, I.hok, I.len⟩
theorem Inv.unheld {X : Cx} {pins : List (Addr × Obj)} {σ : St} {H : Hp} {s : Shared} {e : Addr} (ok : X.Ok) (I : Inv (X.held e) pins σ H s) : Inv X pins σ H s := ⟨ok, I.os, I.bare, I.base, I.loc, I.cell, I.free, I.freeC, I.pin, I.hok, I.len⟩
def Ends.drop (D : Ends) (j : Nat) : Ends := { nx := fun σ H => D.nx (σ.set j none) H, rt := D.rt, bk := fun σ H => D.bk (σ.set j none) H, ct := fun σ H => D.ct (σ.set j none) H }
def tTryAs (K : PySem.W.Frag) (D : Addr) (j : Nat) (tb : TSX) (th : TS) : TS := fun En σ H => tb En (fun c d H1 => ∃ C, c = .ref C ∧ PySem.W.mroIn K C (.ref D) = some true ∧ ∀ e, H1 e = none → th (En.drop j) (σ.set j (some (.ref e))) (upd H1 e (ExcD C e d))) σ H
theorem ps_try_as {X : Cx} {body : List Stmt} {tb : TSX} {th : TS} {d n : Str} {D : Addr} {j : Nat} {b0 : Stmt} {suite : List Stmt} {pd hpos pos : Pos} (hb : PSX X body tb) (hN : X.N.Nodup) (hj : X.N[j]? = some n) (hx : X.env.scope.names.lookup n = some .local)
    (hst : X.stack = X.env :: X.outer) (hL : X.env.frame = some X.env.locals) (hg : Gl X d) (hm : X.mg d = some (.ref D)) (c : CatchK X.K D) (hs : ∀ e, PSs (X.held e) (b0 :: suite) th) (hd : (d == ("__debug__" : Str)) = false := by decide) :
    PS X (.Try body [.ExceptHandler (some (.Name d pd)) (some n) (b0 :: suite) hpos] [] [] pos) (tTryAs X.K D j tb th) := by
  intro pins s σ H En I h
  refine wpAny_Try_except (wpAny_mono (hb pins s σ H _ _ I h) (fun f s1 q => ?_) fun ev s1 q => ?_)
  · cases f with
    | next => exact wpAny_execs_nil q
    | brk => exact q
    | cont => exact q
    | ret v => exact q
  · obtain ⟨H0, s0, I0, e, C, T, H1, rfl, os, bare, un, hok, he, hT, ⟨n0, t0, ne, ⟨oe, vs, q1, q2, q4, q5⟩, ⟨oT, ts, r1, r2, r3⟩⟩, C', hC', sub, hw⟩ := q
    cases hC'
    have q3 : oe.dict = dxOf s1.heap e := (dxOf_of q1).symm
    have I1 := I0.call' os un hok bare (fun _ z => nomatch z)
    have hz : 1 < vs.size := (Array.getElem?_eq_some_iff.mp q5).1
    have fr : X.A.frames = some (X.env :: X.outer) := by rw [← hst]; exact I.ok.frames
    have st1 : s1.heap.FunFrames X.base (X.env :: X.outer) := by rw [← hst]; exact I1.stack
    refine note_ok fr st1 hL q1 q4 (.inr ⟨T, oT, ts, q5, ne, r1, r2, r3⟩) fun h1 T' N1 => ?_
    have tf : T' ∉ frs (X.env :: X.outer) := fun z => by
      obtain ⟨_, o, ho, _⟩ := st1.mem z
      rw [N1.new] at ho; cases ho
    refine land_ok (s := { s1 with heap := h1 }) N1 q4 hz tf fun h2 N2 => ?_
    have N2' : Noted (frs X.stack) e X.env.locals oe vs s1.heap h2 T' .none := by rw [hst]; exact N2
    have I2 := caught_inv I0 os bare un hok he hT n0 t0 q5 q2 q3 q4 N2'
    refine wpAny_handleBy_cons (codeAny_handlers_test (ld_glob (I2.held e) hg hm ?_ hd)) (by intro z; cases z)
    refine matches_ok I2.kIn c sub N2.exc ((Obj.cls_mapFields _ _).trans q2) ?_
    show codeAny _ _ _ _ _
    refine codeAny_handlers_suite_as ?_
    refine land_ok (s := { s1 with heap := h2 }) N2 q4 hz tf fun h3 N3 => ?_
    have N3' : Noted (frs X.stack) e X.env.locals oe vs s1.heap h3 T' .none := by rw [hst]; exact N3
    have I3 := caught_inv I0 os bare un hok he hT n0 t0 q5 q2 q3 q4 N3'
    refine store_ok I3 hN hj (.inl hx) (v := .ref e) rfl (fun s4 I4 => ?_) (.inr hx)
    refine wpAny_mono (hs e pins s4 _ _ _ (I4.held e) (hw e he)) (fun f s5 q => ?_) fun _ _ z => False.elim z
    show wpAny _ _ _ _ _ _
    cases f with
    | next =>
      obtain ⟨σ5, H5, I5, q⟩ := q
      exact goes_ok (I5.unheld I.ok) hN hj hx fun s6 I6 => ⟨_, _, I6, q⟩
    | brk =>
      obtain ⟨σ5, H5, I5, q⟩ := q
      exact goes_ok (I5.unheld I.ok) hN hj hx fun s6 I6 => ⟨_, _, I6, q⟩
    | cont =>
      obtain ⟨σ5, H5, I5, q⟩ := q
      exact goes_ok (I5.unheld I.ok) hN hj hx fun s6 I6 => ⟨_, _, I6, q⟩
    | ret u =>
      obtain ⟨v5, σ5, H5, I5, r5, q⟩ := q
      exact goes_ok (I5.unheld I.ok) hN hj hx fun s6 I6 => ⟨_, _, _, I6, r5, q⟩
end L2
namespace L2
open PySem PySem.Spec PyProof.Rows
structure ClsX (K : PySem.W.Frag) (C : Addr) : Prop where
  ga : PySem.W.findIn K (.ref C) "__getattribute__" = some (some (.builtin "BaseException.__getattribute__"))
  no : PySem.W.findIn K (.ref C) "__getattr__" = some none
  hd : PySem.W.hasDictIn K C = true
  ha : PySem.W.findIn K (.ref C) "__class__" = some (some (.builtin "object.__class__"))
  hn : PySem.W.specialIn K (.builtin "object.__class__") "__get__" = some (some (.builtin "getset_descriptor.__get__"))
  ht : PySem.W.takesIn K (.builtin "object.__class__") = some true
  hm : PySem.W.mroIn K C (.type "object") = some true
  hb : PySem.W.mroIn K C (.type "BaseException") = some true
section
variable {prog : Program} {w : World} {A : Around} {E : Value → Shared → Prop} {K : PySem.W.Frag} {C e : Addr} {ox : Obj} {od : Option Obj}
theorem ga_class {s : Shared} {tk : Tok} {Q : Fin → Shared → Prop} (c : ClsX K C) (X : K.In s.heap) (I : PySem.W.InstAt s.heap e ox C od) (h : Q (.done (.ret (.ref C))) s) :
    wpAny (model prog w) A (Builtin.«object.__getattribute__» ⟨[.ref e, .str "__class__" tk], []⟩) Q E s := by
  have hf : PySem.W.findObj K C od "__class__" = some (.bind (.builtin "getset_descriptor.__get__") (.builtin "object.__class__")) := by
    obtain ⟨cd, q, _⟩ := PySem.W.any_some c.hd
    unfold PySem.W.findObj
    rw [q, Option.bind_some, c.ha, Option.bind_some]
    simp [c.hn, c.ht]
  obtain ⟨hh, gg, d, t, os⟩ := s
  have L0 := I.type (M := model prog w)
  have L1 := PySem.W.looks_find (M := model prog w) X I hf
  unfold Builtin.«object.__getattribute__»
  repeat (first | with_reducible refine L0.at ?_ | with_reducible refine L1.at ?_ | wp_step)
  exact PySem.W.class_get (ox := ox) (od := od) X I c.hm (wpAny_pure h)
theorem ga_check {M : Model} {s : Shared} {nameV : Value} {Q : Unit → Shared → Prop} (c : ClsX K C) (X : K.In s.heap) (I : PySem.W.InstAt s.heap e ox C od) (h : Q () s) :
    wpAny M A (checkBuiltinCall "BaseException.__getattribute__" ⟨[.ref e, nameV], []⟩) Q E s := by
  have hk : builtinKind "BaseException.__getattribute__" = some .slot := by decide +kernel
  have hs : splitId "BaseException.__getattribute__" = some ("BaseException", "__getattribute__") := by decide +kernel
  have ha := F.args_bexc_ga (.ref e) nameV
  have LI : PySem.W.Looks M s.heap (isInstance (.ref e) (.type "BaseException")) true := (I.type (M := M)).andThen (PySem.W.looks_mroIn X c.hb)
  obtain ⟨hh, gg, d, t, os⟩ := s
  simp only [checkBuiltinCall, hk, hs]
  refine wpAny_bind (LI.at ?_)
  repeat (first | assumption | wp_step)
theorem exc_class {s : Shared} {Q : Option Value → Shared → Prop} (c : ClsX K C) (X : K.In s.heap) (I : PySem.W.InstAt s.heap e ox C od) (h : Q (some (.ref C)) { s with toks := s.toks + 1 }) :
    wpAny (model prog w) A (getAttr? (.ref e) "__class__") Q E s := by
  obtain ⟨hh, gg, d, t, os⟩ := s
  have L0 := I.type (M := model prog w)
  have L1 := PySem.W.looks_findIn (M := model prog w) X c.ga
  have L2 := PySem.W.looks_findIn (M := model prog w) X c.no
  have f3 := PySem.F.attr_ValueError.ga.bind (.ref e)
  unfold getAttr? getAttrBy? getAttrBy
  refine wpAny_bind (wpAny_mkText (wpAny_bind (wpAny_attempt (wpAny_holding (wpAny_bind (L0.at (wpAny_bind (L1.at ?_))))))))
  have e1 : (onTheHeap (Value.ref C) && Value.builtin "BaseException.__getattribute__" == Value.builtin "object.__getattribute__") = false := by rw [show (Value.builtin "BaseException.__getattribute__" == Value.builtin "object.__getattribute__") = false from by decide +kernel, Bool.and_false]
  dsimp only
  rw [e1]
  simp only [Bool.false_eq_true, if_false]
  unfold getAttrByItsOwn hookBefore
  repeat (first | with_reducible refine L2.at ?_ | assumption | wp_step)
  refine codeAny_call_builtin PySem.F.attr_ValueError.ga.plain F.entry_bexc_ga (ga_check c X I (ga_class c X I ?_))
  show wpAny (model prog w) A (handedOut (.ref C)) _ _ _
  exact PySem.W.handed_on rfl (wpAny_pure h)
end
end L2
namespace L2
open PySem PySem.Spec PyProof.Rows
theorem kitx_exc {K : PySem.W.Frag} {C e : Addr} (c : ClsX K C) : PySem.W.KitX K (.ref e) (.ref C) (excAt C e) where
  ty := fun M h _ ⟨o, h1, h2, _⟩ => h2 ▸ (PySem.W.Looks.ld h1).andThen .now
  it := fun M h X _ => by
    obtain ⟨cd, q, _⟩ := PySem.W.any_some c.hd
    exact looks_isType X (by rw [q]; rfl)
  ne := fun h tp dd its n sl X htp => by
    obtain ⟨cd, q, _⟩ := PySem.W.any_some c.hd
    refine Bool.eq_false_iff.mpr fun z => ?_
    have e : C = tp := Value.ref.inj (beq_iff_eq.mp z)
    subst e
    unfold PySem.W.clsIn at q
    split at q
    · rename_i lk
      have z := (X _ _ lk).symm.trans htp
      cases z
    · cases q
  ca := fun {prog w A E Q s} X ⟨o, h1, h2, h3, h4⟩ k => by
    have I : PySem.W.InstAt s.heap e o C none := ⟨h1, h2, h4, by rw [h3]; exact trivial⟩
    exact exc_class c X I k
theorem kitx_excD {K : PySem.W.Frag} {C e d : Addr} (c : ClsX K C) : PySem.W.KitX K (.ref e) (.ref C) (fun h => excAtD C e (some d) h ∧ ∃ od, h.get? d = some od) where
  ty := fun M h _ ⟨⟨o, h1, h2, _⟩, _⟩ => h2 ▸ (PySem.W.Looks.ld h1).andThen .now
  it := fun M h X _ => by
    obtain ⟨cd, q, _⟩ := PySem.W.any_some c.hd
    exact looks_isType X (by rw [q]; rfl)
  ne := fun h tp dd its n sl X htp => (kitx_exc (e := e) c).ne h tp dd its n sl X htp
  ca := fun {prog w A E Q s} X ⟨⟨o, h1, h2, h3, h4⟩, od, hod⟩ k => by
    have I : PySem.W.InstAt s.heap e o C (some od) := ⟨h1, h2, h4, by rw [h3]; exact hod⟩
    exact exc_class c X I k
inductive TyX (K : PySem.W.Frag) (H : Hp) : V → Value → Prop where
  | of {x : V} {t : Value} (h : TyOf K H x t) : TyX K H x t
  | exc {C e : Addr} (h : H e = some (ExcO C e)) (c : ClsX K C) : TyX K H (.ref e) (.ref C)
  | excD {C e d : Addr} {fs : List (Str × V)} (h : H e = some (ExcD C e (some d))) (hd : H d = some (.xd fs)) (c : ClsX K C) : TyX K H (.ref e) (.ref C)
def clsV : V → Option Value
  | .ty n => some (.type n)
  | .ref a => some (.ref a)
  | _ => none
theorem clsV_rel {c : V} {u cv : Value} (h : clsV c = some cv) (r : RelV c u) : u = cv := by
  cases c with
  | ty n => cases h; exact r
  | ref a => cases h; exact r
  | _ => cases h
theorem clsV_all : ∀ {xs : List V} {us cs : List Value}, Vals xs us → xs.map clsV = cs.map some → us = cs
  | _, _, [], .nil, _ => rfl
  | _, _, _ :: _, .nil, h => by simp at h
  | _, _, [], .cons _ _, h => by simp at h
  | _, _, c :: cs, .cons r t, h => by
    simp only [List.map_cons, List.cons.injEq] at h
    rw [clsV_rel h.1 r, clsV_all t h.2]
section
variable {X : Cx}
def rIsi (K : PySem.W.Frag) : List V → Hp → VK → Prop := fun vs H Q => ∃ x c t b, vs = [x, c] ∧ TyX K H x t ∧ ((∃ cv, clsV c = some cv ∧ PySem.W.kitOne K t cv = some b) ∨ ∃ p xs cs, c = .ref p ∧ SqT K H p xs ∧ xs.map clsV = cs.map some ∧ PySem.W.kitAny K t cs = some b) ∧ Q (.bl b) H
theorem kitx_of {pins : List (Addr × Obj)} {σ : St} {H : Hp} {s : Shared} {x : V} {t u : Value} (I : Inv X pins σ H s) (rx : RelV x u) (ty : TyX X.K H x t) : ∃ HH, PySem.W.KitX X.K u t HH ∧ HH s.heap ∧ u ≠ .builtin "__main__.__loader__#opaque" := by
  cases ty with
  | exc h c =>
    cases (show u = _ from rx)
    obtain ⟨p, _⟩ := I.hok _ _ h
    exact ⟨_, kitx_exc c, p, fun z => nomatch z⟩
  | excD h hd c =>
    cases (show u = _ from rx)
    obtain ⟨p, _⟩ := I.hok _ _ h
    obtain ⟨_, ⟨od, _, _, q, _⟩, _⟩ := I.hok _ _ hd
    exact ⟨_, kitx_excD c, ⟨p, od, q⟩, fun z => nomatch z⟩
  | of ty =>
    cases ty with
    | non => cases (show u = Value.none from rx); exact ⟨_, PySem.W.kitx_none, trivial, fun z => nomatch z⟩
    | bl y => cases (show u = Value.bool y from rx); exact ⟨_, PySem.W.kitx_bool, trivial, fun z => nomatch z⟩
    | int i => obtain ⟨t, q⟩ := (show ∃ t, u = Value.int i t from rx); cases q; exact ⟨_, PySem.W.kitx_int, trivial, fun z => nomatch z⟩
    | str y => obtain ⟨t, q⟩ := (show ∃ t, u = Value.str y t from rx); cases q; exact ⟨_, PySem.W.kitx_str, trivial, fun z => nomatch z⟩
    | flt y => obtain ⟨t, q⟩ := (show ∃ t, u = Value.float y t from rx); cases q; exact ⟨_, PySem.W.kitx_float, trivial, fun z => nomatch z⟩
    | @lst a xs ea =>
      cases (show u = Value.ref a from rx)
      obtain ⟨_, _, n, _, h1⟩ := (show ObjOk X.prog X.w H s.heap a (.lst xs) from I.hok a _ ea)
      exact ⟨_, PySem.W.kitx_list, ⟨_, h1, rfl⟩, fun z => nomatch z⟩
    | @frz a ob xs ea =>
      cases (show u = Value.ref a from rx)
      obtain ⟨_, _, _, n, _, h1⟩ := (show ObjOk X.prog X.w H s.heap a (.frz ob (.lst xs)) from I.hok a _ ea)
      exact ⟨_, PySem.W.kitx_list, ⟨_, h1, rfl⟩, fun z => nomatch z⟩
    | @tup a xs ea =>
      cases (show u = Value.ref a from rx)
      obtain ⟨_, _, _, p⟩ := (show ObjOk X.prog X.w H s.heap a (.tup xs) from I.hok a _ ea)
      obtain ⟨o, h1, h2, _⟩ := p
      exact ⟨_, PySem.W.kitx_tuple, ⟨o, h1, h2⟩, fun z => nomatch z⟩
    | @dK a kvs ea =>
      cases (show u = Value.ref a from rx)
      obtain ⟨_, _, vs, _, p⟩ := (show ObjOk X.prog X.w H s.heap a (.dK kvs) from I.hok a _ ea)
      obtain ⟨o, es, ep, h1, h2, _⟩ := p
      exact ⟨_, PySem.W.kitx_dict, ⟨o, h1, h2.1⟩, fun z => nomatch z⟩
    | @dT a kvs ea =>
      cases (show u = Value.ref a from rx)
      obtain ⟨_, _, xs, _, o, es, ep, h1, h2, _⟩ := (show ObjOk X.prog X.w H s.heap a (.dT kvs) from I.hok a _ ea)
      exact ⟨_, PySem.W.kitx_dict, ⟨o, h1, h2.1⟩, fun z => nomatch z⟩
    | @ins a C dx fs ea cl ha hn htk hm =>
      cases (show u = Value.ref a from rx)
      obtain ⟨mA, O, _⟩ := ins_get I.hok ea
      obtain ⟨od, J, _⟩ := O.look
      exact ⟨_, PySem.W.kitx_own (cl.get _) cl.hd ha hn htk hm, J, fun z => nomatch z⟩
theorem call_isi : CallR X (.builtin "isinstance") (rIsi X.K) := by
  intro pins s σ H xs us Q I r h
  obtain ⟨x, c, t, b, rfl, ty, hc, q⟩ := h
  obtain ⟨u, v, rfl, rx, rc⟩ := vals2 r
  obtain ⟨HH, Z, p, hx⟩ := kitx_of I rx ty
  rcases hc with ⟨cv, e1, e2⟩ | ⟨a, xs, cs, rfl, hs, e1, e2⟩
  · rw [clsV_rel e1 rc]
    exact PySem.W.kia_one Z I.kIn p e2 hx fun tk => ⟨.bl b, H, I.tok tk, rfl, q⟩
  · cases (show v = Value.ref a from rc)
    obtain ⟨its, rv, ⟨o, h1, h2, n, h3⟩, _⟩ := I.tuple hs
    have e3 := clsV_all rv e1
    subst e3
    obtain ⟨oc, od, oda, osl⟩ := o
    simp only at h2 h3
    subst h2 h3
    exact PySem.W.kia_tup Z I.kIn p h1 e2 hx fun tk => ⟨.bl b, H, I.tok tk, rfl, q⟩
theorem boot_isi : bootBuiltins "isinstance" = some (.builtin "isinstance") := by decide +kernel
def eAt (xs ys : List V) (j : Nat) : Bool := match xs[j]?, ys[j]? with
  | some x, some y => eqV x y
  | _, _ => false
theorem eqVs_all : ∀ xs ys : List V, ((List.range (min xs.length ys.length)).all (eAt xs ys) && xs.length == ys.length) = eqVs xs ys
  | [], [] => rfl
  | [], _ :: _ => by simp [eqVs]
  | _ :: _, [] => by simp [eqVs]
  | x :: xs, y :: ys => by
    have ih := eqVs_all xs ys
    show _ = (eqV x y && eqVs xs ys)
    rw [← ih]
    have e1 : min (x :: xs).length (y :: ys).length = (min xs.length ys.length) + 1 := by simp only [List.length_cons]; omega
    rw [e1, List.range_succ_eq_map, List.all_cons, List.all_map]
    have e2 : (eAt (x :: xs) (y :: ys)) 0 = eqV x y := rfl
    have e3 : (eAt (x :: xs) (y :: ys)) ∘ Nat.succ = eAt xs ys := by
      funext j
      simp [eAt, Function.comp]
    have e4 : ((x :: xs).length == (y :: ys).length) = (xs.length == ys.length) := by
      rw [Bool.eq_iff_iff]
      simp
    rw [e2, e3, e4, Bool.and_assoc]
theorem items_eq {A : Around} {s : Shared} {xs ys : List V} {us vs : List Value} (r1 : Vals xs us) (r2 : Vals ys vs) (f1 : xs.all flatV = true) (f2 : ys.all flatV = true) :
    ∀ j (h1 : j < us.toArray.size) (h2 : j < vs.toArray.size), SeqAt.EqAt A s us.toArray[j] vs.toArray[j] (eAt xs ys j) := fun j h1 h2 => by
  have l1 : j < xs.length := by rw [r1.length]; simpa using h1
  have l2 : j < ys.length := by rw [r2.length]; simpa using h2
  obtain ⟨u, q1, z1⟩ := r1.get (i := j) (x := xs[j]) (by simp [l1])
  obtain ⟨v, q2, z2⟩ := r2.get (i := j) (x := ys[j]) (by simp [l2])
  have e1 : us.toArray[j] = u := by
    have : us[j]? = some us.toArray[j] := by simp
    rw [this] at q1; exact Option.some.inj q1
  have e2 : vs.toArray[j] = v := by
    have : vs[j]? = some vs.toArray[j] := by simp
    rw [this] at q2; exact Option.some.inj q2
  have e3 : eAt xs ys j = eqV xs[j] ys[j] := by simp [eAt, l1, l2]
  rw [e1, e2, e3]
  exact eqAt_V z1 z2 (List.all_eq_true.mp f1 _ (List.getElem_mem l1)) (List.all_eq_true.mp f2 _ (List.getElem_mem l2))
end
theorem Inv.above {X : Cx} {pins : List (Addr × Obj)} {σ : St} {H : Hp} {s : Shared} (I : Inv X pins σ H s) : sysModules < s.heap.objs.size := by
  have h : mainGlobals < s.heap.objs.size := (I.mod.glob.keeps I.bk).lt
  exact Nat.lt_trans (by decide) h
def tDict0 : TE := fun _ H Q => ∀ p, H p = none → Q (.ref p) (upd H p (.dK []))
theorem pe_dict0 {X : Cx} {pos : Pos} : PE X (.Dict [] [] pos) tDict0 := fun pins s σ H Q I h => by
  have new : ObjOk X.prog X.w (upd H s.heap.objs.size (.dK [])) (s.heap.push { cls := .type "dict", data := .dict #[] }) s.heap.objs.size (.dK []) :=
    ⟨Nat.zero_le _, beq_eq_false_iff_ne.mpr (Ne.symm (Nat.ne_of_lt I.above)), [], .nil, Heap.DictOf.new s.heap⟩
  exact wpAny_Dict_empty ⟨.ref s.heap.objs.size, _, I.laid (a := s.heap.objs.size) (o := .dK []) (t' := s.toks) (fun _ _ q => Heap.get?_push_of_some _ q) (Nat.le_refl _) new, rfl, h _ (I.hok.fresh (Nat.le_refl _))⟩
end L2
namespace L2
open PySem PySem.Spec PyProof.Rows
section
variable {X : Cx}
end
end L2
namespace L2
open PySem PySem.Spec PyProof.Rows
def clOf (env : Env) : List (Str × NameKind) → List (Str × Addr) → List (Str × Addr)
  | [], cs => cs
  | (n, k) :: r, cs => clOf env r (if (k == .free) = true then (n, (env.cells.lookup n).getD 0) :: cs else cs)
theorem clOf_run {env : Env} : ∀ {names : List (Str × NameKind)} {cs : List (Str × Addr)}, (∀ y ∈ names, y.2 = .free → (env.cells.lookup y.1).isSome = true) →
    (forIn names cs fun (x : Str × NameKind) (r : List (Str × Addr)) => if (x.2 == .free) = true then (do let c ← cellOf env x.1; pure (ForInStep.yield ((x.1, c) :: r))) else pure (ForInStep.yield r) : Sem (List (Str × Addr))) = pure (clOf env names cs)
  | [], cs, _ => rfl
  | (n, k) :: r, cs, h => by
    have ih := fun cs' => clOf_run (env := env) (names := r) (cs := cs') fun y hy => h y (List.mem_cons_of_mem _ hy)
    rw [List.forIn_cons]
    by_cases hk : (k == NameKind.free) = true
    · have hs := h (n, k) List.mem_cons_self (by simpa using hk)
      obtain ⟨c, hc⟩ := Option.isSome_iff_exists.mp hs
      have e : cellOf env n = pure c := by unfold cellOf; rw [show env.cells.lookup n = some c from hc]
      simp only [hk, if_true, e, clOf]
      rw [show env.cells.lookup n = some c from hc]
      exact ih _
    · simp only [hk, clOf]
      exact ih _
theorem closure_eq {scope : Scope} {env : Env} (h : ∀ y ∈ scope.names, y.2 = .free → (env.cells.lookup y.1).isSome = true) : closureFor scope env = pure (clOf env scope.names []) := by
  have e := clOf_run (env := env) (cs := []) h
  unfold closureFor
  simp only [e]
  rfl
theorem clOf_sub {env : Env} {x : Str} {c : Addr} : ∀ {names : List (Str × NameKind)} {cs : List (Str × Addr)}, (clOf env names cs).lookup x = some c → cs.lookup x = some c ∨ ((x, NameKind.free) ∈ names ∧ (env.cells.lookup x).getD 0 = c)
  | [], cs, h => .inl h
  | (n, k) :: r, cs, h => by
    unfold clOf at h
    rcases clOf_sub (names := r) h with z | ⟨z1, z2⟩
    · by_cases hk : (k == NameKind.free) = true
      · rw [if_pos hk] at z
        rw [List.lookup_cons] at z
        cases hx : x == n with
        | true =>
          rw [hx] at z
          have e : x = n := by simpa using hx
          subst e
          have ek : k = .free := by simpa using hk
          subst ek
          exact .inr ⟨List.mem_cons_self, Option.some.inj z⟩
        | false => rw [hx] at z; exact .inl z
      · rw [if_neg hk] at z
        exact .inl z
    · exact .inr ⟨List.mem_cons_of_mem _ z1, z2⟩
theorem clOf_keep {env : Env} {x : Str} : ∀ {names : List (Str × NameKind)} {cs : List (Str × Addr)}, cs.lookup x = some ((env.cells.lookup x).getD 0) → (clOf env names cs).lookup x = some ((env.cells.lookup x).getD 0)
  | [], cs, h => h
  | (n, k) :: r, cs, h => by
    unfold clOf
    refine clOf_keep (names := r) ?_
    by_cases hk : (k == NameKind.free) = true
    · rw [if_pos hk, List.lookup_cons]
      cases hx : x == n with
      | true =>
        have e : x = n := by simpa using hx
        subst e
        rfl
      | false => exact h
    · rw [if_neg hk]; exact h
theorem clOf_has {env : Env} {x : Str} : ∀ {names : List (Str × NameKind)} {cs : List (Str × Addr)}, (x, NameKind.free) ∈ names → (clOf env names cs).lookup x = some ((env.cells.lookup x).getD 0)
  | [], cs, h => nomatch h
  | (n, k) :: r, cs, h => by
    unfold clOf
    rcases List.mem_cons.mp h with z | z
    · cases z
      refine clOf_keep (names := r) ?_
      rw [if_pos (by rfl), List.lookup_cons]
      simp
    · exact clOf_has (names := r) z
theorem mem_of_look {x : Str} {k : NameKind} : ∀ {names : List (Str × NameKind)}, names.lookup x = some k → (x, k) ∈ names
  | [], h => nomatch h
  | (n, k') :: r, h => by
    rw [List.lookup_cons] at h
    cases hx : x == n with
    | true =>
      rw [hx] at h
      have e : x = n := by simpa using hx
      subst e
      cases h
      exact List.mem_cons_self
    | false => rw [hx] at h; exact List.mem_cons_of_mem _ (mem_of_look h)
theorem relabel_look {env : Env} {x : Str} {k' : NameKind} : ∀ {names : List (Str × NameKind)},
    (names.map fun (n, k) => if (k == NameKind.free && env.scope.kind == .function && env.kindOf n == some .cell) then (n, NameKind.cell) else (n, k)).lookup x = some k' → ∃ k, names.lookup x = some k ∧ (k' = k ∨ (k = .free ∧ k' = .cell))
  | [], h => nomatch h
  | (n, k) :: r, h => by
    rw [List.map_cons] at h
    by_cases hc : (k == NameKind.free && env.scope.kind == .function && env.kindOf n == some .cell) = true
    · simp only [hc, if_true] at h
      rw [List.lookup_cons] at h ⊢
      cases hx : x == n with
      | true =>
        rw [hx] at h
        cases h
        have ek : k = .free := by
          rw [Bool.and_eq_true, Bool.and_eq_true] at hc
          simpa using hc.1.1
        exact ⟨k, rfl, .inr ⟨ek, rfl⟩⟩
      | false => rw [hx] at h; exact relabel_look h
    · simp only [hc, Bool.false_eq_true, if_false] at h
      rw [List.lookup_cons] at h ⊢
      cases hx : x == n with
      | true => rw [hx] at h; exact ⟨k', h, .inl rfl⟩
      | false => rw [hx] at h; exact relabel_look h
theorem relabel_free {env : Env} {x : Str} : ∀ {names : List (Str × NameKind)}, names.lookup x = some .free →
    (names.map fun (n, k) => if (k == NameKind.free && env.scope.kind == .function && env.kindOf n == some .cell) then (n, NameKind.cell) else (n, k)).lookup x = some .cell ∨
    (names.map fun (n, k) => if (k == NameKind.free && env.scope.kind == .function && env.kindOf n == some .cell) then (n, NameKind.cell) else (n, k)).lookup x = some .free
  | [], h => nomatch h
  | (n, k) :: r, h => by
    rw [List.map_cons]
    rw [List.lookup_cons] at h
    by_cases hc : (k == NameKind.free && env.scope.kind == .function && env.kindOf n == some .cell) = true
    · simp only [hc, if_true, List.lookup_cons]
      cases hx : x == n with
      | true => exact .inl rfl
      | false => rw [hx] at h; exact relabel_free h
    · simp only [hc, Bool.false_eq_true, if_false, List.lookup_cons]
      cases hx : x == n with
      | true => rw [hx] at h; cases h; exact .inr rfl
      | false => rw [hx] at h; exact relabel_free h
def blk (X : Cx) (scope : Scope) (N : List Str) (s : Shared) (H : Hp) (fp : List Addr) : Cx :=
  { X with N := N, s₀ := s, H₀ := H, env := compEnvC scope (clOf X.env scope.names []) s.heap.objs.size X.env, outer := X.stack, stack := X.stack, ex := fp, fn := fun _ => false, pn := [], xe := fun _ _ => False }
structure BlkOk (esc scope : Scope) (N : List Str) (fi : List Nat) : Prop where
  kind : scope.kind = .function
  nocell : ∀ y ∈ scope.names, y.2 ≠ .cell
  loc : ∀ y ∈ scope.names, y.2 = .local → scope.names.lookup y.1 = some .local
  free : ∀ y ∈ scope.names, y.2 = .free → esc.names.lookup y.1 = some .cell ∨ esc.names.lookup y.1 = some .free
  ix : ∀ i ∈ fi, scope.names.lookup (N.getD i "") = some .free
def nB (N os : List Str) (fi : List Nat) : List Str := os ++ fi.map fun i => N.getD i ""
def sB (σ : St) (os : List Str) (fi : List Nat) : St := os.map (fun _ => none) ++ fi.map fun i => (σ[i]?).join
section
variable {X : Cx} {pins : List (Addr × Obj)} {σ : St} {H : Hp} {s : Shared} {scope esc : Scope} {os : List Str} {fi : List Nat} {fp : List Addr}
theorem blk_cells (B : BlkOk esc scope X.N fi) (he : X.env.scope = esc) (I : Inv X pins σ H s) : ∀ y ∈ scope.names, y.2 = .free → (X.env.cells.lookup y.1).isSome = true := fun y hy hf => by
  have k := B.free y hy hf
  rw [← he] at k
  obtain ⟨c, e⟩ := I.ok.has y.1 k
  rw [e]; rfl
theorem blk_cl (B : BlkOk esc scope X.N fi) (he : X.env.scope = esc) (I : Inv X pins σ H s) {x : Str} {c : Addr} (h : (clOf X.env scope.names []).lookup x = some c) : X.env.cells.lookup x = some c := by
  rcases clOf_sub h with z | ⟨z1, z2⟩
  · cases z
  · obtain ⟨d, e⟩ := Option.isSome_iff_exists.mp (blk_cells B he I _ z1 rfl)
    rw [show X.env.cells.lookup x = some d from e] at z2 ⊢
    rw [← z2]; rfl
theorem blk_ok (B : BlkOk esc scope X.N fi) (he : X.env.scope = esc) (I : Inv X pins σ H s) (hf : ∀ b ∈ fp, FpOk X pins H b) (ho : ∀ b ∈ fp, ∃ o, s.heap.get? b = some o) : (blk X scope (nB X.N os fi) s H fp).Ok where
  mod := I.ok.mod
  kind := B.kind
  glob := I.ok.glob
  blt := I.ok.blt
  above := Nat.le_refl _
  inj := fun x y c h1 h2 => I.ok.inj x y c (blk_cl B he I h1) (blk_cl B he I h2)
  has := fun x h => by
    have q : ∃ k, scope.names.lookup x = some k ∧ (k = .cell ∨ k = .free) := by
      rcases h with h | h
      · obtain ⟨k, e, z | ⟨z, _⟩⟩ := relabel_look h
        · exact ⟨k, e, .inl z.symm⟩
        · exact ⟨k, e, .inr z⟩
      · obtain ⟨k, e, z | ⟨_, z⟩⟩ := relabel_look h
        · exact ⟨k, e, .inr z.symm⟩
        · cases z
    obtain ⟨k, e, z | z⟩ := q
    · subst z; exact absurd rfl (B.nocell _ (mem_of_look e))
    · subst z; exact ⟨_, clOf_has (mem_of_look e)⟩
  cab := fun x c h _ => nomatch h
  hd := I.ok.hd
  frames := I.ok.frames
  stk := .inl rfl
  exf := fun b hb => by
    obtain ⟨o, e⟩ := ho b hb
    exact ⟨Nat.ne_of_lt (Heap.lt_size e), fun x c h => (hf b hb).2.2.2.2.1 x c (blk_cl B he I h)⟩
  bs := I.bs
  bsz := Nat.le_trans I.ok.bsz I.sz
  noex := fun b o e hb => by
    rcases (hf b hb).2.2.2.1 with z | z
    · exact I.ok.noex b o e z
    · exact absurd (Nat.lt_of_lt_of_le (Heap.lt_size e) (Nat.le_trans I.ok.bsz z)) (Nat.lt_irrefl _)
  exfs := fun b hb z => by
    rcases List.mem_cons.mp (I.stkSub b z) with e | e
    · exact (hf b hb).2.1 e
    · exact (hf b hb).2.2.1 e
  funs := I.stack
  frf := I.stkFree
theorem blk_inv {h1 : Heap} {t1 : Nat} {m1 : Str → Option Value} (B : BlkOk esc scope X.N fi) (he : X.env.scope = esc) (I : Inv X pins σ H s) (hf : ∀ b ∈ fp, FpOk X pins H b) (ho : ∀ b ∈ fp, ∃ o, s.heap.get? b = some o)
    (k : ∀ b o, s.heap.get? b = some o → h1.get? b = some o) (hn : h1.Ns s.heap.objs.size m1) : Inv (blk X scope (nB X.N os fi) s H fp) [] (sB σ os fi) H { s with heap := h1, toks := t1 } where
  ok := blk_ok B he I hf ho
  os := rfl
  bare := I.bare
  base := Un.kept k
  loc := by
    refine ⟨m1, hn, fun j x v e1 e2 e3 => ?_⟩
    have hj : os.length ≤ j := by
      by_cases hj : j < os.length
      · have z : (sB σ os fi)[j]? = some (some v) := e2
        unfold sB at z
        rw [List.getElem?_append_left (by simpa using hj), List.getElem?_map] at z
        cases q : os[j]? with
        | none => rw [q] at z; cases z
        | some _ => rw [q] at z; cases z
      · omega
    have z1 : (nB X.N os fi)[j]? = some x := e1
    have z2 : (sB σ os fi)[j]? = some (some v) := e2
    unfold nB at z1
    unfold sB at z2
    rw [List.getElem?_append_right hj, List.getElem?_map] at z1
    rw [List.getElem?_append_right (by simpa using hj), List.length_map, List.getElem?_map] at z2
    cases q : fi[j - os.length]? with
    | none => rw [q] at z1; cases z1
    | some i =>
      rw [q] at z1 z2
      have w1 : X.N.getD i "" = x := Option.some.inj z1
      have w2 : (σ[i]?).join = some v := Option.some.inj z2
      have w3 : σ[i]? = some (some v) := by
        cases p : σ[i]? with
        | none => rw [p] at w2; cases w2
        | some y => rw [p] at w2; exact congrArg some w2
      have lx : scope.names.lookup x = some .free := by rw [← w1]; exact B.ix i (List.mem_of_getElem? q)
      have li : i < X.N.length := by rw [← I.len]; exact (List.getElem?_eq_some_iff.mp w3).1
      have w4 : X.N[i]? = some x := by
        rw [List.getD_eq_getElem?_getD, List.getElem?_eq_getElem li] at w1
        rw [List.getElem?_eq_getElem li]
        exact congrArg some w1
      have kx := B.free _ (mem_of_look lx) rfl
      rw [← he] at kx
      obtain ⟨m, hm, hl⟩ := I.loc
      obtain ⟨u, r, l⟩ := hl i x v w4 w3 (by rcases kx with kx | kx; exact .inr (.inl kx); exact .inr (.inr kx))
      refine ⟨u, r, .inr ⟨relabel_free lx, ?_⟩⟩
      rcases l with ⟨a, _⟩ | ⟨_, c, e, ic⟩
      · rcases kx with kx | kx <;> rw [show X.env.kindOf x = X.env.scope.names.lookup x from rfl, kx] at a <;> cases a
      · refine ⟨c, ?_, ?_⟩
        · have := clOf_has (env := X.env) (cs := []) (mem_of_look lx)
          rw [e] at this
          exact this
        · obtain ⟨o, ho, hd⟩ := ic
          exact ⟨o, k _ o ho, hd⟩
  cell := fun x c h => by
    obtain ⟨v, o, ho, hd⟩ := I.cell x c (blk_cl B he I h)
    exact ⟨v, o, k _ o ho, hd⟩
  free := I.hok.fresh (Nat.le_refl _)
  freeC := fun x c h => I.freeC x c (blk_cl B he I h)
  pin := fun p hp => nomatch hp
  hok := I.hok.kept k
  len := by
    show (sB σ os fi).length = (nB X.N os fi).length
    unfold sB nB
    simp
theorem blk_out {N : List Str} {s' : Shared} {H' : Hp} {σ' : St} {pins' : List (Addr × Obj)} {h' : Heap} (I : Inv X pins σ H s) (hf : ∀ b ∈ fp, FpOk X pins H b) (I' : Inv (blk X scope N s H fp) pins' σ' H' s') (sb : Heap.SameBut s.heap.objs.size s'.heap h') :
    Inv X pins σ H' { s' with heap := h' } := by
  have ne : ∀ b o, s.heap.get? b = some o → b ≠ s.heap.objs.size := fun b o e => Nat.ne_of_lt (Heap.lt_size e)
  have un : Un (frs X.stack) fp H H' s.heap h' := by
    have u : Un (frs X.stack) fp H H' s.heap s'.heap := I'.base
    exact ⟨fun b o e n hb hx => (sb.2 b (ne b o e)).trans (u.keep b o e n hb hx), fun b o e n hb hx => by
        obtain ⟨sl, q⟩ := u.slot b o e n hb hx
        exact ⟨sl, (sb.2 b (ne b o e)).trans q⟩, u.free, fun b o e hx => by
        obtain ⟨o', q⟩ := u.there b o e hx
        exact ⟨o', (sb.2 b (ne b o e)).trans q⟩, u.tups, u.frzs, u.tbls⟩
  have hok : HOk X.prog X.w H' h' := fun b ob e => by
    have fr : H' s.heap.objs.size = none := I'.free
    refine (I'.hok b ob e).stay (fun c w' hc q => (sb.2 c ?_).trans q) (fun _ q => q) fun _ _ q => q
    rintro rfl
    rcases hc with rfl | hc
    · rw [fr] at e; cases e
    · rw [fr] at hc; cases hc
  obtain ⟨hh, g, d, t, os'⟩ := s'
  obtain rfl : os' = s.os := I'.os
  have J := I.call (h' := h') (g' := g) (d' := d) (t' := t) (ch := fp) un hok I'.bare fun b hb => ⟨(hf b hb).2.2.2.1, (hf b hb).2.1, (hf b hb).2.2.2.2.1, (hf b hb).2.2.2.2.2⟩
  exact J
end
end L2
namespace L2
open PySem PySem.Spec PyProof.Rows
abbrev F0 : Value → Shared → Prop := fun _ _ => False
theorem of_F0 {α : Type} {M : Model} {A : Around} {t : Sem α} {Q Q' : α → Shared → Prop} {E : Value → Shared → Prop} {s : Shared} (h : wpAny M A t Q F0 s) (hQ : ∀ a s, Q a s → Q' a s) : wpAny M A t Q' E s := wpAny_mono h hQ fun _ _ z => z.elim
def PTs (X : Cx) (ifs : List Expr) (t : TT) : Prop :=
  ∀ (pins : List (Addr × Obj)) (s : Shared) (σ : St) (H : Hp) (Q : Bool → Hp → Prop), Inv X pins σ H s → t σ H Q →
    wpAny (model X.prog X.w) X.A (forIn ifs true fun e b => if b = true then (do let y ← isTrue e X.env (eval e X.env); pure (ForInStep.yield y)) else pure (ForInStep.yield b)) (TP X pins σ Q) X.xe s
theorem pts_nil {X : Cx} : PTs X [] (fun _ H Q => Q true H) := fun _ _ _ H _ I h => wpAny_pure ⟨H, I, h⟩
theorem pts_one {X : Cx} {e : Expr} {t : TT} (h : PT X e t) : PTs X [e] t := by
  intro pins s σ H Q I q
  rw [List.forIn_cons]
  simp only [if_true]
  exact wpAny_bind (wpAny_bind (thn (h pins s σ H Q I q) fun y s1 z => wpAny_pure (wpAny_pure z)))
section
variable {X : Cx} {tg iter elt : Expr} {ifs : List Expr} {scope esc : Scope} {pos : Pos} {N os : List Str} {fi : List Nat} {wi : TI} {g : TG} {tt : TT} {te : TE}
end
end L2
namespace L2
open PySem PySem.Spec PyProof.Rows
theorem runs_gens {M : Model} {G : PySem.Ctx} {p : Pos} {t : Sem Fin} {fs : List Frame} {a b : Shared} {e : End} (h : Runs M G p t fs a e b) : a.gens.size ≤ b.gens.size := by
  induction h <;> (try simp only [Shared.setGen, Array.size_setIfInBounds, Array.size_push] at *) <;> omega
theorem wakes_gens {M : Model} {G : PySem.Ctx} {p : Pos} {g : Nat} {r : Resume} {a b : Shared} {x : GenResult} (h : Wakes M G p g r a x b) : a.gens.size ≤ b.gens.size := by
  have sz : ∀ (s : Shared) (y : GenState), (s.setGen g y).gens.size = s.gens.size := fun s y => by simp [Shared.setGen]
  unfold Wakes at h
  split at h
  · exact h.elim
  · split at h
    · obtain ⟨e, c, q, _, _, rfl⟩ := h
      have := runs_gens q
      rw [sz] at this ⊢
      exact this
    · rw [h.2]; first | exact Nat.le_refl _ | (rw [sz]; exact Nat.le_refl _)
    · rw [h.2]; first | exact Nat.le_refl _ | (rw [sz]; exact Nat.le_refl _)
  · obtain ⟨e, c, q, _, _, rfl⟩ := h
    have := runs_gens q
    rw [sz] at this ⊢
    exact this
  · rw [h.2]; first | exact Nat.le_refl _ | (rw [sz]; exact Nat.le_refl _)
  · rw [h.2]; first | exact Nat.le_refl _ | (rw [sz]; exact Nat.le_refl _)
theorem wp_gens {α : Type} (M : Model) (G : PySem.Ctx) (k : Nat) (t : Sem α) : ∀ (Q : α → Pos → Shared → Prop) (E : Value → Pos → Shared → Prop) (p : Pos) (a : Shared), k ≤ a.gens.size → Sem.wp M G t Q E p a →
    Sem.wp M G t (fun x p' b => k ≤ b.gens.size ∧ Q x p' b) (fun e p' b => k ≤ b.gens.size ∧ E e p' b) p a := by
  induction t with
  | pure _ => intro Q E p a l h; exact ⟨l, h⟩
  | raise _ => intro Q E p a l h; exact ⟨l, h⟩
  | unsupported _ => intro Q E p a _ h; exact h
  | finish _ => intro Q E p a _ h; exact h
  | rule _ _ ih => intro Q E p a l h; exact ih () Q E p a l h
  | «at» p' _ ih => intro Q E p a l h; exact ih () Q E p' a l h
  | load _ _ _ ih => intro Q E p a l h; obtain ⟨o, z, h⟩ := h; exact ⟨o, z, ih o Q E p a l h⟩
  | update _ _ _ _ ih => intro Q E p a l h; exact ⟨h.1, ih () Q E p _ l h.2⟩
  | loadIfAlive _ _ ih => intro Q E p a l h; exact ih _ Q E p a l h
  | point _ _ ih => intro Q E p a l h; exact ih () Q E p a l h
  | register _ _ => intro Q E p a _ h; exact h
  | alloc _ _ ih => intro Q E p a l h; exact ih _ Q E p _ l h
  | fresh _ ih => intro Q E p a l h; exact ih _ Q E p _ l h
  | ask _ ih => intro Q E p a l h; exact ih _ Q E p a l h
  | choose _ _ _ ih => intro Q E p a l h; exact ⟨h.1, ih _ Q E p _ l h.2⟩
  | os _ _ _ ih => intro Q E p a l h; exact ih _ Q E p _ l h
  | call _ _ _ _ _ ih => intro Q E p a l h; obtain ⟨r, b, z, h⟩ := h; exact ⟨r, b, z, ih r Q E p b (Nat.le_trans l (runs_gens z)) h⟩
  | handled _ _ ih => intro Q E p a l h; exact ih _ Q E p a l h
  | genState _ _ ih => intro Q E p a l h; obtain ⟨x, z, h⟩ := h; exact ⟨x, z, ih _ Q E p a l h⟩
  | newGen _ _ ih => intro Q E p a l h; exact ih _ Q E p _ (by simp only [Array.size_push]; omega) h
  | resume _ _ _ _ ih => intro Q E p a l h; obtain ⟨r, b, z, h⟩ := h; exact ⟨r, b, z, ih r Q E p b (Nat.le_trans l (wakes_gens z)) h⟩
  | yield _ _ _ _ => intro Q E p a _ h; exact h
  | stack _ ih => intro Q E p a l h; exact ih _ Q E p a l h
  | fork _ _ => intro Q E p a _ h; exact h
  | thread _ ih => intro Q E p a l h; exact ih _ Q E p a l h
  | await _ _ _ _ _ => intro Q E p a _ h; exact h
theorem any_gens {α : Type} {M : Model} {A : Around} {t : Sem α} {Q : α → Shared → Prop} {E : Value → Shared → Prop} {a : Shared} {k : Nat} (l : k ≤ a.gens.size) (h : wpAny M A t Q E a) :
    wpAny M A t (fun x b => k ≤ b.gens.size ∧ Q x b) (fun e b => k ≤ b.gens.size ∧ E e b) a := fun G p hG => wp_gens M G k t _ _ p a l (h G p hG)
def gA (A : Around) (e : Env) : Around := ⟨A.handled, A.depth + 1, A.frames.map (e :: ·), A.guards, A.units + 3⟩
abbrev gE (X : Cx) (scope : Scope) (code : Value) (s : Shared) : Env := genEnv scope (clOf X.env scope.names []) s.heap.objs.size code builtinsNs X.env
def gblk (X : Cx) (scope : Scope) (N : List Str) (code : Value) (s : Shared) (H : Hp) (fp : List Addr) : Cx :=
  { X with A := gA X.A.in1.in1 (gE X scope code s), N := N, s₀ := s, H₀ := H, env := gE X scope code s, outer := X.stack, stack := gE X scope code s :: X.stack, ex := fp, fn := fun _ => false, pn := [], xe := fun _ _ => False }
section
variable {X : Cx} {pins : List (Addr × Obj)} {σ : St} {H : Hp} {s : Shared} {scope esc : Scope} {os : List Str} {fi : List Nat} {fp : List Addr} {code : Value}
theorem gblk_ok (B : BlkOk esc scope X.N fi) (he : X.env.scope = esc) (I : Inv X pins σ H s) (hf : ∀ b ∈ fp, FpOk X pins H b) (ho : ∀ b ∈ fp, ∃ o, s.heap.get? b = some o) : (gblk X scope (nB X.N os fi) code s H fp).Ok where
  mod := I.ok.mod
  kind := B.kind
  glob := I.ok.glob
  blt := rfl
  above := Nat.le_refl _
  inj := fun x y c h1 h2 => I.ok.inj x y c (blk_cl B he I h1) (blk_cl B he I h2)
  has := fun x h => by
    rcases h with h | h
    · exact absurd rfl (B.nocell _ (mem_of_look h))
    · exact ⟨_, clOf_has (mem_of_look h)⟩
  cab := fun x c h _ => nomatch h
  hd := I.ok.hd
  frames := by
    show (X.A.in1.in1.frames).map (gE X scope code s :: ·) = _
    rw [show X.A.in1.in1.frames = X.A.frames from rfl, I.ok.frames]
    rfl
  stk := .inr ⟨rfl, rfl⟩
  exf := fun b hb => by
    obtain ⟨o, e⟩ := ho b hb
    exact ⟨Nat.ne_of_lt (Heap.lt_size e), fun x c h => (hf b hb).2.2.2.2.1 x c (blk_cl B he I h)⟩
  bs := I.bs
  bsz := Nat.le_trans I.ok.bsz I.sz
  noex := (blk_ok (os := os) B he I hf ho).noex
  exfs := (blk_ok (os := os) B he I hf ho).exfs
  funs := I.stack
  frf := I.stkFree
theorem gblk_inv {h1 : Heap} {t1 : Nat} {g1 : Array GenState} {m1 : Str → Option Value} (B : BlkOk esc scope X.N fi) (he : X.env.scope = esc) (I : Inv X pins σ H s) (hf : ∀ b ∈ fp, FpOk X pins H b) (ho : ∀ b ∈ fp, ∃ o, s.heap.get? b = some o)
    (k : ∀ b o, s.heap.get? b = some o → h1.get? b = some o) (hn : h1.Ns s.heap.objs.size m1) (hb : AllBare g1) : Inv (gblk X scope (nB X.N os fi) code s H fp) [] (sB σ os fi) H { s with heap := h1, toks := t1, gens := g1 } where
  ok := gblk_ok B he I hf ho
  os := rfl
  bare := hb
  base := Un.kept k
  loc := by
    obtain ⟨m, hm, hl⟩ := (blk_inv (os := os) (t1 := t1) B he I hf ho k hn).loc
    refine ⟨m1, hn, fun j x v e1 e2 e3 => ?_⟩
    have e3' : Vis (relabel scope X.env) x := by
      rcases e3 with e3 | e3 | e3
      · exact .inl (lookup_relabel_local e3)
      · exact absurd rfl (B.nocell _ (mem_of_look e3))
      · rcases relabel_free (env := X.env) e3 with z | z
        · exact .inr (.inl z)
        · exact .inr (.inr z)
    obtain ⟨u, r, l⟩ := hl j x v e1 e2 e3'
    refine ⟨u, r, ?_⟩
    have kx : scope.names.lookup x = some .free := by
      rcases e3 with e3 | e3 | e3
      · have hj : os.length ≤ j := by
          by_cases hj : j < os.length
          · have z : (sB σ os fi)[j]? = some (some v) := e2
            unfold sB at z
            rw [List.getElem?_append_left (by simpa using hj), List.getElem?_map] at z
            cases q : os[j]? with
            | none => rw [q] at z; cases z
            | some _ => rw [q] at z; cases z
          · omega
        have z1 : (nB X.N os fi)[j]? = some x := e1
        unfold nB at z1
        rw [List.getElem?_append_right hj, List.getElem?_map] at z1
        cases q : fi[j - os.length]? with
        | none => rw [q] at z1; cases z1
        | some i =>
          rw [q] at z1
          have w1 : X.N.getD i "" = x := Option.some.inj z1
          rw [← w1]
          exact B.ix i (List.mem_of_getElem? q)
      · exact absurd rfl (B.nocell _ (mem_of_look e3))
      · exact e3
    rcases l with ⟨a, _⟩ | ⟨_, c, e, ic⟩
    · have a' : (relabel scope X.env).names.lookup x = some .local := a
      rcases relabel_free (env := X.env) kx with z | z
      · have z' : (relabel scope X.env).names.lookup x = some .cell := z
        rw [z'] at a'; cases a'
      · have z' : (relabel scope X.env).names.lookup x = some .free := z
        rw [z'] at a'; cases a'
    · exact .inr ⟨.inr kx, c, e, ic⟩
  cell := (blk_inv (os := os) (t1 := t1) B he I hf ho k hn).cell
  free := I.hok.fresh (Nat.le_refl _)
  freeC := fun x c h => I.freeC x c (blk_cl B he I h)
  pin := fun p hp => nomatch hp
  hok := I.hok.kept k
  len := by
    show (sB σ os fi).length = (nB X.N os fi).length
    unfold sB nB
    simp
theorem gblk_out {N : List Str} {s' : Shared} {H' : Hp} {σ' : St} {pins' : List (Addr × Obj)} {h' : Heap} {g' : Array GenState} (I : Inv X pins σ H s) (hf : ∀ b ∈ fp, FpOk X pins H b) (I' : Inv (gblk X scope N code s H fp) pins' σ' H' s')
    (k : ∀ b o, s'.heap.get? b = some o → h'.get? b = some o) (hb : AllBare g') : Inv X pins σ H' { s' with heap := h', gens := g' } := by
  have un : Un (frs X.stack) fp H H' s.heap h' := by
    have u : Un (frs X.stack) fp H H' s.heap s'.heap := I'.base
    exact ⟨fun b o e n hb hx => k b o (u.keep b o e n hb hx), fun b o e n hb hx => by
        obtain ⟨sl, q⟩ := u.slot b o e n hb hx
        exact ⟨sl, k b _ q⟩, u.free, fun b o e hx => by
        obtain ⟨o', q⟩ := u.there b o e hx
        exact ⟨o', k b o' q⟩, u.tups, u.frzs, u.tbls⟩
  have hok : HOk X.prog X.w H' h' := I'.hok.kept k
  obtain ⟨hh, g, d, t, os'⟩ := s'
  obtain rfl : os' = s.os := I'.os
  have J := I.call (h' := h') (g' := g') (d' := d) (t' := t) (ch := fp) un hok hb fun b hb => ⟨(hf b hb).2.2.2.1, (hf b hb).2.1, (hf b hb).2.2.2.2.1, (hf b hb).2.2.2.2.2⟩
  exact J
end
end L2
namespace L2
open PySem PySem.Spec PyProof.Rows
theorem bare_set {a : Array GenState} {g : Nat} {y : GenState} (h : AllBare a) (hy : y.bare = true) : AllBare (a.setIfInBounds g y) := fun z hz => by
  obtain ⟨i, hi, rfl⟩ := Array.mem_iff_getElem.mp hz
  have hi' : i < a.size := by simpa using hi
  rw [Array.getElem_setIfInBounds hi']
  split
  · exact hy
  · exact h _ (Array.getElem_mem _)
theorem setGen_size {s : Shared} {g : Nat} {y : GenState} : (s.setGen g y).gens.size = s.gens.size := by simp [Shared.setGen]
theorem setGen_get {s : Shared} {g : Nat} {y : GenState} (h : g < s.gens.size) : (s.setGen g y).gens[g]? = some y := by simp [Shared.setGen, h]
theorem setGen_two {s : Shared} {g : Nat} {x y : GenState} : (s.setGen g x).setGen g y = s.setGen g y := by
  simp [Shared.setGen]
theorem Inv.gens {X : Cx} {pins : List (Addr × Obj)} {σ : St} {H : Hp} {s : Shared} {g : Array GenState} (I : Inv X pins σ H s) (h : AllBare g) : Inv X pins σ H { s with gens := g } :=
  ⟨I.ok, I.os, h, I.base, I.loc, I.cell, I.free, I.freeC, I.pin, I.hok, I.len⟩
theorem Inv.setGen {X : Cx} {pins : List (Addr × Obj)} {σ : St} {H : Hp} {s : Shared} {g : Nat} {y : GenState} (I : Inv X pins σ H s) (h : y.bare = true) : Inv X pins σ H (s.setGen g y) := I.gens (bare_set I.bare h)
def GLr (J : It) (g : TG) (te : TE) (σb : St) (H : Hp) (Q : VK) : Prop := ∃ W : Nat → Nat → St → Hp → Prop, (∃ m, W 0 m σb H) ∧ ∀ i m σ2 H2, W i m σ2 H2 →
  (J.stop i H2 ∧ Q (.bl true) H2) ∨ (J.go i H2 ∧ ∀ x H3, J.yld i H2 x H3 → g x σ2 H3 fun σ4 H4 => te σ4 H4 fun v H5 => ∃ b, v = .bl b ∧ if b = true then ∃ m', m' < m ∧ W (i + 1) m' σ4 H5 else Q (.bl false) H5)
def gR (Y : Cx) (ps : List (Addr × Obj)) (Q : VK) : Nat → Shared → Shared → Prop := fun _ _ s => ∃ σ H, Inv Y ps σ H s ∧ Q (.bl true) H
def gY (Y : Cx) (ps : List (Addr × Obj)) (g : Nat) (Q : VK) : Protocol := fun _ _ v s kap => ∃ b, v = .bool b ∧ g < s.gens.size ∧ ∃ σ H, Inv Y ps σ H s ∧ if b = true then kap (.send .none) (s.setGen g .running) else Q (.bl false) H
section
variable {X Y : Cx} {tg iter elt : Expr} {scope : Scope} {pos : Pos} {g : TG} {te : TE} {it : Addr} {fp : List Addr} {tn : Nat → Heap → Prop} {J : It} {Q : VK} {gn : Nat} {ps : List (Addr × Obj)} {W : Nat → Nat → St → Hp → Prop}
theorem seg_gen (hY : Y.A = gA X.A.in1.in1 Y.env) (hx : Y.xe = F0) (hc : Y.calm = true) (hco : Y.env.scope.isCoroutine = false) (hg : PG Y tg g) (hel : PE Y elt te) (T : Turn Y.prog Y.w Y.K tg J fp it tn)
    (stat : ∀ {H : Hp}, (∀ b ∈ fp, H b = none) → ∀ b ∈ fp, FpOk Y ps H b)
    (turn : ∀ i m σ2 H2, W i m σ2 H2 → (J.stop i H2 ∧ Q (.bl true) H2) ∨ (J.go i H2 ∧ ∀ x H3, J.yld i H2 x H3 → g x σ2 H3 fun σ4 H4 => te σ4 H4 fun v H5 => ∃ b, v = .bl b ∧ if b = true then ∃ m', m' < m ∧ W (i + 1) m' σ4 H5 else Q (.bl false) H5)) :
    ∀ (n m i : Nat) (σ : St) (H : Hp) (s₀ s : Shared), m < n → gn < s.gens.size → Inv Y ps σ H s → tn i s.heap → (∀ b ∈ fp, H b = none) → W i m σ H →
      Seg (model Y.prog Y.w) X.A.in1.in1 (fun n s₀ r s₁ => r = .ok .next ∧ gR Y ps Q n s₀ s₁) (gY Y ps gn Q) n s₀ (.compLoop (.GeneratorExp elt [⟨tg, iter, [], 0⟩] scope pos) 0 (.ref it) .none Y.env)
        ((model Y.prog Y.w).den (.compLoop (.GeneratorExp elt [⟨tg, iter, [], 0⟩] scope pos) 0 (.ref it) .none Y.env)) [] s := by
  have up : ∀ {α : Type} {t : Sem α} {P P' : α → Shared → Prop} {E : Value → Shared → Prop} {s : Shared} {k : Nat}, k < s.gens.size → wpAny (model Y.prog Y.w) Y.A t P Y.xe s → (∀ a s', k < s'.gens.size → P a s' → P' a s') →
      wpAny (model Y.prog Y.w) (X.A.in1.in1.over (.compLoop (.GeneratorExp elt [⟨tg, iter, [], 0⟩] scope pos) 0 (.ref it) .none Y.env) []) t P' E s := fun {α t P P' E s k} l h f => by
    rw [hY, hx] at h
    exact wpAny_mono (any_gens (k := k + 1) l h) (fun a s' z => f a s' z.1 z.2) fun _ _ z => z.2.elim
  intro n
  induction n with
  | zero => intro m i σ H s₀ s lt; omega
  | succ n ih =>
    intro m i σ H s₀ s lt lg I t0 fr w
    show Seg _ _ _ _ _ s₀ _ ((compTurn (.GeneratorExp elt [⟨tg, iter, [], 0⟩] scope pos) 0 (.ref it) .none Y.env).onRaise (leaving Y.env)) [] s
    rw [compTurn_gen, Sem.onRaise_eq_wrap]
    refine seg_bind_wrap (wpAny_standAt ?_)
    rcases turn i m σ H w with ⟨stop, q⟩ | ⟨go, step⟩
    · refine seg_bind_wrap (up lg (T.done Y rfl rfl rfl hc i ps s σ H Y.xe I (stat fr) t0 stop) fun r s1 _ ⟨hr, I1⟩ => ?_)
      subst hr
      exact seg_end (.ok .next) ⟨rfl, σ, H, I1, q⟩
    · refine seg_bind_wrap (up lg (T.item Y rfl rfl rfl hc i ps s σ H Y.xe I (stat fr) t0 go) fun r s1 l1 ⟨u, hr, h1⟩ => ?_)
      subst hr
      refine seg_bind_wrap (up l1 h1 fun _ s2 l2 ⟨x, H2, I2, r2, y2, t2, fr2⟩ => ?_)
      have I2' := I2.pinned (stat fr2) (T.obj _ _ t2)
      refine seg_bind_wrap (up l2 (hg _ s2 σ H2 x u _ I2' r2 (step x H2 y2)) fun _ s3 l3 ⟨σ3, H3, I3, q3⟩ => ?_)
      refine seg_bind_wrap (wpAny_pure ?_)
      simp only [if_true]
      have hy : ∀ v, yieldOut Y.env v = yieldValue v := fun v => by simp only [yieldOut, hco, Bool.false_eq_true, if_false]
      simp only [hy]
      rw [Sem.bind_eq_wrap', Sem.bind_eq_wrap', Sem.wrap_wrap, Sem.wrap_wrap]
      refine seg_wrap (up l3 (hel _ s3 σ3 H3 _ I3 q3) fun y s4 l4 ⟨v, H4, I4, r4, b, hv, q4⟩ => ?_)
      subst hv
      obtain rfl : y = Value.bool b := r4
      refine seg_at (seg_yield rfl rfl rfl ⟨b, rfl, l4, σ3, H4, I4.unpinned, ?_⟩)
      cases b with
      | false => exact q4
      | true =>
        obtain ⟨m', lt', w'⟩ := (show ∃ m', m' < m ∧ W (i + 1) m' σ3 H4 from q4)
        have t4 : tn (i + 1) s4.heap := T.keep _ _ _ t2 fun b hb o e => (I4.pin (b, o) (List.mem_append_right _ (List.mem_append_right _ (mem_pinsAt hb e)))).1
        have fr4 : ∀ b ∈ fp, H4 b = none := fun b hb => by
          obtain ⟨o, e, d⟩ := T.obj _ _ t2 b hb
          exact (I4.pin (b, o) (List.mem_append_right _ (List.mem_append_right _ (mem_pinsAt hb e)))).2.1
        exact seg_again rfl (ih m' (i + 1) σ3 H4 _ _ (by omega) (by rw [setGen_size]; exact l4) (I4.unpinned.setGen rfl) t4 fr4 w')
theorem seg_gen0 (hY : Y.A = gA X.A.in1.in1 Y.env) (hx : Y.xe = F0) (T : Turn Y.prog Y.w Y.K tg J fp it tn) {n : Nat} {s₀ s : Shared} {R : GenEnd} {P : Protocol} (t0 : tn 0 s.heap)
    (h : Seg (model Y.prog Y.w) X.A.in1.in1 R P n s₀ (.compLoop (.GeneratorExp elt [⟨tg, iter, [], 0⟩] scope pos) 0 (.ref it) .none Y.env)
        ((model Y.prog Y.w).den (.compLoop (.GeneratorExp elt [⟨tg, iter, [], 0⟩] scope pos) 0 (.ref it) .none Y.env)) [] s) :
    Seg (model Y.prog Y.w) X.A.in1.in1 R P n s₀ (.compStart (.GeneratorExp elt [⟨tg, iter, [], 0⟩] scope pos) 0 (.ref it) .none Y.env)
        ((model Y.prog Y.w).den (.compStart (.GeneratorExp elt [⟨tg, iter, [], 0⟩] scope pos) 0 (.ref it) .none Y.env)) [] s := by
  show Seg _ _ _ _ _ s₀ _ ((compStart (.GeneratorExp elt [⟨tg, iter, [], 0⟩] scope pos) 0 (.ref it) .none Y.env).onRaise (leaving Y.env)) [] s
  unfold compStart
  rw [Sem.onRaise_eq_wrap]
  show Seg _ _ _ _ _ s₀ _ ((ask >>= _).wrap _ _ _ _) [] s
  refine seg_bind_wrap (wpAny_askSetting ?_)
  split
  · exact seg_again rfl h
  · refine seg_bind_wrap (wpAny_rule ?_)
    show Seg _ _ _ _ _ s₀ _ ((standAt iter.pos >>= _).wrap _ _ _ _) [] s
    exact seg_bind_wrap (wpAny_standAt (seg_bind_wrap (T.self _ 0 s _ _ t0 (seg_again rfl h))))
theorem all_gen {pins : List (Addr × Obj)} {σ : St} {a : Addr} {oa : Obj} {E : Value → Shared → Prop} {RR : Result → Shared → Prop} (hh : X.A.handled = none) (hroom : X.A.depth < recursionLimit) (hpa : (a, oa) ∈ ps) (hga : ∀ h : Heap, h.get? a = some oa → h.IsGen a gn)
    (ht : ∀ (s : Shared) (h' : Heap) (y : GenState) (σ' : St) (H' : Hp), Inv Y ps σ' H' s → (∀ b o, s.heap.get? b = some o → h'.get? b = some o) → y.bare = true → Q (.bl true) H' → RR (.ok (.ret (.bool true))) { s.setGen gn y with heap := h' })
    (hf : ∀ (s : Shared) (y : GenState) (σ' : St) (H' : Hp), Inv Y ps σ' H' s → y.bare = true → Q (.bl false) H' → RR (.ok (.ret (.bool false))) (s.setGen gn y)) :
    ∀ (n : Nat) (gs : GenState) (s : Shared), s.heap.IsGen a gn → s.heap.NoLimit → s.gens[gn]? = some gs →
      gs.Goes (model Y.prog Y.w) X.A.in1.in1 (fun n s₀ r s₁ => r = .ok .next ∧ gR Y ps Q n s₀ s₁) (gY Y ps gn Q) n (.send .none) (s.setGen gn .running) →
      codeAny (model Y.prog Y.w) X.A (.builtin "all.loop" ⟨[.ref a], []⟩) RR s := by
  intro n
  induction n with
  | zero =>
    intro gs s hg hl hgs go
    refine codeAny_builtin F.entry_all_loop ?_
    rw [Around.under_plainId F.plain_all_loop _]
    show wpAny _ X.A.in1 (pyNext (.ref a) >>= _) _ _ s
    refine wpAny_bind (wpAny_pyNext_genexpQ (P := gR Y ps Q) hh hl hroom hg hgs go (fun v s1 gs' hb hv => ?_) (fun s1 hp h' hk => ?_))
    · obtain ⟨b, rfl, lt, σ', H', I', q⟩ := hv
      refine wpAny_bind (wpAny_holding (wpAny_truthy_bool ?_))
      refine wpAny_bind (wpAny_letGo ?_)
      cases b with
      | true => exact False.elim q
      | false =>
        simp only [Bool.false_eq_true, if_false]
        exact wpAny_bind (wpAny_rule (wpAny_pure (hf s1 gs' σ' H' I' hb q)))
    · obtain ⟨σ', H', I', q⟩ := hp
      exact wpAny_bind (wpAny_rule (wpAny_pure (ht s1 h' .finished σ' H' I' hk rfl q)))
  | succ n ih =>
    intro gs s hg hl hgs go
    refine codeAny_builtin F.entry_all_loop ?_
    rw [Around.under_plainId F.plain_all_loop _]
    show wpAny _ X.A.in1 (pyNext (.ref a) >>= _) _ _ s
    refine wpAny_bind (wpAny_pyNext_genexpQ (P := gR Y ps Q) hh hl hroom hg hgs go (fun v s1 gs' hb hv => ?_) (fun s1 hp h' hk => ?_))
    · obtain ⟨b, rfl, lt, σ', H', I', q⟩ := hv
      refine wpAny_bind (wpAny_holding (wpAny_truthy_bool ?_))
      refine wpAny_bind (wpAny_letGo ?_)
      cases b with
      | true =>
        simp only [if_true]
        refine wpAny_pure ⟨plainId_quiet F.plain_all_loop _, ih gs' _ (hga _ (I'.pin _ (List.mem_append_right _ hpa)).1) I'.nolimit (setGen_get lt) ?_⟩
        rw [setGen_two]
        exact q
      | false =>
        simp only [Bool.false_eq_true, if_false]
        exact wpAny_bind (wpAny_rule (wpAny_pure (hf s1 gs' σ' H' I' hb q)))
    · obtain ⟨σ', H', I', q⟩ := hp
      exact wpAny_bind (wpAny_rule (wpAny_pure (ht s1 h' .finished σ' H' I' hk rfl q)))
end
end L2
namespace L2
open PySem PySem.Spec PyProof.Rows
structure CodeK (K : PySem.W.Frag) (c P : Addr) : Prop where
  ex : ∃ (o : Obj) (vs : Array Value) (file : Str) (tf : Tok) (flags : Int) (tk : Tok) (inF : Bool) (text : Int) (tt : Tok), K.lookup c = some o ∧ o.cls = .type "code" ∧ o.data = .fields vs ∧ vs[11]? = some (.ref P) ∧ vs.getD 18 .none = .str file tf ∧
    vs.getD 7 .none = .int flags tk ∧ vs.getD 9 .none = .bool inF ∧ vs.getD 10 .none = .int text tt
  ne : c ≠ P
structure BmK (X : Cx) : Prop where
  ex : ∃ (bm : Addr) (ob : Obj), X.mg "__builtins__" = some (.ref bm) ∧ bm ≠ builtinsNs ∧ X.base.get? bm = some ob ∧ ob.cls = .type "module" ∧ ob.dict = some builtinsNs ∧ ob.data = .plain
theorem upd_self {H : Hp} {p : Addr} {o : HO} (h : H p = some o) : upd H p o = H := by
  funext b
  by_cases e : b = p
  · subst e; rw [upd_same, h]
  · rw [upd_ne e]
section
variable {X : Cx} {pins : List (Addr × Obj)} {σ : St} {H : Hp} {s : Shared} {c P : Addr}
theorem tab_step {E : Value → Shared → Prop} {pos : Pos} {qn : Str} {scope : Scope} {ps : Array Value} (I : Inv X pins σ H s) (hc : X.env.code = .ref c) (C : CodeK X.K c P) (hP : H P = some (.tbl ps)) (tr : TriplesOk ps.toList) :
    wpAny (model X.prog X.w) X.A (genexprCode X.env pos qn scope) (fun code s' => ∃ ps', TriplesOk ps'.toList ∧ Inv X pins σ (upd H P (.tbl ps')) s' ∧ (∀ b o, b ≠ P → s.heap.get? b = some o → s'.heap.get? b = some o)) E s := by
  obtain ⟨o, vs, file, tf, flags, tk, inF, text, tt, lk, cl, d, h11, h18, h7, h9, h10⟩ := C.ex
  have ho := I.kIn c o lk
  have hp : s.heap.get? P = some { cls := .none, data := .fields ps } := I.hok P _ hP
  have g11 : vs.getD 11 .none = .ref P := by
    rw [Array.getD_eq_getD_getElem?, h11]; rfl
  have hok : s.heap.IsCode c P ps := ⟨o, vs, file, tf, flags, tk, inF, text, tt, _, ho, d, g11, h18, h7, h9, h10, hp, rfl, tr, C.ne⟩
  have htab : s.heap.TableAt c P ps := ⟨⟨o, vs, ho, cl, d, h11⟩, hp⟩
  cases hnf : codeAmong pos ps.toList with
  | some c' => exact wpAny_genexprCode_hit hc hok hnf ⟨ps, tr, by rw [upd_self hP]; exact I, fun b o _ e => e⟩
  | none =>
    refine wpAny_genexprCodeX hc hok htab hnf fun c' h' tk ext _ _ _ _ tab _ => ?_
    have tr' : TriplesOk (ps ++ #[rawInt pos.line, rawInt pos.col, .ref c']).toList := by
      rw [Array.toList_append]
      exact TriplesOk_snoc _ _ _ _ tr
    refine ⟨_, tr', ?_, fun b o hb e => ext b o hb e⟩
    have ne : ∀ b, H b = none → b ≠ P := fun b n z => by rw [z, hP] at n; cases n
    have neT : ∀ b u, H b = some u → (∀ q, u ≠ .tbl q) → b ≠ P := fun b u e n z => by rw [z, hP] at e; cases e; exact n _ rfl
    refine I.un (t' := tk) ⟨fun b o e n _ _ => ext b o (ne b n) e, fun b o e n _ _ => ⟨o.slots, ext b o (ne b n) e⟩, fun b o e n _ => by rw [upd_ne (ne b n)]; exact n, fun b o e _ => ?_, fun b xs e => by rw [upd_ne (neT b _ e fun _ z => nomatch z)]; exact e,
      fun b o u e => by rw [upd_ne (neT b _ e fun _ z => nomatch z)]; exact e, fun b qs e => ?_⟩ fun b u e => ?_
    · by_cases hb : b = P
      · subst hb; exact ⟨_, tab.2⟩
      · exact ⟨o, ext b o hb e⟩
    · by_cases hb : b = P
      · subst hb
        rw [hP] at e; cases e
        exact ⟨_, upd_same⟩
      · exact ⟨#[], by rw [upd_ne hb, e]; simp⟩
    · by_cases hb : b = P
      · subst hb
        rw [upd_same] at e; cases e
        exact tab.2
      · rw [upd_ne hb] at e
        refine (I.hok b u e).stay (fun d v hd q => ext d v ?_ q) (fun d q => by rw [upd_ne (neT d _ q fun _ z => nomatch z)]; exact q) fun d xs q => by rw [upd_ne (neT d _ q fun _ z => nomatch z)]; exact q
        rcases hd with z | z
        · rw [z]; exact hb
        · exact neT d _ z fun _ y => nomatch y
end
def tAll (P : Addr) (os : List Str) (fi : List Nat) (wi : TI) (g : TG) (te : TE) : TE := fun σ H Q => wi σ H fun J H1 => ∃ ps, H1 P = some (.tbl ps) ∧ TriplesOk ps.toList ∧ ∀ ps', TriplesOk ps'.toList → GLr J g te (sB σ os fi) (upd H1 P (.tbl ps')) Q
theorem Room.gen {k : Nat} {A : Around} {e : Env} (r : Room (k + 1) A) : Room k (gA A.in1.in1 e) :=
  ⟨r.hd, by have := r.dp; show A.depth + 1 + 3 * k + 5 < _; omega, by have := r.un; show A.units + 1 + 1 + 3 + 16 * k + 200 < _; omega⟩
section
variable {X : Cx} {tg iter elt : Expr} {scope esc : Scope} {pos gpos p : Pos} {N os : List Str} {fi : List Nat} {wi : TI} {g : TG} {te : TE} {c P : Addr} {k : Nat}
theorem pe_all (hc : X.calm = true) (hr : Room k X.A) (hgl : Gl X "all") (hm : X.mg "all" = none) (hcd : X.env.code = .ref c) (CK : CodeK X.K c P) (BM : BmK X) (hN : X.N = N) (he : X.env.scope = esc) (B : BlkOk esc scope N fi) (hco : scope.isCoroutine = false) (h0 : scope.names.lookup (".0" : Str) = some NameKind.local) (hi : PI X tg iter wi)
    (hg : ∀ code s H fp, PG (gblk X scope (nB N os fi) code s H fp) tg g) (hel : ∀ code s H fp, PE (gblk X scope (nB N os fi) code s H fp) elt te)
    (hs : ∀ x, genFold iter X.env x = pure x := by intro _; rfl) : PE X (.Call (.Name "all" p) [.GeneratorExp elt [⟨tg, iter, [], 0⟩] scope gpos] [] pos) (tAll P os fi wi g te) := by
  intro pins s σ H Q I h
  subst hN
  have cells := blk_cells B he I
  have hroom : X.A.depth < recursionLimit := by have := hr.dp; omega
  refine wpAny_Call_Name_kw (ld_blt I hgl hm boot_all ?_)
  refine PyProof.Rows.callWith_builtin1 ?_ rfl rfl
  show wpAny _ _ (spliced ((false, eval (.GeneratorExp elt [⟨tg, iter, [], 0⟩] scope gpos) X.env) :: backTo pos (starEach [] X.env))) _ _ s
  refine Calls.spliced_cons (wpAny_GeneratorExp_make hco (closure_eq cells) B.nocell h0 B.kind hroom (thn (hi pins s σ H _ I h) fun v s1 h1 => thn h1 fun itv s2 h2 => ?_) hs)
  obtain ⟨it, fp, tn, J, H2, rfl, I2, T, st2, f2, qs, hP, tr, q2⟩ := h2
  refine ⟨I2.nolimit, thn (tab_step I2 hcd CK hP tr) fun code s3 ⟨qs', tr', I3, k3⟩ => ?_⟩
  obtain ⟨bm, ob, b1, b2, b3, b4, b5, b6⟩ := BM.ex
  refine wpAny_builtinsFor (by rw [I3.ok.glob]; exact I3.mod.glob.keeps I3.bk) b1 b2 (I3.bk _ _ b3) b4 b5 b6 ?_
  intro h4 hn4 sb4
  refine Calls.spliced_nil ?_
  have q3 := q2 qs' tr'
  have fpP : ∀ b ∈ fp, b ≠ P := fun b hb z => by
    have := (f2 b hb).1
    rw [z, hP] at this; cases this
  have f3 : ∀ b ∈ fp, FpOk X pins (upd H2 P (.tbl qs')) b := fun b hb => ⟨by rw [upd_ne (fpP b hb)]; exact (f2 b hb).1, (f2 b hb).2⟩
  have st3 : tn 0 s3.heap := T.keep _ _ _ st2 fun b hb o e => k3 b o (fpP b hb) e
  generalize upd H2 P (.tbl qs') = H3 at *
  have k4 : ∀ b o, s3.heap.get? b = some o → h4.get? b = some o := fun b o e => (sb4.2 b (Nat.ne_of_lt (Heap.lt_size e))).trans (Heap.get?_push_of_some _ e)
  have ho3 : ∀ b ∈ fp, ∃ o, s3.heap.get? b = some o := fun b hb => by
    obtain ⟨o, e, _⟩ := T.obj _ _ st3 b hb
    exact ⟨o, e⟩
  have sz4 : s3.heap.objs.size < h4.objs.size := hn4.lt
  obtain ⟨oa, hoa⟩ : ∃ oa : Obj, oa = { cls := .type "generator", data := .fields #[.int s3.gens.size 0, .str "<genexpr>" (s3.toks + 1), .str (X.env.qual ++ "<genexpr>") (s3.toks + 1 + 1)] } := ⟨_, rfl⟩
  rw [← hoa]
  have ga : (h4.push oa).get? h4.objs.size = some oa := Heap.get?_push_size _ (by rw [hoa]; rfl)
  have isg : ∀ h : Heap, h.get? h4.objs.size = some oa → h.IsGen h4.objs.size s3.gens.size := fun h e => ⟨oa, _, _, e, by rw [hoa], by rw [hoa], by rw [hoa]⟩
  have hn5 : (h4.push oa).Ns s3.heap.objs.size (fun y => if y = ".0" then some (Value.ref it) else none) := hn4.keeps fun b o e => Heap.get?_push_of_some _ e
  have k5 : ∀ b o, s3.heap.get? b = some o → (h4.push oa).get? b = some o := fun b o e => Heap.get?_push_of_some _ (k4 b o e)
  have cde : ∃ gc : GenState, gc = .fresh (.compStart (.GeneratorExp elt [⟨tg, iter, [], 0⟩] scope gpos) 0 (.ref it) .none (gE X scope code s3)) := ⟨_, rfl⟩
  obtain ⟨gc, hgc⟩ := cde
  show wpAny _ _ (call (.builtin "all") [.ref h4.objs.size]) _ _ { s3 with gens := s3.gens.push (.fresh (.compStart (.GeneratorExp elt [⟨tg, iter, [], 0⟩] scope gpos) 0 (.ref it) .none (gE X scope code s3))), toks := s3.toks + 1 + 1 + 1, heap := h4.push oa }
  rw [← hgc]
  have bare5 : AllBare (s3.gens.push gc) := I3.bare.push (by rw [hgc]; rfl)
  obtain ⟨W, ⟨m0, w0⟩, turn⟩ := q3
  refine call_function_tree F.kind_all F.plain_all F.entry_all (F.args_all1 _) ?_
  unfold Builtin.«all»
  refine wpAny_bind (m := oneArg "all" _) (wpAny_pure ?_)
  refine wpAny_bind (wpAny_pyIter_gen (isg _ ga) ?_)
  refine wpAny_pure ⟨plainId_quiet F.plain_all_loop _, ?_⟩
  have IY : Inv (gblk X scope (nB X.N os fi) code s3 H3 fp) [(h4.objs.size, oa)] (sB σ os fi) H3 (({ s3 with gens := s3.gens.push gc, toks := s3.toks + 1 + 1 + 1, heap := h4.push oa } : Shared).setGen s3.gens.size .running) := by
    have J0 := gblk_inv (os := os) (code := code) (t1 := s3.toks + 1 + 1 + 1) B he I3 f3 ho3 k5 hn5 bare5
    refine (J0.pins_of fun p hp => ?_).setGen rfl
    obtain rfl := List.mem_singleton.mp hp
    refine ⟨ga, I3.hok.fresh (Nat.le_of_lt sz4), Nat.ne_of_gt sz4, fun z => ?_, fun v => by rw [hoa]; exact fun z => nomatch z⟩
    have z' : h4.objs.size ∈ frs X.stack := z
    rcases List.mem_cons.mp (I3.stkSub _ z') with e | e
    · exact absurd (Nat.lt_trans I3.lt sz4) (by rw [e]; exact Nat.lt_irrefl _)
    · exact I3.nofs (Nat.le_of_lt sz4) e
  have stat : ∀ {H' : Hp}, (∀ b ∈ fp, H' b = none) → ∀ b ∈ fp, FpOk (gblk X scope (nB X.N os fi) code s3 H3 fp) [(h4.objs.size, oa)] H' b := fun hn b hb => by
    refine ⟨hn b hb, (IY.ok.exf b hb).1, IY.ok.exfs b hb, .inl hb, (IY.ok.exf b hb).2, fun p hp => ?_⟩
    obtain rfl := List.mem_singleton.mp hp
    obtain ⟨o, e⟩ := ho3 b hb
    exact Nat.ne_of_gt (Nat.lt_trans (Heap.lt_size e) sz4)
  have lg : s3.gens.size < (s3.gens.push gc).size := by rw [Array.size_push]; omega
  refine all_gen (X := X) (Y := gblk X scope (nB X.N os fi) code s3 H3 fp) (Q := Q) (ps := [(h4.objs.size, oa)]) (pins := pins) (σ := σ) (E := X.xe) hr.hd hroom (List.mem_singleton.mpr rfl) isg
    (fun s' h' y σ' H' I' kk hb q => by
      have J := gblk_out (h' := h') I3 f3 I' kk (bare_set (g := s3.gens.size) I'.bare hb)
      exact ⟨.bl true, H', J, rfl, q⟩) (fun s' y σ' H' I' hb q => by
      have J := gblk_out (h' := s'.heap) I3 f3 I' (fun _ _ e => e) (bare_set (g := s3.gens.size) I'.bare hb)
      exact ⟨.bl false, H', J, rfl, q⟩)
    (m0 + 1) gc _ (isg _ ga) (I3.nolimit.keeps k5) (by simp) ?_
  subst hgc
  refine ⟨rfl, seg_gen0 (X := X) (Y := gblk X scope (nB X.N os fi) code s3 H3 fp) rfl rfl T (T.keep _ _ _ st3 fun b hb o e => k5 b o e) ?_⟩
  exact seg_gen (X := X) (Y := gblk X scope (nB X.N os fi) code s3 H3 fp) rfl rfl hc hco (hg _ _ _ _) (hel _ _ _ _) T stat turn (m0 + 1) m0 0 _ H3 _ _ (Nat.lt_succ_self _) (by rw [setGen_size]; exact lg) IY (T.keep _ _ _ st3 fun b hb o e => k5 b o e) (fun b hb => (f3 b hb).1) w0
end
end L2
namespace L2
open PySem PySem.Spec PyProof.Rows
def BmOf (mg : Str → Option Value) (h : Heap) : Prop := ∃ (bm : Addr) (ob : Obj), mg "__builtins__" = some (.ref bm) ∧ bm ≠ builtinsNs ∧ h.get? bm = some ob ∧ ob.cls = .type "module" ∧ ob.dict = some builtinsNs ∧ ob.data = .plain
structure OnlyT (Ts : List (Addr × Addr)) (H : Hp) : Prop where
  all : ∀ b, H b = none ∨ (∃ o xs, H b = some (.frz o (.lst xs))) ∨ (H b = some (.tbl #[]) ∧ ∃ t ∈ Ts, t.2 = b)
  tab : ∀ t ∈ Ts, H t.2 = some (.tbl #[])
theorem law_callT {P : Program} {w : World} {K : PySem.W.Frag} {mg mb : Str → Option Value} {CX : CXT} {k : Nat} {fa a : Addr} {fd : FuncData} {x : Str} {sp : Sp} {s : Shared} {vs : List Value} {ns : List Int} {Ts : List (Addr × Addr)}
    (KX : K.In s.heap) (hns : s.heap.Ns mainGlobals mg) (hb : s.heap.Ns builtinsNs mb) (hbb : ∀ x : Str, x ≠ "__name__" → mb x = bootBuiltins x) (hlim : s.heap.NoLimit) (hg : s.gens = #[]) (hT : ∀ t ∈ Ts, s.heap.TableAt t.1 t.2 #[]) (hKT : ∀ t ∈ Ts, K.lookup t.2 = none) (hbm : BmOf mg s.heap)
    (ha : s.heap.get? a = some { cls := .type "list", data := .seq vs.toArray }) (hi : IntsAre vs ns) (hl : ns.length ≤ sizeLine) (hr : Room k callerA)
    (F : ∀ base : Heap, K.In base → base.Ns mainGlobals mg → BmOf mg base → FnOk P w K mg base CX k fa fd [x] sp) (hbind : ∀ (s : Shared) (u : Value), BindsTo s fd ⟨[u], []⟩ [(x, u)])
    (hsp : ∀ H : Hp, OnlyT Ts H → SqL K H a (ns.map V.int) → sp [.ref a] H (fun v _ => v = .bl true) fun _ _ _ => False)
    (hCX : ∀ H e s', CX [] H s (fun _ _ _ => False) e s' → False) :
    codeAny (model P w) callerA (.call (.ref fa) ⟨[.ref a], []⟩) (fun r s' => r = .ok (.ret (.bool true)) ∧ OldK s.heap s'.heap ∧ s'.os = s.os ∧ AllBare s'.gens) s := by
  have rv := vals_ints hi
  have lenV := hi.length
  have aP : ∀ t ∈ Ts, t.2 ≠ a := fun t ht z => by
    have e := (hT t ht).2
    rw [z, ha] at e
    cases e
  have run : ∀ H : Hp, OnlyT Ts H → SqL K H a (ns.map V.int) → HOk P w H s.heap → (∀ b, H b ≠ none → b = a ∨ ∃ t ∈ Ts, t.2 = b) → (H a ≠ none → K.lookup a = none) →
      codeAny (model P w) callerA (.call (.ref fa) ⟨[.ref a], []⟩) (fun r s' => r = .ok (.ret (.bool true)) ∧ OldK s.heap s'.heap ∧ s'.os = s.os ∧ AllBare s'.gens) s := by
    intro H hO hS hok hA hK
    have lift : ∀ {b : Addr} {o : Obj}, s.heap.get? b = some o → H b = none → (hidT s.heap H).get? b = some o := fun e n => hidT_get e n
    have un0 : ∀ {b : Addr} {o : Obj}, s.heap.get? b = some o → (∀ its n, o.data ≠ .seq its n) → (∀ fs, o.data ≠ .fields fs) → H b = none := fun {b o} e d1 d2 => by
      cases q : H b with
      | none => rfl
      | some u =>
        rcases hA b (by rw [q]; simp) with z | ⟨t, ht, z⟩
        · subst z; rw [ha] at e; cases e; exact absurd rfl (d1 _ _)
        · subst z; rw [(hT t ht).2] at e; cases e; exact absurd rfl (d2 _)
    have ns1 : ∀ {b : Addr} {m : Str → Option Value}, s.heap.Ns b m → (hidT s.heap H).Ns b m := fun {b m} ⟨o, es, ep, e, d, r⟩ => ⟨o, es, ep, lift e (un0 e (fun _ _ z => by rw [d] at z; cases z) fun _ z => by rw [d] at z; cases z), d, r⟩
    have kb : K.In (hidT s.heap H) := fun b o e => lift (KX b o e) (by
      cases q : H b with
      | none => rfl
      | some u =>
        rcases hA b (by rw [q]; simp) with z | ⟨t, ht, z⟩
        · subst z; rw [hK (by rw [q]; simp)] at e; cases e
        · subst z; rw [hKT t ht] at e; cases e)
    have bmb : BmOf mg (hidT s.heap H) := by
      obtain ⟨bm, ob, b1, b2, b3, b4, b5, b6⟩ := hbm
      exact ⟨bm, ob, b1, b2, lift b3 (un0 b3 (fun _ _ z => by rw [b6] at z; cases z) fun _ z => by rw [b6] at z; cases z), b4, b5, b6⟩
    have hM : Mod K mg (hidT s.heap H) := ⟨kb, ns1 hns, ⟨mb, ns1 hb, hbb⟩, let ⟨mc, h1, h2⟩ := hlim; ⟨mc, ns1 h1, h2⟩⟩
    have e0 : Env0 P w K mg (hidT s.heap H) callerA [] s H := ⟨rfl, hM, fun b o e => of_hidT e, Nat.le_of_eq (hidT_size _ _), trivial, fun b hb => absurd (show b ∈ ([] : List Addr) from hb) (by simp), hok, .of_eq hg⟩
    refine codeAny_mono ((F _ kb (ns1 hns) bmb).run callerA [] s H ⟨[.ref a], []⟩ [.ref a] [.ref a] _ _ hr e0 (hbind s (.ref a)) (.cons rfl .nil) (hsp H hO hS)) fun r s' h => ?_
    cases r with
    | error e => exact (hCX H e s' h).elim
    | ok fl =>
      cases fl with
      | next => exact False.elim h
      | brk => exact False.elim h
      | cont => exact False.elim h
      | ret u =>
        obtain ⟨v, H', os, bare, un, hok', r', q⟩ := h
        have q' : v = .bl true := q
        subst q'
        obtain rfl : u = Value.bool true := r'
        refine ⟨rfl, ⟨fun b o e => ?_, fun b o e => un.there b o e (by simp)⟩, os, bare⟩
        rcases hO.all b with z | ⟨ob, xs, z⟩ | ⟨z, t, ht, rfl⟩
        · exact .inl (un.keep b o e z (by intro y; exact absurd (show b ∈ ([] : List Addr) from y) (by simp)) (by simp))
        · have z2 := un.frzs b ob _ z
          obtain ⟨e1, _⟩ := hok b _ z
          obtain ⟨e2, _⟩ := hok' b _ z2
          rw [e] at e1; cases e1
          exact .inl e2
        · obtain ⟨more, z2⟩ := un.tbls _ _ z
          have e1 : s.heap.get? t.2 = some { cls := .none, data := .fields #[] } := hok _ _ z
          have e2 : s'.heap.get? t.2 = some { cls := .none, data := .fields (#[] ++ more) } := hok' _ _ z2
          rw [e] at e1; cases e1
          exact .inr (.inl ⟨(hT t ht).isCodeTable, rfl, #[], more, rfl, e2⟩)
  have mem : ∀ b, (∃ t ∈ Ts, t.2 = b) ∨ ¬ ∃ t ∈ Ts, t.2 = b := fun b => Classical.em _
  have dc : ∀ b, Decidable (∃ t ∈ Ts, t.2 = b) := fun b => Classical.propDecidable _
  cases hk : K.lookup a with
  | some o =>
    have e := KX a o hk
    rw [ha] at e
    cases e
    refine run (fun b => if (∃ t ∈ Ts, t.2 = b) then some (.tbl #[]) else none) ⟨fun b => ?_, fun t ht => if_pos ⟨t, ht, rfl⟩⟩ (.inr ⟨_, vs.toArray, _, hk, rfl, rfl, rfl, by rw [List.size_toArray, lenV]; exact hl, by simpa using rv⟩) (fun b u z => ?_) (fun b z => ?_) fun z => ?_
    · rcases mem b with y | y
      · exact .inr (.inr ⟨if_pos y, y⟩)
      · exact .inl (if_neg y)
    · rcases mem b with y | y
      · have z' := (if_pos y).symm.trans z
        cases z'
        obtain ⟨t, ht, rfl⟩ := y
        exact (hT t ht).2
      · have z' := (if_neg y).symm.trans z
        cases z'
    · rcases mem b with y | y
      · exact .inr y
      · exact absurd (if_neg y) z
    · refine absurd (if_neg ?_) z
      rintro ⟨t, ht, e⟩
      exact aP t ht e
  | none =>
    refine run (fun b => if b = a then some (.frz { cls := .type "list", data := .seq vs.toArray } (.lst (ns.map V.int))) else if (∃ t ∈ Ts, t.2 = b) then some (.tbl #[]) else none) ⟨fun b => ?_, fun t ht => ?_⟩ (.inl (.inr ⟨{ cls := .type "list", data := .seq vs.toArray }, if_pos rfl⟩)) (fun b u z => ?_) (fun b z => ?_) fun _ => hk
    · by_cases hb : b = a
      · exact .inr (.inl ⟨_, _, if_pos hb⟩)
      · rcases mem b with y | y
        · exact .inr (.inr ⟨(if_neg hb).trans (if_pos y), y⟩)
        · exact .inl ((if_neg hb).trans (if_neg y))
    · exact (if_neg (aP t ht)).trans (if_pos ⟨t, ht, rfl⟩)
    · by_cases hb : b = a
      · have z' := (if_pos hb).symm.trans z
        cases z'
        subst hb
        exact ⟨ha, by rw [List.length_map]; exact hl, vs, _, rv, ha⟩
      · rcases mem b with y | y
        · have z' := ((if_neg hb).trans (if_pos y)).symm.trans z
          cases z'
          obtain ⟨t, ht, rfl⟩ := y
          exact (hT t ht).2
        · have z' := ((if_neg hb).trans (if_neg y)).symm.trans z
          cases z'
    · by_cases hb : b = a
      · exact .inl hb
      · rcases mem b with y | y
        · exact .inr y
        · exact absurd ((if_neg hb).trans (if_neg y)) z
theorem walk_ofT {l : PySem.W.OpenLaw} {n k : Nat} {q : Program} {loose : List Str} {XP : (Str → Option Value) → Heap → Prop} {YP : World → Heap → Prop} {d : DefRec} {K : Params → PySem.W.Frag} {CX : World → CXT} {sp : World → Sp} {x : Str} {Ts : World → List (Addr × Addr)}
    (hn : l.most = some n) (hn2 : n ≤ sizeLine) (hdf : d.params.defaults = []) (hr : Room k callerA)
    (hY : ∀ (w : World) (h : Heap), YP w h → (K w.params).In h)
    (hT : ∀ (w : World) (h : Heap) (lo : List Str) (mean : ExcName → Option Value) (mg mb : Str → Option Value), (K w.params).In h → Top q lo mean mg mb h → ∀ t ∈ Ts w, h.TableAt t.1 t.2 #[]) (hKT : ∀ (w : World), ∀ t ∈ Ts w, (K w.params).lookup t.2 = none)
    (F : ∀ (w : World) (mg : Str → Option Value) (fa : Addr) (h : Heap), (K w.params).In h → h.Ns mainGlobals mg → mg d.name = some (.ref fa) →
      ∃ fd : FuncData, (∀ (s : Shared) (u : Value), BindsTo s fd ⟨[u], []⟩ [(x, u)]) ∧
        ∀ base : Heap, (K w.params).In base → base.Ns mainGlobals mg → BmOf mg base → FnOk l.prog w (K w.params) mg base (CX w) k fa fd [x] (sp w))
    (hsp : ∀ (w : World) (H : Hp) (a : Addr) (ns : List Int), ns.length ≤ n → OnlyT (Ts w) H → SqL (K w.params) H a (ns.map V.int) → sp w [.ref a] H (fun v _ => v = .bl true) fun _ _ _ => False)
    (hCX : ∀ (w : World) (H : Hp) (s : Shared) (e : Value) (s' : Shared), CX w [] H s (fun _ _ _ => False) e s' → False) :
    PySem.W.WalkO q loose XP YP l.row.toRowW d [] (fun f vs => PySem.call f vs) := by
  refine Att.attach_call hn hdf fun w s₀ s₁ mg mb fa o pm cd doc a vs ns G Y ho hd hcd hmg hobj hints hlen hg => ?_
  have KX := hY w _ Y
  obtain ⟨fd, hb, hF⟩ := F w mg fa _ KX G.T.g hmg
  exact law_callT KX G.T.g G.T.b G.T.builtins G.T.nolimit hg (hT w _ _ _ _ _ KX G.T) (hKT w) G.T.bmain hobj hints (Nat.le_trans hlen hn2) hr hF hb (fun H hO hS => hsp w H a ns hlen hO hS) fun H e s' => hCX w H s₁ e s'
end L2
namespace L2
open PySem PySem.Spec PyProof.Rows
def Its (x : Str) : It := ⟨fun i _ => i < x.cps.size, fun i H v H' => H' = H ∧ ∃ c, x.cps[i]? = some c ∧ v = .str ⟨#[c]⟩, fun i _ => i = x.cps.size⟩
theorem turn_str {P : Program} {w : World} {K : PySem.W.Frag} {tg : Expr} {it : Addr} {x : Str} {t : Tok} {ty : String} (hn : ["enumerate", "zip", "dict_itemiterator", "dict_reverseitemiterator", "odict_iterator", "itertools.zip_longest", "itertools.pairwise"].contains ty = false)
    (W : ∀ A' : Around, A'.handled = none → Walks P w A' it [it] [it] x.cps.size (SignAt x) (fun i h => h.IsStrIter it ty x t i))
    (hself : ∀ (A : Around) (i : Nat) (s : Shared) (Q : Value → Shared → Prop) (E : Value → Shared → Prop), s.heap.IsStrIter it ty x t i → Q (.ref it) s → wpAny (model P w) A (pyIter (.ref it)) Q E s) : Turn P w K tg (Its x) [it] it (fun i h => h.IsStrIter it ty x t i) where
  mem := by simp
  obj := fun i h st b hb => by
    have e : b = it := by simpa using hb
    subst e
    obtain ⟨o, ho, _, d⟩ := st
    exact ⟨o, ho, fun v z => by rw [d] at z; cases z⟩
  keep := fun i h h' st k => by
    obtain ⟨o, ho, r⟩ := st
    exact ⟨o, k it (by simp) o ho, r⟩
  item := by
    intro X hP hw hK hc i pins s σ H E I hf st hg
    subst hP hw hK
    obtain ⟨f0, f1, f2, f3, f4, f5⟩ := hf it (by simp)
    refine (W X.A (I.ok.hd hc)).item i s _ _ hg st fun v h' tk hv st' kk => ?_
    obtain ⟨c, u, hcu, rfl⟩ := hv
    have I1 : Inv X pins σ H { s with heap := h', toks := tk } := I.turned (fun b o hb e => kk b o (by simpa using hb) e) f0 f1 f3 f4 f5
    obtain ⟨o, ho, hcl, d⟩ := id st'
    exact ⟨_, rfl, go_of (s := { s with heap := h', toks := tk }) ho hcl d hn ⟨.str ⟨#[c]⟩, H, I1, ⟨u, rfl⟩, ⟨rfl, c, hcu, rfl⟩, st', fun b hb => (hf b hb).1⟩⟩
  done := by
    intro X hP hw hK hc i pins s σ H E I hf st hg
    subst hP hw hK
    obtain ⟨f0, f1, f2, f3, f4, f5⟩ := hf it (by simp)
    have hi : i = x.cps.size := hg
    subst hi
    exact (W X.A (I.ok.hd hc)).done s _ _ st fun h' tk kk => ⟨rfl, I.turned (fun b o hb e => kk b o (by simpa using hb) e) f0 f1 f3 f4 f5⟩
  self := fun A i s Q E st h => hself A i s Q E st h
def iStr (tl : TE) : TI := fun σ H R => tl σ H fun v H1 => ∃ x, v = .str x ∧ R (Its x) H1
section
variable {X : Cx} {tg : Expr}
theorem pi_str {l : Expr} {tl : TE} (hl : PE X l tl) : PI X tg l (iStr tl) := by
  intro pins s σ H R I h
  refine thn (hl pins s σ H _ I h) fun v s1 ⟨y, H1, I1, r1, x, e, q⟩ => ?_
  subst e
  obtain ⟨t, rfl⟩ := r1
  have fin : ∀ b ∈ [s1.heap.objs.size], FpOk X pins H1 b := fun b hb => by
    have e : b = s1.heap.objs.size := by simpa using hb
    subst e
    exact I1.fpOk (Nat.le_refl _) (I1.hok.fresh (Nat.le_refl _))
  cases ha : x.cps.all (· < 128)
  · refine wpAny_pyIter_wide ha ?_
    exact ⟨s1.heap.objs.size, [s1.heap.objs.size], _, _, H1, rfl, I1.kept (t' := s1.toks) fun b o e => Heap.get?_push_of_some _ e, turn_str (by decide) (fun A' hA => Walks.strWide hA _ x t) (fun A i s Q E st h => wpAny_pyIter_striter_wide st h), ⟨_, Heap.get?_push_size _ rfl, rfl, rfl⟩, fin, q⟩
  · refine wpAny_pyIter_ascii ha ?_
    exact ⟨s1.heap.objs.size, [s1.heap.objs.size], _, _, H1, rfl, I1.kept (t' := s1.toks) fun b o e => Heap.get?_push_of_some _ e, turn_str (by decide) (fun A' hA => Walks.strAscii hA _ x t) (fun A i s Q E st h => wpAny_pyIter_striter_ascii st h), ⟨_, Heap.get?_push_size _ rfl, rfl, rfl⟩, fin, q⟩
def rEqL (K : PySem.W.Frag) (neg : Bool) : R2 := fun x y H Q => ∃ a b xs ys, x = .ref a ∧ y = .ref b ∧ SqL K H a xs ∧ SqL K H b ys ∧ xs.all flatV = true ∧ ys.all flatV = true ∧ Q (.bl (if neg then !eqVs xs ys else eqVs xs ys)) H
theorem eqVs_lens {xs ys : List V} (h : xs.length ≠ ys.length) : eqVs xs ys = false := by
  rw [← eqVs_all]
  have : (xs.length == ys.length) = false := by simpa using h
  rw [this, Bool.and_false]
theorem op_eqL (hu : X.A.units < cLine) : OpR X (compareOp .Eq) (rEqL X.K false) := by
  intro pins s σ H x y v u Q I rx ry h
  obtain ⟨a, b, xs, ys, rfl, rfl, ha, hb, f1, f2, q⟩ := h
  cases rx
  cases ry
  obtain ⟨its, r1, p1, _⟩ := I.list ha
  obtain ⟨its2, r2, p2, _⟩ := I.list hb
  by_cases hz : xs.length = ys.length
  · have hz2 : its.toArray.size = its2.toArray.size := by rw [List.size_toArray, List.size_toArray, ← r1.length, ← r2.length]; exact hz
    refine SeqAt.eq_listAt p1.isList p2.isList hz2 hu (items_eq r1 r2 f1 f2) ⟨.bl _, H, I, rfl, ?_⟩
    have e : (List.range its.toArray.size).all (eAt xs ys) = eqVs xs ys := by
      rw [← eqVs_all, List.size_toArray, ← r1.length, ← hz, Nat.min_self]; simp
    rw [e]
    exact q
  · have hz2 : (its.toArray.size != its2.toArray.size) = true := by
      rw [List.size_toArray, List.size_toArray, ← r1.length, ← r2.length]; simpa using hz
    have q' : Q (.bl false) H := by rw [eqVs_lens hz] at q; exact q
    exact SeqAt.eq_list_lengthsAt p1.isList p2.isList hz2 hu ⟨.bl _, H, I, rfl, q'⟩
end
end L2
namespace L2
open PySem PySem.Spec PyProof.Rows
def cdOf (K : PySem.W.Frag) (n : Str) : Addr := match PySem.W.nsIn K mainGlobals n with
  | some (some (.ref f)) => (match K.lookup f with
    | some ⟨_, _, .func fd, _⟩ => (match fd.code with
      | .ref c => c
      | _ => 0)
    | _ => 0)
  | _ => 0
def tbOf (K : PySem.W.Frag) (n : Str) : Addr := match K.lookup (cdOf K n) with
  | some ⟨_, _, .fields vs, _⟩ => (match (vs[11]? : Option Value) with
    | some (.ref T) => T
    | _ => 0)
  | _ => 0
structure CodeN (K : PySem.W.Frag) (n : Str) (f c T : Addr) (fd : FuncData) : Prop where
  a : PySem.W.nsIn K mainGlobals n = some (some (.ref f))
  l : ∃ oc od sl, K.lookup f = some ⟨oc, od, .func fd, sl⟩
  hc : fd.code = .ref c
  lc : ∃ (od : Option Addr) (vs : Array Value) (sl : Array (Option Value)) (file : Str) (tf : Tok) (flags : Int) (tk : Tok) (inF : Bool) (text : Int) (tt : Tok), K.lookup c = some ⟨.type "code", od, .fields vs, sl⟩ ∧ vs[11]? = some (.ref T) ∧ vs.getD 18 .none = .str file tf ∧
    vs.getD 7 .none = .int flags tk ∧ vs.getD 9 .none = .bool inF ∧ vs.getD 10 .none = .int text tt
  ne : c ≠ T
section
variable {K : PySem.W.Frag} {n : Str} {f c T : Addr} {fd : FuncData}
theorem CodeN.cd (C : CodeN K n f c T fd) : cdOf K n = c := by
  obtain ⟨oc, od, sl, l⟩ := C.l
  unfold cdOf
  rw [C.a]
  simp only [l, C.hc]
theorem CodeN.tb (C : CodeN K n f c T fd) : tbOf K n = T := by
  obtain ⟨od, vs, sl, _, _, _, _, _, _, _, l, h11, _⟩ := C.lc
  unfold tbOf
  rw [C.cd]
  simp only [l, h11]
theorem CodeN.ck (C : CodeN K n f c T fd) : CodeK K c T := by
  obtain ⟨od, vs, sl, file, tf, flags, tk, inF, text, tt, l, h11, r⟩ := C.lc
  exact ⟨⟨_, vs, file, tf, flags, tk, inF, text, tt, l, rfl, rfl, h11, r⟩, C.ne⟩
theorem CodeN.tab {q : Program} {lo : List Str} {mean : ExcName → Option Value} {mg mb : Str → Option Value} {h : Heap} {d : DefRec} (C : CodeN K n f c T fd) (KX : K.In h) (Tp : Top q lo mean mg mb h) (hf : (recsOf q).find? (fun e => e.name == n) = some d) : h.TableAt (cdOf K n) (tbOf K n) #[] := by
  rw [C.cd, C.tb]
  have hn : d.name = n := beq_iff_eq.mp (List.find?_some (p := fun e : DefRec => e.name == n) hf)
  obtain ⟨a', o', fd', c', P', h1, h2, h3, h4, h5, h6⟩ := Tp.tab d (List.mem_of_find?_eq_some hf)
  have hm := PySem.W.mg_of KX Tp.g C.a
  rw [hn, hm] at h1; cases h1
  obtain ⟨oc, od, sl, l⟩ := C.l
  rw [KX _ _ l] at h2; cases h2
  cases h3
  rw [C.hc] at h4; cases h4
  obtain ⟨od2, vs, sl2, _, _, _, _, _, _, _, l2, h11, _⟩ := C.lc
  obtain ⟨⟨o3, vs3, e1, _, e2, e3⟩, _⟩ := id h6
  rw [KX _ _ l2] at e1; cases e1
  cases e2
  rw [h11] at e3; cases e3
  exact h6
theorem codeN_mk {oc : Value} {od odc : Option Addr} {sl slc : Array (Option Value)} {vs : Array Value} {file : Str} {tf : Tok} {flags : Int} {tk : Tok} {inF : Bool} {text : Int} {tt : Tok} (a : PySem.W.nsIn K mainGlobals n = some (some (.ref f))) (l : K.lookup f = some ⟨oc, od, .func fd, sl⟩) (hc : fd.code = .ref c)
    (lc : K.lookup c = some ⟨.type "code", odc, .fields vs, slc⟩) (h11 : vs[11]? = some (.ref T)) (h18 : vs.getD 18 .none = .str file tf) (h7 : vs.getD 7 .none = .int flags tk) (h9 : vs.getD 9 .none = .bool inF) (h10 : vs.getD 10 .none = .int text tt) (ne : c ≠ T) : CodeN K n f c T fd :=
  ⟨a, ⟨oc, od, sl, l⟩, hc, ⟨odc, vs, slc, file, tf, flags, tk, inF, text, tt, lc, h11, h18, h7, h9, h10⟩, ne⟩
end
end L2
namespace L2
open PySem PySem.Spec PyProof.Rows
abbrev TB := St → Hp → (St → Hp → Prop) → Prop
abbrev Fi := PySem.Fin
def PB (Y : Cx) (body : Sem Fi → Sem Fi) (t : TB) : Prop :=
  ∀ (pins : List (Addr × Obj)) (s : Shared) (σ : St) (H : Hp) (N : St → Hp → Prop) (k : Sem Fi) (R : Fi → Shared → Prop), Inv Y pins σ H s → t σ H N →
    (∀ σ' H' s', Inv Y pins σ' H' s' → N σ' H' → wpAny (model Y.prog Y.w) Y.A k R F0 s') → wpAny (model Y.prog Y.w) Y.A (body k) R F0 s
def turnOf (tg : Expr) (p : Pos) (ifs : List Expr) (it : Value) (env : Env) (body : Sem Fi → Sem Fi) (k : Sem Fi) : Sem Fi := do
  standAt p
  match ← pyNext it with
  | none => pure (.done .next)
  | some v =>
    letOwnedTupleGo tg it v
    assign tg env v
    let mut ok := true
    for c in ifs do
      if ok then ok ← isTrue c env (eval c env)
    if ok then body k else k
def LoopRule (P : Program) (w : World) (A : Around) (e : Expr) (d : Nat) : Prop := ∀ (it acc : Value) (env : Env) (R : Result → Shared → Prop) (I : Nat → Shared → Prop),
  (∀ n s, I n s → wpAny (model P w) A (compTurn e d it acc env) (fun fin s' => match fin with | .done f => R (.ok f) s' | .again c' => c' = .compLoop e d it acc env ∧ ∃ m, m < n ∧ I m s') F0 s) →
  ∀ n s, I n s → codeAny (model P w) A (.compLoop e d it acc env) R s
def StartRule (P : Program) (w : World) (A : Around) (e : Expr) (d : Nat) : Prop := ∀ (it acc : Value) (env : Env) (R : Result → Shared → Prop) (s : Shared),
  codeAny (model P w) A (.compLoop e d it acc env) R s → wpAny (model P w) A (pyIter it) (fun it' s' => codeAny (model P w) A (.compLoop e d it' acc env) R s') F0 s → codeAny (model P w) A (.compStart e d it acc env) R s
section
variable {P : Program} {w : World} {A : Around} {elt kx vx : Expr} {gens : List Comprehension} {scope : Scope} {pos : Pos} {d : Nat} {g : Comprehension}
theorem loop_list : LoopRule P w A (.ListComp elt gens scope pos) d := by
  intro it acc env R I turn n s h
  refine codeAny_loop rfl I (fun n s hI => ?_) n h
  show wpAny _ A ((compTurn (.ListComp elt gens scope pos) d it acc env).onRaise (fun x => do noteFrame x env; theTreesLotGoes x)) _ _ s
  exact wpAny_noted (of_F0 (turn n s hI) fun _ _ z => z)
theorem loop_dict : LoopRule P w A (.DictComp kx vx gens scope pos) d := by
  intro it acc env R I turn n s h
  refine codeAny_loop rfl I (fun n s hI => ?_) n h
  show wpAny _ A ((compTurn (.DictComp kx vx gens scope pos) d it acc env).onRaise (fun x => do noteFrame x env; theTreesLotGoes x)) _ _ s
  exact wpAny_noted (of_F0 (turn n s hI) fun _ _ z => z)
theorem start_any {e : Expr} {it acc : Value} {env : Env} {R : Result → Shared → Prop} {s : Shared} {E : Value → Shared → Prop} (hg : (clausesOf e)[d]? = some g) (ha : g.is_async = 0)
    (h0 : codeAny (model P w) A (.compLoop e d it acc env) R s) (h : wpAny (model P w) A (pyIter it) (fun it' s' => codeAny (model P w) A (.compLoop e d it' acc env) R s') F0 s) :
    wpAny (model P w) A (compStart e d it acc env) (fun fin s' => match fin with | .done f => R (.ok f) s' | .again c' => c'.quiet = true ∧ codeAny (model P w) A c' R s') E s := by
  unfold compStart
  rw [hg]
  simp only [Option.elim, ha]
  show wpAny _ _ (ask >>= _) _ _ s
  refine wpAny_bind (wpAny_askSetting (wpAny_ite ?_))
  split
  · first
      | exact wpAny_bind (wpAny_pure (wpAny_pure (And.intro rfl h0)))
      | exact wpAny_pure (And.intro rfl h0)
  · refine wpAny_bind (wpAny_rule ?_)
    exact wpAny_bind (wpAny_standAt (wpAny_bind (of_F0 h fun it' s' h' => wpAny_pure (And.intro rfl h'))))
theorem start_list (hg : gens[d]? = some g) (ha : g.is_async = 0) : StartRule P w A (.ListComp elt gens scope pos) d := by
  intro it acc env R s h0 h
  refine codeAny_of_tree ?_
  show wpAny _ _ ((compStart (.ListComp elt gens scope pos) d it acc env).onRaise (fun x => do noteFrame x env; standAt theWindowsPlace)) _ _ s
  exact wpAny_notedAt (start_any (e := .ListComp elt gens scope pos) hg ha h0 h)
theorem start_dict (hg : gens[d]? = some g) (ha : g.is_async = 0) : StartRule P w A (.DictComp kx vx gens scope pos) d := by
  intro it acc env R s h0 h
  refine codeAny_of_tree ?_
  show wpAny _ _ ((compStart (.DictComp kx vx gens scope pos) d it acc env).onRaise (fun x => do noteFrame x env; standAt theWindowsPlace)) _ _ s
  exact wpAny_notedAt (start_any (e := .DictComp kx vx gens scope pos) hg ha h0 h)
end
def LR (J : It) (g : TG) (tt : TT) (tb : TB) (σ : St) (H : Hp) (N : St → Hp → Prop) : Prop := ∃ W : Nat → Nat → St → Hp → Prop, (∃ m, W 0 m σ H) ∧ ∀ i m σ2 H2, W i m σ2 H2 →
  (J.stop i H2 ∧ N σ2 H2) ∨ (J.go i H2 ∧ ∀ x H3, J.yld i H2 x H3 → g x σ2 H3 fun σ4 H4 => tt σ4 H4 fun ok H5 =>
    if ok = true then tb σ4 H5 (fun σ6 H6 => ∃ m', m' < m ∧ W (i + 1) m' σ6 H6) else ∃ m', m' < m ∧ W (i + 1) m' σ4 H5)
section
variable {Y : Cx} {e tg iter : Expr} {ifs : List Expr} {d : Nat} {p : Pos} {body : Sem Fi → Sem Fi} {it : Addr} {acc : Value} {J : It} {g : TG} {tt : TT} {tb : TB} {wi : TI} {fp : List Addr} {tn : Nat → Heap → Prop} {pins : List (Addr × Obj)} {R : Result → Shared → Prop} {N : St → Hp → Prop} {s : Shared} {σ : St} {H : Hp}
theorem loop_any (hL : LoopRule Y.prog Y.w Y.A e d) (hc : Y.calm = true) (hx : Y.xe = F0) (hT : compTurn e d (.ref it) acc Y.env = turnOf tg p ifs (.ref it) Y.env body (again (.compLoop e d (.ref it) acc Y.env)))
    (hg : PG Y tg g) (ht : PTs Y ifs tt) (hb : PB Y body tb) (T : Turn Y.prog Y.w Y.K tg J fp it tn) (stat : ∀ {H' : Hp}, (∀ b ∈ fp, H' b = none) → ∀ b ∈ fp, FpOk Y pins H' b)
    (I : Inv Y pins σ H s) (st : tn 0 s.heap) (fr : ∀ b ∈ fp, H b = none) (q : LR J g tt tb σ H N) (hR : ∀ σ' H' s', Inv Y pins σ' H' s' → N σ' H' → R (.ok .next) s') :
    codeAny (model Y.prog Y.w) Y.A (.compLoop e d (.ref it) acc Y.env) R s := by
  obtain ⟨W, ⟨m0, w0⟩, turn⟩ := q
  refine hL _ _ _ _ (fun n s' => ∃ i σ' H', Inv Y pins σ' H' s' ∧ tn i s'.heap ∧ (∀ b ∈ fp, H' b = none) ∧ W i n σ' H') ?_ m0 s ⟨0, σ, H, I, st, fr, w0⟩
  rintro n s5 ⟨i, σ5, H5, I5, t5, fr5, w5⟩
  rw [hT]
  unfold turnOf
  refine wpAny_bind (wpAny_standAt (wpAny_bind ?_))
  rcases turn i n σ5 H5 w5 with ⟨stop, qn⟩ | ⟨go, step⟩
  · refine of_F0 (T.done Y rfl rfl rfl hc i pins s5 σ5 H5 F0 I5 (stat fr5) t5 stop) fun r s6 ⟨hr, I6⟩ => ?_
    subst hr
    exact wpAny_pure (hR _ _ _ I6 qn)
  · refine of_F0 (T.item Y rfl rfl rfl hc i pins s5 σ5 H5 F0 I5 (stat fr5) t5 go) fun r s6 ⟨u, hr, h6⟩ => ?_
    subst hr
    refine wpAny_bind (of_F0 h6 fun _ s7 ⟨x, H7, I7, r7, y7, t7, fr7⟩ => ?_)
    have I7' := I7.pinned (stat fr7) (T.obj _ _ t7)
    have a1 := hg _ s7 σ5 H7 x u _ I7' r7 (step x H7 y7)
    rw [hx] at a1
    refine wpAny_bind (of_F0 a1 fun _ s8 ⟨σ8, H8, I8, q8⟩ => ?_)
    have a2 := ht _ s8 σ8 H8 _ I8 q8
    rw [hx] at a2
    refine wpAny_bind (of_F0 a2 fun ok s9 ⟨H9, I9, q9⟩ => ?_)
    have again : ∀ {s' : Shared} {σ' : St} {H' : Hp} {m : Nat}, Inv Y (pins ++ pinsAt fp s7.heap) σ' H' s' → W (i + 1) m σ' H' →
        ∃ i σ' H', Inv Y pins σ' H' s' ∧ tn i s'.heap ∧ (∀ b ∈ fp, H' b = none) ∧ W i m σ' H' := fun {s' σ' H' m} J w => by
      refine ⟨i + 1, σ', H', J.unpinned, T.keep _ _ _ t7 fun b hb o e => (J.pin (b, o) (List.mem_append_right _ (List.mem_append_right _ (mem_pinsAt hb e)))).1, fun b hb => ?_, w⟩
      obtain ⟨o, e, d⟩ := T.obj _ _ t7 b hb
      exact (J.pin (b, o) (List.mem_append_right _ (List.mem_append_right _ (mem_pinsAt hb e)))).2.1
    cases ok with
    | false =>
      obtain ⟨m', lt, w9⟩ := (show ∃ m', m' < n ∧ W (i + 1) m' σ8 H9 from q9)
      exact wpAny_pure ⟨rfl, m', lt, again I9 w9⟩
    | true =>
      exact hb _ s9 σ8 H9 _ _ _ I9 q9 fun σA HA sA IA ⟨m', lt, wA⟩ => wpAny_pure ⟨rfl, m', lt, again IA wA⟩
def listBody (elt : Expr) (acc : Value) (env : Env) (k : Sem Fi) : Sem Fi := (do let _ ← call (.builtin "list.append") [acc, ← eval elt env]) >>= fun _ => k
def tEmL (D : Addr) (te : TE) : TB := fun σ H N => te σ H fun v H6 => ∃ xs, H6 D = some (.lst xs) ∧ xs.length < sizeLine ∧ N σ (upd H6 D (.lst (xs ++ [v])))
theorem pb_list {elt : Expr} {te : TE} {D : Addr} (hx : Y.xe = F0) (hel : PE Y elt te) : PB Y (listBody elt (.ref D) Y.env) (tEmL D te) := by
  intro pins s σ H N k R I h hk
  have a1 := hel pins s σ H _ I h
  rw [hx] at a1
  refine wpAny_bind (wpAny_bind (of_F0 a1 fun y sA ⟨v, HA, IA, rA, xs, hxs, hz, wA⟩ => wpAny_bind ?_))
  have a2 := mt_append pins sA σ HA (.ref D) [v] (.ref D) [y] (fun _ H' => N σ H') IA rfl (.cons rA .nil) ⟨D, xs, v, rfl, rfl, hxs, hz, wA⟩
  rw [hx] at a2
  exact of_F0 a2 fun _ sB' ⟨_, HB, IB, _, wB⟩ => wpAny_pure (hk σ HB sB' IB wB)
end
def NewRule (X : Cx) (mk : Sem Value) (o0 : Addr → HO) : Prop := ∀ (pins : List (Addr × Obj)) (s : Shared) (σ : St) (H : Hp) (E : Value → Shared → Prop) (Q : Value → Shared → Prop), Inv X pins σ H s →
  (∀ s3 : Shared, (∀ b o, s.heap.get? b = some o → s3.heap.get? b = some o) → Inv X pins σ (upd H s.heap.objs.size (o0 s.heap.objs.size)) s3 → Q (.ref s.heap.objs.size) s3) → wpAny (model X.prog X.w) X.A mk Q E s
theorem new_list {X : Cx} : NewRule X (newList []) (fun _ => .lst []) := by
  intro pins s σ H E Q I h
  refine wpAny_newObj_type ?_
  exact h _ (fun b o e => Heap.get?_push_of_some _ e) (I.laid (t' := s.toks) (fun b u e => Heap.get?_push_of_some _ e) (Nat.le_refl _) ⟨Nat.zero_le _, [], 0, .nil, Heap.get?_push_size _ rfl⟩)
section
variable {X : Cx} {e tg iter : Expr} {ifs : List Expr} {scope esc : Scope} {pos : Pos} {N os : List Str} {fi : List Nat} {wi : TI} {g : TG} {tt : TT} {tb : Addr → TB} {body : Addr → Env → Sem Fi → Sem Fi} {o0 : Addr → HO} {mk : Sem Value} {p : Pos}
theorem comp_coreG {pins : List (Addr × Obj)} {σ : St} {H : Hp} {s : Shared} {E : Value → Shared → Prop} {it : Addr} {fp : List Addr} {tn : Nat → Heap → Prop} {J : It} {Q : VK} {RR : Value → Addr → Result → Shared → Prop} (hc : X.calm = true) (hN : X.N = N) (he : X.env.scope = esc) (B : BlkOk esc scope N fi)
    (hL : LoopRule X.prog X.w X.A e 0) (hS : StartRule X.prog X.w X.A e 0) (hT : ∀ (it D : Addr) (env : Env), compTurn e 0 (.ref it) (.ref D) env = turnOf tg p ifs (.ref it) env (body D env) (again (.compLoop e 0 (.ref it) (.ref D) env)))
    (hmk : NewRule X mk o0)
    (hg : ∀ s H fp, PG (blk X scope (nB N os fi) s H fp) tg g) (ht : ∀ s H fp, PTs (blk X scope (nB N os fi) s H fp) ifs tt) (hb : ∀ D s H fp, PB (blk X scope (nB N os fi) s H fp) (body D (blk X scope (nB N os fi) s H fp).env) (tb D))
    (I : Inv X pins σ H s) (T : Turn X.prog X.w X.K tg J fp it tn) (st : tn 0 s.heap) (hf : ∀ b ∈ fp, FpOk X pins H b) (q : ∀ l, H l = none → LR J g tt (tb l) (sB σ os fi) (upd H l (o0 l)) fun _ H' => Q (.ref l) H')
    (hRR : ∀ D s3 H3 s' σ' H', Inv X pins σ H3 s3 → (∀ b ∈ fp, FpOk X pins H3 b) → Inv (blk X scope (nB N os fi) s3 H3 fp) [] σ' H' s' → Q (.ref D) H' → RR (.ref D) s3.heap.objs.size (.ok .next) s') :
    wpAny (model X.prog X.w) X.A mk (fun acc s3 => wpAny (model X.prog X.w) X.A (newFunctionEnv scope X.env.globals (clOf X.env scope.names []) [] X.env.qual none .none (some X.env)) (fun cenv s4 =>
      codeAny (model X.prog X.w) X.A (.compStart e 0 (.ref it) acc { cenv with scope := relabel scope X.env }) (RR acc cenv.locals) s4) E s3) E s := by
  subst hN
  have fresh : H s.heap.objs.size = none := I.hok.fresh (Nat.le_refl _)
  have old : ∀ b ∈ fp, ∃ o, s.heap.get? b = some o := fun b hb => by
    obtain ⟨o, e, _⟩ := T.obj _ _ st b hb
    exact ⟨o, e⟩
  refine hmk pins s σ H E _ I fun s3 k3 I3 => ?_
  have hf3 : ∀ b ∈ fp, FpOk X pins (upd H s.heap.objs.size (o0 s.heap.objs.size)) b := fun b hb => by
    obtain ⟨o, e⟩ := old b hb
    exact ⟨by rw [upd_ne (Nat.ne_of_lt (Heap.lt_size e))]; exact (hf b hb).1, (hf b hb).2⟩
  have st3 : tn 0 s3.heap := T.keep _ _ _ st fun b hb o e => k3 b o e
  have q3 := q _ fresh
  have ho3 : ∀ b ∈ fp, ∃ o, s3.heap.get? b = some o := fun b hb => by
    obtain ⟨o, e⟩ := old b hb
    exact ⟨o, k3 b o e⟩
  generalize s.heap.objs.size = D at *
  generalize upd H D (o0 D) = H3 at *
  refine wpAny_newFunctionEnv B.nocell (by intro y hy; simp at hy) (fun h4 hn4 sb4 => ?_) B.kind
  have k4 : ∀ b o, s3.heap.get? b = some o → h4.get? b = some o := fun b o e => (sb4.2 b (Nat.ne_of_lt (Heap.lt_size e))).trans (Heap.get?_push_of_some _ e)
  have I4 := blk_inv (os := os) (t1 := s3.toks + ([] : List (Str × Value)).length) B he I3 hf3 ho3 k4 hn4
  have st4 : tn 0 h4 := T.keep _ _ _ st3 fun b hb o e => k4 b o e
  have fpB : ∀ {H' : Hp}, (∀ b ∈ fp, H' b = none) → ∀ b ∈ fp, FpOk (blk X scope (nB X.N os fi) s3 H3 fp) [] H' b := fun hn b hb => by
    refine ⟨hn b hb, (I4.ok.exf b hb).1, I4.ok.exfs b hb, .inl hb, (I4.ok.exf b hb).2, fun p hp => nomatch hp⟩
  have lp := loop_any (Y := blk X scope (nB X.N os fi) s3 H3 fp) (R := RR (.ref D) s3.heap.objs.size) hL hc rfl (hT it D _) (hg s3 H3 fp) (ht s3 H3 fp) (hb D s3 H3 fp) T fpB I4 st4 (fun b hb => (hf3 b hb).1) q3
    fun σ' H' s' I' n' => hRR D s3 H3 s' σ' H' I3 hf3 I' n'
  exact hS _ _ _ _ _ lp (T.self _ 0 _ _ _ st4 lp)
def tCG (o0 : Addr → HO) (os : List Str) (fi : List Nat) (wi : TI) (g : TG) (tt : TT) (tb : Addr → TB) : TE := fun σ H Q => wi σ H fun J H1 => ∀ l, H1 l = none → LR J g tt (tb l) (sB σ os fi) (upd H1 l (o0 l)) fun _ H' => Q (.ref l) H'
theorem pe_compG {gs : List Comprehension} {p' : Pos} (hev : eval e X.env = comprehension e scope X.env p' mk false (eval iter X.env)) (hcl : clausesOf e = ⟨tg, iter, ifs, 0⟩ :: gs) (hc : X.calm = true) (hN : X.N = N) (he : X.env.scope = esc) (B : BlkOk esc scope N fi)
    (hL : LoopRule X.prog X.w X.A e 0) (hS : StartRule X.prog X.w X.A e 0) (hT : ∀ (it D : Addr) (env : Env), compTurn e 0 (.ref it) (.ref D) env = turnOf tg p ifs (.ref it) env (body D env) (again (.compLoop e 0 (.ref it) (.ref D) env)))
    (hmk : NewRule X mk o0) (hi : PI X tg iter wi)
    (hg : ∀ s H fp, PG (blk X scope (nB N os fi) s H fp) tg g) (ht : ∀ s H fp, PTs (blk X scope (nB N os fi) s H fp) ifs tt) (hb : ∀ D s H fp, PB (blk X scope (nB N os fi) s H fp) (body D (blk X scope (nB N os fi) s H fp).env) (tb D))
    (hs : ∀ x, foldedSetIterable iter X.env x = pure x := by intro _; rfl) : PE X e (tCG o0 os fi wi g tt tb) := by
  intro pins s σ H Q I h
  have cells := blk_cells (by rw [hN]; exact B) he I
  rw [hev]
  refine wpAny_comprehension_free (use := none) hcl hs (closure_eq cells) B.kind B.loc (thn (hi pins s σ H _ I h) fun v s1 h1 => thn h1 fun itv s2 h2 => ?_)
  obtain ⟨it, fp, tn, J, H2, rfl, I2, T, st2, f2, q2⟩ := h2
  refine comp_coreG (RR := fun acc C => compPost (model X.prog X.w) X.A X.xe none (EP X pins σ Q) acc C) hc hN he B hL hS hT hmk hg ht hb I2 T st2 f2 q2 ?_
  intro D s3 H3 s' σ' H' I3 f3 I' q
  obtain ⟨m, hn, _⟩ := I'.loc
  exact ⟨m, hn, fun h' sb => ⟨.ref D, H', blk_out I3 f3 I' sb, rfl, q⟩⟩
end
section
variable {X : Cx} {elt tg iter tg2 iter2 : Expr} {ifs ifs2 : List Expr} {scope esc : Scope} {pos : Pos} {N os : List Str} {fi : List Nat} {wi wi2 : TI} {g g2 : TG} {tt tt2 : TT} {te : TE}
end
end L2
namespace L2
open PySem PySem.Spec PyProof.Rows
def ssOf (ks : List Str) : Key → Bool
  | .inr x => decide (x ∈ ks)
  | _ => false
def SetT (P : Program) (w : World) (a : Addr) (ks : List Str) : HO := .ext fun h => h.SetOf (mixKind P w) a (ssOf ks) ks.length
def insT (x : Str) (ks : List Str) : List Str := if x ∈ ks then ks else ks ++ [x]
theorem setT_ok {P : Program} {w : World} {H : Hp} {h : Heap} {a : Addr} {ks : List Str} (x : h.SetOf (mixKind P w) a (ssOf ks) ks.length) : ObjOk P w H h a (SetT P w a ks) :=
  ⟨x, let ⟨o, _, _, _, e, _⟩ := x; ⟨o, e⟩, fun h1 h2 ⟨o, es, ep, t, e, r⟩ k => ⟨o, es, ep, t, k o e, r⟩⟩
theorem ins_eq (x : Str) (ks : List Str) : (fun k' => ssOf ks k' || decide (k' = (.inr x : Key))) = ssOf (insT x ks) := by
  funext k
  cases k with
  | inl i => simp [ssOf]
  | inr y =>
    unfold insT
    by_cases h : x ∈ ks
    · rw [if_pos h]
      simp only [ssOf]
      by_cases e : y = x
      · subst e; simp [h]
      · simp [e]
    · rw [if_neg h]
      simp [ssOf, List.mem_append, Bool.decide_or]
theorem ins_len (x : Str) (ks : List Str) : (if ssOf ks (.inr x) = true then ks.length else ks.length + 1) = (insT x ks).length := by
  unfold insT
  by_cases h : x ∈ ks
  · rw [if_pos h, if_pos (show ssOf ks (.inr x) = true by simp [ssOf, h])]
  · rw [if_neg h, if_neg (by simp [ssOf, h]), List.length_append]; rfl
section
variable {X : Cx} {pins : List (Addr × Obj)} {σ : St} {H : Hp} {s : Shared} {a : Addr} {ks : List Str}
theorem Inv.setOf (I : Inv X pins σ H s) (h : H a = some (SetT X.prog X.w a ks)) : s.heap.SetOf (mixKind X.prog X.w) a (ssOf ks) ks.length := (I.hok a _ h).1
theorem Inv.setPut {h' : Heap} {ks' : List Str} {t' : Nat} (I : Inv X pins σ H s) (h : H a = some (SetT X.prog X.w a ks)) (sb : Heap.SameBut a s.heap h') (n : h'.SetOf (mixKind X.prog X.w) a (ssOf ks') ks'.length) : Inv X pins σ (upd H a (SetT X.prog X.w a ks')) { s with heap := h', toks := t' } :=
  I.write (x := a) (e := a) (by rw [h]; exact trivial) (.inl rfl) (fun b u hb e => (sb.2 b hb).trans e) (let ⟨o, _, _, _, e, _⟩ := n; ⟨o, e⟩) (setT_ok n)
theorem call_set0 : CallR X (.type "set") (fun xs H Q => xs = [] ∧ ∀ p, H p = none → Q (.ref p) (upd H p (SetT X.prog X.w p []))) := by
  intro pins s σ H xs us Q I r h
  obtain ⟨rfl, q⟩ := h
  cases r
  refine call_set_0 fun led => ?_
  have n : (s.heap.push { cls := .type "set", dict := none, data := .set #[] 0 (.fresh 0 0 led) }).SetOf (mixKind X.prog X.w) s.heap.objs.size (ssOf []) ([] : List Str).length :=
    ⟨_, #[], 0, _, Heap.get?_push_size _ rfl, ⟨rfl, rfl, rfl⟩, rfl, fun e he => by simp at he, fun k => by cases k <;> simp [ssOf], by decide, by rfl, rfl⟩
  exact ⟨.ref s.heap.objs.size, _, I.laid (t' := s.toks) (fun b u e => Heap.get?_push_of_some _ e) (Nat.le_refl _) (setT_ok n), rfl, q _ I.fresh⟩
theorem boot_set : bootBuiltins "set" = some (.type "set") := by decide +kernel
def rInS (P : Program) (w : World) (neg : Bool) : R2 := fun x y H Q => ∃ z a ks, x = .str z ∧ y = .ref a ∧ H a = some (SetT P w a ks) ∧ Q (.bl (if neg then !decide (z ∈ ks) else decide (z ∈ ks))) H
theorem op_in_set : OpR X (compareOp .In) (rInS X.prog X.w false) := by
  intro pins s σ H x y v u Q I rx ry h
  obtain ⟨z, a, ks, rfl, rfl, ha, q⟩ := h
  obtain ⟨t, rfl⟩ := rx
  cases ry
  exact wpAny_inSet_of (mixKind_str _ _ z t) rfl (I.setOf ha) ⟨.bl _, H, I.tok _, rfl, q⟩
def rAddS (P : Program) (w : World) : V → List V → Hp → VK → Prop := fun x xs H Q => ∃ a z ks, x = .ref a ∧ xs = [.str z] ∧ H a = some (SetT P w a ks) ∧ ks.length + 1 < 4096 ∧ Q .non (upd H a (SetT P w a (insT z ks)))
theorem mt_setadd : MtR X "set.add" (rAddS X.prog X.w) := by
  intro pins s σ H x xs v us Q I rx rv h
  obtain ⟨a, z, ks, rfl, rfl, ha, hz, q⟩ := h
  cases rx
  obtain ⟨u, rfl, t, rfl⟩ := vals1 rv
  refine call_set_add (mixKind_str _ _ z t) rfl (I.setOf ha) hz fun h' sb n => ?_
  rw [ins_eq, ins_len] at n
  exact ⟨.non, _, I.setPut ha sb n, rfl, q⟩
end
def tAddS (P : Program) (w : World) (to : TE) (t : TA) : TE := fun σ H Q => to σ H fun x H1 => (∃ a ks, x = .ref a ∧ H1 a = some (SetT P w a ks)) ∧ t σ H1 fun xs H2 => rAddS P w x xs H2 Q
theorem pe_setadd {X : Cx} {o e : Expr} {to : TE} {t : TA} {apos cpos : Pos} (ho : PE X o to) (ha : PA X [e] t)
    (hbase : attributeBase o "add" X.env (eval o X.env) = eval o X.env := by rfl)
    (hfew : ((backTo cpos (starEach [e] X.env)).all (fun x => !x.1) && (backToKw cpos (keywordEach [] X.env)).all (fun x => x.1.isSome)
      && decide ([e].length + ([] : List Keyword).length + (if ([] : List Keyword).isEmpty then 0 else 1) < 30)) = true := by rfl)
    (hline : (apos.endLine == cpos.line) = true := by rfl) (hs : starEach [e] X.env = (false, eval e X.env) :: starEach [] X.env := by rfl) (hplain : (backTo cpos (starEach [] X.env)).any (·.1) = false := by rfl) :
    PE X (.Call (.Attribute o "add" apos) [e] [] cpos) (tAddS X.prog X.w to t) := by
  intro pins s σ H Q I h
  refine wpAny_Call_method_late hbase hfew hline rfl (thn (ho pins s σ H _ I h) fun v s1 ⟨x, H1, I1, r1, ⟨a, ks, ea, hA⟩, q1⟩ => ?_)
  subst ea
  cases r1
  have S := I1.setOf hA
  refine ⟨"set", "set.add", F.plainAttrs_set, F.slot_set_add, F.type_set_add, S.typeIs, S.noDict, ?_⟩
  have hA := ha cpos pins s1 σ H1 _ I1 q1
  rw [hs] at hA ⊢
  refine Calls.callWith_builtin (by show (false || (backTo cpos (starEach [] X.env)).any (·.1)) = false; rw [hplain] <;> rfl) (Calls.evalArgs_plain ?_)
  exact thn hA fun us s2 ⟨vs, H2, I2, r2, q2⟩ => mt_setadd pins s2 σ H2 (.ref a) vs _ us Q I2 rfl r2 q2
section
variable {X : Cx} {elt tg iter : Expr} {ifs : List Expr} {scope esc : Scope} {pos : Pos} {N os : List Str} {fi : List Nat} {wi : TI} {g : TG} {tt : TT} {te : TE}
end
end L2
namespace L2
open PySem PySem.Spec PyProof.Rows
section
variable {X : Cx} {tg : Expr}
end
end L2
namespace L2
open PySem PySem.Spec PyProof.Rows
inductive TopR (K : PySem.W.Frag) (H : Hp) (R : V → V → Bool → Prop) : V → V → Bool → Prop where
  | lsts {a c : Addr} {xs ys : List V} (e : Nat → Bool) (ha : SqL K H a xs) (hc : SqL K H c ys) (hl : xs.length = ys.length) (h : ∀ j x y, xs[j]? = some x → ys[j]? = some y → R x y (e j)) : TopR K H R (.ref a) (.ref c) ((List.range xs.length).all e)
  | lens {a c : Addr} {xs ys : List V} (ha : SqL K H a xs) (hc : SqL K H c ys) (hl : xs.length ≠ ys.length) : TopR K H R (.ref a) (.ref c) false
  | tups {a c : Addr} {xs ys : List V} (e : Nat → Bool) (ha : SqT K H a xs) (hc : SqT K H c ys) (h : ∀ j x y, xs[j]? = some x → ys[j]? = some y → R x y (e j)) : TopR K H R (.ref a) (.ref c) ((List.range (min xs.length ys.length)).all e && xs.length == ys.length)
def EqD (K : PySem.W.Frag) (H : Hp) : Nat → V → V → Bool → Prop
  | 0, x, y, b => (flatV x = true ∧ flatV y = true ∧ b = eqV x y) ∨ ∃ a, x = .ref a ∧ y = .ref a ∧ b = true
  | n + 1, x, y, b => ((flatV x = true ∧ flatV y = true ∧ b = eqV x y) ∨ ∃ a, x = .ref a ∧ y = .ref a ∧ b = true) ∨ ∃ a c, x = .ref a ∧ y = .ref c ∧ a ≠ c ∧ TopR K H (EqD K H n) x y b
section
variable {X : Cx} {pins : List (Addr × Obj)} {σ : St} {H : Hp} {s : Shared}
theorem items_R {R : V → V → Bool → Prop} {A : Around} {xs ys : List V} {us vs : List Value} {e : Nat → Bool} (hR : ∀ x y b u v, R x y b → RelV x u → RelV y v → SeqAt.EqAt A s u v b) (r1 : Vals xs us) (r2 : Vals ys vs) (h : ∀ j x y, xs[j]? = some x → ys[j]? = some y → R x y (e j)) :
    ∀ j (h1 : j < us.toArray.size) (h2 : j < vs.toArray.size), SeqAt.EqAt A s us.toArray[j] vs.toArray[j] (e j) := fun j h1 h2 => by
  have l1 : j < xs.length := by rw [r1.length]; simpa using h1
  have l2 : j < ys.length := by rw [r2.length]; simpa using h2
  obtain ⟨u, q1, z1⟩ := r1.get (i := j) (x := xs[j]) (by simp [l1])
  obtain ⟨v, q2, z2⟩ := r2.get (i := j) (x := ys[j]) (by simp [l2])
  have e1 : us.toArray[j] = u := by
    have : us[j]? = some us.toArray[j] := by simp
    rw [this] at q1; exact Option.some.inj q1
  have e2 : vs.toArray[j] = v := by
    have : vs[j]? = some vs.toArray[j] := by simp
    rw [this] at q2; exact Option.some.inj q2
  rw [e1, e2]
  exact hR _ _ _ _ _ (h j _ _ (by simp [l1]) (by simp [l2])) z1 z2
theorem top_at {R : V → V → Bool → Prop} {A : Around} {x y : V} {b : Bool} {u v : Value} (I : Inv X pins σ H s) (hu : A.units < cLine) (hR : ∀ x y b u v, R x y b → RelV x u → RelV y v → SeqAt.EqAt A.in1 s u v b) (h : TopR X.K H R x y b) (rx : RelV x u) (ry : RelV y v) : SeqAt.RcAt A s u v b := by
  cases h with
  | lsts e ha hc hl h =>
    cases rx
    cases ry
    obtain ⟨its, r1, p1, _⟩ := I.list ha
    obtain ⟨its2, r2, p2, _⟩ := I.list hc
    have z := SeqAt.RcAt.lists (A := A) p1.isList p2.isList (by rw [List.size_toArray, List.size_toArray, ← r1.length, ← r2.length]; exact hl) hu (items_R hR r1 r2 h)
    rw [List.size_toArray, ← r1.length] at z
    exact z
  | lens ha hc hl =>
    cases rx
    cases ry
    obtain ⟨its, r1, p1, _⟩ := I.list ha
    obtain ⟨its2, r2, p2, _⟩ := I.list hc
    exact SeqAt.RcAt.lists_lengths (A := A) p1.isList p2.isList (by rw [List.size_toArray, List.size_toArray, ← r1.length, ← r2.length]; simpa using hl) hu
  | tups e ha hc h =>
    cases rx
    cases ry
    obtain ⟨its, r1, p1, _⟩ := I.tuple ha
    obtain ⟨its2, r2, p2, _⟩ := I.tuple hc
    have z := SeqAt.RcAt.tuples (A := A) (show s.heap.IsTuple _ its.toArray from p1) (show s.heap.IsTuple _ its2.toArray from p2) hu (items_R hR r1 r2 h)
    rw [List.size_toArray, List.size_toArray, ← r1.length, ← r2.length] at z
    exact z
theorem flat_at {A : Around} {x y : V} {b : Bool} {u v : Value} (h : (flatV x = true ∧ flatV y = true ∧ b = eqV x y) ∨ ∃ a, x = .ref a ∧ y = .ref a ∧ b = true) (rx : RelV x u) (ry : RelV y v) : SeqAt.EqAt A s u v b := by
  rcases h with ⟨f1, f2, rfl⟩ | ⟨a, rfl, rfl, rfl⟩
  · exact eqAt_V rx ry f1 f2
  · cases rx
    cases ry
    exact SeqAt.EqAt.same _
theorem eqd_at (I : Inv X pins σ H s) : ∀ (n : Nat) (A : Around), A.units + n < cLine → ∀ (x y : V) (b : Bool) (u v : Value), EqD X.K H n x y b → RelV x u → RelV y v → SeqAt.EqAt A s u v b
  | 0, A, hu, x, y, b, u, v, h, rx, ry => flat_at h rx ry
  | n + 1, A, hu, x, y, b, u, v, h, rx, ry => by
    rcases h with h | ⟨a, c, rfl, rfl, ne, h⟩
    · exact flat_at h rx ry
    · cases rx
      cases ry
      exact SeqAt.EqAt.of_refs ne (top_at I (by omega) (eqd_at I n A.in1 (by show A.units + 1 + n < cLine; omega)) h rfl rfl)
def rEqD (K : PySem.W.Frag) (neg : Bool) : R2 := fun x y H Q => ∃ n b, n ≤ 40 ∧ TopR K H (EqD K H n) x y b ∧ Q (.bl (if neg then !b else b)) H
theorem op_eqD (hu : X.A.units + 60 < cLine) : OpR X (compareOp .Eq) (rEqD X.K false) := by
  intro pins s σ H x y v u Q I rx ry h
  obtain ⟨n, b, hn, h, q⟩ := h
  exact top_at I (by omega) (eqd_at I n X.A.in1 (by show X.A.units + 1 + n < cLine; omega)) h rx ry _ _ _ _ ⟨.bl _, H, I, rfl, q⟩
theorem op_neD (hu : X.A.units + 60 < cLine) : OpR X (compareOp .NotEq) (rEqD X.K true) := by
  intro pins s σ H x y v u Q I rx ry h
  obtain ⟨n, b, hn, h, q⟩ := h
  have hR := eqd_at I n X.A.in1 (by show X.A.units + 1 + n < cLine; omega)
  have hu' : X.A.units < cLine := by omega
  cases h with
  | lsts e ha hc hl h =>
    cases rx
    cases ry
    obtain ⟨its, r1, p1, _⟩ := I.list ha
    obtain ⟨its2, r2, p2, _⟩ := I.list hc
    refine SeqAt.RcNeAt.lists (A := X.A) p1.isList p2.isList (by rw [List.size_toArray, List.size_toArray, ← r1.length, ← r2.length]; exact hl) hu' (items_R hR r1 r2 h) _ _ _ _ ?_
    rw [List.size_toArray, ← r1.length]
    exact ⟨.bl _, H, I, rfl, q⟩
  | lens ha hc hl =>
    cases rx
    cases ry
    obtain ⟨its, r1, p1, _⟩ := I.list ha
    obtain ⟨its2, r2, p2, _⟩ := I.list hc
    exact SeqAt.RcNeAt.lists_lengths (A := X.A) p1.isList p2.isList (by rw [List.size_toArray, List.size_toArray, ← r1.length, ← r2.length]; simpa using hl) hu' _ _ _ _ ⟨.bl _, H, I, rfl, q⟩
  | tups e ha hc h =>
    cases rx
    cases ry
    obtain ⟨its, r1, p1, _⟩ := I.tuple ha
    obtain ⟨its2, r2, p2, _⟩ := I.tuple hc
    refine SeqAt.RcNeAt.tuples (A := X.A) (show s.heap.IsTuple _ its.toArray from p1) (show s.heap.IsTuple _ its2.toArray from p2) hu' (items_R hR r1 r2 h) _ _ _ _ ?_
    rw [List.size_toArray, List.size_toArray, ← r1.length, ← r2.length]
    exact ⟨.bl _, H, I, rfl, q⟩
end
theorem Room.units60 {k : Nat} {A : Around} (r : Room k A) : A.units + 60 < cLine := by have := r.un; omega
end L2
namespace L2
open PySem PySem.Spec PyProof.Rows
def HF (q : Program) : List Str → Prop
  | [] => True
  | n :: ns => (∃ d, (recsOf q).find? (fun e => e.name == n) = some d) ∧ HF q ns
def HC (K : PySem.W.Frag) : List Str → Prop
  | [] => True
  | n :: ns => (∃ f c T fd, CodeN K n f c T fd) ∧ HC K ns
def HT0 (K : PySem.W.Frag) : List Str → Prop
  | [] => True
  | n :: ns => K.lookup (tbOf K n) = none ∧ HT0 K ns
theorem HF.mem {q : Program} : ∀ {ns : List Str}, HF q ns → ∀ n ∈ ns, ∃ d, (recsOf q).find? (fun e => e.name == n) = some d
  | [], _, n, h => nomatch h
  | _ :: _, h, n, hn => by
    rcases List.mem_cons.mp hn with rfl | hn
    · exact h.1
    · exact HF.mem h.2 n hn
theorem HC.mem {K : PySem.W.Frag} : ∀ {ns : List Str}, HC K ns → ∀ n ∈ ns, ∃ f c T fd, CodeN K n f c T fd
  | [], _, n, h => nomatch h
  | _ :: _, h, n, hn => by
    rcases List.mem_cons.mp hn with rfl | hn
    · exact h.1
    · exact HC.mem h.2 n hn
theorem HT0.mem {K : PySem.W.Frag} : ∀ {ns : List Str}, HT0 K ns → ∀ n ∈ ns, K.lookup (tbOf K n) = none
  | [], _, n, h => nomatch h
  | _ :: _, h, n, hn => by
    rcases List.mem_cons.mp hn with rfl | hn
    · exact h.1
    · exact HT0.mem h.2 n hn
theorem walk_ofN (names : List Str) {l : PySem.W.OpenLaw} {n k : Nat} {q : Program} {loose : List Str} {XP : (Str → Option Value) → Heap → Prop} {YP : World → Heap → Prop} {d : DefRec} {K : Params → PySem.W.Frag} {CX : World → CXT} {sp : World → Sp} {x : Str}
    (hn : l.most = some n) (hn2 : n ≤ sizeLine) (hdf : d.params.defaults = []) (hr : Room k callerA)
    (hY : ∀ (w : World) (h : Heap), YP w h → (K w.params).In h) (hf : HF q names) (hC : ∀ w : World, HC (K w.params) names) (hKT : ∀ w : World, HT0 (K w.params) names)
    (F : ∀ (w : World) (mg : Str → Option Value) (fa : Addr) (h : Heap), (K w.params).In h → h.Ns mainGlobals mg → mg d.name = some (.ref fa) →
      ∃ fd : FuncData, (∀ (s : Shared) (u : Value), BindsTo s fd ⟨[u], []⟩ [(x, u)]) ∧
        ∀ base : Heap, (K w.params).In base → base.Ns mainGlobals mg → BmOf mg base → FnOk l.prog w (K w.params) mg base (CX w) k fa fd [x] (sp w))
    (hsp : ∀ (w : World) (H : Hp) (a : Addr) (ns : List Int), ns.length ≤ n → (∀ m ∈ names, H (tbOf (K w.params) m) = some (.tbl #[])) → SqL (K w.params) H a (ns.map V.int) → sp w [.ref a] H (fun v _ => v = .bl true) fun _ _ _ => False)
    (hCX : ∀ (w : World) (H : Hp) (s : Shared) (e : Value) (s' : Shared), CX w [] H s (fun _ _ _ => False) e s' → False) :
    PySem.W.WalkO q loose XP YP l.row.toRowW d [] (fun f vs => PySem.call f vs) := by
  refine walk_ofT (Ts := fun w => names.map fun m => (cdOf (K w.params) m, tbOf (K w.params) m)) hn hn2 hdf hr hY ?_ ?_ F ?_ hCX
  · intro w h lo mean mg mb KX Tp t ht
    obtain ⟨m, hm, rfl⟩ := List.mem_map.mp ht
    obtain ⟨f, c, T, fd, C⟩ := (hC w).mem m hm
    obtain ⟨d, hd⟩ := hf.mem m hm
    exact C.tab KX Tp hd
  · intro w t ht
    obtain ⟨m, hm, rfl⟩ := List.mem_map.mp ht
    exact (hKT w).mem m hm
  · intro w H a ns hl hO hS
    exact hsp w H a ns hl (fun m hm => hO.tab _ (List.mem_map.mpr ⟨m, hm, rfl⟩)) hS
end L2
namespace L2
open PySem PySem.Spec PyProof.Rows
section
variable {κ : Type} [DecidableEq κ]
def valV (kvs : List (κ × V)) (k : κ) : Option V := (kvs.find? fun kv => decide (kv.1 = k)).map (·.2)
def putK (kvs : List (κ × V)) (k : κ) (v : V) : List (κ × V) :=
  if (kvs.any fun kv => decide (kv.1 = k)) = true then kvs.map (fun kv => if kv.1 = k then (kv.1, v) else kv) else kvs ++ [(k, v)]
theorem valV_pos {p : κ × V} {r : List (κ × V)} {k : κ} (e : p.1 = k) : valV (p :: r) k = some p.2 := by simp [valV, List.find?_cons, e]
theorem valV_neg {p : κ × V} {r : List (κ × V)} {k : κ} (e : ¬ p.1 = k) : valV (p :: r) k = valV r k := by simp [valV, List.find?_cons, e]
theorem valV_any (k : κ) : ∀ kvs : List (κ × V), (kvs.any fun kv => decide (kv.1 = k)) = (valV kvs k).isSome
  | [] => rfl
  | p :: r => by
    rw [List.any_cons]
    by_cases e : p.1 = k
    · simp only [valV_pos e, decide_eq_true e, Bool.true_or, Option.isSome_some]
    · rw [valV_neg e, decide_eq_false e, Bool.false_or]; exact valV_any k r
theorem valV_map (k j : κ) (y : V) : ∀ kvs : List (κ × V), valV (kvs.map fun kv => if kv.1 = k then (kv.1, y) else kv) j = (valV kvs j).map fun x => if j = k then y else x
  | [] => rfl
  | p :: r => by
    have ih := valV_map k j y r
    rw [List.map_cons]
    by_cases h : p.1 = k
    · rw [if_pos h]
      by_cases e : p.1 = j
      · rw [valV_pos (p := (p.1, y)) e, valV_pos e, Option.map_some, if_pos (e.symm.trans h)]
      · rw [valV_neg (p := (p.1, y)) e, valV_neg e, ih]
    · rw [if_neg h]
      by_cases e : p.1 = j
      · rw [valV_pos (p := p) e, valV_pos e, Option.map_some, if_neg (fun z => h (e.trans z))]
      · rw [valV_neg (p := p) e, valV_neg e, ih]
theorem valV_snoc (k j : κ) (y : V) : ∀ kvs : List (κ × V), valV kvs k = none → valV (kvs ++ [(k, y)]) j = if j = k then some y else valV kvs j
  | [], _ => by
    by_cases e : k = j
    · rw [if_pos e.symm]; exact valV_pos (p := (k, y)) e
    · rw [if_neg (fun z => e z.symm)]; exact valV_neg (p := (k, y)) e
  | p :: r, hn => by
    rw [List.cons_append]
    have hk : ¬ p.1 = k := fun z => by rw [valV_pos z] at hn; cases hn
    rw [valV_neg hk] at hn
    have ih := valV_snoc k j y r hn
    by_cases e : p.1 = j
    · rw [valV_pos e, valV_pos e, if_neg (fun z => hk (e.trans z))]
    · rw [valV_neg e, valV_neg e, ih]
theorem valV_put (kvs : List (κ × V)) (k j : κ) (y : V) : valV (putK kvs k y) j = if j = k then some y else valV kvs j := by
  unfold putK
  by_cases a : (kvs.any fun kv => decide (kv.1 = k)) = true
  · rw [if_pos a, valV_map]
    rw [valV_any] at a
    by_cases e : j = k
    · obtain ⟨x, hx⟩ := Option.isSome_iff_exists.mp a
      rw [if_pos e, e, hx, Option.map_some, if_pos rfl]
    · rw [if_neg e]
      cases valV kvs j with
      | none => rfl
      | some x => rw [Option.map_some, if_neg e]
  · rw [if_neg a]
    refine valV_snoc k j y kvs ?_
    rw [valV_any] at a
    cases q : valV kvs k with
    | none => rfl
    | some x => rw [q] at a; exact (a rfl).elim
theorem length_putK (kvs : List (κ × V)) (k : κ) (v : V) : (putK kvs k v).length ≤ kvs.length + 1 := by
  unfold putK
  split
  · rw [List.length_map]; omega
  · rw [List.length_append, List.length_cons, List.length_nil]; omega
theorem putK_new {kvs : List (κ × V)} {k : κ} (v : V) (h : valV kvs k = none) : putK kvs k v = kvs ++ [(k, v)] := by
  unfold putK
  rw [valV_any, h]
  exact if_neg (by decide)
theorem KV.val {kvs : List (κ × V)} {vs : List (κ × Value)} (r : KV kvs vs) (k : κ) : RelO (valV kvs k) (valueAt vs k) := by
  unfold KV at r
  induction r with
  | nil => exact True.intro
  | @cons p q ps qs h t ih =>
    obtain ⟨h1, h2⟩ := h
    by_cases e : p.1 = k
    · have e' : q.1 = k := h1.symm.trans e
      have b : valueAt (q :: qs) k = some q.2 := by simp [valueAt, List.find?_cons, e']
      rw [valV_pos e, b]; exact h2
    · have e' : ¬ q.1 = k := fun z => e (h1.trans z)
      have b : valueAt (q :: qs) k = valueAt qs k := by simp [valueAt, List.find?_cons, e']
      rw [valV_neg e, b]; exact ih
theorem KV.any {kvs : List (κ × V)} {vs : List (κ × Value)} (r : KV kvs vs) (k : κ) : (kvs.any fun kv => decide (kv.1 = k)) = vs.any fun kv => decide (kv.1 = k) := by
  unfold KV at r
  induction r with
  | nil => rfl
  | cons h t ih => rw [List.any_cons, List.any_cons, ih, h.1]
theorem KV.repl {kvs : List (κ × V)} {vs : List (κ × Value)} (r : KV kvs vs) (k : κ) {y : V} {u : Value} (ry : RelV y u) :
    KV (kvs.map fun kv => if kv.1 = k then (kv.1, y) else kv) (vs.map fun kv => if kv.1 = k then (kv.1, u) else kv) := by
  unfold KV at r ⊢
  induction r with
  | nil => exact .nil
  | @cons p q ps qs h t ih =>
    rw [List.map_cons, List.map_cons]
    refine .cons ?_ ih
    obtain ⟨h1, h2⟩ := h
    by_cases e : p.1 = k
    · rw [if_pos e, if_pos (h1.symm.trans e)]; exact ⟨h1, ry⟩
    · rw [if_neg e, if_neg (fun z => e (h1.trans z))]; exact ⟨h1, h2⟩
theorem KV.put {kvs : List (κ × V)} {vs : List (κ × Value)} (r : KV kvs vs) (k : κ) {y : V} {u : Value} (ry : RelV y u) : KV (putK kvs k y) (stored vs k u) := by
  unfold putK stored
  rw [r.any k]
  by_cases e : (vs.any fun kv => decide (kv.1 = k)) = true
  · rw [if_pos e, if_pos e]; exact r.repl k ry
  · rw [if_neg e, if_neg e]; exact Paired.snoc r ⟨rfl, ry⟩
theorem KV.length {kvs : List (κ × V)} {vs : List (κ × Value)} (r : KV kvs vs) : kvs.length = vs.length := Paired.length r
end
theorem kV_is {P : Program} {w : World} {k : Key} {u : Value} (r : RelV (kV k) u) : (mixKind P w).is k u = true := by
  cases k with
  | inl i => obtain ⟨t, e⟩ := (show ∃ t, u = Value.int i t from r); subst e; exact mixKind_int P w i t
  | inr x => obtain ⟨t, e⟩ := (show ∃ t, u = Value.str x t from r); subst e; exact mixKind_str P w x t
theorem items_are {P : Program} {w : World} : ∀ {ks : List Key} {us : List Value}, Vals (ks.map kV) us → ItemsAre (mixKind P w) ks us
  | [], _, r => by rw [List.map_nil] at r; cases r; exact .nil
  | k :: ks, _, r => by
    rw [List.map_cons] at r
    cases r with
    | cons h t => exact .cons (kV_is h) (items_are t)
abbrev KT (H : Hp) : List (List Key × V) → List (List Key × Addr × Value) → Prop := Paired fun p q => p.1 = q.1 ∧ H q.2.1 = some (.tup (p.1.map kV)) ∧ RelV p.2 q.2.2
theorem KT.val {H : Hp} {kvs : List (List Key × V)} {xs : List (List Key × Addr × Value)} (r : KT H kvs xs) (k : List Key) : RelO (valV kvs k) ((atKey xs k).map (·.2)) := by
  induction r with
  | nil => exact True.intro
  | @cons p q ps qs h t ih =>
    obtain ⟨h1, _, h2⟩ := h
    by_cases e : p.1 = k
    · have e' : q.1 = k := h1.symm.trans e
      have b : atKey (q :: qs) k = some q.2 := by simp [atKey, List.find?_cons, e']
      rw [valV_pos e, b]; exact h2
    · have e' : ¬ q.1 = k := fun z => e (h1.trans z)
      have b : atKey (q :: qs) k = atKey qs k := by simp [atKey, List.find?_cons, e']
      rw [valV_neg e, b]; exact ih
section
variable {P : Program} {w : World} {H : Hp} {h : Heap} {a : Addr}
theorem rd_of {u : HO} (ok : HOk P w H h) (e : Rd H a u) : ObjOk P w H h a u := e.ok ok
theorem dk_rd {kvs : List (Key × V)} (ok : HOk P w H h) (e : Rd H a (.dK kvs)) : kvs.length ≤ sizeLine ∧ (a == sysModules) = false ∧ ∃ vs, KV kvs vs ∧ h.DictOf (mixKind P w) a vs :=
  show ObjOk P w H h a (.dK kvs) from rd_of ok e
theorem dk_of {kvs : List (Key × V)} (ok : HOk P w H h) (e : H a = some (.dK kvs)) : kvs.length ≤ sizeLine ∧ (a == sysModules) = false ∧ ∃ vs, KV kvs vs ∧ h.DictOf (mixKind P w) a vs := dk_rd ok (.inl e)
theorem key_of {ks : List Key} (ok : HOk P w H h) (e : H a = some (.tup (ks.map kV))) : (tupleKind (mixKind P w)).is h ks a := by
  obtain ⟨_, its, r, o, h1, h2, n, h3⟩ := (show ObjOk P w H h a (.tup (ks.map kV)) from ok a _ e)
  exact ⟨o, its.toArray, n, h1, h2, h3, by simpa using items_are r⟩
theorem dt_rd {kvs : List (List Key × V)} (ok : HOk P w H h) (e : Rd H a (.dT kvs)) : kvs.length ≤ sizeLine ∧ (a == sysModules) = false ∧
    ∃ xs, KT H kvs xs ∧ h.DictOfH (tupleKind (mixKind P w)) a xs := by
  obtain ⟨z, y, xs, r, o, es, ep, h1, h2, h3, h4, h5⟩ := (show ObjOk P w H h a (.dT kvs) from rd_of ok e)
  refine ⟨z, y, xs, r, o, es, ep, h1, h2, h3, h4, fun x hx => ?_, h5⟩
  have all : ∀ {l : List (List Key × V)} {m : List (List Key × Addr × Value)}, KT H l m → ∀ x ∈ m, (tupleKind (mixKind P w)).is h x.1 x.2.1 := by
    intro l m q
    induction q with
    | nil => intro x hx; exact nomatch hx
    | @cons p q ps qs hq t ih =>
      intro x hx
      rcases List.mem_cons.mp hx with e | hx
      · subst e
        exact key_of ok (by rw [← hq.1]; exact hq.2.1)
      · exact ih x hx
  exact all r x hx
end
def DGet (H : Hp) (a : Addr) (y : V) (r : Option V) : Prop :=
  (∃ kvs k, Rd H a (.dK kvs) ∧ y = kV k ∧ r = valV kvs k) ∨ ∃ kvs k b, Rd H a (.dT kvs) ∧ y = .ref b ∧ H b = some (.tup (k.map kV)) ∧ r = valV kvs k
theorem DGet.k {H : Hp} {a : Addr} {kvs : List (Key × V)} {k : Key} (e : H a = some (.dK kvs)) : DGet H a (kV k) (valV kvs k) := .inl ⟨kvs, k, .inl e, rfl, rfl⟩
section
variable {X : Cx} {pins : List (Addr × Obj)} {σ : St} {H : Hp} {s : Shared} {a : Addr} {y v : V} {u r : Value} {o : Option V} {A : Around} {E : Value → Shared → Prop}
theorem d_getItem {Q : Value → Shared → Prop} (hu : A.units + 1 < cLine) (I : Inv X pins σ H s) (g : DGet H a y (some v)) (ry : RelV y u) (h : ∀ w' s', Inv X pins σ H s' → RelV v w' → Q w' s') :
    wpAny (model X.prog X.w) A (getItem (.ref a) u) Q E s := by
  rcases g with ⟨kvs, k, e, ey, l⟩ | ⟨kvs, k, b, e, ey, eb, l⟩
  · subst ey
    obtain ⟨z, hd, vs, rel, dd⟩ := dk_rd I.hok e
    obtain ⟨w', hw, rw'⟩ := RelO.some_of (v := v) (o := valueAt vs k) (by rw [l]; exact rel.val k)
    exact wpAny_getItem_of (kV_is ry) dd.mapOf hw (h w' _ (I.tok _) rw')
  · subst ey
    cases (show u = Value.ref b from ry)
    obtain ⟨z, hd, xs, rel, dd⟩ := dt_rd I.hok e
    obtain ⟨w', hw, rw'⟩ := RelO.some_of (v := v) (o := (atKey xs k).map (·.2)) (by rw [l]; exact rel.val k)
    obtain ⟨p, hp, hp2⟩ := Option.map_eq_some_iff.mp hw
    refine wpAny_getItem_heap (tupleKind_room_in1 hu) (key_of I.hok eb) dd hp ?_
    rw [hp2]
    exact h w' _ (I.tok _) rw'
theorem d_write {h' : Heap} {t' : Nat} {ob : HO} (I : Inv X pins σ H s) (mu : Mut (H a)) (hs : Heap.SameBut a s.heap h') (he : ∃ q, h'.get? a = some q) (new : ObjOk X.prog X.w (upd H a ob) h' a ob) :
    Inv X pins σ (upd H a ob) { s with heap := h', toks := t' } :=
  I.write (x := a) (e := a) mu (.inl rfl) (fun b q hb z => (hs.2 b hb).trans z) he new
theorem dk_new {P : Program} {w : World} {H' : Hp} {h' : Heap} {kvs : List (Key × V)} {vs : List (Key × Value)} (z : kvs.length ≤ sizeLine) (hd : (a == sysModules) = false) (rel : KV kvs vs) (dd : h'.DictOf (mixKind P w) a vs) :
    ObjOk P w H' h' a (.dK kvs) := ⟨z, hd, vs, rel, dd⟩
end
section
variable {X : Cx} {pins : List (Addr × Obj)} {σ : St} {H : Hp} {s : Shared} {a : Addr} {kvs : List (Key × V)} {k : Key} {u : Value} {A : Around} {E : Value → Shared → Prop}
end
def NoSl (i : Expr) : Prop := ∀ ov iv, subscripted i false ov iv = operate [ov, iv] (getItem ov iv)
theorem subD_of {prog : Program} {w : World} {A : Around} {E : Value → Shared → Prop} {s : Shared} {env : Env} {value slice : Expr} {pos : Pos} {T id : String} {Q : Value → Shared → Prop}
    (hl : typeLookup (.type T) "__getitem__" = pure (some (.builtin id))) (hs : NoSl slice)
    (h : wpAny (model prog w) A (eval value env) (fun o s₁ => wpAny (model prog w) A (eval slice env) (fun i s₂ => s₂.TypeIs o T ∧ wpAny (model prog w) A (getItem o i) Q E s₂) E s₁) E s) :
    wpAny (model prog w) A (eval (.Subscript value slice pos) env) Q E s := by
  refine Subscript_ (wpAny_mono h (fun o s₁ h₁ => wpAny_mono h₁ (fun i s₂ h₂ => ?_) fun _ _ x => x) fun _ _ x => x)
  obtain ⟨hT, h₂⟩ := h₂
  unfold subscriptTail
  refine wpAny_bind ?_
  rw [getitemInPython_of_ne hT.not_modules]
  refine wpAny_bind (wpAny_specialOf hT hl ?_)
  have fin : wpAny (model prog w) A (subscripted slice false o i) (fun r s₃ => wpAny (model prog w) A (letTemporaryGo value o r >>= fun _ => pure r) Q E s₃) E s₂ := by
    rw [hs o i]
    exact wpAny_operating (wpAny_mono h₂ (fun r s₃ h₃ => wpAny_bind (wpAny_letTemporaryGo (wpAny_pure h₃))) fun _ _ x => x)
  first
    | exact wpAny_pure (wpAny_bind fin)
    | exact wpAny_bind (wpAny_pure (wpAny_bind fin))
    | exact wpAny_bind fin
theorem dict_typeIs {X : Cx} {pins : List (Addr × Obj)} {σ : St} {H : Hp} {s : Shared} {a : Addr} {y : V} {o : Option V} (I : Inv X pins σ H s) (g : DGet H a y o) : s.TypeIs (.ref a) "dict" := by
  rcases g with ⟨kvs, k, e, _, _⟩ | ⟨kvs, k, b, e, _, _, _⟩
  · obtain ⟨_, _, vs, _, dd⟩ := dk_rd I.hok e
    exact dd.typeIs
  · obtain ⟨_, _, xs, _, dd⟩ := dt_rd I.hok e
    exact dd.typeIs
def tDGet (td ty : TE) : TE := fun σ H Q => td σ H fun x H1 => ty σ H1 fun y H2 => ∃ a v, x = .ref a ∧ DGet H2 a y (some v) ∧ Q v H2
section
variable {X : Cx} {o i e value : Expr} {pos pos' tpos : Pos} {td ty tv : TE}
theorem pe_dget (hu : X.A.units + 1 < cLine) (ho : PE X o td) (hi : PE X i ty) (hs : NoSl i) : PE X (.Subscript o i pos) (tDGet td ty) := by
  intro pins s σ H Q I h
  refine subD_of PySem.F.slot_dict_getitem.lookup hs (thn (ho pins s σ H _ I h) fun u s1 ⟨x, H1, I1, rx, q1⟩ => thn (hi pins s1 σ H1 _ I1 q1) fun iv s2 ⟨y, H2, I2, ry, a, v, ex, g, q2⟩ => ?_)
  subst ex
  obtain rfl : u = Value.ref a := rx
  exact ⟨dict_typeIs I2 g, d_getItem hu I2 g ry fun w' s3 I3 rw' => ⟨v, H2, I3, rw', q2⟩⟩
end
section
variable {X : Cx} {pos : Pos}
end
section
variable {X : Cx} {pins : List (Addr × Obj)} {σ : St} {H : Hp} {s : Shared} {a : Addr} {y d : V} {u r : Value} {o : Option V} {A : Around} {E : Value → Shared → Prop}
end
section
variable {X : Cx} {o e f : Expr} {apos cpos : Pos} {td ty tx : TE}
end
section
variable {X : Cx} {pins : List (Addr × Obj)} {σ : St} {H : Hp} {s : Shared} {a : Addr} {kvs : List (Key × V)} {A : Around} {E : Value → Shared → Prop}
end
section
variable {X : Cx} {pins : List (Addr × Obj)} {σ : St} {H : Hp} {s : Shared} {a : Addr} {y : V} {u : Value} {A : Around} {E : Value → Shared → Prop}
end
end L2
namespace L2
open PySem PySem.Spec PyProof.Rows
section
variable {κ : Type} [DecidableEq κ]
end
end L2
namespace L2
open PySem PySem.Spec PyProof.Rows
section
variable {X : Cx}
end
theorem new_dict {X : Cx} : NewRule X newDict (fun _ => .dK []) := by
  intro pins s σ H E Q I h
  refine wpAny_newObj_type ?_
  have new : ObjOk X.prog X.w (upd H s.heap.objs.size (.dK [])) (s.heap.push { cls := .type "dict", data := .dict #[] }) s.heap.objs.size (.dK []) :=
    ⟨Nat.zero_le _, beq_eq_false_iff_ne.mpr (Ne.symm (Nat.ne_of_lt I.above)), [], .nil, Heap.DictOf.new s.heap⟩
  exact h _ (fun b o e => Heap.get?_push_of_some _ e) (I.laid (t' := s.toks) (fun b u e => Heap.get?_push_of_some _ e) (Nat.le_refl _) new)
def dictBody (kx vx : Expr) (D : Addr) (env : Env) (k : Sem Fi) : Sem Fi := (do
  let kv ← eval kx env
  let vv ← holding [kv] (eval vx env)
  standAt { kx.pos with endLine := vx.pos.endLine, endCol := vx.pos.endCol }
  holding [kv, vv] (dictSet D kv vv)) >>= fun _ => k
def tEmD (D : Addr) (tk tv : TE) : TB := fun σ H N => tk σ H fun y H1 => tv σ H1 fun v H2 => ∃ k kvs, y = kV k ∧ H2 D = some (.dK kvs) ∧ kvs.length < sizeLine ∧ N σ (upd H2 D (.dK (putK kvs k v)))
theorem pb_dict {Y : Cx} {kx vx : Expr} {tk tv : TE} {D : Addr} (hx : Y.xe = F0) (hk : PE Y kx tk) (hv : PE Y vx tv) : PB Y (dictBody kx vx D Y.env) (tEmD D tk tv) := by
  intro pins s σ H N k R I h hh
  have a1 := hk pins s σ H _ I h
  rw [hx] at a1
  refine wpAny_bind (wpAny_bind (of_F0 a1 fun u s1 ⟨y, H1, I1, ry, q1⟩ => wpAny_bind (wpAny_holding ?_)))
  have a2 := hv pins s1 σ H1 _ I1 q1
  rw [hx] at a2
  refine of_F0 a2 fun r s2 ⟨v, H2, I2, rv, kk, kvs, ey, hD, hz, n2⟩ => wpAny_bind (wpAny_standAt (wpAny_holding ?_))
  subst ey
  obtain ⟨z, hd, vs, rel, dd⟩ := dk_of I2.hok hD
  have hz' : vs.length ≤ sizeLine := by rw [← rel.length]; exact z
  have hl : (putK kvs kk v).length ≤ sizeLine := by have := length_putK kvs kk v; omega
  refine wpAny_dictSet_pairs (hsz := hz') (kV_is ry) dd fun h' dd' hs => ?_
  have he : ∃ q, h'.get? D = some q := let ⟨q, _, _, hq, _⟩ := dd'; ⟨q, hq⟩
  exact hh σ _ _ (d_write I2 (by rw [hD]; exact True.intro) hs he (dk_new hl hd (rel.put kk rv) dd')) n2
section
variable {X : Cx} {kx vx tg iter : Expr} {ifs : List Expr} {scope esc : Scope} {pos : Pos} {N os : List Str} {fi : List Nat} {wi : TI} {g : TG} {tt : TT} {tk tv : TE}
theorem pe_dictcomp (hc : X.calm = true) (hN : X.N = N) (he : X.env.scope = esc) (B : BlkOk esc scope N fi) (hi : PI X tg iter wi)
    (hg : ∀ s H fp, PG (blk X scope (nB N os fi) s H fp) tg g) (ht : ∀ s H fp, PTs (blk X scope (nB N os fi) s H fp) ifs tt)
    (hk : ∀ s H fp, PE (blk X scope (nB N os fi) s H fp) kx tk) (hv : ∀ s H fp, PE (blk X scope (nB N os fi) s H fp) vx tv)
    (hs : ∀ x, foldedSetIterable iter X.env x = pure x := by intro _; rfl) :
    PE X (.DictComp kx vx [⟨tg, iter, ifs, 0⟩] scope pos) (tCG (fun _ => .dK []) os fi wi g tt fun D => tEmD D tk tv) :=
  pe_compG (gs := []) (body := fun D env => dictBody kx vx D env) rfl rfl hc hN he B loop_dict (start_dict rfl rfl) (fun _ _ _ => rfl) new_dict hi hg ht (fun D s H fp => pb_dict rfl (hk s H fp) (hv s H fp)) hs
end
end L2
namespace PySem
namespace F
end F
section
variable {prog : Program} {w : World} {K : Type} [DecidableEq K] {knd : KeyKind prog w K} {A : Around} {R : Result → Shared → Prop}
end
section
variable {prog : Program} {w : World} {K : Type} [DecidableEq K] {knd : KeyKind prog w K} {A : Around} {E : Value → Shared → Prop} {s : Shared}
end
end PySem
namespace L2
open PySem
end L2
namespace L2
open PySem
section
variable {X : Cx}
end
end L2
namespace L2
open PySem PySem.Spec PyProof.Rows
section
variable {X : Cx}
inductive Shown : V → Str → Prop where
  | int {i : Int} (h : i.natAbs.log2 < 1920) : Shown (.int i) (toString i)
  | str {z : Str} (h : z.length ≤ sizeLine) : Shown (.str z) z
  | non : Shown .non "None"
end
end L2
namespace L2
open PySem PySem.Spec PyProof.Rows
end L2
namespace L2
open PySem PySem.Spec PyProof.Rows
section
variable {X : Cx} {pins : List (Addr × Obj)} {σ : St} {H : Hp} {s : Shared} {scope esc : Scope} {os : List Str} {fi : List Nat} {fp : List Addr}
end
section
variable {X : Cx} {e tg iter : Expr} {ifs : List Expr} {scope esc : Scope} {pos : Pos} {N os : List Str} {fi : List Nat} {wi : TI} {g : TG} {tt : TT} {tb : Addr → TB} {body : Addr → Env → Sem Fi → Sem Fi} {o0 : Addr → HO} {mk : Sem Value} {p : Pos}
end
section
variable {X : Cx} {elt kx vx tg iter tg2 iter2 : Expr} {ifs ifs2 : List Expr} {scope esc : Scope} {pos : Pos} {N os : List Str} {fi : List Nat} {wi wi2 : TI} {g g2 : TG} {tt tt2 : TT} {te tk tv : TE}
end
end L2
namespace L2
open PySem PySem.Spec PyProof.Rows
section
variable {X : Cx}
end
section
variable {prog : Program} {w : World} {A : Around} {E : Value → Shared → Prop} {s : Shared}
end
section
variable {X : Cx} {tg : Expr}
def tRange (ta : TA) : TE := fun σ H Q => ta σ H fun vs H1 => ∃ n : Nat, vs = [.int n] ∧ ∀ r, H1 r = none → Q (.ref r) (upd H1 r (.rng 0 n))
theorem pe_range1 {a : Expr} {ta : TA} {p pos : Pos} (hg : Gl X "range") (hm : X.mg "range" = none) (ha : PA X [a] ta) (hs : starEach [a] X.env = [(false, eval a X.env)] := by rfl) : PE X (.Call (.Name "range" p) [a] [] pos) (tRange ta) := by
  intro pins s σ H Q I h
  refine wpAny_Call_Name_kw (ld_blt I hg hm boot_range ?_)
  refine PyProof.Rows.callWith_type1 (thn (ha pos pins s σ H _ I h) fun us s1 ⟨vs, H1, I1, r1, n, e, q⟩ => ?_) hs rfl
  subst e
  obtain ⟨u, rfl, t, rfl⟩ := vals1 r1
  refine call_range_1 ?_
  have new : ObjOk X.prog X.w (upd H1 s1.heap.objs.size (.rng 0 n)) (s1.heap.push { cls := .type "range", data := .fields #[.int 0 s1.toks, .int n t, .int 1 (s1.toks + 1)] }) s1.heap.objs.size (.rng 0 n) := ⟨_, _, _, Heap.get?_push_size _ rfl⟩
  exact ⟨.ref _, _, I1.laid (t' := s1.toks + 1 + 1) (fun b o e => Heap.get?_push_of_some _ e) (Nat.le_refl _) new, rfl, q _ I1.fresh⟩
end
end L2
namespace L2
open PySem PySem.Spec PyProof.Rows
section
variable {X : Cx} {e tg iter : Expr} {ifs : List Expr} {scope esc : Scope} {pos : Pos} {N os : List Str} {fi : List Nat} {wi : TI} {g : TG} {tt : TT} {tb : Addr → TB} {body : Addr → Env → Sem Fi → Sem Fi} {o0 : Addr → HO} {mk : Sem Value} {p : Pos}
theorem ps_compG {gs : List Comprehension} {i : Nat} {y : Str} {py spos p' : Pos} (hev : ∀ use : Option (Value → Sem Unit), True) (hex : exec (.Assign [.Name y py] e spos) X.env = (do standAt spos; let _ ← (do let _ ← comprehension e scope X.env p' mk false (eval iter X.env) (some (assign (.Name y py) X.env))); pure .next)) (hcl : clausesOf e = ⟨tg, iter, ifs, 0⟩ :: gs) (hc : X.calm = true) (hN : X.N = N) (he : X.env.scope = esc) (B : BlkOk esc scope N fi)
    (hL : LoopRule X.prog X.w X.A e 0) (hS : StartRule X.prog X.w X.A e 0) (hT : ∀ (it D : Addr) (env : Env), compTurn e 0 (.ref it) (.ref D) env = turnOf tg p ifs (.ref it) env (body D env) (again (.compLoop e 0 (.ref it) (.ref D) env)))
    (hmk : NewRule X mk o0) (hnd : X.N.Nodup) (hy : X.N[i]? = some y) (hl : Loc X.env.scope y) (hi : PI X tg iter wi)
    (hg : ∀ s H fp, PG (blk X scope (nB N os fi) s H fp) tg g) (ht : ∀ s H fp, PTs (blk X scope (nB N os fi) s H fp) ifs tt) (hb : ∀ D s H fp, PB (blk X scope (nB N os fi) s H fp) (body D (blk X scope (nB N os fi) s H fp).env) (tb D))
    (hfn : X.fn y = true ∨ X.env.scope.names.lookup y = some .local := by first | exact .inl rfl | exact .inr rfl | assumption)
    (hs : ∀ x, foldedSetIterable iter X.env x = pure x := by intro _; rfl) : PS X (.Assign [.Name y py] e spos) (fun D σ H => tCG o0 os fi wi g tt tb σ H fun v H' => D.nx (σ.set i (some v)) H') := by
  intro pins s σ H D I h
  have cells := blk_cells (by rw [hN]; exact B) he I
  rw [hex]
  refine wpAny_bind (wpAny_standAt (wpAny_bind ?_))
  refine wpAny_bind (thn (wpAny_comprehension_free (use := some (assign (.Name y py) X.env)) (Q := fun _ s' => SP X pins D .next s') hcl hs (closure_eq cells) B.kind B.loc (thn (hi pins s σ H _ I h) fun v s1 h1 => thn h1 fun itv s2 h2 => ?_)) fun _ _ z => wpAny_pure (wpAny_pure z))
  obtain ⟨it, fp, tn, J, H2, rfl, I2, T, st2, f2, q2⟩ := h2
  refine comp_coreG (Q := fun v H' => D.nx (σ.set i (some v)) H') (RR := fun acc C => compPost (model X.prog X.w) X.A X.xe (some (assign (.Name y py) X.env)) (fun _ s' => SP X pins D .next s') acc C) hc hN he B hL hS hT hmk hg ht hb I2 T st2 f2 q2 ?_
  intro Dl s3 H3 s' σ' H' I3 f3 I' q
  have J' : Inv X pins σ H' s' := blk_out I3 f3 I' (Heap.SameBut.refl ..)
  show wpAny _ _ (assign (.Name y py) X.env (.ref Dl)) _ _ s'
  refine wpAny_assign_Name (store_ok2 (v := .ref Dl) J' hnd hy hl rfl (fun s'' J'' sb => ?_) hfn)
  obtain ⟨a, sb, ha⟩ := sb
  have cL : s3.heap.objs.size ≠ X.env.locals := Nat.ne_of_gt I3.lt
  have cC : ∀ x c, X.env.cells.lookup x = some c → c ≠ s3.heap.objs.size := fun x c e => by
    obtain ⟨v, ic⟩ := I3.cell x c e
    exact Nat.ne_of_lt ic.lt
  have ca : s3.heap.objs.size ≠ a := by
    rcases ha with z | z
    · rw [z]; exact cL
    · exact (cC _ _ z).symm
  obtain ⟨m, hn, _⟩ := I'.loc
  have hn'' : s''.heap.Ns s3.heap.objs.size m := by
    obtain ⟨o, es, ep, ho, r⟩ := hn
    exact ⟨o, es, ep, (sb.2 _ ca).trans ho, r⟩
  refine ⟨m, hn'', fun h' sb' => ⟨σ.set i (some (.ref Dl)), H', ?_, q⟩⟩
  exact J''.turned (t' := s''.toks) (it := s3.heap.objs.size) (fun b o hb e => (sb'.2 b hb).trans e) I'.free cL (.inr I3.sz) cC fun p hp => Nat.ne_of_lt (Heap.lt_size (I3.pin p hp).1)
end
section
variable {X : Cx} {elt kx vx tg iter tg2 iter2 : Expr} {ifs ifs2 : List Expr} {scope esc : Scope} {pos : Pos} {N os : List Str} {fi : List Nat} {wi wi2 : TI} {g g2 : TG} {tt tt2 : TT} {te tk tv : TE}
theorem pe_compL (hc : X.calm = true) (hN : X.N = N) (he : X.env.scope = esc) (B : BlkOk esc scope N fi) (hi : PI X tg iter wi)
    (hg : ∀ s H fp, PG (blk X scope (nB N os fi) s H fp) tg g) (ht : ∀ s H fp, PTs (blk X scope (nB N os fi) s H fp) ifs tt)
    (hel : ∀ s H fp, PE (blk X scope (nB N os fi) s H fp) elt te)
    (hs : ∀ x, foldedSetIterable iter X.env x = pure x := by intro _; rfl) :
    PE X (.ListComp elt [⟨tg, iter, ifs, 0⟩] scope pos) (tCG (fun _ => .lst []) os fi wi g tt fun D => tEmL D te) :=
  pe_compG (gs := []) (body := fun D env => listBody elt (.ref D) env) rfl rfl hc hN he B loop_list (start_list rfl rfl) (fun _ _ _ => rfl) new_list hi hg ht (fun D s H fp => pb_list rfl (hel s H fp)) hs
theorem ps_compL {i : Nat} {y : Str} {py spos : Pos} (hc : X.calm = true) (hN : X.N = N) (he : X.env.scope = esc) (B : BlkOk esc scope N fi) (hnd : X.N.Nodup) (hy : X.N[i]? = some y) (hl : Loc X.env.scope y) (hi : PI X tg iter wi)
    (hg : ∀ s H fp, PG (blk X scope (nB N os fi) s H fp) tg g) (ht : ∀ s H fp, PTs (blk X scope (nB N os fi) s H fp) ifs tt) (hel : ∀ s H fp, PE (blk X scope (nB N os fi) s H fp) elt te)
    (hsw : swapsWith (.ListComp elt [⟨tg, iter, ifs, 0⟩] scope pos) (some (.Name y py)) spos.line X.env = pure true := by rfl)
    (hfn : X.fn y = true ∨ X.env.scope.names.lookup y = some .local := by first | exact .inl rfl | exact .inr rfl | assumption)
    (hs : ∀ x, foldedSetIterable iter X.env x = pure x := by intro _; rfl) : PS X (.Assign [.Name y py] (.ListComp elt [⟨tg, iter, ifs, 0⟩] scope pos) spos) (fun D σ H => tCG (fun _ => .lst []) os fi wi g tt (fun D => tEmL D te) σ H fun v H' => D.nx (σ.set i (some v)) H') :=
  ps_compG (gs := []) (body := fun D env => listBody elt (.ref D) env) (fun _ => trivial) (exec_Assign_Name_used _ _ _ _ hsw) rfl hc hN he B loop_list (start_list rfl rfl) (fun _ _ _ => rfl) new_list hnd hy hl hi hg ht (fun D s H fp => pb_list rfl (hel s H fp)) hfn hs
end
theorem lr_list {K : PySem.W.Frag} {S : Addr} {xs : List V} {g : TG} {tt : TT} {tb : TB} {σ : St} {H : Hp} {N : St → Hp → Prop} (Pv : Nat → St → Hp → Prop) (h0 : Pv 0 σ H) (hS : ∀ i σ H, Pv i σ H → SqL K H S xs)
    (step : ∀ (i : Nat) (x : V) (σ : St) (H : Hp) (C : St → Hp → Prop), xs[i]? = some x → Pv i σ H → (∀ σ' H', Pv (i + 1) σ' H' → C σ' H') → g x σ H fun σ4 H4 => tt σ4 H4 fun ok H5 => if ok = true then tb σ4 H5 C else C σ4 H5)
    (fin : ∀ σ H, Pv xs.length σ H → N σ H) : LR (Itl K S) g tt tb σ H N := by
  refine ⟨fun i m σ H => m = xs.length - i ∧ i ≤ xs.length ∧ Pv i σ H, ⟨_, rfl, Nat.zero_le _, h0⟩, ?_⟩
  rintro i m σ2 H2 ⟨rfl, hi, p⟩
  have sq := hS i σ2 H2 p
  by_cases hlt : i < xs.length
  · refine .inr ⟨⟨xs, _, sq, List.getElem?_eq_getElem hlt⟩, ?_⟩
    rintro x H3 ⟨rfl, hx⟩
    exact step i x σ2 H3 _ (hx _ sq) p fun σ' H' p' => ⟨xs.length - (i + 1), by omega, rfl, hlt, p'⟩
  · have e : i = xs.length := by omega
    subst e
    exact .inl ⟨⟨xs, sq, Nat.le_refl _⟩, fin σ2 H2 p⟩
end L2
namespace L2
open PySem PySem.Spec PyProof.Rows
section
variable {prog : Program} {w : World} {A : Around} {E : Value → Shared → Prop} {h : Heap} {g : Array GenState} {d : Drawn} {t : Nat} {os : OsState} {nm q : Str} {C N : Addr} {bs bm bmB : List Value} {hdct : Bool} {sn : List Str} {sub : List Value} {ab : Bool} {col : Option Bool}
  {dd : Option Addr} {k0 k1 k2 k3 k5 : Option Value} {B newId initId : String}
theorem type_call_initT (F : ExcBaseFacts B newId initId bmB) (T : OwnTail h bmB bm) {mN : Str → Option Value} {rest : List Value} {fI : Addr} {oI : Obj} {Q : PySem.Fin → Shared → Prop}
    (hC : h.get? C = some (excClassObj nm q C N bs bm hdct sn sub ab col dd k0 k1 k2 k3 k5 newId)) (hn : h.Ns N mN) (hi : mN (Str.ofString "__init__") = some (.ref fI)) (hfI : h.get? fI = some oI) (hfc : oI.cls = .type "function")
    (hq : ∀ (h' : Heap) (e : Addr), h.MadeExcOf h' e (.ref C) rest → wpAny (model prog w) A (call (.ref fI) (.ref e :: rest)) (fun r s' => r = .none ∧ Q (.done (.ret (.ref e))) s') E { heap := h', gens := g, drawn := d, toks := t, os := os })
    (hrest : rest.length ≤ sizeLine) : wpAny (model prog w) A (Builtin.«type.__call__» { pos := .ref C :: rest }) Q E { heap := h, gens := g, drawn := d, toks := t, os := os } := by
  unfold Builtin.«type.__call__»
  refine wpAny_ite_false rfl ?_
  refine wpAny_bind (id (wpAny_bind (id (wpAny_bind (wpAny_load' hC (wpAny_pure (wpAny_pure (wpAny_ite_false rfl (wpAny_bind (wpAny_madeBy_exc hC (wpAny_bind (wpAny_pure (wpAny_bind (wpAny_holding (wpAny_call ?_)))))))))))))))
  refine codeAny_call_builtin_code (Code.quiet_builtin { pos := Value.ref C :: rest } F.quiet) (wpAny_check_new_subT F T hC (codeAny_exc_new_subT F T hC (id ?_) hrest))
  have hk : ∀ (b : Addr) (o : Obj), h.get? b = some o → ((h.push { cls := Value.type "tuple", data := Data.seq rest.toArray }).push { cls := Value.ref C, data := Data.fields #[Value.ref h.objs.size, Value.none, Value.none, Value.none, Value.bool false, Value.none] }).get? b = some o := fun b o e => Heap.get?_push_of_some _ (Heap.get?_push_of_some _ e)
  have hC₁ := hk _ _ hC
  have hn₁ := hn.keeps hk
  have T₁ := T.keeps hk
  have hget : ((h.push { cls := Value.type "tuple", data := Data.seq rest.toArray }).push { cls := Value.ref C, data := Data.fields #[Value.ref h.objs.size, Value.none, Value.none, Value.none, Value.bool false, Value.none] }).get? (h.objs.size + 1) = _ := Heap.get?_push_at (by rw [Heap.size_push]) rfl
  have hcC : (Value.ref C :: bm).contains (Value.ref C) = true := by simp
  have hm : h.MadeExcOf ((h.push { cls := Value.type "tuple", data := Data.seq rest.toArray }).push { cls := Value.ref C, data := Data.fields #[Value.ref h.objs.size, Value.none, Value.none, Value.none, Value.bool false, Value.none] }) (h.objs.size + 1) (.ref C) rest := by
    refine ⟨hk, ?_, h.objs.size, hget, ?_, ?_⟩
    · exact Heap.get?_none_of_le (Nat.le_succ _)
    · exact Heap.get?_none_of_le (Nat.le_refl _)
    · exact Heap.get?_push_of_some _ (Heap.get?_push_at rfl rfl)
  have z := hq _ _ hm
  generalize hH : ((h.push { cls := Value.type "tuple", data := Data.seq rest.toArray }).push { cls := Value.ref C, data := Data.fields #[Value.ref h.objs.size, Value.none, Value.none, Value.none, Value.bool false, Value.none] }) = h2 at *
  show wpAny (model prog w) A _ Q E { heap := h2, gens := g, drawn := d, toks := t, os := os }
  refine wpAny_bind (wpAny_bind (id (wpAny_bind (wpAny_loadPart_at hget (wpAny_pure (wpAny_isSubtype_exc hC₁ ?_))))))
  rw [hcC]
  refine wpAny_ite_false rfl (wpAny_bind (wpAny_holding (id (wpAny_bind (id (wpAny_bind (id (wpAny_bind (wpAny_loadPart_at hget (wpAny_pure (id (wpAny_typeLookup_tail hC₁ hn₁ T₁ F.mroIs F.init.lookup ?_))))))))))))
  rw [hi]
  refine wpAny_holding (wpAny_bind (id (wpAny_bind (wpAny_typeOf ⟨oI, hk _ _ hfI, hfc⟩ ?_))))
  refine wpAny_ite_true (by decide +kernel) (wpAny_pure (wpAny_bind (thn z fun r s' hz => ?_)))
  obtain ⟨rfl, zq⟩ := hz
  exact wpAny_pure (wpAny_ite_false rfl (wpAny_pure zq))
theorem call_initT (F : ExcBaseFacts B newId initId bmB) (T : OwnTail h bmB bm) {mN : Str → Option Value} {rest : List Value} {fI : Addr} {oI : Obj} {Q : Value → Shared → Prop}
    (hC : h.get? C = some (excClassObj nm q C N bs bm hdct sn sub ab col dd k0 k1 k2 k3 k5 newId)) (hn : h.Ns N mN) (hi : mN (Str.ofString "__init__") = some (.ref fI)) (hfI : h.get? fI = some oI) (hfc : oI.cls = .type "function")
    (hq : ∀ (h' : Heap) (e : Addr), h.MadeExcOf h' e (.ref C) rest → wpAny (model prog w) (A.under (Code.builtin "type.__call__" { pos := Value.ref C :: rest })) (call (.ref fI) (.ref e :: rest)) (fun r s' => r = .none ∧ Q (.ref e) s') E { heap := h', gens := g, drawn := d, toks := t, os := os })
    (hrest : rest.length ≤ sizeLine) : wpAny (model prog w) A (call (.ref C) rest) Q E { heap := h, gens := g, drawn := d, toks := t, os := os } := by
  have f1 := tc_lookup
  have f2 := tc_bind (Value.ref C)
  have hT : ({ heap := h, gens := g, drawn := d, toks := t, os := os } : Shared).TypeIs (.ref C) "type" := ⟨_, hC, rfl⟩
  refine wpAny_call (codeAny_of_tree (id (id (wpAny_bind (wpAny_load' hC (id (id (wpAny_bind (wpAny_specialOf hT f1 (wpAny_bind (wpAny_of_eq f2 (wpAny_bind (id (wpAny_pure (wpAny_ite_true rfl (id (wpAny_pure ⟨rfl, ?_⟩)))))))))))))))))
  exact codeAny_call_builtin_at (Code.quiet_builtin { pos := [Value.ref C] ++ { pos := rest : Args }.pos } (by decide +kernel)) entry_typeCall
    (wpAny_check_type_call_sub hC (type_call_initT F T hC hn hi hfI hfc (fun h' e hm => hq h' e hm) hrest))
end
end L2
namespace L2
open PySem PySem.Spec PyProof.Rows
theorem own_init : builtinOwn "ValueError" "__init__" = some (.builtin "ValueError.__init__") := by decide +kernel
theorem typ_init : typeOf (.builtin "ValueError.__init__") = pure (.type "wrapper_descriptor") := by rfl
theorem slot_wdget : Slot "wrapper_descriptor" "__get__" "wrapper_descriptor.__get__" :=
  Slot.of (owner := "wrapper_descriptor") (n := "__get__") (by rw [typeLookup_type, builtinLookup_eq_fast]; rfl) (by decide +kernel) (by decide +kernel) (by decide +kernel) (Or.inl (by decide +kernel)) (by rw [isSubtype_type]; rfl) (by decide +kernel)
theorem entry_wdget : entryFor table "wrapper_descriptor.__get__" = some Builtin.«wrapper_descriptor.__get__» := entryFor_of_tree (by show _ = _; rfl)
theorem args_wdget (a b c : Value) : argsOk "wrapper_descriptor.__get__" { pos := [a, b, c] } := by show _ = _; rfl
theorem classOwn_own {M : Model} {A : Around} {E : Value → Shared → Prop} {s : Shared} {a : Addr} {c0 : Value} {dd : Option Addr} {cd : ClassData} {sl : Array (Option Value)} {mA : Str → Option Value} {name : Str} {Q : Option Value → Shared → Prop}
    (hA : s.heap.get? a = some { cls := c0, dict := dd, data := .cls cd, slots := sl }) (hN : s.heap.Ns cd.ns mA) (q : Q (mA name) s) : wpAny M A (classOwn (.ref a) name) Q E s := by
  unfold classOwn classData
  exact wpAny_bind (wpAny_bind (wpAny_load' hA (wpAny_pure (wpAny_nsGet hN q))))
section
variable {prog : Program} {w : World} {A : Around} {E : Value → Shared → Prop} {h : Heap} {g : Array GenState} {d : Drawn} {t : Nat} {os : OsState}
theorem super_ga {so D x C : Addr} {l₀ l : List Value} {tk : Tok} {Q : PySem.Fin → Shared → Prop} (hso : h.get? so = some { cls := .type "super", data := .fields #[.ref D, .ref x, .ref C] })
    (hno : PySem.W.Looks (model prog w) h (opaqueClassAbove (.ref C)) none) (hC : PySem.W.Looks (model prog w) h (mroOf (.ref C)) l₀) (hl : List.drop 1 (List.dropWhile (fun x => x != Value.ref D) l₀) = l) (hxC : x ≠ C)
    (T : OwnTail h bmV l) {ox : Obj} (hx : h.get? x = some ox) (hxc : ox.cls = .ref C) (hsub : PySem.W.Looks (model prog w) h (isSubtype (.ref C) (.type "ValueError")) true)
    (hq : Q (.done (.ret (.ref h.objs.size))) { heap := h.push { cls := .type "method-wrapper", data := .fields #[.builtin "ValueError.__init__", .ref x] }, gens := g, drawn := d, toks := t, os := os }) :
    wpAny (model prog w) A (Builtin.«super.__getattribute__» { pos := [.ref so, .str "__init__" tk] }) Q E { heap := h, gens := g, drawn := d, toks := t, os := os } := by
  unfold Builtin.«super.__getattribute__»
  refine wpAny_bind (id (wpAny_pure (wpAny_ite_false rfl (wpAny_bind (id (wpAny_pure ?_))))))
  refine wpAny_bind (wpAny_field (x := Value.ref D) hso rfl rfl (wpAny_bind (wpAny_field (x := Value.ref x) hso rfl rfl (wpAny_bind (wpAny_field (x := Value.ref C) hso rfl rfl ?_)))))
  refine wpAny_ite_false rfl (wpAny_bind (ks_wpAny_notOpaque hno ?_))
  refine wpAny_ite_false rfl (wpAny_bind (hC.at ?_))
  dsimp only
  rw [hl]
  clear hC hl
  refine wpAny_bind ?_
  induction T with
  | own hA hN hi T ih =>
    rw [List.forIn_cons]
    refine wpAny_bind (wpAny_bind ?_)
    refine classOwn_own hA hN ?_
    rw [hi]
    exact wpAny_pure ih
  | base =>
    rw [List.forIn_cons]
    refine wpAny_bind (wpAny_bind ?_)
    refine wpAny_of_eq (show classOwn (.type "ValueError") (Str.ofString "__init__") = pure (some (.builtin "ValueError.__init__")) from congrArg pure own_init) ?_
    have hne : (Value.ref x == Value.ref C) = false := by simp [hxC]
    rw [hne]
    refine wpAny_bind (wpAny_of_eq typ_init (wpAny_bind (wpAny_of_eq slot_wdget.lookup (wpAny_bind (wpAny_holding (wpAny_call_entry slot_wdget rfl entry_wdget ?_ (args_wdget _ _ _)))))))
    unfold Builtin.«wrapper_descriptor.__get__»
    refine wpAny_bind (wpAny_of_eq (a := (Value.builtin "ValueError.__init__", some (Value.ref x), some (Value.ref C))) rfl ?_)
    refine wpAny_bind ?_
    refine wpAny_bind (wpAny_of_eq (a := (Str.ofString "__init__", Value.type "ValueError")) ?_ ?_)
    · rfl
    refine wpAny_bind ?_
    unfold isInstance
    refine wpAny_bind (wpAny_typeOf_ref hx ?_)
    rw [hxc]
    refine hsub.at ?_
    refine wpAny_ite_false rfl (wpAny_pure (wpAny_bind ?_))
    unfold newFields newObj
    exact wpAny_bind (wpAny_alloc' (wpAny_pure (wpAny_pure ⟨_, rfl, wpAny_bind (wpAny_pure (wpAny_pure (wpAny_pure (wpAny_pure hq))))⟩)))
end
end L2
namespace L2
open PySem PySem.Spec PyProof.Rows
section
variable {M : Model} {A : Around} {E : Value → Shared → Prop} {h : Heap} {g : Array GenState} {d : Drawn} {t : Nat} {os : OsState} {nm q : Str} {C N : Addr} {bs bm : List Value} {hdct : Bool} {sn : List Str} {sub : List Value} {ab : Bool} {col : Option Bool}
  {dd : Option Addr} {k0 k1 k2 k3 k5 : Option Value} {newId : String}
theorem bound_init {x : Addr} {m : Value} {ox : Obj} {Q : Unit → Shared → Prop} (hC : h.get? C = some (excClassObj nm q C N bs bm hdct sn sub ab col dd k0 k1 k2 k3 k5 newId)) (hx : h.get? x = some ox) (hxc : ox.cls = .ref C) (hq : Q () { heap := h, gens := g, drawn := d, toks := t, os := os }) :
    wpAny M A (checkBoundCall "ValueError.__init__" { pos := [.ref x, m] }) Q E { heap := h, gens := g, drawn := d, toks := t, os := os } := by
  have e1 : (Manifest.Receiver.self == Manifest.Receiver.none) = false := by decide
  unfold checkBoundCall
  rw [F.excBase_ValueError.initRow, F.excBase_ValueError.initKind]
  dsimp only
  rw [if_pos (by decide)]
  unfold Bind.checkArgs Bind.printed Bind.receiverType typeNameWhole
  simp only [e1]
  refine wpAny_bind (wpAny_ite_false (by decide) (wpAny_bind ?_))
  refine wpAny_typeOf_ref hx ?_
  rw [hxc]
  unfold classData
  refine wpAny_bind (wpAny_bind (wpAny_bind (wpAny_load' hC (wpAny_pure (wpAny_pure (wpAny_pure ?_))))))
  refine wpAny_bind (wpAny_ite_true (by decide) (wpAny_pure ?_))
  exact wpAny_onRaise (wpAny_of_eq (a := ()) rfl hq)
end
section
variable {prog : Program} {w : World} {A : Around} {E : Value → Shared → Prop} {h : Heap} {g : Array GenState} {d : Drawn} {t : Nat} {os : OsState}
theorem super_init {so D x C : Addr} {l₀ l : List Value} {pl : Sem Bool} {Q : Value × List Value → Shared → Prop} (hso : h.get? so = some { cls := .type "super", data := .fields #[.ref D, .ref x, .ref C] })
    (hno : PySem.W.Looks (model prog w) h (opaqueClassAbove (.ref C)) none) (hC : PySem.W.Looks (model prog w) h (mroOf (.ref C)) l₀) (hl : List.drop 1 (List.dropWhile (fun x => x != Value.ref D) l₀) = l) (hxC : x ≠ C)
    (T : OwnTail h bmV l) {ox : Obj} (hx : h.get? x = some ox) (hxc : ox.cls = .ref C) (hsub : PySem.W.Looks (model prog w) h (isSubtype (.ref C) (.type "ValueError")) true)
    (hq : Q (.ref h.objs.size, []) { heap := h.push { cls := .type "method-wrapper", data := .fields #[.builtin "ValueError.__init__", .ref x] }, gens := g, drawn := d, toks := t + 1, os := os }) :
    wpAny (model prog w) A (getMethod (.ref so) "__init__" pl) Q E { heap := h, gens := g, drawn := d, toks := t, os := os } := by
  have hT : ∀ tk, ({ heap := h, gens := g, drawn := d, toks := tk, os := os } : Shared).TypeIs (.ref so) "super" := fun tk => ⟨_, hso, rfl⟩
  unfold getMethod
  refine wpAny_bind (wpAny_specialOf (hT _) F.ks_slot_super_ga.lookup (wpAny_ite_true F.ks_canon_super_ga (wpAny_bind ?_)))
  unfold getAttr getAttrBy
  refine wpAny_bind (wpAny_mkText (wpAny_holding (wpAny_bind (wpAny_typeOf (hT _) (wpAny_bind (wpAny_of_eq F.ks_slot_super_ga.lookup ?_))))))
  refine wpAny_ite_false (by decide +kernel) ?_
  unfold getAttrByItsOwn hookBefore
  have f3 := F.ks_slot_super_ga.bind (.ref so)
  repeat (first | assumption | wp_step)
  refine codeAny_call_builtin F.ks_slot_super_ga.plain F.ks_entry_super_ga (F.ks_slot_super_ga.check _ _ _ _ _ _ _ _ (hT _) (F.ks_gaArgs_super _ _) (super_ga hso hno hC hl hxC T hx hxc hsub ?_))
  show wpAny (model prog w) A (handedOut (.ref h.objs.size)) _ _ _
  exact PySem.W.handed_on rfl (wpAny_pure hq)
theorem call_wrapper {nm q : Str} {C N : Addr} {bs bm : List Value} {hdct : Bool} {sn : List Str} {sub : List Value} {ab : Bool} {col : Option Bool} {dd : Option Addr} {k0 k1 k2 k3 k5 : Option Value} {newId : String} {m x : Addr} {msg : Value} {ox : Obj} {vs : Array Value} {Q : Value → Shared → Prop} (hm : h.get? m = some { cls := .type "method-wrapper", data := .fields #[.builtin "ValueError.__init__", .ref x] })
    (hC : h.get? C = some (excClassObj nm q C N bs bm hdct sn sub ab col dd k0 k1 k2 k3 k5 newId)) (hx : h.get? x = some ox) (hxc : ox.cls = .ref C) (hxd : ox.data = .fields vs) {v0 : Value} (hv0 : vs[0]? = some v0)
    (hq : Q .none { heap := (h.push { cls := .type "tuple", data := .seq #[msg] }).update x (Obj.mapFields fun y => y.setIfInBounds 0 (.ref h.objs.size)), gens := g, drawn := d, toks := t, os := os }) :
    wpAny (model prog w) A (call (.ref m) [msg]) Q E { heap := h, gens := g, drawn := d, toks := t, os := os } := by
  have hT : ({ heap := h, gens := g, drawn := d, toks := t, os := os } : Shared).TypeIs (.ref m) "method-wrapper" := ⟨_, hm, rfl⟩
  refine wpAny_call (codeAny_of_tree (id (id (wpAny_bind (wpAny_load' hm (id (id (wpAny_bind (bound_init hC hx hxc ?_)))))))))
  refine wpAny_pure ⟨Code.quiet_builtin _ (by decide +kernel), codeAny_builtin F.excBase_ValueError.initEntry ?_⟩
  unfold Builtin.«BaseException.__init__»
  refine wpAny_ite_false rfl (wpAny_bind (wpAny_newTuple ?_ (by show 1 ≤ sizeLine; decide)))
  unfold Builtin.BaseException.bexcPut
  have hx1 : (h.push { cls := .type "tuple", data := .seq #[msg] }).get? x = some ox := Heap.get?_push_of_some _ hx
  refine wpAny_bind (wpAny_bind (wpAny_field hx1 hxd hv0 (wpAny_bind (wpAny_setField hx1 hxd (Array.getElem?_eq_some_iff.mp hv0).1 ?_))))
  have fin : wpAny (model prog w) (A.under (Code.builtin "ValueError.__init__" { pos := [.ref x, msg] })) (ret .none) (fun fin s' =>
          match fin with
          | Fin.done f => match (Except.ok f : Except Value Flow) with
            | Except.ok (Flow.ret v) => Q v s'
            | Except.ok a => False
            | Except.error e => E e s'
          | Fin.again c' => c'.quiet = true ∧ codeAny (model prog w) A c' (fun r s' => match r with
              | Except.ok (Flow.ret v) => Q v s'
              | Except.ok a => False
              | Except.error e => E e s') s') (fun e s' => E e s') { heap := (h.push { cls := .type "tuple", data := .seq #[msg] }).update x (Obj.mapFields fun y => y.setIfInBounds 0 (.ref h.objs.size)), gens := g, drawn := d, toks := t, os := os } := wpAny_pure hq
  cases v0 with
  | ref a => exact wpAny_letGo fin
  | _ => exact wpAny_pure fin
end
end L2
namespace L2
open PySem PySem.Spec PyProof.Rows
def ownV : Value → Bool
  | .ref _ => true
  | _ => false
def onlyV (l : List Value) : Bool := l.dropWhile ownV == bmV
def overV (K : PySem.W.Frag) (C : Addr) : Bool := (PySem.W.clsIn K C).any fun cd => onlyV cd.mro
theorem refuse_drop (self : Value) (what : Str) : ∀ l : List Value, refuseLoop self what l = refuseLoop self what (l.dropWhile ownV)
  | [] => rfl
  | .ref c :: r => by rw [refuseLoop_ref, refuse_drop self what r]; rfl
  | .type _ :: _ => rfl
  | .none :: _ => rfl
  | .ellipsis :: _ => rfl
  | .notImplemented :: _ => rfl
  | .bool _ :: _ => rfl
  | .int _ _ :: _ => rfl
  | .float _ _ :: _ => rfl
  | .str _ _ :: _ => rfl
  | .bytes _ _ :: _ => rfl
  | .builtin _ :: _ => rfl
theorem refuse_onlyV (self : Value) {l : List Value} (e : onlyV l = true) : refuseLoop self "__setattr__" l = pure () := by
  rw [refuse_drop, beq_iff_eq.mp e]
  exact PySem.F.store_ValueError.passes self
theorem onlyV_has {l : List Value} (e : onlyV l = true) : (.type "object") ∈ l := by
  have z : (.type "object" : Value) ∈ l.dropWhile ownV := by rw [beq_iff_eq.mp e]; simp
  exact List.dropWhile_subset _ z
open Builtin.ObjectAttr in
theorem osa_openV {prog : Program} {w : World} {A : Around} {R : Result → Shared → Prop} {s : Shared} {K : PySem.W.Frag} {x C : Addr} {ox : Obj} {od : Option Obj} {name : Str} {tk : Tok} {v : Value} (X : K.In s.heap) (J : PySem.W.InstAt s.heap x ox C od) (hp : overV K C = true) (ht : PySem.W.takerIn K C name = some none)
    (h : ∀ b, wpAny (model prog w) A.in1 (Builtin.ObjectAttr.storeInOwnDict (.ref x) (.ref C) (.str name tk) name v b)
      (fun fin s' => match fin with | .done f => R (.ok f) s' | .again c' => c'.quiet = true ∧ codeAny (model prog w) A c' R s') (fun e s' => R (.error e) s') s) :
    codeAny (model prog w) A (.call (.builtin "object.__setattr__") ⟨[.ref x, .str name tk, v], []⟩) R s := by
  obtain ⟨cd, hc, ho⟩ := PySem.W.any_some hp
  have mem := onlyV_has ho
  have ne : cd.mro.isEmpty = false := by
    cases q : cd.mro with
    | nil => rw [q] at mem; cases mem
    | cons _ _ => rfl
  have mo : PySem.W.mroIn K C (.type "object") = some true := by
    unfold PySem.W.mroIn
    rw [hc, Option.bind_some, ne, List.contains_iff_mem.mpr mem]
    rfl
  have sub : PySem.W.Looks (model prog w) s.heap (isInstance (.ref x) (.type "object")) true := J.type.andThen (PySem.W.looks_mroIn X mo)
  obtain ⟨attr, ha, hr⟩ := Option.bind_eq_some_iff.mp ht
  have LM : PySem.W.Looks (model prog w) s.heap (mroOf (.ref C)) cd.mro := (PySem.W.looks_clsIn X hc).andThen .now
  have LT : PySem.W.Looks (model prog w) s.heap (storeTaker? attr) none := by
    cases attr with
    | none => exact .now
    | some a =>
      obtain ⟨b, hb, e⟩ := Option.map_eq_some_iff.mp hr
      cases b with
      | true => cases e
      | false => exact (PySem.W.looks_takesIn X hb).andThen .now
  have SO := PySem.F.store_object
  refine codeAny_call_builtin SO.slot.plain SO.entry ?ck
  have go := @PySem.W.check_slot (model prog w) A.in1 (fun e s' => R (.error e) s') s "object.__setattr__" "object" "__setattr__" (.ref x) [.str name tk, v] []
  refine go SO.kind SO.split sub (SO.args _ _ _) ?_
  rw [PySem.W.osa_eq, PySem.refuse_eq]
  refine wpAny_bind (wpAny_bind (J.type.here (wpAny_bind (LM.here ?_))))
  rw [refuse_onlyV _ ho]
  exact wpAny_pure (wpAny_bind (J.type.here (wpAny_bind ((PySem.W.looks_findIn X ha).here (wpAny_bind (LT.here (h _)))))))
section
variable {prog : Program} {w : World} {A : Around} {E : Value → Shared → Prop} {s : Shared} {K : PySem.W.Frag} {x C : Addr} {ox : Obj} {name : Str} {v : Value}
theorem set_exc {Q : Unit → Shared → Prop} (X : K.In s.heap) (J : PySem.W.InstAt s.heap x ox C none) (hx : s.heap.get? x = some ox)
    (hs : PySem.W.findIn K (.ref C) "__setattr__" = some (some (.builtin "object.__setattr__"))) (hp : overV K C = true) (ht : PySem.W.takerIn K C name = some none) (hh : PySem.W.hasDictIn K C = true) {vs : Array Value} {sl : Array (Option Value)} (hox : ox = { cls := .ref C, dict := none, data := .fields vs, slots := sl })
    (h : ∀ h', h'.get? x = some { cls := .ref C, dict := some s.heap.objs.size, data := .fields vs, slots := sl } → h'.Ns1 s.heap.objs.size (fun y => if y = name then some v else none) → (∀ b o, b ≠ x → b ≠ s.heap.objs.size → s.heap.get? b = some o → h'.get? b = some o) → Q () { s with heap := h', toks := s.toks + 2 }) : wpAny (model prog w) A (setAttr (.ref x) name v) Q E s := by
  refine PySem.W.set_plain X J hs (osa_openV (s := { s with toks := s.toks + 1 }) X J hp ht fun b => ?_)
  obtain ⟨cd, hcd, hd'⟩ := PySem.W.any_some hh
  dsimp only
  unfold Builtin.ObjectAttr.storeInOwnDict
  refine wpAny_bind (wpAny_pure (wpAny_bind ?_))
  unfold Builtin.ObjectAttr.ownDictForStores instanceDict
  subst hox
  refine wpAny_bind (wpAny_loadPart hx (wpAny_bind (PySem.W.Looks.here (s := { s with toks := s.toks + 1 }) (PySem.W.looks_clsIn X hcd) ?_)))
  rw [hd']
  refine wpAny_ite_false rfl (wpAny_ite_false ?_ (wpAny_bind (wpAny_alloc' ?_)))
  · rfl
  have hx1 : (s.heap.push { cls := .type "dict", data := .dict #[] }).get? x = some { cls := .ref C, dict := none, data := .fields vs, slots := sl } := Heap.get?_push_of_some _ hx
  refine wpAny_bind (wpAny_update' hx1 ?_)
  unfold dictMade
  refine wpAny_pure ?_
  have xl := Heap.lt_size hx
  have xn : s.heap.objs.size ≠ x := (Nat.ne_of_lt xl).symm
  generalize hh1 : ((s.heap.push { cls := .type "dict", data := .dict #[] }).update x fun o => { cls := o.cls, dict := some s.heap.objs.size, data := o.data, slots := o.slots }) = h1
  have e1 : h1.get? s.heap.objs.size = some PySem.W.emptyDict := by
    rw [← hh1, Heap.get?_update_ne _ _ _ _ xn]
    exact Heap.get?_push_size _ rfl
  have e2 : h1.get? x = some { cls := .ref C, dict := some s.heap.objs.size, data := .fields vs, slots := sl } := by
    rw [← hh1]
    exact Heap.get?_update_self _ hx1 rfl
  have e3 : h1.Ns s.heap.objs.size (fun _ => none) := ⟨PySem.W.emptyDict, #[], _, e1, rfl, (fun e he => absurd he (by simp)), fun _ => rfl⟩
  have e4 : ∀ b o, b ≠ x → s.heap.get? b = some o → h1.get? b = some o := fun b o n q => by
    rw [← hh1, Heap.get?_update_ne _ _ _ _ n]
    exact Heap.get?_push_of_some _ q
  unfold Builtin.ObjectAttr.storeInDict
  refine wpAny_bind (wpAny_pure (wpAny_bind ?_))
  refine wpAny_nsSet1 (s := { s with heap := h1, toks := s.toks + 1 }) (Heap.Ns1.of_empty e3) fun h' hn2 hs2 => ?_
  have hw : PySem.Within (fun _ : Str => (none : Option Value)) [] := fun y hy => absurd rfl hy
  obtain ⟨oD, esD, epD, hoD, hdD, hcD⟩ := hn2.count (PySem.Within.cons name v hw)
  refine wpAny_bind (wpAny_lookBehind hoD (by rw [hdD]; exact pastItsLine_dict (Nat.le_trans hcD (by rw [sizeLine_eq]; show 1 ≤ _; omega))) ?_)
  exact wpAny_pure (h _ ((hs2.2 _ xn.symm).trans e2) hn2 fun b o n1 n2 q => (hs2.2 b n2).trans (e4 b o n1 q))
end
end L2
namespace L2
open PySem PySem.Spec PyProof.Rows
section
variable {prog : Program} {w : World} {A : Around} {E : Value → Shared → Prop} {s : Shared} {K : PySem.W.Frag}
theorem super_at {Q : Value → Shared → Prop} {body : List Stmt} {whole : Sem Value} {fI e C cc c2 L : Addr} {oI oe oC o2 : Obj} {fd : FuncData} {cd : ClassData} {p0 p1 : Pos} {ar : Arg} {cs : Array Value} {file : Str} {tf : Tok} {mg mb m : Str → Option Value}
    (X : K.In s.heap) (hfI : s.heap.get? fI = some oI) (hfd : oI.data = .func fd)
    (h1 : fd.scope.names.lookup ("self" : Str) = some NameKind.local) (h3 : fd.scope.names.lookup ("super" : Str) = some NameKind.globalImplicit) (h4 : fd.scope.names.lookup ("__class__" : Str) = some NameKind.free) (g3 : fd.scope.kind = .function) (hcl : fd.closure = [(("__class__" : Str), cc)])
    (hpa : (fd.params.posonlyargs ++ fd.params.args).head? = some ar) (har : ar.arg = "self") (hcd : fd.code = .ref c2) (hc2 : s.heap.get? c2 = some o2) (hc3 : o2.data = .fields cs) (hc4 : cs[2]? = some (.str file tf)) (hfi : (prog.main.file == file) = true)
    (hns : (prog.main.scope.names.lookup ("super" : Str)).isSome = false) (gN : s.heap.Ns fd.globals mg) (gs : mg "super" = none) (bN : s.heap.Ns fd.builtins mb) (bs : mb "super" = some (.type "super")) (hcc : s.heap.IsCell cc (some (.ref C)))
    (hL : s.heap.Ns L m) (hm : m "self" = some (.ref e)) (hC : s.heap.get? C = some oC) (hCd : oC.data = .cls cd) (he : s.heap.get? e = some oe) (hec : oe.cls = .ref C) (hen : ∀ c, oe.data ≠ .cls c)
    (hty : PySem.W.Looks (model prog w) s.heap (isType (.ref C)) true) (hself : PySem.W.Looks (model prog w) s.heap (isSubtype (.ref C) (.ref C)) true)
    (hq : ∀ (h' : Heap), h'.get? s.heap.objs.size = some { cls := .type "super", data := .fields #[.ref C, .ref e, .ref C] } → (∀ b o, s.heap.get? b = some o → h'.get? b = some o) → Q (.ref s.heap.objs.size) { s with heap := h' }) :
    PySem.wpAt (model prog w) A (Code.func body (callEnv fd L fI)) (attributeBase (.Call (.Name "super" p0) [] [] p1) "__init__" (callEnv fd L fI) whole) Q E s := by
  refine ks_wpAt_super_base (f := fI) (cc := c2) h3 h4 rfl rfl hfI hfd hpa hcd hc2 hc3 hc4 hfi hns ?_
  refine PySem.W.ks_loadName_global g3 h3 ?_
  unfold loadGlobal
  refine wpAny_bind (wpAny_nsGet gN ?_)
  rw [gs]
  refine wpAny_bind (wpAny_nsGet bN ?_)
  rw [bs]
  refine wpAny_pure ⟨rfl, wpAny_loadName_free (c := cc) g3 h4 (by show List.lookup _ fd.closure = _; rw [hcl]; rfl) hcc ?_⟩
  rw [har]
  refine wpAny_loadName_local g3 h1 hL hm (hty.at ⟨rfl, ?_⟩)
  obtain ⟨h, g, d, t, os⟩ := s
  exact ks_wpAny_call_super hC hCd he hec hen hself fun h' a b => hq h' a b
end
end L2
namespace L2
open PySem PySem.Spec PyProof.Rows
section
variable {prog : Program} {w : World} {A : Around} {E : Value → Shared → Prop} {s : Shared}
theorem with_wrapper {Q : Value → Shared → Prop} {x : Sem Value} {fs : Expr} {env : Env} {pos : Pos} {mw : Addr} {vs : Array Value} (hst : starEach [fs] env = [(false, x)])
    (h : wpAny (model prog w) A x (fun u s1 => s1.heap.get? mw = some { cls := .type "method-wrapper", data := .fields vs } ∧ wpAny (model prog w) A (call (.ref mw) [u]) Q E s1) E s) :
    wpAny (model prog w) A (callWith pos (.ref mw) [] (backTo pos (starEach [fs] env)) []) Q E s := by
  rw [hst]
  unfold callWith
  refine wpAny_bind (wpAny_holding (Calls.evalArgs_plain ?_))
  unfold spliced
  refine wpAny_bind (wpAny_ite_false rfl (thn h fun u s1 hz => ?_))
  obtain ⟨hm, hc⟩ := hz
  refine wpAny_ite_false rfl (wpAny_bind (wpAny_pure (wpAny_bind (wpAny_holding ?_))))
  unfold spliced
  refine wpAny_pure (wpAny_pure ?_)
  refine wpAny_bind (wpAny_standAt ?_)
  unfold keeperOf
  refine wpAny_bind (wpAny_bind (wpAny_load' hm (wpAny_ite_true (show decide ((Value.type "method-wrapper" != Value.type "method") = true) = true by decide +kernel) (wpAny_pure ?_))))
  have k : (if ((Value.type "method-wrapper" == Value.type "builtin_function_or_method") || (Value.type "method-wrapper" == Value.type "method-wrapper")) = true then Keeper.machine else Keeper.caller) = Keeper.machine := by decide +kernel
  dsimp only
  rw [k]
  show wpAny (model prog w) A (do let r ← call (Value.ref mw) [u]; holding [r] point; pure r) Q E s1
  exact wpAny_bind (thn hc fun r s2 hr => wpAny_bind (wpAny_holding (wpAny_point (wpAny_pure hr))))
end
end L2
namespace L2
open PySem PySem.Spec PyProof.Rows
section
variable {prog : Program} {w : World} {A : Around} {s : Shared} {K : PySem.W.Frag}
theorem lookS {Xn : Str} {u v : Value} (h : Xn ≠ "self") : List.lookup ("self" : Str) [(("self" : Str), v), (Xn, u)].reverse = some v := by
  show List.lookup ("self" : Str) [(Xn, u), (("self" : Str), v)] = _
  have : (("self" : Str) == Xn) = false := by simp [Ne.symm h]
  simp [List.lookup, this]
theorem init_run {R : Result → Shared → Prop} {fI e C cc c2 : Addr} {oI oC o2 : Obj} {fd : FuncData} {cd : ClassData} {Xn : Str} {u : Value} {p0 p1 p2 p3 p4 p5 p6 p7 p8 : Pos} {fs : Expr} {ar : Arg} {cs : Array Value} {file : Str} {tf : Tok} {mg mb : Str → Option Value}
    {nm q : Str} {N : Addr} {bs bm : List Value} {hdct : Bool} {sn : List Str} {sub : List Value} {ab : Bool} {col : Option Bool} {dd : Option Addr} {k0 k1 k2 k3 k5 : Option Value} {newId : String} {vs : Array Value} {sl : Array (Option Value)} {v0 : Value}
    (X : K.In s.heap) (hd : A.depth < recursionLimit) (hfI : s.heap.get? fI = some oI) (hfd : oI.data = .func fd) (lim : s.heap.NoLimit) (hcr : s.heap.CodeRec fd.code fd.qualname)
    (hb : fd.body = .stmts [.Expr (.Call (.Attribute (.Call (.Name "super" p0) [] [] p1) "__init__" p2) [fs] [] p3) p4, .Assign [.Attribute (.Name "self" p5) Xn p6] (.Name Xn p7) p8])
    (hbi : BindsTo s fd ⟨[.ref e, u], []⟩ [(("self" : Str), .ref e), (Xn, u)]) (hXs : Xn ≠ "self") (hce : ∀ x ∈ fd.scope.names, x.2 ≠ NameKind.cell) (h1 : fd.scope.names.lookup ("self" : Str) = some NameKind.local) (hX2 : fd.scope.names.lookup Xn = some NameKind.local)
    (h3 : fd.scope.names.lookup ("super" : Str) = some NameKind.globalImplicit) (h4 : fd.scope.names.lookup ("__class__" : Str) = some NameKind.free) (g1 : fd.scope.isCoroutine = false) (g2 : fd.scope.isGenerator = false) (g3 : fd.scope.kind = .function) (hcl : fd.closure = [(("__class__" : Str), cc)])
    (hpa : (fd.params.posonlyargs ++ fd.params.args).head? = some ar) (har : ar.arg = "self") (hcd : fd.code = .ref c2) (hc2 : s.heap.get? c2 = some o2) (hc3 : o2.data = .fields cs) (hc4 : cs[2]? = some (.str file tf)) (hfi : (prog.main.file == file) = true)
    (hns : (prog.main.scope.names.lookup ("super" : Str)).isSome = false) (gN : s.heap.Ns fd.globals mg) (gs : mg "super" = none) (bN : s.heap.Ns fd.builtins mb) (bs' : mb "super" = some (.type "super")) (hcc : ∀ h' : Heap, (∀ b o, s.heap.get? b = some o → h'.get? b = some o) → h'.IsCell cc (some (.ref C)))
    (hC : s.heap.get? C = some (excClassObj nm q C N bs bm hdct sn sub ab col dd k0 k1 k2 k3 k5 newId)) (T : OwnTail s.heap bmV bm) (he : s.heap.get? e = some { cls := .ref C, dict := none, data := .fields vs, slots := sl }) (hv0 : vs[0]? = some v0) (heC : e ≠ C)
    (hty : ∀ h : Heap, K.In h → PySem.W.Looks (model prog w) h (isType (.ref C)) true) (hself : ∀ h : Heap, K.In h → PySem.W.Looks (model prog w) h (isSubtype (.ref C) (.ref C)) true) (hval : ∀ h : Heap, K.In h → PySem.W.Looks (model prog w) h (isSubtype (.ref C) (.type "ValueError")) true)
    (hno : ∀ h : Heap, K.In h → PySem.W.Looks (model prog w) h (opaqueClassAbove (.ref C)) none) (hmr : ∀ h : Heap, K.In h → PySem.W.Looks (model prog w) h (mroOf (.ref C)) (.ref C :: bm))
    (hst : ∀ L, starEach [fs] (callEnv fd L fI) = [(false, eval fs (callEnv fd L fI))])
    (pl : Addr → Sem Bool) (heq : ∀ L, eval (.Call (.Attribute (.Call (.Name "super" p0) [] [] p1) "__init__" p2) [fs] [] p3) (callEnv fd L fI) = do
      let ov ← attributeBase (.Call (.Name "super" p0) [] [] p1) "__init__" (callEnv fd L fI) (eval (.Call (.Name "super" p0) [] [] p1) (callEnv fd L fI))
      standAt p2.atName
      let x ← holding [ov] (getMethod ov "__init__" (pl L))
      match x with
      | (f, first) => callWith p3 f first (backTo p3 (starEach [fs] (callEnv fd L fI))) []) (hin : ∀ L, interactive (callEnv fd L fI) = false) (hsw : ∀ L, swapsWith (.Name Xn p7) (some (.Attribute (.Name "self" p5) Xn p6)) p8.line (callEnv fd L fI) = pure false)
    (hs : PySem.W.findIn K (.ref C) "__setattr__" = some (some (.builtin "object.__setattr__"))) (hp : overV K C = true) (ht : PySem.W.takerIn K C Xn = some none) (hh : PySem.W.hasDictIn K C = true)
    (hdb : (Xn == ("__debug__" : Str)) = false) (hKe : ∀ o, K.lookup e ≠ some o) (hJ : ∀ (h : Heap) (vs' : Array Value), h.get? e = some { cls := .ref C, dict := none, data := .fields vs', slots := sl } → PySem.W.InstAt h e { cls := .ref C, dict := none, data := .fields vs', slots := sl } C none)
    (hq : ∀ (h' : Heap) (dx t : Addr) (tk : Nat), s.heap.get? dx = none → h'.get? e = some { cls := .ref C, dict := some dx, data := .fields (vs.setIfInBounds 0 (.ref t)), slots := sl } → h'.Ns1 dx (fun y => if y = Xn then some u else none) → (∀ b o, b ≠ e → s.heap.get? b = some o → h'.get? b = some o) → R (.ok (.ret .none)) { s with heap := h', toks := tk })
    (hf : ∀ (L : Addr) (A1 : Around) (s1 : Shared) (E1 : Value → Shared → Prop) (Q1 : Value → Shared → Prop), (s1.heap.Ns L fun x => List.lookup x [(("self" : Str), Value.ref e), (Xn, u)].reverse) → (∀ msg tk, Q1 msg { s1 with toks := tk }) → wpAny (model prog w) A1 (eval fs (callEnv fd L fI)) Q1 E1 s1) :
    codeAny (model prog w) A (.call (.ref fI) ⟨[.ref e, u], []⟩) R s := by
  refine ks_codeAny_call_defAt hd hfI hfd lim hcr hb hbi hce ?_ (fun h0 hn hk => ?_) g1 g2 g3
  · intro x hx
    rcases List.mem_cons.mp hx with z | z
    · rw [z]; exact h1
    · rw [List.mem_singleton.mp z]; exact hX2
  have X0 := X.keeps hk
  refine ks_wpAt_execs_cons (ks_wpAt_Expr_any (ks_wpAt_MethodCall (pl := pl s.heap.objs.size) (super_at (K := K) (oC := excClassObj nm q C N bs bm hdct sn sub ab col dd k0 k1 k2 k3 k5 newId) (e := e) X0 (hk _ _ hfI) hfd h1 h3 h4 g3 hcl hpa har hcd (hk _ _ hc2) hc3 hc4 hfi hns (gN.keeps hk) gs (bN.keeps hk) bs' (hcc _ hk) hn ?self (hk _ _ hC) rfl (hk _ _ he) rfl (by intro c z; cases z) (hty _ X0) (hself _ X0) (fun h1' so1 k1' => ?go)) ?eq) ?i1 ?i2)
  case eq => exact heq _
  case i1 => exact hin _
  case i2 => rfl
  case self => exact lookS hXs
  case go =>
    have hk1 : ∀ b o, s.heap.get? b = some o → h1'.get? b = some o := fun b o z => k1' _ _ (hk _ _ z)
    have X1 := X.keeps hk1
    have T1 := T.keeps hk1
    refine super_init (l₀ := .ref C :: bm) (l := bm) so1 (hno _ X1) (hmr _ X1) (by simp) heC T1 (hk1 _ _ he) rfl (hval _ X1) ?_
    refine with_wrapper (hst _) (hf _ _ _ _ _ ?_ fun msg tk => ⟨Heap.get?_push_size _ rfl, ?_⟩)
    · exact (hn.keeps k1').keeps fun b o z => Heap.get?_push_of_some _ z
    refine call_wrapper (Heap.get?_push_size _ rfl) (Heap.get?_push_of_some _ (hk1 _ _ hC)) (Heap.get?_push_of_some _ (hk1 _ _ he)) rfl rfl hv0 ?_
    dsimp only
    generalize hh1 : ((h1'.push { cls := .type "method-wrapper", data := .fields #[.builtin "ValueError.__init__", .ref e] }).push { cls := .type "tuple", data := .seq #[msg] }).update e (Obj.mapFields fun y => y.setIfInBounds 0 (.ref (h1'.push { cls := .type "method-wrapper", data := .fields #[.builtin "ValueError.__init__", .ref e] }).objs.size)) = h2
    have e0 : ((h1'.push { cls := .type "method-wrapper", data := .fields #[.builtin "ValueError.__init__", .ref e] }).push { cls := .type "tuple", data := .seq #[msg] }).get? e = some { cls := .ref C, dict := none, data := .fields vs, slots := sl } := Heap.get?_push_of_some _ (Heap.get?_push_of_some _ (hk1 _ _ he))
    have e2 : h2.get? e = some { cls := .ref C, dict := none, data := .fields (vs.setIfInBounds 0 (.ref (h1'.push { cls := .type "method-wrapper", data := .fields #[.builtin "ValueError.__init__", .ref e] }).objs.size)), slots := sl } := by
      rw [← hh1]
      exact Heap.get?_update_self _ e0 rfl
    have k2 : ∀ b o, b ≠ e → h1'.get? b = some o → h2.get? b = some o := fun b o n z => by
      rw [← hh1, Heap.get?_update_ne _ _ _ _ n]
      exact Heap.get?_push_of_some _ (Heap.get?_push_of_some _ z)
    have k3 : ∀ b o, b ≠ e → s.heap.get? b = some o → h2.get? b = some o := fun b o n z => k2 b o n (hk1 b o z)
    refine ks_wpAt_execs_cons (ks_wpAt_Assign_Attr (PySem.wpAt_of_wpAny ?_) (hsw _))
    have L0 : s.heap.objs.size ≠ e := (Nat.ne_of_lt (Heap.lt_size he)).symm
    have no2 : h2.get? h2.objs.size = none := Heap.get?_none_of_le (Nat.le_refl _)
    have hn2 : h2.Ns s.heap.objs.size fun x => List.lookup x [(("self" : Str), Value.ref e), (Xn, u)].reverse := by
      obtain ⟨o, es, ep, z1, z2⟩ := hn.keeps k1'
      exact ⟨o, es, ep, k2 _ _ L0 z1, z2⟩
    have hmX : List.lookup Xn [(("self" : Str), Value.ref e), (Xn, u)].reverse = some u := by simp [List.lookup]
    have hmS : List.lookup ("self" : Str) [(("self" : Str), Value.ref e), (Xn, u)].reverse = some (Value.ref e) := lookS hXs
    refine wpAny_Name (wpAny_loadName_local g3 hX2 hn2 hmX (wpAny_Name (wpAny_loadName_local g3 h1 hn2 hmS ?_) (by decide))) hdb
    have X2 : K.In h2 := fun a o z => k3 a o (fun y => hKe o (y ▸ z)) (X a o z)
    refine set_exc X2 (hJ _ _ e2) e2 hs hp ht hh rfl fun h3' y1 y2 y3 => ?_
    refine PySem.wpAt_of_wpAny (wpAny_execs_nil ?_)
    refine hq h3' _ _ _ ?_ y1 y2 fun b o n z => y3 b o n (fun y => ?_) (k3 b o n z)
    · cases z : s.heap.get? h2.objs.size with
      | none => rfl
      | some o =>
        by_cases ne : h2.objs.size = e
        · rw [ne, e2] at no2; cases no2
        · have := k3 _ _ ne z
          rw [no2] at this; cases this
    · have := k3 _ _ n z
      rw [y, no2] at this; cases this
end
end L2
namespace L2
open PySem PySem.Spec PyProof.Rows
section
variable {prog : Program} {w : World} {A : Around} {E : Value → Shared → Prop} {s : Shared}
theorem fstr_eval {Q : Value → Shared → Prop} {env : Env} {x Xn y : Str} {k : Nat} {pa pb pc pd : Pos} {m : Str → Option Value} {v : V} {u : Value} (g3 : env.scope.kind = .function) (hX : env.kindOf Xn = some NameKind.local) (hdb : (Xn == ("__debug__" : Str)) = false)
    (hn : s.heap.Ns env.locals m) (hm : m Xn = some u) (r : RelV v u) (sh : Shown v y) (hx : (Str.empty ++ x).length ≤ sizeLine) (hl : (Str.empty ++ x ++ y).length ≤ sizeLine) (hq : ∀ msg tk, Q msg { s with toks := tk }) :
    wpAny (model prog w) A (eval (.JoinedStr [.Constant (.str x) k pa, .FormattedValue (.Name Xn pb) (-1) none pc] pd) env) Q E s := by
  refine wpAny_JoinedStr (Joins_cons (Calls.Constant_str ⟨x, _, rfl, hx, Joins_cons (wpAny_FormattedValue_plain (wpAny_Name (wpAny_loadName_local g3 hX hn hm ?_) hdb))⟩))
  cases sh with
  | int hz =>
    obtain ⟨t1, rfl⟩ := r
    exact wpAny_formatField_int hz ⟨_, _, rfl, hl, ⟨hl, hq _ _⟩⟩
  | str hz =>
    obtain ⟨t1, rfl⟩ := r
    exact wpAny_formatField_str ⟨_, _, rfl, hl, ⟨hl, hq _ _⟩⟩ ⟨_, _, rfl, hl, ⟨hl, hq _ _⟩⟩ hz
  | non =>
    cases r
    exact wpAny_formatField_none ⟨_, _, rfl, hl, ⟨hl, hq _ _⟩⟩
end
end L2
namespace L2
open PySem PySem.Spec PyProof.Rows
section
variable {nm q : Str} {C N : Addr} {bs bm : List Value} {hdct : Bool} {sn : List Str} {sub : List Value} {ab : Bool} {col : Option Bool} {dd : Option Addr} {k0 k1 k2 k3 k5 : Option Value} {newId : String}
theorem raise_madeD {M : Model} {A : Around} {E : Value → Shared → Prop} {env : Env} {s : Shared} {x : Sem Value} {Q : Flow → Shared → Prop} (hbase : bm.contains (.type "BaseException") = true) (hh : A.handled = none)
    (h : wpAny M A x (fun v s1 => ∃ e dx vs sl, v = .ref e ∧ s1.heap.get? C = some (excClassObj nm q C N bs bm hdct sn sub ab col dd k0 k1 k2 k3 k5 newId) ∧ s1.heap.get? e = some { cls := .ref C, dict := dx, data := .fields vs, slots := sl } ∧ vs[1]? = some .none ∧ vs[2]? = some .none ∧ E (.ref e) s1) E s) :
    wpAny M A (raiseStmt env (some x) none) Q E s := by
  have up : (Value.ref C :: bm).contains (.type "BaseException") = true := by rw [List.contains_cons, hbase, Bool.or_true]
  unfold raiseStmt
  refine wpAny_bind (wpAny_mono h (fun v s1 h1 => ?_) fun _ _ z => z)
  obtain ⟨e, dx, vs, sl, rfl, hC, he, v1, v2, hE⟩ := h1
  obtain ⟨hp, g, d, tk, os⟩ := s1
  repeat (first | with_reducible refine wpAny_loadPart_at he ?_ | with_reducible refine wpAny_loadPart_at hC ?_ | (with_reducible refine wpAny_isSubtype_exc hC ?_; rw [up]) | wp_step)
  rw [v1]
  exact wpAny_pure (wpAny_ite_false (by decide) (wpAny_pure (wpAny_raiseNew_none hh hE)))
theorem raise_callI {prog : Program} {w : World} {A : Around} {E : Value → Shared → Prop} {env : Env} {s : Shared} {mN : Str → Option Value} {x : Str} {np cpos pos : Pos} {args : List Expr} {fI : Addr} {Q : Flow → Shared → Prop}
    (hbase : bm.contains (.type "BaseException") = true) (hh : A.handled = none) (hpl : (backTo cpos (starEach args env)).any (·.1) = false) (hi : mN (Str.ofString "__init__") = some (.ref fI))
    (h : wpAny (model prog w) A (eval (.Name x np) env) (fun f s1 => f = .ref C ∧ wpAny (model prog w) A (evalArgs (.ref C) true (backTo cpos (starEach args env)) [])
      (fun a s2 => a.kw = [] ∧ a.pos.length ≤ sizeLine ∧ s2.heap.get? C = some (excClassObj nm q C N bs bm hdct sn sub ab col dd k0 k1 k2 k3 k5 "ValueError.__new__") ∧ s2.heap.Ns N mN ∧ OwnTail s2.heap bmV bm ∧ (∃ oI, s2.heap.get? fI = some oI ∧ oI.cls = .type "function") ∧
        ∀ h' e, Heap.MadeExcOf s2.heap h' e (.ref C) a.pos → wpAny (model prog w) (A.under (Code.builtin "type.__call__" { pos := Value.ref C :: a.pos })) (call (.ref fI) (.ref e :: a.pos))
          (fun r s' => r = .none ∧ ∃ dx vs sl, s'.heap.get? C = some (excClassObj nm q C N bs bm hdct sn sub ab col dd k0 k1 k2 k3 k5 "ValueError.__new__") ∧ s'.heap.get? e = some { cls := .ref C, dict := dx, data := .fields vs, slots := sl } ∧ vs[1]? = some .none ∧ vs[2]? = some .none ∧ E (.ref e) s') E { s2 with heap := h' }) E s1) E s) :
    wpAny (model prog w) A (exec (.Raise (some (.Call (.Name x np) args [] cpos)) none pos) env) Q E s := by
  rw [arm_exec_Raise]
  refine wpAny_bind (wpAny_standAt (raise_madeD (C := C) (nm := nm) (q := q) (N := N) (bs := bs) (bm := bm) (hdct := hdct) (sn := sn) (sub := sub) (ab := ab) (col := col) (dd := dd) (k0 := k0) (k1 := k1) (k2 := k2) (k3 := k3) (k5 := k5) (newId := "ValueError.__new__") hbase hh ?_))
  refine wpAny_bind (wpAny_mono (wpAny_Call_ofName (wpAny_mono h (fun f s1 h1 => ?_) fun _ _ z => z)) (fun v s3 h3 => wpAny_bind (wpAny_standAt (wpAny_pure h3))) fun _ _ z => z)
  obtain ⟨rfl, h1⟩ := h1
  unfold callWith
  refine wpAny_bind (wpAny_holding (wpAny_mono h1 (fun a s2 h2 => wpAny_bind (wpAny_standAt ?_)) fun _ _ z => z))
  obtain ⟨ap, ak⟩ := a
  obtain ⟨hk, hl, hC, hn, T, ⟨oI, hf, hfc⟩, h2⟩ := h2
  obtain rfl : ak = [] := hk
  obtain ⟨hp, g, d, tk, os⟩ := s2
  simp only [hpl]
  refine wpAny_bind (wpAny_keeperOf_exc hC ?_)
  refine wpAny_bind (call_initT (hrest := hl) PySem.F.excBase_ValueError T hC hn hi hf hfc fun h' e hm => ?_)
  refine wpAny_mono (h2 h' e hm) (fun r s' z => ⟨z.1, wpAny_bind (wpAny_holding (wpAny_point (wpAny_pure ?_)))⟩) fun _ _ z => z
  obtain ⟨_, dx, vs, sl, z1, z2, z3, z4, z5⟩ := z
  exact ⟨e, dx, vs, sl, rfl, z1, z2, z3, z4, z5⟩
end
structure InitK (P : Program) (w : World) (K : PySem.W.Frag) (mg : Str → Option Value) (C fI : Addr) (Xn : Str) : Prop where
  obj : ∀ {h : Heap}, K.In h → ∃ bm N nm qn bs hd sn sub ab col dd k0 k1 k2 k3 k5 mN, h.get? C = some (excClassObj nm qn C N bs bm hd sn sub ab col dd k0 k1 k2 k3 k5 "ValueError.__new__") ∧ h.Ns N mN ∧ mN (Str.ofString "__init__") = some (.ref fI) ∧ OwnTail h bmV bm
  fn : ∃ oI, K.lookup fI = some oI ∧ oI.cls = .type "function"
  run : ∀ (A : Around) (s : Shared) (e : Addr) (v : V) (u : Value) (y : Str) (R : Result → Shared → Prop) (vs : Array Value) (sl : Array (Option Value)) (v0 : Value), K.In s.heap → A.depth < recursionLimit → s.heap.NoLimit → s.heap.Ns mainGlobals mg →
    (∃ mb, s.heap.Ns builtinsNs mb ∧ ∀ x : Str, x ≠ "__name__" → mb x = bootBuiltins x) → s.heap.get? e = some { cls := .ref C, dict := none, data := .fields vs, slots := sl } → vs[0]? = some v0 → K.lookup e = none → RelV v u → Shown v y → y.length ≤ 700 →
    (∀ (h' : Heap) (dx t : Addr) (tk : Nat), s.heap.get? dx = none → h'.get? e = some { cls := .ref C, dict := some dx, data := .fields (vs.setIfInBounds 0 (.ref t)), slots := sl } → h'.Ns1 dx (fun y => if y = Xn then some u else none) →
      (∀ b o, b ≠ e → s.heap.get? b = some o → h'.get? b = some o) → R (.ok (.ret .none)) { s with heap := h', toks := tk }) → codeAny (model P w) A (.call (.ref fI) ⟨[.ref e, u], []⟩) R s
def tRaiseI (C : Addr) (Xn : Str) (E : XK) (t : TA) : TS := fun _ σ H => t σ H fun vs H1 => ∃ v, vs = [v] ∧ (∃ y, Shown v y ∧ y.length ≤ 700) ∧ ∀ dx, H1 dx = none → E (.ref C) (some dx) (upd H1 dx (.xd [(Xn, v)]))
theorem un_new {fs ex : List Addr} {H H' : Hp} {h h' : Heap} {a : Addr} {o : HO} (u : Un fs ex H H' h h') (n : h.get? a = none) (e : H' a = none) : Un fs ex H (upd H' a o) h h' :=
  have ne : ∀ b u, H' b = some u → b ≠ a := fun b u q z => by rw [z, e] at q; cases q
  ⟨u.keep, u.slot, fun b o q m hx => by rw [upd_ne (fun z => by rw [z, n] at q; cases q)]; exact u.free b o q m hx, u.there, fun b xs q => by rw [upd_ne (ne b _ (u.tups b xs q))]; exact u.tups b xs q,
   fun b o xs q => by rw [upd_ne (ne b _ (u.frzs b o xs q))]; exact u.frzs b o xs q, fun b p q => by
    obtain ⟨m, z⟩ := u.tbls b p q
    exact ⟨m, by rw [upd_ne (ne b _ z)]; exact z⟩⟩
theorem hok_new {P : Program} {w : World} {H : Hp} {h h' : Heap} {a : Addr} {o : HO} (x : HOk P w H h) (k : ∀ b u, h.get? b = some u → h'.get? b = some u) (e : H a = none) (new : ObjOk P w (upd H a o) h' a o) : HOk P w (upd H a o) h' := fun b u q => by
  by_cases hb : b = a
  · subst hb
    rw [upd_same] at q; cases q
    exact new
  · rw [upd_ne hb] at q
    have ne : ∀ c v, H c = some v → c ≠ a := fun c v r z => by rw [z, e] at r; cases r
    exact (x b u q).stay (fun c v _ r => k c v r) (fun c r => by rw [upd_ne (ne c _ r)]; exact r) fun c xs r => by rw [upd_ne (ne c _ r)]; exact r
section
variable {P : Program} {w : World} {K : PySem.W.Frag} {mg : Str → Option Value} {base : Heap} {N : List Str} {qual : Str} {scope : Scope} {f : Addr} {cd : Value} {A : Around} {outer : List Env} {s : Shared} {H : Hp} {E : XK}
theorem ps_raiseI {x Xn : Str} {C fI : Addr} {e0 : Expr} {t : TA} {k : Nat} {np cpos pos : Pos} (hA : Room (k + 1) (cxOf (CXE P w) P w K mg base N qual scope f cd A outer s H E).A)
    (hc : (cxOf (CXE P w) P w K mg base N qual scope f cd A outer s H E).calm = true) (hg : Gl (cxOf (CXE P w) P w K mg base N qual scope f cd A outer s H E) x) (hm : mg x = some (.ref C)) (q : InitK P w K mg C fI Xn) (ha : PA (cxOf (CXE P w) P w K mg base N qual scope f cd A outer s H E) [e0] t) (hd : (x == ("__debug__" : Str)) = false := by decide)
    (he : starEach [e0] (cxOf (CXE P w) P w K mg base N qual scope f cd A outer s H E).env = [(false, eval e0 (cxOf (CXE P w) P w K mg base N qual scope f cd A outer s H E).env)] := by rfl) :
    PS (cxOf (CXE P w) P w K mg base N qual scope f cd A outer s H E) (.Raise (some (.Call (.Name x np) [e0] [] cpos)) none pos) (tRaiseI C Xn E t) := by
  intro pins s0 σ H0 D I h
  obtain ⟨bm, Nn, nm, qn, bs, hdt, sn, sub, ab, col, dd, k0, k1, k2, k3, k5, mN, hC, hN, hi, T⟩ := q.obj I.mod.kin
  refine raise_callI (C := C) (nm := nm) (q := qn) (N := Nn) (bs := bs) (bm := bm) (hdct := hdt) (sn := sn) (sub := sub) (ab := ab) (col := col) (dd := dd) (k0 := k0) (k1 := k1) (k2 := k2) (k3 := k3) (k5 := k5) (mN := mN) (T.hasType PySem.F.excBase_ValueError.hasBase) (I.ok.hd hc) (by rw [he]; rfl) hi (ld_glob I hg hm ⟨rfl, ?_⟩ hd)
  have hb := ha cpos pins s0 σ H0 _ I h
  rw [he] at hb ⊢
  refine Calls.evalArgs_plain (thn hb fun us s1 ⟨vs, H1, I1, r1, v, hv, ⟨y, sh, hy⟩, z⟩ => ?_)
  subst hv
  obtain ⟨oI, lI, cI⟩ := q.fn
  cases r1 with
  | @cons _ u _ _ r rt =>
  cases rt
  refine ⟨rfl, (by show 1 ≤ sizeLine; decide), I1.bk _ _ hC, hN.keeps I1.bk, T.keeps I1.bk, ⟨oI, I1.kIn _ _ lI, cI⟩, fun h' e hm => ?_⟩
  obtain ⟨t1, e1, t2, t3⟩ := hm.there
  obtain ⟨mb, b1, b2⟩ := I1.mod.blt
  have kb : ∀ b o, base.get? b = some o → h'.get? b = some o := fun b o z => hm.keeps _ _ (I1.bk b o z)
  have lk : K.lookup e = none := by
    cases z : K.lookup e with
    | none => rfl
    | some o => have y := I1.kIn _ _ z; rw [hm.new] at y; cases y
  refine wpAny_call (q.run _ { s1 with heap := h' } e v u y _ _ _ _ (I1.kIn.keeps hm.keeps) (hA.make C [u] []).depth (I1.nolimit.keeps hm.keeps) (I1.mod.glob.keeps kb) ⟨mb, b1.keeps kb, b2⟩ e1 rfl lk r sh hy fun h2 dx t' tk n1 n2 n3 n4 => ?_)
  have k2 : ∀ b o, s1.heap.get? b = some o → h2.get? b = some o := fun b o z => n4 b o (fun y => by rw [y, hm.new] at z; cases z) (hm.keeps b o z)
  have dn : s1.heap.get? dx = none := by
    cases z : s1.heap.get? dx with
    | none => rfl
    | some o => have y := hm.keeps _ _ z; rw [n1] at y; cases y
  have hdx := I1.hok.none_of dn
  have ed : e ≠ dx := fun y => by rw [← y, e1] at n1; cases n1
  have nw : ObjOk P w (upd H1 dx (.xd [(Xn, v)])) h2 dx (.xd [(Xn, v)]) := ⟨_, n3, fun f => by
    by_cases hf : f = Xn
    · subst hf; simp only [List.lookup, beq_self_eq_true, if_true]; exact r
    · have z : (f == Xn) = false := beq_eq_false_iff_ne.mpr hf
      simp only [List.lookup, z, if_neg hf]; exact trivial⟩
  exact ⟨rfl, some dx, _, _, k2 _ _ (I1.bk _ _ hC), n2, rfl, rfl,
    throw_out (s2 := { s1 with heap := h2, toks := tk }) I1 rfl I1.bare (un_new (Un.kept k2) dn hdx) (hok_new I1.hok k2 hdx nw) (by rw [upd_ne ed]; exact I1.hok.none_of hm.new) hm.new n2 rfl rfl rfl (z dx hdx)⟩
end
end L2
namespace L2
open PySem PySem.Spec PyProof.Rows
section
variable {prog : Program} {w : World} {A : Around} {E : Value → Shared → Prop} {K : PySem.W.Frag} {C e : Addr} {ox : Obj} {od : Option Obj}
theorem ga_own {s : Shared} {name : Str} {tk : Tok} {v : Value} {Q : PySem.Fin → Shared → Prop} (X : K.In s.heap) (J : PySem.W.InstAt s.heap e ox C od) (hf : PySem.W.findObj K C od name = some (.value v)) (h : Q (.done (.ret v)) s) :
    wpAny (model prog w) A (Builtin.«object.__getattribute__» ⟨[.ref e, .str name tk], []⟩) Q E s := by
  obtain ⟨hh, gg, d, t, os⟩ := s
  have T0 := J.type (M := model prog w)
  have T1 := PySem.W.looks_find (M := model prog w) X J hf
  unfold Builtin.«object.__getattribute__»
  repeat (first | with_reducible refine T0.at ?_ | with_reducible refine T1.at ?_ | wp_step)
  exact h
theorem exc_attr {s : Shared} {name : Str} {v : Value} {expr : Bool} {Q : Value → Shared → Prop} (c : ClsX K C) (X : K.In s.heap) (J : PySem.W.InstAt s.heap e ox C od) (hf : PySem.W.findObj K C od name = some (.value v)) (hv : PySem.W.handedIn v = true) (h : Q v { s with toks := s.toks + 1 }) :
    wpAny (model prog w) A (getAttr (.ref e) name expr) Q E s := by
  obtain ⟨hh, gg, d, t, os⟩ := s
  have T0 := J.type (M := model prog w)
  have T1 := PySem.W.looks_findIn (M := model prog w) X c.ga
  have T2 := PySem.W.looks_findIn (M := model prog w) X c.no
  have f3 := PySem.F.attr_ValueError.ga.bind (.ref e)
  unfold getAttr getAttrBy
  refine wpAny_bind (wpAny_mkText (wpAny_holding (wpAny_bind (T0.at (wpAny_bind (T1.at ?_))))))
  have e1 : (onTheHeap (Value.ref C) && Value.builtin "BaseException.__getattribute__" == Value.builtin "object.__getattribute__") = false := by
    have z : (Value.builtin "BaseException.__getattribute__" == Value.builtin "object.__getattribute__") = false := by decide +kernel
    rw [z, Bool.and_false]
  dsimp only
  rw [e1]
  simp only [Bool.false_eq_true, if_false]
  unfold getAttrByItsOwn hookBefore
  repeat (first | with_reducible refine T2.at ?_ | assumption | wp_step)
  refine wpAny_ite_false (by cases expr <;> rfl) ?_
  unfold boundAndCalled
  repeat (first | assumption | wp_step)
  refine codeAny_call_builtin PySem.F.attr_ValueError.ga.plain F.entry_bexc_ga (ga_check c X J (ga_own X J hf ?_))
  show wpAny (model prog w) A (handedOut v) _ _ _
  exact PySem.W.handed_on hv h
end
def tXd (K : PySem.W.Frag) (ta : TE) (f : Str) : TE := fun σ H Q => ta σ H fun x H1 => ∃ e C d fs v, x = .ref e ∧ H1 e = some (ExcD C e (some d)) ∧ H1 d = some (.xd fs) ∧ ClsX K C ∧ PySem.W.findIn K (.ref C) f = some none ∧ fs.lookup f = some v ∧ Q v H1
theorem pe_xd {X : Cx} {o : Expr} {f : Str} {pos : Pos} {ta : TE} (he : PE X o ta) (hb : attributeBase o f X.env (eval o X.env) = eval o X.env := by rfl) : PE X (.Attribute o f pos) (tXd X.K ta f) := by
  intro pins s σ H Q I h
  refine attr_of hb (thn (he pins s σ H _ I h) fun u s1 ⟨x, H1, I1, rx, e, C, d, fs, v, ex, ee, ed, c, n, l, q⟩ => ?_)
  subst ex
  obtain rfl : u = Value.ref e := rx
  obtain ⟨⟨o, h1, h2, h3, h4⟩, _⟩ := I1.hok _ _ ee
  obtain ⟨mA, ns, r⟩ := I1.hok _ _ ed
  obtain ⟨od, g1, g2⟩ := lookIn_ns ns
  obtain ⟨u, hu, ru⟩ := RelO.some_of (v := v) (o := mA f) (by rw [← l]; exact r f)
  have J : PySem.W.InstAt s1.heap e o C (some od) := ⟨h1, h2, h4, by rw [h3]; exact g1⟩
  exact exc_attr c I1.kIn J (PySem.W.findObj_own c.hd n rfl (by rw [g2, hu])) (handed_of ru) ⟨v, H1, I1.tok _, ru, q⟩
end L2
namespace L2
open PySem PySem.Spec PyProof.Rows
theorem ns_some {K : PySem.W.Frag} {h : Heap} {N : Addr} {m : Str → Option Value} {x : Str} {v : Value} (X : K.In h) (G : h.Ns N m) (e : PySem.W.nsIn K N x = some (some v)) : m x = some v := by
  obtain ⟨o, es, ep, g1, g2, _, g3⟩ := G
  unfold PySem.W.nsIn at e
  split at e
  next a b fs fp sl lk =>
    have z := (X _ _ lk).symm.trans g1
    cases z
    cases g2
    split at e
    next en hen =>
      cases e
      rw [← g3]
      unfold nsFind findBy
      rw [← Array.find?_toList, hen]
      rfl
    next =>
      split at e
      · cases e
      · cases e
  next => cases e
theorem strLen (a b : Str) : (a ++ b).length = a.length + b.length := by
  show (a.cps ++ b.cps).size = a.cps.size + b.cps.size
  exact Array.size_append ..
theorem super_boot : bootBuiltins "super" = some (.type "super") := by decide +kernel
theorem initK_mk {P : Program} {w : World} {K : PySem.W.Frag} {mg : Str → Option Value} {C fI cc c2 : Addr} {Xn msg : Str} {odf o2d occd : Option Addr} {slf o2s ocs : Array (Option Value)} {o2c occ : Value} {fd : FuncData} {cs : Array Value} {file : Str} {tf : Tok} {ar : Arg} {k : Nat} {p0 p1 p2 p3 p4 p5 p6 p7 p8 pa pb pc pd : Pos}
    {bm : List Value} {N : Addr} {nm qn : Str} {bs : List Value} {hd ab : Bool} {sn : List Str} {sub : List Value} {col : Option Bool} {dd : Option Addr} {k0 k1 k2 k3 k5 : Option Value} (lC : K.lookup C = some (excClassObj nm qn C N bs bm hd sn sub ab col dd k0 k1 k2 k3 k5 "ValueError.__new__")) (tl : PySem.W.tailIn K bmV bm = true) (no : PySem.W.nsOkIn K N = true) (ni : PySem.W.nsIn K N "__init__" = some (some (.ref fI))) (lf : K.lookup fI = some ⟨.type "function", odf, .func fd, slf⟩) (cq : PySem.W.codeIn K fd.code fd.qualname = true)
    (hb : fd.body = .stmts [.Expr (.Call (.Attribute (.Call (.Name "super" p0) [] [] p1) "__init__" p2) [.JoinedStr [.Constant (.str msg) k pa, .FormattedValue (.Name Xn pb) (-1) none pc] pd] [] p3) p4, .Assign [.Attribute (.Name "self" p5) Xn p6] (.Name Xn p7) p8])
    (hbi : ∀ (s : Shared) (e : Addr) (u : Value), BindsTo s fd ⟨[.ref e, u], []⟩ [(("self" : Str), .ref e), (Xn, u)]) (hXs : Xn ≠ "self") (hce : ∀ x ∈ fd.scope.names, x.2 ≠ NameKind.cell) (h1 : fd.scope.names.lookup ("self" : Str) = some NameKind.local) (hX2 : fd.scope.names.lookup Xn = some NameKind.local)
    (h3 : fd.scope.names.lookup ("super" : Str) = some NameKind.globalImplicit) (h4 : fd.scope.names.lookup ("__class__" : Str) = some NameKind.free) (g1 : fd.scope.isCoroutine = false) (g2 : fd.scope.isGenerator = false) (g3 : fd.scope.kind = .function) (hcl : fd.closure = [(("__class__" : Str), cc)])
    (hpa : (fd.params.posonlyargs ++ fd.params.args).head? = some ar) (har : ar.arg = "self") (hcd : fd.code = .ref c2) (lc2 : K.lookup c2 = some ⟨o2c, o2d, .fields cs, o2s⟩) (hc4 : cs[2]? = some (.str file tf)) (hfi : (P.main.file == file) = true)
    (hns : (P.main.scope.names.lookup ("super" : Str)).isSome = false) (hgl : fd.globals = mainGlobals) (hbl : fd.builtins = builtinsNs) (gs : PySem.W.nsIn K mainGlobals "super" = some none) (lcc : K.lookup cc = some ⟨occ, occd, .cell (some (.ref C)), ocs⟩)
    (m1 : PySem.W.mroIn K C (.ref C) = some true) (m2 : PySem.W.mroIn K C (.type "ValueError") = some true) (op : PySem.W.nsIn K cStatics "thirdparty.any" = some none)
    (hline : (p2.endLine == p3.line) = true)
    (hin : ∀ L, interactive (callEnv fd L fI) = false) (hsw : ∀ L, swapsWith (.Name Xn p7) (some (.Attribute (.Name "self" p5) Xn p6)) p8.line (callEnv fd L fI) = pure false)
    (hs : PySem.W.findIn K (.ref C) "__setattr__" = some (some (.builtin "object.__setattr__"))) (hp : overV K C = true) (ht : PySem.W.takerIn K C Xn = some none) (hh : PySem.W.hasDictIn K C = true)
    (hdb : (Xn == ("__debug__" : Str)) = false) (hml : msg.length ≤ 100) : InitK P w K mg C fI Xn := by
  have obj : ∀ {h : Heap}, K.In h → h.Ns N (h.nsMap N) := fun X => .of_isNs (PySem.W.isNs_of_in X no)
  refine ⟨fun {h} X => ⟨bm, N, nm, qn, bs, hd, sn, sub, ab, col, dd, k0, k1, k2, k3, k5, h.nsMap N, X _ _ lC, obj X, ns_some X (obj X) ni, PySem.W.tail_of_in X tl⟩, ⟨_, lf, rfl⟩, ?_⟩
  intro A s e v u y R vs sl v0 X hdp lim gN ⟨mb, bN, bb⟩ he hv0 lk r sh hy hq
  obtain ⟨cdx, hcd', hmx⟩ : ∃ cdx, PySem.W.clsIn K C = some cdx ∧ cdx.mro = .ref C :: bm := ⟨_, by unfold PySem.W.clsIn; rw [lC], rfl⟩
  have heC : e ≠ C := fun z => by rw [z, lC] at lk; cases lk
  have heq : ∀ L, eval (.Call (.Attribute (.Call (.Name "super" p0) [] [] p1) "__init__" p2) [.JoinedStr [.Constant (.str msg) k pa, .FormattedValue (.Name Xn pb) (-1) none pc] pd] [] p3) (callEnv fd L fI) = (do
      let ov ← attributeBase (.Call (.Name "super" p0) [] [] p1) "__init__" (callEnv fd L fI) (eval (.Call (.Name "super" p0) [] [] p1) (callEnv fd L fI))
      standAt p2.atName
      let x ← holding [ov] (getMethod ov "__init__" (do return (← importBound (.Call (.Name "super" p0) [] [] p1) (callEnv fd L fI)).getD true))
      match x with
      | (f, first) => callWith p3 f first (backTo p3 (starEach [.JoinedStr [.Constant (.str msg) k pa, .FormattedValue (.Name Xn pb) (-1) none pc] pd] (callEnv fd L fI))) []) := fun L => by
    rw [arm_eval_Call]
    unfold methodCall calleeOf methodCallPos
    rw [hline]
    rfl
  refine init_run (cd := cdx) (oC := ⟨.none, none, .plain, #[]⟩) (C := C) (cc := cc) (c2 := c2) (Xn := Xn) (u := u) X hdp (X _ _ lf) rfl lim (PySem.W.codeRec_of X cq) hb (hbi s e u) hXs hce h1 hX2 h3 h4 g1 g2 g3 hcl hpa har hcd (X _ _ lc2) rfl hc4 hfi hns (hgl ▸ gN) (PySem.W.ns_none_of X gN gs) (hbl ▸ bN) ((bb "super" (by decide)).trans super_boot)
    (fun h' k => ⟨_, k _ _ (X _ _ lcc), rfl⟩) (X _ _ lC) (PySem.W.tail_of_in X tl) he hv0 heC (fun h Y => looks_isType Y (by rw [hcd']; rfl)) (fun h Y => PySem.W.looks_mroIn Y m1) (fun h Y => PySem.W.looks_mroIn Y m2) (fun h Y => PySem.W.looks_opaque Y op) (fun h Y => hmx ▸ (PySem.W.looks_clsIn Y hcd').andThen .now) (fun L => rfl) _ heq hin hsw hs hp ht hh hdb
    (fun o z => by rw [lk] at z; cases z) (fun h vs' z => ⟨z, rfl, rfl, trivial⟩) hq ?_
  intro L A1 s1 E1 Q1 hn hq1
  have len : ∀ z : Str, z.length ≤ 800 → z.length ≤ sizeLine := fun z h => Nat.le_trans h (by rw [sizeLine_eq]; decide)
  refine fstr_eval (v := v) (u := u) (y := y) g3 hX2 hdb hn (by simp [List.lookup]) r sh ?_ ?_ hq1
  · exact len _ (by rw [strLen]; show 0 + msg.length ≤ 800; omega)
  · exact len _ (by rw [strLen, strLen]; show 0 + msg.length + y.length ≤ 800; omega)
end L2
namespace L2
open PySem PySem.Spec PyProof.Rows
end L2
namespace L2
open PySem PySem.Spec PyProof.Rows
structure Apart5 (z TI TO i1 i2 : Addr) : Prop where
  TIz : TI ≠ z
  TOz : TO ≠ z
  i1z : i1 ≠ z
  i2z : i2 ≠ z
  TITO : TI ≠ TO
  TIi1 : TI ≠ i1
  TIi2 : TI ≠ i2
  TOi1 : TO ≠ i1
  TOi2 : TO ≠ i2
  i12 : i1 ≠ i2
section
variable {prog : Program} {w : World} {A : Around} {E : Value → Shared → Prop} {s : Shared} {z TI TO i1 i2 : Addr} {n1 n2 k : Nat} {P1 P2 : Nat → Value → Prop} {St1 St2 : Nat → Heap → Prop} {fp1 fp2 : List Addr} {a b : Value}
end
section
variable {prog : Program} {w : World} {A : Around} {E : Value → Shared → Prop} {s : Shared} {z TI TO i1 i2 : Addr} {n1 n2 k : Nat} {P1 P2 : Nat → Value → Prop} {St1 St2 : Nat → Heap → Prop} {fp1 fp2 : List Addr} {a b : Value}
end
section
variable {prog : Program} {w : World} {A : Around} {E : Value → Shared → Prop} {s : Shared}
end
end L2
namespace L2
open PySem PySem.Spec PyProof.Rows
section
variable {prog : Program} {w : World} {A : Around} {E : Value → Shared → Prop} {s : Shared}
end
theorem apart5 (n : Nat) : Apart5 (n + 4) (n + 2) (n + 3) n (n + 1) where
  TIz := show (n + 2 : Nat) ≠ n + 4 by omega
  TOz := show (n + 3 : Nat) ≠ n + 4 by omega
  i1z := show (n : Nat) ≠ n + 4 by omega
  i2z := show (n + 1 : Nat) ≠ n + 4 by omega
  TITO := show (n + 2 : Nat) ≠ n + 3 by omega
  TIi1 := show (n + 2 : Nat) ≠ n by omega
  TIi2 := show (n + 2 : Nat) ≠ n + 1 by omega
  TOi1 := show (n + 3 : Nat) ≠ n by omega
  TOi2 := show (n + 3 : Nat) ≠ n + 1 by omega
  i12 := show (n : Nat) ≠ n + 1 by omega
theorem Inv.turnedL {X : Cx} {pins : List (Addr × Obj)} {σ : St} {H : Hp} {s : Shared} {h' : Heap} {t' : Nat} {fp : List Addr} (I : Inv X pins σ H s)
    (k : ∀ b o, b ∉ fp → s.heap.get? b = some o → h'.get? b = some o) (f : ∀ b ∈ fp, FpOk X pins H b) : Inv X pins σ H { s with heap := h', toks := t' } := by
  have nit : ∀ b u, H b = some u → b ∉ fp := fun b u q z => by rw [(f b z).1] at q; cases q
  refine I.step (g' := s.gens) (d' := s.drawn) (ch := fp) (fun b hb => ?_) (fun b o _ _ hc q _ => k b o hc q) (fun b o _ _ hc q _ => ⟨o.slots, k b o hc q⟩) (fun _ _ _ _ n => n)
    (fun b o hc q => ⟨o, k b o hc q⟩) (fun _ _ q => q) (fun _ _ _ q => q) (fun b ps q => ⟨#[], by rw [q]; simp⟩) (fun m hm => ?_) (fun b u q => ?_) I.bare
  · exact ⟨(f b hb).2.2.2.1, (f b hb).2.1, (f b hb).2.2.2.2.1, (f b hb).2.2.2.2.2⟩
  · obtain ⟨o, es, ep, ho, r⟩ := hm
    exact ⟨o, es, ep, k _ o (fun z => (f _ z).2.1 rfl) ho, r⟩
  · refine (I.hok b u q).stay (fun c v hc r => ?_) (fun _ r => r) fun _ _ r => r
    rcases hc with z | z
    · rw [z] at r ⊢; exact k b v (nit b u q) r
    · exact k c v (nit c _ z) r
section
variable {X : Cx} {es : List Expr} {tk : Nat} {tpos : Pos}
end
section
variable {X : Cx} {tg : Expr}
end
end L2
namespace L2
open PySem PySem.Spec PyProof.Rows
theorem ints_are : ∀ {ns : List Int} {its : List Value}, Vals (ns.map V.int) its → IntsAre its ns
  | [], [], .nil => .nil
  | n :: ns, v :: its, .cons r rs => by
    obtain ⟨t, rfl⟩ := r
    exact .cons _ _ (ints_are rs)
section
variable {X : Cx}
end
end L2
namespace L2
open PySem PySem.Spec PyProof.Rows
section
variable {X : Cx}
theorem mt_index : MtR X "list.index" (fun x vs H Q => ∃ (l : Addr) (xs : List V) (y : V) (j : Nat), x = .ref l ∧ vs = [y] ∧ SqL X.K H l xs ∧ xs.all flatV = true ∧ flatV y = true ∧ (∃ z, xs[j]? = some z ∧ eqV z y = true) ∧ (∀ (m : Nat) (z : V), m < j → xs[m]? = some z → eqV z y = false) ∧ Q (.int j) H) := by
  intro pins s σ H x xs v us Q I rx rv h
  obtain ⟨l, xs, y, j, rfl, rfl, hq, fx, fy, ⟨z, hz, ez⟩, no, q⟩ := h
  cases rx
  obtain ⟨u, rfl, ru⟩ := vals1 rv
  obtain ⟨its, r, p, hsz⟩ := I.list hq
  obtain ⟨⟨cls, dd, data, sl⟩, ho, hc, n, hd⟩ := id p.isList
  simp only at hc hd
  subst hc hd
  have jl : j < xs.length := (List.getElem?_eq_some_iff.mp hz).1
  have il : its.length = xs.length := r.length.symm
  obtain ⟨u1, hu1, ru1⟩ := r.get hz
  have hj : j < its.toArray.size := by rw [List.size_toArray]; omega
  refine call_meets PySem.F.slot_list_index ⟨_, ho, rfl⟩ PySem.F.entry_list_index (PySem.F.args_list_index_2 _ _)
    (SeqAt.list_indexAt l its.toArray n dd sl u (eqU y) j hj ?_ ?_ ?_) ⟨ho, fun w hw => mem_eqAt ru fy r fx w (by simpa using hw), ?_⟩
  · have : xs.length ≤ sizeLine := hsz
    have : sizeLine < 2 ^ 63 - 1 := by decide
    omega
  · show eqU y its[j] = true
    have e : its[j]'(by omega) = u1 := by
      have := List.getElem?_eq_getElem (l := its) (i := j) (by omega)
      rw [hu1] at this
      exact (Option.some.inj this).symm
    rw [e, eqU_of ru1 ((List.all_eq_true.mp fx) z (List.mem_of_getElem? hz))]
    exact ez
  · intro m hm hlt
    have ml : m < xs.length := by rw [List.size_toArray] at hm; omega
    have hx : xs[m]? = some xs[m] := List.getElem?_eq_getElem ml
    obtain ⟨u2, hu2, ru2⟩ := r.get hx
    have e : its[m]'(by omega) = u2 := by
      have := List.getElem?_eq_getElem (l := its) (i := m) (by omega)
      rw [hu2] at this
      exact (Option.some.inj this).symm
    show eqU y its[m] = false
    rw [e, eqU_of ru2 ((List.all_eq_true.mp fx) _ (List.mem_of_getElem? hx))]
    exact no m _ hlt hx
  · exact ⟨.int j, H, I.tok _, ⟨_, rfl⟩, q⟩
end
end L2
namespace L2
open PySem PySem.Spec PyProof.Rows
section
variable {X : Cx}
def upN (n : Nat) : List V := (List.range n).map fun k : Nat => V.int (k : Int)
theorem up_vals {acc : Array Value} {n : Nat} (h : ItemsOf (fun i v => ∃ t, v = .int ((0 : Int) + i * 1) t) acc n) : Vals (upN n) acc.toList := by
  have go : ∀ (its : List Value) (xs : List V), its.length = xs.length → (∀ (j : Nat) (v : Value), its[j]? = some v → ∃ x t, xs[j]? = some (.int x) ∧ v = .int x t) → Vals xs its := by
    intro its
    induction its with
    | nil => intro xs hl _; rw [List.length_eq_zero_iff.mp hl.symm]; exact .nil
    | cons v r ih =>
      intro xs hl hx
      match xs, hl with
      | x :: xs, hl =>
        obtain ⟨y, t, e1, e2⟩ := hx 0 v rfl
        cases e1
        refine .cons ⟨t, e2⟩ (ih xs (by simpa using hl) fun j v hv => hx (j + 1) v hv)
  refine go _ _ (by rw [Array.length_toList, h.1]; unfold upN; rw [List.length_map, List.length_range]) fun j v hv => ?_
  obtain ⟨t, e⟩ := h.2 j v (by rw [← hv, Array.getElem?_toList])
  have jl : j < n := by
    have := (List.getElem?_eq_some_iff.mp hv).1
    rw [Array.length_toList, h.1] at this; exact this
  refine ⟨j, t, ?_, ?_⟩
  · unfold upN; rw [List.getElem?_map, List.getElem?_range jl]; rfl
  · rw [e]; congr 1; omega
theorem call_list_rng (hc : X.calm = true) : CallR X (.type "list") (fun xs H Q => ∃ (r : Addr) (n : Nat), xs = [.ref r] ∧ H r = some (.rng 0 n) ∧ n ≤ sizeLine ∧ ∀ l, H l = none → Q (.ref l) (upd H l (.lst (upN n)))) := by
  intro pins s σ H xs us Q I r h
  obtain ⟨p, n, rfl, hp, hn, q⟩ := h
  obtain ⟨u, rfl, rx⟩ := vals1 r
  cases rx
  obtain ⟨t, u, v, hget⟩ := (show ObjOk X.prog X.w H s.heap p (.rng 0 n) from I.hok p _ hp)
  have small : (n : Int) < 2 ^ 62 := by
    have : sizeLine < 2 ^ 62 := by decide
    omega
  have sz : Builtin.Range.rangeSize 0 (n : Int) 1 = (n : Int) := by rw [rangeSize_one]; split <;> omega
  refine call_list_range (I.ok.hd hc) hget (small_one (by decide) (by decide) (by omega) small) sz (Nat.le_trans hn (by decide)) fun h' tk acc' c' hk hS' hacc => ?_
  have vl := up_vals hacc
  have e : acc' = acc'.toList.toArray := by simp
  rw [e] at hS'
  exact ⟨.ref s.heap.objs.size, _, I.laid (t' := tk) hk (Nat.le_refl _) (show ObjOk X.prog X.w _ h' _ (.lst (upN n)) from ⟨by unfold upN; rw [List.length_map, List.length_range]; exact hn, acc'.toList, c', vl, hS'⟩), rfl, q _ (I.hok.fresh (Nat.le_refl _))⟩
end
end L2
namespace L2
open PySem PySem.Spec PyProof.Rows
theorem newH {H : Hp} {a : Addr} {o : HO} {H' : Hp} (h : upd H a o = H') (n : H a = none) : Same H H' ∧ H' a = some o ∧ ∀ b, b ≠ a → H' b = H b := by
  subst h
  exact ⟨fun b u e => by rw [upd_ne (ne_of_none e n)]; exact e, upd_same, fun b hb => upd_ne hb⟩
theorem newC {H : Hp} {a : Addr} {o : HO} {H' : Hp} {C : Prop} (h : upd H a o = H') (n : H a = none) (k : Same H H' → H' a = some o → (∀ b, b ≠ a → H' b = H b) → C) : C :=
  k (newH h n).1 (newH h n).2.1 (newH h n).2.2
theorem lr_range {lo : Int} {n : Nat} {g : TG} {tt : TT} {tb : TB} {σ : St} {H : Hp} {N : St → Hp → Prop} (Pv : Nat → St → Hp → Prop) (h0 : Pv 0 σ H)
    (step : ∀ (i : Nat) (σ : St) (H : Hp) (C : St → Hp → Prop), i < n → Pv i σ H → (∀ σ' H', Pv (i + 1) σ' H' → C σ' H') → g (.int (lo + i)) σ H fun σ4 H4 => tt σ4 H4 fun ok H5 => if ok = true then tb σ4 H5 C else C σ4 H5)
    (fin : ∀ σ H, Pv n σ H → N σ H) : LR (Itr lo n) g tt tb σ H N := by
  refine ⟨fun i m σ H => m = n - i ∧ i ≤ n ∧ Pv i σ H, ⟨_, rfl, Nat.zero_le _, h0⟩, ?_⟩
  rintro i m σ2 H2 ⟨rfl, hi, p⟩
  by_cases hlt : i < n
  · refine .inr ⟨hlt, ?_⟩
    rintro x H3 ⟨rfl, rfl⟩
    exact step i σ2 H3 _ hlt p fun σ' H' p' => ⟨n - (i + 1), by omega, rfl, hlt, p'⟩
  · have e : i = n := by omega
    subst e
    exact .inl ⟨Nat.le_refl _, fin _ _ p⟩
end L2
namespace L2
open PySem PySem.Spec PyProof.Rows
def Itzl (K : PySem.W.Frag) (a b : Addr) : It :=
  ⟨fun i H => ∃ xs ys x y, SqL K H a xs ∧ SqL K H b ys ∧ xs[i]? = some x ∧ ys[i]? = some y,
   fun i H v H' => ∃ t x y, H t = none ∧ v = .ref t ∧ (∀ xs, SqL K H a xs → xs[i]? = some x) ∧ (∀ ys, SqL K H b ys → ys[i]? = some y) ∧ H' = upd H t (.tup [x, y]),
   fun i H => ∃ xs ys, SqL K H a xs ∧ SqL K H b ys ∧ (xs.length ≤ i ∨ ys.length ≤ i)⟩
theorem zip_apart {h : Heap} {z TI TO i1 i2 a b : Addr} {xs ys : Array Value} {u v : Value} {m n : Nat} {f : Value} (D : Apart5 z TI TO i1 i2) (hz : IsZip h z TI TO f) (hTO : IsPair h TO u v) (h1 : h.IsListIter i1 a m) (h2 : h.IsListIter i2 b n) (ha : h.IsList a xs) (hb : h.IsList b ys) : ZipApart z TI TO i1 i2 a b := by
  obtain ⟨o1, e1, c1, d1⟩ := h1
  obtain ⟨o2, e2, c2, d2⟩ := h2
  have no : ∀ {l : Addr} {ws : Array Value}, h.IsList l ws → l ≠ z ∧ l ≠ TO ∧ l ≠ i1 ∧ l ≠ i2 := fun {l ws} hl => by
    obtain ⟨o, e, c, k, d⟩ := hl
    refine ⟨fun q => ?_, fun q => ?_, fun q => ?_, fun q => ?_⟩
    · subst q
      have hz' : h.get? l = some _ := hz
      rw [e] at hz'; cases hz'; cases d
    · subst q
      have hz' : h.get? l = some _ := hTO
      rw [e] at hz'; cases hz'
      exact absurd c (by simp)
    · subst q
      rw [e] at e1; cases e1; rw [d1] at d; cases d
    · subst q
      rw [e] at e2; cases e2; rw [d2] at d; cases d
  obtain ⟨p1, p2, p3, p4⟩ := no ha
  obtain ⟨q1, q2, q3, q4⟩ := no hb
  exact ⟨D.TIz, D.TOz, D.i1z, D.i2z, D.TITO, D.TIi1, D.TIi2, D.TOi1, D.TOi2, D.i12, p1, p2, p3, p4, q1, q2, q3, q4⟩
theorem turn_zipL {P : Program} {w : World} {K : PySem.W.Frag} {es : List Expr} {k : Nat} {pos : Pos} (a b : Addr) (z TI TO i1 i2 : Addr) (D : Apart5 z TI TO i1 i2) :
    Turn P w K (.Tuple es k pos) (Itzl K a b) [z, TI, TO, i1, i2] z (fun i h => IsZip h z TI TO .none ∧ IsPair h TI (.ref i1) (.ref i2) ∧ (∃ u v, IsPair h TO u v) ∧ h.IsListIter i1 a i ∧ h.IsListIter i2 b i) where
  mem := by simp
  obj := fun i h st b hb => by
    obtain ⟨hz, hTI, ⟨a, c, hTO⟩, ⟨o1, e1, _, d1⟩, ⟨o2, e2, _, d2⟩⟩ := st
    simp at hb
    rcases hb with rfl | rfl | rfl | rfl | rfl
    · exact ⟨_, hz, fun v z => by cases (show Data.fields _ = Data.cell v from z)⟩
    · exact ⟨_, hTI, fun v z => by cases (show Data.seq _ _ = Data.cell v from z)⟩
    · exact ⟨_, hTO, fun v z => by cases (show Data.seq _ _ = Data.cell v from z)⟩
    · exact ⟨o1, e1, fun v z => by rw [d1] at z; cases z⟩
    · exact ⟨o2, e2, fun v z => by rw [d2] at z; cases z⟩
  keep := fun i h h' st kk => by
    obtain ⟨hz, hTI, ⟨a, c, hTO⟩, h1, h2⟩ := st
    exact ⟨kk z (by simp) _ hz, kk TI (by simp) _ hTI, ⟨a, c, kk TO (by simp) _ hTO⟩, h1.at fun o e => kk i1 (by simp) o e, h2.at fun o e => kk i2 (by simp) o e⟩
  item := by
    intro X hP hw hK hc i pins s σ H E I hf st hg
    subst hP hw hK
    obtain ⟨xs, ys, x, y, hqa, hqb, hx, hy⟩ := hg
    obtain ⟨its, rv, pa, hza⟩ := I.list hqa
    obtain ⟨jts, rw_, pb, hzb⟩ := I.list hqb
    obtain ⟨u, hu, ru⟩ := rv.get hx
    obtain ⟨v, hv, rv'⟩ := rw_.get hy
    obtain ⟨hz, hTI, ⟨c, d, hTO⟩, h1, h2⟩ := st
    have ap := zip_apart D hz hTO h1 h2 pa.isList pb.isList
    refine wpAny_pyNext_zip_item ap hz hTI hTO h1 h2 pa.isList pb.isList (x := u) (y := v) (by simpa using hu) (by simpa using hv) fun h' a1 a2 a3 a4 a5 a6 a7 => ?_
    refine ⟨_, rfl, wpAny_letOwnedTupleGo_zip (s := { s with heap := h' }) a1 fun h2' b1 sb => ?_⟩
    have hfr := I.hok.fresh (Nat.le_refl s.heap.objs.size)
    have I1 : Inv X pins σ (upd H s.heap.objs.size (.tup [x, y])) { s with heap := s.heap.push { cls := .type "tuple", data := .seq #[u, v] }, toks := s.toks } :=
      I.laid (o := .tup [x, y]) (fun b o q => Heap.get?_push_of_some _ q) (Nat.le_refl _) ⟨by show 2 ≤ sizeLine; decide, [u, v], .cons ru (.cons rv' .nil), IsTup.new _ _⟩
    have lt : ∀ b ∈ [z, TI, TO, i1, i2], b < s.heap.objs.size := fun b hb => by
      simp at hb
      rcases hb with rfl | rfl | rfl | rfl | rfl
      · exact Heap.lt_size hz
      · exact Heap.lt_size hTI
      · exact Heap.lt_size hTO
      · obtain ⟨o, q, _⟩ := id h1; exact Heap.lt_size q
      · obtain ⟨o, q, _⟩ := id h2; exact Heap.lt_size q
    have up : ∀ b ∈ [z, TI, TO, i1, i2], FpOk X pins (upd H s.heap.objs.size (.tup [x, y])) b := fun b hb => ⟨by rw [upd_ne (Nat.ne_of_lt (lt b hb))]; exact (hf b hb).1, (hf b hb).2⟩
    have I2 := I1.turnedL (h' := h2') (t' := s.toks) (fun b o n q => ?_) up
    · refine ⟨.ref s.heap.objs.size, _, I2, rfl, ⟨_, x, y, hfr, rfl, fun zs hs => by rw [I.list_inj hs hqa]; exact hx, fun zs hs => by rw [I.list_inj hs hqb]; exact hy, rfl⟩, ⟨b1, ?_, ⟨_, _, sb.extBut _ _ D.TOz a2⟩, ?_, ?_⟩, fun b hb => (up b hb).1⟩
      · exact sb.extBut _ _ D.TIz (a7 _ _ D.TIz D.TITO D.TIi1 D.TIi2 hTI)
      · exact a3.extBut sb.extBut D.i1z
      · exact a4.extBut sb.extBut D.i2z
    · have q1 : (s.heap.push { cls := .type "tuple", data := .seq #[u, v] }).get? b = some o := q
      simp at n
      refine sb.extBut b o n.1 ?_
      by_cases hb : b = s.heap.objs.size
      · subst hb
        rw [Heap.get?_push_size _ rfl] at q1
        cases q1
        exact a5
      · refine a7 b o n.1 n.2.2.1 n.2.2.2.1 n.2.2.2.2 ?_
        rw [← q1]
        exact (Heap.get?_push_ne s.heap b _ hb).symm
  done := by
    intro X hP hw hK hc i pins s σ H E I hf st hg
    subst hP hw hK
    obtain ⟨xs, ys, hqa, hqb, hx⟩ := hg
    obtain ⟨its, rv, pa, hza⟩ := I.list hqa
    obtain ⟨jts, rw_, pb, hzb⟩ := I.list hqb
    obtain ⟨hz, hTI, ⟨c, d, hTO⟩, h1, h2⟩ := st
    have ap := zip_apart D hz hTO h1 h2 pa.isList pb.isList
    have l1 := rv.length
    have l2 := rw_.length
    refine wpAny_pyNext_zip_end (I.ok.hd hc) ap hz hTI hTO h1 h2 pa.isList pb.isList ?_ fun h' kk => ⟨rfl, ?_⟩
    · rcases hx with hx | hx
      · exact .inl (by simp; omega)
      · exact .inr (by simp; omega)
    exact I.turnedL (t' := s.toks) (fun b o n q => by simp at n; exact kk b o n.1 n.2.2.1 n.2.2.2.1 n.2.2.2.2 q) hf
  self := fun _ _ _ _ _ st h => wpAny_pyIter_zip st.1 h
section
variable {X : Cx} {es : List Expr} {tk : Nat} {tpos : Pos}
def iZipL (K : PySem.W.Frag) (ta : TA) : TI := fun σ H R => ta σ H fun vs H1 => ∃ a b, vs = [.ref a, .ref b] ∧ (∃ xs, SqL K H1 a xs) ∧ (∃ ys, SqL K H1 b ys) ∧ R (Itzl K a b) H1
theorem pi_zipL {a b : Expr} {ta : TA} {p pos : Pos} (hg : Gl X "zip") (hm : X.mg "zip" = none) (ha : PA X [a, b] ta) (hs : starEach [a, b] X.env = [(false, eval a X.env), (false, eval b X.env)] := by rfl) (hs2 : starEach [b] X.env = [(false, eval b X.env)] := by rfl) :
    PI X (.Tuple es tk tpos) (.Call (.Name "zip" p) [a, b] [] pos) (iZipL X.K ta) := by
  intro pins s σ H R I h
  refine Call_ (ld_blt I hg hm PyProof.Rows.boot_zip (PyProof.Rows.callWith_type1 (thn (ha pos pins s σ H _ I h) fun us s1 ⟨vs, H1, I1, r1, q1⟩ => ?_) (by rw [hs, hs2]) (by rw [hs2]; rfl)))
  obtain ⟨c, d, e, ⟨xs, hc⟩, ⟨ys, hd⟩, q⟩ := q1
  subst e
  cases r1 with
  | cons r rr =>
    cases rr with
    | cons r' rr =>
      cases rr
      cases r
      cases r'
      obtain ⟨its, rv, pa, hza⟩ := I1.list hc
      obtain ⟨jts, rw_, pb, hzb⟩ := I1.list hd
      refine call_zip_2 pa.isList pb.isList fun h' a1 a2 a3 a4 a5 a6 a7 => wpAny_pyIter_zip a1 ?_
      refine ⟨_, [s1.heap.objs.size + 4, s1.heap.objs.size + 2, s1.heap.objs.size + 3, s1.heap.objs.size, s1.heap.objs.size + 1], _, _, H1, rfl, I1.kept (t' := s1.toks) a7,
        turn_zipL c d _ (s1.heap.objs.size + 2) (s1.heap.objs.size + 3) s1.heap.objs.size (s1.heap.objs.size + 1) (apart5 _), ⟨a1, a2, ⟨_, _, a3⟩, a4, a5⟩, fun b hb => ?_, q⟩
      have hb' : s1.heap.objs.size ≤ b := by
        simp at hb
        rcases hb with rfl | rfl | rfl | rfl | rfl
        · exact Nat.le_add_right _ 4
        · exact Nat.le_add_right _ 2
        · exact Nat.le_add_right _ 3
        · exact Nat.le_refl _
        · exact Nat.le_add_right _ 1
      exact I1.fpOk hb' (I1.hok.fresh hb')
end
theorem lr_zipL {K : PySem.W.Frag} {a b : Addr} {xs ys : List V} {g : TG} {tt : TT} {tb : TB} {σ : St} {H : Hp} {N : St → Hp → Prop} (Pv : Nat → St → Hp → Prop) (h0 : Pv 0 σ H) (hl : xs.length = ys.length) (hS : ∀ i σ H, Pv i σ H → SqL K H a xs ∧ SqL K H b ys)
    (step : ∀ (i : Nat) (x y : V) (t : Addr) (σ : St) (H : Hp) (C : St → Hp → Prop), xs[i]? = some x → ys[i]? = some y → H t = none → Pv i σ H → (∀ σ' H', Pv (i + 1) σ' H' → C σ' H') → g (.ref t) σ (upd H t (.tup [x, y])) fun σ4 H4 => tt σ4 H4 fun ok H5 => if ok = true then tb σ4 H5 C else C σ4 H5)
    (fin : ∀ σ H, Pv xs.length σ H → N σ H) : LR (Itzl K a b) g tt tb σ H N := by
  refine ⟨fun i m σ H => m = xs.length - i ∧ i ≤ xs.length ∧ Pv i σ H, ⟨_, rfl, Nat.zero_le _, h0⟩, ?_⟩
  rintro i m σ2 H2 ⟨rfl, hi, p⟩
  obtain ⟨sa, sb⟩ := hS i σ2 H2 p
  by_cases hlt : i < xs.length
  · refine .inr ⟨⟨xs, ys, _, _, sa, sb, List.getElem?_eq_getElem hlt, List.getElem?_eq_getElem (show i < ys.length by omega)⟩, ?_⟩
    rintro v H3 ⟨t, x, y, ht, rfl, hx, hy, rfl⟩
    exact step i x y t σ2 H2 _ (hx _ sa) (hy _ sb) ht p fun σ' H' p' => ⟨xs.length - (i + 1), by omega, rfl, hlt, p'⟩
  · have e : i = xs.length := by omega
    subst e
    exact .inl ⟨⟨xs, ys, sa, sb, .inl (Nat.le_refl _)⟩, fin σ2 H2 p⟩
end L2
namespace L2
open PySem PySem.Spec PyProof.Rows
end L2
namespace L2
open PySem PySem.Spec PyProof.Rows
end L2
namespace L2
open PySem PySem.Spec PyProof.Rows
end L2
namespace L2
open PySem PySem.Spec PyProof.Rows
structure FunG (K : PySem.W.Frag) (x qual : Str) (st : Stmt) (dV : Value) (f : Addr) (fd : FuncData) : Prop where
  ex : ∃ (oc : Value) (od : Option Addr) (kV doc pm : Value) (an : Option Addr) (cdv ct : Value) (osl : Array (Option Value)),
    fd = PySem.W.fnOf x qual (defArgs st) (defBody st) (defScope st) dV kV doc pm an cdv ct ∧ K.lookup f = some ⟨oc, od, .func fd, osl⟩ ∧ PySem.W.codeIn K cdv qual = true
  kp : PySem.W.keepIn K (.ref f) = true
section
variable {P : Program} {w : World} {K : PySem.W.Frag} {mg : Str → Option Value} {base : Heap} {x qual : Str} {st : Stmt} {dV : Value} {f : Addr} {fd : FuncData} {N ps : List Str} {k : Nat} {sp : Sp}
theorem FunG.okE (F : FunG K x qual st dV f fd) (S : FnScope N ps (defScope st)) (len : ∀ vs H Q E, sp vs H Q E → vs.length = ps.length)
    (hbody : ∀ (cdv : Value) (A : Around) (outer : List Env) (s : Shared) (H : Hp) (vs : List V) (Q : VK) (E : XK), Room k (A.deeper (envOfC qual (defScope st) s.heap.objs.size f cdv)) → sp vs H Q E →
      ∃ t, PSs (cxOf (CXE P w) P w K mg base N qual (defScope st) f cdv A outer s H E) (defBody st) t ∧ t { nx := fun _ H' => Q .non H', rt := Q } (start N vs) H) : FnOk P w K mg base (CXE P w) (k + 1) f fd ps sp := by
  obtain ⟨oc, od, kV, doc, pm, an, cdv, ct, osl, rfl, lk, hcd⟩ := F.ex
  exact fn_of lk hcd S len fun A outer s H vs Q E hr hsp => hbody cdv A outer s H vs Q E hr hsp
theorem FunG.okN (F : FunG K x qual st dV f fd) (S : FnScope N ps (defScope st)) (len : ∀ vs H Q E, sp vs H Q E → vs.length = ps.length)
    (hbody : ∀ (cdv : Value) (A : Around) (outer : List Env) (s : Shared) (H : Hp) (vs : List V) (Q : VK) (E : XK), Room k (A.deeper (envOfC qual (defScope st) s.heap.objs.size f cdv)) → sp vs H Q E →
      ∃ t, PSs (cxOf (CXE P w) P w K mg base N qual (defScope st) f cdv A outer s H E).nox (defBody st) t ∧ t { nx := fun _ H' => Q .non H', rt := Q } (start N vs) H) : FnOk P w K mg base (CXE P w) (k + 1) f fd ps sp :=
  F.okE S len fun cdv A outer s H vs Q E hr hsp => by
    obtain ⟨t, h, q⟩ := hbody cdv A outer s H vs Q E hr hsp
    exact ⟨t, h.nox, q⟩
theorem FunG.binds (F : FunG K x qual st .none f fd)
    (h : ∀ (kV doc pm : Value) (an : Option Addr) (cdv ct : Value) (us : List Value), us.length = ps.length → bindArgs (PySem.W.fnOf x qual (defArgs st) (defBody st) (defScope st) .none kV doc pm an cdv ct) ⟨us, []⟩ = pure (ps.zip us)) : Binds K fd ps [] := by
  obtain ⟨oc, od, kV, doc, pm, an, cdv, ct, osl, rfl, lk, hcd⟩ := F.ex
  exact .all (h kV doc pm an cdv ct)
theorem fung_mk {oc : Value} {od an : Option Addr} {osl : Array (Option Value)} {kV doc pm cdv ct : Value} (l : K.lookup f = some ⟨oc, od, .func (PySem.W.fnOf x qual (defArgs st) (defBody st) (defScope st) dV kV doc pm an cdv ct), osl⟩)
    (c : PySem.W.codeIn K cdv qual = true) (k : PySem.W.keepIn K (.ref f) = true) : FunG K x qual st dV f (PySem.W.fnOf x qual (defArgs st) (defBody st) (defScope st) dV kV doc pm an cdv ct) := ⟨⟨oc, od, kV, doc, pm, an, cdv, ct, osl, rfl, l, c⟩, k⟩
end
inductive Th (H : Hp) : V → Prop where
  | non : Th H .non
  | bl (b : Bool) : Th H (.bl b)
  | int (i : Int) : Th H (.int i)
  | str (x : Str) : Th H (.str x)
  | lst {a : Addr} {xs : List V} (h : H a = some (.lst xs)) : Th H (.ref a)
  | tup {a : Addr} {xs : List V} (h : H a = some (.tup xs)) : Th H (.ref a)
  | dK {a : Addr} {xs : List (Key × V)} (h : H a = some (.dK xs)) : Th H (.ref a)
def isI : V → Bool
  | .int _ => true
  | .bl _ => true
  | _ => false
def isB : V → Bool
  | .bl _ => true
  | _ => false
def isW : V → Bool
  | .int _ => true
  | _ => false
theorem isW_eq (x : V) : (if isI x = true then !isB x else false) = isW x := by cases x <;> rfl
theorem ki1 {K : PySem.W.Frag} : PySem.W.kitOne K (.type "int") (.type "int") = some true := by kernel_rfl
theorem ki2 {K : PySem.W.Frag} : PySem.W.kitOne K (.type "bool") (.type "int") = some true := by kernel_rfl
theorem ki3 {K : PySem.W.Frag} : PySem.W.kitOne K (.type "NoneType") (.type "int") = some false := by kernel_rfl
theorem ki4 {K : PySem.W.Frag} : PySem.W.kitOne K (.type "str") (.type "int") = some false := by kernel_rfl
theorem ki5 {K : PySem.W.Frag} : PySem.W.kitOne K (.type "list") (.type "int") = some false := by kernel_rfl
theorem ki6 {K : PySem.W.Frag} : PySem.W.kitOne K (.type "tuple") (.type "int") = some false := by kernel_rfl
theorem ki7 {K : PySem.W.Frag} : PySem.W.kitOne K (.type "dict") (.type "int") = some false := by kernel_rfl
theorem kb1 {K : PySem.W.Frag} : PySem.W.kitOne K (.type "int") (.type "bool") = some false := by kernel_rfl
theorem kb2 {K : PySem.W.Frag} : PySem.W.kitOne K (.type "bool") (.type "bool") = some true := by kernel_rfl
theorem boot_int : bootBuiltins "int" = some (.type "int") := by decide +kernel
theorem boot_bool : bootBuiltins "bool" = some (.type "bool") := by decide +kernel
theorem boot_tuple : bootBuiltins "tuple" = some (.type "tuple") := by decide +kernel
theorem Th.ty {K : PySem.W.Frag} {H : Hp} {x : V} (h : Th H x) : ∃ t, TyX K H x t ∧ PySem.W.kitOne K t (.type "int") = some (isI x) ∧ (isI x = true → PySem.W.kitOne K t (.type "bool") = some (isB x)) := by
  cases h with
  | non => exact ⟨_, .of .non, ki3, fun z => nomatch z⟩
  | bl b => exact ⟨_, .of (.bl b), ki2, fun _ => kb2⟩
  | int i => exact ⟨_, .of (.int i), ki1, fun _ => kb1⟩
  | str x => exact ⟨_, .of (.str x), ki4, fun z => nomatch z⟩
  | lst h => exact ⟨_, .of (.lst h), ki5, fun z => nomatch z⟩
  | tup h => exact ⟨_, .of (.tup h), ki6, fun z => nomatch z⟩
  | dK h => exact ⟨_, .of (.dK h), ki7, fun z => nomatch z⟩
end L2
namespace G1
open PySem L2
def top (i : Nat) : Stmt := PySem.Challenge.pw_dearsigns_k58_orders_of_things.main.body.getD i (.Pass ⟨0, 0, 0, 0⟩)
abbrev sWhole : Stmt := top 19
abbrev sWithin : Stmt := top 20
abbrev sName : Stmt := top 21
abbrev sLookW : Stmt := top 25
abbrev sWant : Stmt := top 26
abbrev sCount : Stmt := top 27
abbrev sPlaces : Stmt := top 29
abbrev sPutW : Stmt := top 31
abbrev sPutB : Stmt := top 32
abbrev sLookO : Stmt := top 33
abbrev sCell : Stmt := top 35
abbrev sDraws : Stmt := top 36
abbrev sWants : Stmt := top 38
abbrev sNoTurn : Stmt := top 39
abbrev sOrder : Stmt := top 40
abbrev sNoOrder : Stmt := top 41
abbrev sRefused : Stmt := top 42
abbrev sNoWants : Stmt := top 43
abbrev sNumber : Stmt := top 44
abbrev sLaw : Stmt := top 45
structure Bl (mg : Str → Option Value) : Prop where
  isi : mg "isinstance" = none
  int : mg "int" = none
  bool : mg "bool" = none
  tuple : mg "tuple" = none
  abs : mg "abs" = none
  len : mg "len" = none
  enum : mg "enumerate" = none
  str : mg "str" = none
  range : mg "range" = none
  max : mg "max" = none
  all : mg "all" = none
  set : mg "set" = none
  list : mg "list" = none
  min : mg "min" = none
section
variable {P : Program} {w : World} {K : PySem.W.Frag} {mg : Str → Option Value} {base : Heap}
def spWhole : Sp := fun vs H Q _ => ∃ x, vs = [x] ∧ Th H x ∧ Q (.bl (isW x)) H
theorem scW : FnScope ["thing"] ["thing"] (defScope sWhole) := ⟨rfl, rfl, rfl, by decide +kernel, rfl, by decide +kernel, by decide +kernel⟩
theorem ok_whole {f : Addr} {fd : FuncData} (F : FunG K "is_whole" "is_whole" sWhole .none f fd) (B : Bl mg) : FnOk P w K mg base (CXE P w) 1 f fd ["thing"] spWhole := by
  refine F.okN scW (fun vs H Q E h => ?_) (fun cdv A outer s H vs Q E hr h => ?_)
  · obtain ⟨x, rfl, _⟩ := h
    rfl
  · obtain ⟨x, rfl, hx, q⟩ := h
    obtain ⟨t, ty, e1, e2⟩ := hx.ty (K := K)
    refine ⟨_, pss_one (ps_ret (pe_and (pe_callB call_isi (by rfl) B.isi boot_isi (pa_cons (pv 0) (pa_cons (pe_bltn (by rfl) B.int boot_int (v := .ty "int") rfl) pa_nil)))
      (pe_one (pe_not (pe_callB call_isi (by rfl) B.isi boot_isi (pa_cons (pv 0) (pa_cons (pe_bltn (by rfl) B.bool boot_bool (v := .ty "bool") rfl) pa_nil))))))), ?_⟩
    refine ⟨x, rfl, x, _, t, isI x, rfl, ty, .inl ⟨_, rfl, e1⟩, _, rfl, ?_⟩
    rw [← isW_eq x] at q
    by_cases hi : isI x = true
    · rw [if_pos hi] at q ⊢
      exact ⟨x, rfl, x, _, t, isB x, rfl, ty, .inl ⟨_, rfl, e2 hi⟩, _, rfl, q⟩
    · rw [if_neg hi] at q ⊢
      exact q
end
end G1
namespace GM
end GM
theorem boot_abs : PySem.bootBuiltins "abs" = some (.builtin "abs") := by decide +kernel
namespace G1
open PySem L2 GM
section
variable {P : Program} {w : World} {K : PySem.W.Frag} {mg : Str → Option Value} {base : Heap}
end
end G1
namespace G1
open PySem L2 GM
section
variable {P : Program} {w : World} {K : PySem.W.Frag} {mg : Str → Option Value} {base : Heap}
end
end G1
namespace G1
open PySem L2 GM
section
variable {P : Program} {w : World} {K : PySem.W.Frag} {mg : Str → Option Value} {base : Heap} {c : List Addr}
theorem same_upd {H : Hp} {p : Addr} {o : HO} (h : H p = none) : Same H (upd H p o) := fun b u e => by rw [upd_ne (ne_of_none e h)]; exact e
end
end G1
namespace L2
open PySem PySem.Spec PyProof.Rows
def tCut (t : TS) : TS := fun D σ H => ∃ J : St → Hp → Prop, t { D with nx := J } σ H ∧ ∀ σ' H', J σ' H' → D.nx σ' H'
theorem ps_cut {X : Cx} {st : Stmt} {t : TS} (h : PS X st t) : PS X st (tCut t) := by
  intro pins s σ H D I hw
  obtain ⟨J, h1, h2⟩ := hw
  refine thn (h pins s σ H _ I h1) fun f s1 q => ?_
  cases f with
  | next =>
    obtain ⟨σ', H', I', q⟩ := q
    exact ⟨σ', H', I', h2 σ' H' q⟩
  | ret v => exact q
  | brk => exact q
  | cont => exact q
section
variable {X : Cx} {es : List Expr} {t : TA} {te : TE} {pos : Pos} {l r : List Expr} {k : Nat} {o : Operator} {a b : Expr} {cst : Const} {x : Str} {u : UnaryOp} {kw : List Keyword} {f : Expr}
theorem pac_c (ha : PE X (.Constant cst k pos) te) (hr : PA X es t) : PA X (.Constant cst k pos :: es) (tCons te t) := pa_cons ha hr rfl
theorem pac_n (ha : PE X (.Name x pos) te) (hr : PA X es t) : PA X (.Name x pos :: es) (tCons te t) := pa_cons ha hr rfl
theorem pac_l (ha : PE X (.List l pos) te) (hr : PA X es t) : PA X (.List l pos :: es) (tCons te t) := pa_cons ha hr rfl
theorem pac_t (ha : PE X (.Tuple l k pos) te) (hr : PA X es t) : PA X (.Tuple l k pos :: es) (tCons te t) := pa_cons ha hr rfl
theorem pac_d {ks : List (Option Expr)} {vs : List Expr} (ha : PE X (.Dict ks vs pos) te) (hr : PA X es t) : PA X (.Dict ks vs pos :: es) (tCons te t) := pa_cons ha hr rfl
theorem pac_b (ha : PE X (.BinOp a o b pos) te) (hr : PA X es t) : PA X (.BinOp a o b pos :: es) (tCons te t) := pa_cons ha hr rfl
theorem pac_u (ha : PE X (.UnaryOp u a pos) te) (hr : PA X es t) : PA X (.UnaryOp u a pos :: es) (tCons te t) := pa_cons ha hr rfl
theorem pac_f (ha : PE X (.Call f l kw pos) te) (hr : PA X es t) : PA X (.Call f l kw pos :: es) (tCons te t) := pa_cons ha hr rfl
theorem pac_s (ha : PE X (.Subscript a b pos) te) (hr : PA X es t) : PA X (.Subscript a b pos :: es) (tCons te t) := pa_cons ha hr rfl
end
end L2
namespace G1
open PySem L2 GM
end G1
namespace L2
open PySem PySem.Spec PyProof.Rows
structure SPE (X : Cx) (e : Expr) (t : TE) : Prop where
  out : PE X e t
structure SPT (X : Cx) (e : Expr) (t : TT) : Prop where
  out : PT X e t
structure SPW (X : Cx) (e : Expr) (t : TT) : Prop where
  out : PW X e t
structure SPA (X : Cx) (es : List Expr) (t : TA) : Prop where
  out : PA X es t
structure SPS (X : Cx) (st : Stmt) (t : TS) : Prop where
  out : PS X st t
structure SPSs (X : Cx) (st : List Stmt) (t : TS) : Prop where
  out : PSs X st t
structure SPG (X : Cx) (e : Expr) (t : TG) : Prop where
  out : PG X e t
structure SPGs (X : Cx) (es : List Expr) (t : TGs) : Prop where
  out : PGs X es t
structure SPI (X : Cx) (tg e : Expr) (t : TI) : Prop where
  out : PI X tg e t
structure SPEX (X : Cx) (e : Expr) (t : TEX) : Prop where
  out : PEX X e t
structure SPSX (X : Cx) (st : List Stmt) (t : TSX) : Prop where
  out : PSX X st t
structure SPO (X : Cx) (e : Option Expr) (t : TO) : Prop where
  out : PO X e t
theorem SPW.pt {X : Cx} {e : Expr} {t : TT} (h : SPW X e t) : SPT X e t := ⟨h.out.pt⟩
section
variable {X : Cx}
theorem zpv (i : Nat) {x : Str} {pos : Pos} (hN : X.N[i]? = some x := by rfl) (hv : Vis X.env.scope x := by first | exact Or.inl rfl | exact Or.inr (Or.inl rfl) | exact Or.inr (Or.inr rfl)) (hd : (x == ("__debug__" : Str)) = false := by decide) (hcd : (x == ("__classdict__" : Str)) = false := by decide) : SPE X (.Name x pos) (tVar i) := ⟨pv i hN hv hd hcd⟩
end
section
variable {X : Cx}
theorem zpe_int {i j pos} : SPE X (.Constant (.int i) j pos) (tC (.int i)) := ⟨pe_int ⟩
end
section
variable {X : Cx}
theorem zpe_bl {b j pos} : SPE X (.Constant (.bool b) j pos) (tC (.bl b)) := ⟨pe_bl ⟩
end
section
variable {X : Cx}
theorem zpe_non {j pos} : SPE X (.Constant .none j pos) (tC .non) := ⟨pe_non ⟩
end
section
variable {X : Cx}
theorem zpe_str {x j pos} : SPE X (.Constant (.str x) j pos) (tC (.str x)) := ⟨pe_str ⟩
end
section
variable {X : Cx}
theorem zpe_glob {x : Str} {v : V} {u : Value} {pos : Pos} (hg : Gl X x) (hm : X.mg x = some u) (r : RelV v u) (hd : (x == ("__debug__" : Str)) = false := by decide) : SPE X (.Name x pos) (tC v) := ⟨pe_glob hg hm r hd⟩
end
section
variable {X : Cx}
theorem zpe_bltn {x : Str} {v : V} {u : Value} {pos : Pos} (hg : Gl X x) (hm : X.mg x = none) (hv : bootBuiltins x = some u) (r : RelV v u) (hn : x ≠ "__name__" := by decide) (hd : (x == ("__debug__" : Str)) = false := by decide) : SPE X (.Name x pos) (tC v) := ⟨pe_bltn hg hm hv r hn hd⟩
end
section
variable {X : Cx} {a b : Expr} {ta tb : TE} {pos : Pos} {tA tB' : TT} {rest : List Expr}
theorem zpe_one {op} {t : TE} (h : SPE X a t) : SPE X (.BoolOp op [a] pos) t := ⟨pe_one h.out⟩
end
section
variable {X : Cx} {a b : Expr} {ta tb : TE} {pos : Pos} {tA tB' : TT} {rest : List Expr}
theorem zpe_and (ha : SPE X a ta) (hb : SPE X (.BoolOp .And (b :: rest) pos) tb) : SPE X (.BoolOp .And (a :: b :: rest) pos) (tAndV ta tb) := ⟨pe_and ha.out hb.out⟩
end
section
variable {X : Cx} {a b : Expr} {ta tb : TE} {pos : Pos} {tA tB' : TT} {rest : List Expr}
end
section
variable {X : Cx} {a b : Expr} {ta tb : TE} {pos : Pos} {tA tB' : TT} {rest : List Expr}
theorem zpe_not (ha : SPE X a ta) : SPE X (.UnaryOp .Not a pos) (tNotV ta) := ⟨pe_not ha.out⟩
end
section
variable {X : Cx} {a b : Expr} {ta tb : TE} {pos : Pos} {tA tB' : TT} {rest : List Expr}
end
section
variable {X : Cx} {a b : Expr} {ta tb : TE} {pos : Pos}
end
section
variable {X : Cx} {a b : Expr} {ta tb : TE} {pos : Pos}
end
section
variable {X : Cx} {a b : Expr} {ta tb : TE} {pos : Pos}
end
section
variable {X : Cx} {a b : Expr} {ta tb : TE} {pos : Pos}
end
section
variable {X : Cx} {a b : Expr} {ta tb : TE} {pos : Pos}
theorem zpt_val {e : Expr} {t : TE} (h : SPE X e t) (he : ∀ whole, isTrue e X.env whole = (do let v ← whole; standAt e.pos; holding [v] (truthy v)) := by intro _; rfl) : SPT X e (tB t) := ⟨pt_val h.out he⟩
end
section
variable {X : Cx} {a b : Expr} {ta tb : TE} {pos : Pos} {tA tB' : TT} {rest : List Expr}
theorem zpw_and1 (ha : SPT X a tA) : SPW X (.BoolOp .And [a] pos) tA := ⟨pw_and1 ha.out⟩
end
section
variable {X : Cx} {a b : Expr} {ta tb : TE} {pos : Pos} {tA tB' : TT} {rest : List Expr}
theorem zpw_or1 (ha : SPT X a tA) : SPW X (.BoolOp .Or [a] pos) tA := ⟨pw_or1 ha.out⟩
end
section
variable {X : Cx} {a b : Expr} {ta tb : TE} {pos : Pos} {tA tB' : TT} {rest : List Expr}
theorem zpw_and (ha : SPT X a tA) (hb : SPW X (.BoolOp .And (b :: rest) pos) tB') : SPW X (.BoolOp .And (a :: b :: rest) pos) (tAnd tA tB') := ⟨pw_and ha.out hb.out⟩
end
section
variable {X : Cx} {a b : Expr} {ta tb : TE} {pos : Pos} {tA tB' : TT} {rest : List Expr}
theorem zpw_or (ha : SPT X a tA) (hb : SPW X (.BoolOp .Or (b :: rest) pos) tB') : SPW X (.BoolOp .Or (a :: b :: rest) pos) (tOr tA tB') := ⟨pw_or ha.out hb.out⟩
end
section
variable {X : Cx} {a b : Expr} {ta tb : TE} {pos : Pos} {tA tB' : TT} {rest : List Expr}
theorem zpt_not (ha : SPT X a tA) : SPT X (.UnaryOp .Not a pos) (tNot tA) := ⟨pt_not ha.out⟩
end
section
variable {X : Cx} {st : Stmt} {rest : List Stmt} {t u : TS} {e : Expr} {te : TE} {pos : Pos}
theorem zpss_nil  : SPSs X [] tNext := ⟨pss_nil ⟩
end
section
variable {X : Cx} {st : Stmt} {rest : List Stmt} {t u : TS} {e : Expr} {te : TE} {pos : Pos}
theorem zpss_cons (h1 : SPS X st t) (h2 : SPSs X rest u) : SPSs X (st :: rest) (tSeq t u) := ⟨pss_cons h1.out h2.out⟩
end
section
variable {X : Cx} {st : Stmt} {rest : List Stmt} {t u : TS} {e : Expr} {te : TE} {pos : Pos}
theorem zpss_one (h1 : SPS X st t) : SPSs X [st] t := ⟨pss_one h1.out⟩
end
section
variable {X : Cx} {st : Stmt} {rest : List Stmt} {t u : TS} {e : Expr} {te : TE} {pos : Pos}
end
section
variable {X : Cx} {st : Stmt} {rest : List Stmt} {t u : TS} {e : Expr} {te : TE} {pos : Pos}
end
section
variable {X : Cx} {st : Stmt} {rest : List Stmt} {t u : TS} {e : Expr} {te : TE} {pos : Pos}
end
section
variable {X : Cx} {st : Stmt} {rest : List Stmt} {t u : TS} {e : Expr} {te : TE} {pos : Pos}
theorem zps_expr (he : SPE X e te) (hs : swapsWith e none pos.line X.env = pure false := by rfl) : SPS X (.Expr e pos) (tDrop te) := ⟨ps_expr he.out hs⟩
end
section
variable {X : Cx} {st : Stmt} {rest : List Stmt} {t u : TS} {e : Expr} {te : TE} {pos : Pos}
theorem zps_ret (he : SPE X e te) : SPS X (.Return (some e) pos) (tRet te) := ⟨ps_ret he.out⟩
end
section
variable {X : Cx} {st : Stmt} {rest : List Stmt} {t u : TS} {e : Expr} {te : TE} {pos : Pos}
end
section
variable {X : Cx} {st : Stmt} {rest : List Stmt} {t u : TS} {e : Expr} {te : TE} {pos : Pos}
theorem zps_if {c : Expr} {a b : List Stmt} {tc : TT} (hc : SPT X c tc) (ha : SPSs X a t) (hb : SPSs X b u) : SPS X (.If c a b pos) (tIfS tc t u) := ⟨ps_if hc.out ha.out hb.out⟩
end
section
variable {X : Cx} {pos : Pos}
theorem zpg_name {i : Nat} {x : Str} (hN : X.N.Nodup) (hi : X.N[i]? = some x) (hx : Loc X.env.scope x) (hf : X.fn x = true ∨ X.env.scope.names.lookup x = some .local := by first | exact .inl rfl | exact .inr rfl | assumption) : SPG X (.Name x pos) (gName i) := ⟨pg_name hN hi hx hf⟩
end
section
variable {X : Cx} {pos : Pos}
theorem zpgs_nil  : SPGs X [] gNil := ⟨pgs_nil ⟩
end
section
variable {X : Cx} {pos : Pos}
theorem zpgs_cons {e : Expr} {es : List Expr} {t : TG} {u : TGs} (h1 : SPG X e t) (h2 : SPGs X es u) (hs : (assignEach (e :: es) X.env).map (·.2) = assign e X.env :: (assignEach es X.env).map (·.2) := by rfl) : SPGs X (e :: es) (gCons t u) := ⟨pgs_cons h1.out h2.out hs⟩
end
section
variable {X : Cx} {pos : Pos}
theorem zpg_tup {es : List Expr} {k : Nat} {t : TGs} {n : Nat} (hc : X.calm = true) (h : SPGs X es t) (hn : (assignEach es X.env).length = n := by rfl) (hst : (assignEach es X.env).findIdx? (·.1) = none := by rfl) : SPG X (.Tuple es k pos) (gTup X.K n t) := ⟨pg_tup hc h.out hn hst⟩
end
section
variable {X : Cx} {pos : Pos}
end
section
variable {X : Cx} {pos : Pos}
theorem zps_asg {tg e : Expr} {te : TE} {g : TG} (he : SPE X e te) (hg : SPG X tg g) (hs : swapsWithSole [tg] e pos.line X.env = pure false := by rfl) (hw : swappedStores [tg] e X.env = pure none := by rfl) (h1 : (assignEach [tg] X.env).map (·.2) = [assign tg X.env] := by rfl) : SPS X (.Assign [tg] e pos) (tAsg te g) := ⟨ps_asg he.out hg.out hs hw h1⟩
end
section
variable {X : Cx} {pos : Pos}
theorem zps_set {i : Nat} {x : Str} {e : Expr} {te : TE} {pos' : Pos} (hN : X.N.Nodup) (hi : X.N[i]? = some x) (hx : Loc X.env.scope x) (he : SPE X e te) (hs : swapsWith e (some (.Name x pos')) pos.line X.env = pure false := by rfl) (hf : X.fn x = true ∨ X.env.scope.names.lookup x = some .local := by first | exact .inl rfl | exact .inr rfl | assumption) : SPS X (.Assign [.Name x pos'] e pos) (tAsg te (gName i)) := ⟨ps_set hN hi hx he.out hs hf⟩
end
section
variable {X : Cx} {pos : Pos}
end
section
variable {X : Cx} {pos : Pos}
end
section
variable {X : Cx} {pos : Pos}
end
section
variable {X : Cx} {tg : Expr}
theorem zpi_list {l : Expr} {tl : TE} (hl : SPE X l tl) : SPI X tg l (iList X.K tl) := ⟨pi_list hl.out⟩
end
section
variable {X : Cx} {tg : Expr}
end
section
variable {X : Cx} {tg : Expr}
theorem zpi_range1 {a : Expr} {ta : TA} {p pos : Pos} (hg : Gl X "range") (hm : X.mg "range" = none) (ha : SPA X [a] ta) (hs : starEach [a] X.env = [(false, eval a X.env)] := by rfl) : SPI X tg (.Call (.Name "range" p) [a] [] pos) (iRng1 ta) := ⟨pi_range1 hg hm ha.out hs⟩
end
section
variable {X : Cx} {tg : Expr}
end
section
variable {X : Cx} {es : List Expr} {tk : Nat} {tpos : Pos}
theorem zpi_enum {l : Expr} {ta : TA} {p pos : Pos} (hg : Gl X "enumerate") (hm : X.mg "enumerate" = none) (ha : SPA X [l] ta) (hs : starEach [l] X.env = [(false, eval l X.env)] := by rfl) : SPI X (.Tuple es tk tpos) (.Call (.Name "enumerate" p) [l] [] pos) (iEnum X.K ta) := ⟨pi_enum hg hm ha.out hs⟩
end
section
variable {X : Cx} {tg : Expr}
theorem zps_for {iter : Expr} {body : List Stmt} {wi : TI} {g : TG} {tb : TS} {pos : Pos} (hp : PassesOwn (model X.prog X.w) X.A X.env X.xe) (hc : X.calm = true) (hi : SPI X tg iter wi) (hg : SPG X tg g) (hb : SPSs X body tb) (hs : ∀ x, foldedSetIterable iter X.env x = pure x := by intro _; rfl) : SPS X (.For tg iter body [] pos) (tFor wi g tb) := ⟨ps_for hp hc hi.out hg.out hb.out hs⟩
end
section
variable {X : Cx} {a b c : Expr} {ta tb tc : TE} {pos : Pos}
theorem zpe_op {op : Operator} {r : R2} (ho : OpR X (binaryOp op) r) (ha : SPE X a ta) (hb : SPE X b tb) : SPE X (.BinOp a op b pos) (tOp r ta tb) := ⟨pe_op ho ha.out hb.out⟩
end
section
variable {X : Cx} {a b c : Expr} {ta tb tc : TE} {pos : Pos}
theorem zpe_un {op : UnaryOp} {r : V → Hp → VK → Prop} (ho : UnR X (unaryOp op) r) (ha : SPE X a ta) : SPE X (.UnaryOp op a pos) (tUn r ta) := ⟨pe_un ho ha.out⟩
end
section
variable {X : Cx} {a b c : Expr} {ta tb tc : TE} {pos : Pos}
theorem zpe_cmpR {op : CmpOp} {r : R2} (ho : OpR X (compareOp op) r) (ha : SPE X a ta) (hb : SPE X b tb) (hm : behindInMarks op b = false) : SPE X (.Compare a [op] [b] pos) (tOp r ta tb) := ⟨pe_cmpR ho ha.out hb.out hm⟩
end
section
variable {X : Cx} {a b c : Expr} {ta tb tc : TE} {pos : Pos}
theorem zpt_cmpR {op : CmpOp} {r : R2} (ho : OpR X (compareOp op) r) (ha : SPE X a ta) (hb : SPE X b tb) (hm : behindInMarks op b = false) : SPT X (.Compare a [op] [b] pos) (tTest (tOp r ta tb)) := ⟨pt_cmpR ho ha.out hb.out hm⟩
end
section
variable {X : Cx} {a b c : Expr} {ta tb tc : TE} {pos : Pos}
end
section
variable {X : Cx} {a b c : Expr} {ta tb tc : TE} {pos : Pos}
end
section
variable {X : Cx} {a b c : Expr} {ta tb tc : TE} {pos : Pos}
end
section
variable {X : Cx} {e : Expr} {es : List Expr} {te : TE} {t : TA} {pos : Pos}
theorem zpe_tup {x1} (h : SPA X es t) : SPE X (.Tuple es x1 pos) (tTup t) := ⟨pe_tup h.out⟩
end
section
variable {X : Cx} {e : Expr} {es : List Expr} {te : TE} {t : TA} {pos : Pos}
theorem zpe_lst (h : SPA X es t) : SPE X (.List es pos) (tLst t) := ⟨pe_lst h.out⟩
end
section
variable {X : Cx} {CX : CXT} {k : Nat} {f C : Addr} {fd : FuncData} {ps : List Str} {sp : Sp} {dvs : List V} {ds : List Value} {E : XK} {x m : Str} {p pos apos : Pos} {e o : Expr} {es : List Expr} {ta : TE} {t : TA}
theorem zpe_call (F : FnOk X.prog X.w X.K X.mg X.base CX k f fd ps sp) (hr : Room k X.A) (hg : Gl X x) (hm : X.mg x = some (.ref f)) (hk : PySem.W.keepIn X.K (.ref f) = true) (hb : Binds X.K fd ps ds) (hd : Vals dvs ds) (hx : Passes CX X E) (ha : SPA X (e :: es) t) (hdb : (x == ("__debug__" : Str)) = false := by decide) (he : starEach (e :: es) X.env = (false, eval e X.env) :: starEach es X.env := by rfl) (hpl : (backTo pos (starEach es X.env)).any (·.1) = false := by rfl) : SPE X (.Call (.Name x p) (e :: es) [] pos) (tCall sp dvs E t) := ⟨pe_call F hr hg hm hk hb hd hx ha.out hdb he hpl⟩
end
section
variable {X : Cx} {CX : CXT} {k : Nat} {f C : Addr} {fd : FuncData} {ps : List Str} {sp : Sp} {dvs : List V} {ds : List Value} {E : XK} {x m : Str} {p pos apos : Pos} {e o : Expr} {es : List Expr} {ta : TE} {t : TA}
end
section
variable {X : Cx} {x : Str} {p pos : Pos} {e : Expr} {es : List Expr} {t : TA} {id T : String} {r : List V → Hp → VK → Prop}
theorem zpe_callB (hc : CallR X (.builtin id) r) (hg : Gl X x) (hm : X.mg x = none) (hv : bootBuiltins x = some (.builtin id)) (ha : SPA X (e :: es) t) (hn : x ≠ "__name__" := by decide) (hdb : (x == ("__debug__" : Str)) = false := by decide) (he : starEach (e :: es) X.env = (false, eval e X.env) :: starEach es X.env := by rfl) (hpl : (backTo pos (starEach es X.env)).any (·.1) = false := by rfl) : SPE X (.Call (.Name x p) (e :: es) [] pos) (tCB r t) := ⟨pe_callB hc hg hm hv ha.out hn hdb he hpl⟩
end
section
variable {X : Cx} {x : Str} {p pos : Pos} {e : Expr} {es : List Expr} {t : TA} {id T : String} {r : List V → Hp → VK → Prop}
theorem zpe_callTy (hc : CallR X (.type T) r) (hg : Gl X x) (hm : X.mg x = none) (hv : bootBuiltins x = some (.type T)) (ha : SPA X (e :: es) t) (hn : x ≠ "__name__" := by decide) (hdb : (x == ("__debug__" : Str)) = false := by decide) (he : starEach (e :: es) X.env = (false, eval e X.env) :: starEach es X.env := by rfl) (hpl : (backTo pos (starEach es X.env)).any (·.1) = false := by rfl) : SPE X (.Call (.Name x p) (e :: es) [] pos) (tCB r t) := ⟨pe_callTy hc hg hm hv ha.out hn hdb he hpl⟩
end
section
variable {X : Cx} {x : Str} {p pos : Pos} {e : Expr} {es : List Expr} {t : TA} {id T : String} {r : List V → Hp → VK → Prop}
theorem zpe_callTy0 (hc : CallR X (.type T) r) (hg : Gl X x) (hm : X.mg x = none) (hv : bootBuiltins x = some (.type T)) (hn : x ≠ "__name__" := by decide) (hdb : (x == ("__debug__" : Str)) = false := by decide) : SPE X (.Call (.Name x p) [] [] pos) (tCB r tNil) := ⟨pe_callTy0 hc hg hm hv hn hdb⟩
end
section
variable {X : Cx} {e : Expr} {te : TE} {lo hi : Option Expr} {tl th : TO} {pos p2 : Pos}
theorem zpe_slice {r : V → Option Int → Option Int → Hp → VK → Prop} (hr : SlR X r) (he : SPE X e te) (hl : SPO X lo tl) (hu : SPO X hi th) : SPE X (.Subscript e (.Slice lo hi none p2) pos) (tSl r te tl th) := ⟨pe_slice hr he.out hl.out hu.out⟩
end
section
variable {X : Cx} {e : Expr} {te : TE} {lo hi : Option Expr} {tl th : TO} {pos p2 : Pos}
theorem zpo_none  : SPO X none tNoPart := ⟨po_none ⟩
end
section
variable {X : Cx} {e : Expr} {te : TE} {lo hi : Option Expr} {tl th : TO} {pos p2 : Pos}
theorem zpo_some (h : SPE X e te) : SPO X (some e) (tPart te) := ⟨po_some h.out⟩
end
section
variable {X : Cx} {a b : Expr} {ta tb : TE} {pos : Pos}
theorem zpe_ix {r : R2} (hr : IxR X r) (ha : SPE X a ta) (hb : SPE X b tb) (hs : PlainIx b) : SPE X (.Subscript a b pos) (tOp r ta tb) := ⟨pe_ix hr ha.out hb.out hs⟩
end
section
variable {X : Cx} {a b : Expr} {ta tb : TE} {pos : Pos} {o e : Expr} {es : List Expr} {to : TE} {t : TA} {name : Str} {apos cpos : Pos} {T id : String} {r : V → List V → Hp → VK → Prop}
theorem zpe_bm0 (pa : PlainAttrs T) (slot : Slot T name id) (hty : typeOf (.builtin id) = pure (.type "method_descriptor")) (hm : MtR X id r) (ho : SPE X o to) (hbase : attributeBase o name X.env (eval o X.env) = eval o X.env := by rfl) (hline : (apos.endLine == cpos.line) = true := by rfl) : SPE X (.Call (.Attribute o name apos) [] [] cpos) (tBM0 X.K T r to) := ⟨pe_bm0 pa slot hty hm ho.out hbase hline⟩
end
section
variable {X : Cx} {a b : Expr} {ta tb : TE} {pos : Pos} {o e : Expr} {es : List Expr} {to : TE} {t : TA} {name : Str} {apos cpos : Pos} {T id : String} {r : V → List V → Hp → VK → Prop}
theorem zpe_bm (pa : PlainAttrs T) (slot : Slot T name id) (hty : typeOf (.builtin id) = pure (.type "method_descriptor")) (hm : MtR X id r) (ho : SPE X o to) (ha : SPA X (e :: es) t) (hbase : attributeBase o name X.env (eval o X.env) = eval o X.env := by rfl) (hfew : ((backTo cpos (starEach (e :: es) X.env)).all (fun x => !x.1) && (backToKw cpos (keywordEach [] X.env)).all (fun x => x.1.isSome)
      && decide ((e :: es).length + ([] : List Keyword).length + (if ([] : List Keyword).isEmpty then 0 else 1) < 30)) = true := by rfl) (hline : (apos.endLine == cpos.line) = true := by rfl) (hs : starEach (e :: es) X.env = (false, eval e X.env) :: starEach es X.env := by rfl) (hplain : (backTo cpos (starEach es X.env)).any (·.1) = false := by rfl) : SPE X (.Call (.Attribute o name apos) (e :: es) [] cpos) (tBM X.K T r to t) := ⟨pe_bm pa slot hty hm ho.out ha.out hbase hfew hline hs hplain⟩
end
section
variable {X : Cx} {e : Expr} {es : List Expr} {te : TE} {t : TA} {pos : Pos}
theorem zpa_nil  : SPA X [] tNil := ⟨pa_nil ⟩
end
section
variable {X : Cx} {e : Expr} {es : List Expr} {te : TE} {t : TA} {pos : Pos}
end
section
theorem zpe_dict0 {X : Cx} {pos : Pos} : SPE X (.Dict [] [] pos) tDict0 := ⟨pe_dict0 ⟩
end
section
theorem zps_raise {X : Cx} {x : Str} {C : Addr} {e0 : Expr} {es : List Expr} {t : TA} {E : XK} {np cpos pos : Pos} (hth : ∀ (pins : List (Addr × Obj)) (σ : St) (H : Hp) (s : Shared) (h1 : Heap) (e : Addr) (args : List Value), Inv X pins σ H s → Heap.MadeExcOf s.heap h1 e (.ref C) args → E (.ref C) none H → X.xe (.ref e) { s with heap := h1 }) (hc : X.calm = true) (hg : Gl X x) (hm : X.mg x = some (.ref C)) (q : ExcK X.K C) (ha : SPA X (e0 :: es) t) (hd : (x == ("__debug__" : Str)) = false := by decide) (he : starEach (e0 :: es) X.env = (false, eval e0 X.env) :: starEach es X.env := by rfl) (hp : (backTo cpos (starEach es X.env)).any (·.1) = false := by rfl) : SPS X (.Raise (some (.Call (.Name x np) (e0 :: es) [] cpos)) none pos) (tRaise C E t) := ⟨ps_raise hth hc hg hm q ha.out hd he hp⟩
end
section
variable {X : Cx} {k : Nat} {f : Addr} {fd : FuncData} {ps : List Str} {sp : Sp} {dvs : List V} {ds : List Value} {x : Str} {p pos : Pos} {e : Expr} {es : List Expr} {t : TA}
theorem zpex_call (F : FnOk X.prog X.w X.K X.mg X.base (CXE X.prog X.w) k f fd ps sp) (hr : Room k X.A) (hg : Gl X x) (hm : X.mg x = some (.ref f)) (hk : PySem.W.keepIn X.K (.ref f) = true) (hb : Binds X.K fd ps ds) (hd : Vals dvs ds) (ha : SPA X.nox (e :: es) t) (hdb : (x == ("__debug__" : Str)) = false := by decide) (he : starEach (e :: es) X.env = (false, eval e X.env) :: starEach es X.env := by rfl) (hpl : (backTo pos (starEach es X.env)).any (·.1) = false := by rfl) : SPEX X (.Call (.Name x p) (e :: es) [] pos) (tCallX sp dvs t) := ⟨pex_call F hr hg hm hk hb hd ha.out hdb he hpl⟩
end
section
variable {X : Cx} {k : Nat} {f : Addr} {fd : FuncData} {ps : List Str} {sp : Sp} {dvs : List V} {ds : List Value} {x : Str} {p pos : Pos} {e : Expr} {es : List Expr} {t : TA}
end
section
variable {X : Cx} {k : Nat} {f : Addr} {fd : FuncData} {ps : List Str} {sp : Sp} {dvs : List V} {ds : List Value} {x : Str} {p pos : Pos} {e : Expr} {es : List Expr} {t : TA}
end
section
variable {X : Cx} {k : Nat} {f : Addr} {fd : FuncData} {ps : List Str} {sp : Sp} {dvs : List V} {ds : List Value} {x : Str} {p pos : Pos} {e : Expr} {es : List Expr} {t : TA}
end
section
variable {X : Cx} {k : Nat} {f : Addr} {fd : FuncData} {ps : List Str} {sp : Sp} {dvs : List V} {ds : List Value} {x : Str} {p pos : Pos} {e : Expr} {es : List Expr} {t : TA}
theorem zpsx_expr {te : TEX} (he : SPEX X e te) (hs : swapsWith e none pos.line X.env = pure false := by rfl) : SPSX X [.Expr e pos] (fun D E σ H => te σ H (fun _ H1 => D.nx σ H1) E) := ⟨psx_expr he.out hs⟩
end
section
theorem zps_cut {X : Cx} {st : Stmt} {t : TS} (h : SPS X st t) : SPS X st (tCut t) := ⟨ps_cut h.out⟩
end
section
variable {X : Cx} {es : List Expr} {t : TA} {te : TE} {pos : Pos} {l r : List Expr} {k : Nat} {o : Operator} {a b : Expr} {cst : Const} {x : Str} {u : UnaryOp} {kw : List Keyword} {f : Expr}
theorem zpac_c (ha : SPE X (.Constant cst k pos) te) (hr : SPA X es t) : SPA X (.Constant cst k pos :: es) (tCons te t) := ⟨pac_c ha.out hr.out⟩
end
section
variable {X : Cx} {es : List Expr} {t : TA} {te : TE} {pos : Pos} {l r : List Expr} {k : Nat} {o : Operator} {a b : Expr} {cst : Const} {x : Str} {u : UnaryOp} {kw : List Keyword} {f : Expr}
theorem zpac_n (ha : SPE X (.Name x pos) te) (hr : SPA X es t) : SPA X (.Name x pos :: es) (tCons te t) := ⟨pac_n ha.out hr.out⟩
end
section
variable {X : Cx} {es : List Expr} {t : TA} {te : TE} {pos : Pos} {l r : List Expr} {k : Nat} {o : Operator} {a b : Expr} {cst : Const} {x : Str} {u : UnaryOp} {kw : List Keyword} {f : Expr}
theorem zpac_l (ha : SPE X (.List l pos) te) (hr : SPA X es t) : SPA X (.List l pos :: es) (tCons te t) := ⟨pac_l ha.out hr.out⟩
end
section
variable {X : Cx} {es : List Expr} {t : TA} {te : TE} {pos : Pos} {l r : List Expr} {k : Nat} {o : Operator} {a b : Expr} {cst : Const} {x : Str} {u : UnaryOp} {kw : List Keyword} {f : Expr}
theorem zpac_t (ha : SPE X (.Tuple l k pos) te) (hr : SPA X es t) : SPA X (.Tuple l k pos :: es) (tCons te t) := ⟨pac_t ha.out hr.out⟩
end
section
variable {X : Cx} {es : List Expr} {t : TA} {te : TE} {pos : Pos} {l r : List Expr} {k : Nat} {o : Operator} {a b : Expr} {cst : Const} {x : Str} {u : UnaryOp} {kw : List Keyword} {f : Expr}
theorem zpac_d {ks : List (Option Expr)} {vs : List Expr} (ha : SPE X (.Dict ks vs pos) te) (hr : SPA X es t) : SPA X (.Dict ks vs pos :: es) (tCons te t) := ⟨pac_d ha.out hr.out⟩
end
section
variable {X : Cx} {es : List Expr} {t : TA} {te : TE} {pos : Pos} {l r : List Expr} {k : Nat} {o : Operator} {a b : Expr} {cst : Const} {x : Str} {u : UnaryOp} {kw : List Keyword} {f : Expr}
theorem zpac_b (ha : SPE X (.BinOp a o b pos) te) (hr : SPA X es t) : SPA X (.BinOp a o b pos :: es) (tCons te t) := ⟨pac_b ha.out hr.out⟩
end
section
variable {X : Cx} {es : List Expr} {t : TA} {te : TE} {pos : Pos} {l r : List Expr} {k : Nat} {o : Operator} {a b : Expr} {cst : Const} {x : Str} {u : UnaryOp} {kw : List Keyword} {f : Expr}
theorem zpac_u (ha : SPE X (.UnaryOp u a pos) te) (hr : SPA X es t) : SPA X (.UnaryOp u a pos :: es) (tCons te t) := ⟨pac_u ha.out hr.out⟩
end
section
variable {X : Cx} {es : List Expr} {t : TA} {te : TE} {pos : Pos} {l r : List Expr} {k : Nat} {o : Operator} {a b : Expr} {cst : Const} {x : Str} {u : UnaryOp} {kw : List Keyword} {f : Expr}
theorem zpac_f (ha : SPE X (.Call f l kw pos) te) (hr : SPA X es t) : SPA X (.Call f l kw pos :: es) (tCons te t) := ⟨pac_f ha.out hr.out⟩
end
section
variable {X : Cx} {es : List Expr} {t : TA} {te : TE} {pos : Pos} {l r : List Expr} {k : Nat} {o : Operator} {a b : Expr} {cst : Const} {x : Str} {u : UnaryOp} {kw : List Keyword} {f : Expr}
theorem zpac_s (ha : SPE X (.Subscript a b pos) te) (hr : SPA X es t) : SPA X (.Subscript a b pos :: es) (tCons te t) := ⟨pac_s ha.out hr.out⟩
end
theorem zps_try_as {X : Cx} {body : List Stmt} {tb : TSX} {th : TS} {d n : Str} {D : Addr} {j : Nat} {b0 : Stmt} {suite : List Stmt} {pd hpos pos : Pos} (hb : SPSX X body tb) (hN : X.N.Nodup) (hj : X.N[j]? = some n) (hx : X.env.scope.names.lookup n = some .local)
    (hst : X.stack = X.env :: X.outer) (hL : X.env.frame = some X.env.locals) (hg : Gl X d) (hm : X.mg d = some (.ref D)) (c : CatchK X.K D) (hs : ∀ e, SPSs (X.held e) (b0 :: suite) th) (hd : (d == ("__debug__" : Str)) = false := by decide) :
    SPS X (.Try body [.ExceptHandler (some (.Name d pd)) (some n) (b0 :: suite) hpos] [] [] pos) (tTryAs X.K D j tb th) := ⟨ps_try_as hb.out hN hj hx hst hL hg hm c (fun e => (hs e).out) hd⟩
structure SPTs (X : Cx) (ifs : List Expr) (t : TT) : Prop where
  out : PTs X ifs t
theorem zpts_nil {X : Cx} : SPTs X [] (fun _ H Q => Q true H) := ⟨pts_nil⟩
theorem zpts_one {X : Cx} {e : Expr} {t : TT} (h : SPT X e t) : SPTs X [e] t := ⟨pts_one h.out⟩
section
variable {X : Cx} {tg iter elt : Expr} {ifs : List Expr} {scope esc : Scope} {pos gpos p : Pos} {N os : List Str} {fi : List Nat} {wi : TI} {g : TG} {tt : TT} {te : TE} {c P : Addr} {k : Nat}
theorem zpi_str {l : Expr} {tl : TE} (hl : SPE X l tl) : SPI X tg l (iStr tl) := ⟨pi_str hl.out⟩
theorem zpe_all (N os : List Str) (fi : List Nat) (esc : Scope) (hc : X.calm = true) (hr : Room k X.A) (hgl : Gl X "all") (hm : X.mg "all" = none) (hcd : X.env.code = .ref c) (CK : CodeK X.K c P) (BM : BmK X) (hN : X.N = N) (he : X.env.scope = esc) (B : BlkOk esc scope N fi) (hco : scope.isCoroutine = false) (h0 : scope.names.lookup (".0" : Str) = some NameKind.local) (hi : SPI X tg iter wi)
    (hg : ∀ code s H fp, SPG (gblk X scope (nB N os fi) code s H fp) tg g) (hel : ∀ code s H fp, SPE (gblk X scope (nB N os fi) code s H fp) elt te)
    (hs : ∀ x, genFold iter X.env x = pure x := by intro _; rfl) : SPE X (.Call (.Name "all" p) [.GeneratorExp elt [⟨tg, iter, [], 0⟩] scope gpos] [] pos) (tAll P os fi wi g te) :=
  ⟨pe_all hc hr hgl hm hcd CK BM hN he B hco h0 hi.out (fun code s H fp => (hg code s H fp).out) (fun code s H fp => (hel code s H fp).out) hs⟩
end
section
variable {X : Cx} {elt tg iter tg2 iter2 : Expr} {ifs ifs2 : List Expr} {scope esc : Scope} {pos p : Pos} {N os : List Str} {fi : List Nat} {wi wi2 : TI} {g g2 : TG} {tt tt2 : TT} {te : TE}
theorem zpe_setadd {o e : Expr} {to : TE} {t : TA} {apos cpos : Pos} (ho : SPE X o to) (ha : SPA X [e] t)
    (hbase : attributeBase o "add" X.env (eval o X.env) = eval o X.env := by rfl)
    (hfew : ((backTo cpos (starEach [e] X.env)).all (fun x => !x.1) && (backToKw cpos (keywordEach [] X.env)).all (fun x => x.1.isSome)
      && decide ([e].length + ([] : List Keyword).length + (if ([] : List Keyword).isEmpty then 0 else 1) < 30)) = true := by rfl)
    (hline : (apos.endLine == cpos.line) = true := by rfl) (hs : starEach [e] X.env = (false, eval e X.env) :: starEach [] X.env := by rfl) (hplain : (backTo cpos (starEach [] X.env)).any (·.1) = false := by rfl) :
    SPE X (.Call (.Attribute o "add" apos) [e] [] cpos) (tAddS X.prog X.w to t) := ⟨pe_setadd ho.out ha.out hbase hfew hline hs hplain⟩
theorem pac_x {e : Expr} {te : TE} {es : List Expr} {t : TA} (ha : PE X e te) (hr : PA X es t) (hs : starEach (e :: es) X.env = (false, eval e X.env) :: starEach es X.env := by rfl) : PA X (e :: es) (tCons te t) := pa_cons ha hr hs
theorem zpac_x {e : Expr} {te : TE} {es : List Expr} {t : TA} (ha : SPE X e te) (hr : SPA X es t) (hs : starEach (e :: es) X.env = (false, eval e X.env) :: starEach es X.env := by rfl) : SPA X (e :: es) (tCons te t) := ⟨pac_x ha.out hr.out hs⟩
end
theorem zpg_tupK {X : Cx} {es : List Expr} {k : Nat} {pos : Pos} {t : TGs} (K : PySem.W.Frag) (n : Nat) (hK : X.K = K) (hc : X.calm = true) (h : SPGs X es t) (hn : (assignEach es X.env).length = n := by rfl) (hst : (assignEach es X.env).findIdx? (·.1) = none := by rfl) : SPG X (.Tuple es k pos) (gTup K n t) := hK ▸ zpg_tup hc h hn hst
section
variable {X : Cx} {kx vx tg iter : Expr} {ifs : List Expr} {scope esc : Scope} {pos p : Pos} {N os : List Str} {fi : List Nat} {wi : TI} {g : TG} {tt : TT} {tk tv : TE}
theorem zpe_dictcomp (N os : List Str) (fi : List Nat) (esc : Scope) (hc : X.calm = true) (hN : X.N = N) (he : X.env.scope = esc) (B : BlkOk esc scope N fi) (hi : SPI X tg iter wi)
    (hg : ∀ s H fp, SPG (blk X scope (nB N os fi) s H fp) tg g) (ht : ∀ s H fp, SPTs (blk X scope (nB N os fi) s H fp) ifs tt)
    (hk : ∀ s H fp, SPE (blk X scope (nB N os fi) s H fp) kx tk) (hv : ∀ s H fp, SPE (blk X scope (nB N os fi) s H fp) vx tv)
    (hs : ∀ x, foldedSetIterable iter X.env x = pure x := by intro _; rfl) :
    SPE X (.DictComp kx vx [⟨tg, iter, ifs, 0⟩] scope pos) (tCG (fun _ => .dK []) os fi wi g tt fun D => tEmD D tk tv) :=
  ⟨pe_dictcomp hc hN he B hi.out (fun s H fp => (hg s H fp).out) (fun s H fp => (ht s H fp).out) (fun s H fp => (hk s H fp).out) (fun s H fp => (hv s H fp).out) hs⟩
theorem zpe_dget {o i : Expr} {td ty : TE} (hu : X.A.units + 1 < cLine) (ho : SPE X o td) (hi : SPE X i ty) (hs : NoSl i) : SPE X (.Subscript o i pos) (tDGet td ty) := ⟨pe_dget hu ho.out hi.out hs⟩
end
theorem Room.units1 {k : Nat} {A : Around} (r : Room k A) : A.units + 1 < cLine := by have := r.un; omega
section
variable {X : Cx} {elt kx vx tg iter tg2 iter2 : Expr} {ifs ifs2 : List Expr} {scope esc : Scope} {pos p : Pos} {N os : List Str} {fi : List Nat} {wi wi2 : TI} {g g2 : TG} {tt tt2 : TT} {te tk tv : TE}
theorem zpe_compL (N os : List Str) (fi : List Nat) (esc : Scope) (hc : X.calm = true) (hN : X.N = N) (he : X.env.scope = esc) (B : BlkOk esc scope N fi) (hi : SPI X tg iter wi)
    (hg : ∀ s H fp, SPG (blk X scope (nB N os fi) s H fp) tg g) (ht : ∀ s H fp, SPTs (blk X scope (nB N os fi) s H fp) ifs tt) (hel : ∀ s H fp, SPE (blk X scope (nB N os fi) s H fp) elt te)
    (hs : ∀ x, foldedSetIterable iter X.env x = pure x := by intro _; rfl) : SPE X (.ListComp elt [⟨tg, iter, ifs, 0⟩] scope pos) (tCG (fun _ => .lst []) os fi wi g tt fun D => tEmL D te) :=
  ⟨pe_compL hc hN he B hi.out (fun s H fp => (hg s H fp).out) (fun s H fp => (ht s H fp).out) (fun s H fp => (hel s H fp).out) hs⟩
theorem zps_compL (N os : List Str) (fi : List Nat) (esc : Scope) {i : Nat} {y : Str} {py spos : Pos} (hc : X.calm = true) (hN : X.N = N) (he : X.env.scope = esc) (B : BlkOk esc scope N fi) (hnd : X.N.Nodup) (hy : X.N[i]? = some y) (hl : Loc X.env.scope y) (hi : SPI X tg iter wi)
    (hg : ∀ s H fp, SPG (blk X scope (nB N os fi) s H fp) tg g) (ht : ∀ s H fp, SPTs (blk X scope (nB N os fi) s H fp) ifs tt) (hel : ∀ s H fp, SPE (blk X scope (nB N os fi) s H fp) elt te)
    (hsw : swapsWith (.ListComp elt [⟨tg, iter, ifs, 0⟩] scope pos) (some (.Name y py)) spos.line X.env = pure true := by rfl)
    (hfn : X.fn y = true ∨ X.env.scope.names.lookup y = some .local := by first | exact .inl rfl | exact .inr rfl | assumption)
    (hs : ∀ x, foldedSetIterable iter X.env x = pure x := by intro _; rfl) : SPS X (.Assign [.Name y py] (.ListComp elt [⟨tg, iter, ifs, 0⟩] scope pos) spos) (fun D σ H => tCG (fun _ => .lst []) os fi wi g tt (fun D => tEmL D te) σ H fun v H' => D.nx (σ.set i (some v)) H') :=
  ⟨ps_compL hc hN he B hnd hy hl hi.out (fun s H fp => (hg s H fp).out) (fun s H fp => (ht s H fp).out) (fun s H fp => (hel s H fp).out) hsw hfn hs⟩
theorem zpe_range1 {a : Expr} {ta : TA} (hg : Gl X "range") (hm : X.mg "range" = none) (ha : SPA X [a] ta) (hs : starEach [a] X.env = [(false, eval a X.env)] := by rfl) : SPE X (.Call (.Name "range" p) [a] [] pos) (tRange ta) := ⟨pe_range1 hg hm ha.out hs⟩
end
theorem zpe_xd {X : Cx} {o : Expr} {f : Str} {pos : Pos} {ta : TE} (he : SPE X o ta) (hb : attributeBase o f X.env (eval o X.env) = eval o X.env := by rfl) : SPE X (.Attribute o f pos) (tXd X.K ta f) := ⟨pe_xd he.out hb⟩
theorem zps_raiseI {P : Program} {w : World} {K : PySem.W.Frag} {mg : Str → Option Value} {base : Heap} {N : List Str} {qual : Str} {scope : Scope} {f : Addr} {cd : Value} {A : Around} {outer : List Env} {s : Shared} {H : Hp} {E : XK}
    {x Xn : Str} {C fI : Addr} {e0 : Expr} {t : TA} {k : Nat} {np cpos pos : Pos} (hA : Room (k + 1) (cxOf (CXE P w) P w K mg base N qual scope f cd A outer s H E).A)
    (hg : Gl (cxOf (CXE P w) P w K mg base N qual scope f cd A outer s H E) x) (hm : mg x = some (.ref C)) (q : InitK P w K mg C fI Xn) (ha : SPA (cxOf (CXE P w) P w K mg base N qual scope f cd A outer s H E) [e0] t) (hd : (x == ("__debug__" : Str)) = false := by decide)
    (he : starEach [e0] (cxOf (CXE P w) P w K mg base N qual scope f cd A outer s H E).env = [(false, eval e0 (cxOf (CXE P w) P w K mg base N qual scope f cd A outer s H E).env)] := by rfl) :
    SPS (cxOf (CXE P w) P w K mg base N qual scope f cd A outer s H E) (.Raise (some (.Call (.Name x np) [e0] [] cpos)) none pos) (tRaiseI C Xn E t) := ⟨ps_raiseI hA rfl hg hm q ha.out hd he⟩
end L2
namespace L2
open PySem PySem.Spec PyProof.Rows
section
variable {P : Program} {w : World} {K : PySem.W.Frag} {mg : Str → Option Value} {base : Heap} {x qual : Str} {st : Stmt} {dV : Value} {f : Addr} {fd : FuncData} {N ps : List Str} {k : Nat} {sp : Sp}
theorem FunG.zokE (F : FunG K x qual st dV f fd) (S : FnScope N ps (defScope st)) (len : ∀ vs H Q E, sp vs H Q E → vs.length = ps.length)
    (hbody : ∀ (cdv : Value) (A : Around) (outer : List Env) (s : Shared) (H : Hp) (vs : List V) (Q : VK) (E : XK), Room k (A.deeper (envOfC qual (defScope st) s.heap.objs.size f cdv)) → sp vs H Q E →
      ∃ t, SPSs (cxOf (CXE P w) P w K mg base N qual (defScope st) f cdv A outer s H E) (defBody st) t ∧ t { nx := fun _ H' => Q .non H', rt := Q } (start N vs) H) : FnOk P w K mg base (CXE P w) (k + 1) f fd ps sp :=
  F.okE S len fun cdv A outer s H vs Q E hr hsp => by
    obtain ⟨t, h, q⟩ := hbody cdv A outer s H vs Q E hr hsp
    exact ⟨t, h.out, q⟩
theorem FunG.zokN (F : FunG K x qual st dV f fd) (S : FnScope N ps (defScope st)) (len : ∀ vs H Q E, sp vs H Q E → vs.length = ps.length)
    (hbody : ∀ (cdv : Value) (A : Around) (outer : List Env) (s : Shared) (H : Hp) (vs : List V) (Q : VK) (E : XK), Room k (A.deeper (envOfC qual (defScope st) s.heap.objs.size f cdv)) → sp vs H Q E →
      ∃ t, SPSs (cxOf (CXE P w) P w K mg base N qual (defScope st) f cdv A outer s H E).nox (defBody st) t ∧ t { nx := fun _ H' => Q .non H', rt := Q } (start N vs) H) : FnOk P w K mg base (CXE P w) (k + 1) f fd ps sp :=
  F.okN S len fun cdv A outer s H vs Q E hr hsp => by
    obtain ⟨t, h, q⟩ := hbody cdv A outer s H vs Q E hr hsp
    exact ⟨t, h.out, q⟩
end
end L2
namespace L2
open PySem PySem.Spec PyProof.Rows
section
variable {P : Program} {w : World} {K : PySem.W.Frag} {mg : Str → Option Value} {base : Heap} {x qual : Str} {st : Stmt} {dV kV doc pm ct oc : Value} {an od : Option Addr} {osl : Array (Option Value)} {f c : Addr} {N ps : List Str} {k : Nat} {sp : Sp}
theorem okC (lk : K.lookup f = some ⟨oc, od, .func (PySem.W.fnOf x qual (defArgs st) (defBody st) (defScope st) dV kV doc pm an (.ref c) ct), osl⟩) (hcd : PySem.W.codeIn K (.ref c) qual = true) (S : FnScope N ps (defScope st)) (len : ∀ vs H Q E, sp vs H Q E → vs.length = ps.length)
    (hbody : ∀ (A : Around) (outer : List Env) (s : Shared) (H : Hp) (vs : List V) (Q : VK) (E : XK), Room k (A.deeper (envOfC qual (defScope st) s.heap.objs.size f (.ref c))) → sp vs H Q E →
      ∃ t, SPSs (cxOf (CXE P w) P w K mg base N qual (defScope st) f (.ref c) A outer s H E).nox (defBody st) t ∧ t { nx := fun _ H' => Q .non H', rt := Q } (start N vs) H) :
    FnOk P w K mg base (CXE P w) (k + 1) f (PySem.W.fnOf x qual (defArgs st) (defBody st) (defScope st) dV kV doc pm an (.ref c) ct) ps sp :=
  fn_of lk hcd S len fun A outer s H vs Q E hr h => by
    obtain ⟨t, h1, h2⟩ := hbody A outer s H vs Q E hr h
    exact ⟨t, h1.out.nox, h2⟩
end
theorem boot_str : bootBuiltins "str" = some (.type "str") := by decide +kernel
end L2
namespace G1
open PySem L2 GM
def letters : Str := "abcdefghijklmnopqrstuvwxyz"
def occ (c : Nat) : Bool := !(Builtin.Str.occurrences letters ⟨#[c]⟩ 0 letters.length 1).isEmpty
def nameB : V → Bool
  | .str z => decide (z ≠ "") && (decide (z.length ≤ 8) && z.cps.toList.all occ)
  | _ => false
def isS : V → Bool
  | .str _ => true
  | _ => false
section
variable {P : Program} {w : World} {K : PySem.W.Frag} {mg : Str → Option Value} {base : Heap}
theorem ks1 : PySem.W.kitOne K (.type "int") (.type "str") = some false := by kernel_rfl
theorem ks2 : PySem.W.kitOne K (.type "bool") (.type "str") = some false := by kernel_rfl
theorem ks3 : PySem.W.kitOne K (.type "NoneType") (.type "str") = some false := by kernel_rfl
theorem ks4 : PySem.W.kitOne K (.type "str") (.type "str") = some true := by kernel_rfl
theorem ks5 : PySem.W.kitOne K (.type "list") (.type "str") = some false := by kernel_rfl
theorem ks6 : PySem.W.kitOne K (.type "tuple") (.type "str") = some false := by kernel_rfl
theorem ks7 : PySem.W.kitOne K (.type "dict") (.type "str") = some false := by kernel_rfl
theorem _root_.L2.Th.tyS {H : Hp} {x : V} (h : Th H x) : ∃ t, TyX K H x t ∧ PySem.W.kitOne K t (.type "str") = some (isS x) := by
  cases h with
  | non => exact ⟨_, .of .non, ks3⟩
  | bl b => exact ⟨_, .of (.bl b), ks2⟩
  | int i => exact ⟨_, .of (.int i), ks1⟩
  | str x => exact ⟨_, .of (.str x), ks4⟩
  | lst h => exact ⟨_, .of (.lst h), ks5⟩
  | tup h => exact ⟨_, .of (.tup h), ks6⟩
  | dK h => exact ⟨_, .of (.dK h), ks7⟩
def spName (T : Addr) : Sp := fun vs H Q _ => ∃ x ps, vs = [x] ∧ Th H x ∧ (∀ z, x = .str z → z.length ≤ sizeLine) ∧ H T = some (.tbl ps) ∧ TriplesOk ps.toList ∧ ∀ ps', TriplesOk ps'.toList → Q (.bl (nameB x)) (upd H T (.tbl ps'))
theorem scN : FnScope ["thing"] ["thing"] (defScope sName) := ⟨rfl, rfl, rfl, by decide +kernel, rfl, by decide +kernel, by decide +kernel⟩
theorem ok_name {f c T : Addr} {kV doc pm ct oc : Value} {an od : Option Addr} {osl : Array (Option Value)} {t1 t2 : Tok}
    (lk : K.lookup f = some ⟨oc, od, .func (PySem.W.fnOf "is_name" "is_name" (defArgs sName) (defBody sName) (defScope sName) .none kV doc pm an (.ref c) ct), osl⟩) (hcd : PySem.W.codeIn K (.ref c) "is_name" = true)
    (B : Bl mg) (CK : CodeK K c T) (hbm : BmOf mg base) (mL : mg "LETTERS" = some (.str letters t1)) (mM : mg "LONGEST_NAME" = some (.int 8 t2)) :
    FnOk P w K mg base (CXE P w) 2 f (PySem.W.fnOf "is_name" "is_name" (defArgs sName) (defBody sName) (defScope sName) .none kV doc pm an (.ref c) ct) ["thing"] (spName T) := by
  refine okC lk hcd scN (fun vs H Q E h => ?_) (fun A outer s H vs Q E hr h => ?_)
  · obtain ⟨x, ps, rfl, _⟩ := h
    rfl
  · obtain ⟨x, ps, rfl, hx, len, hT, tr, q⟩ := h
    refine ⟨_, zpss_cons (zps_if (zpw_or (zpt_not (zpt_val (zpe_callB call_isi (by rfl) B.isi boot_isi (zpac_n (zpv 0) (zpac_n (zpe_bltn (by rfl) B.str boot_str (v := .ty "str") rfl) zpa_nil)))))
        (zpw_or (zpt_cmpR op_eq (zpv 0) zpe_str (nomark _)) (zpw_or1 (zpt_cmpR op_gt (zpe_callB call_len_str (by rfl) B.len PySem.boot_len (zpac_n (zpv 0) zpa_nil)) (zpe_glob (by rfl) mM (v := .int 8) ⟨_, rfl⟩) (nomark _))))).pt (zpss_one (zps_ret zpe_bl)) zpss_nil)
      (zpss_one (zps_ret (zpe_all ["thing"] ["sign"] [] (defScope sName) rfl hr (by rfl) B.all rfl CK ⟨hbm⟩ rfl rfl ⟨by decide +kernel, by decide +kernel, by decide +kernel, by decide +kernel, by decide +kernel⟩ (by decide +kernel) (by decide +kernel) (zpi_str (zpv 0))
        (fun code s H fp => zpg_name (i := 0) (show List.Nodup [("sign" : Str)] by decide +kernel) rfl (Or.inl rfl)) (fun code s H fp => zpe_cmpR op_in_str (zpv 0) (zpe_glob (by rfl) mL (v := .str letters) ⟨_, rfl⟩) rfl)))), ?_⟩
    obtain ⟨t, ty, e1⟩ := hx.tyS (K := K)
    refine ⟨_, rfl, _, _, t, isS x, rfl, ty, .inl ⟨_, rfl, e1⟩, _, rfl, ?_⟩
    have self : ∀ {b : Bool}, nameB x = b → Q (.bl b) H := fun {b} e => by
      have := q ps tr
      rw [upd_self hT, e] at this
      exact this
    cases x with
    | str z =>
      refine iteF ⟨_, rfl, rfl, _, rfl, ?_⟩
      refine ite2 (fun e => ?_) (fun e => ?_)
      · have e' : V.str z = V.str "" := of_decide_eq_true e
        injection e' with e'
        refine iteT (self ?_)
        simp [nameB, e']
      · have ne : z ≠ "" := fun y => e (decide_eq_true (by rw [y]))
        refine ⟨_, rfl, z, rfl, len z rfl, _, _, rfl, rfl, _, rfl, ?_⟩
        refine ite2 (fun e8 => ?_) (fun e8 => ?_)
        · have g8 : (8 : Int) < (z.length : Int) := of_decide_eq_true e8
          refine self ?_
          have : decide (z.length ≤ 8) = false := decide_eq_false (by omega)
          simp [nameB, this]
        · have l8 : z.length ≤ 8 := by
            have : ¬ (8 : Int) < (z.length : Int) := fun y => e8 (decide_eq_true y)
            omega
          refine ⟨_, rfl, z, rfl, ps, hT, tr, fun ps' tr' => ?_⟩
          refine ⟨fun i m σ2 H2 => H2 = upd H T (.tbl ps') ∧ i ≤ z.cps.size ∧ m = z.cps.size - i ∧ (∃ v, σ2 = [v]) ∧ (∀ j c, j < i → z.cps[j]? = some c → occ c = true), ⟨_, rfl, Nat.zero_le _, rfl, ⟨_, rfl⟩, fun j c hj => absurd hj (Nat.not_lt_zero _)⟩, ?_⟩
          rintro i m σ2 H2 ⟨rfl, hi, rfl, ⟨v, rfl⟩, ok⟩
          by_cases hlt : i < z.cps.size
          · refine .inr ⟨hlt, ?_⟩
            rintro y H3 ⟨rfl, c, hc, rfl⟩
            refine ⟨_, rfl, ⟨#[c]⟩, letters, rfl, rfl, _, rfl, ?_⟩
            cases ho : occ c with
            | true =>
              rw [if_pos (show (!(Builtin.Str.occurrences letters ⟨#[c]⟩ 0 letters.length 1).isEmpty) = true from ho)]
              refine ⟨z.cps.size - (i + 1), by omega, rfl, hlt, rfl, ⟨_, rfl⟩, fun j d hj hd => ?_⟩
              rcases Nat.lt_or_ge j i with h | h
              · exact ok j d h hd
              · have e : j = i := by omega
                subst e
                rw [hc] at hd; cases hd
                exact ho
            | false =>
              rw [if_neg (by rw [show (!(Builtin.Str.occurrences letters ⟨#[c]⟩ 0 letters.length 1).isEmpty) = false from ho]; decide)]
              have e : nameB (.str z) = false := by
                have a : z.cps.toList.all occ = false := by
                  rw [List.all_eq_false]
                  exact ⟨c, by
                    have : z.cps.toList[i]? = some c := by simpa using hc
                    exact List.mem_of_getElem? this, by rw [ho]; decide⟩
                simp [nameB, a]
              rw [← e, ← show (!(Builtin.Str.occurrences letters ⟨#[c]⟩ 0 letters.length 1).isEmpty) = nameB (.str z) from by rw [e]; exact ho]
              have := q ps' tr'
              rw [e] at this
              rw [show (!(Builtin.Str.occurrences letters ⟨#[c]⟩ 0 letters.length 1).isEmpty) = false from ho]
              exact this
          · have e : i = z.cps.size := by omega
            subst e
            refine .inl ⟨rfl, ?_⟩
            have a : z.cps.toList.all occ = true := by
              rw [List.all_eq_true]
              intro c hc
              obtain ⟨j, hj⟩ := List.getElem?_of_mem hc
              have hj' : z.cps[j]? = some c := by simpa using hj
              exact ok j c (Array.getElem?_eq_some_iff.mp hj').1 hj'
            have n1 : nameB (.str z) = true := by
              simp [nameB, ne, l8]
              simpa using a
            have := q ps' tr'
            rw [n1] at this
            exact this
    | _ => exact iteT (self rfl)
end
end G1
namespace G1
open PySem L2 GM
def Kp (H H' : Hp) : Prop := ∀ b o, H b = some o → (∀ ps, o ≠ .tbl ps) → H' b = some o
theorem Kp.refl {H : Hp} : Kp H H := fun _ _ h _ => h
theorem Kp.trans {H H1 H2 : Hp} (a : Kp H H1) (b : Kp H1 H2) : Kp H H2 := fun c o h n => b c o (a c o h n) n
theorem Kp.same {H H' : Hp} (s : Same H H') : Kp H H' := fun b o h _ => s b o h
theorem Kp.new {H : Hp} {p : Addr} {o : HO} (h : H p = none) : Kp H (upd H p o) := Kp.same (same_upd h)
theorem Kp.lst {H H' : Hp} {a : Addr} {xs : List V} (k : Kp H H') (h : H a = some (.lst xs)) : H' a = some (.lst xs) := k a _ h nofun
theorem Kp.tup {H H' : Hp} {a : Addr} {xs : List V} (k : Kp H H') (h : H a = some (.tup xs)) : H' a = some (.tup xs) := k a _ h nofun
def Tab (T : Addr) (H : Hp) : Prop := ∃ ps, H T = some (.tbl ps) ∧ TriplesOk ps.toList
theorem Kp.tab {H : Hp} {T : Addr} {ps' : Array Value} (h : Tab T H) : Kp H (upd H T (.tbl ps')) := fun b o e n => by
  obtain ⟨ps, hp, _⟩ := h
  rw [upd_ne (fun z => by rw [z, hp] at e; cases e; exact n _ rfl)]; exact e
theorem Tab.new {H : Hp} {T p : Addr} {o : HO} (h : Tab T H) (n : H p = none) : Tab T (upd H p o) := by
  obtain ⟨ps, hp, t⟩ := h
  exact ⟨ps, by rw [upd_ne (ne_of_none hp n)]; exact hp, t⟩
theorem Tab.put {H : Hp} {T T' : Addr} {ps' : Array Value} (h : Tab T H) (t : TriplesOk ps'.toList) : Tab T (upd H T' (.tbl ps')) := by
  obtain ⟨ps, hp, t0⟩ := h
  by_cases e : T = T'
  · subst e; exact ⟨ps', upd_same, t⟩
  · exact ⟨ps, by rw [upd_ne e]; exact hp, t0⟩
theorem Tab.set {H : Hp} {T p : Addr} {o o' : HO} (h : Tab T H) (n : H p = some o') (no : ∀ ps, o' ≠ .tbl ps) : Tab T (upd H p o) := by
  obtain ⟨ps, hp, t⟩ := h
  exact ⟨ps, by rw [upd_ne (fun z => by rw [z, n] at hp; cases hp; exact no _ rfl)]; exact hp, t⟩
theorem Tab.same {H H' : Hp} {T : Addr} (h : Tab T H) (s : Same H H') : Tab T H' := by
  obtain ⟨ps, hp, t⟩ := h
  exact ⟨ps, s _ _ hp, t⟩
section
variable {P : Program} {w : World} {K : PySem.W.Frag} {mg : Str → Option Value} {base : Heap}
def inB : V → Int → Int → Bool
  | .int i, lo, hi => decide (lo ≤ i) && decide (i ≤ hi)
  | _, _, _ => false
def spWithin : Sp := fun vs H Q _ => ∃ (x : V) (lo hi : Int), vs = [x, .int lo, .int hi] ∧ Th H x ∧ Q (.bl (inB x lo hi)) H
theorem scWi : FnScope ["thing", "least", "most"] ["thing", "least", "most"] (defScope sWithin) := ⟨rfl, rfl, rfl, by decide +kernel, rfl, by decide +kernel, by decide +kernel⟩
theorem ok_within {f fW : Addr} {fd fdW : FuncData} (F : FunG K "is_whole_within" "is_whole_within" sWithin .none f fd)
    (GW : FnOk P w K mg base (CXE P w) 1 fW fdW ["thing"] spWhole) (mW : mg "is_whole" = some (.ref fW)) (kW : PySem.W.keepIn K (.ref fW) = true) (bW : Binds K fdW ["thing"] []) :
    FnOk P w K mg base (CXE P w) 2 f fd ["thing", "least", "most"] spWithin := by
  refine F.zokN scWi (fun vs H Q E h => ?_) (fun cdv A outer s H vs Q E hr h => ?_)
  · obtain ⟨x, lo, hi, rfl, _⟩ := h
    rfl
  · obtain ⟨x, lo, hi, rfl, hx, q⟩ := h
    refine ⟨_, zpss_one (zps_ret (zpe_and (zpe_call GW hr (by rfl) mW kW bW .nil passE0 (zpac_n (zpv 0) zpa_nil)) (zpe_and (zpe_cmpR op_le (zpv 1) (zpv 0) (nomark _)) (zpe_one (zpe_cmpR op_le (zpv 0) (zpv 2) (nomark _)))))), ?_⟩
    refine ⟨_, rfl, x, rfl, hx, _, rfl, ?_⟩
    cases x with
    | int i =>
      refine iteT ⟨_, rfl, _, rfl, _, _, rfl, rfl, _, rfl, ?_⟩
      refine ite2 (fun e => ?_) (fun e => ?_)
      · refine ⟨_, rfl, _, rfl, _, _, rfl, rfl, ?_⟩
        have : inB (.int i) lo hi = decide (i ≤ hi) := by simp [inB, of_decide_eq_true e]
        rw [this] at q
        exact q
      · have : inB (.int i) lo hi = false := by
          have : decide (lo ≤ i) = false := by simpa using e
          simp [inB, this]
        rw [this] at q
        exact q
    | _ => exact iteF q
end
end G1
namespace L2
open PySem PySem.Spec PyProof.Rows
theorem gl_list {K : PySem.W.Frag} {S : Addr} {xs : List V} {g : TG} {te : TE} {σ : St} {H : Hp} {Q : VK} (Pv : Nat → St → Hp → Prop) (h0 : Pv 0 σ H) (hS : ∀ i σ H, Pv i σ H → SqL K H S xs)
    (step : ∀ (i : Nat) (x : V) (σ : St) (H : Hp) (C : St → Hp → Prop), xs[i]? = some x → Pv i σ H → (∀ σ' H', Pv (i + 1) σ' H' → C σ' H') → g x σ H fun σ4 H4 => te σ4 H4 fun v H5 => ∃ b, v = .bl b ∧ if b = true then C σ4 H5 else Q (.bl false) H5)
    (fin : ∀ σ H, Pv xs.length σ H → Q (.bl true) H) : GLr (Itl K S) g te σ H Q := by
  refine ⟨fun i m σ H => m = xs.length - i ∧ i ≤ xs.length ∧ Pv i σ H, ⟨_, rfl, Nat.zero_le _, h0⟩, ?_⟩
  rintro i m σ2 H2 ⟨rfl, hi, p⟩
  have sq := hS i σ2 H2 p
  by_cases hlt : i < xs.length
  · refine .inr ⟨⟨xs, _, sq, List.getElem?_eq_getElem hlt⟩, ?_⟩
    rintro x H3 ⟨rfl, hx⟩
    exact step i x σ2 H3 _ (hx _ sq) p fun σ' H' p' => ⟨xs.length - (i + 1), by omega, rfl, hlt, p'⟩
  · have e : i = xs.length := by omega
    subst e
    exact .inl ⟨⟨_, sq, Nat.le_refl _⟩, fin _ _ p⟩
end L2
namespace L2
open PySem PySem.Spec PyProof.Rows
def tyN (H : Hp) : V → String
  | .non => "NoneType"
  | .bl _ => "bool"
  | .int _ => "int"
  | .str _ => "str"
  | .ref a => match H a with
    | some (.lst _) => "list"
    | some (.tup _) => "tuple"
    | some (.dK _) => "dict"
    | _ => ""
  | _ => ""
theorem tyN_lst {H : Hp} {a : Addr} {xs : List V} (h : H a = some (.lst xs)) : tyN H (.ref a) = "list" := by simp [tyN, h]
theorem tyN_tup {H : Hp} {a : Addr} {xs : List V} (h : H a = some (.tup xs)) : tyN H (.ref a) = "tuple" := by simp [tyN, h]
theorem tyN_dK {H : Hp} {a : Addr} {xs : List (Key × V)} (h : H a = some (.dK xs)) : tyN H (.ref a) = "dict" := by simp [tyN, h]
theorem Th.tyQ {K : PySem.W.Frag} {H : Hp} {x : V} (h : Th H x) : TyX K H x (.type (tyN H x)) := by
  cases h with
  | non => exact .of .non
  | bl b => exact .of (.bl b)
  | int i => exact .of (.int i)
  | str x => exact .of (.str x)
  | lst h => rw [tyN_lst h]; exact .of (.lst h)
  | tup h => rw [tyN_tup h]; exact .of (.tup h)
  | dK h => rw [tyN_dK h]; exact .of (.dK h)
theorem kit_tup {K : PySem.W.Frag} {H : Hp} {x : V} (h : Th H x) : PySem.W.kitOne K (.type (tyN H x)) (.type "tuple") = some (decide (tyN H x = "tuple")) := by
  cases h with
  | lst h => rw [tyN_lst h]; kernel_rfl
  | tup h => rw [tyN_tup h]; kernel_rfl
  | dK h => rw [tyN_dK h]; kernel_rfl
  | _ => kernel_rfl
theorem kit_lst {K : PySem.W.Frag} {H : Hp} {x : V} (h : Th H x) : PySem.W.kitOne K (.type (tyN H x)) (.type "list") = some (decide (tyN H x = "list")) := by
  cases h with
  | lst h => rw [tyN_lst h]; kernel_rfl
  | tup h => rw [tyN_tup h]; kernel_rfl
  | dK h => rw [tyN_dK h]; kernel_rfl
  | _ => kernel_rfl
theorem kit_bool {K : PySem.W.Frag} {H : Hp} {x : V} (h : Th H x) : PySem.W.kitOne K (.type (tyN H x)) (.type "bool") = some (isB x) := by
  cases h with
  | lst h => rw [tyN_lst h]; kernel_rfl
  | tup h => rw [tyN_tup h]; kernel_rfl
  | dK h => rw [tyN_dK h]; kernel_rfl
  | _ => kernel_rfl
theorem Th.isTup {H : Hp} {x : V} (h : Th H x) (e : tyN H x = "tuple") : ∃ a xs, x = .ref a ∧ H a = some (.tup xs) := by
  cases h with
  | tup h => exact ⟨_, _, rfl, h⟩
  | lst h => rw [tyN_lst h] at e; exact absurd e (by decide)
  | dK h => rw [tyN_dK h] at e; exact absurd e (by decide)
  | _ => exact absurd e (by simp [tyN])
theorem Th.isLst {H : Hp} {x : V} (h : Th H x) (e : tyN H x = "list") : ∃ a xs, x = .ref a ∧ H a = some (.lst xs) := by
  cases h with
  | lst h => exact ⟨_, _, rfl, h⟩
  | tup h => rw [tyN_tup h] at e; exact absurd e (by decide)
  | dK h => rw [tyN_dK h] at e; exact absurd e (by decide)
  | _ => exact absurd e (by simp [tyN])
end L2
namespace G1
open PySem L2 GM
theorem _root_.L2.Th.kp {H H' : Hp} {x : V} (h : Th H x) (s : Kp H H') : Th H' x := by
  cases h with
  | non => exact .non
  | bl b => exact .bl b
  | int i => exact .int i
  | str x => exact .str x
  | lst h => exact .lst (s _ _ h nofun)
  | tup h => exact .tup (s _ _ h nofun)
  | dK h => exact .dK (s _ _ h nofun)
def wM : Int := 1000000000
def pairOf (H : Hp) : V → Option (V × V)
  | .ref a => match H a with
    | some (.tup [n, c]) => some (n, c)
    | _ => none
  | _ => none
theorem pairOf_tup {H : Hp} {a : Addr} {n c : V} (h : H a = some (.tup [n, c])) : pairOf H (.ref a) = some (n, c) := by simp [pairOf, h]
theorem pairOf_kp {H H' : Hp} {y : V} (h : Th H y) (k : Kp H H') : pairOf H' y = pairOf H y := by
  cases h with
  | lst h => simp [pairOf, h, k _ _ h nofun]
  | tup h => simp [pairOf, h, k _ _ h nofun]
  | dK h => simp [pairOf, h, k _ _ h nofun]
  | _ => rfl
def okW (H : Hp) (y : V) : Bool := match pairOf H y with
  | some (n, c) => nameB n && inB c 0 wM
  | none => false
def nmS (H : Hp) (y : V) : Str := match pairOf H y with
  | some (.str s, _) => s
  | _ => ""
theorem okW_kp {H H' : Hp} {y : V} (h : Th H y) (k : Kp H H') : okW H' y = okW H y := by unfold okW; rw [pairOf_kp h k]
theorem nmS_kp {H H' : Hp} {y : V} (h : Th H y) (k : Kp H H') : nmS H' y = nmS H y := by unfold nmS; rw [pairOf_kp h k]
theorem okW_str {H : Hp} {y : V} (h : okW H y = true) : ∃ a c, y = .ref a ∧ H a = some (.tup [.str (nmS H y), c]) ∧ nameB (.str (nmS H y)) = true := by
  have p : ∃ a n c, y = .ref a ∧ H a = some (.tup [n, c]) := by
    cases y with
    | ref a =>
      cases e : H a with
      | none => simp [okW, pairOf, e] at h
      | some o =>
        cases o with
        | tup ys =>
          match ys, e with
          | [n, c], e => exact ⟨a, n, c, rfl, e⟩
          | [], e => simp [okW, pairOf, e] at h
          | [_], e => simp [okW, pairOf, e] at h
          | _ :: _ :: _ :: _, e => simp [okW, pairOf, e] at h
        | _ => simp [okW, pairOf, e] at h
    | _ => simp [okW, pairOf] at h
  obtain ⟨a, n, c, rfl, e⟩ := p
  have hn : nameB n = true := by
    unfold okW at h
    rw [pairOf_tup e] at h
    exact (Bool.and_eq_true_iff.mp h).1
  cases n with
  | str s =>
    have z : nmS H (.ref a) = s := by unfold nmS; rw [pairOf_tup e]
    rw [z]
    exact ⟨a, c, rfl, e, hn⟩
  | _ => cases hn
structure ThE (H : Hp) (y : V) : Prop where
  th : Th H y
  parts : ∀ a ys, y = .ref a → H a = some (.tup ys) → ∀ z ∈ ys, Th H z ∧ ∀ x, z = .str x → x.length ≤ sizeLine
structure ThW (H : Hp) (x : V) : Prop where
  th : Th H x
  els : ∀ a xs, x = .ref a → H a = some (.lst xs) → ∀ y ∈ xs, ThE H y
theorem back {H H' : Hp} {y : V} {a : Addr} {o : HO} (h : Th H y) (k : Kp H H') (e : y = .ref a) (e' : H' a = some o) : H a = some o := by
  subst e
  cases h with
  | lst h => rw [k _ _ h nofun] at e'; cases e'; exact h
  | tup h => rw [k _ _ h nofun] at e'; cases e'; exact h
  | dK h => rw [k _ _ h nofun] at e'; cases e'; exact h
theorem ThE.kp {H H' : Hp} {y : V} (h : ThE H y) (k : Kp H H') : ThE H' y :=
  ⟨h.th.kp k, fun a ys e e' z hz => ⟨(h.parts a ys e (back h.th k e e') z hz).1.kp k, (h.parts a ys e (back h.th k e e') z hz).2⟩⟩
theorem ThW.kp {H H' : Hp} {y : V} (h : ThW H y) (k : Kp H H') : ThW H' y :=
  ⟨h.th.kp k, fun a xs e e' z hz => (h.els a xs e (back h.th k e e') z hz).kp k⟩
def badAt (H : Hp) : List V → List Str → Nat → Option Nat
  | [], _, _ => none
  | y :: ys, sn, k => if okW H y = true ∧ nmS H y ∉ sn then badAt H ys (sn ++ [nmS H y]) (k + 1) else some k
def nms (H : Hp) (xs : List V) (i : Nat) : List Str := (xs.take i).map (nmS H)
def bA (H : Hp) (xs : List V) (i : Nat) : Option Nat := badAt H (xs.drop i) (nms H xs i) i
theorem nms_succ {H : Hp} {xs : List V} {i : Nat} {y : V} (e : xs[i]? = some y) : nms H xs (i + 1) = nms H xs i ++ [nmS H y] := by
  unfold nms
  rw [List.take_add_one, e, List.map_append]; rfl
theorem nms_len {H : Hp} {xs : List V} {i : Nat} : (nms H xs i).length ≤ i := by
  unfold nms
  rw [List.length_map, List.length_take]; omega
theorem bA_step {H : Hp} {xs : List V} {i : Nat} {y : V} (e : xs[i]? = some y) : bA H xs i = if okW H y = true ∧ nmS H y ∉ nms H xs i then bA H xs (i + 1) else some i := by
  obtain ⟨h1, h2⟩ := List.getElem?_eq_some_iff.mp e
  unfold bA
  rw [List.drop_eq_getElem_cons h1, h2, nms_succ e]
  rfl
theorem bA_end {H : Hp} {xs : List V} : bA H xs xs.length = none := by
  unfold bA
  rw [List.drop_length]; rfl
def outW (H : Hp) : V → Option V
  | .ref a => match H a with
    | some (.lst xs) => if 1 ≤ xs.length ∧ xs.length ≤ 20 then (bA H xs 0).map fun k => V.int k else some .non
    | _ => some .non
  | _ => some .non
theorem outW_lst {H : Hp} {a : Addr} {xs : List V} (h : H a = some (.lst xs)) : outW H (.ref a) = if 1 ≤ xs.length ∧ xs.length ≤ 20 then (bA H xs 0).map fun k => V.int k else some .non := by simp [outW, h]
theorem outW_no {H : Hp} {x : V} (h : Th H x) (n : tyN H x ≠ "list") : outW H x = some .non := by
  cases h with
  | lst h => exact absurd (tyN_lst h) n
  | tup h => simp [outW, h]
  | dK h => simp [outW, h]
  | _ => rfl
section
variable {P : Program} {w : World} {K : PySem.W.Frag} {mg : Str → Option Value} {base : Heap}
def spCount : Sp := fun vs H Q _ => ∃ x, vs = [x] ∧ Th H x ∧ Q (.bl (inB x 0 wM)) H
theorem scCo : FnScope ["thing"] ["thing"] (defScope sCount) := ⟨rfl, rfl, rfl, by decide +kernel, rfl, by decide +kernel, by decide +kernel⟩
theorem ok_count {f fI : Addr} {fd fdI : FuncData} {t1 : Tok} (F : FunG K "is_count" "is_count" sCount .none f fd)
    (GI : FnOk P w K mg base (CXE P w) 2 fI fdI ["thing", "least", "most"] spWithin) (mI : mg "is_whole_within" = some (.ref fI)) (kI : PySem.W.keepIn K (.ref fI) = true) (bI : Binds K fdI ["thing", "least", "most"] [])
    (mM : mg "MOST_COUNT" = some (.int 1000000000 t1)) : FnOk P w K mg base (CXE P w) 3 f fd ["thing"] spCount := by
  refine F.zokN scCo (fun vs H Q E h => ?_) (fun cdv A outer s H vs Q E hr h => ?_)
  · obtain ⟨x, rfl, _⟩ := h
    rfl
  · obtain ⟨x, rfl, hx, q⟩ := h
    refine ⟨_, (zpss_one (zps_ret (zpe_call GI hr (by rfl) mI kI bI .nil passE0 (zpac_n (zpv 0) (zpac_c zpe_int (zpac_n (zpe_glob (by rfl) mM (v := .int 1000000000) ⟨_, rfl⟩) zpa_nil)))))), ?_⟩
    exact ⟨_, rfl, x, 0, 1000000000, rfl, hx, q⟩
def spWant (T : Addr) : Sp := fun vs H Q _ => ∃ x, vs = [x] ∧ ThE H x ∧ Tab T H ∧ ∀ H', Kp H H' → Tab T H' → (∀ b, b ≠ T → H' b = H b) → Q (.bl (okW H x)) H'
theorem scWa : FnScope ["thing"] ["thing"] (defScope sWant) := ⟨rfl, rfl, rfl, by decide +kernel, rfl, by decide +kernel, by decide +kernel⟩
theorem ok_want {T f fN fC : Addr} {fd fdN fdC : FuncData} (F : FunG K "is_want" "is_want" sWant .none f fd) (B : Bl mg)
    (GN : FnOk P w K mg base (CXE P w) 2 fN fdN ["thing"] (spName T)) (mN : mg "is_name" = some (.ref fN)) (kN : PySem.W.keepIn K (.ref fN) = true) (bN : Binds K fdN ["thing"] [])
    (GC : FnOk P w K mg base (CXE P w) 3 fC fdC ["thing"] spCount) (mC : mg "is_count" = some (.ref fC)) (kC : PySem.W.keepIn K (.ref fC) = true) (bC : Binds K fdC ["thing"] []) :
    FnOk P w K mg base (CXE P w) 4 f fd ["thing"] (spWant T) := by
  refine F.zokN scWa (fun vs H Q E h => ?_) (fun cdv A outer s H vs Q E hr h => ?_)
  · obtain ⟨x, rfl, _⟩ := h
    rfl
  · obtain ⟨x, rfl, hx, hT, q⟩ := h
    refine ⟨_, (zpss_cons (zps_if (zpw_or (zpt_not (zpt_val (zpe_callB call_isi (by rfl) B.isi boot_isi (zpac_n (zpv 0) (zpac_n (zpe_bltn (by rfl) B.tuple boot_tuple (v := .ty "tuple") rfl) zpa_nil)))))
          (zpw_or1 (zpt_cmpR op_ne (zpe_callB call_len_seq (by rfl) B.len PySem.boot_len (zpac_n (zpv 0) zpa_nil)) zpe_int (nomark _)))).pt (zpss_one (zps_ret zpe_bl)) zpss_nil)
      (zpss_one (zps_ret (zpe_and (zpe_call GN (hr.mono (by decide)) (by rfl) mN kN bN .nil passE0 (zpac_s (zpe_ix ix_tup (zpv 0) zpe_int (fun _ _ => rfl)) zpa_nil)) (zpe_one (zpe_call GC hr (by rfl) mC kC bC .nil passE0 (zpac_s (zpe_ix ix_tup (zpv 0) zpe_int (fun _ _ => rfl)) zpa_nil))))))), ?_⟩
    have self : ∀ {b : Bool}, okW H x = b → Q (.bl b) H := fun {b} e => e ▸ q H Kp.refl hT fun _ _ => rfl
    refine ⟨_, rfl, _, _, _, _, rfl, hx.th.tyQ, .inl ⟨_, rfl, kit_tup hx.th⟩, _, rfl, ?_⟩
    by_cases ht : tyN H x = "tuple"
    · rw [decide_eq_true ht]
      obtain ⟨a, ys, rfl, ha⟩ := hx.th.isTup ht
      refine iteF ⟨_, rfl, a, ys, rfl, .inr (SqT.of ha), rfl, _, rfl, ?_⟩
      have sq : SqT K H a ys := SqT.of ha
      by_cases hl : ys.length = 2
      · obtain ⟨n, c, rfl⟩ : ∃ n c, ys = [n, c] := by
          match ys, hl with
          | [n, c], _ => exact ⟨n, c, rfl⟩
        refine ite2 (fun e => absurd e (show ¬ ((!decide (V.int 2 = V.int 2)) = true) by decide)) (fun _ => ?_)
        have pn := hx.parts a _ rfl ha n (by simp)
        have pc := hx.parts a _ rfl ha c (by simp)
        obtain ⟨ps, hp, tr⟩ := id hT
        have ow : okW H (.ref a) = (nameB n && inB c 0 wM) := by unfold okW; rw [pairOf_tup ha]
        refine ⟨_, rfl, a, _, _, n, rfl, rfl, sq, rfl, n, ps, rfl, pn.1, pn.2, hp, tr, fun ps' tr' => ?_⟩
        have kp : Kp H (upd H T (.tbl ps')) := Kp.tab hT
        have tb : Tab T (upd H T (.tbl ps')) := hT.put tr'
        refine ⟨_, rfl, ?_⟩
        cases hn : nameB n with
        | false =>
          refine iteF ?_
          have z := q _ kp tb fun b hb => upd_ne hb
          rw [ow, hn] at z
          exact z
        | true =>
          refine iteT ⟨_, rfl, a, _, _, c, rfl, rfl, SqT.of (kp _ _ ha nofun), rfl, c, rfl, pc.1.kp kp, ?_⟩
          have z := q _ kp tb fun b hb => upd_ne hb
          rw [ow, hn] at z
          exact z
      · have z : okW H (.ref a) = false := by
          unfold okW
          have : pairOf H (.ref a) = none := by
            match ys, hl, ha with
            | [], _, ha => simp [pairOf, ha]
            | [_], _, ha => simp [pairOf, ha]
            | [_, _], h, _ => exact absurd rfl h
            | _ :: _ :: _ :: _, _, ha => simp [pairOf, ha]
          rw [this]
        refine ite2 (fun _ => self z) (fun e => absurd ?_ e)
        show (!decide (V.int ys.length = V.int 2)) = true
        rw [decide_eq_false (fun y => hl (by injection y with y; omega))]; rfl
    · rw [decide_eq_false ht]
      refine iteT (self ?_)
      unfold okW
      have : pairOf H x = none := by
        cases hx.th with
        | tup h => exact absurd (tyN_tup h) ht
        | lst h => simp [pairOf, h]
        | dK h => simp [pairOf, h]
        | _ => rfl
      rw [this]
end
end G1
namespace L2
open PySem
theorem boot_list : bootBuiltins "list" = some (.type "list") := by decide +kernel
theorem boot_min : bootBuiltins "min" = some (.builtin "min") := by decide +kernel
end L2
namespace G1
open PySem L2 GM
theorem fig20 : ∀ j : Fin 21, (Str.ofString (toString ((j.val : Nat) : Int))).length ≤ 700 := by decide +kernel
section
variable {P : Program} {w : World} {K : PySem.W.Frag} {mg : Str → Option Value} {base : Heap}
theorem _root_.L2.Kp_new {H H' : Hp} {p : Addr} {o : HO} (k : Kp H H') (h : H p = none) : Kp H (upd H' p o) := fun b u e n => by
  rw [upd_ne (ne_of_none e h)]; exact k b u e n
def _root_.G1.TbK (H H' : Hp) : Prop := ∀ U, Tab U H → Tab U H'
theorem _root_.G1.TbK.refl {H : Hp} : TbK H H := fun _ h => h
theorem _root_.G1.TbK.trans {H H1 H2 : Hp} (a : TbK H H1) (b : TbK H1 H2) : TbK H H2 := fun U h => b U (a U h)
theorem _root_.G1.TbK.new {H H' : Hp} {p : Addr} {o : HO} (a : TbK H H') (n : H' p = none) : TbK H (upd H' p o) := fun U h => (a U h).new n
theorem _root_.G1.TbK.set {H H' : Hp} {p : Addr} {o o' : HO} (a : TbK H H') (n : H' p = some o') (no : ∀ ps, o' ≠ .tbl ps) : TbK H (upd H' p o) := fun U h => (a U h).set n no
theorem _root_.G1.TbK.same {H H' H2 : Hp} (a : TbK H H') (s : Same H' H2) : TbK H H2 := fun U h => (a U h).same s
theorem _root_.G1.TbK.one {T : Addr} {H H' : Hp} (t : Tab T H') (o : ∀ b, b ≠ T → H' b = H b) : TbK H H' := fun U h => by
  by_cases e : U = T
  · rw [e]; exact t
  · obtain ⟨ps, h1, h2⟩ := h
    exact ⟨ps, by rw [o U e]; exact h1, h2⟩
def spLookWs (C T : Addr) : Sp := fun vs H Q E => ∃ x, vs = [x] ∧ ThW H x ∧ Tab T H ∧ (outW H x = none → ∀ H', Kp H H' → TbK H H' → Q .non H') ∧
  (∀ v, outW H x = some v → ∀ dx H', Kp H H' → TbK H H' → H' dx = some (.xd [("number", v)]) → E (.ref C) (some dx) H')
theorem scLw : FnScope ["thing", "names", "number", "want"] ["thing"] (defScope sLookW) := ⟨rfl, rfl, rfl, by decide +kernel, rfl, by decide +kernel, by decide +kernel⟩
theorem ok_lookWs {T C fI f fW : Addr} {fd fdW : FuncData} {t1 : Tok} (F : FunG K "look_at_wants" "look_at_wants" sLookW .none f fd) (B : Bl mg)
    (GW : FnOk P w K mg base (CXE P w) 4 fW fdW ["thing"] (spWant T)) (mW : mg "is_want" = some (.ref fW)) (kW : PySem.W.keepIn K (.ref fW) = true) (bW : Binds K fdW ["thing"] [])
    (mM : mg "MOST_THINGS" = some (.int 20 t1)) (mC : mg "NoWants" = some (.ref C)) (IK : InitK P w K mg C fI "number") : FnOk P w K mg base (CXE P w) 5 f fd ["thing"] (spLookWs C T) := by
  refine F.zokE scLw (fun vs H Q E h => ?_) (fun cdv A outer s H vs Q E hr h => ?_)
  · obtain ⟨x, rfl, _⟩ := h
    rfl
  · obtain ⟨x, rfl, hx, hT, q, qe⟩ := h
    refine ⟨_, (zpss_cons (zps_if (zpw_or (zpt_not (zpt_val (zpe_callB call_isi (by rfl) B.isi boot_isi (zpac_n (zpv 0) (zpac_n (zpe_bltn (by rfl) B.list boot_list (v := .ty "list") rfl) zpa_nil)))))
          (zpw_or (zpt_cmpR op_lt (zpe_callB call_len_seq (by rfl) B.len PySem.boot_len (zpac_n (zpv 0) zpa_nil)) zpe_int (nomark _))
          (zpw_or1 (zpt_cmpR op_gt (zpe_callB call_len_seq (by rfl) B.len PySem.boot_len (zpac_n (zpv 0) zpa_nil)) (zpe_glob (by rfl) mM (v := .int 20) ⟨_, rfl⟩) (nomark _))))).pt (zpss_one (zps_raiseI (k := 3) hr (by rfl) mC IK (zpac_c zpe_non zpa_nil))) zpss_nil)
      (zpss_cons (zps_set (i := 1) scLw.nd rfl (Or.inl rfl) (zpe_callTy0 call_set0 (by rfl) B.set boot_set))
      (zpss_one (zps_for PassesOwn.leaving rfl (zpi_enum (by rfl) B.enum (zpac_n (zpv 0) zpa_nil)) (zpg_tup rfl (zpgs_cons (zpg_name (i := 2) scLw.nd rfl (Or.inl rfl)) (zpgs_cons (zpg_name (i := 3) scLw.nd rfl (Or.inl rfl)) zpgs_nil)))
          (zpss_cons (zps_if (zpw_or (zpt_not (zpt_val (zpe_call GW hr (by rfl) mW kW bW .nil passE0 (zpac_n (zpv 3) zpa_nil))))
              (zpw_or1 (zpt_cmpR op_in_set (zpe_ix ix_tup (zpv 3) zpe_int (fun _ _ => rfl)) (zpv 1) rfl))).pt (zpss_one (zps_raiseI (k := 3) hr (by rfl) mC IK (zpac_n (zpv 2) zpa_nil))) zpss_nil)
      (zpss_one (zps_expr (zpe_setadd (zpv 1) (zpac_s (zpe_ix ix_tup (zpv 3) zpe_int (fun _ _ => rfl)) zpa_nil))))))))), ?_⟩
    have bad : ∀ {v : V} {H' : Hp}, outW H x = some v → Kp H H' → TbK H H' → (∃ y, Shown v y ∧ y.length ≤ 700) → ∃ u, [v] = [u] ∧ (∃ y, Shown u y ∧ y.length ≤ 700) ∧ ∀ dx, H' dx = none → E (.ref C) (some dx) (upd H' dx (.xd [("number", u)])) := fun {v H'} e k t sh =>
      ⟨v, rfl, sh, fun dx hd => qe v e dx _ (k.trans (Kp.new hd)) (t.new hd) upd_same⟩
    have non : ∃ y, Shown V.non y ∧ y.length ≤ 700 := ⟨_, .non, by decide⟩
    refine ⟨_, rfl, _, _, _, _, rfl, hx.th.tyQ, .inl ⟨_, rfl, kit_lst hx.th⟩, _, rfl, ?_⟩
    by_cases ht : tyN H x = "list"
    · rw [decide_eq_true ht]
      obtain ⟨a, xs, rfl, ha⟩ := hx.th.isLst ht
      have sq : SqL K H a xs := SqL.of ha
      have ow := outW_lst ha
      refine iteF ⟨_, rfl, a, xs, rfl, .inl sq, _, _, rfl, rfl, _, rfl, ?_⟩
      refine ite2 (fun e => ?_) (fun e => ?_)
      · have l0 : (xs.length : Int) < 1 := of_decide_eq_true e
        rw [if_neg (by omega)] at ow
        exact bad ow Kp.refl TbK.refl non
      · have l0 : ¬ (xs.length : Int) < 1 := fun z => e (decide_eq_true z)
        refine ⟨_, rfl, a, xs, rfl, .inl sq, _, _, rfl, rfl, _, rfl, ?_⟩
        refine ite2 (fun e2 => ?_) (fun e2 => ?_)
        · have l1 : (20 : Int) < (xs.length : Int) := of_decide_eq_true e2
          rw [if_neg (by omega)] at ow
          exact bad ow Kp.refl TbK.refl non
        · have l1 : ¬ (20 : Int) < (xs.length : Int) := fun z => e2 (decide_eq_true z)
          rw [if_pos (by omega)] at ow
          refine ⟨rfl, fun p hp => ?_⟩
          have kp0 : Kp H (upd H p (SetT P w p [])) := Kp.new hp
          have Tp : T ≠ p := fun z => by obtain ⟨ps, h, _⟩ := hT; rw [z, hp] at h; cases h
          refine ⟨_, rfl, a, rfl, ⟨_, SqL.of (kp0.lst ha)⟩, for_enum (K := K) (a := a) (xs := xs)
            (fun i σ H2 => (∃ v1 v2, σ = [some (.ref a), some (.ref p), v1, v2]) ∧ H2 p = some (SetT P w p (nms H xs i)) ∧ Kp H H2 ∧ TbK H H2 ∧ bA H xs 0 = bA H xs i) ⟨⟨_, _, rfl⟩, upd_same, kp0, TbK.refl.new hp, rfl⟩ ?_ ?_ ?_⟩
          · rintro i σ H2 _ ⟨_, _, k2, _⟩
            exact SqL.of (k2.lst ha)
          · rintro i y t σ H2 hi ⟨⟨v1, v2, rfl⟩, hp2, k2, T2, b2⟩ ht2
            have il := (List.getElem?_eq_some_iff.mp hi).1
            have hy := hx.els a xs rfl ha y (List.mem_of_getElem? hi)
            have pt : p ≠ t := fun z => by rw [z, ht2] at hp2; cases hp2
            have k3 : Kp H (upd H2 t (.tup [.int i, y])) := k2.trans (Kp.new ht2)
            have T3 : TbK H (upd H2 t (.tup [.int i, y])) := T2.new ht2
            have st := bA_step (H := H) hi
            have shi : ∃ z, Shown (V.int (i : Int)) z ∧ z.length ≤ 700 := by
              refine ⟨_, .int ?_, ?_⟩
              · exact Nat.lt_of_le_of_lt (Nat.log2_le_self _) (by omega)
              · exact fig20 ⟨i, by omega⟩
            refine ⟨t, _, rfl, SqT.of upd_same, rfl, _, _, rfl, _, _, rfl, rfl, ?_⟩
            refine ⟨_, rfl, y, rfl, hy.kp k3, T3 _ hT, fun H4 k4 T4' o4 => ?_⟩
            have T4 : TbK H H4 := T3.trans (TbK.one T4' o4)
            have k5 : Kp H H4 := k3.trans k4
            have oe : okW (upd H2 t (.tup [.int i, y])) y = okW H y := okW_kp hy.th k3
            rw [oe]
            have raise : bA H xs i = some i → outW H (.ref a) = some (V.int i) := fun z => by rw [ow, b2, z]; rfl
            refine ⟨_, rfl, ?_⟩
            cases ok : okW H y with
            | false =>
              refine iteT ⟨_, rfl, bad (raise ?_) k5 T4 shi⟩
              rw [st, if_neg (fun z => by rw [ok] at z; cases z.1)]
            | true =>
              obtain ⟨b, c, rfl, hb, hn⟩ := okW_str ok
              have hb4 := k5.tup hb
              have hp4 : H4 p = some (SetT P w p (nms H xs i)) := by
                rw [o4 p (Ne.symm Tp), upd_ne pt]; exact hp2
              refine iteF ⟨_, rfl, b, _, _, _, rfl, rfl, SqT.of hb4, rfl, _, rfl, _, p, _, rfl, rfl, hp4, _, rfl, ?_⟩
              by_cases mem : nmS H (.ref b) ∈ nms H xs i
              · refine ite2 (fun _ => ⟨_, rfl, bad (raise ?_) k5 T4 shi⟩) (fun z => absurd (decide_eq_true mem) z)
                rw [st, if_neg (fun z => z.2 mem)]
              · refine ite2 (fun z => absurd (of_decide_eq_true z) mem) (fun _ => ?_)
                refine ⟨_, rfl, ⟨p, _, rfl, hp4⟩, _, rfl, b, _, _, _, rfl, rfl, SqT.of hb4, rfl, p, _, _, rfl, rfl, hp4, ?_, ?_⟩
                · have := nms_len (H := H) (xs := xs) (i := i); omega
                · refine ⟨⟨_, _, rfl⟩, ?_, ?_, ?_, ?_⟩
                  · have z : insT (nmS H (.ref b)) (nms H xs i) = nms H xs (i + 1) := by
                      unfold insT
                      rw [if_neg mem, nms_succ hi]
                    rw [z]; exact upd_same
                  · exact Kp_new k5 hp
                  · exact T4.set hp4 nofun
                  · rw [b2, st, if_pos ⟨ok, mem⟩]
          · rintro σ H2 ⟨⟨v1, v2, rfl⟩, _, k2, T2, b2⟩
            refine q ?_ H2 k2 T2
            rw [ow, b2, bA_end]; rfl
    · rw [decide_eq_false ht]
      exact iteT (bad (outW_no hx.th ht) Kp.refl TbK.refl non)
end
end G1
namespace G1
open PySem L2 GM
section
variable {P : Program} {w : World} {K : PySem.W.Frag} {mg : Str → Option Value} {base : Heap}
def spCell (K : PySem.W.Frag) : Sp := fun vs H Q _ => ∃ (a : Addr) (ns : List Int) (k : Int), vs = [.ref a, .int k] ∧ SqL K H a (ns.map V.int) ∧ 0 ≤ k ∧ ∀ z : Int, Q (.int z) H
theorem scCe : FnScope ["_law_script", "_law_k"] ["_law_script", "_law_k"] (defScope sCell) := ⟨rfl, rfl, rfl, by decide +kernel, rfl, by decide +kernel, by decide +kernel⟩
theorem ok_cell {f : Addr} {fd : FuncData} (F : FunG K "_law_cell" "_law_cell" sCell .none f fd) (B : Bl mg) : FnOk P w K mg base (CXE P w) 1 f fd ["_law_script", "_law_k"] (spCell K) := by
  refine F.zokN scCe (fun vs H Q E h => ?_) (fun cdv A outer s H vs Q E hr h => ?_)
  · obtain ⟨a, ns, k, rfl, _⟩ := h
    rfl
  · obtain ⟨a, ns, k, rfl, ha, k0, q⟩ := h
    refine ⟨_, zpss_cons (zps_if (zpt_cmpR op_lt (zpv 1) (zpe_callB call_len_seq (by rfl) B.len PySem.boot_len (zpac_n (zpv 0) zpa_nil)) (nomark _)) (zpss_one (zps_ret (zpe_ix ix_list (zpv 0) (zpv 1) (fun _ _ => rfl)))) zpss_nil)
      (zpss_one (zps_ret zpe_int)), ?_⟩
    refine ⟨_, rfl, _, rfl, a, _, rfl, .inl ha, _, _, rfl, rfl, _, rfl, ?_⟩
    refine ite2 (fun e => ?_) (fun _ => q 0)
    have lt := of_decide_eq_true e
    obtain ⟨n, rfl⟩ := Int.eq_ofNat_of_zero_le k0
    rw [List.length_map] at lt
    have hn : n < ns.length := by omega
    refine ⟨_, rfl, _, rfl, a, _, _, _, rfl, rfl, ha, atI_nat (v := .int ns[n]) (by simp [hn]), q _⟩
end
end G1
namespace G1
open PySem L2 GM
def Below (ds ss : List Int) : Prop := ds.length = ss.length ∧ ∀ (i : Nat) (d s : Int), ds[i]? = some d → ss[i]? = some s → 0 ≤ d ∧ d < s
section
variable {P : Program} {w : World} {K : PySem.W.Frag} {mg : Str → Option Value} {base : Heap}
def spDraws : Sp := fun vs H Q _ => ∃ (z k : Int) (S : Addr) (ss : List Int), vs = [.int z, .int k, .ref S] ∧ 0 ≤ k ∧ k ≤ 1000 ∧ H S = some (.lst (ss.map V.int)) ∧ ss.length ≤ 1000 ∧ (∀ s ∈ ss, 0 < s ∧ s.natAbs < big) ∧
  ∀ l ds H', Same H H' → H l = none → H' l = some (.lst (ds.map V.int)) → Below ds ss → Q (.ref l) H'
theorem scDr : FnScope ["_law_cell_here", "_law_k", "_law_sizes", "_law_number_here", "_law_great", "_law_mixed", "_law_found", "_law_turn", "_law_size"] ["_law_cell_here", "_law_k", "_law_sizes"] (defScope sDraws) := ⟨rfl, rfl, rfl, by decide +kernel, rfl, by decide +kernel, by decide +kernel⟩
theorem ok_draws {f : Addr} {fd : FuncData} (F : FunG K "_law_draws" "_law_draws" sDraws .none f fd) (B : Bl mg) : FnOk P w K mg base (CXE P w) 1 f fd ["_law_cell_here", "_law_k", "_law_sizes"] spDraws := by
  refine F.zokN scDr (fun vs H Q E h => ?_) (fun cdv A outer s H vs Q E hr h => ?_)
  · obtain ⟨z, k, S, ss, rfl, _⟩ := h
    rfl
  · obtain ⟨z, k, S, ss, rfl, k0, k1, hS, s1, spos, q⟩ := h
    refine ⟨_, (zpss_cons (zps_set (i := 3) scDr.nd rfl (Or.inl rfl) (zpe_callB call_abs (by rfl) B.abs boot_abs (zpac_n (zpv 0) zpa_nil)))
      (zpss_cons (zps_set (i := 4) scDr.nd rfl (Or.inl rfl) (zpe_cmpR op_ge (zpv 3) (zpe_op op_pow zpe_int zpe_int) (nomark _)))
      (zpss_cons (zps_set (i := 5) scDr.nd rfl (Or.inl rfl) (zpe_op op_mod (zpe_op op_mul (zpe_op op_add (zpe_op op_add (zpe_op op_mod (zpv 3) zpe_int) (zpe_op op_mul zpe_int (zpv 1))) zpe_int) zpe_int) zpe_int))
      (zpss_cons (zps_set (i := 6) scDr.nd rfl (Or.inl rfl) (zpe_lst zpa_nil))
      (zpss_cons (zps_for PassesOwn.never rfl (zpi_enum (by rfl) B.enum (zpac_n (zpv 2) zpa_nil)) (zpg_tup rfl (zpgs_cons (zpg_name (i := 7) scDr.nd rfl (Or.inl rfl)) (zpgs_cons (zpg_name (i := 8) scDr.nd rfl (Or.inl rfl)) zpgs_nil)))
          (zpss_one (zps_if (zpt_val (zpv 4)) (zpss_cons (zps_expr (zpe_bm PySem.F.plainAttrs_list PySem.F.slot_list_append PySem.F.type_list_append mt_append (zpv 6) (zpac_b (zpe_op op_mod (zpv 3) (zpv 8)) zpa_nil)))
      (zpss_one (zps_set (i := 3) scDr.nd rfl (Or.inl rfl) (zpe_op op_fdivP (zpv 3) (zpv 8))))) (zpss_cons (zps_set (i := 5) scDr.nd rfl (Or.inl rfl) (zpe_op op_mod (zpe_op op_add (zpe_op op_add (zpe_op op_mul (zpv 5) (zpv 5)) (zpe_op op_mul zpe_int (zpe_op op_add (zpv 1) (zpv 7)))) zpe_int) zpe_int))
      (zpss_one (zps_expr (zpe_bm PySem.F.plainAttrs_list PySem.F.slot_list_append PySem.F.type_list_append mt_append (zpv 6) (zpac_b (zpe_op op_mod (zpe_op op_fdiv (zpv 5) zpe_int) (zpv 8)) zpa_nil))))))))
      (zpss_one (zps_ret (zpv 6)))))))), ?_⟩
    have p1 : ∀ y : Int, (0 : Int) ≤ y % 2147483629 ∧ y % 2147483629 < 2147483629 := fun y => ⟨Int.emod_nonneg _ (by decide), Int.emod_lt_of_pos _ (by decide)⟩
    have p2 : ∀ y : Int, (0 : Int) ≤ y % 2147483587 ∧ y % 2147483587 < 2147483629 := fun y => ⟨Int.emod_nonneg _ (by decide), by have := Int.emod_lt_of_pos y (show (0 : Int) < 2147483587 by decide); omega⟩
    refine ⟨_, rfl, _, rfl, ?_⟩
    refine ⟨_, rfl, _, _, rfl, rfl, ⟨by decide, by decide, by decide⟩, _, _, rfl, rfl, ?_⟩
    refine ⟨_, rfl, _, _, rfl, rfl, (by show (0 : Int) < 1000000007; decide), _, rfl, _, _, rfl, rfl, .inl ⟨by decide, by decide⟩, _, _, rfl, rfl, _, _, rfl, rfl, _, _, rfl, rfl, .inr ⟨by decide, by decide⟩, _, _, rfl, rfl, (by show (0 : Int) < 2147483629; decide), ?_⟩
    refine ⟨Nat.zero_le _, ?_⟩
    (intro l gl; generalize hEq : upd _ l _ = H1; refine newC hEq gl ?_; clear hEq; intro S1 e1 o1)
    refine ⟨_, rfl, S, rfl, ⟨_, SqL.of (S1 _ _ hS)⟩, ?_⟩
    refine for_enum (K := K) (a := S) (xs := ss.map V.int) (fun i σ H' => (∃ g n m v7 v8, σ = [some (.int z), some (.int k), some (.ref S), some (.int n), some (.bl g), some (.int m), some (.ref l), v7, v8] ∧ 0 ≤ m ∧ m < 2147483629) ∧ Same H H' ∧ ∃ ds : List Int, H' l = some (.lst (ds.map V.int)) ∧ ds.length = i ∧ ∀ (j : Nat) (d s : Int), ds[j]? = some d → ss[j]? = some s → 0 ≤ d ∧ d < s)
      ⟨⟨_, _, _, _, _, rfl, (p1 _).1, (p1 _).2⟩, S1, [], e1, rfl, fun j d s h => by simp at h⟩ (fun i σ H' _ p => SqL.of (p.2.1 _ _ hS)) ?_ ?_
    · rintro i x t σ H2 hi ⟨⟨g, n, m, v7, v8, rfl, m0, m1⟩, S2, ds, hl, dl, db⟩ ht
      rw [List.getElem?_map] at hi
      obtain ⟨sz, hsz, rfl⟩ := Option.map_eq_some_iff.mp hi
      obtain ⟨sp, sb⟩ := spos sz (List.mem_of_getElem? hsz)
      have il := (List.getElem?_eq_some_iff.mp hsz).1
      have lt : l ≠ t := fun z => by rw [z, ht] at hl; cases hl
      have S3 : Same H (upd H2 t (.tup [.int i, .int sz])) := S2.trans (same_upd ht)
      have hl3 : upd H2 t (.tup [.int i, .int sz]) l = some (.lst (ds.map V.int)) := by rw [upd_ne lt]; exact hl
      have ht3 : upd H2 t (.tup [.int i, .int sz]) t = some (.tup [.int i, .int sz]) := upd_same
      generalize upd H2 t (.tup [.int i, .int sz]) = H3 at S3 hl3 ht3
      have put : ∀ d : Int, 0 ≤ d → d < sz → Same H (upd H3 l (.lst (ds.map V.int ++ [V.int d]))) ∧ ∃ ds' : List Int, upd H3 l (.lst (ds.map V.int ++ [V.int d])) l = some (.lst (ds'.map V.int)) ∧ ds'.length = i + 1 ∧ ∀ (j : Nat) (d s : Int), ds'[j]? = some d → ss[j]? = some s → 0 ≤ d ∧ d < s := fun d d0 d1 => by
        refine ⟨fun b o e => ?_, ds ++ [d], by rw [List.map_append]; exact upd_same, by rw [List.length_append, dl]; rfl, fun j e s hj hs => ?_⟩
        · rw [upd_ne (ne_of_none e gl)]; exact S3 _ _ e
        · by_cases jl : j < ds.length
          · rw [List.getElem?_append_left jl] at hj
            exact db j e s hj hs
          · have jlt := (List.getElem?_eq_some_iff.mp hj).1
            rw [List.length_append] at jlt
            have je : j = ds.length := by simp at jlt; omega
            subst je
            rw [List.getElem?_append_right (Nat.le_refl _)] at hj
            simp at hj
            subst hj
            rw [dl, hsz] at hs
            cases hs
            exact ⟨d0, d1⟩
      have md : ∀ y : Int, 0 ≤ y % sz ∧ y % sz < sz := fun y => ⟨Int.emod_nonneg _ (by omega), Int.emod_lt_of_pos _ sp⟩
      have ll : (ds.map V.int).length < sizeLine := by rw [List.length_map, dl]; exact Nat.lt_of_lt_of_le (show i < 1001 by omega) (by decide)
      refine ⟨t, _, rfl, SqT.of ht3, rfl, _, _, rfl, _, _, rfl, rfl, ?_⟩
      cases g with
      | true =>
        refine ⟨_, rfl, _, rfl, _, rfl, .inl ⟨rfl, _, SqL.of hl3⟩, _, rfl, _, rfl, _, _, rfl, rfl, sp, l, _, _, rfl, rfl, hl3, ll, ?_⟩
        obtain ⟨S4, ds', hl4, dl4, db4⟩ := put (n % sz) (md n).1 (md n).2
        exact ⟨_, rfl, _, rfl, _, _, rfl, rfl, ⟨sp, sb⟩, ⟨_, _, _, _, _, rfl, m0, m1⟩, S4, ds', hl4, dl4, db4⟩
      | false =>
        refine ⟨_, rfl, _, rfl, _, rfl, _, rfl, _, _, rfl, rfl, .inl ⟨by omega, by omega⟩, _, rfl, _, rfl, _, _, rfl, rfl, _, _, rfl, rfl, .inl ⟨by decide, by decide⟩, _, _, rfl, rfl, _, _, rfl, rfl, _, _, rfl, rfl, (by show (0 : Int) < 2147483587; decide), ?_⟩
        refine ⟨_, rfl, .inl ⟨rfl, _, SqL.of hl3⟩, _, rfl, _, _, rfl, rfl, ⟨by decide, by decide⟩, _, rfl, _, _, rfl, rfl, sp, l, _, _, rfl, rfl, hl3, ll, ?_⟩
        obtain ⟨S4, ds', hl4, dl4, db4⟩ := put _ (md _).1 (md _).2
        exact ⟨⟨_, _, _, _, _, rfl, (p2 _).1, (p2 _).2⟩, S4, ds', hl4, dl4, db4⟩
    · rintro σ H2 ⟨⟨g, n, m, v7, v8, rfl, _, _⟩, S2, ds, hl, dl, db⟩
      rw [List.length_map] at dl
      exact ⟨_, rfl, q l ds H2 S2 gl hl ⟨dl, db⟩⟩
end
end G1
namespace L2
open PySem PySem.Spec PyProof.Rows
def repS (c n : Nat) : Str := ⟨(List.replicate n c).toArray⟩
theorem repS_len (c n : Nat) : (repS c n).length = n := by simp [repS, Str.length]
theorem fold_rep (c : Nat) : ∀ (n : Nat) (a : Array Nat), (List.replicate n #[c]).foldl (· ++ ·) a = a ++ (List.replicate n c).toArray
  | 0, a => by simp
  | n + 1, a => by
    rw [List.replicate_succ, List.foldl_cons, fold_rep c n, List.replicate_succ]
    apply Array.ext'
    simp
theorem op_mulS {X : Cx} : OpR X (binaryOp .Mult) (fun x y H Q => ∃ (c : Nat) (n : Nat), x = .str ⟨#[c]⟩ ∧ y = .int n ∧ n ≤ 1000 ∧ Q (.str (repS c n)) H) := by
  intro pins s σ H x y v u Q I rx ry h
  obtain ⟨c, n, rfl, rfl, hn, q⟩ := h
  obtain ⟨t, rfl⟩ := rx
  obtain ⟨t', rfl⟩ := ry
  have len : ∀ m : Nat, m ≤ 1000 → m ≤ sizeLine := fun m h => Nat.le_trans h (by rw [sizeLine_eq]; decide)
  refine PySem.P.mul_str ?_ ?_ ?_ ?_
  · have h1 : ¬ ((n : Int) < -(2 ^ 63 : Int)) := by omega
    have h2 : ¬ ((n : Int) ≥ 2 ^ 63) := by omega
    rw [decide_eq_false h1, decide_eq_false h2]; rfl
  · intro h1 _
    show ¬ ((1 : Int) > (2 ^ 63 - 1) / (n : Int))
    have : (1 : Int) ≤ (2 ^ 63 - 1) / (n : Int) := by
      apply Int.le_ediv_of_mul_le
      · omega
      · omega
    omega
  · intro _ _
    have := len (1 * n) (by omega)
    show decide (1 * ((n : Int).toNat) > sizeLine) = false
    exact decide_eq_false (by omega)
  · split
    · have e : n = 0 := by omega
      subst e
      exact ⟨by decide, .str (repS c 0), H, I.tok _, ⟨_, rfl⟩, q⟩
    · split
      · rename_i h1 h2
        have e : n = 1 := by
          rcases Bool.or_eq_true_iff.mp h2 with z | z
          · have := eq_of_beq z; omega
          · cases z
        subst e
        exact ⟨.str (repS c 1), H, I, ⟨_, rfl⟩, q⟩
      · have e : (⟨(List.replicate (n : Int).toNat (#[c] : Array Nat)).foldl (· ++ ·) #[]⟩ : Str) = repS c n := by
          unfold repS
          rw [fold_rep]
          simp
        rw [e]
        exact ⟨by rw [repS_len]; exact len n hn, .str (repS c n), H, I.tok _, ⟨_, rfl⟩, q⟩
end L2
namespace G1
open PySem L2 GM
def sg1 (c : Nat) : Str := ⟨#[c]⟩
def ltr (j : Nat) : Nat := letters.cps.toList.getD j 97
theorem ltr_occ : ∀ j : Fin 26, occ (ltr j.val) = true := by decide +kernel
theorem app_list (a b : Str) : (a ++ b).cps.toList = a.cps.toList ++ b.cps.toList := by
  show (a.cps ++ b.cps).toList = _
  simp
theorem ltr_at {j : Nat} (h : j < 26) : atI letters.cps.toList (j : Int) = some (ltr j) := by
  have l : letters.cps.toList.length = 26 := by decide +kernel
  refine atI_nat (v := ltr j) ?_
  unfold ltr
  rw [List.getD_eq_getElem?_getD, List.getElem?_eq_getElem (by omega)]; rfl
end G1
namespace G1
open PySem L2 GM
def nmV (i r : Nat) : Str := sg1 (ltr ((r + i) % 26)) ++ repS 122 (i % 8 * (r % 2))
theorem nmV_len (i r : Nat) : (nmV i r).length ≤ 8 ∧ (nmV i r).length ≠ 0 := by
  unfold nmV
  rw [strLen, repS_len]
  have : (sg1 (ltr ((r + i) % 26))).length = 1 := rfl
  have h1 : i % 8 * (r % 2) ≤ 7 := by
    rcases Nat.mod_two_eq_zero_or_one r with e | e <;> rw [e] <;> omega
  omega
theorem nmV_name (i r : Nat) : nameB (.str (nmV i r)) = true := by
  obtain ⟨l1, l2⟩ := nmV_len i r
  have ne : nmV i r ≠ "" := fun y => l2 (by rw [y]; rfl)
  have al : (nmV i r).cps.toList.all occ = true := by
    unfold nmV
    rw [app_list, List.all_append]
    have e1 : (sg1 (ltr ((r + i) % 26))).cps.toList.all occ = true := by
      show ([ltr ((r + i) % 26)]).all occ = true
      rw [List.all_cons, ltr_occ ⟨(r + i) % 26, by omega⟩]; rfl
    have e2 : (repS 122 (i % 8 * (r % 2))).cps.toList.all occ = true := by
      unfold repS
      rw [List.all_eq_true]
      intro c hc
      have : c = 122 := (List.mem_replicate.mp (by simpa using hc)).2
      rw [this]; decide +kernel
    rw [e1, e2]; rfl
  simp only [nameB, decide_eq_true ne, decide_eq_true l1, al, Bool.and_self]
theorem ltr_inj : ∀ a b : Fin 26, ltr a.val = ltr b.val → a = b := by decide +kernel
theorem nmV_inj {i j r : Nat} (hi : i < 26) (hj : j < 26) (h : nmV i r = nmV j r) : i = j := by
  unfold nmV at h
  have h' := congrArg (fun z : Str => z.cps.toList) h
  simp only [app_list] at h'
  have e : ltr ((r + i) % 26) = ltr ((r + j) % 26) := by
    have : [ltr ((r + i) % 26)] ++ (repS 122 (i % 8 * (r % 2))).cps.toList = [ltr ((r + j) % 26)] ++ (repS 122 (j % 8 * (r % 2))).cps.toList := h'
    exact (List.cons.inj this).1
  have := congrArg Fin.val (ltr_inj ⟨_, Nat.mod_lt _ (by decide)⟩ ⟨_, Nat.mod_lt _ (by decide)⟩ e)
  simp at this
  omega
structure Wv (H : Hp) (L : Addr) (n r : Nat) (cs : List Int) : Prop where
  ex : ∃ xs, H L = some (.lst xs) ∧ xs.length = n ∧ cs.length = n ∧ ∀ (i : Nat) (y : V), xs[i]? = some y → ∃ a c, y = .ref a ∧ cs[i]? = some c ∧ H a = some (.tup [.str (nmV i r), .int c]) ∧ 0 ≤ c ∧ c ≤ wM
def szs (n : Nat) : List Int := [4, 26] ++ (List.replicate n [9, 1000000000]).flatten
theorem szs_len (n : Nat) : (szs n).length = 2 + 2 * n := by
  unfold szs
  rw [List.length_append, len_rep]
  show 2 + n * 2 = _
  omega
theorem prs_at : ∀ (n k : Nat), k < n → (List.replicate n [(9 : Int), 1000000000]).flatten[2 * k]? = some 9 ∧ (List.replicate n [(9 : Int), 1000000000]).flatten[2 * k + 1]? = some 1000000000
  | n + 1, 0, _ => by rw [List.replicate_succ, List.flatten_cons]; exact ⟨rfl, rfl⟩
  | n + 1, k + 1, h => by
    rw [List.replicate_succ, List.flatten_cons]
    have := prs_at n k (by omega)
    rw [show 2 * (k + 1) = 2 * k + 1 + 1 by omega]
    exact this
theorem szs_at {n k : Nat} (h : k < n) : (szs n)[2 + 2 * k]? = some 9 ∧ (szs n)[3 + 2 * k]? = some 1000000000 := by
  have := prs_at n k h
  unfold szs
  rw [show 2 + 2 * k = 2 * k + 1 + 1 by omega, show 3 + 2 * k = 2 * k + 1 + 1 + 1 by omega]
  exact this
theorem szs_pos {n : Nat} : ∀ s ∈ szs n, 0 < s ∧ s.natAbs < big := by
  intro s h
  have : s = 4 ∨ s = 26 ∨ s = 9 ∨ s = 1000000000 := by
    unfold szs at h
    rcases List.mem_append.mp h with h | h
    · rcases List.mem_cons.mp h with h | h
      · exact .inl h
      · exact .inr (.inl (List.mem_singleton.mp h))
    · obtain ⟨l, h1, h2⟩ := List.mem_flatten.mp h
      rw [(List.mem_replicate.mp h1).2] at h2
      rcases List.mem_cons.mp h2 with h | h
      · exact .inr (.inr (.inl h))
      · exact .inr (.inr (.inr (List.mem_singleton.mp h)))
  rcases this with rfl | rfl | rfl | rfl <;> exact ⟨by decide, by decide +kernel⟩
theorem pw9 : (10 : Int) ^ (9 : Int).toNat = 1000000000 := by decide
theorem szs_v (n : Nat) : [V.int 4, V.int 26] ++ (List.replicate (n : Int).toNat [V.int 9, V.int ((10 : Int) ^ (9 : Int).toNat)]).flatten = (szs n).map V.int := by
  unfold szs
  rw [pw9, Int.toNat_natCast, List.map_append, List.map_flatten, List.map_replicate]; rfl
theorem Below.at {ds ss : List Int} (b : Below ds ss) {i : Nat} {s : Int} (h : ss[i]? = some s) : ∃ d, ds[i]? = some d ∧ 0 ≤ d ∧ d < s := by
  have il := (List.getElem?_eq_some_iff.mp h).1
  have e : ds[i]? = some (ds[i]'(by rw [b.1]; exact il)) := List.getElem?_eq_getElem _
  exact ⟨_, e, b.2 _ _ _ e h⟩
theorem atInts {ds : List Int} {i : Nat} {d : Int} (h : ds[i]? = some d) {k : Int} (e : k = (i : Int)) : atI (ds.map V.int) k = some (V.int d) := by
  rw [e]
  exact atI_nat (by rw [List.getElem?_map, h]; rfl)
section
variable {P : Program} {w : World} {K : PySem.W.Frag} {mg : Str → Option Value} {base : Heap}
def spWants (K : PySem.W.Frag) : Sp := fun vs H Q _ => ∃ (a : Addr) (ns : List Int) (k n : Nat), vs = [.ref a, .int k, .int n] ∧ SqL K H a (ns.map V.int) ∧ k ≤ 1000 ∧ n ≤ 20 ∧ ∀ L r cs H', Same H H' → H L = none → Wv H' L n r cs → Q (.ref L) H'
theorem scWs : FnScope ["_law_script", "_law_at", "_law_many", "_law_row", "_law_letters", "_law_wants_here", "_law_k", "_law_count", "_law_name"] ["_law_script", "_law_at", "_law_many"] (defScope sWants) := ⟨rfl, rfl, rfl, by decide +kernel, rfl, by decide +kernel, by decide +kernel⟩
theorem ok_wants {f fC fD : Addr} {fd fdC fdD : FuncData} (F : FunG K "_law_wants" "_law_wants" sWants .none f fd) (B : Bl mg)
    (GC : FnOk P w K mg base (CXE P w) 1 fC fdC ["_law_script", "_law_k"] (spCell K)) (mC : mg "_law_cell" = some (.ref fC)) (kC : PySem.W.keepIn K (.ref fC) = true) (bC : Binds K fdC ["_law_script", "_law_k"] [])
    (GD : FnOk P w K mg base (CXE P w) 1 fD fdD ["_law_cell_here", "_law_k", "_law_sizes"] spDraws) (mD : mg "_law_draws" = some (.ref fD)) (kD : PySem.W.keepIn K (.ref fD) = true) (bD : Binds K fdD ["_law_cell_here", "_law_k", "_law_sizes"] []) : FnOk P w K mg base (CXE P w) 2 f fd ["_law_script", "_law_at", "_law_many"] (spWants K) := by
  refine F.zokN scWs (fun vs H Q E h => ?_) (fun cdv A outer s H vs Q E hr h => ?_)
  · obtain ⟨a, ns, k, n, rfl, _⟩ := h
    rfl
  · obtain ⟨a, ns, k, n, rfl, ha, k1, n1, q⟩ := h
    refine ⟨_, (zpss_cons (zps_set (i := 3) scWs.nd rfl (Or.inl rfl) (zpe_call GD hr (by rfl) mD kD bD .nil passE0 (zpac_f (zpe_call GC hr (by rfl) mC kC bC .nil passE0 (zpac_n (zpv 0) (zpac_n (zpv 1) zpa_nil))) (zpac_n (zpv 1) (zpac_b (zpe_op op_cat (zpe_lst (zpac_c zpe_int (zpac_c zpe_int zpa_nil))) (zpe_op op_rep (zpe_lst (zpac_c zpe_int (zpac_b (zpe_op op_pow zpe_int zpe_int) zpa_nil))) (zpv 2))) zpa_nil)))))
      (zpss_cons (zps_set (i := 4) scWs.nd rfl (Or.inl rfl) zpe_str)
      (zpss_cons (zps_set (i := 5) scWs.nd rfl (Or.inl rfl) (zpe_lst zpa_nil))
      (zpss_cons (zps_for PassesOwn.never rfl (zpi_range1 (by rfl) B.range (zpac_n (zpv 2) zpa_nil)) (zpg_name (i := 6) scWs.nd rfl (Or.inl rfl))
          (zpss_cons (zps_set (i := 7) scWs.nd rfl (Or.inl rfl) (zpe_ix ix_list (zpe_lst (zpac_s (zpe_ix ix_list (zpv 3) (zpe_op op_add zpe_int (zpe_op op_mul zpe_int (zpv 6))) (fun _ _ => rfl)) (zpac_s (zpe_ix ix_list (zpv 3) (zpe_op op_add zpe_int (zpe_op op_mul zpe_int (zpv 6))) (fun _ _ => rfl)) (zpac_b (zpe_op op_add (zpe_ix ix_list (zpv 3) (zpe_op op_add zpe_int (zpe_op op_mul zpe_int (zpv 6))) (fun _ _ => rfl)) zpe_int) (zpac_c zpe_int zpa_nil))))) (zpe_ix ix_list (zpv 3) zpe_int (fun _ _ => rfl)) (fun _ _ => rfl)))
      (zpss_cons (zps_set (i := 8) scWs.nd rfl (Or.inl rfl) (zpe_op op_add_str (zpe_ix ix_str (zpv 4) (zpe_op op_mod (zpe_op op_add (zpe_ix ix_list (zpv 3) zpe_int (fun _ _ => rfl)) (zpv 6)) zpe_int) (fun _ _ => rfl)) (zpe_op op_mulS zpe_str (zpe_op op_mul (zpe_op op_mod (zpv 6) zpe_int) (zpe_op op_mod (zpe_ix ix_list (zpv 3) zpe_int (fun _ _ => rfl)) zpe_int)))))
      (zpss_one (zps_expr (zpe_bm PySem.F.plainAttrs_list PySem.F.slot_list_append PySem.F.type_list_append mt_append (zpv 5) (zpac_t (zpe_tup (zpac_n (zpv 8) (zpac_n (zpv 7) zpa_nil))) zpa_nil)))))))
      (zpss_one (zps_ret (zpv 5))))))), ?_⟩
    refine ⟨_, rfl, _, rfl, a, ns, _, rfl, ha, by omega, fun z => ?_⟩
    refine ⟨_, rfl, by show 2 ≤ sizeLine; decide, ?_⟩
    (intro l1 g1; generalize hEq : upd _ l1 _ = H1; refine newC hEq g1 ?_; clear hEq; intro S1 e1 o1)
    refine ⟨_, _, rfl, rfl, ⟨by decide, by decide, by decide⟩, by show 2 ≤ sizeLine; decide, ?_⟩
    (intro l2 g2; generalize hEq : upd _ l2 _ = H2; refine newC hEq g2 ?_; clear hEq; intro S2 e2 o2)
    refine ⟨_, rfl, l2, (n : Int), _, rfl, rfl, e2, by omega, by omega, Nat.le_trans (show 2 * (n : Int).toNat ≤ 40 by omega) (by decide), ?_⟩
    (intro l3 g3; generalize hEq : upd _ l3 _ = H3; refine newC hEq g3 ?_; clear hEq; intro S3 e3 o3)
    refine ⟨l1, l3, _, _, rfl, rfl, S3 _ _ (S2 _ _ e1), e3, Nat.le_trans (show 2 + _ ≤ 42 by rw [len_rep]; show 2 + (n : Int).toNat * 2 ≤ 42; omega) (by decide), ?_⟩
    (intro l4 g4; generalize hEq : upd _ l4 _ = H4; refine newC hEq g4 ?_; clear hEq; intro S4 e4 o4)
    rw [szs_v] at e4
    have S04 : Same H H4 := ((S1.trans S2).trans S3).trans S4
    refine ⟨z, k, l4, szs n, rfl, by omega, by omega, e4, by rw [szs_len]; omega, szs_pos, fun row ds H5 S5 g5 e5 bl => ?_⟩
    obtain ⟨d0, hd0, d00, d01⟩ := bl.at (i := 0) (s := 4) rfl
    obtain ⟨r, hr1, r0, r1⟩ := bl.at (i := 1) (s := 26) rfl
    obtain ⟨r, rfl⟩ := Int.eq_ofNat_of_zero_le r0
    refine ⟨Nat.zero_le _, ?_⟩
    have S05 := S04.trans S5
    (intro L gL; generalize hEq : upd _ L _ = H6; refine newC hEq gL ?_; clear hEq; intro S6 e6 o6)
    have gL0 : H L = none := by
      cases e : H L with
      | none => rfl
      | some o => rw [S05 _ _ e] at gL; cases gL
    have eR := S6 _ _ e5
    have RL : row ≠ L := fun z => by rw [z, gL] at e5; cases e5
    refine ⟨_, rfl, _, rfl, by omega, by omega, ?_⟩
    refine for_range (lo := 0) (n := n) (fun i σ H' => (∃ v6 v7 v8, σ = [some (.ref a), some (.int k), some (.int n), some (.ref row), some (.str letters), some (.ref L), v6, v7, v8]) ∧ Same H H' ∧ H' row = some (.lst (ds.map V.int)) ∧ ∃ cs, Wv H' L i r cs)
      ⟨⟨_, _, _, rfl⟩, S05.trans S6, eR, [], ⟨[], e6, rfl, rfl, fun i y e => by simp at e⟩⟩ ?_ ?_
    · rintro i σ H7 hi ⟨⟨v6, v7, v8, rfl⟩, S7, hR, cs, xs, hx1, hx2, hcl, hx3⟩
      rw [show (0 : Int) + (i : Int) = (i : Int) from Int.zero_add _]
      obtain ⟨c9, h9, c90, c91⟩ := bl.at (szs_at hi).1
      obtain ⟨cM, hM, cM0, cM1⟩ := bl.at (szs_at hi).2
      have sq : SqL K H7 row (ds.map V.int) := SqL.of hR
      have a9 : atI (ds.map V.int) (2 + 2 * (i : Int)) = some (V.int c9) := atInts h9 (by omega)
      have aM : atI (ds.map V.int) (3 + 2 * (i : Int)) = some (V.int cM) := atInts hM (by omega)
      refine ⟨_, rfl, _, rfl, _, _, rfl, rfl, .inl ⟨by decide, by decide⟩, _, _, rfl, rfl, row, _, _, _, rfl, rfl, sq, a9, ?_⟩
      refine ⟨_, rfl, _, rfl, _, _, rfl, rfl, .inl ⟨by decide, by decide⟩, _, _, rfl, rfl, row, _, _, _, rfl, rfl, sq, a9, ?_⟩
      refine ⟨_, rfl, _, rfl, _, _, rfl, rfl, .inl ⟨by decide, by decide⟩, _, _, rfl, rfl, row, _, _, _, rfl, rfl, sq, aM, ?_⟩
      refine ⟨_, _, rfl, rfl, by show 4 ≤ sizeLine; decide, ?_⟩
      (intro l5 g5'; generalize hEq : upd _ l5 _ = H8; refine newC hEq g5' ?_; clear hEq; intro S8 e8 o8)
      obtain ⟨c, hc, c0, c1⟩ : ∃ c : Int, atI [V.int c9, V.int c9, V.int (cM + 1), V.int 3] d0 = some (V.int c) ∧ 0 ≤ c ∧ c ≤ wM := by
        rcases (show d0 = 0 ∨ d0 = 1 ∨ d0 = 2 ∨ d0 = 3 by omega) with rfl | rfl | rfl | rfl
        · exact ⟨c9, rfl, c90, by unfold wM; omega⟩
        · exact ⟨c9, rfl, c90, by unfold wM; omega⟩
        · exact ⟨cM + 1, rfl, by omega, by unfold wM; omega⟩
        · exact ⟨3, rfl, by decide, by decide⟩
      have sq8 : SqL K H8 row (ds.map V.int) := SqL.of (S8 _ _ hR)
      have a0 : atI (ds.map V.int) 0 = some (V.int d0) := atInts hd0 rfl
      have a1 : atI (ds.map V.int) 1 = some (V.int r) := atInts hr1 rfl
      have c26 : (0 : Int) < 26 := by decide
      have ll : letters.length ≤ sizeLine := by decide +kernel
      have em : ((r : Int) + (i : Int)) % 26 = (((r + i) % 26 : Nat) : Int) := by omega
      have en : ((i : Int) % 8) * ((r : Int) % 2) = ((i % 8 * (r % 2) : Nat) : Int) := by push_cast; rfl
      refine ⟨_, rfl, row, _, _, _, rfl, rfl, sq8, a0, l5, _, _, _, rfl, rfl, SqL.of e8, hc, ?_⟩
      have m7 : i % 8 * (r % 2) ≤ 7 := by
        rcases Nat.mod_two_eq_zero_or_one r with e | e <;> rw [e] <;> omega
      refine ⟨_, rfl, _, rfl, row, _, _, _, rfl, rfl, sq8, a1, _, rfl, _, _, rfl, rfl, _, _, rfl, rfl, c26, letters, _, ltr ((r + i) % 26), rfl, rfl, ll, (show atI letters.cps.toList (((r : Int) + (i : Int)) % 26) = _ by rw [em]; exact ltr_at (by omega)), ?_⟩
      refine ⟨_, rfl, _, _, rfl, rfl, (by show (0 : Int) < 8; decide), _, rfl, row, _, _, _, rfl, rfl, sq8, a1, _, _, rfl, rfl, (by show (0 : Int) < 2; decide), _, _, rfl, rfl, .inl ⟨by omega, by omega⟩, 122, i % 8 * (r % 2), rfl, congrArg V.int en, by omega, ?_⟩
      refine ⟨_, _, rfl, rfl, Nat.le_trans (show _ ≤ 8 by rw [repS_len]; show 1 + _ ≤ 8; omega) (by decide), ?_⟩
      refine ⟨_, rfl, .inl ⟨rfl, _, SqL.of (S8 _ _ hx1)⟩, _, rfl, _, rfl, by show 2 ≤ sizeLine; decide, ?_⟩
      (intro t gt; generalize hEq : upd _ t _ = H9; refine newC hEq gt ?_; clear hEq; intro S9 e9 o9)
      have S79 := S8.trans S9
      have hL9 := S79 _ _ hx1
      refine ⟨L, _, _, rfl, rfl, hL9, by rw [hx2]; exact Nat.lt_of_lt_of_le (show i < 21 by omega) (by decide), ⟨_, _, _, rfl⟩, fun b o e => ?_, ?_, cs ++ [c], xs ++ [.ref t], upd_same, by rw [List.length_append, hx2]; rfl, by rw [List.length_append, hcl]; rfl, fun j y e => ?_⟩
      · rw [upd_ne (ne_of_none e gL0)]; exact S79 _ _ (S7 _ _ e)
      · rw [upd_ne RL]; exact S79 _ _ hR
      · by_cases jl : j < xs.length
        · rw [List.getElem?_append_left jl] at e
          obtain ⟨b, c', f1, f2, f3, f4⟩ := hx3 j y e
          exact ⟨b, c', f1, by rw [List.getElem?_append_left (by omega)]; exact f2, by rw [upd_ne (fun z => by rw [z, hx1] at f3; cases f3)]; exact S79 _ _ f3, f4⟩
        · rw [List.getElem?_append_right (by omega)] at e
          have ej : j = i := by
            have := (List.getElem?_eq_some_iff.mp e).1
            simp at this; omega
          subst ej
          rw [hx2, Nat.sub_self] at e
          have : y = .ref t := (Option.some.inj e).symm
          exact ⟨t, c, this, by rw [List.getElem?_append_right (by omega), hcl, Nat.sub_self]; rfl, by rw [upd_ne (fun z => by rw [z, hL9] at e9; cases e9)]; exact e9, c0, c1⟩
    · rintro σ H7 ⟨⟨v6, v7, v8, rfl⟩, S7, hR, cs, wv⟩
      exact ⟨_, rfl, q L r cs H7 S7 gL0 wv⟩
end
end G1
namespace L2
open PySem PySem.Spec PyProof.Rows
section
variable {X : Cx} {e tg iter : Expr} {ifs : List Expr} {scope esc : Scope} {pos : Pos} {N os : List Str} {fi : List Nat} {wi : TI} {g : TG} {tt : TT} {tb : Addr → TB} {body : Addr → Env → Sem Fi → Sem Fi} {o0 : Addr → HO} {mk : Sem Value} {p : Pos} {elt : Expr} {te : TE}
end
theorem mt_indexK {X : Cx} (K : PySem.W.Frag) (h : X.K = K) : MtR X "list.index" (fun x vs H Q => ∃ (l : Addr) (xs : List V) (y : V) (j : Nat), x = .ref l ∧ vs = [y] ∧ SqL K H l xs ∧ xs.all flatV = true ∧ flatV y = true ∧ (∃ z, xs[j]? = some z ∧ eqV z y = true) ∧ (∀ (m : Nat) (z : V), m < j → xs[m]? = some z → eqV z y = false) ∧ Q (.int j) H) := h ▸ mt_index
end L2
namespace L2
open PySem PySem.Spec PyProof.Rows
theorem zpi_zipL {X : Cx} {es : List Expr} {tk : Nat} {tpos : Pos} {a b : Expr} {ta : TA} {p pos : Pos} (hg : Gl X "zip") (hm : X.mg "zip" = none) (ha : SPA X [a, b] ta) (hs : starEach [a, b] X.env = [(false, eval a X.env), (false, eval b X.env)] := by rfl) (hs2 : starEach [b] X.env = [(false, eval b X.env)] := by rfl) :
    SPI X (.Tuple es tk tpos) (.Call (.Name "zip" p) [a, b] [] pos) (iZipL X.K ta) := ⟨pi_zipL hg hm ha.out hs hs2⟩
end L2
namespace G1
open PySem L2 GM
theorem putAll_nd : ∀ (kvs acc : List (Key × V)), (kvs.map (·.1)).Nodup → (∀ k ∈ kvs.map (·.1), valV acc k = none) → kvs.foldl (fun m p => putK m p.1 p.2) acc = acc ++ kvs
  | [], acc, _, _ => by simp
  | p :: kvs, acc, nd, h => by
    rw [List.foldl_cons, putK_new p.2 (h p.1 (by simp)), putAll_nd kvs _ (List.nodup_cons.mp nd).2 fun k hk => ?_]
    · simp
    · rw [← putK_new p.2 (h p.1 (by simp)), valV_put]
      have : k ≠ p.1 := fun z => (List.nodup_cons.mp nd).1 (by rw [z] at hk; exact hk)
      rw [if_neg this]
      exact h k (by rw [List.map_cons]; exact List.mem_cons_of_mem _ hk)
theorem valV_nil (k : Key) : valV ([] : List (Key × V)) k = none := rfl
theorem val_mem : ∀ {kvs : List (Key × V)} {k : Key} {v : V} {i : Nat}, (kvs.map (·.1)).Nodup → kvs[i]? = some (k, v) → valV kvs k = some v := by
  intro kvs k v i nd h
  have e : kvs = kvs.take i ++ (k, v) :: kvs.drop (i + 1) := by
    obtain ⟨hl, e⟩ := List.getElem?_eq_some_iff.mp h
    rw [← e]; simp
  have f : kvs.foldl (fun m p => putK m p.1 p.2) ([] : List (Key × V)) = kvs := by simpa using putAll_nd kvs [] nd (fun k _ => valV_nil k)
  have nd2 := nd
  rw [e, List.map_append, List.map_cons] at nd2
  rw [← f]
  conv => lhs; rw [e]
  rw [List.foldl_append, List.foldl_cons]
  have keep : ∀ (l acc : List (Key × V)), k ∉ l.map (·.1) → valV (l.foldl (fun m p => putK m p.1 p.2) acc) k = valV acc k := by
    intro l
    induction l with
    | nil => intro acc _; rfl
    | cons p l ih =>
      intro acc hn
      rw [List.foldl_cons, ih _ fun z => hn (by rw [List.map_cons]; exact List.mem_cons_of_mem _ z), valV_put, if_neg fun z => hn (by rw [z]; simp)]
  have nk : k ∉ (kvs.drop (i + 1)).map (·.1) := (List.nodup_cons.mp (List.nodup_append.mp nd2).2.1).1
  rw [keep _ _ nk, valV_put, if_pos rfl]
end G1
namespace G1
open PySem L2 GM
def pls (os : List Nat) : List V := os.map fun (o : Nat) => V.int (o : Int)
def kvP (os : List Nat) (xs : List V) : List (Key × V) := (os.zip xs).map fun p => ((Sum.inl (p.1 : Int) : Key), p.2)
theorem kvP_len {os : List Nat} {xs : List V} (h : os.length = xs.length) : (kvP os xs).length = xs.length := by
  unfold kvP
  rw [List.length_map, List.length_zip, h, Nat.min_self]
theorem kvP_at {os : List Nat} {xs : List V} {i o : Nat} {x : V} (h1 : os[i]? = some o) (h2 : xs[i]? = some x) : (kvP os xs)[i]? = some ((Sum.inl (o : Int) : Key), x) := by
  have e : (os.zip xs)[i]? = some (o, x) := List.getElem?_zip_eq_some.mpr ⟨h1, h2⟩
  unfold kvP
  rw [List.getElem?_map, e]; rfl
theorem kvP_keys : ∀ {os : List Nat} {xs : List V}, os.length = xs.length → (kvP os xs).map (·.1) = os.map fun (o : Nat) => (Sum.inl (o : Int) : Key)
  | [], [], _ => rfl
  | o :: os, x :: xs, h => by
    show _ :: (kvP os xs).map (·.1) = _
    rw [kvP_keys (os := os) (xs := xs) (by simpa using h)]; rfl
theorem kvP_nd {os : List Nat} {xs : List V} (h : os.length = xs.length) (nd : os.Nodup) : ((kvP os xs).map (·.1)).Nodup := by
  rw [kvP_keys h]
  exact List.Pairwise.map _ (fun (a b : Nat) (h : a ≠ b) e => h (by have := Sum.inl.inj e; omega)) nd
theorem valV_out : ∀ {kvs : List (Key × V)} {k : Key}, k ∉ kvs.map (·.1) → valV kvs k = none
  | [], _, _ => rfl
  | p :: r, k, h => by
    have n1 : ¬ p.1 = k := fun z => h (by rw [← z]; exact List.mem_cons_self ..)
    rw [valV_neg n1]
    exact valV_out fun z => h (List.mem_cons_of_mem _ z)
structure Put (os : List Nat) (xs ys : List V) : Prop where
  len : ys.length = xs.length
  at_ : ∀ (j o : Nat) (x : V), os[j]? = some o → xs[j]? = some x → ys[o]? = some x
section
variable {P : Program} {w : World} {K : PySem.W.Frag} {mg : Str → Option Value} {base : Heap}
def spPlaces : Sp := fun vs H Q _ => ∃ (S O : Addr) (xs : List V) (os : List Nat), vs = [.ref S, .ref O] ∧ H S = some (.lst xs) ∧ H O = some (.lst (pls os)) ∧ os.Perm (List.range xs.length) ∧ xs.length ≤ 100 ∧
  ∀ l ys H', Same H H' → H l = none → H' l = some (.lst ys) → Put os xs ys → Q (.ref l) H'
theorem scPl : FnScope ["some", "places", "by_place"] ["some", "places"] (defScope sPlaces) := ⟨rfl, rfl, rfl, by decide +kernel, rfl, by decide +kernel, by decide +kernel⟩
theorem ok_places {f : Addr} {fd : FuncData} (F : FunG K "put_in_places" "put_in_places" sPlaces .none f fd) (B : Bl mg) (mzip : mg "zip" = none) : FnOk P w K mg base (CXE P w) 1 f fd ["some", "places"] spPlaces := by
  refine F.zokN scPl (fun vs H Q E h => ?_) (fun cdv A outer s H vs Q E hr h => ?_)
  · obtain ⟨S, O, xs, os, rfl, _⟩ := h
    rfl
  · obtain ⟨S, O, xs, os, rfl, hS, hO, pm, x1, q⟩ := h
    refine ⟨_, (zpss_cons (zps_set (i := 2) scPl.nd rfl (Or.inr rfl) (zpe_dictcomp ["some", "places", "by_place"] ["place", "one"] [] (defScope sPlaces) rfl rfl rfl ⟨by decide +kernel, by decide +kernel, by decide +kernel, by decide +kernel, by decide +kernel⟩ (zpi_zipL (by rfl) mzip (zpac_n (zpv 1) (zpac_n (zpv 0) zpa_nil))) (fun s H fp => (zpg_tupK K 2 rfl rfl (zpgs_cons (zpg_name (i := 0) (show List.Nodup [("place" : Str), "one"] by decide +kernel) rfl (Or.inl rfl)) (zpgs_cons (zpg_name (i := 1) (show List.Nodup [("place" : Str), "one"] by decide +kernel) rfl (Or.inl rfl)) zpgs_nil)))) (fun s H fp => zpts_nil) (fun s H fp => (zpv 0)) (fun s H fp => (zpv 1))))
      (zpss_one (zps_ret (zpe_compL ["some", "places", "by_place"] ["place"] [2] (defScope sPlaces) rfl rfl rfl ⟨by decide +kernel, by decide +kernel, by decide +kernel, by decide +kernel, by decide +kernel⟩ (zpi_range1 (by rfl) B.range (zpac_f (zpe_callB call_len_seq (by rfl) B.len PySem.boot_len (zpac_n (zpv 0) zpa_nil)) zpa_nil)) (fun s H fp => (zpg_name (i := 0) (show List.Nodup [("place" : Str), "by_place"] by decide +kernel) rfl (Or.inl rfl))) (fun s H fp => zpts_nil) (fun s H fp => (zpe_dget hr.units1 (zpv 1) (zpv 0) (fun _ _ => rfl))))))), ?_⟩
    have ol : os.length = xs.length := by rw [pm.length_eq, List.length_range]
    have nd : os.Nodup := pm.nodup_iff.mpr List.nodup_range
    refine ⟨_, rfl, _, rfl, O, S, rfl, ⟨_, SqL.of hO⟩, ⟨_, SqL.of hS⟩, ?_⟩
    (intro D gD; generalize hEq : upd _ D _ = H1; refine newC hEq gD ?_; clear hEq; intro S1 e1 o1)
    have kl := kvP_len ol
    have kn := kvP_nd ol nd
    refine lr_zipL (K := K) (a := O) (b := S) (xs := pls os) (ys := xs) (fun i σ H' => (∃ v w, σ = [v, w]) ∧ Same H H' ∧ H' D = some (.dK ((kvP os xs).take i))) ⟨⟨_, _, rfl⟩, S1, e1⟩ (by unfold pls; rw [List.length_map]; exact ol) ?_ ?_ ?_
    · rintro i σ H' ⟨_, k, _⟩
      exact ⟨SqL.of (k _ _ hO), SqL.of (k _ _ hS)⟩
    · rintro i x y tt σ H' Cn hxi hyi gt ⟨⟨v, w, rfl⟩, k, hD⟩ nx
      have il := (List.getElem?_eq_some_iff.mp hyi).1
      obtain ⟨o, ho, rfl⟩ : ∃ o : Nat, os[i]? = some o ∧ x = .int o := by
        unfold pls at hxi
        rw [List.getElem?_map] at hxi
        obtain ⟨z, e1, e2⟩ := Option.map_eq_some_iff.mp hxi
        exact ⟨z, e1, e2.symm⟩
      have kat := kvP_at ho hyi
      have k4 : Same H' (upd H' tt (.tup [.int o, y])) := same_upd gt
      have et : (upd H' tt (.tup [.int o, y])) tt = some (.tup [.int o, y]) := upd_same
      generalize upd H' tt (.tup [.int o, y]) = H4 at k4 et
      have hD4 := k4 _ _ hD
      have new : valV ((kvP os xs).take i) (Sum.inl (o : Int) : Key) = none := by
        refine valV_out fun m => ?_
        obtain ⟨p, hp, ep⟩ := List.mem_map.mp m
        obtain ⟨j, hj⟩ := List.getElem?_of_mem hp
        have jl := (List.getElem?_eq_some_iff.mp hj).1
        rw [List.length_take] at jl
        rw [List.getElem?_take_of_lt (by omega)] at hj
        have q1 : ((kvP os xs).map (·.1))[j]? = some (Sum.inl (o : Int) : Key) := by rw [List.getElem?_map, hj, Option.map_some, ep]
        have q2 : ((kvP os xs).map (·.1))[i]? = some (Sum.inl (o : Int) : Key) := by rw [List.getElem?_map, kat]; rfl
        have := (List.getElem?_inj (by rw [List.length_map]; omega) kn).mp (q1.trans q2.symm)
        omega
      refine ⟨tt, _, rfl, SqT.of et, rfl, _, _, rfl, _, _, rfl, rfl, ?_⟩
      refine ⟨_, rfl, _, rfl, (Sum.inl (o : Int) : Key), _, rfl, hD4, Nat.lt_of_le_of_lt (show _ ≤ 100 by rw [List.length_take]; omega) (by decide), nx _ _ ⟨⟨_, _, rfl⟩, fun b u e => ?_, ?_⟩⟩
      · rw [upd_ne (ne_of_none e gD)]; exact k4 _ _ (k _ _ e)
      · rw [putK_new _ new, List.take_add_one, kat]; exact upd_same
    · rintro σ H2 ⟨_, S2, hD⟩
      have pl : (pls os).length = (kvP os xs).length := by unfold pls; rw [List.length_map]; omega
      rw [pl, List.take_length] at hD
      refine ⟨_, rfl, S, xs, rfl, .inl (SqL.of (S2 _ _ hS)), _, rfl, by omega, by omega, ?_⟩
      (intro l gl; generalize hEq : upd _ l _ = H3; refine newC hEq gl ?_; clear hEq; intro S3 e3 o3)
      rw [Int.toNat_natCast]
      refine lr_range (lo := 0) (n := xs.length) (fun i σ H' => (∃ v, σ = [v, some (.ref D)]) ∧ Same H2 H' ∧ ∃ us, H' l = some (.lst us) ∧ us.length = i ∧ ∀ (j : Nat) (x : V), us[j]? = some x → valV (kvP os xs) (Sum.inl (j : Int) : Key) = some x) ⟨⟨_, rfl⟩, S3, [], e3, rfl, fun j x e => by simp at e⟩ ?_ ?_
      · rintro i σ H' Cn hi ⟨⟨v, rfl⟩, k, us, hu, ul, uf⟩ nx
        obtain ⟨j, hj⟩ := List.getElem?_of_mem (pm.mem_iff.mpr (List.mem_range.mpr hi))
        have jl := (List.getElem?_eq_some_iff.mp hj).1
        have ex : xs[j]? = some (xs[j]'(by omega)) := List.getElem?_eq_getElem _
        generalize xs[j]'(by omega) = x at ex
        have hv := val_mem kn (kvP_at hj ex)
        have hD' := k _ _ hD
        rw [show (0 : Int) + (i : Int) = (i : Int) from Int.zero_add _]
        refine ⟨_, rfl, _, rfl, D, x, rfl, hv ▸ DGet.k (k := (Sum.inl (i : Int) : Key)) hD', us, hu, Nat.lt_of_le_of_lt (show _ ≤ 100 by omega) (by decide), nx _ _ ⟨⟨_, rfl⟩, fun b u e => ?_, us ++ [x], upd_same, by rw [List.length_append, ul]; rfl, fun m y hm => ?_⟩⟩
        · rw [upd_ne (ne_of_none e gl)]; exact k _ _ e
        · by_cases ml : m < us.length
          · rw [List.getElem?_append_left ml] at hm
            exact uf m y hm
          · have mlt := (List.getElem?_eq_some_iff.mp hm).1
            rw [List.length_append] at mlt
            have me : m = us.length := by simp at mlt; omega
            subst me
            rw [List.getElem?_append_right (Nat.le_refl _)] at hm
            simp at hm
            subst hm
            rw [ul]; exact hv
      · rintro σ H4 ⟨_, S4, us, hu, ul, uf⟩
        have gl0 : H l = none := by
          cases e : H l with
          | none => rfl
          | some o => rw [S2 _ _ e] at gl; cases gl
        refine q l us H4 (S2.trans S4) gl0 hu ⟨ul, fun j o x ho hx => ?_⟩
        have on : o < us.length := by rw [ul]; exact List.mem_range.mp (pm.mem_iff.mp (List.mem_of_getElem? ho))
        have e1 : us[o]? = some us[o] := List.getElem?_eq_getElem on
        have e2 := uf o _ e1
        rw [val_mem kn (kvP_at ho hx)] at e2
        rw [e1]; exact e2.symm
end
end G1
namespace L2
open PySem PySem.Spec PyProof.Rows
def SetI (P : Program) (w : World) (a : Addr) (m : Nat) : HO := .ext fun h => ∃ S, h.SetOf (intKind P w) a S m
theorem setI_ok {P : Program} {w : World} {H : Hp} {h : Heap} {a : Addr} {m : Nat} {S : Int → Bool} (x : h.SetOf (intKind P w) a S m) : ObjOk P w H h a (SetI P w a m) :=
  ⟨⟨S, x⟩, let ⟨o, _, _, _, e, _⟩ := x; ⟨o, e⟩, fun h1 h2 ⟨S, o, es, ep, t, e, r⟩ k => ⟨S, o, es, ep, t, k o e, r⟩⟩
def once (ns : List Int) : List Int := ns.foldl step_dedup []
theorem firstMet_once (ns : List Int) : firstMet (fun i => ns.getD i 0) ns.length = once ns := by
  unfold firstMet once
  congr 1
  apply List.ext_getElem
  · simp
  · intro i h1 h2
    simp at h1
    simp [h1]
theorem fold_len : ∀ (ns σ : List Int), σ.Nodup → (ns.foldl step_dedup σ).length ≤ σ.length + ns.length ∧ ((ns.foldl step_dedup σ).length = σ.length + ns.length ↔ (σ ++ ns).Nodup)
  | [], σ, h => ⟨by simp, by simpa using h⟩
  | n :: ns, σ, h => by
    rw [List.foldl_cons]
    by_cases m : n ∈ σ
    · have e : step_dedup σ n = σ := by
        unfold step_dedup
        rw [if_pos (List.any_eq_true.mpr ⟨n, m, by simp⟩)]
      rw [e]
      have ih := fold_len ns σ h
      refine ⟨by rw [List.length_cons]; omega, ⟨fun z => ?_, fun z => ?_⟩⟩
      · rw [List.length_cons] at z; omega
      · exact absurd (List.nodup_append.mp z).2.2 (fun y => y n m n (by simp) rfl)
    · have e : step_dedup σ n = σ ++ [n] := by
        unfold step_dedup
        rw [if_neg (fun z => m (by obtain ⟨y, h1, h2⟩ := List.any_eq_true.mp z; rw [← eq_of_beq h2]; exact h1))]
      rw [e]
      have h' : (σ ++ [n]).Nodup := List.nodup_append.mpr ⟨h, by simp, fun a ha b hb => fun z => m (by rw [← List.mem_singleton.mp hb, ← z]; exact ha)⟩
      have ih := fold_len ns (σ ++ [n]) h'
      rw [List.length_append, List.append_assoc] at ih
      refine ⟨by rw [List.length_cons]; have := ih.1; simp at this; omega, ?_⟩
      rw [List.length_cons]
      have := ih.2
      simp at this
      rw [← this]
      constructor <;> intro z <;> omega
theorem once_len (ns : List Int) : (once ns).length ≤ ns.length ∧ ((once ns).length = ns.length ↔ ns.Nodup) := by
  have := fold_len ns [] List.nodup_nil
  unfold once
  simpa using this
section
variable {X : Cx}
theorem call_setI (hc : X.calm = true) : CallR X (.type "set") (fun xs H Q => ∃ (l : Addr) (ns : List Int), xs = [.ref l] ∧ SqL X.K H l (ns.map V.int) ∧ ns.length ≤ 4000 ∧ ∀ p, H p = none → Q (.ref p) (upd H p (SetI X.prog X.w p (once ns).length))) := by
  intro pins s σ H xs us Q I r h
  obtain ⟨a, ns, rfl, ha, hl, q⟩ := h
  obtain ⟨u, rfl, ru⟩ := vals1 r
  cases (show u = Value.ref a from ru)
  obtain ⟨its, rv, p, hz⟩ := I.list ha
  have il : its.length = ns.length := by rw [← rv.length, List.length_map]
  refine call_set_list (I.ok.hd hc) p.isList (ints_are rv) (by rw [List.size_toArray, il]; exact Nat.lt_of_le_of_lt (Nat.succ_le_succ hl) (by decide)) fun h' tk n kk => ?_
  have e : its.toArray.size = ns.length := by rw [List.size_toArray, il]
  rw [e, firstMet_once] at n
  exact ⟨.ref s.heap.objs.size, _, I.laid (t' := tk) (fun b o q => kk b o (Heap.lt_size q) q) (Nat.le_refl _) (setI_ok n), rfl, q _ I.fresh⟩
theorem call_len_setI : CallR X (.builtin "len") (fun xs H Q => ∃ a m, xs = [.ref a] ∧ H a = some (SetI X.prog X.w a m) ∧ Q (.int m) H) := by
  intro pins s σ H xs us Q I r h
  obtain ⟨a, m, rfl, ha, q⟩ := h
  obtain ⟨u, rfl, rx⟩ := vals1 r
  cases rx
  obtain ⟨S, o, es, ep, t, e, ex, d, _, _, b, f, n⟩ := (I.hok a _ ha).1
  refine call_len_set e ex d f ?_ ⟨.int m, H, I.tok _, ⟨_, by rw [n]⟩, q⟩
  have : es.size < 4096 := b
  omega
end
end L2
namespace L2
open PySem PySem.Spec PyProof.Rows
section
variable {P : Program} {w : World} {K : PySem.W.Frag} {mg : Str → Option Value} {base : Heap} {x qual : Str} {st : Stmt} {dV kV doc pm ct oc : Value} {an od : Option Addr} {c f : Addr} {osl : Array (Option Value)} {N ps : List Str} {k : Nat} {sp : Sp}
theorem okCE (lk : K.lookup f = some ⟨oc, od, .func (PySem.W.fnOf x qual (defArgs st) (defBody st) (defScope st) dV kV doc pm an (.ref c) ct), osl⟩) (hcd : PySem.W.codeIn K (.ref c) qual = true) (S : FnScope N ps (defScope st)) (len : ∀ vs H Q E, sp vs H Q E → vs.length = ps.length)
    (hbody : ∀ (A : Around) (outer : List Env) (s : Shared) (H : Hp) (vs : List V) (Q : VK) (E : XK), Room k (A.deeper (envOfC qual (defScope st) s.heap.objs.size f (.ref c))) → sp vs H Q E →
      ∃ t, SPSs (cxOf (CXE P w) P w K mg base N qual (defScope st) f (.ref c) A outer s H E) (defBody st) t ∧ t { nx := fun _ H' => Q .non H', rt := Q } (start N vs) H) :
    FnOk P w K mg base (CXE P w) (k + 1) f (PySem.W.fnOf x qual (defArgs st) (defBody st) (defScope st) dV kV doc pm an (.ref c) ct) ps sp :=
  fn_of lk hcd S len fun A outer s H vs Q E hr h => by
    obtain ⟨t, h1, h2⟩ := hbody A outer s H vs Q E hr h
    exact ⟨t, h1.out, h2⟩
end
end L2
namespace G1
open PySem L2 GM
def okO (H : Hp) (x : V) (n : Nat) : Prop := ∃ O os, x = .ref O ∧ H O = some (.lst (pls os)) ∧ os.Perm (List.range n)
def BadO (H : Hp) (x : V) (n : Nat) : Prop := Th H x ∧ (tyN H x ≠ "list" ∨ ∃ O xs, x = .ref O ∧ H O = some (.lst xs) ∧ xs.length ≤ 4000 ∧ (∀ y ∈ xs, Th H y) ∧ (xs.length ≠ n ∨ (∃ y ∈ xs, inB y 0 ((n : Int) - 1) = false) ∨ ∃ ns : List Int, xs = ns.map V.int ∧ ¬ ns.Nodup))
section
variable {P : Program} {w : World} {K : PySem.W.Frag} {mg : Str → Option Value} {base : Heap}
def spLookO (N T : Addr) : Sp := fun vs H Q E => ∃ (x : V) (n : Nat), vs = [.int n, x] ∧ n ≤ 1000 ∧ Tab T H ∧ (okO H x n ∧ (∀ H', Kp H H' → TbK H H' → Q .non H') ∨ BadO H x n ∧ ∀ H', Kp H H' → TbK H H' → E (.ref N) none H')
theorem scLo : FnScope ["many", "thing"] ["many", "thing"] (defScope sLookO) := ⟨rfl, rfl, rfl, by decide +kernel, rfl, by decide +kernel, by decide +kernel⟩
theorem ok_lookO {T N f c fW : Addr} {fdW : FuncData} {kV doc pm ct oc : Value} {an od : Option Addr} {osl : Array (Option Value)}
    (lk : K.lookup f = some ⟨oc, od, .func (PySem.W.fnOf "look_at_order" "look_at_order" (defArgs sLookO) (defBody sLookO) (defScope sLookO) .none kV doc pm an (.ref c) ct), osl⟩) (hcd : PySem.W.codeIn K (.ref c) "look_at_order" = true)
    (B : Bl mg) (CK : CodeK K c T) (hbm : BmOf mg base) (mN : mg "NoTurn" = some (.ref N)) (eN : ExcK K N)
    (GW : FnOk P w K mg base (CXE P w) 2 fW fdW ["thing", "least", "most"] spWithin) (mW : mg "is_whole_within" = some (.ref fW)) (kW : PySem.W.keepIn K (.ref fW) = true) (bW : Binds K fdW ["thing", "least", "most"] []) : FnOk P w K mg base (CXE P w) 4 f (PySem.W.fnOf "look_at_order" "look_at_order" (defArgs sLookO) (defBody sLookO) (defScope sLookO) .none kV doc pm an (.ref c) ct) ["many", "thing"] (spLookO N T) := by
  refine okCE lk hcd scLo (fun vs H Q E h => ?_) (fun A outer s H vs Q E hr h => ?_)
  · obtain ⟨x, n, rfl, _⟩ := h
    rfl
  · obtain ⟨x, n, rfl, n1, hT, hx⟩ := h
    refine ⟨_, (zpss_cons (zps_if (SPW.pt (zpw_or (zpt_not (zpt_val (zpe_callB call_isi (by rfl) B.isi boot_isi (zpac_n (zpv 1) (zpac_n (zpe_bltn (by rfl) B.list boot_list (v := .ty "list") rfl) zpa_nil))))) (zpw_or (zpt_cmpR op_ne (zpe_callB call_len_seq (by rfl) B.len PySem.boot_len (zpac_n (zpv 1) zpa_nil)) (zpv 0) (nomark _)) (zpw_or1 (zpt_not (zpt_val (zpe_all ["many", "thing"] ["one"] [0] (defScope sLookO) rfl hr (by rfl) B.all rfl CK ⟨hbm⟩ rfl rfl ⟨by decide +kernel, by decide +kernel, by decide +kernel, by decide +kernel, by decide +kernel⟩ (by decide +kernel) (by decide +kernel) (zpi_list (zpv 1)) (fun code s H fp => (zpg_name (i := 0) (show List.Nodup [("one" : Str), "many"] by decide +kernel) rfl (Or.inl rfl))) (fun code s H fp => (zpe_call GW hr.gen (by rfl) mW kW bW .nil passE0 (zpac_n (zpv 0) (zpac_c zpe_int (zpac_b (zpe_op op_sub (zpv 1) zpe_int) zpa_nil)))))))))))) (zpss_one (zps_raise (E := E) (fun pins σ H1 s1 h1 e args I hx hE => throw_fn I hx hE) rfl (by rfl) mN eN (zpac_c zpe_str zpa_nil))) zpss_nil)
      (zpss_one (zps_if (zpt_cmpR op_ne (zpe_callB call_len_setI (by rfl) B.len PySem.boot_len (zpac_f (zpe_callTy (call_setI rfl) (by rfl) B.set boot_set (zpac_n (zpv 1) zpa_nil)) zpa_nil)) (zpv 0) (nomark _)) (zpss_one (zps_raise (E := E) (fun pins σ H1 s1 h1 e args I hx hE => throw_fn I hx hE) rfl (by rfl) mN eN (zpac_c zpe_str zpa_nil))) zpss_nil))), ?_⟩
    have th : Th H x := by
      rcases hx with ⟨⟨O, os, rfl, hO, _⟩, _⟩ | ⟨b, _⟩
      · exact .lst hO
      · exact b.1
    refine ⟨_, rfl, _, _, _, _, rfl, th.tyQ, .inl ⟨_, rfl, kit_lst th⟩, _, rfl, ?_⟩
    by_cases ht : tyN H x = "list"
    · rw [decide_eq_true ht]
      obtain ⟨a, xs, rfl, ha⟩ := th.isLst ht
      have sq : SqL K H a xs := SqL.of ha
      have els : ∀ y ∈ xs, Th H y := by
        rcases hx with ⟨⟨O, os, e, hO, _⟩, _⟩ | ⟨⟨_, hb⟩, _⟩
        · cases e
          rw [ha] at hO; cases hO
          intro y hy
          obtain ⟨z, _, rfl⟩ := List.mem_map.mp hy
          exact .int _
        · rcases hb with hb | ⟨O, xs', e, hO, _, h, _⟩
          · exact absurd ht hb
          · cases e
            rw [ha] at hO; cases hO
            exact h
      have l4 : xs.length ≤ 4000 := by
        rcases hx with ⟨⟨O, os, e, hO, pm⟩, _⟩ | ⟨⟨_, hb⟩, _⟩
        · cases e
          rw [ha] at hO; cases hO
          unfold pls
          rw [List.length_map, pm.length_eq, List.length_range]; omega
        · rcases hb with hb | ⟨O, xs', e, hO, h, _⟩
          · exact absurd ht hb
          · cases e
            rw [ha] at hO; cases hO
            exact h
      have alt : (∃ os, xs = pls os ∧ os.Perm (List.range n)) ∧ (∀ H', Kp H H' → TbK H H' → Q .non H') ∨ (xs.length ≠ n ∨ (∃ y ∈ xs, inB y 0 ((n : Int) - 1) = false) ∨ ∃ ns : List Int, xs = ns.map V.int ∧ ¬ ns.Nodup) ∧ ∀ H', Kp H H' → TbK H H' → E (.ref N) none H' := by
        rcases hx with ⟨⟨O, os, e, hO, pm⟩, q⟩ | ⟨⟨_, hb⟩, q⟩
        · cases e
          rw [ha] at hO; cases hO
          exact .inl ⟨⟨os, rfl, pm⟩, q⟩
        · rcases hb with hb | ⟨O, xs', e, hO, _, _, h⟩
          · exact absurd ht hb
          · cases e
            rw [ha] at hO; cases hO
            exact .inr ⟨h, q⟩
      clear hx
      refine iteF ⟨_, rfl, a, xs, rfl, .inl sq, _, rfl, rfl, _, rfl, ?_⟩
      by_cases ln : xs.length = n
      · rw [show (!decide (V.int (xs.length : Int) = V.int (n : Int))) = false by rw [ln]; simp]
        refine iteF ?_
        obtain ⟨ps2, hT2, tr2⟩ := id hT
        refine ⟨_, rfl, a, rfl, ⟨_, sq⟩, ps2, hT2, tr2, fun ps' tr' => ?_⟩
        have kp : Kp H (upd H T (.tbl ps')) := Kp.tab hT
        have tb : TbK H (upd H T (.tbl ps')) := TbK.one (hT.put tr') fun b hb => upd_ne hb
        generalize upd H T (.tbl ps') = H1 at kp tb
        refine gl_list (K := K) (S := a) (xs := xs) (fun i σ H2 => (∃ v, σ = [v, some (.int n)]) ∧ H2 = H1 ∧ ∀ j y, j < i → xs[j]? = some y → inB y 0 ((n : Int) - 1) = true) ⟨⟨_, rfl⟩, rfl, fun _ _ h => absurd h (Nat.not_lt_zero _)⟩ ?_ ?_ ?_
        · rintro i σ H2 ⟨_, rfl, _⟩
          exact SqL.of (kp.lst ha)
        · rintro i y σ H2 C hi ⟨⟨v, rfl⟩, rfl, al⟩ nx
          have hy := (els y (List.mem_of_getElem? hi)).kp kp
          refine ⟨_, rfl, _, rfl, _, _, rfl, rfl, y, 0, (n : Int) - 1, rfl, hy, _, rfl, ?_⟩
          cases hn : inB y 0 ((n : Int) - 1) with
          | true =>
            refine iteT (nx _ _ ⟨⟨_, rfl⟩, rfl, fun j z hj ez => ?_⟩)
            by_cases e : j = i
            · subst e; rw [hi] at ez; cases ez; exact hn
            · exact al j z (by omega) ez
          | false =>
            refine iteF ⟨_, rfl, iteT ⟨by decide, ?_⟩⟩
            rcases alt with ⟨⟨os, rfl, pm⟩, _⟩ | ⟨_, q⟩
            · exfalso
              obtain ⟨z, hz, rfl⟩ := List.mem_map.mp (List.mem_of_getElem? hi)
              have zn := List.mem_range.mp (pm.mem_iff.mp hz)
              have : inB (.int (z : Int)) 0 ((n : Int) - 1) = true := by
                show (decide ((0 : Int) ≤ z) && decide ((z : Int) ≤ (n : Int) - 1)) = true
                rw [decide_eq_true (by omega), decide_eq_true (by omega)]; rfl
              rw [this] at hn; cases hn
            · exact q _ kp tb
        rintro σ H2 ⟨⟨v, rfl⟩, rfl, al⟩
        refine ⟨_, rfl, iteF ?_⟩
        have all_ : ∀ y ∈ xs, inB y 0 ((n : Int) - 1) = true := fun y hy => by
          obtain ⟨j, hj⟩ := List.getElem?_of_mem hy
          exact al j y ((List.getElem?_eq_some_iff.mp hj).1) hj
        obtain ⟨ns, rfl⟩ : ∃ ns : List Int, xs = ns.map V.int := by
          clear alt al els l4 sq ha ln
          induction xs with
          | nil => exact ⟨[], rfl⟩
          | cons y ys ih =>
            obtain ⟨ns, e⟩ := ih fun z hz => all_ z (List.mem_cons_of_mem _ hz)
            have := all_ y (List.mem_cons_self ..)
            cases y with
            | int i => exact ⟨i :: ns, by rw [e]; rfl⟩
            | _ => cases this
        have lns : ns.length = n := by rw [← ln, List.length_map]
        refine ⟨_, rfl, a, ns, rfl, SqL.of (kp.lst ha), by rw [← lns] at n1; omega, ?_⟩
        (intro p gp; generalize hEq : upd _ p _ = H3; refine newC hEq gp ?_; clear hEq; intro S3 e3 o3)
        refine ⟨p, _, rfl, e3, ?_⟩
        refine ⟨_, rfl, rfl, _, rfl, ?_⟩
        have k3 := kp.trans (Kp.same S3)
        have t3 := tb.same S3
        have inj : ∀ {l : List Int}, ns.map V.int = l.map V.int → ns = l := fun e => (List.map_inj_right (fun _ _ z => by injection z)).mp e
        obtain ⟨ol, on⟩ := once_len ns
        by_cases nd : ns.Nodup
        · rw [show (!decide (V.int ((once ns).length : Int) = V.int (n : Int))) = false by rw [on.mpr nd, lns]; simp]
          refine iteF ?_
          rcases alt with ⟨_, q⟩ | ⟨h, _⟩
          · exact q _ k3 t3
          · exfalso
            rcases h with h | ⟨y, hy, e⟩ | ⟨ns2, e, h⟩
            · exact h ln
            · rw [all_ y hy] at e; cases e
            · rw [inj e] at nd; exact h nd
        · have ne : (once ns).length ≠ n := fun z => nd (on.mp (z.trans lns.symm))
          refine ite2 (fun _ => ⟨by decide, ?_⟩) (fun e => absurd ?_ e)
          · rcases alt with ⟨⟨os, e, pm⟩, _⟩ | ⟨_, q⟩
            · exfalso
              have e2 : ns = os.map fun (o : Nat) => (o : Int) := inj (e.trans (by unfold pls; rw [List.map_map]; rfl))
              rw [e2] at nd
              exact nd (List.Pairwise.map _ (fun (a b : Nat) (h : a ≠ b) z => h (by omega)) (pm.nodup_iff.mpr List.nodup_range))
            · exact q _ k3 t3
          · show (!decide (V.int ((once ns).length : Int) = V.int (n : Int))) = true
            rw [decide_eq_false (fun y => ne (by injection y with y; omega))]; rfl
      · refine ite2 (fun _ => ⟨by decide, ?_⟩) (fun e => absurd ?_ e)
        · rcases alt with ⟨⟨os, rfl, pm⟩, _⟩ | ⟨_, q⟩
          · exact absurd (by unfold pls; rw [List.length_map, pm.length_eq, List.length_range]) ln
          · exact q _ Kp.refl TbK.refl
        · show (!decide (V.int (xs.length : Int) = V.int (n : Int))) = true
          rw [decide_eq_false (fun y => ln (by injection y with y; omega))]; rfl
    · rw [decide_eq_false ht]
      refine iteT ⟨by decide, ?_⟩
      rcases hx with ⟨⟨O, os, rfl, hO, _⟩, _⟩ | ⟨_, q⟩
      · exact absurd (tyN_lst hO) ht
      · exact q _ Kp.refl TbK.refl
end
end G1
namespace G1
open PySem L2 GM
theorem BadO_kp {H H' : Hp} {x : V} {n : Nat} (h : BadO H x n) (k : Kp H H') : BadO H' x n := by
  obtain ⟨th, h⟩ := h
  refine ⟨th.kp k, ?_⟩
  rcases h with h | ⟨O, xs, rfl, hO, l4, els, r⟩
  · left
    cases th with
    | lst e => exact absurd (tyN_lst e) h
    | tup e => rw [tyN_tup (k.tup e)]; decide
    | dK e => rw [tyN_dK (k _ _ e nofun)]; decide
    | _ => exact h
  · exact .inr ⟨O, xs, rfl, k.lst hO, l4, fun y hy => (els y hy).kp k, r⟩
section
variable {P : Program} {w : World} {K : PySem.W.Frag} {mg : Str → Option Value} {base : Heap}
def NewL (H : Hp) (l : Addr) : Prop := ∀ o, H l = some o → ∃ ps, o = .tbl ps
theorem NewL.of {H H1 : Hp} {l : Addr} (k : Kp H H1) (g : H1 l = none) : NewL H l := fun o e => Classical.byContradiction fun n => by
  have := k _ _ e fun ps z => n ⟨ps, z⟩
  rw [g] at this; cases this
def Turned (N : Addr) (xs : List V) (o : V) (H : Hp) (Q : VK) (E : XK) : Prop :=
  (∃ O os, o = .ref O ∧ H O = some (.lst (pls os)) ∧ os.Perm (List.range xs.length) ∧ ∀ l ys H', Kp H H' → TbK H H' → NewL H l → H' l = some (.lst ys) → Put os xs ys → Q (.ref l) H') ∨
  (BadO H o xs.length ∧ ∀ H', Kp H H' → TbK H H' → E (.ref N) none H')
def spPutB (N T2 : Addr) : Sp := fun vs H Q E => ∃ (B : Addr) (xs : List V) (o : V), vs = [.ref B, o] ∧ H B = some (.lst xs) ∧ xs.length ≤ 100 ∧ Tab T2 H ∧ Turned N xs o H Q E
def spPutW (M N T1 T2 : Addr) : Sp := fun vs H Q E => ∃ (x o : V), vs = [x, o] ∧ ThW H x ∧ Tab T1 H ∧ Tab T2 H ∧
  ((outW H x = none ∧ ∃ W xs, x = .ref W ∧ H W = some (.lst xs) ∧ Turned N xs o H Q E) ∨ ∃ v, outW H x = some v ∧ ∀ dx H', Kp H H' → TbK H H' → H' dx = some (.xd [("number", v)]) → E (.ref M) (some dx) H')
theorem scPb : FnScope ["book", "order"] ["book", "order"] (defScope sPutB) := ⟨rfl, rfl, rfl, by decide +kernel, rfl, by decide +kernel, by decide +kernel⟩
theorem ok_putB {N T2 : Addr} {f fO fP : Addr} {fd fdO fdP : FuncData} (F : FunG K "put_book" "put_book" sPutB .none f fd) (B : Bl mg)
    (GO : FnOk P w K mg base (CXE P w) 4 fO fdO ["many", "thing"] (spLookO N T2)) (mO : mg "look_at_order" = some (.ref fO)) (kO : PySem.W.keepIn K (.ref fO) = true) (bO : Binds K fdO ["many", "thing"] [])
    (GP : FnOk P w K mg base (CXE P w) 1 fP fdP ["some", "places"] spPlaces) (mP : mg "put_in_places" = some (.ref fP)) (kP : PySem.W.keepIn K (.ref fP) = true) (bP : Binds K fdP ["some", "places"] []) : FnOk P w K mg base (CXE P w) 6 f fd ["book", "order"] (spPutB N T2) := by
  refine F.zokE scPb (fun vs H Q E h => ?_) (fun cdv A outer s H vs Q E hr h => ?_)
  · obtain ⟨b, xs, o, rfl, _⟩ := h
    rfl
  · obtain ⟨b, xs, o, rfl, hB, l1, hT, tu⟩ := h
    refine ⟨_, (zpss_cons (zps_expr (zpe_call GO (hr.mono (by decide)) (by rfl) mO kO bO .nil (passes_fn fun _ _ _ z => z) (zpac_f (zpe_callB call_len_seq (by rfl) B.len PySem.boot_len (zpac_n (zpv 0) zpa_nil)) (zpac_n (zpv 1) zpa_nil))))
      (zpss_one (zps_ret (zpe_call GP (hr.mono (by decide)) (by rfl) mP kP bP .nil passE0 (zpac_n (zpv 0) (zpac_n (zpv 1) zpa_nil)))))), ?_⟩
    refine ⟨_, rfl, b, xs, rfl, .inl (SqL.of hB), _, rfl, o, xs.length, rfl, by omega, hT, ?_⟩
    rcases tu with ⟨O, os, rfl, hO, pm, q⟩ | ⟨bad, q⟩
    · refine .inl ⟨⟨O, os, rfl, hO, pm⟩, fun H1 k1 t1 => ?_⟩
      refine ⟨_, rfl, _, rfl, b, O, xs, os, rfl, k1.lst hB, k1.lst hO, pm, l1, fun l ys H' S1 gl hl pt => ?_⟩
      exact q l ys H' (k1.trans (Kp.same S1)) (t1.same S1) (.of k1 gl) hl pt
    · exact .inr ⟨bad, q⟩
theorem scPw : FnScope ["wants", "order"] ["wants", "order"] (defScope sPutW) := ⟨rfl, rfl, rfl, by decide +kernel, rfl, by decide +kernel, by decide +kernel⟩
theorem ok_putW {M N T1 T2 : Addr} {f fW fO fP : Addr} {fd fdW fdO fdP : FuncData} (F : FunG K "put_wants" "put_wants" sPutW .none f fd) (B : Bl mg)
    (GW : FnOk P w K mg base (CXE P w) 5 fW fdW ["thing"] (spLookWs M T1)) (mW : mg "look_at_wants" = some (.ref fW)) (kW : PySem.W.keepIn K (.ref fW) = true) (bW : Binds K fdW ["thing"] [])
    (GO : FnOk P w K mg base (CXE P w) 4 fO fdO ["many", "thing"] (spLookO N T2)) (mO : mg "look_at_order" = some (.ref fO)) (kO : PySem.W.keepIn K (.ref fO) = true) (bO : Binds K fdO ["many", "thing"] [])
    (GP : FnOk P w K mg base (CXE P w) 1 fP fdP ["some", "places"] spPlaces) (mP : mg "put_in_places" = some (.ref fP)) (kP : PySem.W.keepIn K (.ref fP) = true) (bP : Binds K fdP ["some", "places"] []) : FnOk P w K mg base (CXE P w) 6 f fd ["wants", "order"] (spPutW M N T1 T2) := by
  refine F.zokE scPw (fun vs H Q E h => ?_) (fun cdv A outer s H vs Q E hr h => ?_)
  · obtain ⟨x, o, rfl, _⟩ := h
    rfl
  · obtain ⟨x, o, rfl, hx, h1, h2, alt⟩ := h
    refine ⟨_, (zpss_cons (zps_expr (zpe_call GW hr (by rfl) mW kW bW .nil (passes_fn fun _ _ _ z => z) (zpac_n (zpv 0) zpa_nil)))
      (zpss_cons (zps_expr (zpe_call GO (hr.mono (by decide)) (by rfl) mO kO bO .nil (passes_fn fun _ _ _ z => z) (zpac_f (zpe_callB call_len_seq (by rfl) B.len PySem.boot_len (zpac_n (zpv 0) zpa_nil)) (zpac_n (zpv 1) zpa_nil))))
      (zpss_one (zps_ret (zpe_call GP (hr.mono (by decide)) (by rfl) mP kP bP .nil passE0 (zpac_n (zpv 0) (zpac_n (zpv 1) zpa_nil))))))), ?_⟩
    refine ⟨_, rfl, x, rfl, hx, h1, fun e H1 k1 t1 => ?_, fun v e dx H1 k1 t1 hd => ?_⟩
    · rcases alt with ⟨_, W, xs, rfl, hW, tu⟩ | ⟨v, e2, _⟩
      · have l20 : xs.length ≤ 100 := by
          rw [outW_lst hW] at e
          split at e
          · omega
          · cases e
        have hW1 := k1.lst hW
        refine ⟨_, rfl, W, xs, rfl, .inl (SqL.of hW1), _, rfl, o, xs.length, rfl, by omega, t1 _ h2, ?_⟩
        rcases tu with ⟨O, os, rfl, hO, pm, q⟩ | ⟨bad, q⟩
        · refine .inl ⟨⟨O, os, rfl, k1.lst hO, pm⟩, fun H2 k2 t2 => ?_⟩
          have k12 := k1.trans k2
          refine ⟨_, rfl, _, rfl, W, O, xs, os, rfl, k12.lst hW, k12.lst hO, pm, l20, fun l ys H' S1 gl hl pt => ?_⟩
          exact q l ys H' (k12.trans (Kp.same S1)) ((t1.trans t2).same S1) (.of k12 gl) hl pt
        · exact .inr ⟨BadO_kp bad k1, fun H2 k2 t2 => q H2 (k1.trans k2) (t1.trans t2)⟩
      · rw [e] at e2; cases e2
    · rcases alt with ⟨e2, _⟩ | ⟨v2, e2, q⟩
      · rw [e] at e2; cases e2
      · rw [e] at e2; cases e2
        exact q dx H1 k1 t1 hd
end
end G1
namespace L2
open PySem PySem.Spec PyProof.Rows
theorem psx_if {X : Cx} {c : Expr} {a b : List Stmt} {pos : Pos} {tc : TT} {ta tb : TSX} (hc : PT X.nox c tc) (ha : PSX X a ta) (hb : PSX X b tb) :
    PSX X [.If c a b pos] (fun D E σ H => tc σ H fun d H1 => if d = true then ta D E σ H1 else tb D E σ H1) := by
  intro pins s σ H D E I h
  refine wpAny_execs_cons (wpAny_If (wpAny_mono (hc pins s σ H _ (I.wish _) h) (fun d s1 ⟨H1, I1, q1⟩ => ?_) fun _ _ z => False.elim z))
  have I1' := I1.unwish
  have fin : ∀ (r : Flow) (s2 : Shared), SP X pins D r s2 → match r with | .next => wpAny (model X.prog X.w) X.A (execs [] X.env) (SP X pins D) (CXX X pins σ E) s2 | r => SP X pins D r s2 := by
    intro r s2 q
    cases r with
    | next => exact wpAny_execs_nil q
    | _ => exact q
  cases d with
  | true => exact wpAny_mono (ha pins s1 σ H1 D E I1' q1) fin fun _ _ z => z
  | false => exact wpAny_mono (hb pins s1 σ H1 D E I1' q1) fin fun _ _ z => z
end L2
namespace L2
open PySem PySem.Spec PyProof.Rows
structure Other (K : PySem.W.Frag) (CN C : Addr) : Prop where
  no : PySem.W.mroIn K CN (.ref C) = some false
  hd : PySem.W.hasDictIn K C = true
  ty : PySem.W.typeIn K (.ref C) = some (.type "type")
theorem Other.one {K : PySem.W.Frag} {CN C : Addr} (self : PySem.W.mroIn K CN (.ref CN) = some true) (o : Other K CN C) : PySem.W.kitOne K (.ref CN) (.ref C) = some false := by
  have ne : ¬ ((Value.ref CN == Value.ref C) = true) := fun z => by
    have e : CN = C := Value.ref.inj (beq_iff_eq.mp z)
    have h := o.no
    rw [← e, self] at h
    cases h
  obtain ⟨cd, q, _⟩ := PySem.W.any_some o.hd
  unfold PySem.W.kitOne
  rw [if_neg ne]
  show (if ((PySem.W.clsIn K C).isSome && PySem.W.typeIn K (.ref C) == some (.type "type")) = true then PySem.W.subIn K (.ref CN) (.ref C) else none) = some false
  rw [if_pos (by rw [q, o.ty]; simp)]
  exact o.no
theorem Other.all {K : PySem.W.Frag} {CN : Addr} (self : PySem.W.mroIn K CN (.ref CN) = some true) : ∀ {cs : List Addr}, (∀ C ∈ cs, Other K CN C) → PySem.W.kitAny K (.ref CN) (cs.map Value.ref) = some false
  | [], _ => rfl
  | c :: cs, h => by
    show (match PySem.W.kitOne K (.ref CN) (.ref c) with | some true => some true | some false => PySem.W.kitAny K (.ref CN) (cs.map Value.ref) | none => none) = some false
    rw [(h c (by simp)).one self]
    exact Other.all self fun C hC => h C (by simp [hC])
theorem kit_self {K : PySem.W.Frag} {C : Addr} : PySem.W.kitOne K (.ref C) (.ref C) = some true := by
  unfold PySem.W.kitOne
  rw [if_pos (by simp)]
theorem kit_type {K : PySem.W.Frag} {C : Addr} (h : PySem.W.mroIn K C (.type "ValueError") = some true) : PySem.W.kitOne K (.ref C) (.type "ValueError") = some true := by
  unfold PySem.W.kitOne
  rw [if_neg (by simp)]
  show (if PySem.W.kitMeta "ValueError" = true then PySem.W.subIn K (.ref C) (.type "ValueError") else none) = some true
  rw [if_pos (by decide +kernel)]
  exact h
theorem boot_ve : bootBuiltins "ValueError" = some (.type "ValueError") := by decide +kernel
end L2
namespace L2
open PySem PySem.Spec PyProof.Rows
theorem zpsx_if {X : Cx} {c : Expr} {a b : List Stmt} {pos : Pos} {tc : TT} {ta tb : TSX} (hc : SPT X.nox c tc) (ha : SPSX X a ta) (hb : SPSX X b tb) :
    SPSX X [.If c a b pos] (fun D E σ H => tc σ H fun d H1 => if d = true then ta D E σ H1 else tb D E σ H1) := ⟨psx_if hc.out ha.out hb.out⟩
end L2
namespace G1
open PySem L2 GM
structure Cl (K : PySem.W.Frag) (mg : Str → Option Value) (c : List Addr) : Prop where
  len : c.length = 15
  dear : mg "DearError" = some (.ref (c.getD 0 0))
  c1 : mg "NoTurn" = some (.ref (c.getD 1 0))
  c2 : mg "NoBook" = some (.ref (c.getD 2 0))
  c3 : mg "NoTongue" = some (.ref (c.getD 3 0))
  c4 : mg "NoWants" = some (.ref (c.getD 4 0))
  c5 : mg "NoTree" = some (.ref (c.getD 5 0))
  c6 : mg "TooMany" = some (.ref (c.getD 6 0))
  c7 : mg "NoUndo" = some (.ref (c.getD 7 0))
  c8 : mg "NoCount" = some (.ref (c.getD 8 0))
  c9 : mg "NoNumber" = some (.ref (c.getD 9 0))
  c10 : mg "NoRow" = some (.ref (c.getD 10 0))
  c11 : mg "NoText" = some (.ref (c.getD 11 0))
  c12 : mg "Unknown" = some (.ref (c.getD 12 0))
  c13 : mg "NoThing" = some (.ref (c.getD 13 0))
  c14 : mg "BadSign" = some (.ref (c.getD 14 0))
  exc : ExcK K (c.getD 1 0)
  cls : ClsX K (c.getD 1 0)
  self : PySem.W.mroIn K (c.getD 1 0) (.ref (c.getD 1 0)) = some true
  ve : PySem.W.mroIn K (c.getD 1 0) (.type "ValueError") = some true
  up : PySem.W.mroIn K (c.getD 1 0) (.ref (c.getD 0 0)) = some true
  catch_ : CatchK K (c.getD 0 0)
  oth : ∀ i, 2 ≤ i → i < 15 → Other K (c.getD 1 0) (c.getD i 0)
  wcls : ClsX K (c.getD 4 0)
  wself : PySem.W.mroIn K (c.getD 4 0) (.ref (c.getD 4 0)) = some true
  wcatch : CatchK K (c.getD 4 0)
  num : PySem.W.findIn K (.ref (c.getD 4 0)) "number" = some none
section
variable {P : Program} {w : World} {K : PySem.W.Frag} {mg : Str → Option Value} {base : Heap} {c : List Addr}
def spNoTurn (CN : Addr) : Sp := fun vs H Q _ => ∃ e, vs = [.ref e] ∧ H e = some (ExcO CN e) ∧ ∀ H', Same H H' → Q (.bl true) H'
theorem scNt : FnScope ["_law_kept", "_law_others"] ["_law_kept"] (defScope sNoTurn) := ⟨rfl, rfl, rfl, by decide +kernel, rfl, by decide +kernel, by decide +kernel⟩
theorem ok_noTurn {f : Addr} {fd : FuncData} (F : FunG K "_law_is_no_turn" "_law_is_no_turn" sNoTurn .none f fd) (B : Bl mg) (hve : mg "ValueError" = none) (C : Cl K mg c) : FnOk P w K mg base (CXE P w) 1 f fd ["_law_kept"] (spNoTurn (c.getD 1 0)) := by
  refine F.zokN scNt (fun vs H Q E h => ?_) (fun cdv A outer s H vs Q E hr h => ?_)
  · obtain ⟨e, rfl, _⟩ := h
    rfl
  · obtain ⟨e, rfl, he, q⟩ := h
    have ty : ∀ {H' : Hp}, Same H H' → TyX K H' (.ref e) (.ref (c.getD 1 0)) := fun s => .exc (s _ _ he) C.cls
    refine ⟨_, (zpss_cons (zps_if (SPW.pt (zpw_or (zpt_not (zpt_val (zpe_callB call_isi (by rfl) B.isi boot_isi (zpac_n (zpv 0) (zpac_n (zpe_glob (by rfl) C.c1 (v := .ref _) rfl) zpa_nil))))) (zpw_or1 (zpt_not (zpt_val (zpe_callB call_isi (by rfl) B.isi boot_isi (zpac_n (zpv 0) (zpac_n (zpe_bltn (by rfl) hve boot_ve (v := .ty "ValueError") rfl) zpa_nil)))))))) (zpss_one (zps_ret zpe_bl)) zpss_nil)
      (zpss_cons (zps_set (i := 1) scNt.nd rfl (Or.inl rfl) (zpe_callB call_isi (by rfl) B.isi boot_isi (zpac_n (zpv 0) (zpac_t (zpe_tup (zpac_n (zpe_glob (by rfl) C.c2 (v := .ref _) rfl) (zpac_n (zpe_glob (by rfl) C.c3 (v := .ref _) rfl) (zpac_n (zpe_glob (by rfl) C.c4 (v := .ref _) rfl) (zpac_n (zpe_glob (by rfl) C.c5 (v := .ref _) rfl) (zpac_n (zpe_glob (by rfl) C.c6 (v := .ref _) rfl) (zpac_n (zpe_glob (by rfl) C.c7 (v := .ref _) rfl) (zpac_n (zpe_glob (by rfl) C.c8 (v := .ref _) rfl) (zpac_n (zpe_glob (by rfl) C.c9 (v := .ref _) rfl) (zpac_n (zpe_glob (by rfl) C.c10 (v := .ref _) rfl) (zpac_n (zpe_glob (by rfl) C.c11 (v := .ref _) rfl) zpa_nil))))))))))) zpa_nil))))
      (zpss_one (zps_ret (zpe_and (zpe_not (zpv 1)) (zpe_one (zpe_not (zpe_callB call_isi (by rfl) B.isi boot_isi (zpac_n (zpv 0) (zpac_t (zpe_tup (zpac_n (zpe_glob (by rfl) C.c12 (v := .ref _) rfl) (zpac_n (zpe_glob (by rfl) C.c13 (v := .ref _) rfl) (zpac_n (zpe_glob (by rfl) C.c14 (v := .ref _) rfl) zpa_nil)))) zpa_nil)))))))))), ?_⟩
    have s0 : Same H H := Same.refl _
    refine ⟨_, rfl, _, _, _, true, rfl, ty s0, .inl ⟨_, rfl, kit_self⟩, _, rfl, ?_⟩
    refine iteF ⟨_, rfl, _, _, _, true, rfl, ty s0, .inl ⟨_, rfl, kit_type C.ve⟩, _, rfl, ?_⟩
    refine iteF ?_
    refine ⟨_, rfl, by show 10 ≤ sizeLine; decide, fun t ht => ?_⟩
    have s1 := same_upd (o := .tup [.ref (c.getD 2 0), .ref (c.getD 3 0), .ref (c.getD 4 0), .ref (c.getD 5 0), .ref (c.getD 6 0), .ref (c.getD 7 0), .ref (c.getD 8 0), .ref (c.getD 9 0), .ref (c.getD 10 0), .ref (c.getD 11 0)]) ht
    refine ⟨_, _, _, false, rfl, ty s1, .inr ⟨t, _, [2, 3, 4, 5, 6, 7, 8, 9, 10, 11].map (fun i => Value.ref (c.getD i 0)), rfl, SqT.of upd_same, rfl, ?_⟩, ?_⟩
    · exact Other.all (cs := [2, 3, 4, 5, 6, 7, 8, 9, 10, 11].map (fun i => c.getD i 0)) C.self fun a ha => by
        obtain ⟨i, hi, rfl⟩ := List.mem_map.mp ha
        exact C.oth i (by simp at hi; omega) (by simp at hi; omega)
    refine ⟨_, rfl, _, rfl, true, rfl, iteT ⟨_, rfl, by show 3 ≤ sizeLine; decide, fun t2 ht2 => ?_⟩⟩
    have s2 := s1.trans (same_upd (o := .tup [.ref (c.getD 12 0), .ref (c.getD 13 0), .ref (c.getD 14 0)]) ht2)
    refine ⟨_, _, _, false, rfl, ty s2, .inr ⟨t2, _, [12, 13, 14].map (fun i => Value.ref (c.getD i 0)), rfl, SqT.of upd_same, rfl, ?_⟩, _, rfl, q _ s2⟩
    exact Other.all (cs := [12, 13, 14].map (fun i => c.getD i 0)) C.self fun a ha => by
      obtain ⟨i, hi, rfl⟩ := List.mem_map.mp ha
      exact C.oth i (by simp at hi; omega) (by simp at hi; omega)
end
end G1
namespace L2
open PySem PySem.Spec PyProof.Rows
theorem zpe_xdK {X : Cx} {o : Expr} {f : Str} {pos : Pos} {ta : TE} (K : PySem.W.Frag) (hK : X.K = K) (he : SPE X o ta) (hb : attributeBase o f X.env (eval o X.env) = eval o X.env := by rfl) : SPE X (.Attribute o f pos) (tXd K ta f) := hK ▸ zpe_xd he hb
end L2
namespace G1
open PySem L2 GM
section
variable {P : Program} {w : World} {K : PySem.W.Frag} {mg : Str → Option Value} {base : Heap} {c : List Addr}
def spRefused (T1 T2 : Addr) : Sp := fun vs H Q _ => ∃ (B : Addr) (xs : List V) (o : V) (way : Int), vs = [.ref B, o, .int way] ∧ H B = some (.lst xs) ∧ xs.length ≤ 100 ∧ Tab T1 H ∧ Tab T2 H ∧ BadO H o xs.length ∧ (way = 0 → ThW H (.ref B) ∧ outW H (.ref B) = none) ∧
  ∀ H', Kp H H' → TbK H H' → Q (.bl true) H'
theorem scRf : FnScope ["_law_things", "_law_thing", "_law_way", "_law_kept", "e"] ["_law_things", "_law_thing", "_law_way"] (defScope sRefused) := ⟨rfl, rfl, rfl, by decide +kernel, rfl, by decide +kernel, by decide +kernel⟩
theorem ok_refused {M N T1 T2 : Addr} {f fW fB fT : Addr} {fd fdW fdB fdT : FuncData} (F : FunG K "_law_refused" "_law_refused" sRefused .none f fd) (C : Cl K mg c) (hN : c.getD 1 0 = N)
    (GW : FnOk P w K mg base (CXE P w) 6 fW fdW ["wants", "order"] (spPutW M N T1 T2)) (mW : mg "put_wants" = some (.ref fW)) (kW : PySem.W.keepIn K (.ref fW) = true) (bW : Binds K fdW ["wants", "order"] [])
    (GB : FnOk P w K mg base (CXE P w) 6 fB fdB ["book", "order"] (spPutB N T2)) (mB : mg "put_book" = some (.ref fB)) (kB : PySem.W.keepIn K (.ref fB) = true) (bB : Binds K fdB ["book", "order"] [])
    (GT : FnOk P w K mg base (CXE P w) 1 fT fdT ["_law_kept"] (spNoTurn N)) (mT : mg "_law_is_no_turn" = some (.ref fT)) (kT : PySem.W.keepIn K (.ref fT) = true) (bT : Binds K fdT ["_law_kept"] []) : FnOk P w K mg base (CXE P w) 7 f fd ["_law_things", "_law_thing", "_law_way"] (spRefused T1 T2) := by
  refine F.zokN scRf (fun vs H Q E h => ?_) (fun cdv A outer s H vs Q E hr h => ?_)
  · obtain ⟨b, xs, o, way, rfl, _⟩ := h
    rfl
  · obtain ⟨b, xs, o, way, rfl, hB, l1, h1, h2, bad, wy, q⟩ := h
    refine ⟨_, (zpss_cons (zps_set (i := 3) scRf.nd rfl (Or.inl rfl) zpe_non)
      (zpss_cons (zps_try_as (j := 4) (zpsx_if (zpt_cmpR op_eq (zpv 2) zpe_int (nomark _)) (zpsx_expr (zpex_call GW hr (by rfl) mW kW bW .nil (zpac_n (zpv 0) (zpac_n (zpv 1) zpa_nil)))) (zpsx_expr (zpex_call GB hr (by rfl) mB kB bB .nil (zpac_n (zpv 0) (zpac_n (zpv 1) zpa_nil))))) scRf.nd rfl rfl rfl rfl (by rfl) C.dear C.catch_ (fun e => (zpss_one (zps_set (i := 3) scRf.nd rfl (Or.inl rfl) (zpv 4)))))
      (zpss_one (zps_ret (zpe_call GT (hr.mono (by decide)) (by rfl) mT kT bT .nil passE0 (zpac_n (zpv 3) zpa_nil)))))), ?_⟩
    refine ⟨_, rfl, rfl, ?_⟩
    refine ⟨_, rfl, ite2 (fun e => ?_) (fun e => ?_)⟩
    · obtain ⟨tw, ow⟩ := wy (by have := of_decide_eq_true e; injection this)
      refine ⟨_, rfl, _, rfl, .ref b, o, rfl, tw, h1, h2, .inl ⟨ow, b, xs, rfl, hB, .inr ⟨bad, fun H1 k1 t1 => ?_⟩⟩⟩
      refine ⟨N, rfl, hN ▸ C.up, fun e he => ⟨_, rfl, ⟨_, rfl, e, rfl, upd_same, fun H2 s2 => q H2 ((k1.trans (Kp.same (same_upd he))).trans (Kp.same s2)) (((t1.same (same_upd he))).same s2)⟩⟩⟩
    · refine ⟨_, rfl, _, rfl, b, xs, o, rfl, hB, l1, h2, .inr ⟨bad, fun H1 k1 t1 => ?_⟩⟩
      refine ⟨N, rfl, hN ▸ C.up, fun e he => ⟨_, rfl, ⟨_, rfl, e, rfl, upd_same, fun H2 s2 => q H2 ((k1.trans (Kp.same (same_upd he))).trans (Kp.same s2)) (((t1.same (same_upd he))).same s2)⟩⟩⟩
def spNumber (T1 T2 : Addr) : Sp := fun vs H Q _ => ∃ (x o v : V), vs = [x, o] ∧ ThW H x ∧ outW H x = some v ∧ Tab T1 H ∧ Tab T2 H ∧ ∀ H', Kp H H' → TbK H H' → Q v H'
theorem scNu : FnScope ["_law_thing", "_law_order_here", "_law_kept", "e"] ["_law_thing", "_law_order_here"] (defScope sNumber) := ⟨rfl, rfl, rfl, by decide +kernel, rfl, by decide +kernel, by decide +kernel⟩
theorem ok_number {M N T1 T2 : Addr} {f fW : Addr} {fd fdW : FuncData} (F : FunG K "_law_number" "_law_number" sNumber .none f fd) (C : Cl K mg c) (hM : c.getD 4 0 = M)
    (GW : FnOk P w K mg base (CXE P w) 6 fW fdW ["wants", "order"] (spPutW M N T1 T2)) (mW : mg "put_wants" = some (.ref fW)) (kW : PySem.W.keepIn K (.ref fW) = true) (bW : Binds K fdW ["wants", "order"] []) : FnOk P w K mg base (CXE P w) 7 f fd ["_law_thing", "_law_order_here"] (spNumber T1 T2) := by
  refine F.zokN scNu (fun vs H Q E h => ?_) (fun cdv A outer s H vs Q E hr h => ?_)
  · obtain ⟨x, o, v, rfl, _⟩ := h
    rfl
  · obtain ⟨x, o, v, rfl, hx, ow, h1, h2, q⟩ := h
    refine ⟨_, (zpss_cons (zps_set (i := 2) scNu.nd rfl (Or.inl rfl) zpe_str)
      (zpss_cons (zps_try_as (j := 3) (zpsx_expr (zpex_call GW hr (by rfl) mW kW bW .nil (zpac_n (zpv 0) (zpac_n (zpv 1) zpa_nil)))) scNu.nd rfl rfl rfl rfl (by rfl) C.c4 C.wcatch (fun e => (zpss_one (zps_set (i := 2) scNu.nd rfl (Or.inl rfl) (zpe_xdK K rfl (zpv 3))))))
      (zpss_one (zps_ret (zpv 2))))), ?_⟩
    subst hM
    refine ⟨_, rfl, _, rfl, x, o, rfl, hx, h1, h2, .inr ⟨v, ow, fun dx H1 k1 t1 hd => ?_⟩⟩
    refine ⟨c.getD 4 0, rfl, C.wself, fun e he => ?_⟩
    have s2 : Same H1 (upd H1 e (ExcD (c.getD 4 0) e (some dx))) := same_upd he
    have he2 : upd H1 e (ExcD (c.getD 4 0) e (some dx)) e = some (ExcD (c.getD 4 0) e (some dx)) := upd_same
    have hd2 := s2 _ _ hd
    refine ⟨_, rfl, ⟨e, _, dx, _, v, rfl, he2, hd2, C.wcls, C.num, rfl, ?_⟩⟩
    exact ⟨_, rfl, q _ (k1.trans (Kp.same s2)) (t1.same s2)⟩
end
end G1
namespace G1
open PySem L2 GM
theorem er_map {α β : Type} (f : α → β) : ∀ (l : List α) (i : Nat), (l.map f).eraseIdx i = (l.eraseIdx i).map f
  | [], _ => rfl
  | _ :: _, 0 => rfl
  | x :: l, i + 1 => by
    show f x :: (l.map f).eraseIdx i = f x :: (l.eraseIdx i).map f
    rw [er_map f l i]
theorem er_perm {α : Type} : ∀ {l : List α} {i : Nat} {y : α}, l[i]? = some y → (y :: l.eraseIdx i).Perm l
  | x :: l, 0, y, h => by
    cases (Option.some.inj h)
    exact .refl _
  | x :: l, i + 1, y, h => by
    show (y :: x :: l.eraseIdx i).Perm (x :: l)
    exact (List.Perm.swap x y _).trans (.cons x (er_perm (l := l) h))
section
variable {P : Program} {w : World} {K : PySem.W.Frag} {mg : Str → Option Value} {base : Heap} {c : List Addr}
def spOrder : Sp := fun vs H Q _ => ∃ (z k : Int) (n : Nat), vs = [.int z, .int k, .int n] ∧ 0 ≤ k ∧ k ≤ 1000 ∧ n ≤ 20 ∧ ∀ O os H', Same H H' → H O = none → H' O = some (.lst (pls os)) → os.Perm (List.range n) → Q (.ref O) H'
theorem scOr : FnScope ["_law_cell_here", "_law_k", "_law_many", "_law_left", "_law_found", "_law_place"] ["_law_cell_here", "_law_k", "_law_many"] (defScope sOrder) := ⟨rfl, rfl, rfl, by decide +kernel, rfl, by decide +kernel, by decide +kernel⟩
theorem ok_order {f fD : Addr} {fd fdD : FuncData} (F : FunG K "_law_order" "_law_order" sOrder .none f fd) (B : Bl mg)
    (GD : FnOk P w K mg base (CXE P w) 1 fD fdD ["_law_cell_here", "_law_k", "_law_sizes"] spDraws) (mD : mg "_law_draws" = some (.ref fD)) (kD : PySem.W.keepIn K (.ref fD) = true) (bD : Binds K fdD ["_law_cell_here", "_law_k", "_law_sizes"] []) : FnOk P w K mg base (CXE P w) 2 f fd ["_law_cell_here", "_law_k", "_law_many"] spOrder := by
  refine F.zokN scOr (fun vs H Q E h => ?_) (fun cdv A outer s H vs Q E hr h => ?_)
  · obtain ⟨z, k, n, rfl, _⟩ := h
    rfl
  · obtain ⟨z, k, n, rfl, k0, k1, n1, q⟩ := h
    refine ⟨_, (zpss_cons (zps_set (i := 3) scOr.nd rfl (Or.inl rfl) (zpe_callTy (call_list_rng rfl) (by rfl) B.list boot_list (zpac_f (zpe_range1 (by rfl) B.range (zpac_n (zpv 2) zpa_nil)) zpa_nil)))
      (zpss_cons (zps_set (i := 4) scOr.nd rfl (Or.inl rfl) (zpe_lst zpa_nil))
      (zpss_cons (zps_for PassesOwn.never rfl (zpi_list (zpe_call GD hr (by rfl) mD kD bD .nil passE0 (zpac_n (zpv 0) (zpac_n (zpv 1) (zpac_x (zpe_compL ["_law_cell_here", "_law_k", "_law_many", "_law_left", "_law_found", "_law_place"] ["_law_j"] [2] (defScope sOrder) rfl rfl rfl ⟨by decide +kernel, by decide +kernel, by decide +kernel, by decide +kernel, by decide +kernel⟩ (zpi_range1 (by rfl) B.range (zpac_n (zpv 2) zpa_nil)) (fun s H fp => (zpg_name (i := 0) (show List.Nodup [("_law_j" : Str), "_law_many"] by decide +kernel) rfl (Or.inl rfl))) (fun s H fp => zpts_nil) (fun s H fp => (zpe_op op_sub (zpv 1) (zpv 0)))) zpa_nil))))) (zpg_name (i := 5) scOr.nd rfl (Or.inl rfl))
          (zpss_one (zps_expr (zpe_bm PySem.F.plainAttrs_list PySem.F.slot_list_append PySem.F.type_list_append mt_append (zpv 4) (zpac_f (zpe_bm PySem.F.plainAttrs_list PySem.F.slot_list_pop PySem.F.type_list_pop mt_popAt (zpv 3) (zpac_n (zpv 5) zpa_nil)) zpa_nil)))))
      (zpss_one (zps_ret (zpv 4)))))), ?_⟩
    refine ⟨_, rfl, n, rfl, ?_⟩
    (intro r gr; generalize hEq : upd _ r _ = H1; refine newC hEq gr ?_; clear hEq; intro S1 e1 o1)
    refine ⟨r, n, rfl, e1, Nat.le_trans n1 (by decide), ?_⟩
    (intro L gL; generalize hEq : upd _ L _ = H2; refine newC hEq gL ?_; clear hEq; intro S2 e2 o2)
    have S02 := S1.trans S2
    refine ⟨Nat.zero_le _, ?_⟩
    (intro O gO; generalize hEq : upd _ O _ = H3; refine newC hEq gO ?_; clear hEq; intro S3 e3 o3)
    have eL := S3 _ _ e2
    have S03 := S02.trans S3
    refine ⟨_, rfl, _, rfl, _, rfl, _, rfl, by omega, by omega, ?_⟩
    (intro l1 g1; generalize hEq : upd _ l1 _ = H4; refine newC hEq g1 ?_; clear hEq; intro S4 e4 o4)
    rw [Int.toNat_natCast]
    refine lr_range (lo := 0) (n := n) (fun i σ H' => (∃ v, σ = [v, some (.int n)]) ∧ Same H3 H' ∧ H' l1 = some (.lst (((List.range i).map fun (j : Nat) => (n : Int) - (j : Int)).map V.int))) ⟨⟨_, rfl⟩, S4, e4⟩ ?_ ?_
    · rintro i σ H' Cn hi ⟨⟨v, rfl⟩, k2, h2⟩ nx
      rw [show (0 : Int) + (i : Int) = (i : Int) from Int.zero_add _]
      refine ⟨_, rfl, _, rfl, _, _, rfl, rfl, _, h2, Nat.lt_of_le_of_lt (show _ ≤ 20 by rw [List.length_map, List.length_map, List.length_range]; omega) (by decide), nx _ _ ⟨⟨_, rfl⟩, fun b u e => ?_, ?_⟩⟩
      · rw [upd_ne (ne_of_none e g1)]; exact k2 _ _ e
      · rw [List.range_succ, List.map_append, List.map_append]; exact upd_same
    · rintro σ H4' ⟨_, S34, e4'⟩
      refine ⟨z, k, l1, _, rfl, k0, k1, e4', by rw [List.length_map, List.length_range]; omega, fun s hs => ?_, fun R ds H5 S5 gR eR bl => ?_⟩
      · obtain ⟨j, hj, rfl⟩ := List.mem_map.mp hs
        have := List.mem_range.mp hj
        refine ⟨by omega, Nat.lt_of_le_of_lt (show _ ≤ 20 by omega) (by decide +kernel)⟩
      · have S35 := S34.trans S5
        have eL5 := S35 _ _ eL
        have eO5 := S35 _ _ e3
        have S05 := S03.trans S35
        have gO0 : H O = none := by
          cases e : H O with
          | none => rfl
          | some u => rw [S02 _ _ e] at gO; cases gO
        have gL0 : H L = none := by
          cases e : H L with
          | none => rfl
          | some u => rw [S1 _ _ e] at gL; cases gL
        have LO : L ≠ O := fun z => by rw [z] at e2; rw [e2] at gO; cases gO
        have RL : R ≠ L := fun z => by rw [z, S34 _ _ eL] at gR; cases gR
        have RO : R ≠ O := fun z => by rw [z, S34 _ _ e3] at gR; cases gR
        have dl : ds.length = n := by rw [bl.1, List.length_map, List.length_range]
        refine ⟨R, rfl, ⟨_, SqL.of eR⟩, ?_⟩
        refine for_list (K := K) (a := R) (xs := ds.map V.int) (fun i σ H' => (∃ v5, σ = [some (.int z), some (.int k), some (.int n), some (.ref L), some (.ref O), v5]) ∧ Same H H' ∧ H' R = some (.lst (ds.map V.int)) ∧ ∃ os ls : List Nat, H' O = some (.lst (pls os)) ∧ H' L = some (.lst (pls ls)) ∧ os.length = i ∧ (os ++ ls).Perm (List.range n)) ⟨⟨_, rfl⟩, S05, eR, [], List.range n, eO5, eL5, rfl, .refl _⟩ (fun i σ H' _ p => SqL.of p.2.2.1) ?_ ?_
        · rintro i x σ H6 hi ⟨⟨v5, rfl⟩, S6, hR, os, ls, hO, hL, ol, pm⟩
          rw [List.getElem?_map] at hi
          obtain ⟨d, hd, rfl⟩ := Option.map_eq_some_iff.mp hi
          have il := (List.getElem?_eq_some_iff.mp hd).1
          have pl := pm.length_eq
          rw [List.length_append, List.length_range] at pl
          obtain ⟨d0, d1⟩ := bl.2 i d ((n : Int) - (i : Int)) hd (by rw [List.getElem?_map, List.getElem?_range (by omega)]; rfl)
          obtain ⟨d, rfl⟩ := Int.eq_ofNat_of_zero_le d0
          have dls : d < ls.length := by omega
          have ey : ls[d]? = some ls[d] := List.getElem?_eq_getElem dls
          generalize ls[d] = y at ey
          refine ⟨_, rfl, .inl ⟨rfl, _, SqL.of hO⟩, _, rfl, .inl ⟨rfl, _, SqL.of hL⟩, _, rfl, L, pls ls, d, d, .int y, rfl, rfl, hL, by omega, by omega, ?_, by unfold pls; rw [List.getElem?_map, ey]; rfl, ?_⟩
          · unfold seqIndex?
            have : (pls ls).length = ls.length := by unfold pls; rw [List.length_map]
            rw [this]
            simp
            omega
          · have hO' : upd H6 L (.lst ((pls ls).eraseIdx d)) O = some (.lst (pls os)) := by rw [upd_ne (Ne.symm LO)]; exact hO
            refine ⟨O, pls os, _, rfl, rfl, hO', Nat.lt_of_le_of_lt (show _ ≤ 20 by unfold pls; rw [List.length_map]; omega) (by decide), ⟨_, rfl⟩, fun b u e => ?_, ?_, os ++ [y], ls.eraseIdx d, ?_, ?_, by rw [List.length_append, ol]; rfl, ?_⟩
            · rw [upd_ne (ne_of_none e gO0), upd_ne (ne_of_none e gL0)]; exact S6 _ _ e
            · rw [upd_ne RO, upd_ne RL]; exact hR
            · rw [show pls (os ++ [y]) = pls os ++ [V.int (y : Int)] by unfold pls; rw [List.map_append]; rfl]; exact upd_same
            · rw [upd_ne LO, show pls (ls.eraseIdx d) = (pls ls).eraseIdx d from (er_map _ _ _).symm]; exact upd_same
            · rw [List.append_assoc]
              exact (List.Perm.append_left os (er_perm ey)).trans pm
        · rintro σ H6 ⟨⟨v5, rfl⟩, S6, hR, os, ls, hO, hL, ol, pm⟩
          rw [List.length_map, dl] at ol
          have pl := pm.length_eq
          rw [List.length_append, List.length_range] at pl
          have : ls = [] := List.length_eq_zero_iff.mp (by omega)
          rw [this, List.append_nil] at pm
          exact ⟨_, rfl, q O os H6 S6 gO0 hO pm⟩
end
end G1
namespace L2
open PySem PySem.Spec PyProof.Rows PyProof
theorem dict_declines_list (l b : Addr) (es : Array DictEntry) (ep : Nat) (items2 : Array Value) (n2 : Nat) (dd2 : Option Addr) (sl sl2 : Array (Option Value)) (d0 : Option Addr) (dat : Data) :
    Meets (Builtin.«dict.__eq__» ⟨[.ref l, .ref b], []⟩) (fun _ R s => s.heap.get? l = some { cls := .type "dict", dict := d0, data := dat, slots := sl } ∧ s.heap.get? b = some { cls := .type "list", dict := dd2, data := .seq items2 n2, slots := sl2 } ∧ R (.ok (.ret .notImplemented)) s) :=
  .of_wp fun prog w A R s h => by obtain ⟨hp, g, d, tk, os⟩ := s; obtain ⟨hl, hb, h⟩ := h; have f1 := F.sub_list_dict; wp_walk using wpAny_loadPart' hl, wpAny_loadPart' hb; exact ⟨_, rfl, h⟩
theorem list_declines_dict (l b : Addr) (items : Array Value) (n : Nat) (dd dd2 : Option Addr) (sl sl2 : Array (Option Value)) (dat : Data) :
    Meets (Builtin.«list.__eq__» ⟨[.ref l, .ref b], []⟩) (fun _ R s => s.heap.get? l = some { cls := .type "list", dict := dd, data := .seq items n, slots := sl } ∧ s.heap.get? b = some { cls := .type "dict", dict := dd2, data := dat, slots := sl2 } ∧ R (.ok (.ret .notImplemented)) s) :=
  .of_wp fun prog w A R s h => by obtain ⟨hp, g, d, tk, os⟩ := s; obtain ⟨hl, hb, h⟩ := h; have f1 := F.sub_dict_list; wp_walk using wpAny_loadPart' hl, wpAny_loadPart' hb; exact ⟨_, rfl, h⟩
theorem rc_dict_list {A : Around} {s : Shared} {l b : Addr} {o : Obj} {items2 : Array Value} (ho : s.heap.get? l = some o) (hc : o.cls = .type "dict") (hb : s.heap.IsList b items2) (hu : A.units < cLine) : SeqAt.RcAt A s (.ref l) (.ref b) false := fun prog w E Q h => by
  obtain ⟨cls, dd, data, sl⟩ := o
  obtain ⟨⟨cls2, dd2, data2, sl2⟩, ho2, hc2, n2, hd2⟩ := id hb
  simp only at hc hc2 hd2
  subst hc hc2 hd2
  have hne : l ≠ b := fun z => by
    rw [z, ho2] at ho
    have := congrArg Obj.cls (Option.some.inj ho)
    exact absurd this (by simp)
  exact (SeqAt.rc_eq_decline_or (k := false) ⟨_, ho, rfl⟩ ⟨_, ho2, rfl⟩ (by decide) F.sub_list_dict F.slot_dict_eq F.slot_list_eq_refl
    (fun _ hq => call_meets F.slot_dict_eq ⟨_, ho, rfl⟩ F.entry_dict_eq (F.args_dict_eq_2 _ _) (dict_declines_list l b #[] 0 items2 n2 dd2 sl sl2 dd data) ⟨ho, ho2, hq⟩)
    (fun _ hq => call_meets F.slot_list_eq_refl ⟨_, ho2, rfl⟩ F.entry_list_eq (F.args_list_eq_2 _ _) (list_declines_dict b l items2 n2 dd2 dd sl2 sl data) ⟨ho2, ho, hq⟩)
    (fun _ hq => wpAny_isSame_ref_other hne ho ho2 (by simp) hq) (.inr hu) h)
def EqI (K : PySem.W.Frag) (H : Hp) (x y : V) (b : Bool) : Prop := (flatV x = true ∧ flatV y = true ∧ b = eqV x y) ∨ ∃ a zs i, x = .ref a ∧ SqL K H a zs ∧ y = .int i ∧ b = false
inductive EqM (K : PySem.W.Frag) (H : Hp) : V → V → Bool → Prop where
  | flat {x : V} {c : Addr} {ys : List V} (f : flatV x = true) (hc : SqL K H c ys) : EqM K H x (.ref c) false
  | tup {a c : Addr} {xs ys : List V} (ha : SqT K H a xs) (hc : SqL K H c ys) : EqM K H (.ref a) (.ref c) false
  | dct {a c : Addr} {kvs : List (Key × V)} {ys : List V} (ha : H a = some (.dK kvs)) (hc : SqL K H c ys) : EqM K H (.ref a) (.ref c) false
  | lst {a c : Addr} {b : Bool} (h : TopR K H (EqI K H) (.ref a) (.ref c) b) : EqM K H (.ref a) (.ref c) b
def rEqM (K : PySem.W.Frag) : R2 := fun x y H Q => ∃ b, EqM K H x y b ∧ Q (.bl b) H
theorem op_eqM {X : Cx} (hu : X.A.units + 60 < cLine) : OpR X (compareOp .Eq) (rEqM X.K) := by
  intro pins s σ H x y v u Q I rx ry h
  obtain ⟨b, h, q⟩ := h
  have hu' : X.A.units < cLine := by omega
  have fin : SeqAt.RcAt X.A s v u b := by
    cases h with
    | flat f hc =>
      cases ry
      obtain ⟨its, r, p, _⟩ := I.list hc
      cases x with
      | non => cases rx; exact SeqAt.RcAt.none_list p.isList hu'
      | bl c => cases rx; exact SeqAt.RcAt.bool_list c p.isList hu'
      | int i => obtain ⟨t, rfl⟩ := rx; exact SeqAt.RcAt.int_list i t p.isList hu'
      | str z => obtain ⟨t, rfl⟩ := rx; exact SeqAt.RcAt.str_list z t p.isList hu'
      | _ => cases f
    | tup ha hc =>
      cases rx
      cases ry
      obtain ⟨its, r1, p1, _⟩ := I.tuple ha
      obtain ⟨its2, r2, p2, _⟩ := I.list hc
      exact SeqAt.RcAt.tuple_list (show s.heap.IsTuple _ its.toArray from p1) p2.isList hu'
    | dct ha hc =>
      cases rx
      cases ry
      obtain ⟨_, _, vs, _, o, es, ep, ho, ex, _⟩ := I.hok _ _ ha
      obtain ⟨its2, r2, p2, _⟩ := I.list hc
      exact rc_dict_list ho ex.1 p2.isList hu'
    | lst h =>
      refine top_at I hu' (fun x y b u v h rx ry => ?_) h rx ry
      rcases h with ⟨f1, f2, rfl⟩ | ⟨a, zs, i, rfl, ha, rfl, rfl⟩
      · exact eqAt_V rx ry f1 f2
      · cases rx
        obtain ⟨t, rfl⟩ := ry
        obtain ⟨its, r, p, _⟩ := I.list ha
        exact SeqAt.EqAt.list_int i t p.isList (by show X.A.units + 1 < cLine; omega)
  exact fin _ _ _ _ ⟨.bl _, H, I, rfl, q⟩
end L2
namespace L2
open PySem
theorem call_isiK {X : Cx} (K : PySem.W.Frag) (h : X.K = K) : CallR X (.builtin "isinstance") (rIsi K) := h ▸ call_isi
theorem ix_listK {X : Cx} (K : PySem.W.Frag) (h : X.K = K) : IxR X (rIxL K) := h ▸ ix_list
end L2
namespace G1
open PySem L2 GM
theorem cut_to (xs : List V) (k : Nat) : cutV xs none (some (k : Int)) = xs.take k := by
  unfold cutV
  rw [HT.sIx_nat, HT.sIx_none, List.drop_zero, Nat.sub_zero]
  by_cases h : k ≤ xs.length
  · rw [Nat.min_eq_left h]
  · rw [Nat.min_eq_right (by omega), List.take_of_length_le (by omega), List.take_of_length_le (by omega)]
theorem cut_from (xs : List V) (k : Nat) : cutV xs (some (k : Int)) none = xs.drop k := by
  unfold cutV
  rw [HT.sIx_nat, HT.sIx_none, List.take_of_length_le (by rw [List.length_drop]; omega)]
  by_cases h : k ≤ xs.length
  · rw [Nat.min_eq_left h]
  · rw [Nat.min_eq_right (by omega), List.drop_of_length_le (by omega), List.drop_of_length_le (by omega)]
theorem flat_th {H : Hp} {v : V} (f : flatV v = true) : Th H v := by
  cases v with
  | non => exact .non
  | bl b => exact .bl b
  | int i => exact .int i
  | str z => exact .str z
  | _ => cases f
structure NT (H : Hp) (os : List Nat) (n : Nat) (v : V) : Prop where
  th : Th H v
  els : ∀ a xs, v = .ref a → H a = some (.lst xs) → xs.length ≤ 4000 ∧ ∀ y ∈ xs, Th H y ∧ (flatV y = true ∨ ∃ b zs, y = .ref b ∧ H b = some (.lst zs))
  alt : BadO H v n ∨ ∃ a, v = .ref a ∧ H a = some (.lst (pls os))
theorem NT.same {H H' : Hp} {os : List Nat} {n : Nat} {v : V} (h : NT H os n v) (s : Same H H') : NT H' os n v := by
  refine ⟨h.th.kp (Kp.same s), fun a xs e e' => ?_, ?_⟩
  · have e2 := back h.th (Kp.same s) e e'
    obtain ⟨l, z⟩ := h.els a xs e e2
    refine ⟨l, fun y hy => ⟨(z y hy).1.kp (Kp.same s), ?_⟩⟩
    rcases (z y hy).2 with f | ⟨b, zs, f1, f2⟩
    · exact .inl f
    · exact .inr ⟨b, zs, f1, s _ _ f2⟩
  · rcases h.alt with b | ⟨a, e, ha⟩
    · exact .inl (BadO_kp b (Kp.same s))
    · exact .inr ⟨a, e, s _ _ ha⟩
theorem nt_flat {H : Hp} {os : List Nat} {n : Nat} {v : V} (f : flatV v = true) : NT H os n v := by
  refine ⟨flat_th f, fun a xs e => ?_, .inl ⟨flat_th f, .inl ?_⟩⟩
  · rw [e] at f; cases f
  · cases v with
    | ref a => cases f
    | ty z => cases f
    | _ => simp [tyN]
theorem nt_tup {H : Hp} {os : List Nat} {n : Nat} {a : Addr} {xs : List V} (ha : H a = some (.tup xs)) : NT H os n (.ref a) :=
  ⟨.tup ha, fun b ys e e' => (by cases e; rw [ha] at e'; cases e'), .inl ⟨.tup ha, .inl (by rw [tyN_tup ha]; decide)⟩⟩
theorem nt_dct {H : Hp} {os : List Nat} {n : Nat} {a : Addr} {kvs : List (Key × V)} (ha : H a = some (.dK kvs)) : NT H os n (.ref a) :=
  ⟨.dK ha, fun b ys e e' => (by cases e; rw [ha] at e'; cases e'), .inl ⟨.dK ha, .inl (by rw [tyN_dK ha]; decide)⟩⟩
theorem nt_lst {H : Hp} {os : List Nat} {n : Nat} {a : Addr} {xs : List V} (ha : H a = some (.lst xs)) (l : xs.length ≤ 4000) (el : ∀ y ∈ xs, flatV y = true ∨ ∃ b zs, y = .ref b ∧ H b = some (.lst zs))
    (bad : xs.length ≠ n ∨ (∃ y ∈ xs, inB y 0 ((n : Int) - 1) = false) ∨ (∃ ns : List Int, xs = ns.map V.int ∧ ¬ ns.Nodup) ∨ xs = pls os) : NT H os n (.ref a) := by
  have th : ∀ y ∈ xs, Th H y := fun y hy => by
    rcases el y hy with f | ⟨b, zs, rfl, h⟩
    · exact flat_th f
    · exact .lst h
  refine ⟨.lst ha, fun b ys e e' => ?_, ?_⟩
  · cases e
    rw [ha] at e'; cases e'
    exact ⟨l, fun y hy => ⟨th y hy, el y hy⟩⟩
  · rcases bad with h | h | h | h
    · exact .inl ⟨.lst ha, .inr ⟨a, xs, rfl, ha, l, th, .inl h⟩⟩
    · exact .inl ⟨.lst ha, .inr ⟨a, xs, rfl, ha, l, th, .inr (.inl h)⟩⟩
    · exact .inl ⟨.lst ha, .inr ⟨a, xs, rfl, ha, l, th, .inr (.inr h)⟩⟩
    · exact .inr ⟨a, rfl, h ▸ ha⟩
theorem pls_flat {os : List Nat} : ∀ y ∈ pls os, flatV y = true := fun y hy => by
  obtain ⟨z, _, rfl⟩ := List.mem_map.mp hy
  rfl
theorem last_first {os : List Nat} {n o : Nat} (nd : os.Nodup) (l : os.length = n) (n0 : 1 ≤ n) (e : os[n - 1]? = some o) :
    (∃ ns : List Int, ([V.int (o : Int)] ++ (pls os).drop 1) = ns.map V.int ∧ ¬ ns.Nodup) ∨ ([V.int (o : Int)] ++ (pls os).drop 1) = pls os := by
  match os, l with
  | [], l => simp at l; omega
  | [x], l =>
    right
    have : n = 1 := by simpa using l.symm
    subst this
    cases (Option.some.inj e)
    rfl
  | x :: y :: r, l =>
    left
    refine ⟨(o : Int) :: (y :: r).map fun (z : Nat) => (z : Int), by unfold pls; simp, fun h => ?_⟩
    refine (List.nodup_cons.mp h).1 (List.mem_map.mpr ⟨o, ?_, rfl⟩)
    have l' : n = r.length + 2 := by simp at l; omega
    subst l'
    exact List.mem_of_getElem? (i := r.length) e
theorem nt_eq {K : PySem.W.Frag} {H : Hp} {os : List Nat} {n : Nat} {v : V} {O : Addr} (h : NT H os n v) (hO : H O = some (.lst (pls os))) : ∃ b, EqM K H v (.ref O) b ∧ ((∃ a, v = .ref a ∧ H a = some (.lst (pls os))) → b = true) := by
  have sq : SqL K H O (pls os) := SqL.of hO
  cases h.th with
  | non => exact ⟨_, .flat rfl sq, fun ⟨a, e, _⟩ => nomatch e⟩
  | bl b => exact ⟨_, .flat rfl sq, fun ⟨a, e, _⟩ => nomatch e⟩
  | int b => exact ⟨_, .flat rfl sq, fun ⟨a, e, _⟩ => nomatch e⟩
  | str b => exact ⟨_, .flat rfl sq, fun ⟨a, e, _⟩ => nomatch e⟩
  | tup ha => exact ⟨_, .tup (SqT.of ha) sq, fun ⟨a, e, e2⟩ => by cases e; rw [ha] at e2; cases e2⟩
  | dK ha => exact ⟨_, .dct ha sq, fun ⟨a, e, e2⟩ => by cases e; rw [ha] at e2; cases e2⟩
  | @lst a xs ha =>
    obtain ⟨_, el⟩ := h.els a xs rfl ha
    by_cases l : xs.length = (pls os).length
    · let e : Nat → Bool := fun j => match xs[j]?, (pls os)[j]? with
        | some x, some y => if flatV x = true then eqV x y else false
        | _, _ => false
      refine ⟨_, .lst (.lsts e (SqL.of ha) sq l fun j x y hx hy => ?_), fun ⟨b, eb, hb⟩ => ?_⟩
      · have ee : e j = if flatV x = true then eqV x y else false := by show (match xs[j]?, (pls os)[j]? with | some x, some y => if flatV x = true then eqV x y else false | _, _ => false) = _; rw [hx, hy]
        rw [ee]
        have fy := pls_flat y (List.mem_of_getElem? hy)
        rcases (el x (List.mem_of_getElem? hx)).2 with f | ⟨b, zs, rfl, hb⟩
        · rw [if_pos f]; exact .inl ⟨f, fy, rfl⟩
        · obtain ⟨z, _, rfl⟩ := List.mem_map.mp (List.mem_of_getElem? hy)
          exact .inr ⟨b, zs, _, rfl, SqL.of hb, rfl, rfl⟩
      · cases eb
        rw [ha] at hb; cases hb
        rw [List.all_eq_true]
        intro j hj
        have jl : j < (pls os).length := List.mem_range.mp hj
        have hx : (pls os)[j]? = some (pls os)[j] := List.getElem?_eq_getElem jl
        show (match (pls os)[j]?, (pls os)[j]? with | some x, some y => if flatV x = true then eqV x y else false | _, _ => false) = true
        rw [hx]
        obtain ⟨z, _, ez⟩ := List.mem_map.mp (List.mem_of_getElem? hx)
        rw [← ez]
        show (if true = true then eqV (V.int z) (V.int z) else false) = true
        simp [eqV]
    · exact ⟨_, .lst (.lens (SqL.of ha) sq l), fun ⟨b, eb, hb⟩ => by cases eb; rw [ha] at hb; cases hb; exact absurd rfl l⟩
def rem (H : Hp) (S : Addr) : Hp := fun b => if b = S then none else H b
theorem rem_ne {H : Hp} {S a : Addr} (h : a ≠ S) : rem H S a = H a := if_neg h
theorem rem_same {H : Hp} {S : Addr} : Same (rem H S) H := fun b u e => by
  unfold rem at e
  split at e
  · cases e
  · exact e
theorem rem_upd {H : Hp} {S : Addr} {o : HO} : Same (rem H S) (rem (upd H S o) S) := fun b u e => by
  by_cases h : b = S
  · rw [h] at e; unfold rem at e; rw [if_pos rfl] at e; cases e
  · rw [rem_ne h] at e ⊢; rw [upd_ne h]; exact e
theorem rem_mono {H H' : Hp} {S : Addr} (s : Same H H') : Same (rem H S) (rem H' S) := fun b u e => by
  by_cases h : b = S
  · rw [h] at e; unfold rem at e; rw [if_pos rfl] at e; cases e
  · rw [rem_ne h] at e ⊢; exact s _ _ e
theorem rem_new {H H' : Hp} {S : Addr} (g : H S = none) (s : Same H H') : Same H (rem H' S) := fun b u e => by
  rw [rem_ne (ne_of_none e g)]; exact s _ _ e
section
variable {P : Program} {w : World} {K : PySem.W.Frag} {mg : Str → Option Value} {base : Heap} {c : List Addr}
def spNoOrder : Sp := fun vs H Q _ => ∃ (O : Addr) (os : List Nat) (z k : Int) (n : Nat), vs = [.ref O, .int z, .int k] ∧ 0 ≤ k ∧ k ≤ 1000 ∧ 1 ≤ n ∧ n ≤ 20 ∧ H O = some (.lst (pls os)) ∧ os.Perm (List.range n) ∧ ∀ o H', Same H H' → BadO H' o n → Q o H'
theorem scNo : FnScope ["_law_order_here", "_law_cell_here", "_law_k", "_law_some", "_law_thing"] ["_law_order_here", "_law_cell_here", "_law_k"] (defScope sNoOrder) := ⟨rfl, rfl, rfl, by decide +kernel, rfl, by decide +kernel, by decide +kernel⟩
theorem ok_noOrder {f fD : Addr} {fd fdD : FuncData} (F : FunG K "_law_no_order" "_law_no_order" sNoOrder .none f fd) (B : Bl mg)
    (GD : FnOk P w K mg base (CXE P w) 1 fD fdD ["_law_cell_here", "_law_k", "_law_sizes"] spDraws) (mD : mg "_law_draws" = some (.ref fD)) (kD : PySem.W.keepIn K (.ref fD) = true) (bD : Binds K fdD ["_law_cell_here", "_law_k", "_law_sizes"] []) : FnOk P w K mg base (CXE P w) 2 f fd ["_law_order_here", "_law_cell_here", "_law_k"] spNoOrder := by
  refine F.zokN scNo (fun vs H Q E h => ?_) (fun cdv A outer s H vs Q E hr h => ?_)
  · obtain ⟨O, os, z, k, n, rfl, _⟩ := h
    rfl
  · obtain ⟨O, os, z, k, n, rfl, k0, k1, n0, n1, hO, pm, q⟩ := h
    refine ⟨_, (zpss_cons (zps_set (i := 3) scNo.nd rfl (Or.inl rfl) (zpe_lst (zpac_c zpe_non (zpac_c zpe_int (zpac_c zpe_bl (zpac_f (zpe_callTy call_tuple_of (by rfl) B.tuple boot_tuple (zpac_n (zpv 0) zpa_nil)) (zpac_b (zpe_op op_cat (zpv 0) (zpe_lst (zpac_f (zpe_callB call_len_seq (by rfl) B.len PySem.boot_len (zpac_n (zpv 0) zpa_nil)) zpa_nil))) (zpac_s (zpe_slice sl_list (zpv 0) (zpo_some zpe_int) zpo_none) (zpac_b (zpe_op op_cat (zpe_lst (zpac_f (zpe_callB call_len_seq (by rfl) B.len PySem.boot_len (zpac_n (zpv 0) zpa_nil)) zpa_nil)) (zpe_slice sl_list (zpv 0) (zpo_some zpe_int) zpo_none)) zpa_nil)))))))))
      (zpss_cons (zps_expr (zpe_bm PySem.F.plainAttrs_list PySem.F.slot_list_append PySem.F.type_list_append mt_append (zpv 3) (zpac_b (zpe_op op_cat (zpe_lst (zpac_s (zpe_ix ix_list (zpv 0) (zpe_un un_neg zpe_int) (fun _ _ => rfl)) zpa_nil)) (zpe_slice sl_list (zpv 0) (zpo_some zpe_int) zpo_none)) zpa_nil)))
      (zpss_cons (zps_cut (zps_if (zpt_cmpR op_gt (zpe_callB call_len_seq (by rfl) B.len PySem.boot_len (zpac_n (zpv 0) zpa_nil)) zpe_int (nomark _)) (zpss_one (zps_expr (zpe_bm PySem.F.plainAttrs_list PySem.F.slot_list_append PySem.F.type_list_append mt_append (zpv 3) (zpac_b (zpe_op op_cat (zpe_lst (zpac_c zpe_bl zpa_nil)) (zpe_compL ["_law_order_here", "_law_cell_here", "_law_k", "_law_some", "_law_thing"] ["_law_place"] [] (defScope sNoOrder) rfl rfl rfl ⟨by decide +kernel, by decide +kernel, by decide +kernel, by decide +kernel, by decide +kernel⟩ (zpi_list (zpv 0)) (fun s H fp => (zpg_name (i := 0) (show List.Nodup [("_law_place" : Str)] by decide +kernel) rfl (Or.inl rfl))) (fun s H fp => (zpts_one (zpt_cmpR op_ne (zpv 0) zpe_int (nomark _)))) (fun s H fp => (zpv 0)))) zpa_nil)))) (zpss_one (zps_expr (zpe_bm PySem.F.plainAttrs_list PySem.F.slot_list_append PySem.F.type_list_append mt_append (zpv 3) (zpac_l (zpe_lst (zpac_c zpe_bl zpa_nil)) zpa_nil))))))
      (zpss_cons (zps_set (i := 3) scNo.nd rfl (Or.inl rfl) (zpe_op op_cat (zpv 3) (zpe_lst (zpac_b (zpe_op op_cat (zpe_lst (zpac_u (zpe_un un_neg zpe_int) zpa_nil)) (zpe_slice sl_list (zpv 0) (zpo_some zpe_int) zpo_none)) (zpac_b (zpe_op op_cat (zpe_lst (zpac_c zpe_non zpa_nil)) (zpe_slice sl_list (zpv 0) (zpo_some zpe_int) zpo_none)) (zpac_b (zpe_op op_cat (zpe_lst (zpac_c zpe_str zpa_nil)) (zpe_slice sl_list (zpv 0) (zpo_some zpe_int) zpo_none)) (zpac_d zpe_dict0 (zpac_c zpe_str (zpac_b (zpe_op op_cat (zpe_slice sl_list (zpv 0) zpo_none (zpo_some (zpe_un un_neg zpe_int))) (zpe_lst (zpac_l (zpe_lst (zpac_c zpe_int zpa_nil)) zpa_nil))) zpa_nil)))))))))
      (zpss_cons (zps_set (i := 4) scNo.nd rfl (Or.inl rfl) (zpe_ix ix_list (zpv 3) (zpe_op op_mod (zpe_ix ix_list (zpe_call GD hr (by rfl) mD kD bD .nil passE0 (zpac_n (zpv 1) (zpac_n (zpv 2) (zpac_l (zpe_lst (zpac_c zpe_int zpa_nil)) zpa_nil)))) zpe_int (fun _ _ => rfl)) (zpe_callB call_len_seq (by rfl) B.len PySem.boot_len (zpac_n (zpv 3) zpa_nil))) (fun _ _ => rfl)))
      (zpss_cons (zps_if (SPW.pt (zpw_and (zpt_cmpR (op_eqM hr.units60) (zpv 4) (zpv 0) (nomark _)) (zpw_and (zpt_val (zpe_callB call_isi (by rfl) B.isi boot_isi (zpac_n (zpv 4) (zpac_n (zpe_bltn (by rfl) B.list boot_list (v := .ty "list") rfl) zpa_nil)))) (zpw_and1 (zpt_cmpR (op_eqL hr.units0) (zpe_compL ["_law_order_here", "_law_cell_here", "_law_k", "_law_some", "_law_thing"] ["_law_one"] [] (defScope sNoOrder) rfl rfl rfl ⟨by decide +kernel, by decide +kernel, by decide +kernel, by decide +kernel, by decide +kernel⟩ (zpi_list (zpv 4)) (fun s H fp => (zpg_name (i := 0) (show List.Nodup [("_law_one" : Str)] by decide +kernel) rfl (Or.inl rfl))) (fun s H fp => (zpts_one (zpt_val (zpe_callB (call_isiK K rfl) (by rfl) B.isi boot_isi (zpac_n (zpv 0) (zpac_n (zpe_bltn (by rfl) B.bool boot_bool (v := .ty "bool") rfl) zpa_nil)))))) (fun s H fp => (zpv 0))) (zpe_lst zpa_nil) (nomark _)))))) (zpss_one (zps_ret zpe_non)) zpss_nil)
      (zpss_one (zps_ret (zpv 4))))))))), ?_⟩
    have nd := pm.nodup_iff.mpr List.nodup_range
    have ol : os.length = n := by rw [pm.length_eq, List.length_range]
    have pl : (pls os).length = n := by unfold pls; rw [List.length_map, ol]
    have sz : ∀ {m : Nat}, m ≤ 100 → m ≤ sizeLine := fun h => Nat.le_trans h (by decide)
    have cf : cutV (pls os) (some 1) none = (pls os).drop 1 := cut_from (pls os) 1
    have dl : ((pls os).drop 1).length = n - 1 := by rw [List.length_drop, pl]
    have df : ∀ y ∈ (pls os).drop 1, flatV y = true := fun y hy => pls_flat y (List.mem_of_mem_drop hy)
    refine ⟨_, rfl, O, _, rfl, .inl ⟨SqL.of hO, ?_⟩⟩
    (intro a1 g1; generalize hEq : upd _ a1 _ = H1; refine newC hEq g1 ?_; clear hEq; intro S1 e1 o1)
    refine ⟨_, rfl, _, rfl, O, _, rfl, .inl (SqL.of (S1 _ _ hO)), sz (show 1 ≤ 100 by decide), ?_⟩
    (intro a2 g2; generalize hEq : upd _ a2 _ = H2; refine newC hEq g2 ?_; clear hEq; intro S2 e2 o2)
    have S02 := S1.trans S2
    refine ⟨O, a2, _, _, rfl, rfl, S02 _ _ hO, e2, sz (show _ + 1 ≤ 100 by omega), ?_⟩
    (intro a3 g3; generalize hEq : upd _ a3 _ = H3; refine newC hEq g3 ?_; clear hEq; intro S3 e3 o3)
    have S03 := S02.trans S3
    refine ⟨_, rfl, _, rfl, O, _, rfl, SqL.of (S03 _ _ hO), ?_⟩
    (intro a4 g4; generalize hEq : upd _ a4 _ = H4; refine newC hEq g4 ?_; clear hEq; intro S4 e4 o4)
    have S04 := S03.trans S4
    rw [cf] at e4
    refine ⟨_, rfl, O, _, rfl, .inl (SqL.of (S04 _ _ hO)), sz (show 1 ≤ 100 by decide), ?_⟩
    (intro a5 g5; generalize hEq : upd _ a5 _ = H5; refine newC hEq g5 ?_; clear hEq; intro S5 e5 o5)
    have S05 := S04.trans S5
    refine ⟨_, rfl, _, rfl, O, _, rfl, SqL.of (S05 _ _ hO), ?_⟩
    (intro a6 g6; generalize hEq : upd _ a6 _ = H6; refine newC hEq g6 ?_; clear hEq; intro S6 e6 o6)
    rw [cf] at e6
    have S06 := S05.trans S6
    refine ⟨a5, a6, _, _, rfl, rfl, S6 _ _ e5, e6, sz (show 1 + _ ≤ 100 by omega), ?_⟩
    (intro a7 g7; generalize hEq : upd _ a7 _ = H7; refine newC hEq g7 ?_; clear hEq; intro S7 e7 o7)
    have S07 := S06.trans S7
    refine ⟨sz (show 7 ≤ 100 by decide), ?_⟩
    (intro S gS; generalize hEq : upd _ S _ = H8; refine newC hEq gS ?_; clear hEq; intro S8 e8 o8)
    have S08 := S07.trans S8
    have S17 : Same H1 H7 := ((((S2.trans S3).trans S4).trans S5).trans S6).trans S7
    have S37 : Same H3 H7 := ((S4.trans S5).trans S6).trans S7
    have S47 : Same H4 H7 := (S5.trans S6).trans S7
    have oob : inB (.int ((pls os).length : Int)) 0 ((n : Int) - 1) = false := by
      show (decide ((0 : Int) ≤ ((pls os).length : Int)) && decide (((pls os).length : Int) ≤ (n : Int) - 1)) = false
      rw [pl, decide_eq_false (show ¬ (n : Int) ≤ (n : Int) - 1 by omega), Bool.and_false]
    have i7 : ∀ y ∈ [V.non, V.int 5, V.bl true, V.ref a1, V.ref a3, V.ref a4, V.ref a7], NT (rem H8 S) os n y := by
      intro y hy
      refine NT.same ?_ (rem_new gS S8)
      simp only [List.mem_cons, List.not_mem_nil, or_false] at hy
      rcases hy with rfl | rfl | rfl | rfl | rfl | rfl | rfl
      · exact nt_flat rfl
      · exact nt_flat rfl
      · exact nt_flat rfl
      · exact nt_tup (S17 _ _ e1)
      · refine nt_lst (S37 _ _ e3) (by rw [List.length_append, pl]; show n + 1 ≤ 4000; omega) (fun y hy => .inl ?_) (.inl (by rw [List.length_append, pl]; show n + 1 ≠ n; omega))
        rcases List.mem_append.mp hy with h | h
        · exact pls_flat y h
        · rw [List.mem_singleton.mp h]; rfl
      · exact nt_lst (S47 _ _ e4) (by omega) (fun y hy => .inl (df y hy)) (.inl (by omega))
      · refine nt_lst e7 (by rw [List.length_append, dl]; show 1 + (n - 1) ≤ 4000; omega) (fun y hy => .inl ?_) (.inr (.inl ⟨_, List.mem_append_left _ (List.mem_cons_self ..), oob⟩))
        rcases List.mem_append.mp hy with h | h
        · rw [List.mem_singleton.mp h]; rfl
        · exact df y h
    clear S17 S37 S47 e1 e2 e3 e4 e5 e6 e7 o1 o2 o3 o4 o5 o6 o7 S1 S2 S3 S4 S5 S6 S7 S02 S03 S04 S05 S06
    have gS0 : H S = none := by
      cases e : H S with
      | none => rfl
      | some u => rw [S07 _ _ e] at gS; cases gS
    obtain ⟨lo, hlo⟩ : ∃ lo, os[n - 1]? = some lo := ⟨_, List.getElem?_eq_getElem (show n - 1 < os.length by omega)⟩
    have alo : atI (pls os) (-1) = some (V.int (lo : Int)) := by
      have e : pls os = (pls os).take (n - 1) ++ [V.int (lo : Int)] := by
        have h1 : (pls os)[n - 1]? = some (V.int (lo : Int)) := by unfold pls; rw [List.getElem?_map, hlo]; rfl
        have h2 := List.take_add_one (l := pls os) (i := n - 1)
        rw [h1, show n - 1 + 1 = (pls os).length by omega, List.take_length] at h2
        exact h2
      rw [e]; exact atI_last _ _
    refine ⟨_, rfl, .inl ⟨rfl, _, SqL.of e8⟩, _, rfl, _, rfl, O, _, _, _, rfl, rfl, SqL.of (S08 _ _ hO), alo, sz (show 1 ≤ 100 by decide), ?_⟩
    (intro b1 gb1; generalize hEq : upd _ b1 _ = H9; refine newC hEq gb1 ?_; clear hEq; intro S9 f1 p1)
    refine ⟨_, rfl, _, rfl, O, _, rfl, SqL.of (S9 _ _ (S08 _ _ hO)), ?_⟩
    (intro b2 gb2; generalize hEq : upd _ b2 _ = H10; refine newC hEq gb2 ?_; clear hEq; intro S10 f2 p2)
    rw [cf] at f2
    refine ⟨b1, b2, _, _, rfl, rfl, S10 _ _ f1, f2, sz (show 1 + _ ≤ 100 by omega), ?_⟩
    (intro b3 gb3; generalize hEq : upd _ b3 _ = H11; refine newC hEq gb3 ?_; clear hEq; intro S11 f3 p3)
    have S811 := (S9.trans S10).trans S11
    refine ⟨S, _, _, rfl, rfl, S811 _ _ e8, Nat.lt_of_lt_of_le (show 7 < 100 by decide) (sz (Nat.le_refl _)), ?_⟩
    have bS : b3 ≠ S := fun z => by rw [z, S10 _ _ (S9 _ _ e8)] at gb3; cases gb3
    have hSA : upd H11 S (.lst ([V.non, V.int 5, V.bl true, V.ref a1, V.ref a3, V.ref a4, V.ref a7] ++ [V.ref b3])) S = some (.lst ([V.non, V.int 5, V.bl true, V.ref a1, V.ref a3, V.ref a4, V.ref a7] ++ [V.ref b3])) := upd_same
    have S0A : Same H (upd H11 S (.lst ([V.non, V.int 5, V.bl true, V.ref a1, V.ref a3, V.ref a4, V.ref a7] ++ [V.ref b3]))) := fun b u e => by rw [upd_ne (ne_of_none e gS0)]; exact S811 _ _ (S08 _ _ e)
    have i8 : ∀ y ∈ [V.non, V.int 5, V.bl true, V.ref a1, V.ref a3, V.ref a4, V.ref a7] ++ [V.ref b3], NT (rem (upd H11 S (.lst ([V.non, V.int 5, V.bl true, V.ref a1, V.ref a3, V.ref a4, V.ref a7] ++ [V.ref b3]))) S) os n y := fun y hy => by
      rcases List.mem_append.mp hy with h | h
      · exact (i7 y h).same ((rem_mono S811).trans rem_upd)
      · rw [List.mem_singleton.mp h]
        refine nt_lst (xs := [V.int (lo : Int)] ++ (pls os).drop 1) (by rw [rem_ne bS, upd_ne bS]; exact f3) (by rw [List.length_append, dl]; show 1 + (n - 1) ≤ 4000; omega) (fun y hy => .inl ?_) (.inr (.inr (last_first nd ol n0 hlo)))
        rcases List.mem_append.mp hy with h | h
        · rw [List.mem_singleton.mp h]; rfl
        · exact df y h
    generalize upd H11 S (.lst ([V.non, V.int 5, V.bl true, V.ref a1, V.ref a3, V.ref a4, V.ref a7] ++ [V.ref b3])) = HA at hSA S0A i8 ⊢
    generalize hI : [V.non, V.int 5, V.bl true, V.ref a1, V.ref a3, V.ref a4, V.ref a7] ++ [V.ref b3] = I8 at hSA i8
    have l8 : I8.length = 8 := by rw [← hI]; rfl
    clear hI i7 e8 S9 S10 S11 S811 f1 f2 f3 p1 p2 p3 o8 S8
    have put : ∀ (HC : Hp) (v : V), Same HA HC → NT (rem HC S) os n v → Same H (upd HC S (.lst (I8 ++ [v]))) ∧ ∃ I9, upd HC S (.lst (I8 ++ [v])) S = some (.lst I9) ∧ I9.length = 9 ∧ ∀ y ∈ I9, NT (rem (upd HC S (.lst (I8 ++ [v]))) S) os n y := fun HC v sm nt => by
      refine ⟨fun b u e => by rw [upd_ne (ne_of_none e gS0)]; exact sm _ _ (S0A _ _ e), _, upd_same, by rw [List.length_append, l8]; rfl, fun y hy => ?_⟩
      rcases List.mem_append.mp hy with h | h
      · exact (i8 y h).same ((rem_mono sm).trans rem_upd)
      · rw [List.mem_singleton.mp h]; exact nt.same rem_upd
    have l8s : I8.length < sizeLine := by rw [l8]; exact Nat.lt_of_lt_of_le (show 8 < 100 by decide) (sz (Nat.le_refl _))
    refine ⟨fun σ H' => σ = [some (.ref O), some (.int z), some (.int k), some (.ref S), none] ∧ Same H H' ∧ ∃ I9, H' S = some (.lst I9) ∧ I9.length = 9 ∧ ∀ y ∈ I9, NT (rem H' S) os n y, ?_, ?_⟩
    · refine ⟨_, rfl, O, _, rfl, .inl (SqL.of (S0A _ _ hO)), _, _, rfl, rfl, _, rfl, ?_⟩
      refine ite2 (fun _ => ?_) (fun _ => ?_)
      · refine ⟨_, rfl, .inl ⟨rfl, _, SqL.of hSA⟩, sz (show 1 ≤ 100 by decide), ?_⟩
        (intro c1 gc1; generalize hEq : upd _ c1 _ = H9; refine newC hEq gc1 ?_; clear hEq; intro S9 f1 p1)
        refine ⟨_, rfl, O, rfl, ⟨_, SqL.of (S9 _ _ (S0A _ _ hO))⟩, ?_⟩
        (intro c2 gc2; generalize hEq : upd _ c2 _ = H10; refine newC hEq gc2 ?_; clear hEq; intro S10 f2 p2)
        have hS10 := S10 _ _ (S9 _ _ hSA)
        refine lr_list (K := K) (S := O) (xs := pls os) (fun i σ H' => (∃ v, σ = [v]) ∧ Same H9 H' ∧ ∃ us, H' c2 = some (.lst us) ∧ us.length ≤ i ∧ ∀ y ∈ us, flatV y = true) ⟨⟨_, rfl⟩, S10, [], f2, Nat.le_refl _, fun y h => nomatch h⟩ (fun i σ H' p => SqL.of (p.2.1 _ _ (S9 _ _ (S0A _ _ hO)))) ?_ ?_
        · rintro i x σ H' Cn hi ⟨⟨v, rfl⟩, k2, us, hu, ul, uf⟩ nx
          have il := (List.getElem?_eq_some_iff.mp hi).1
          have xf := pls_flat x (List.mem_of_getElem? hi)
          have stay : ∀ σ' H', (∃ v, σ' = [v]) → Same H9 H' → (∃ us, H' c2 = some (.lst us) ∧ us.length ≤ i + 1 ∧ ∀ y ∈ us, flatV y = true) → Cn σ' H' := fun σ' H' a b c => nx σ' H' ⟨a, b, c⟩
          obtain ⟨z, _, rfl⟩ := List.mem_map.mp (List.mem_of_getElem? hi)
          refine ⟨_, rfl, rfl, _, rfl, ?_⟩
          refine ite2 (fun _ => ?_) (fun _ => stay _ _ ⟨_, rfl⟩ k2 ⟨us, hu, by omega, uf⟩)
          refine ⟨_, rfl, us, hu, Nat.lt_of_lt_of_le (show us.length < 100 by omega) (sz (Nat.le_refl _)), stay _ _ ⟨_, rfl⟩ (fun b u e => ?_) ⟨us ++ [.int z], upd_same, by rw [List.length_append]; show us.length + 1 ≤ i + 1; omega, fun y hy => ?_⟩⟩
          · rw [upd_ne (ne_of_none e gc2)]; exact k2 _ _ e
          · rcases List.mem_append.mp hy with h | h
            · exact uf y h
            · rw [List.mem_singleton.mp h]; rfl
        · rintro σ H11 ⟨_, k2, us, hu, ul, uf⟩
          refine ⟨c1, c2, _, _, rfl, rfl, k2 _ _ f1, hu, sz (show 1 + _ ≤ 100 by omega), ?_⟩
          (intro c3 gc3; generalize hEq : upd _ c3 _ = H12; refine newC hEq gc3 ?_; clear hEq; intro S12 f3 p3)
          have S912 := (S9.trans k2).trans S12
          have cS : c3 ≠ S := fun z => by rw [z, k2 _ _ (S9 _ _ hSA)] at gc3; cases gc3
          obtain ⟨q1, q2⟩ := put H12 (.ref c3) S912 (by
            refine nt_lst (xs := [V.bl true] ++ us) (by rw [rem_ne cS]; exact f3) (by rw [List.length_append]; show 1 + _ ≤ 4000; omega) (fun y hy => .inl ?_) (.inr (.inl ⟨.bl true, List.mem_append_left _ (List.mem_cons_self ..), rfl⟩))
            rcases List.mem_append.mp hy with h | h
            · rw [List.mem_singleton.mp h]; rfl
            · exact uf y h)
          exact ⟨S, _, _, rfl, rfl, S912 _ _ hSA, l8s, rfl, q1, q2⟩
      · refine ⟨_, rfl, .inl ⟨rfl, _, SqL.of hSA⟩, sz (show 1 ≤ 100 by decide), ?_⟩
        (intro c1 gc1; generalize hEq : upd _ c1 _ = H9; refine newC hEq gc1 ?_; clear hEq; intro S9 f1 p1)
        have cS : c1 ≠ S := fun z => by rw [z, hSA] at gc1; cases gc1
        obtain ⟨q1, q2⟩ := put H9 (.ref c1) S9 (by
          refine nt_lst (xs := [V.bl false]) (by rw [rem_ne cS]; exact f1) (by decide) (fun y hy => .inl ?_) (.inr (.inl ⟨.bl false, List.mem_cons_self .., rfl⟩))
          rw [List.mem_singleton.mp hy]; rfl)
        exact ⟨S, _, _, rfl, rfl, S9 _ _ hSA, l8s, rfl, q1, q2⟩
    · rintro σ HB ⟨rfl, S0B, I9, hSB, l9, i9⟩
      have j9 : ∀ y ∈ I9, NT HB os n y := fun y hy => (i9 y hy).same rem_same
      have hOB := S0B _ _ hO
      have one : 1 ≤ sizeLine := sz (show 1 ≤ 100 by decide)
      have cat : ∀ {H' : Hp} {a : Addr} {x : V}, H' a = some (.lst ([x] ++ (pls os).drop 1)) → flatV x = true → inB x 0 ((n : Int) - 1) = false → NT H' os n (.ref a) := fun {H' a x} h f b => by
        refine nt_lst h (by rw [List.length_append, dl]; show 1 + (n - 1) ≤ 4000; omega) (fun y hy => .inl ?_) (.inr (.inl ⟨x, List.mem_append_left _ (List.mem_cons_self ..), b⟩))
        rcases List.mem_append.mp hy with h | h
        · rw [List.mem_singleton.mp h]; exact f
        · exact df y h
      refine ⟨_, rfl, _, rfl, one, ?_⟩
      (intro d1 gd1; generalize hEq : upd _ d1 _ = H1; refine newC hEq gd1 ?_; clear hEq; intro S1 e1 o1)
      refine ⟨_, rfl, _, rfl, O, _, rfl, SqL.of (S1 _ _ hOB), ?_⟩
      (intro d2 gd2; generalize hEq : upd _ d2 _ = H2; refine newC hEq gd2 ?_; clear hEq; intro S2 e2 o2)
      rw [cf] at e2
      refine ⟨d1, d2, _, _, rfl, rfl, S2 _ _ e1, e2, sz (show 1 + _ ≤ 100 by omega), ?_⟩
      (intro d3 gd3; generalize hEq : upd _ d3 _ = H3; refine newC hEq gd3 ?_; clear hEq; intro S3 e3 o3)
      have S03 := (S1.trans S2).trans S3
      refine ⟨one, ?_⟩
      (intro d4 gd4; generalize hEq : upd _ d4 _ = H4; refine newC hEq gd4 ?_; clear hEq; intro S4 e4 o4)
      refine ⟨_, rfl, _, rfl, O, _, rfl, SqL.of (S4 _ _ (S03 _ _ hOB)), ?_⟩
      (intro d5 gd5; generalize hEq : upd _ d5 _ = H5; refine newC hEq gd5 ?_; clear hEq; intro S5 e5 o5)
      rw [cf] at e5
      refine ⟨d4, d5, _, _, rfl, rfl, S5 _ _ e4, e5, sz (show 1 + _ ≤ 100 by omega), ?_⟩
      (intro d6 gd6; generalize hEq : upd _ d6 _ = H6; refine newC hEq gd6 ?_; clear hEq; intro S6 e6 o6)
      have S36 := (S4.trans S5).trans S6
      have S06 := S03.trans S36
      refine ⟨one, ?_⟩
      (intro d7 gd7; generalize hEq : upd _ d7 _ = H7; refine newC hEq gd7 ?_; clear hEq; intro S7 e7 o7)
      refine ⟨_, rfl, _, rfl, O, _, rfl, SqL.of (S7 _ _ (S06 _ _ hOB)), ?_⟩
      (intro d8 gd8; generalize hEq : upd _ d8 _ = H8; refine newC hEq gd8 ?_; clear hEq; intro S8 e8 o8)
      rw [cf] at e8
      refine ⟨d7, d8, _, _, rfl, rfl, S8 _ _ e7, e8, sz (show 1 + _ ≤ 100 by omega), ?_⟩
      (intro d9 gd9; generalize hEq : upd _ d9 _ = H9; refine newC hEq gd9 ?_; clear hEq; intro S9 e9 o9)
      have S69 := (S7.trans S8).trans S9
      have S09 := S06.trans S69
      (intro D gD; generalize hEq : upd _ D _ = H10; refine newC hEq gD ?_; clear hEq; intro S10 e10 o10)
      have S010 := S09.trans S10
      refine ⟨_, rfl, _, rfl, _, rfl, O, _, rfl, SqL.of (S010 _ _ hOB), ?_⟩
      (intro h1 gh1; generalize hEq : upd _ h1 _ = H11; refine newC hEq gh1 ?_; clear hEq; intro S11 e11 o11)
      refine ⟨one, ?_⟩
      (intro h2 gh2; generalize hEq : upd _ h2 _ = H12; refine newC hEq gh2 ?_; clear hEq; intro S12 e12 o12)
      refine ⟨one, ?_⟩
      (intro h3 gh3; generalize hEq : upd _ h3 _ = H13; refine newC hEq gh3 ?_; clear hEq; intro S13 e13 o13)
      refine ⟨h1, h3, _, _, rfl, rfl, S13 _ _ (S12 _ _ e11), e13, sz (show _ + 1 ≤ 100 by have := cutV_length (pls os) none (some (-1)); omega), ?_⟩
      (intro h4 gh4; generalize hEq : upd _ h4 _ = H14; refine newC hEq gh4 ?_; clear hEq; intro S14 e14 o14)
      have S1014 := ((S11.trans S12).trans S13).trans S14
      have S014 := S010.trans S1014
      refine ⟨sz (show 6 ≤ 100 by decide), ?_⟩
      (intro l6 gl6; generalize hEq : upd _ l6 _ = H15; refine newC hEq gl6 ?_; clear hEq; intro S15 e15 o15)
      have k3 : NT H15 os n (.ref d3) := (cat e3 rfl (show (decide ((0 : Int) ≤ -1) && decide ((-1 : Int) ≤ (n : Int) - 1)) = false from rfl)).same ((((S36.trans S69).trans S10).trans S1014).trans S15)
      have k6 : NT H15 os n (.ref d6) := (cat e6 rfl rfl).same (((S69.trans S10).trans S1014).trans S15)
      have k9 : NT H15 os n (.ref d9) := (cat e9 rfl rfl).same ((S10.trans S1014).trans S15)
      have kD : NT H15 os n (.ref D) := (nt_dct e10).same (S1014.trans S15)
      have kh : NT H15 os n (.ref h4) := by
        have hl := cutV_length (pls os) none (some (-1))
        refine NT.same (H := H14) (nt_lst e14 (by rw [List.length_append]; show _ + 1 ≤ 4000; omega) (fun y hy => ?_) (.inr (.inl ⟨.ref h2, List.mem_append_right _ (List.mem_cons_self ..), rfl⟩))) S15
        rcases List.mem_append.mp hy with h | h
        · exact .inl (pls_flat y (List.mem_of_mem_drop (List.mem_of_mem_take h)))
        · rw [List.mem_singleton.mp h]; exact .inr ⟨h2, _, rfl, S14 _ _ (S13 _ _ e12)⟩
      have S015 := S014.trans S15
      clear S15 S1014 S014 e14 e12 e13 e11 e10 e9 e8 e7 e6 e5 e4 e3 e2 e1 S14 S13 S12 S11 S10 S9 S8 S7 S6 S5 S4 S3 S2 S1 S03 S06 S36 S69 S09 S010 o1 o2 o3 o4 o5 o6 o7 o8 o9 o10 o11 o12 o13 o14 o15 put
      refine ⟨S, l6, I9, _, rfl, rfl, S015 _ _ hSB, e15, sz (show _ + 6 ≤ 100 by omega), ?_⟩
      (intro T gT; generalize hEq : upd _ T _ = H16; refine newC hEq gT ?_; clear hEq; intro S16 e16 o16)
      have S016 := S015.trans S16
      have all_ : ∀ y ∈ I9 ++ [V.ref d3, V.ref d6, V.ref d9, V.ref D, V.str "0", V.ref h4], NT H16 os n y := fun y hy => by
        rcases List.mem_append.mp hy with h | h
        · exact (j9 y h).same S016
        · simp only [List.mem_cons, List.not_mem_nil, or_false] at h
          rcases h with rfl | rfl | rfl | rfl | rfl | rfl
          · exact k3.same S16
          · exact k6.same S16
          · exact k9.same S16
          · exact kD.same S16
          · exact nt_flat rfl
          · exact kh.same S16
      have l15 : (I9 ++ [V.ref d3, V.ref d6, V.ref d9, V.ref D, V.str "0", V.ref h4]).length = 15 := by rw [List.length_append, l9]; rfl
      generalize I9 ++ [V.ref d3, V.ref d6, V.ref d9, V.ref D, V.str "0", V.ref h4] = I15 at e16 all_ l15
      clear k3 k6 k9 kD kh j9 i9 hSB e15 S015 S16
      refine ⟨_, rfl, _, rfl, _, rfl, one, ?_⟩
      (intro R0 gR0; generalize hEq : upd _ R0 _ = H17; refine newC hEq gR0 ?_; clear hEq; intro S17 e17 o17)
      refine ⟨z, k, R0, [1009], rfl, k0, k1, e17, by decide, fun s hs => (by rw [List.mem_singleton.mp hs]; exact ⟨by decide, by decide +kernel⟩), fun R ds H18 S18 gR eR bl => ?_⟩
      obtain ⟨d, hd, d0, d1⟩ := bl.at (i := 0) (s := 1009) rfl
      have S1618 := S17.trans S18
      have hT := S1618 _ _ e16
      have m0 : 0 ≤ d % (I15.length : Int) := Int.emod_nonneg _ (by omega)
      have m1 : d % (I15.length : Int) < (I15.length : Int) := Int.emod_lt_of_pos _ (by omega)
      obtain ⟨m, hm⟩ := Int.eq_ofNat_of_zero_le m0
      have ml : m < I15.length := by omega
      have ey : I15[m]? = some I15[m] := List.getElem?_eq_getElem ml
      have ny := (all_ _ (List.mem_of_getElem? ey)).same S1618
      generalize I15[m] = y at ey ny
      refine ⟨R, _, _, _, rfl, rfl, SqL.of eR, atInts hd rfl, _, rfl, T, _, rfl, .inl (SqL.of hT), _, _, rfl, rfl, (by show (0 : Int) < (I15.length : Int); omega), T, _, _, y, rfl, rfl, SqL.of hT, (show atI I15 (d % (I15.length : Int)) = _ by rw [hm]; exact atI_nat ey), ?_⟩
      have S018 := (S0B.trans S016).trans S1618
      obtain ⟨b, em, eb⟩ := nt_eq (K := K) ny (S018 _ _ hO)
      have done : ∀ H', Same H18 H' → BadO H18 y n → Q y H' := fun H' s bd => q y H' (S018.trans s) (BadO_kp bd (Kp.same s))
      have noneQ : ∀ H', Same H18 H' → Q .non H' := fun H' s => q _ _ (S018.trans s) ⟨.non, .inl (by simp [tyN])⟩
      refine ⟨_, rfl, _, rfl, b, em, _, rfl, ?_⟩
      cases b with
      | false => exact iteF ⟨_, rfl, done _ (Same.refl _) (ny.alt.resolve_right fun r => by have := eb r; cases this)⟩
      | true =>
        refine iteT ⟨_, rfl, _, _, _, _, rfl, ny.th.tyQ, .inl ⟨_, rfl, kit_lst ny.th⟩, _, rfl, ?_⟩
        by_cases ht : tyN H18 y = "list"
        · rw [decide_eq_true ht]
          obtain ⟨a, xs, rfl, ha⟩ := ny.th.isLst ht
          obtain ⟨xl, el⟩ := ny.els a xs rfl ha
          refine iteT ⟨_, rfl, a, rfl, ⟨_, SqL.of ha⟩, ?_⟩
          (intro c gc; generalize hEq : upd _ c _ = H19; refine newC hEq gc ?_; clear hEq; intro S19 e19 o19)
          refine lr_list (K := K) (S := a) (xs := xs) (fun i σ H' => (∃ v, σ = [v]) ∧ Same H18 H' ∧ ∃ us, H' c = some (.lst us) ∧ us.length ≤ i ∧ (∀ y ∈ us, flatV y = true) ∧ (xs = pls os → us = [])) ⟨⟨_, rfl⟩, S19, [], e19, Nat.le_refl _, (fun y h => nomatch h), fun _ => rfl⟩ (fun i σ H' p => SqL.of (p.2.1 _ _ ha)) ?_ ?_
          · rintro i x σ H' Cn hi ⟨⟨v, rfl⟩, k2, us, hu, ul, uf, ue⟩ nx
            have il := (List.getElem?_eq_some_iff.mp hi).1
            obtain ⟨thx, fx⟩ := el x (List.mem_of_getElem? hi)
            have thx' := thx.kp (Kp.same k2)
            refine ⟨_, rfl, _, _, _, _, rfl, thx'.tyQ, .inl ⟨_, rfl, kit_bool thx'⟩, _, rfl, ?_⟩
            cases hb : isB x with
            | false => exact iteF (nx _ _ ⟨⟨_, rfl⟩, k2, us, hu, by omega, uf, ue⟩)
            | true =>
              refine iteT ⟨_, rfl, us, hu, Nat.lt_of_le_of_lt (show us.length ≤ 4000 by omega) (by decide), nx _ _ ⟨⟨_, rfl⟩, fun b u e => ?_, us ++ [x], upd_same, by rw [List.length_append]; show us.length + 1 ≤ i + 1; omega, fun y hy => ?_, fun e => ?_⟩⟩
              · rw [upd_ne (ne_of_none e gc)]; exact k2 _ _ e
              · rcases List.mem_append.mp hy with h | h
                · exact uf y h
                · rw [List.mem_singleton.mp h]
                  cases x with
                  | bl b => rfl
                  | _ => cases hb
              · rw [e] at hi
                obtain ⟨z, _, rfl⟩ := List.mem_map.mp (List.mem_of_getElem? hi)
                cases hb
          · rintro σ H20 ⟨_, k2, us, hu, ul, uf, ue⟩
            refine ⟨Nat.zero_le _, ?_⟩
            (intro c0 gc0; generalize hEq : upd _ c0 _ = H21; refine newC hEq gc0 ?_; clear hEq; intro S21 e21 o21)
            have S1821 := k2.trans S21
            refine ⟨c, c0, us, [], rfl, rfl, SqL.of (S21 _ _ hu), SqL.of e21, List.all_eq_true.mpr uf, rfl, _, rfl, ?_⟩
            refine ite2 (fun _ => noneQ _ S1821) (fun e => ⟨_, rfl, done _ S1821 (ny.alt.resolve_right fun r => ?_)⟩)
            obtain ⟨a2, e2, h2⟩ := r
            cases e2
            rw [ha] at h2; cases h2
            exact e (by rw [ue rfl]; rfl)
        · rw [decide_eq_false ht]
          exact iteF ⟨_, rfl, done _ (Same.refl _) (ny.alt.resolve_right fun ⟨a, e, h⟩ => ht (by rw [e]; exact tyN_lst h))⟩
end
end G1
namespace G1
open PySem L2 GM
def GW1 (H : Hp) (r i : Nat) (y : V) : Prop := ∃ a c, y = .ref a ∧ H a = some (.tup [.str (nmV i r), .int c]) ∧ 0 ≤ c ∧ c ≤ wM
theorem okW_wv {H : Hp} {r i : Nat} {y : V} (h : GW1 H r i y) : okW H y = true ∧ nmS H y = nmV i r := by
  obtain ⟨a, c, rfl, h, c0, c1⟩ := h
  constructor
  · unfold okW
    rw [pairOf_tup h]
    show (nameB (.str (nmV i r)) && (decide (0 ≤ c) && decide (c ≤ wM))) = true
    rw [nmV_name, decide_eq_true c0, decide_eq_true c1]; rfl
  · unfold nmS
    rw [pairOf_tup h]
theorem ThE_pair {H : Hp} {a : Addr} {s : Str} {v : V} (h : H a = some (.tup [.str s, v])) (l : s.length ≤ sizeLine) (f : flatV v = true) (nf : ∀ x, v ≠ .str x) : ThE H (.ref a) :=
  ⟨.tup h, fun b ys e e' z hz => by
    cases e
    rw [h] at e'; cases e'
    rcases List.mem_cons.mp hz with rfl | hz
    · exact ⟨.str _, fun x ex => by cases ex; exact l⟩
    · rw [List.mem_singleton.mp hz]; exact ⟨flat_th f, fun x ex => absurd ex (nf x)⟩⟩
theorem nm_line (i r : Nat) : (nmV i r).length ≤ sizeLine := Nat.le_trans (nmV_len i r).1 (by decide)
theorem GW1.the {H : Hp} {r i : Nat} {y : V} (h : GW1 H r i y) : ThE H y := by
  obtain ⟨a, c, rfl, h, _⟩ := h
  exact ThE_pair h (nm_line i r) rfl nofun
theorem good_pre {H : Hp} {ys : List V} {r m : Nat} (hm : m ≤ ys.length) (m26 : m ≤ 26) (g : ∀ i y, i < m → ys[i]? = some y → GW1 H r i y) : ∀ j, j ≤ m → bA H ys 0 = bA H ys j := by
  intro j
  induction j with
  | zero => intro _; rfl
  | succ j ih =>
    intro hj
    rw [ih (by omega)]
    have e : ys[j]? = some ys[j] := List.getElem?_eq_getElem (by omega)
    obtain ⟨o1, o2⟩ := okW_wv (g j _ (by omega) e)
    suffices nm : nmS H ys[j] ∉ nms H ys j by rw [bA_step e, if_pos ⟨o1, nm⟩]
    rw [o2]
    intro mem
    unfold nms at mem
    obtain ⟨y, hy, ey⟩ := List.mem_map.mp mem
    obtain ⟨k, hk⟩ := List.getElem?_of_mem hy
    have kl := (List.getElem?_eq_some_iff.mp hk).1
    rw [List.length_take] at kl
    rw [List.getElem?_take_of_lt (by omega)] at hk
    rw [(okW_wv (g k y (by omega) hk)).2] at ey
    have := nmV_inj (by omega) (by omega) ey
    omega
theorem GW1.same {H H' : Hp} {r i : Nat} {y : V} (h : GW1 H r i y) (s : Same H H') : GW1 H' r i y := by
  obtain ⟨a, c, e, h, z⟩ := h
  exact ⟨a, c, e, s _ _ h, z⟩
theorem Wv.gw {H : Hp} {L : Addr} {n r : Nat} {cs : List Int} (h : Wv H L n r cs) : ∃ xs, H L = some (.lst xs) ∧ xs.length = n ∧ ∀ i y, xs[i]? = some y → GW1 H r i y := by
  obtain ⟨xs, h1, h2, _, h3⟩ := h.ex
  refine ⟨xs, h1, h2, fun i y e => ?_⟩
  obtain ⟨a, c, e1, _, e2, c0, c1⟩ := h3 i y e
  exact ⟨a, c, e1, e2, c0, c1⟩
theorem Wv.out {H : Hp} {L : Addr} {n r : Nat} {cs : List Int} (h : Wv H L n r cs) (n0 : 1 ≤ n) (n1 : n ≤ 20) : outW H (.ref L) = none := by
  obtain ⟨xs, h1, h2, g⟩ := h.gw
  rw [outW_lst h1, if_pos (by omega), good_pre (m := xs.length) (Nat.le_refl _) (by omega) (fun i y _ e => g i y e) _ (Nat.le_refl _), bA_end]; rfl
theorem thw_lst {H : Hp} {L : Addr} {xs : List V} (h : H L = some (.lst xs)) (el : ∀ y ∈ xs, ThE H y) : ThW H (.ref L) :=
  ⟨.lst h, fun a ys e e' y hy => by cases e; rw [h] at e'; cases e'; exact el y hy⟩
theorem Wv.thw {H : Hp} {L : Addr} {n r : Nat} {cs : List Int} (h : Wv H L n r cs) : ThW H (.ref L) := by
  obtain ⟨xs, h1, h2, g⟩ := h.gw
  refine thw_lst h1 fun y hy => ?_
  obtain ⟨i, hi⟩ := List.getElem?_of_mem hy
  exact (g i y hi).the
def NW (H : Hp) (x v : V) : Prop := ThW H x ∧ outW H x = some v
theorem NW.same {H H' : Hp} {x v : V} (h : NW H x v) (s : Same H H') : NW H' x v := by
  obtain ⟨a, b⟩ := h
  refine ⟨a.kp (Kp.same s), ?_⟩
  rw [← b]
  obtain ⟨th, els⟩ := a
  cases th with
  | @lst a xs e =>
    rw [outW_lst e, outW_lst (s _ _ e)]
    have all : ∀ (ys : List V) (sn : List Str) (k : Nat), (∀ y ∈ ys, Th H y) → badAt H' ys sn k = badAt H ys sn k := by
      intro ys
      induction ys with
      | nil => intro sn k _; rfl
      | cons y ys ih =>
        intro sn k h
        have hy := h y (List.mem_cons_self ..)
        unfold badAt
        rw [okW_kp hy (Kp.same s), nmS_kp hy (Kp.same s), ih _ _ fun z hz => h z (List.mem_cons_of_mem _ hz)]
    have : bA H' xs 0 = bA H xs 0 := all xs [] 0 fun y hy => (els _ xs rfl e y hy).th
    rw [this]
  | tup e => simp [outW, e, s _ _ e]
  | dK e => simp [outW, e, s _ _ e]
  | _ => rfl
theorem nw_first {H : Hp} {L : Addr} {x : V} {xs : List V} {n r : Nat} (h : H L = some (.lst ([x] ++ xs.drop 1))) (xl : xs.length = n) (n0 : 1 ≤ n) (n1 : n ≤ 20) (g : ∀ i y, xs[i]? = some y → GW1 H r i y) (tx : ThE H x) (bad : okW H x = false) : NW H (.ref L) (.int 0) := by
  have dl : ([x] ++ xs.drop 1).length = n := by rw [List.length_append, List.length_drop, xl]; show 1 + (n - 1) = n; omega
  refine ⟨thw_lst h fun y hy => ?_, ?_⟩
  · rcases List.mem_append.mp hy with z | z
    · rw [List.mem_singleton.mp z]; exact tx
    · obtain ⟨i, hi⟩ := List.getElem?_of_mem (List.mem_of_mem_drop z)
      exact (g i y hi).the
  · rw [outW_lst h, if_pos (by omega), bA_step (i := 0) (y := x) rfl, if_neg (fun z => by rw [bad] at z; cases z.1)]; rfl
def It (H : Hp) (y : V) : Prop := ∃ t x v, y = .ref t ∧ H t = some (.tup [x, v]) ∧ NW H x v
theorem It.same {H H' : Hp} {y : V} (h : It H y) (s : Same H H') : It H' y := by
  obtain ⟨t, x, v, e, h1, h2⟩ := h
  exact ⟨t, x, v, e, s _ _ h1, h2.same s⟩
section
variable {P : Program} {w : World} {K : PySem.W.Frag} {mg : Str → Option Value} {base : Heap} {c : List Addr}
def spNoWants : Sp := fun vs H Q _ => ∃ (L : Addr) (n r : Nat) (cs : List Int), vs = [.ref L] ∧ Wv H L n r cs ∧ 1 ≤ n ∧ n ≤ 20 ∧ ∀ S its H', Same H H' → H' S = some (.lst its) → its.length = 9 → (∀ y ∈ its, It H' y) → Q (.ref S) H'
theorem scNw : FnScope ["_law_wants_here", "_law_name", "_law_count", "_law_some"] ["_law_wants_here"] (defScope sNoWants) := ⟨rfl, rfl, rfl, by decide +kernel, rfl, by decide +kernel, by decide +kernel⟩
theorem ok_noWants {f : Addr} {fd : FuncData} (F : FunG K "_law_no_wants" "_law_no_wants" sNoWants .none f fd) (B : Bl mg) : FnOk P w K mg base (CXE P w) 1 f fd ["_law_wants_here"] spNoWants := by
  refine F.zokN scNw (fun vs H Q E h => ?_) (fun cdv A outer s H vs Q E hr h => ?_)
  · obtain ⟨L, n, r, cs, rfl, _⟩ := h
    rfl
  · obtain ⟨L, n, r, cs, rfl, wv, n0, n1, q⟩ := h
    refine ⟨_, (zpss_cons (zps_asg (zpe_ix ix_list (zpv 0) zpe_int (fun _ _ => rfl)) (zpg_tup rfl (zpgs_cons (zpg_name (i := 1) scNw.nd rfl (Or.inl rfl)) (zpgs_cons (zpg_name (i := 2) scNw.nd rfl (Or.inl rfl)) zpgs_nil))))
      (zpss_cons (zps_set (i := 3) scNw.nd rfl (Or.inl rfl) (zpe_lst (zpac_t (zpe_tup (zpac_c zpe_non (zpac_c zpe_non zpa_nil))) (zpac_t (zpe_tup (zpac_l (zpe_lst zpa_nil) (zpac_c zpe_non zpa_nil))) (zpac_t (zpe_tup (zpac_f (zpe_callTy call_tuple_of (by rfl) B.tuple boot_tuple (zpac_n (zpv 0) zpa_nil)) (zpac_c zpe_non zpa_nil))) (zpac_t (zpe_tup (zpac_b (zpe_op op_cat (zpv 0) (zpe_op op_rep (zpe_lst (zpac_t (zpe_tup (zpac_n (zpv 1) (zpac_c zpe_int zpa_nil))) zpa_nil)) (zpe_op op_sub zpe_int (zpe_callB call_len_seq (by rfl) B.len PySem.boot_len (zpac_n (zpv 0) zpa_nil))))) (zpac_c zpe_non zpa_nil))) zpa_nil))))))
      (zpss_cons (zps_set (i := 3) scNw.nd rfl (Or.inl rfl) (zpe_op op_cat (zpv 3) (zpe_lst (zpac_t (zpe_tup (zpac_b (zpe_op op_cat (zpe_lst (zpac_t (zpe_tup (zpac_n (zpv 1) (zpac_c zpe_bl zpa_nil))) zpa_nil)) (zpe_slice sl_list (zpv 0) (zpo_some zpe_int) zpo_none)) (zpac_c zpe_int zpa_nil))) (zpac_t (zpe_tup (zpac_b (zpe_op op_cat (zpe_lst (zpac_t (zpe_tup (zpac_n (zpv 1) (zpac_u (zpe_un un_neg zpe_int) zpa_nil))) zpa_nil)) (zpe_slice sl_list (zpv 0) (zpo_some zpe_int) zpo_none)) (zpac_c zpe_int zpa_nil))) (zpac_t (zpe_tup (zpac_b (zpe_op op_cat (zpe_lst (zpac_l (zpe_lst (zpac_n (zpv 1) (zpac_n (zpv 2) zpa_nil))) zpa_nil)) (zpe_slice sl_list (zpv 0) (zpo_some zpe_int) zpo_none)) (zpac_c zpe_int zpa_nil))) zpa_nil))))))
      (zpss_one (zps_ret (zpe_op op_cat (zpv 3) (zpe_lst (zpac_t (zpe_tup (zpac_b (zpe_op op_cat (zpe_slice sl_list (zpv 0) zpo_none (zpo_some zpe_int)) (zpe_lst (zpac_t (zpe_tup (zpac_n (zpv 1) (zpac_n (zpv 2) zpa_nil))) zpa_nil))) (zpac_f (zpe_callB (call_min2 rfl) (by rfl) B.min boot_min (zpac_c zpe_int (zpac_f (zpe_callB call_len_seq (by rfl) B.len PySem.boot_len (zpac_n (zpv 0) zpa_nil)) zpa_nil))) zpa_nil))) (zpac_t (zpe_tup (zpac_b (zpe_op op_cat (zpe_lst (zpac_t (zpe_tup (zpac_c zpe_str (zpac_c zpe_int zpa_nil))) zpa_nil)) (zpe_slice sl_list (zpv 0) (zpo_some zpe_int) zpo_none)) (zpac_c zpe_int zpa_nil))) zpa_nil))))))))), ?_⟩
    obtain ⟨xs, hL, xl, g⟩ := wv.gw
    have e0 : xs[0]? = some xs[0] := List.getElem?_eq_getElem (by omega)
    obtain ⟨a0, c0, ea0, ha0, c00, c01⟩ := g 0 _ e0
    rw [ea0] at e0
    have KS0 : Same H H := Same.refl _
    have sz : ∀ {m : Nat}, m ≤ 100 → m ≤ sizeLine := fun h => Nat.le_trans h (by decide)
    have s1 : 1 ≤ sizeLine := sz (show 1 ≤ 100 by decide)
    have s2 : 2 ≤ sizeLine := sz (show 2 ≤ 100 by decide)
    have cf : cutV xs (some 1) none = xs.drop 1 := cut_from xs 1
    have ct : cutV xs none (some 19) = xs.take 19 := cut_to xs 19
    have dl : (xs.drop 1).length = n - 1 := by rw [List.length_drop, xl]
    refine ⟨_, rfl, L, _, _, _, rfl, rfl, SqL.of hL, (show atI xs 0 = some (V.ref a0) from atI_nat (j := 0) e0), a0, _, rfl, SqT.of ha0, rfl, _, _, rfl, _, _, rfl, rfl, ?_⟩
    refine ⟨s2, ?_⟩
    (intro t1 gt1; generalize hEq : upd _ t1 _ = A1; refine newC hEq gt1 ?_; clear hEq; intro X1 et1 ot1)
    have it1 : It A1 (.ref t1) := ⟨t1, _, _, rfl, et1, (show NW H .non .non from ⟨⟨.non, fun a ys e => nomatch e⟩, rfl⟩).same X1⟩
    refine ⟨Nat.zero_le _, ?_⟩
    (intro b2 gb2; generalize hEq : upd _ b2 _ = A2; refine newC hEq gb2 ?_; clear hEq; intro X2 eb2 ob2)
    refine ⟨s2, ?_⟩
    (intro t2 gt2; generalize hEq : upd _ t2 _ = A3; refine newC hEq gt2 ?_; clear hEq; intro X3 et2 ot2)
    have it2 : It A3 (.ref t2) := ⟨t2, _, _, rfl, et2, (show NW A2 (.ref b2) .non from ⟨thw_lst eb2 (fun y h => nomatch h), by rw [outW_lst eb2, if_neg (by decide)]⟩).same X3⟩
    have KS3 : Same H A3 := (((KS0.trans X1).trans X2).trans X3)
    refine ⟨_, rfl, L, _, rfl, .inl ⟨SqL.of (KS3 _ _ hL), ?_⟩⟩
    (intro b3 gb3; generalize hEq : upd _ b3 _ = A4; refine newC hEq gb3 ?_; clear hEq; intro X4 eb3 ob3)
    refine ⟨s2, ?_⟩
    (intro t3 gt3; generalize hEq : upd _ t3 _ = A5; refine newC hEq gt3 ?_; clear hEq; intro X5 et3 ot3)
    have it3 : It A5 (.ref t3) := ⟨t3, _, _, rfl, et3, (show NW A4 (.ref b3) .non from ⟨⟨.tup eb3, fun a ys e e' => by cases e; rw [eb3] at e'; cases e'⟩, by simp [outW, eb3]⟩).same X5⟩
    refine ⟨_, rfl, _, rfl, s2, ?_⟩
    (intro p4 gp4; generalize hEq : upd _ p4 _ = A6; refine newC hEq gp4 ?_; clear hEq; intro X6 ep4 op4)
    refine ⟨s1, ?_⟩
    (intro q4 gq4; generalize hEq : upd _ q4 _ = A7; refine newC hEq gq4 ?_; clear hEq; intro X7 eq4 oq4)
    have KS7 : Same H A7 := ((((KS3.trans X4).trans X5).trans X6).trans X7)
    refine ⟨_, rfl, L, _, rfl, .inl (SqL.of (KS7 _ _ hL)), _, _, rfl, rfl, q4, (21 : Int) - (xs.length : Int), [V.ref p4], rfl, rfl, eq4, by omega, by omega, sz (show 1 * ((21 : Int) - (xs.length : Int)).toNat ≤ 100 by omega), ?_⟩
    (intro m4 gm4; generalize hEq : upd _ m4 _ = A8; refine newC hEq gm4 ?_; clear hEq; intro X8 em4 om4)
    have lr4 : ((List.replicate ((21 : Int) - (xs.length : Int)).toNat [V.ref p4]).flatten).length = 21 - n := by rw [len_rep]; show ((21 : Int) - (xs.length : Int)).toNat * 1 = 21 - n; omega
    have KS8 : Same H A8 := (KS7.trans X8)
    refine ⟨L, m4, _, _, rfl, rfl, (KS8 _ _ hL), em4, sz (show _ + _ ≤ 100 by omega), ?_⟩
    (intro l4 gl4; generalize hEq : upd _ l4 _ = A9; refine newC hEq gl4 ?_; clear hEq; intro X9 el4 ol4)
    refine ⟨s2, ?_⟩
    have KS9 : Same H A9 := (KS8.trans X9)
    have ep4' := X9 _ _ (X8 _ _ (X7 _ _ ep4))
    have tp4 : ThE A9 (.ref p4) := ThE_pair ep4' (nm_line 0 r) rfl nofun
    (intro t4 gt4; generalize hEq : upd _ t4 _ = A10; refine newC hEq gt4 ?_; clear hEq; intro X10 et4 ot4)
    have it4 : It A10 (.ref t4) := ⟨t4, _, _, rfl, et4, (show NW A9 (.ref l4) .non from ⟨thw_lst el4 (fun y hy => (List.mem_append.mp hy).elim (fun z => by obtain ⟨i, hi⟩ := List.getElem?_of_mem z; exact (g i y hi).the.kp (Kp.same KS9)) (fun z => by obtain ⟨l, h1, h2⟩ := List.mem_flatten.mp z; rw [(List.mem_replicate.mp h1).2] at h2; rw [List.mem_singleton.mp h2]; exact tp4)), by rw [outW_lst el4, if_neg (by rw [List.length_append, lr4]; omega)]⟩).same X10⟩
    refine ⟨sz (show 4 ≤ 100 by decide), ?_⟩
    (intro S1 gS1; generalize hEq : upd _ S1 _ = A11; refine newC hEq gS1 ?_; clear hEq; intro X11 eS1 oS1)
    refine ⟨_, rfl, ?_⟩
    refine ⟨_, rfl, s2, ?_⟩
    (intro p5 gp5; generalize hEq : upd _ p5 _ = A12; refine newC hEq gp5 ?_; clear hEq; intro X12 ep5 op5)
    refine ⟨s1, ?_⟩
    (intro q5 gq5; generalize hEq : upd _ q5 _ = A13; refine newC hEq gq5 ?_; clear hEq; intro X13 eq5 oq5)
    have KS13 : Same H A13 := ((((KS9.trans X10).trans X11).trans X12).trans X13)
    refine ⟨_, rfl, _, rfl, L, _, rfl, SqL.of (KS13 _ _ hL), ?_⟩
    (intro c5 gc5; generalize hEq : upd _ c5 _ = A14; refine newC hEq gc5 ?_; clear hEq; intro X14 ec5 oc5)
    rw [cf] at ec5
    refine ⟨q5, c5, _, _, rfl, rfl, X14 _ _ eq5, ec5, sz (show 1 + _ ≤ 100 by omega), ?_⟩
    (intro l5 gl5; generalize hEq : upd _ l5 _ = A15; refine newC hEq gl5 ?_; clear hEq; intro X15 el5 ol5)
    have KS15 : Same H A15 := ((KS13.trans X14).trans X15)
    have ep5' := X15 _ _ (X14 _ _ (X13 _ _ ep5))
    refine ⟨s2, ?_⟩
    (intro t5 gt5; generalize hEq : upd _ t5 _ = A16; refine newC hEq gt5 ?_; clear hEq; intro X16 et5 ot5)
    have it5 : It A16 (.ref t5) := ⟨t5, _, _, rfl, et5, (nw_first (H := A15) el5 xl n0 n1 (fun i y e => (g i y e).same KS15) (ThE_pair ep5' (nm_line 0 r) rfl nofun) (by unfold okW; rw [pairOf_tup ep5']; exact Bool.and_false _)).same X16⟩
    refine ⟨_, rfl, _, rfl, s2, ?_⟩
    (intro p6 gp6; generalize hEq : upd _ p6 _ = A17; refine newC hEq gp6 ?_; clear hEq; intro X17 ep6 op6)
    refine ⟨s1, ?_⟩
    (intro q6 gq6; generalize hEq : upd _ q6 _ = A18; refine newC hEq gq6 ?_; clear hEq; intro X18 eq6 oq6)
    have KS18 : Same H A18 := (((KS15.trans X16).trans X17).trans X18)
    refine ⟨_, rfl, _, rfl, L, _, rfl, SqL.of (KS18 _ _ hL), ?_⟩
    (intro c6 gc6; generalize hEq : upd _ c6 _ = A19; refine newC hEq gc6 ?_; clear hEq; intro X19 ec6 oc6)
    rw [cf] at ec6
    refine ⟨q6, c6, _, _, rfl, rfl, X19 _ _ eq6, ec6, sz (show 1 + _ ≤ 100 by omega), ?_⟩
    (intro l6 gl6; generalize hEq : upd _ l6 _ = A20; refine newC hEq gl6 ?_; clear hEq; intro X20 el6 ol6)
    have KS20 : Same H A20 := ((KS18.trans X19).trans X20)
    have ep6' := X20 _ _ (X19 _ _ (X18 _ _ ep6))
    refine ⟨s2, ?_⟩
    (intro t6 gt6; generalize hEq : upd _ t6 _ = A21; refine newC hEq gt6 ?_; clear hEq; intro X21 et6 ot6)
    have it6 : It A21 (.ref t6) := ⟨t6, _, _, rfl, et6, (nw_first (H := A20) el6 xl n0 n1 (fun i y e => (g i y e).same KS20) (ThE_pair ep6' (nm_line 0 r) rfl nofun) (by unfold okW; rw [pairOf_tup ep6']; exact Bool.and_false _)).same X21⟩
    refine ⟨_, rfl, _, rfl, s2, ?_⟩
    (intro p7 gp7; generalize hEq : upd _ p7 _ = A22; refine newC hEq gp7 ?_; clear hEq; intro X22 ep7 op7)
    refine ⟨s1, ?_⟩
    (intro q7 gq7; generalize hEq : upd _ q7 _ = A23; refine newC hEq gq7 ?_; clear hEq; intro X23 eq7 oq7)
    have KS23 : Same H A23 := (((KS20.trans X21).trans X22).trans X23)
    refine ⟨_, rfl, _, rfl, L, _, rfl, SqL.of (KS23 _ _ hL), ?_⟩
    (intro c7 gc7; generalize hEq : upd _ c7 _ = A24; refine newC hEq gc7 ?_; clear hEq; intro X24 ec7 oc7)
    rw [cf] at ec7
    refine ⟨q7, c7, _, _, rfl, rfl, X24 _ _ eq7, ec7, sz (show 1 + _ ≤ 100 by omega), ?_⟩
    (intro l7 gl7; generalize hEq : upd _ l7 _ = A25; refine newC hEq gl7 ?_; clear hEq; intro X25 el7 ol7)
    have KS25 : Same H A25 := ((KS23.trans X24).trans X25)
    have ep7' := X25 _ _ (X24 _ _ (X23 _ _ ep7))
    refine ⟨s2, ?_⟩
    (intro t7 gt7; generalize hEq : upd _ t7 _ = A26; refine newC hEq gt7 ?_; clear hEq; intro X26 et7 ot7)
    have it7 : It A26 (.ref t7) := ⟨t7, _, _, rfl, et7, (nw_first (H := A25) el7 xl n0 n1 (fun i y e => (g i y e).same KS25) (⟨.lst ep7', fun a ys e e' => by cases e; rw [ep7'] at e'; cases e'⟩) (by simp [okW, pairOf, ep7'])).same X26⟩
    refine ⟨sz (show 3 ≤ 100 by decide), ?_⟩
    (intro S2a gS2a; generalize hEq : upd _ S2a _ = A27; refine newC hEq gS2a ?_; clear hEq; intro X27 eS2a oS2a)
    refine ⟨S1, S2a, _, _, rfl, rfl, X27 _ _ (X26 _ _ (X25 _ _ (X24 _ _ (X23 _ _ (X22 _ _ (X21 _ _ (X20 _ _ (X19 _ _ (X18 _ _ (X17 _ _ (X16 _ _ (X15 _ _ (X14 _ _ (X13 _ _ (X12 _ _ (eS1)))))))))))))))), eS2a, sz (show 4 + 3 ≤ 100 by decide), ?_⟩
    (intro S2 gS2; generalize hEq : upd _ S2 _ = A28; refine newC hEq gS2 ?_; clear hEq; intro X28 eS2 oS2)
    refine ⟨_, rfl, ?_⟩
    have KS28 : Same H A28 := (((KS25.trans X26).trans X27).trans X28)
    refine ⟨_, rfl, _, rfl, L, _, rfl, SqL.of (KS28 _ _ hL), ?_⟩
    (intro c8 gc8; generalize hEq : upd _ c8 _ = A29; refine newC hEq gc8 ?_; clear hEq; intro X29 ec8 oc8)
    rw [ct] at ec8
    refine ⟨_, rfl, _, rfl, s2, ?_⟩
    (intro p8 gp8; generalize hEq : upd _ p8 _ = A30; refine newC hEq gp8 ?_; clear hEq; intro X30 ep8 op8)
    refine ⟨s1, ?_⟩
    (intro q8 gq8; generalize hEq : upd _ q8 _ = A31; refine newC hEq gq8 ?_; clear hEq; intro X31 eq8 oq8)
    have t19 : (xs.take 19).length = min 19 n := by rw [List.length_take, xl]
    refine ⟨c8, q8, _, _, rfl, rfl, X31 _ _ (X30 _ _ (ec8)), eq8, sz (show _ + 1 ≤ 100 by omega), ?_⟩
    (intro l8 gl8; generalize hEq : upd _ l8 _ = A32; refine newC hEq gl8 ?_; clear hEq; intro X32 el8 ol8)
    have KS32 : Same H A32 := ((((KS28.trans X29).trans X30).trans X31).trans X32)
    have ep8' := X32 _ _ (X31 _ _ (ep8))
    have n8 : NW A32 (.ref l8) (.int (if (xs.length : Int) < 19 then (xs.length : Int) else 19)) := by
      have gp : GW1 A32 r 0 (.ref p8) := ⟨p8, c0, rfl, ep8', c00, c01⟩
      have yl : (xs.take 19 ++ [V.ref p8]).length = min 19 n + 1 := by rw [List.length_append, t19]; rfl
      have gy : ∀ i y, i < min 19 n → (xs.take 19 ++ [V.ref p8])[i]? = some y → GW1 A32 r i y := fun i y il e => by
        rw [List.getElem?_append_left (by omega), List.getElem?_take_of_lt (by omega)] at e
        exact (g i y e).same KS32
      refine ⟨thw_lst el8 fun y hy => ?_, ?_⟩
      · rcases List.mem_append.mp hy with z | z
        · obtain ⟨i, hi⟩ := List.getElem?_of_mem (List.mem_of_mem_take z)
          exact ((g i y hi).same KS32).the
        · rw [List.mem_singleton.mp z]; exact gp.the
      · have st : (xs.take 19 ++ [V.ref p8])[min 19 n]? = some (.ref p8) := by rw [List.getElem?_append_right (by omega), t19, Nat.sub_self]; rfl
        have z0 : (xs.take 19 ++ [V.ref p8])[0]? = some ((xs.take 19 ++ [V.ref p8])[0]'(by omega)) := List.getElem?_eq_getElem _
        have mem : nmS A32 (.ref p8) ∈ nms A32 (xs.take 19 ++ [V.ref p8]) (min 19 n) := by
          rw [(okW_wv gp).2]
          unfold nms
          refine List.mem_map.mpr ⟨_, List.mem_of_getElem? (i := 0) (by rw [List.getElem?_take_of_lt (by omega)]; exact z0), (okW_wv (gy 0 _ (by omega) z0)).2⟩
        rw [outW_lst el8, if_pos (by omega), good_pre (m := min 19 n) (by omega) (by omega) gy _ (Nat.le_refl _), bA_step st, if_neg (fun z => z.2 mem)]
        show some (V.int ((min 19 n : Nat) : Int)) = _
        rw [show ((min 19 n : Nat) : Int) = (if (xs.length : Int) < 19 then (xs.length : Int) else 19) by split <;> omega]
    refine ⟨_, rfl, L, _, rfl, .inl (SqL.of (KS32 _ _ hL)), _, _, rfl, s2, ?_⟩
    (intro t8 gt8; generalize hEq : upd _ t8 _ = A33; refine newC hEq gt8 ?_; clear hEq; intro X33 et8 ot8)
    have it8 : It A33 (.ref t8) := ⟨t8, _, _, rfl, et8, (n8).same X33⟩
    refine ⟨s2, ?_⟩
    (intro p9 gp9; generalize hEq : upd _ p9 _ = A34; refine newC hEq gp9 ?_; clear hEq; intro X34 ep9 op9)
    refine ⟨s1, ?_⟩
    (intro q9 gq9; generalize hEq : upd _ q9 _ = A35; refine newC hEq gq9 ?_; clear hEq; intro X35 eq9 oq9)
    have KS35 : Same H A35 := (((KS32.trans X33).trans X34).trans X35)
    refine ⟨_, rfl, _, rfl, L, _, rfl, SqL.of (KS35 _ _ hL), ?_⟩
    (intro c9 gc9; generalize hEq : upd _ c9 _ = A36; refine newC hEq gc9 ?_; clear hEq; intro X36 ec9 oc9)
    rw [cf] at ec9
    refine ⟨q9, c9, _, _, rfl, rfl, X36 _ _ eq9, ec9, sz (show 1 + _ ≤ 100 by omega), ?_⟩
    (intro l9 gl9; generalize hEq : upd _ l9 _ = A37; refine newC hEq gl9 ?_; clear hEq; intro X37 el9 ol9)
    have KS37 : Same H A37 := ((KS35.trans X36).trans X37)
    have ep9' := X37 _ _ (X36 _ _ (X35 _ _ (ep9)))
    refine ⟨s2, ?_⟩
    (intro t9 gt9; generalize hEq : upd _ t9 _ = A38; refine newC hEq gt9 ?_; clear hEq; intro X38 et9 ot9)
    have it9 : It A38 (.ref t9) := ⟨t9, _, _, rfl, et9, (nw_first (H := A37) el9 xl n0 n1 (fun i y e => (g i y e).same KS37) (ThE_pair ep9' (by decide) rfl nofun) (by unfold okW; rw [pairOf_tup ep9']; show (nameB (.str "A") && _) = false; rw [show nameB (.str "A") = false by decide +kernel]; rfl)).same X38⟩
    refine ⟨s2, ?_⟩
    (intro S3a gS3a; generalize hEq : upd _ S3a _ = A39; refine newC hEq gS3a ?_; clear hEq; intro X39 eS3a oS3a)
    refine ⟨S2, S3a, _, _, rfl, rfl, X39 _ _ (X38 _ _ (X37 _ _ (X36 _ _ (X35 _ _ (X34 _ _ (X33 _ _ (X32 _ _ (X31 _ _ (X30 _ _ (X29 _ _ (eS2))))))))))), eS3a, sz (show 7 + 2 ≤ 100 by decide), ?_⟩
    (intro S3 gS3; generalize hEq : upd _ S3 _ = A40; refine newC hEq gS3 ?_; clear hEq; intro X40 eS3 oS3)
    have KS40 : Same H A40 := (((KS37.trans X38).trans X39).trans X40)
    refine q S3 _ _ KS40 eS3 rfl fun y hy => ?_
    simp only [List.cons_append, List.nil_append, List.mem_cons, List.not_mem_nil, or_false] at hy
    rcases hy with rfl | rfl | rfl | rfl | rfl | rfl | rfl | rfl | rfl
    · exact (it1.same ((((((((((((((((((((((((((((((((((((((X2.trans X3).trans X4).trans X5).trans X6).trans X7).trans X8).trans X9).trans X10).trans X11).trans X12).trans X13).trans X14).trans X15).trans X16).trans X17).trans X18).trans X19).trans X20).trans X21).trans X22).trans X23).trans X24).trans X25).trans X26).trans X27).trans X28).trans X29).trans X30).trans X31).trans X32).trans X33).trans X34).trans X35).trans X36).trans X37).trans X38).trans X39).trans X40))
    · exact (it2.same ((((((((((((((((((((((((((((((((((((X4.trans X5).trans X6).trans X7).trans X8).trans X9).trans X10).trans X11).trans X12).trans X13).trans X14).trans X15).trans X16).trans X17).trans X18).trans X19).trans X20).trans X21).trans X22).trans X23).trans X24).trans X25).trans X26).trans X27).trans X28).trans X29).trans X30).trans X31).trans X32).trans X33).trans X34).trans X35).trans X36).trans X37).trans X38).trans X39).trans X40))
    · exact (it3.same ((((((((((((((((((((((((((((((((((X6.trans X7).trans X8).trans X9).trans X10).trans X11).trans X12).trans X13).trans X14).trans X15).trans X16).trans X17).trans X18).trans X19).trans X20).trans X21).trans X22).trans X23).trans X24).trans X25).trans X26).trans X27).trans X28).trans X29).trans X30).trans X31).trans X32).trans X33).trans X34).trans X35).trans X36).trans X37).trans X38).trans X39).trans X40))
    · exact (it4.same (((((((((((((((((((((((((((((X11.trans X12).trans X13).trans X14).trans X15).trans X16).trans X17).trans X18).trans X19).trans X20).trans X21).trans X22).trans X23).trans X24).trans X25).trans X26).trans X27).trans X28).trans X29).trans X30).trans X31).trans X32).trans X33).trans X34).trans X35).trans X36).trans X37).trans X38).trans X39).trans X40))
    · exact (it5.same (((((((((((((((((((((((X17.trans X18).trans X19).trans X20).trans X21).trans X22).trans X23).trans X24).trans X25).trans X26).trans X27).trans X28).trans X29).trans X30).trans X31).trans X32).trans X33).trans X34).trans X35).trans X36).trans X37).trans X38).trans X39).trans X40))
    · exact (it6.same ((((((((((((((((((X22.trans X23).trans X24).trans X25).trans X26).trans X27).trans X28).trans X29).trans X30).trans X31).trans X32).trans X33).trans X34).trans X35).trans X36).trans X37).trans X38).trans X39).trans X40))
    · exact (it7.same (((((((((((((X27.trans X28).trans X29).trans X30).trans X31).trans X32).trans X33).trans X34).trans X35).trans X36).trans X37).trans X38).trans X39).trans X40))
    · exact (it8.same ((((((X34.trans X35).trans X36).trans X37).trans X38).trans X39).trans X40))
    · exact (it9.same (X39.trans X40))
end
end G1
namespace L2
open PySem PySem.Spec PyProof.Rows
theorem zpe_bmK {X : Cx} {e o : Expr} {es : List Expr} {to : TE} {t : TA} {name : Str} {apos cpos : Pos} {T id : String} {r : V → List V → Hp → VK → Prop} (K : PySem.W.Frag) (hK : X.K = K) (pa : PlainAttrs T) (slot : Slot T name id) (hty : typeOf (.builtin id) = pure (.type "method_descriptor")) (hm : MtR X id r) (ho : SPE X o to) (ha : SPA X (e :: es) t) (hbase : attributeBase o name X.env (eval o X.env) = eval o X.env := by rfl) (hfew : ((backTo cpos (starEach (e :: es) X.env)).all (fun x => !x.1) && (backToKw cpos (keywordEach [] X.env)).all (fun x => x.1.isSome)
      && decide ((e :: es).length + ([] : List Keyword).length + (if ([] : List Keyword).isEmpty then 0 else 1) < 30)) = true := by rfl) (hline : (apos.endLine == cpos.line) = true := by rfl) (hs : starEach (e :: es) X.env = (false, eval e X.env) :: starEach es X.env := by rfl) (hplain : (backTo cpos (starEach es X.env)).any (·.1) = false := by rfl) : SPE X (.Call (.Attribute o name apos) (e :: es) [] cpos) (tBM K T r to t) := by
  subst hK
  exact zpe_bm pa slot hty hm ho ha hbase hfew hline hs hplain
end L2
namespace G1
open PySem L2 GM
theorem Kp.seq {K : PySem.W.Frag} {H H' : Hp} {a : Addr} {xs : List V} (k : Kp H H') (h : SqL K H a xs) : SqL K H' a xs := by
  rcases h with (h | ⟨o, h⟩) | h
  · exact .inl (.inl (k _ _ h nofun))
  · exact .inl (.inr ⟨o, k _ _ h nofun⟩)
  · exact .inr h
theorem Wv.kp {H H' : Hp} {L : Addr} {n r : Nat} {cs : List Int} (h : Wv H L n r cs) (k : Kp H H') : Wv H' L n r cs := by
  obtain ⟨xs', h1, h2, h3, h4⟩ := h.ex
  refine ⟨xs', k.lst h1, h2, h3, fun i y e => ?_⟩
  obtain ⟨a, c, f1, f2, f3, f4⟩ := h4 i y e
  exact ⟨a, c, f1, f2, k.tup f3, f4⟩
theorem top_same {K : PySem.W.Frag} {H : Hp} {a c : Addr} {xs : List V} (ha : SqL K H a xs) (hc : SqL K H c xs) (el : ∀ x ∈ xs, (∃ r, x = .ref r) ∨ flatV x = true) : TopR K H (EqD K H 0) (.ref a) (.ref c) true := by
  have h := TopR.lsts (R := EqD K H 0) (fun _ => true) ha hc rfl (fun j x y hx hy => by
    rw [hx] at hy; cases hy
    rcases el x (List.mem_of_getElem? hx) with ⟨r, rfl⟩ | f
    · exact .inr ⟨r, rfl, rfl, rfl⟩
    · refine .inl ⟨f, f, ?_⟩
      cases x with
      | _ => first | (cases f; done) | simp [eqV])
  have e : (List.range xs.length).all (fun _ => true) = true := by simp
  rw [e] at h; exact h
theorem inv_perm {os js : List Nat} {n : Nat} (pm : os.Perm (List.range n)) (l : js.length = n) (h : ∀ p j : Nat, js[p]? = some j → os[j]? = some p) : js.Perm (List.range n) := by
  have ol : os.length = n := by rw [pm.length_eq, List.length_range]
  have nd : os.Nodup := pm.nodup_iff.mpr List.nodup_range
  refine (List.perm_ext_iff_of_nodup (List.pairwise_iff_getElem.mpr fun i j hi hj lt e => ?_) List.nodup_range).mpr fun a => ⟨fun m => ?_, fun m => ?_⟩
  · have h1 := h i js[i] (List.getElem?_eq_getElem hi)
    have h2 := h j js[j] (List.getElem?_eq_getElem hj)
    rw [e, h2] at h1
    injection h1 with h1
    omega
  · obtain ⟨p, hp⟩ := List.getElem?_of_mem m
    have := (List.getElem?_eq_some_iff.mp (h p a hp)).1
    exact List.mem_range.mpr (by omega)
  · have al := List.mem_range.mp m
    have e1 : os[a]? = some (os[a]'(by omega)) := List.getElem?_eq_getElem _
    have pl := List.mem_range.mp (pm.mem_iff.mp (List.mem_of_getElem? e1))
    generalize os[a]'(by omega) = p at e1 pl
    have e2 : js[p]? = some (js[p]'(by omega)) := List.getElem?_eq_getElem _
    have e3 := h p _ e2
    have : a = js[p]'(by omega) := (List.getElem?_inj (by omega) nd).mp (e1.trans e3.symm)
    rw [this]; exact List.getElem_mem _
theorem good_inj {H : Hp} {ys : List V} {r : Nat} (f : Nat → Nat) (fb : ∀ i, i < ys.length → f i < 26) (fi : ∀ i j, i < ys.length → j < ys.length → f i = f j → i = j) (g : ∀ i y, ys[i]? = some y → GW1 H r (f i) y) : bA H ys 0 = none := by
  have all : ∀ j, j ≤ ys.length → bA H ys 0 = bA H ys j := by
    intro j
    induction j with
    | zero => intro _; rfl
    | succ j ih =>
      intro hj
      rw [ih (by omega)]
      have e : ys[j]? = some ys[j] := List.getElem?_eq_getElem (by omega)
      obtain ⟨o1, o2⟩ := okW_wv (g j _ e)
      suffices nm : nmS H ys[j] ∉ nms H ys j by rw [bA_step e, if_pos ⟨o1, nm⟩]
      rw [o2]
      intro mem
      unfold nms at mem
      obtain ⟨y, hy, ey⟩ := List.mem_map.mp mem
      obtain ⟨k, hk⟩ := List.getElem?_of_mem hy
      have kl := (List.getElem?_eq_some_iff.mp hk).1
      rw [List.length_take] at kl
      rw [List.getElem?_take_of_lt (by omega)] at hk
      rw [(okW_wv (g k y hk)).2] at ey
      have := fi k j (by omega) (by omega) (nmV_inj (fb k (by omega)) (fb j (by omega)) ey)
      omega
  rw [all _ (Nat.le_refl _), bA_end]
theorem put_back {os js : List Nat} {xs ys zs : List V} {n : Nat} (pm : os.Perm (List.range n)) (xl : xs.length = n) (jl : js.length = n) (jf : ∀ p j : Nat, js[p]? = some j → os[j]? = some p) (p1 : Put os xs ys) (p2 : Put js ys zs) : zs = xs := by
  have ol : os.length = n := by rw [pm.length_eq, List.length_range]
  have nd : os.Nodup := pm.nodup_iff.mpr List.nodup_range
  have zl : zs.length = n := by rw [p2.len, p1.len, xl]
  apply List.ext_getElem?
  intro q
  by_cases ql : q < n
  · have e1 : os[q]? = some (os[q]'(by omega)) := List.getElem?_eq_getElem _
    have pl := List.mem_range.mp (pm.mem_iff.mp (List.mem_of_getElem? e1))
    generalize os[q]'(by omega) = p at e1 pl
    have ex : xs[q]? = some (xs[q]'(by omega)) := List.getElem?_eq_getElem _
    generalize xs[q]'(by omega) = x at ex
    have ey := p1.at_ q p x e1 ex
    have ej : js[p]? = some (js[p]'(by omega)) := List.getElem?_eq_getElem _
    have e3 := jf p _ ej
    have : q = js[p]'(by omega) := (List.getElem?_inj (by omega) nd).mp (e1.trans e3.symm)
    rw [← this] at ej
    rw [ex, p2.at_ p q x ej ey]
  · rw [List.getElem?_eq_none (by omega), List.getElem?_eq_none (by omega)]
theorem back_lr {K : PySem.W.Frag} {TD O l : Addr} {os : List Nat} {xs ys : List V} {H0 H1 : Hp} {v0 : Option V} {N : St → Hp → Prop} (pt : Put os xs ys) (ol : os.length = xs.length) (x1 : xs.length ≤ 100) (hT : H0 TD = some (.lst ys)) (hO : H0 O = some (.lst (pls os))) (gl : H0 l = none) (S1 : Same H0 H1) (e1 : H1 l = some (.lst []))
    (fin : ∀ σ H', Same H0 H' → H' l = some (.lst xs) → N σ H') : LR (Itl K O) (gName 0) (fun _ H Q => Q true H) (tEmL l (tOp (rIxL K) (tVar 1) (tVar 0))) [v0, some (.ref TD)] H1 N := by
  have pl : (pls os).length = xs.length := by unfold pls; rw [List.length_map, ol]
  refine lr_list (K := K) (S := O) (xs := pls os) (fun i σ H' => (∃ v, σ = [v, some (.ref TD)]) ∧ Same H0 H' ∧ H' l = some (.lst (xs.take i))) ⟨⟨_, rfl⟩, S1, e1⟩ (fun i σ H' p => SqL.of (p.2.1 _ _ hO)) ?_ ?_
  · rintro i x σ H' Cn hi ⟨⟨v, rfl⟩, k2, hl⟩ nx
    have il := (List.getElem?_eq_some_iff.mp hi).1
    unfold pls at hi
    rw [List.getElem?_map] at hi
    obtain ⟨o, ho, rfl⟩ := Option.map_eq_some_iff.mp hi
    have ex : xs[i]? = some (xs[i]'(by omega)) := List.getElem?_eq_getElem _
    generalize xs[i]'(by omega) = x at ex
    have ey := pt.at_ i o x ho ex
    refine ⟨_, rfl, _, rfl, TD, _, _, x, rfl, rfl, SqL.of (k2 _ _ hT), atI_nat ey, _, hl, Nat.lt_of_le_of_lt (show _ ≤ 100 by rw [List.length_take]; omega) (by decide), nx _ _ ⟨⟨_, rfl⟩, fun b u e => ?_, ?_⟩⟩
    · rw [upd_ne (ne_of_none e gl)]; exact k2 _ _ e
    · rw [List.take_add_one, ex]; exact upd_same
  · rintro σ H' ⟨_, k2, hl⟩
    rw [pl, List.take_length] at hl
    exact fin σ H' k2 hl
theorem outW_scal {H : Hp} {x v : V} (e : outW H x = some v) : scal v v = true := by
  unfold outW at e
  split at e
  · split at e
    · split at e
      · obtain ⟨k, _, rfl⟩ := Option.map_eq_some_iff.mp e
        rfl
      · cases e; rfl
    · cases e; rfl
  · cases e; rfl
section
variable {P : Program} {w : World} {K : PySem.W.Frag} {mg : Str → Option Value} {base : Heap} {c : List Addr}
def spLaw (T1 T2 : Addr) (K : PySem.W.Frag) : Sp := fun vs H Q _ => ∃ (a : Addr) (ns : List Int), vs = [.ref a] ∧ SqL K H a (ns.map V.int) ∧ ns.length ≤ 63 ∧ Tab T1 H ∧ Tab T2 H ∧ ∀ H', Q (.bl true) H'
theorem scLa : FnScope ["_law_script", "_law_wants_here", "_law_texts", "_law_kept", "_law_k", "_law_cell_here", "_law_order_here", "_law_told", "_law_book", "_law_other", "_law_odd", "_law_thing", "_law_number_here"] ["_law_script"] (defScope sLaw) := ⟨rfl, rfl, rfl, by decide +kernel, rfl, by decide +kernel, by decide +kernel⟩
theorem ok_law {M N T1 T2 : Addr} {f fC fD fV fO fW fB fX fR fY fU : Addr} {fd fdC fdD fdV fdO fdW fdB fdX fdR fdY fdU : FuncData} (F : FunG K "law" "law" sLaw .none f fd) (B : Bl mg)
    (GC : FnOk P w K mg base (CXE P w) 1 fC fdC ["_law_script", "_law_k"] (spCell K)) (mC : mg "_law_cell" = some (.ref fC)) (kC : PySem.W.keepIn K (.ref fC) = true) (bC : Binds K fdC ["_law_script", "_law_k"] [])
    (GD : FnOk P w K mg base (CXE P w) 1 fD fdD ["_law_cell_here", "_law_k", "_law_sizes"] spDraws) (mD : mg "_law_draws" = some (.ref fD)) (kD : PySem.W.keepIn K (.ref fD) = true) (bD : Binds K fdD ["_law_cell_here", "_law_k", "_law_sizes"] [])
    (GV : FnOk P w K mg base (CXE P w) 2 fV fdV ["_law_script", "_law_at", "_law_many"] (spWants K)) (mV : mg "_law_wants" = some (.ref fV)) (kV : PySem.W.keepIn K (.ref fV) = true) (bV : Binds K fdV ["_law_script", "_law_at", "_law_many"] [])
    (GO : FnOk P w K mg base (CXE P w) 2 fO fdO ["_law_cell_here", "_law_k", "_law_many"] spOrder) (mO : mg "_law_order" = some (.ref fO)) (kO : PySem.W.keepIn K (.ref fO) = true) (bO : Binds K fdO ["_law_cell_here", "_law_k", "_law_many"] [])
    (GW : FnOk P w K mg base (CXE P w) 6 fW fdW ["wants", "order"] (spPutW M N T1 T2)) (mW : mg "put_wants" = some (.ref fW)) (kW : PySem.W.keepIn K (.ref fW) = true) (bW : Binds K fdW ["wants", "order"] [])
    (GB : FnOk P w K mg base (CXE P w) 6 fB fdB ["book", "order"] (spPutB N T2)) (mB : mg "put_book" = some (.ref fB)) (kB : PySem.W.keepIn K (.ref fB) = true) (bB : Binds K fdB ["book", "order"] [])
    (GX : FnOk P w K mg base (CXE P w) 2 fX fdX ["_law_order_here", "_law_cell_here", "_law_k"] spNoOrder) (mX : mg "_law_no_order" = some (.ref fX)) (kX : PySem.W.keepIn K (.ref fX) = true) (bX : Binds K fdX ["_law_order_here", "_law_cell_here", "_law_k"] [])
    (GR : FnOk P w K mg base (CXE P w) 7 fR fdR ["_law_things", "_law_thing", "_law_way"] (spRefused T1 T2)) (mR : mg "_law_refused" = some (.ref fR)) (kR : PySem.W.keepIn K (.ref fR) = true) (bR : Binds K fdR ["_law_things", "_law_thing", "_law_way"] [])
    (GY : FnOk P w K mg base (CXE P w) 1 fY fdY ["_law_wants_here"] spNoWants) (mY : mg "_law_no_wants" = some (.ref fY)) (kY : PySem.W.keepIn K (.ref fY) = true) (bY : Binds K fdY ["_law_wants_here"] [])
    (GU : FnOk P w K mg base (CXE P w) 7 fU fdU ["_law_thing", "_law_order_here"] (spNumber T1 T2)) (mU : mg "_law_number" = some (.ref fU)) (kU : PySem.W.keepIn K (.ref fU) = true) (bU : Binds K fdU ["_law_thing", "_law_order_here"] []) : FnOk P w K mg base (CXE P w) 8 f fd ["_law_script"] (spLaw T1 T2 K) := by
  refine F.zokN scLa (fun vs H Q E h => ?_) (fun cdv A outer s H vs Q E hr h => ?_)
  · obtain ⟨a, ns, rfl, _⟩ := h
    rfl
  · obtain ⟨a, ns, rfl, ha, n63, hT1, hT2, q⟩ := h
    refine ⟨_, (zpss_cons (zps_set (i := 1) scLa.nd rfl (Or.inl rfl) (zpe_call GV (hr.mono (by decide)) (by rfl) mV kV bV .nil passE0 (zpac_n (zpv 0) (zpac_c zpe_int (zpac_b (zpe_op op_add zpe_int (zpe_ix ix_list (zpe_call GD (hr.mono (by decide)) (by rfl) mD kD bD .nil passE0 (zpac_f (zpe_call GC (hr.mono (by decide)) (by rfl) mC kC bC .nil passE0 (zpac_n (zpv 0) (zpac_c zpe_int zpa_nil))) (zpac_c zpe_int (zpac_l (zpe_lst (zpac_c zpe_int zpa_nil)) zpa_nil)))) zpe_int (fun _ _ => rfl))) zpa_nil)))))
      (zpss_cons (zps_compL (i := 2) ["_law_script", "_law_wants_here", "_law_texts", "_law_kept", "_law_k", "_law_cell_here", "_law_order_here", "_law_told", "_law_book", "_law_other", "_law_odd", "_law_thing", "_law_number_here"] ["_law_k"] [] (defScope sLaw) rfl rfl rfl ⟨by decide +kernel, by decide +kernel, by decide +kernel, by decide +kernel, by decide +kernel⟩ scLa.nd rfl (Or.inl rfl) (zpi_range1 (by rfl) B.range (zpac_f (zpe_callB call_len_seq (by rfl) B.len PySem.boot_len (zpac_n (zpv 1) zpa_nil)) zpa_nil)) (fun s H fp => (zpg_name (i := 0) (show List.Nodup [("_law_k" : Str)] by decide +kernel) rfl (Or.inl rfl))) (fun s H fp => zpts_nil) (fun s H fp => (zpe_op op_add_str zpe_str (zpe_op op_mulS zpe_str (zpv 0)))))
      (zpss_cons (zps_set (i := 3) scLa.nd rfl (Or.inl rfl) (zpe_callTy call_list_of (by rfl) B.list boot_list (zpac_n (zpv 1) zpa_nil)))
      (zpss_cons (zps_for PassesOwn.never rfl (zpi_enum (by rfl) B.enum (zpac_b (zpe_op op_cat (zpe_lst (zpac_c zpe_int zpa_nil)) (zpe_slice sl_list (zpv 0) (zpo_some zpe_int) (zpo_some zpe_int))) zpa_nil)) (zpg_tup rfl (zpgs_cons (zpg_name (i := 4) scLa.nd rfl (Or.inl rfl)) (zpgs_cons (zpg_name (i := 5) scLa.nd rfl (Or.inl rfl)) zpgs_nil)))
          (zpss_cons (zps_set (i := 6) scLa.nd rfl (Or.inr rfl) (zpe_call GO (hr.mono (by decide)) (by rfl) mO kO bO .nil passE0 (zpac_n (zpv 5) (zpac_b (zpe_op op_add zpe_int (zpv 4)) (zpac_f (zpe_callB call_len_seq (by rfl) B.len PySem.boot_len (zpac_n (zpv 1) zpa_nil)) zpa_nil)))))
      (zpss_cons (zps_cut (zps_if (zpt_cmpR op_eq (zpe_op op_mod (zpv 4) zpe_int) zpe_int (nomark _)) (zpss_one (zps_set (i := 6) scLa.nd rfl (Or.inr rfl) (zpe_callTy (call_list_rng rfl) (by rfl) B.list boot_list (zpac_f (zpe_range1 (by rfl) B.range (zpac_f (zpe_callB call_len_seq (by rfl) B.len PySem.boot_len (zpac_n (zpv 1) zpa_nil)) zpa_nil)) zpa_nil)))) zpss_nil))
      (zpss_cons (zps_set (i := 7) scLa.nd rfl (Or.inr rfl) (zpe_call GW (hr.mono (by decide)) (by rfl) mW kW bW .nil passE0 (zpac_n (zpv 1) (zpac_n (zpv 6) zpa_nil))))
      (zpss_cons (zps_set (i := 8) scLa.nd rfl (Or.inr rfl) (zpe_call GB (hr.mono (by decide)) (by rfl) mB kB bB .nil passE0 (zpac_n (zpv 2) (zpac_n (zpv 6) zpa_nil))))
      (zpss_cons (zps_if (SPW.pt (zpw_or (zpt_cmpR (op_neD hr.units60) (zpe_compL ["_law_script", "_law_wants_here", "_law_texts", "_law_kept", "_law_k", "_law_cell_here", "_law_order_here", "_law_told", "_law_book", "_law_other", "_law_odd", "_law_thing", "_law_number_here"] ["_law_place"] [7] (defScope sLaw) rfl rfl rfl ⟨by decide +kernel, by decide +kernel, by decide +kernel, by decide +kernel, by decide +kernel⟩ (zpi_list (zpv 6)) (fun s H fp => (zpg_name (i := 0) (show List.Nodup [("_law_place" : Str), "_law_told"] by decide +kernel) rfl (Or.inl rfl))) (fun s H fp => zpts_nil) (fun s H fp => (zpe_ix (ix_listK K rfl) (zpv 1) (zpv 0) (fun _ _ => rfl)))) (zpv 3) (nomark _)) (zpw_or (zpt_cmpR (op_neD hr.units60) (zpe_compL ["_law_script", "_law_wants_here", "_law_texts", "_law_kept", "_law_k", "_law_cell_here", "_law_order_here", "_law_told", "_law_book", "_law_other", "_law_odd", "_law_thing", "_law_number_here"] ["_law_place"] [8] (defScope sLaw) rfl rfl rfl ⟨by decide +kernel, by decide +kernel, by decide +kernel, by decide +kernel, by decide +kernel⟩ (zpi_list (zpv 6)) (fun s H fp => (zpg_name (i := 0) (show List.Nodup [("_law_place" : Str), "_law_book"] by decide +kernel) rfl (Or.inl rfl))) (fun s H fp => zpts_nil) (fun s H fp => (zpe_ix (ix_listK K rfl) (zpv 1) (zpv 0) (fun _ _ => rfl)))) (zpv 2) (nomark _)) (zpw_or1 (zpt_cmpR (op_neD hr.units60) (zpv 1) (zpv 3) (nomark _)))))) (zpss_one (zps_ret zpe_bl)) zpss_nil)
      (zpss_cons (zps_compL (i := 9) ["_law_script", "_law_wants_here", "_law_texts", "_law_kept", "_law_k", "_law_cell_here", "_law_order_here", "_law_told", "_law_book", "_law_other", "_law_odd", "_law_thing", "_law_number_here"] ["_law_place"] [6] (defScope sLaw) rfl rfl rfl ⟨by decide +kernel, by decide +kernel, by decide +kernel, by decide +kernel, by decide +kernel⟩ scLa.nd rfl (Or.inl rfl) (zpi_range1 (by rfl) B.range (zpac_f (zpe_callB call_len_seq (by rfl) B.len PySem.boot_len (zpac_n (zpv 6) zpa_nil)) zpa_nil)) (fun s H fp => (zpg_name (i := 0) (show List.Nodup [("_law_place" : Str), "_law_order_here"] by decide +kernel) rfl (Or.inl rfl))) (fun s H fp => zpts_nil) (fun s H fp => (zpe_bmK K rfl PySem.F.plainAttrs_list PySem.F.slot_list_index PySem.F.type_list_index (mt_indexK K rfl) (zpv 1) (zpac_n (zpv 0) zpa_nil))))
      (zpss_cons (zps_if (SPW.pt (zpw_or (zpt_cmpR (op_neD hr.units60) (zpe_call GW (hr.mono (by decide)) (by rfl) mW kW bW .nil passE0 (zpac_n (zpv 7) (zpac_n (zpv 9) zpa_nil))) (zpv 3) (nomark _)) (zpw_or (zpt_cmpR (op_neD hr.units60) (zpe_call GB (hr.mono (by decide)) (by rfl) mB kB bB .nil passE0 (zpac_n (zpv 8) (zpac_n (zpv 9) zpa_nil))) (zpv 2) (nomark _)) (zpw_or1 (zpt_cmpR op_ne (zpe_callB call_len_seq (by rfl) B.len PySem.boot_len (zpac_n (zpv 7) zpa_nil)) (zpe_callB call_len_seq (by rfl) B.len PySem.boot_len (zpac_n (zpv 3) zpa_nil)) (nomark _)))))) (zpss_one (zps_ret zpe_bl)) zpss_nil)
      (zpss_cons (zps_expr (zpe_bm0 PySem.F.plainAttrs_list PySem.F.slot_list_clear PySem.F.type_list_clear mt_clear (zpv 7)))
      (zpss_cons (zps_expr (zpe_bm PySem.F.plainAttrs_list PySem.F.slot_list_append PySem.F.type_list_append mt_append (zpv 8) (zpac_c zpe_str zpa_nil)))
      (zpss_cons (zps_if (SPW.pt (zpw_or (zpt_cmpR (op_neD hr.units60) (zpv 1) (zpv 3) (nomark _)) (zpw_or (zpt_cmpR op_ne (zpe_callB call_len_seq (by rfl) B.len PySem.boot_len (zpac_n (zpv 2) zpa_nil)) (zpe_callB call_len_seq (by rfl) B.len PySem.boot_len (zpac_n (zpv 3) zpa_nil)) (nomark _)) (zpw_or1 (zpt_cmpR op_ne (zpe_callB call_len_seq (by rfl) B.len PySem.boot_len (zpac_f (zpe_call GB (hr.mono (by decide)) (by rfl) mB kB bB .nil passE0 (zpac_n (zpv 2) (zpac_n (zpv 6) zpa_nil))) zpa_nil)) (zpe_callB call_len_seq (by rfl) B.len PySem.boot_len (zpac_n (zpv 3) zpa_nil)) (nomark _)))))) (zpss_one (zps_ret zpe_bl)) zpss_nil)
      (zpss_cons (zps_set (i := 10) scLa.nd rfl (Or.inl rfl) (zpe_call GX (hr.mono (by decide)) (by rfl) mX kX bX .nil passE0 (zpac_n (zpv 6) (zpac_n (zpv 5) (zpac_b (zpe_op op_add zpe_int (zpv 4)) zpa_nil)))))
      (zpss_cons (zps_if (zpt_not (zpt_val (zpe_call GR hr (by rfl) mR kR bR .nil passE0 (zpac_s (zpe_ix ix_list (zpe_lst (zpac_n (zpv 1) (zpac_n (zpv 2) zpa_nil))) (zpe_op op_mod (zpv 4) zpe_int) (fun _ _ => rfl)) (zpac_n (zpv 10) (zpac_b (zpe_op op_mod (zpv 4) zpe_int) zpa_nil)))))) (zpss_one (zps_ret zpe_bl)) zpss_nil)
      (zpss_cons (zps_asg (zpe_ix ix_list (zpe_call GY (hr.mono (by decide)) (by rfl) mY kY bY .nil passE0 (zpac_n (zpv 1) zpa_nil)) (zpe_ix ix_list (zpe_call GD (hr.mono (by decide)) (by rfl) mD kD bD .nil passE0 (zpac_n (zpv 5) (zpac_b (zpe_op op_add zpe_int (zpv 4)) (zpac_l (zpe_lst (zpac_c zpe_int zpa_nil)) zpa_nil)))) zpe_int (fun _ _ => rfl)) (fun _ _ => rfl)) (zpg_tup rfl (zpgs_cons (zpg_name (i := 11) scLa.nd rfl (Or.inl rfl)) (zpgs_cons (zpg_name (i := 12) scLa.nd rfl (Or.inl rfl)) zpgs_nil))))
      (zpss_one (zps_if (zpt_cmpR op_ne (zpe_call GU hr (by rfl) mU kU bU .nil passE0 (zpac_n (zpv 11) (zpac_s (zpe_ix ix_list (zpe_lst (zpac_n (zpv 6) (zpac_n (zpv 10) zpa_nil))) (zpe_op op_mod (zpv 4) zpe_int) (fun _ _ => rfl)) zpa_nil))) (zpv 12) (nomark _)) (zpss_one (zps_ret zpe_bl)) zpss_nil))))))))))))))))
      (zpss_one (zps_ret (zpe_cmpR (op_eqD hr.units60) (zpe_call GB (hr.mono (by decide)) (by rfl) mB kB bB .nil passE0 (zpac_l (zpe_lst zpa_nil) (zpac_l (zpe_lst zpa_nil) zpa_nil))) (zpe_lst zpa_nil) (nomark _)))))))), ?_⟩
    have sz : ∀ {m : Nat}, m ≤ 100 → m ≤ sizeLine := fun h => Nat.le_trans h (by decide)
    have s1 : 1 ≤ sizeLine := sz (show 1 ≤ 100 by decide)
    have sq : ∀ {H' : Hp}, Kp H H' → SqL K H' a (ns.map V.int) := fun k => k.seq ha
    refine ⟨_, rfl, _, rfl, a, ns, 0, rfl, ha, by decide, fun z => ?_⟩
    refine ⟨s1, ?_⟩
    (intro r0 g0; generalize hEq : upd _ r0 _ = H1; refine newC hEq g0 ?_; clear hEq; intro S1 e1 o1)
    refine ⟨z, 0, r0, [20], rfl, by decide, by decide, e1, by decide, fun s hs => (by rw [List.mem_singleton.mp hs]; exact ⟨by decide, by decide +kernel⟩), fun R ds H2 S2 gR eR bl => ?_⟩
    obtain ⟨d, hd, d0, d1⟩ := bl.at (i := 0) (s := 20) rfl
    obtain ⟨d, rfl⟩ := Int.eq_ofNat_of_zero_le d0
    have S02 := S1.trans S2
    refine ⟨R, _, _, _, rfl, rfl, SqL.of eR, atInts hd rfl, _, _, rfl, rfl, ?_⟩
    refine ⟨a, ns, 1, 1 + d, (by push_cast; rfl), sq (.same S02), by decide, by omega, fun W r cs H3 S3 gW wv => ?_⟩
    have S03 := S02.trans S3
    obtain ⟨n, hn⟩ : ∃ n, n = 1 + d := ⟨_, rfl⟩
    rw [← hn] at wv
    have n0 : 1 ≤ n := by omega
    have n1 : n ≤ 20 := by omega
    obtain ⟨xs, hW, xl, gw⟩ := wv.gw
    refine ⟨_, rfl, W, _, rfl, .inl (SqL.of hW), _, rfl, by omega, by omega, ?_⟩
    (intro X gX; generalize hEq : upd _ X _ = H4; refine newC hEq gX ?_; clear hEq; intro S4 eX oX)
    rw [Int.toNat_natCast, xl]
    refine lr_range (lo := 0) (n := n) (fun i σ H' => (∃ v, σ = [v]) ∧ Same H3 H' ∧ ∃ us, H' X = some (.lst us) ∧ us.length = i ∧ ∀ y ∈ us, flatV y = true) ⟨⟨_, rfl⟩, S4, [], eX, rfl, fun y h => nomatch h⟩ ?_ ?_
    · rintro i σ H' Cn hi ⟨⟨v, rfl⟩, k2, us, hu, ul, uf⟩ nx
      rw [show (0 : Int) + (i : Int) = (i : Int) from Int.zero_add _]
      refine ⟨_, rfl, 98, i, rfl, rfl, by omega, _, _, rfl, rfl, sz (show _ ≤ 100 by rw [repS_len]; show 1 + i ≤ 100; omega), us, hu, Nat.lt_of_lt_of_le (show us.length < 100 by omega) (sz (Nat.le_refl _)), nx _ _ ⟨⟨_, rfl⟩, fun b u e => ?_, _, upd_same, by rw [List.length_append, ul]; rfl, fun y hy => ?_⟩⟩
      · rw [upd_ne (ne_of_none e gX)]; exact k2 _ _ e
      · rcases List.mem_append.mp hy with h | h
        · exact uf y h
        · rw [List.mem_singleton.mp h]; rfl
    rintro σ0 H5 ⟨_, S35, us, hX, ul, uf⟩
    have hW5 := S35 _ _ hW
    have wv5 : Wv H5 W n r cs := by
      obtain ⟨xs', h1, h2, h3, h4⟩ := wv.ex
      refine ⟨xs', S35 _ _ h1, h2, h3, fun i y e => ?_⟩
      obtain ⟨a, c, f1, f2, f3, f4⟩ := h4 i y e
      exact ⟨a, c, f1, f2, S35 _ _ f3, f4⟩
    refine ⟨_, rfl, W, _, rfl, .inl (SqL.of hW5), ?_⟩
    (intro Kt gKt; generalize hEq : upd _ Kt _ = H6; refine newC hEq gKt ?_; clear hEq; intro S6 eKt oKt)
    refine ⟨s1, ?_⟩
    (intro z0 gz0; generalize hEq : upd _ z0 _ = H7; refine newC hEq gz0 ?_; clear hEq; intro S7 ez0 oz0)
    have S07 := ((S03.trans S35).trans S6).trans S7
    refine ⟨_, rfl, _, rfl, _, rfl, a, _, rfl, sq (.same S07), ?_⟩
    (intro sl gsl; generalize hEq : upd _ sl _ = H8; refine newC hEq gsl ?_; clear hEq; intro S8 esl osl)
    have lsl := cutV_length (ns.map V.int) (some 2) (some 40)
    rw [List.length_map] at lsl
    refine ⟨z0, sl, _, _, rfl, rfl, S8 _ _ ez0, esl, sz (show 1 + _ ≤ 100 by omega), ?_⟩
    (intro Z gZ; generalize hEq : upd _ Z _ = HL; refine newC hEq gZ ?_; clear hEq; intro S9 eZ oZ)
    obtain ⟨ms, hms, lms⟩ : ∃ ms : List Int, [V.int 0] ++ cutV (ns.map V.int) (some 2) (some 40) = ms.map V.int ∧ ms.length ≤ 64 := by
      refine ⟨0 :: ((ns.drop (HT.sIx (ns.map V.int).length 0 (some 2))).take (HT.sIx (ns.map V.int).length (ns.map V.int).length (some 40) - HT.sIx (ns.map V.int).length 0 (some 2))), ?_, ?_⟩
      · unfold cutV
        rw [List.map_cons, List.map_take, List.map_drop]; rfl
      · rw [List.length_cons, List.length_take, List.length_drop]; omega
    rw [hms] at eZ
    have S5L := ((S6.trans S7).trans S8).trans S9
    have hWL := S5L _ _ hW5
    have hXL := S5L _ _ hX
    have hKL : HL Kt = some (.lst xs) := S9 _ _ (S8 _ _ (S7 _ _ eKt))
    have wvL : Wv HL W n r cs := by
      obtain ⟨xs', h1, h2, h3, h4⟩ := wv5.ex
      refine ⟨xs', S5L _ _ h1, h2, h3, fun i y e => ?_⟩
      obtain ⟨a, c, f1, f2, f3, f4⟩ := h4 i y e
      exact ⟨a, c, f1, f2, S5L _ _ f3, f4⟩
    have S0L := (S03.trans S35).trans S5L
    have tL1 : Tab T1 HL := hT1.same S0L
    have tL2 : Tab T2 HL := hT2.same S0L
    refine ⟨Z, rfl, ⟨_, SqL.of eZ⟩, ?_⟩
    refine for_enum (K := K) (a := Z) (xs := ms.map V.int) (fun i σ H' => (∃ v4 v5 v6 v7 v8 v9 v10 v11 v12, σ = [some (.ref a), some (.ref W), some (.ref X), some (.ref Kt), v4, v5, v6, v7, v8, v9, v10, v11, v12]) ∧ Kp HL H' ∧ TbK HL H')
      ⟨⟨_, _, _, _, _, _, _, _, _, rfl⟩, Kp.refl, TbK.refl⟩ (fun i σ H' _ p => SqL.of (p.2.1.lst eZ)) ?_ ?_
    · rintro i x t σ H' hi ⟨⟨v4, v5, v6, v7, v8, v9, v10, v11, v12, rfl⟩, kp, tb⟩ gt
      rw [List.getElem?_map] at hi
      obtain ⟨ce, hce, rfl⟩ := Option.map_eq_some_iff.mp hi
      have il := (List.getElem?_eq_some_iff.mp hce).1
      have kp1 : Kp HL (upd H' t (.tup [.int i, .int ce])) := kp.trans (Kp.new gt)
      have tb1 : TbK HL (upd H' t (.tup [.int i, .int ce])) := tb.new gt
      have et : upd H' t (.tup [.int i, .int ce]) t = some (.tup [.int i, .int ce]) := upd_same
      generalize upd H' t (.tup [.int i, .int ce]) = HA at kp1 tb1 et
      have hWA := kp1.lst hWL
      refine ⟨t, _, rfl, SqT.of et, rfl, _, _, rfl, _, _, rfl, rfl, ?_⟩
      refine ⟨_, rfl, _, rfl, _, _, rfl, rfl, _, rfl, W, _, rfl, .inl (SqL.of hWA), ce, 10 + (i : Int), xs.length, rfl, by omega, by omega, by omega, fun O' os' HB' SB gO' hO' pm' => ?_⟩
      refine ⟨fun σ H2 => ∃ O os, σ = [some (.ref a), some (.ref W), some (.ref X), some (.ref Kt), some (.int i), some (.int ce), some (.ref O), v7, v8, v9, v10, v11, v12] ∧ Same HA H2 ∧ H2 O = some (.lst (pls os)) ∧ os.Perm (List.range n), ?_, ?_⟩
      · refine ⟨_, rfl, _, _, rfl, rfl, (by show (0 : Int) < 8; decide), rfl, _, rfl, ?_⟩
        refine ite2 (fun _ => ?_) (fun _ => ?_)
        · refine ⟨_, rfl, W, _, rfl, .inl (SqL.of (SB _ _ hWA)), xs.length, rfl, ?_⟩
          (intro rr grr; generalize hEq : upd _ rr _ = HC; refine newC hEq grr ?_; clear hEq; intro SC err orr)
          refine ⟨rr, xs.length, rfl, err, sz (show xs.length ≤ 100 by omega), ?_⟩
          (intro O2 gO2; generalize hEq : upd _ O2 _ = HD; refine newC hEq gO2 ?_; clear hEq; intro SD eO2 oO2)
          exact ⟨O2, List.range n, rfl, (SB.trans SC).trans SD, (by rw [eO2, xl]; rfl), .refl _⟩
        · exact ⟨O', os', rfl, SB, hO', xl ▸ pm'⟩
      · rintro σ HB ⟨O, os, rfl, SB, hO, pm⟩
        have kpB : Kp HL HB := kp1.trans (.same SB)
        have tbB : TbK HL HB := tb1.same SB
        have wvB := wvL.kp kpB
        have pmx : os.Perm (List.range xs.length) := xl.symm ▸ pm
        have pmu : os.Perm (List.range us.length) := ul.symm ▸ pm
        have ox : os.length = xs.length := by rw [pmx.length_eq, List.length_range]
        have ou : os.length = us.length := by rw [pmu.length_eq, List.length_range]
        refine ⟨_, rfl, _, rfl, .ref W, .ref O, rfl, wvB.thw, tbB _ tL1, tbB _ tL2, .inl ⟨wvB.out n0 n1, W, xs, rfl, kpB.lst hWL, .inl ⟨O, os, rfl, hO, pmx, fun TD ys HC kC tC nTD hTD ptW => ?_⟩⟩⟩
        have kpC := kpB.trans kC
        have tbC := tbB.trans tC
        refine ⟨_, rfl, _, rfl, X, us, .ref O, rfl, kpC.lst hXL, by omega, tbC _ tL2, .inl ⟨O, os, rfl, kC.lst hO, pmu, fun BK zs HD kD tD nBK hBK ptB => ?_⟩⟩
        have kpD := kpC.trans kD
        have tbD := tbC.trans tD
        have hTDd := kD.lst hTD
        have hOd := (kC.trans kD).lst hO
        refine ⟨_, rfl, O, rfl, ⟨_, SqL.of hOd⟩, ?_⟩
        (intro l1 gl1; generalize hEq : upd _ l1 _ = HE; refine newC hEq gl1 ?_; clear hEq; intro SE el1 ol1)
        refine back_lr (v0 := none) ptW ox (by omega) hTDd hOd gl1 SE el1 fun σ1 HF SF hl1 => ?_
        have xr : ∀ x ∈ xs, (∃ r, x = V.ref r) ∨ flatV x = true := fun x hx => by
          obtain ⟨j, hj⟩ := List.getElem?_of_mem hx
          obtain ⟨a, c, e, _⟩ := gw j x hj
          exact .inl ⟨a, e⟩
        have kpF := kpD.trans (.same SF)
        have plO : (pls os).length = n := by unfold pls; rw [List.length_map]; omega
        refine ⟨_, rfl, 0, true, by decide, top_same (SqL.of hl1) (SqL.of (kpF.lst hKL)) xr, _, rfl, iteF ?_⟩
        refine ⟨_, rfl, O, rfl, ⟨_, SqL.of (SF _ _ hOd)⟩, ?_⟩
        (intro l2 gl2; generalize hEq : upd _ l2 _ = HG; refine newC hEq gl2 ?_; clear hEq; intro SG el2 ol2)
        refine back_lr (v0 := none) ptB ou (by omega) (SF _ _ hBK) (SF _ _ hOd) gl2 SG el2 fun σ2 HI SI hl2 => ?_
        have kpI := kpF.trans (.same SI)
        have SDI := SF.trans SI
        refine ⟨_, rfl, 0, true, by decide, top_same (SqL.of hl2) (SqL.of (kpI.lst hXL)) (fun x hx => .inr (uf x hx)), _, rfl, iteF ?_⟩
        refine ⟨_, rfl, _, rfl, 0, true, by decide, top_same (SqL.of (kpI.lst hWL)) (SqL.of (kpI.lst hKL)) xr, _, rfl, iteF ?_⟩
        refine ⟨_, rfl, O, _, rfl, .inl (SqL.of (SDI _ _ hOd)), _, rfl, by omega, by omega, ?_⟩
        (intro ot got; generalize hEq : upd _ ot _ = HJ; refine newC hEq got ?_; clear hEq; intro SJ eot oot)
        rw [Int.toNat_natCast, plO]
        have osl : os.length = n := by omega
        have ndo : os.Nodup := pm.nodup_iff.mpr List.nodup_range
        refine lr_range (lo := 0) (n := n) (fun m σ H2 => (∃ v, σ = [v, some (.ref O)]) ∧ Same HI H2 ∧ ∃ js : List Nat, H2 ot = some (.lst (pls js)) ∧ js.length = m ∧ ∀ p j : Nat, js[p]? = some j → os[j]? = some p) ⟨⟨_, rfl⟩, SJ, [], eot, rfl, fun p j h => by simp at h⟩ ?_ ?_
        · rintro m σ H2 Cn hm ⟨⟨v, rfl⟩, k2, js, hj, jl, jf⟩ nx
          rw [show (0 : Int) + (m : Int) = (m : Int) from Int.zero_add _]
          obtain ⟨j, hj2⟩ := List.getElem?_of_mem (pm.mem_iff.mpr (List.mem_range.mpr hm))
          have jp : (pls os)[j]? = some (.int (m : Int)) := by unfold pls; rw [List.getElem?_map, hj2]; rfl
          have sqO : SqL K H2 O (pls os) := SqL.of (k2 _ _ (SDI _ _ hOd))
          refine ⟨_, rfl, .inl ⟨rfl, _, sqO⟩, _, rfl, O, pls os, .int m, j, rfl, rfl, sqO, List.all_eq_true.mpr fun y hy => pls_flat y hy, rfl, ⟨_, jp, by simp [eqV]⟩, fun q z ql hz => ?_, ?_⟩
          · unfold pls at hz
            rw [List.getElem?_map] at hz
            obtain ⟨o, ho, rfl⟩ := Option.map_eq_some_iff.mp hz
            have ne : o ≠ m := fun e => by
              rw [e] at ho
              have jl2 := (List.getElem?_eq_some_iff.mp hj2).1
              have := (List.getElem?_inj (by omega) ndo).mp (ho.trans hj2.symm)
              omega
            simp [eqV]; omega
          · refine ⟨_, hj, Nat.lt_of_lt_of_le (show (pls js).length < 100 by unfold pls; rw [List.length_map]; omega) (sz (Nat.le_refl _)), nx _ _ ⟨⟨_, rfl⟩, fun b u e => ?_, js ++ [j], by rw [show pls (js ++ [j]) = pls js ++ [V.int (j : Int)] by unfold pls; rw [List.map_append]; rfl]; exact upd_same, by rw [List.length_append, jl]; rfl, fun p j' e => ?_⟩⟩
            · rw [upd_ne (ne_of_none e got)]; exact k2 _ _ e
            · by_cases pl : p < js.length
              · rw [List.getElem?_append_left pl] at e
                exact jf p j' e
              · have plt := (List.getElem?_eq_some_iff.mp e).1
                rw [List.length_append] at plt
                have pe : p = js.length := by simp at plt; omega
                subst pe
                rw [List.getElem?_append_right (Nat.le_refl _)] at e
                simp at e
                subst e
                rw [jl]; exact hj2
        rintro σ3 HK ⟨_, SIK, js, hjs, jl, jf⟩
        have pmj := inv_perm pm jl jf
        have kpK := kpI.trans (.same SIK)
        have SDK := SDI.trans SIK
        have tbK := tbD.same SDK
        have gK : ∀ i y, xs[i]? = some y → GW1 HK r i y := by
          obtain ⟨xs', hW', _, gK⟩ := (wvL.kp kpK).gw
          rw [kpK.lst hWL] at hW'; cases hW'
          exact gK
        have yl : ys.length = n := by rw [ptW.len, xl]
        have gy : ∀ p y, ys[p]? = some y → GW1 HK r (js.getD p 0) y := fun p y e => by
          have pl := (List.getElem?_eq_some_iff.mp e).1
          have ej : js[p]? = some (js[p]'(by omega)) := List.getElem?_eq_getElem _
          have gd : js.getD p 0 = js[p]'(by omega) := by rw [List.getD_eq_getElem?_getD, ej]; rfl
          rw [gd]
          generalize js[p]'(by omega) = j at ej
          have eo := jf p j ej
          have jl3 := (List.getElem?_eq_some_iff.mp eo).1
          have ex : xs[j]? = some (xs[j]'(by omega)) := List.getElem?_eq_getElem _
          have := ptW.at_ j p _ eo ex
          rw [e] at this; cases this
          exact gK j _ ex
        have hTK := SDK _ _ hTDd
        have thT : ThW HK (.ref TD) := thw_lst hTK fun y hy => by
          obtain ⟨p, hp⟩ := List.getElem?_of_mem hy
          exact (gy p y hp).the
        have ndj : js.Nodup := pmj.nodup_iff.mpr List.nodup_range
        have outT : outW HK (.ref TD) = none := by
          have gd : ∀ p, p < ys.length → ∃ j, js[p]? = some j ∧ js.getD p 0 = j := fun p pl => by
            have ej : js[p]? = some (js[p]'(by omega)) := List.getElem?_eq_getElem _
            exact ⟨_, ej, by rw [List.getD_eq_getElem?_getD, ej]; rfl⟩
          rw [outW_lst hTK, if_pos (by omega), good_inj (fun p => js.getD p 0) (fun p pl => ?_) (fun p p' pl pl' e => ?_) gy]
          · rfl
          · obtain ⟨j, ej, e⟩ := gd p pl
            have := List.mem_range.mp (pmj.mem_iff.mp (List.mem_of_getElem? ej))
            show js.getD p 0 < 26
            omega
          · obtain ⟨j, ej, e1⟩ := gd p pl
            obtain ⟨j', ej', e2⟩ := gd p' pl'
            have : j = j' := by rw [← e1, ← e2]; exact e
            subst this
            exact (List.getElem?_inj (by omega) ndj).mp (ej.trans ej'.symm)
        refine ⟨_, rfl, _, rfl, .ref TD, .ref ot, rfl, thT, tbK _ tL1, tbK _ tL2, .inl ⟨outT, TD, ys, rfl, hTK, .inl ⟨ot, js, rfl, hjs, (by rw [yl]; exact pmj), fun m1 ws1 HM kM tM nM hM1 pt1 => ?_⟩⟩⟩
        have e1 := put_back pm xl jl jf ptW pt1
        rw [e1] at hM1
        have kpM := kpK.trans kM
        refine ⟨_, rfl, 0, true, by decide, top_same (SqL.of hM1) (SqL.of (kpM.lst hKL)) xr, _, rfl, iteF ?_⟩
        have hBM := kM.lst (SDK _ _ hBK)
        have zl : zs.length = n := by rw [ptB.len, ul]
        refine ⟨_, rfl, _, rfl, BK, zs, .ref ot, rfl, hBM, by omega, (tbK.trans tM) _ tL2, .inl ⟨ot, js, rfl, kM.lst hjs, (by rw [zl]; exact pmj), fun m2 ws2 HN kN tN nN hN1 pt2 => ?_⟩⟩
        have e2 := put_back pm ul jl jf ptB pt2
        rw [e2] at hN1
        have kpN := kpM.trans kN
        have tbN := (tbK.trans tM).trans tN
        have hTN := (kM.trans kN).lst hTK
        have hBN := kN.lst hBM
        refine ⟨_, rfl, 0, true, by decide, top_same (SqL.of hN1) (SqL.of (kpN.lst hXL)) (fun x hx => .inr (uf x hx)), _, rfl, iteF ?_⟩
        refine ⟨_, rfl, TD, _, rfl, .inl (SqL.of hTN), _, rfl, Kt, _, rfl, .inl (SqL.of (kpN.lst hKL)), rfl, _, rfl, ?_⟩
        rw [show (!decide (V.int (ys.length : Int) = V.int (xs.length : Int))) = false by rw [yl, xl]; simp]
        refine iteF ?_
        have kpP : Kp HL (upd HN TD (.lst [])) := fun b o e nt => by
          rw [upd_ne (fun z => by
            obtain ⟨ps, e2⟩ := nTD o (z ▸ kpB b o e nt)
            exact nt ps e2)]
          exact kpN b o e nt
        have tbP : TbK HL (upd HN TD (.lst [])) := tbN.set hTN nofun
        have BT : BK ≠ TD := fun z => by
          obtain ⟨ps, e2⟩ := nBK _ (z ▸ hTD)
          cases e2
        have hBP : upd HN TD (.lst []) BK = some (.lst zs) := by rw [upd_ne BT]; exact hBN
        have hOP : upd HN TD (.lst []) O = some (.lst (pls os)) := by
          rw [upd_ne (fun z => by obtain ⟨ps, e2⟩ := nTD _ (z ▸ hO); cases e2)]
          exact (kM.trans kN).lst (SDK _ _ hOd)
        refine ⟨_, rfl, .inl ⟨rfl, _, SqL.of hTN⟩, TD, ys, rfl, rfl, hTN, ?_⟩
        generalize upd HN TD (.lst []) = HP at kpP tbP hBP hOP
        have kpQ : Kp HL (upd HP BK (.lst (zs ++ [V.str "a"]))) := fun b o e nt => by
          rw [upd_ne (fun z => by
            obtain ⟨ps, e2⟩ := nBK o (z ▸ kpC b o e nt)
            exact nt ps e2)]
          exact kpP b o e nt
        have tbQ : TbK HL (upd HP BK (.lst (zs ++ [V.str "a"]))) := tbP.set hBP nofun
        have hOQ : upd HP BK (.lst (zs ++ [V.str "a"])) O = some (.lst (pls os)) := by
          rw [upd_ne (fun z => by obtain ⟨ps, e2⟩ := nBK _ (z ▸ kC.lst hO); cases e2)]
          exact hOP
        refine ⟨_, rfl, .inl ⟨rfl, _, SqL.of hBP⟩, BK, zs, _, rfl, rfl, hBP, Nat.lt_of_lt_of_le (show zs.length < 100 by omega) (sz (Nat.le_refl _)), ?_⟩
        generalize upd HP BK (.lst (zs ++ [V.str "a"])) = HQ at kpQ tbQ hOQ
        refine ⟨_, rfl, _, rfl, 0, true, by decide, top_same (SqL.of (kpQ.lst hWL)) (SqL.of (kpQ.lst hKL)) xr, _, rfl, iteF ?_⟩
        refine ⟨_, rfl, X, _, rfl, .inl (SqL.of (kpQ.lst hXL)), _, rfl, Kt, _, rfl, .inl (SqL.of (kpQ.lst hKL)), rfl, _, rfl, ?_⟩
        rw [show (!decide (V.int (us.length : Int) = V.int (xs.length : Int))) = false by rw [ul, xl]; simp]
        refine iteF ?_
        refine ⟨_, rfl, _, rfl, X, us, .ref O, rfl, kpQ.lst hXL, by omega, tbQ _ tL2, .inl ⟨O, os, rfl, hOQ, pmu, fun m3 ws3 HR kR_ tR_ nR_ hR3 pt3 => ?_⟩⟩
        have kpR := kpQ.trans kR_
        have tbR := tbQ.trans tR_
        have wl3 : ws3.length = n := by rw [pt3.len, ul]
        refine ⟨m3, _, rfl, .inl (SqL.of hR3), _, rfl, Kt, _, rfl, .inl (SqL.of (kpR.lst hKL)), rfl, _, rfl, ?_⟩
        rw [show (!decide (V.int (ws3.length : Int) = V.int (xs.length : Int))) = false by rw [wl3, xl]; simp]
        refine iteF ?_
        have hOR := kR_.lst hOQ
        refine ⟨_, rfl, _, rfl, _, rfl, _, _, rfl, rfl, O, os, ce, 50 + (i : Int), n, rfl, by omega, by omega, n0, n1, hOR, pm, fun od HS SS bad => ?_⟩
        have kpS := kpR.trans (.same SS)
        have tbS := tbR.same SS
        have hXS := kpS.lst hXL
        have hWS := kpS.lst hWL
        have wvS := wvL.kp kpS
        refine ⟨_, rfl, _, rfl, sz (show 2 ≤ 100 by decide), ?_⟩
        (intro lq glq; generalize hEq : upd _ lq _ = HT; refine newC hEq glq ?_; clear hEq; intro ST elq olq)
        obtain ⟨p, pxs, ep, hp, pl, pw⟩ : ∃ (p : Addr) (pxs : List V), atI [V.ref W, V.ref X] ((i : Int) % 2) = some (V.ref p) ∧ HT p = some (.lst pxs) ∧ pxs.length = n ∧ ((i : Int) % 2 = 0 → p = W) := by
          rcases (show (i : Int) % 2 = 0 ∨ (i : Int) % 2 = 1 by omega) with e | e
          · rw [e]; exact ⟨W, xs, rfl, ST _ _ hWS, xl, fun _ => rfl⟩
          · rw [e]; exact ⟨X, us, rfl, ST _ _ hXS, ul, fun h => by cases h⟩
        have kpT := kpS.trans (.same ST)
        have wvT := wvL.kp kpT
        refine ⟨_, rfl, _, _, rfl, rfl, (by show (0 : Int) < 2; decide), lq, _, _, _, rfl, rfl, SqL.of elq, ep, _, rfl, _, rfl, _, _, rfl, rfl, (by show (0 : Int) < 2; decide), ?_⟩
        refine ⟨p, pxs, od, (i : Int) % 2, rfl, hp, by omega, (tbS.same ST) _ tL1, (tbS.same ST) _ tL2, (by rw [pl]; exact BadO_kp bad (.same ST)), fun e => ?_, fun HU kU tU => ?_⟩
        · rw [pw e]; exact ⟨wvT.thw, wvT.out n0 n1⟩
        have kpU := kpT.trans kU
        have tbU := (tbS.same ST).trans tU
        have hOS := SS _ _ hOR
        refine ⟨true, rfl, iteF ?_⟩
        refine ⟨_, rfl, W, n, r, cs, rfl, wvL.kp kpU, n0, n1, fun Sx its HV SV hS sl9 itv => ?_⟩
        refine ⟨_, rfl, _, rfl, _, _, rfl, rfl, s1, ?_⟩
        (intro l9 gl9; generalize hEq : upd _ l9 _ = HW; refine newC hEq gl9 ?_; clear hEq; intro SW el9 ol9)
        refine ⟨ce, 90 + (i : Int), l9, [9], rfl, by omega, by omega, el9, by decide, (fun s hs => (by rw [List.mem_singleton.mp hs]; exact ⟨by decide, by decide +kernel⟩)), fun R2 ds2 HX SX gR2 eR2 bl2 => ?_⟩
        obtain ⟨d2, hd2, d20, d21⟩ := bl2.at (i := 0) (s := 9) rfl
        obtain ⟨d2, rfl⟩ := Int.eq_ofNat_of_zero_le d20
        have SVX := SW.trans SX
        have ey : its[d2]? = some (its[d2]'(by omega)) := List.getElem?_eq_getElem _
        obtain ⟨ty, xy, vy, eyy, hty, nwy⟩ := (itv _ (List.mem_of_getElem? ey)).same SVX
        rw [eyy] at ey
        refine ⟨R2, _, _, _, rfl, rfl, SqL.of eR2, atInts hd2 rfl, Sx, _, _, _, rfl, rfl, SqL.of (SVX _ _ hS), atI_nat ey, ty, _, rfl, SqT.of hty, rfl, _, _, rfl, _, _, rfl, rfl, ?_⟩
        have kpX := kpU.trans (.same (SV.trans SVX))
        have tbX := tbU.same (SV.trans SVX)
        refine ⟨_, rfl, _, rfl, _, rfl, sz (show 2 ≤ 100 by decide), ?_⟩
        (intro lz glz; generalize hEq : upd _ lz _ = HY; refine newC hEq glz ?_; clear hEq; intro SY elz olz)
        obtain ⟨oo, eoo⟩ : ∃ oo : V, atI [V.ref O, od] ((i : Int) % 2) = some oo := by
          rcases (show (i : Int) % 2 = 0 ∨ (i : Int) % 2 = 1 by omega) with e | e
          · rw [e]; exact ⟨_, rfl⟩
          · rw [e]; exact ⟨_, rfl⟩
        refine ⟨_, rfl, _, _, rfl, rfl, (by show (0 : Int) < 2; decide), lz, _, _, _, rfl, rfl, SqL.of elz, eoo, ?_⟩
        have nwz := nwy.same SY
        refine ⟨xy, oo, vy, rfl, nwz.1, nwz.2, (tbX.same SY) _ tL1, (tbX.same SY) _ tL2, fun HZ kZ tZ => ?_⟩
        refine ⟨_, rfl, outW_scal nwz.2, _, rfl, ?_⟩
        rw [show (!decide (vy = vy)) = false by simp]
        refine iteF ?_
        refine ⟨⟨_, _, _, _, _, _, _, _, _, rfl⟩, (kpX.trans (.same SY)).trans kZ, (tbX.same SY).trans tZ⟩
    · rintro σ H' ⟨⟨v4, v5, v6, v7, v8, v9, v10, v11, v12, rfl⟩, kp, tb⟩
      refine ⟨Nat.zero_le _, ?_⟩
      (intro b0 gb0; generalize hEq : upd _ b0 _ = HA; refine newC hEq gb0 ?_; clear hEq; intro XA eb0 ob0)
      refine ⟨Nat.zero_le _, ?_⟩
      (intro c0 gc0; generalize hEq : upd _ c0 _ = HB; refine newC hEq gc0 ?_; clear hEq; intro XB ec0 oc0)
      refine ⟨b0, [], .ref c0, rfl, XB _ _ eb0, by decide, (tb _ tL2).same (XA.trans XB), .inl ⟨c0, [], rfl, ec0, .refl _, fun l ys H1 k1 t1 nl hl pt => ?_⟩⟩
      refine ⟨Nat.zero_le _, ?_⟩
      (intro d0_ gd0_; generalize hEq : upd _ d0_ _ = H2; refine newC hEq gd0_ ?_; clear hEq; intro X2 ed0_ od0_)
      obtain rfl : ys = [] := List.length_eq_zero_iff.mp pt.len
      exact ⟨0, true, by decide, .lsts (fun _ => true) (SqL.of (X2 _ _ hl)) (SqL.of ed0_) rfl (fun j x y h => by simp at h), q _⟩
end
end G1
namespace L2
open PySem PySem.Spec PyProof.Rows PySem.W PySem.W.X
def keepP (p : Addr × Obj) : Bool := match p.2.data with | .fields vs => !vs.isEmpty | _ => true
def filt (K : Frag) : Frag := K.filter keepP
theorem filt_look {a : Addr} {o : Obj} : ∀ {K : Frag}, K.lookup a = some o → keepP (a, o) = true → (filt K).lookup a = some o
  | [], e, _ => nomatch e
  | (b, u) :: K, e, k => by
    by_cases q : a = b
    · subst q
      have e' : some u = some o := by rw [List.lookup_cons, beq_self_eq_true] at e; exact e
      cases e'
      have z : filt ((a, o) :: K) = (a, o) :: filt K := List.filter_cons_of_pos k
      rw [z, List.lookup_cons, beq_self_eq_true]
    · have f : (a == b) = false := beq_eq_false_iff_ne.mpr q
      have e' : K.lookup a = some o := by rw [List.lookup_cons, f] at e; exact e
      have r := filt_look e' k
      cases hk : keepP (b, u) with
      | true =>
        have z : filt ((b, u) :: K) = (b, u) :: filt K := List.filter_cons_of_pos hk
        rw [z, List.lookup_cons, f]; exact r
      | false =>
        have z : filt ((b, u) :: K) = filt K := List.filter_cons_of_neg (by rw [hk]; exact Bool.false_ne_true)
        rw [z]; exact r
theorem filt_ns {K : Frag} {ns : Addr} {x : Str} {v : Option Value} (e : nsIn K ns x = some v) : nsIn (filt K) ns x = some v := by
  unfold nsIn at e ⊢
  split at e
  next cls d es ep sl l => rw [filt_look l rfl]; exact e
  next => cases e
theorem filt_code {K : Frag} {cd : Value} {q : Str} (e : codeIn K cd q = true) : codeIn (filt K) cd q = true := by
  unfold codeIn at e ⊢
  split at e
  next c =>
    split at e
    next cls d vs sl l =>
      rw [filt_look l (by
        show (!vs.isEmpty) = true
        cases hv : vs.isEmpty with
        | false => rfl
        | true =>
          rw [Array.isEmpty_iff] at hv
          subst hv
          exact e)]
      exact e
    next => cases e
  next => cases e
theorem filt_mem {a : Addr} {o : Obj} : ∀ {K : Frag}, (filt K).lookup a = some o → (a, o) ∈ K
  | [], e => nomatch e
  | (b, u) :: K, e => by
    cases hk : keepP (b, u) with
    | true =>
      have z : filt ((b, u) :: K) = (b, u) :: filt K := List.filter_cons_of_pos hk
      rw [z, List.lookup_cons] at e
      by_cases q : a = b
      · subst q
        rw [beq_self_eq_true] at e
        cases e
        exact List.mem_cons_self ..
      · rw [beq_eq_false_iff_ne.mpr q] at e
        exact List.mem_cons_of_mem _ (filt_mem e)
    | false =>
      have z : filt ((b, u) :: K) = filt K := List.filter_cons_of_neg (by rw [hk]; exact Bool.false_ne_true)
      rw [z] at e
      exact List.mem_cons_of_mem _ (filt_mem e)
theorem allIn_mem {h : Heap} : ∀ {K : Frag} {p : Addr × Obj}, AllIn h K → p ∈ K → h.get? p.1 = some p.2
  | [], _, _, m => nomatch m
  | q :: K, p, A, m => by
    rcases List.mem_cons.mp m with rfl | m
    · exact A.1
    · exact allIn_mem A.2 m
theorem walkX_of {q : Program} {loose : List Str} {XP : (Str → Option Value) → Heap → Prop} {K : Params → Frag} {as : List Addr} {n t : Nat} {r : RowW} {d : DefRec} {kwd : List (Str × PySem.Expr)} {run : Value → List Value → Sem Value}
    (e : ∀ P, as = (K P).map (·.1)) (h : WalkO q loose XP (fun w h => (filt (K w.params)).In h) r d kwd run) : WalkX q loose XP (obsZ as) (valZ K n t) r d kwd run :=
  fun w s₀ s₁ mg mb G Y a o pm cd doc dV kV ho hd hcd hD hmg hg args vals as L hpre hlay hrd hwl hlo =>
    h w s₀ s₁ mg mb G (fun b u l => L.keeps _ _ (allIn_mem (z_facts e Y).1 (filt_mem l))) a o pm cd doc dV kV ho hd hcd hD hmg hg args vals as hpre hlay hrd hwl hlo
end L2
namespace L2
open PySem PySem.Spec PyProof.Rows PySem.W PySem.W.X
theorem filt_own {K : Frag} {x : Str} {v : Value} {r : Option Value} (e : ownIn K x v = some r) : ownIn (filt K) x v = some r := by
  unfold ownIn at e ⊢
  split at e
  next n => exact e
  next a =>
    split at e
    next cls d cd sl l => rw [filt_look l rfl]; exact filt_ns e
    next => cases e
  next h1 h2 => exact e
theorem filt_along {K : Frag} {x : Str} : ∀ {l : List Value} {r : Option Value}, alongIn K x l = some r → alongIn (filt K) x l = some r
  | [], r, e => by rw [alongIn.eq_1] at e ⊢; exact e
  | c :: l, r, e => by
    rw [alongIn.eq_2] at e ⊢
    cases h : ownIn K x c with
    | none => rw [h] at e; cases e
    | some o =>
      rw [h] at e
      rw [filt_own h]
      cases o with
      | some v => exact e
      | none => exact filt_along e
theorem filt_find {K : Frag} {t : Value} {x : Str} {r : Option Value} (e : findIn K t x = some r) : findIn (filt K) t x = some r := by
  unfold findIn at e ⊢
  split at e
  next n => exact e
  next a =>
    split at e
    next cls d cd sl l => rw [filt_look l rfl]; exact filt_along e
    next => cases e
  next => cases e
end L2
namespace G1
open PySem PySem.Spec PyProof.Rows L2 GM
theorem keep_of {K : PySem.W.Frag} {f : Addr} {oc : Value} {od : Option Addr} {fd : FuncData} {sl : Array (Option Value)} (l : K.lookup f = some ⟨oc, od, .func fd, sl⟩) : PySem.W.keepIn K (.ref f) = true := by
  unfold PySem.W.keepIn
  simp only [l]
theorem cd_of {K : PySem.W.Frag} {n x q : Str} {f c T : Addr} {fd : FuncData} {oc : Value} {od : Option Addr} {sl : Array (Option Value)} {ar : Arguments} {bo : List Stmt} {sc : Scope} {dV kV dc pm cd ct : Value} {an : Option Addr} (C : CodeN K n f c T fd) (l : K.lookup f = some ⟨oc, od, .func (PySem.W.fnOf x q ar bo sc dV kV dc pm an cd ct), sl⟩) : cd = .ref c := by
  obtain ⟨oc', od', sl', l'⟩ := C.l
  rw [l] at l'
  injection l' with l'; injection l' with _ _ l' _; injection l' with l'
  rw [← C.hc, ← l']
theorem len1 {us : List Value} (h : us.length = 1) : ∃ a0, us = [a0] := by
  match us, h with
  | [a0], _ => exact ⟨a0, rfl⟩
theorem len2 {us : List Value} (h : us.length = 2) : ∃ a0 a1, us = [a0, a1] := by
  match us, h with
  | [a0, a1], _ => exact ⟨a0, a1, rfl⟩
theorem len3 {us : List Value} (h : us.length = 3) : ∃ a0 a1 a2, us = [a0, a1, a2] := by
  match us, h with
  | [a0, a1, a2], _ => exact ⟨a0, a1, a2, rfl⟩
theorem all_mk {l : PySem.W.OpenLaw} {w : World} {K : PySem.W.Frag} {h : Heap} {mg : Str → Option Value} {fa : Addr} (X : K.In h) (G : h.Ns mainGlobals mg) (hfa : mg "law" = some (.ref fa))
    {f0 : Addr} {od0 an0 : Option Addr} {sl0 : Array (Option Value)} {oc0 kV0 dc0 pm0 cd0 ct0 : Value}
    {f1 : Addr} {od1 an1 : Option Addr} {sl1 : Array (Option Value)} {oc1 kV1 dc1 pm1 cd1 ct1 : Value}
    {f2 : Addr} {od2 an2 : Option Addr} {sl2 : Array (Option Value)} {oc2 kV2 dc2 pm2 cd2 ct2 : Value}
    {cc2 T2 : Addr} {fdT2 : FuncData}
    {f3 : Addr} {od3 an3 : Option Addr} {sl3 : Array (Option Value)} {oc3 kV3 dc3 pm3 cd3 ct3 : Value}
    {f4 : Addr} {od4 an4 : Option Addr} {sl4 : Array (Option Value)} {oc4 kV4 dc4 pm4 cd4 ct4 : Value}
    {f5 : Addr} {od5 an5 : Option Addr} {sl5 : Array (Option Value)} {oc5 kV5 dc5 pm5 cd5 ct5 : Value}
    {f6 : Addr} {od6 an6 : Option Addr} {sl6 : Array (Option Value)} {oc6 kV6 dc6 pm6 cd6 ct6 : Value}
    {f7 : Addr} {od7 an7 : Option Addr} {sl7 : Array (Option Value)} {oc7 kV7 dc7 pm7 cd7 ct7 : Value}
    {f8 : Addr} {od8 an8 : Option Addr} {sl8 : Array (Option Value)} {oc8 kV8 dc8 pm8 cd8 ct8 : Value}
    {f9 : Addr} {od9 an9 : Option Addr} {sl9 : Array (Option Value)} {oc9 kV9 dc9 pm9 cd9 ct9 : Value}
    {cc9 T9 : Addr} {fdT9 : FuncData}
    {f10 : Addr} {od10 an10 : Option Addr} {sl10 : Array (Option Value)} {oc10 kV10 dc10 pm10 cd10 ct10 : Value}
    {f11 : Addr} {od11 an11 : Option Addr} {sl11 : Array (Option Value)} {oc11 kV11 dc11 pm11 cd11 ct11 : Value}
    {f12 : Addr} {od12 an12 : Option Addr} {sl12 : Array (Option Value)} {oc12 kV12 dc12 pm12 cd12 ct12 : Value}
    {f13 : Addr} {od13 an13 : Option Addr} {sl13 : Array (Option Value)} {oc13 kV13 dc13 pm13 cd13 ct13 : Value}
    {f14 : Addr} {od14 an14 : Option Addr} {sl14 : Array (Option Value)} {oc14 kV14 dc14 pm14 cd14 ct14 : Value}
    {f15 : Addr} {od15 an15 : Option Addr} {sl15 : Array (Option Value)} {oc15 kV15 dc15 pm15 cd15 ct15 : Value}
    {f16 : Addr} {od16 an16 : Option Addr} {sl16 : Array (Option Value)} {oc16 kV16 dc16 pm16 cd16 ct16 : Value}
    {f17 : Addr} {od17 an17 : Option Addr} {sl17 : Array (Option Value)} {oc17 kV17 dc17 pm17 cd17 ct17 : Value}
    {f18 : Addr} {od18 an18 : Option Addr} {sl18 : Array (Option Value)} {oc18 kV18 dc18 pm18 cd18 ct18 : Value}
    {f19 : Addr} {od19 an19 : Option Addr} {sl19 : Array (Option Value)} {oc19 kV19 dc19 pm19 cd19 ct19 : Value}
    {tkA tkB tkC tkD : Tok}
    {C0 C1 C2 C3 C4 C5 C6 C7 C8 C9 C10 C11 C12 C13 C14 : Addr}
    {fI4 : Addr}
    (CN2 : CodeN K "is_name" f2 cc2 T2 fdT2)
    (CN9 : CodeN K "look_at_order" f9 cc9 T9 fdT9)
    (a0 : PySem.W.nsIn K mainGlobals "is_whole" = some (some (.ref f0)))
    (l0 : K.lookup f0 = some ⟨oc0, od0, .func (PySem.W.fnOf "is_whole" "is_whole" (defArgs sWhole) (defBody sWhole) (defScope sWhole) .none kV0 dc0 pm0 an0 cd0 ct0), sl0⟩)
    (c0 : PySem.W.codeIn K cd0 "is_whole" = true)
    (a1 : PySem.W.nsIn K mainGlobals "is_whole_within" = some (some (.ref f1)))
    (l1 : K.lookup f1 = some ⟨oc1, od1, .func (PySem.W.fnOf "is_whole_within" "is_whole_within" (defArgs sWithin) (defBody sWithin) (defScope sWithin) .none kV1 dc1 pm1 an1 cd1 ct1), sl1⟩)
    (c1 : PySem.W.codeIn K cd1 "is_whole_within" = true)
    (a2 : PySem.W.nsIn K mainGlobals "is_name" = some (some (.ref f2)))
    (l2 : K.lookup f2 = some ⟨oc2, od2, .func (PySem.W.fnOf "is_name" "is_name" (defArgs sName) (defBody sName) (defScope sName) .none kV2 dc2 pm2 an2 cd2 ct2), sl2⟩)
    (c2 : PySem.W.codeIn K cd2 "is_name" = true)
    (a3 : PySem.W.nsIn K mainGlobals "look_at_wants" = some (some (.ref f3)))
    (l3 : K.lookup f3 = some ⟨oc3, od3, .func (PySem.W.fnOf "look_at_wants" "look_at_wants" (defArgs sLookW) (defBody sLookW) (defScope sLookW) .none kV3 dc3 pm3 an3 cd3 ct3), sl3⟩)
    (c3 : PySem.W.codeIn K cd3 "look_at_wants" = true)
    (a4 : PySem.W.nsIn K mainGlobals "is_want" = some (some (.ref f4)))
    (l4 : K.lookup f4 = some ⟨oc4, od4, .func (PySem.W.fnOf "is_want" "is_want" (defArgs sWant) (defBody sWant) (defScope sWant) .none kV4 dc4 pm4 an4 cd4 ct4), sl4⟩)
    (c4 : PySem.W.codeIn K cd4 "is_want" = true)
    (a5 : PySem.W.nsIn K mainGlobals "is_count" = some (some (.ref f5)))
    (l5 : K.lookup f5 = some ⟨oc5, od5, .func (PySem.W.fnOf "is_count" "is_count" (defArgs sCount) (defBody sCount) (defScope sCount) .none kV5 dc5 pm5 an5 cd5 ct5), sl5⟩)
    (c5 : PySem.W.codeIn K cd5 "is_count" = true)
    (a6 : PySem.W.nsIn K mainGlobals "put_in_places" = some (some (.ref f6)))
    (l6 : K.lookup f6 = some ⟨oc6, od6, .func (PySem.W.fnOf "put_in_places" "put_in_places" (defArgs sPlaces) (defBody sPlaces) (defScope sPlaces) .none kV6 dc6 pm6 an6 cd6 ct6), sl6⟩)
    (c6 : PySem.W.codeIn K cd6 "put_in_places" = true)
    (a7 : PySem.W.nsIn K mainGlobals "put_wants" = some (some (.ref f7)))
    (l7 : K.lookup f7 = some ⟨oc7, od7, .func (PySem.W.fnOf "put_wants" "put_wants" (defArgs sPutW) (defBody sPutW) (defScope sPutW) .none kV7 dc7 pm7 an7 cd7 ct7), sl7⟩)
    (c7 : PySem.W.codeIn K cd7 "put_wants" = true)
    (a8 : PySem.W.nsIn K mainGlobals "put_book" = some (some (.ref f8)))
    (l8 : K.lookup f8 = some ⟨oc8, od8, .func (PySem.W.fnOf "put_book" "put_book" (defArgs sPutB) (defBody sPutB) (defScope sPutB) .none kV8 dc8 pm8 an8 cd8 ct8), sl8⟩)
    (c8 : PySem.W.codeIn K cd8 "put_book" = true)
    (a9 : PySem.W.nsIn K mainGlobals "look_at_order" = some (some (.ref f9)))
    (l9 : K.lookup f9 = some ⟨oc9, od9, .func (PySem.W.fnOf "look_at_order" "look_at_order" (defArgs sLookO) (defBody sLookO) (defScope sLookO) .none kV9 dc9 pm9 an9 cd9 ct9), sl9⟩)
    (c9 : PySem.W.codeIn K cd9 "look_at_order" = true)
    (a10 : PySem.W.nsIn K mainGlobals "_law_cell" = some (some (.ref f10)))
    (l10 : K.lookup f10 = some ⟨oc10, od10, .func (PySem.W.fnOf "_law_cell" "_law_cell" (defArgs sCell) (defBody sCell) (defScope sCell) .none kV10 dc10 pm10 an10 cd10 ct10), sl10⟩)
    (c10 : PySem.W.codeIn K cd10 "_law_cell" = true)
    (a11 : PySem.W.nsIn K mainGlobals "_law_draws" = some (some (.ref f11)))
    (l11 : K.lookup f11 = some ⟨oc11, od11, .func (PySem.W.fnOf "_law_draws" "_law_draws" (defArgs sDraws) (defBody sDraws) (defScope sDraws) .none kV11 dc11 pm11 an11 cd11 ct11), sl11⟩)
    (c11 : PySem.W.codeIn K cd11 "_law_draws" = true)
    (a12 : PySem.W.nsIn K mainGlobals "_law_wants" = some (some (.ref f12)))
    (l12 : K.lookup f12 = some ⟨oc12, od12, .func (PySem.W.fnOf "_law_wants" "_law_wants" (defArgs sWants) (defBody sWants) (defScope sWants) .none kV12 dc12 pm12 an12 cd12 ct12), sl12⟩)
    (c12 : PySem.W.codeIn K cd12 "_law_wants" = true)
    (a13 : PySem.W.nsIn K mainGlobals "_law_is_no_turn" = some (some (.ref f13)))
    (l13 : K.lookup f13 = some ⟨oc13, od13, .func (PySem.W.fnOf "_law_is_no_turn" "_law_is_no_turn" (defArgs sNoTurn) (defBody sNoTurn) (defScope sNoTurn) .none kV13 dc13 pm13 an13 cd13 ct13), sl13⟩)
    (c13 : PySem.W.codeIn K cd13 "_law_is_no_turn" = true)
    (a14 : PySem.W.nsIn K mainGlobals "_law_order" = some (some (.ref f14)))
    (l14 : K.lookup f14 = some ⟨oc14, od14, .func (PySem.W.fnOf "_law_order" "_law_order" (defArgs sOrder) (defBody sOrder) (defScope sOrder) .none kV14 dc14 pm14 an14 cd14 ct14), sl14⟩)
    (c14 : PySem.W.codeIn K cd14 "_law_order" = true)
    (a15 : PySem.W.nsIn K mainGlobals "_law_no_order" = some (some (.ref f15)))
    (l15 : K.lookup f15 = some ⟨oc15, od15, .func (PySem.W.fnOf "_law_no_order" "_law_no_order" (defArgs sNoOrder) (defBody sNoOrder) (defScope sNoOrder) .none kV15 dc15 pm15 an15 cd15 ct15), sl15⟩)
    (c15 : PySem.W.codeIn K cd15 "_law_no_order" = true)
    (a16 : PySem.W.nsIn K mainGlobals "_law_refused" = some (some (.ref f16)))
    (l16 : K.lookup f16 = some ⟨oc16, od16, .func (PySem.W.fnOf "_law_refused" "_law_refused" (defArgs sRefused) (defBody sRefused) (defScope sRefused) .none kV16 dc16 pm16 an16 cd16 ct16), sl16⟩)
    (c16 : PySem.W.codeIn K cd16 "_law_refused" = true)
    (a17 : PySem.W.nsIn K mainGlobals "_law_no_wants" = some (some (.ref f17)))
    (l17 : K.lookup f17 = some ⟨oc17, od17, .func (PySem.W.fnOf "_law_no_wants" "_law_no_wants" (defArgs sNoWants) (defBody sNoWants) (defScope sNoWants) .none kV17 dc17 pm17 an17 cd17 ct17), sl17⟩)
    (c17 : PySem.W.codeIn K cd17 "_law_no_wants" = true)
    (a18 : PySem.W.nsIn K mainGlobals "_law_number" = some (some (.ref f18)))
    (l18 : K.lookup f18 = some ⟨oc18, od18, .func (PySem.W.fnOf "_law_number" "_law_number" (defArgs sNumber) (defBody sNumber) (defScope sNumber) .none kV18 dc18 pm18 an18 cd18 ct18), sl18⟩)
    (c18 : PySem.W.codeIn K cd18 "_law_number" = true)
    (a19 : PySem.W.nsIn K mainGlobals "law" = some (some (.ref f19)))
    (l19 : K.lookup f19 = some ⟨oc19, od19, .func (PySem.W.fnOf "law" "law" (defArgs sLaw) (defBody sLaw) (defScope sLaw) .none kV19 dc19 pm19 an19 cd19 ct19), sl19⟩)
    (c19 : PySem.W.codeIn K cd19 "law" = true)
    (aLe : PySem.W.nsIn K mainGlobals "LETTERS" = some (some (.str letters tkA)))
    (aLo : PySem.W.nsIn K mainGlobals "LONGEST_NAME" = some (some (.int 8 tkB)))
    (aMt : PySem.W.nsIn K mainGlobals "MOST_THINGS" = some (some (.int 20 tkC)))
    (aMc : PySem.W.nsIn K mainGlobals "MOST_COUNT" = some (some (.int 1000000000 tkD)))
    (m0 : PySem.W.nsIn K mainGlobals "DearError" = some (some (.ref C0)))
    (m1 : PySem.W.nsIn K mainGlobals "NoTurn" = some (some (.ref C1)))
    (m2 : PySem.W.nsIn K mainGlobals "NoBook" = some (some (.ref C2)))
    (m3 : PySem.W.nsIn K mainGlobals "NoTongue" = some (some (.ref C3)))
    (m4 : PySem.W.nsIn K mainGlobals "NoWants" = some (some (.ref C4)))
    (m5 : PySem.W.nsIn K mainGlobals "NoTree" = some (some (.ref C5)))
    (m6 : PySem.W.nsIn K mainGlobals "TooMany" = some (some (.ref C6)))
    (m7 : PySem.W.nsIn K mainGlobals "NoUndo" = some (some (.ref C7)))
    (m8 : PySem.W.nsIn K mainGlobals "NoCount" = some (some (.ref C8)))
    (m9 : PySem.W.nsIn K mainGlobals "NoNumber" = some (some (.ref C9)))
    (m10 : PySem.W.nsIn K mainGlobals "NoRow" = some (some (.ref C10)))
    (m11 : PySem.W.nsIn K mainGlobals "NoText" = some (some (.ref C11)))
    (m12 : PySem.W.nsIn K mainGlobals "Unknown" = some (some (.ref C12)))
    (m13 : PySem.W.nsIn K mainGlobals "NoThing" = some (some (.ref C13)))
    (m14 : PySem.W.nsIn K mainGlobals "BadSign" = some (some (.ref C14)))
    (q1 : PySem.W.findIn K (.ref C1) "__getattribute__" = some (some (.builtin "BaseException.__getattribute__")))
    (q0 : PySem.W.findIn K (.ref C1) "__getattr__" = some none)
    (q2 : PySem.W.hasDictIn K C1 = true)
    (q3 : PySem.W.findIn K (.ref C1) "__class__" = some (some (.builtin "object.__class__")))
    (q6 : PySem.W.mroIn K C1 (.type "object") = some true)
    (qb : PySem.W.mroIn K C1 (.type "BaseException") = some true)
    (q7 : PySem.W.mroIn K C1 (.ref C1) = some true)
    (q4 : PySem.W.specialIn K (.builtin "object.__class__") "__get__" = some (some (.builtin "getset_descriptor.__get__")))
    (q5 : PySem.W.takesIn K (.builtin "object.__class__") = some true)
    (q8 : PySem.W.mroIn K C1 (.type "ValueError") = some true)
    (q9 : PySem.W.mroIn K C1 (.ref C0) = some true)
    (r1 : PySem.W.instIn K (.ref C0) (.type "tuple") = some false)
    (r2 : PySem.W.hasDictIn K C0 = true)
    (r3 : PySem.W.mroIn K C0 (.type "BaseException") = some true)
    (n2 : PySem.W.mroIn K C1 (.ref C2) = some false)
    (d2 : PySem.W.hasDictIn K C2 = true)
    (t2 : PySem.W.typeIn K (.ref C2) = some (.type "type"))
    (n3 : PySem.W.mroIn K C1 (.ref C3) = some false)
    (d3 : PySem.W.hasDictIn K C3 = true)
    (t3 : PySem.W.typeIn K (.ref C3) = some (.type "type"))
    (n4 : PySem.W.mroIn K C1 (.ref C4) = some false)
    (d4 : PySem.W.hasDictIn K C4 = true)
    (t4 : PySem.W.typeIn K (.ref C4) = some (.type "type"))
    (n5 : PySem.W.mroIn K C1 (.ref C5) = some false)
    (d5 : PySem.W.hasDictIn K C5 = true)
    (t5 : PySem.W.typeIn K (.ref C5) = some (.type "type"))
    (n6 : PySem.W.mroIn K C1 (.ref C6) = some false)
    (d6 : PySem.W.hasDictIn K C6 = true)
    (t6 : PySem.W.typeIn K (.ref C6) = some (.type "type"))
    (n7 : PySem.W.mroIn K C1 (.ref C7) = some false)
    (d7 : PySem.W.hasDictIn K C7 = true)
    (t7 : PySem.W.typeIn K (.ref C7) = some (.type "type"))
    (n8 : PySem.W.mroIn K C1 (.ref C8) = some false)
    (d8 : PySem.W.hasDictIn K C8 = true)
    (t8 : PySem.W.typeIn K (.ref C8) = some (.type "type"))
    (n9 : PySem.W.mroIn K C1 (.ref C9) = some false)
    (d9 : PySem.W.hasDictIn K C9 = true)
    (t9 : PySem.W.typeIn K (.ref C9) = some (.type "type"))
    (n10 : PySem.W.mroIn K C1 (.ref C10) = some false)
    (d10 : PySem.W.hasDictIn K C10 = true)
    (t10 : PySem.W.typeIn K (.ref C10) = some (.type "type"))
    (n11 : PySem.W.mroIn K C1 (.ref C11) = some false)
    (d11 : PySem.W.hasDictIn K C11 = true)
    (t11 : PySem.W.typeIn K (.ref C11) = some (.type "type"))
    (n12 : PySem.W.mroIn K C1 (.ref C12) = some false)
    (d12 : PySem.W.hasDictIn K C12 = true)
    (t12 : PySem.W.typeIn K (.ref C12) = some (.type "type"))
    (n13 : PySem.W.mroIn K C1 (.ref C13) = some false)
    (d13 : PySem.W.hasDictIn K C13 = true)
    (t13 : PySem.W.typeIn K (.ref C13) = some (.type "type"))
    (n14 : PySem.W.mroIn K C1 (.ref C14) = some false)
    (d14 : PySem.W.hasDictIn K C14 = true)
    (t14 : PySem.W.typeIn K (.ref C14) = some (.type "type"))
    (qA : PySem.W.findIn K (.ref C4) "__getattribute__" = some (some (.builtin "BaseException.__getattribute__")))
    (qB : PySem.W.findIn K (.ref C4) "__getattr__" = some none)
    (qC : PySem.W.hasDictIn K C4 = true)
    (qD : PySem.W.findIn K (.ref C4) "__class__" = some (some (.builtin "object.__class__")))
    (qG : PySem.W.mroIn K C4 (.type "object") = some true)
    (qH : PySem.W.mroIn K C4 (.type "BaseException") = some true)
    (qI : PySem.W.mroIn K C4 (.ref C4) = some true)
    (r4 : PySem.W.instIn K (.ref C4) (.type "tuple") = some false)
    (nx : PySem.W.findIn K (.ref C4) "number" = some none)
    (excB : PySem.W.excIn K C1 bmV "ValueError.__new__" = true)
    (IKf : PySem.W.findIn K (.ref C4) "__init__" = some (some (.ref fI4)))
    (IK : InitK l.prog w K mg C4 fI4 "number")
    (zzi : PySem.W.nsIn K mainGlobals "zip" = some none)
    (zve : PySem.W.nsIn K mainGlobals "ValueError" = some none)
    (z_isi : PySem.W.nsIn K mainGlobals "isinstance" = some none)
    (z_int : PySem.W.nsIn K mainGlobals "int" = some none)
    (z_bool : PySem.W.nsIn K mainGlobals "bool" = some none)
    (z_tuple : PySem.W.nsIn K mainGlobals "tuple" = some none)
    (z_abs : PySem.W.nsIn K mainGlobals "abs" = some none)
    (z_len : PySem.W.nsIn K mainGlobals "len" = some none)
    (z_enum : PySem.W.nsIn K mainGlobals "enumerate" = some none)
    (z_str : PySem.W.nsIn K mainGlobals "str" = some none)
    (z_range : PySem.W.nsIn K mainGlobals "range" = some none)
    (z_max : PySem.W.nsIn K mainGlobals "max" = some none)
    (z_all : PySem.W.nsIn K mainGlobals "all" = some none)
    (z_set : PySem.W.nsIn K mainGlobals "set" = some none)
    (z_list : PySem.W.nsIn K mainGlobals "list" = some none)
    (z_min : PySem.W.nsIn K mainGlobals "min" = some none) :
    ∃ fd : FuncData, (∀ (s : Shared) (v : Value), BindsTo s fd ⟨[v], []⟩ [("_law_script", v)]) ∧ ∀ base : Heap, K.In base → base.Ns mainGlobals mg → BmOf mg base → FnOk l.prog w K mg base (CXE l.prog w) 8 fa fd ["_law_script"] (spLaw (tbOf K "is_name") (tbOf K "look_at_order") K) := by
  have e := hfa.symm.trans (PySem.W.mg_of X G a19)
  cases e
  have B : Bl mg := ⟨PySem.W.mg_none_of X G z_isi, PySem.W.mg_none_of X G z_int, PySem.W.mg_none_of X G z_bool, PySem.W.mg_none_of X G z_tuple, PySem.W.mg_none_of X G z_abs, PySem.W.mg_none_of X G z_len, PySem.W.mg_none_of X G z_enum, PySem.W.mg_none_of X G z_str, PySem.W.mg_none_of X G z_range, PySem.W.mg_none_of X G z_max, PySem.W.mg_none_of X G z_all, PySem.W.mg_none_of X G z_set, PySem.W.mg_none_of X G z_list, PySem.W.mg_none_of X G z_min⟩
  have hcd2 := cd_of CN2 l2
  subst hcd2
  rw [CN2.tb]
  have hcd9 := cd_of CN9 l9
  subst hcd9
  rw [CN9.tb]
  have k0 := keep_of l0
  have F0 := fung_mk (st := sWhole) l0 c0 k0
  have k1 := keep_of l1
  have F1 := fung_mk (st := sWithin) l1 c1 k1
  have k2 := keep_of l2
  have F2 := fung_mk (st := sName) l2 c2 k2
  have k3 := keep_of l3
  have F3 := fung_mk (st := sLookW) l3 c3 k3
  have k4 := keep_of l4
  have F4 := fung_mk (st := sWant) l4 c4 k4
  have k5 := keep_of l5
  have F5 := fung_mk (st := sCount) l5 c5 k5
  have k6 := keep_of l6
  have F6 := fung_mk (st := sPlaces) l6 c6 k6
  have k7 := keep_of l7
  have F7 := fung_mk (st := sPutW) l7 c7 k7
  have k8 := keep_of l8
  have F8 := fung_mk (st := sPutB) l8 c8 k8
  have k9 := keep_of l9
  have F9 := fung_mk (st := sLookO) l9 c9 k9
  have k10 := keep_of l10
  have F10 := fung_mk (st := sCell) l10 c10 k10
  have k11 := keep_of l11
  have F11 := fung_mk (st := sDraws) l11 c11 k11
  have k12 := keep_of l12
  have F12 := fung_mk (st := sWants) l12 c12 k12
  have k13 := keep_of l13
  have F13 := fung_mk (st := sNoTurn) l13 c13 k13
  have k14 := keep_of l14
  have F14 := fung_mk (st := sOrder) l14 c14 k14
  have k15 := keep_of l15
  have F15 := fung_mk (st := sNoOrder) l15 c15 k15
  have k16 := keep_of l16
  have F16 := fung_mk (st := sRefused) l16 c16 k16
  have k17 := keep_of l17
  have F17 := fung_mk (st := sNoWants) l17 c17 k17
  have k18 := keep_of l18
  have F18 := fung_mk (st := sNumber) l18 c18 k18
  have k19 := keep_of l19
  have F19 := fung_mk (st := sLaw) l19 c19 k19
  have b0 := F0.binds (ps := ["thing"]) fun _ _ _ _ _ _ us hl => by obtain ⟨_, rfl⟩ := len1 hl; rfl
  have b1 := F1.binds (ps := ["thing", "least", "most"]) fun _ _ _ _ _ _ us hl => by obtain ⟨_, _, _, rfl⟩ := len3 hl; rfl
  have b2 := F2.binds (ps := ["thing"]) fun _ _ _ _ _ _ us hl => by obtain ⟨_, rfl⟩ := len1 hl; rfl
  have b3 := F3.binds (ps := ["thing"]) fun _ _ _ _ _ _ us hl => by obtain ⟨_, rfl⟩ := len1 hl; rfl
  have b4 := F4.binds (ps := ["thing"]) fun _ _ _ _ _ _ us hl => by obtain ⟨_, rfl⟩ := len1 hl; rfl
  have b5 := F5.binds (ps := ["thing"]) fun _ _ _ _ _ _ us hl => by obtain ⟨_, rfl⟩ := len1 hl; rfl
  have b6 := F6.binds (ps := ["some", "places"]) fun _ _ _ _ _ _ us hl => by obtain ⟨_, _, rfl⟩ := len2 hl; rfl
  have b7 := F7.binds (ps := ["wants", "order"]) fun _ _ _ _ _ _ us hl => by obtain ⟨_, _, rfl⟩ := len2 hl; rfl
  have b8 := F8.binds (ps := ["book", "order"]) fun _ _ _ _ _ _ us hl => by obtain ⟨_, _, rfl⟩ := len2 hl; rfl
  have b9 := F9.binds (ps := ["many", "thing"]) fun _ _ _ _ _ _ us hl => by obtain ⟨_, _, rfl⟩ := len2 hl; rfl
  have b10 := F10.binds (ps := ["_law_script", "_law_k"]) fun _ _ _ _ _ _ us hl => by obtain ⟨_, _, rfl⟩ := len2 hl; rfl
  have b11 := F11.binds (ps := ["_law_cell_here", "_law_k", "_law_sizes"]) fun _ _ _ _ _ _ us hl => by obtain ⟨_, _, _, rfl⟩ := len3 hl; rfl
  have b12 := F12.binds (ps := ["_law_script", "_law_at", "_law_many"]) fun _ _ _ _ _ _ us hl => by obtain ⟨_, _, _, rfl⟩ := len3 hl; rfl
  have b13 := F13.binds (ps := ["_law_kept"]) fun _ _ _ _ _ _ us hl => by obtain ⟨_, rfl⟩ := len1 hl; rfl
  have b14 := F14.binds (ps := ["_law_cell_here", "_law_k", "_law_many"]) fun _ _ _ _ _ _ us hl => by obtain ⟨_, _, _, rfl⟩ := len3 hl; rfl
  have b15 := F15.binds (ps := ["_law_order_here", "_law_cell_here", "_law_k"]) fun _ _ _ _ _ _ us hl => by obtain ⟨_, _, _, rfl⟩ := len3 hl; rfl
  have b16 := F16.binds (ps := ["_law_things", "_law_thing", "_law_way"]) fun _ _ _ _ _ _ us hl => by obtain ⟨_, _, _, rfl⟩ := len3 hl; rfl
  have b17 := F17.binds (ps := ["_law_wants_here"]) fun _ _ _ _ _ _ us hl => by obtain ⟨_, rfl⟩ := len1 hl; rfl
  have b18 := F18.binds (ps := ["_law_thing", "_law_order_here"]) fun _ _ _ _ _ _ us hl => by obtain ⟨_, _, rfl⟩ := len2 hl; rfl
  have cl : ∀ {D : Addr}, PySem.W.hasDictIn K D = true → (PySem.W.clsIn K D).isSome = true := fun q => by
    obtain ⟨cd, z, _⟩ := PySem.W.any_some q
    rw [z]; rfl
  have C : Cl K mg [C0, C1, C2, C3, C4, C5, C6, C7, C8, C9, C10, C11, C12, C13, C14] := by
    refine ⟨rfl, PySem.W.mg_of X G m0, PySem.W.mg_of X G m1, PySem.W.mg_of X G m2, PySem.W.mg_of X G m3, PySem.W.mg_of X G m4, PySem.W.mg_of X G m5, PySem.W.mg_of X G m6, PySem.W.mg_of X G m7, PySem.W.mg_of X G m8, PySem.W.mg_of X G m9, PySem.W.mg_of X G m10, PySem.W.mg_of X G m11, PySem.W.mg_of X G m12, PySem.W.mg_of X G m13, PySem.W.mg_of X G m14, excB, ⟨q1, q0, q2, q3, q4, q5, q6, qb⟩, q7, q8, q9, ⟨r1, cl r2, r3⟩, fun i h1 h2 => ?_, ⟨qA, qB, qC, qD, q4, q5, qG, qH⟩, qI, ⟨r4, cl qC, qH⟩, nx⟩
    have L : ∀ D ∈ [C2, C3, C4, C5, C6, C7, C8, C9, C10, C11, C12, C13, C14], Other K C1 D := List.forall_mem_cons.mpr ⟨⟨n2, d2, t2⟩, List.forall_mem_cons.mpr ⟨⟨n3, d3, t3⟩, List.forall_mem_cons.mpr ⟨⟨n4, d4, t4⟩, List.forall_mem_cons.mpr ⟨⟨n5, d5, t5⟩, List.forall_mem_cons.mpr ⟨⟨n6, d6, t6⟩, List.forall_mem_cons.mpr ⟨⟨n7, d7, t7⟩, List.forall_mem_cons.mpr ⟨⟨n8, d8, t8⟩, List.forall_mem_cons.mpr ⟨⟨n9, d9, t9⟩, List.forall_mem_cons.mpr ⟨⟨n10, d10, t10⟩, List.forall_mem_cons.mpr ⟨⟨n11, d11, t11⟩, List.forall_mem_cons.mpr ⟨⟨n12, d12, t12⟩, List.forall_mem_cons.mpr ⟨⟨n13, d13, t13⟩, List.forall_mem_cons.mpr ⟨⟨n14, d14, t14⟩, fun _ h => nomatch h⟩⟩⟩⟩⟩⟩⟩⟩⟩⟩⟩⟩⟩
    obtain ⟨j, rfl⟩ : ∃ j, i = j + 2 := ⟨i - 2, by omega⟩
    have hj : j < 13 := by omega
    show Other K C1 ([C2, C3, C4, C5, C6, C7, C8, C9, C10, C11, C12, C13, C14].getD j 0)
    rw [List.getD_eq_getElem?_getD, List.getElem?_eq_getElem (by exact hj)]
    exact L _ (List.getElem_mem _)
  refine ⟨PySem.W.fnOf "law" "law" (defArgs sLaw) (defBody sLaw) (defScope sLaw) .none kV19 dc19 pm19 an19 cd19 ct19, fun s v => .of_eq rfl, fun base _ _ BM => ?_⟩
  have GW := ok_whole (P := l.prog) (w := w) (mg := mg) (base := base) F0 B
  have GI := ok_within (P := l.prog) (w := w) (mg := mg) (base := base) F1 GW (PySem.W.mg_of X G a0) k0 b0
  have GN := ok_name (P := l.prog) (w := w) (mg := mg) (base := base) l2 c2 B CN2.ck BM (PySem.W.mg_of X G aLe) (PySem.W.mg_of X G aLo)
  have GCo := ok_count (P := l.prog) (w := w) (mg := mg) (base := base) F5 GI (PySem.W.mg_of X G a1) k1 b1 (PySem.W.mg_of X G aMc)
  have GWa := ok_want (P := l.prog) (w := w) (mg := mg) (base := base) F4 B GN (PySem.W.mg_of X G a2) k2 b2 GCo (PySem.W.mg_of X G a5) k5 b5
  have GLw := ok_lookWs (P := l.prog) (w := w) (mg := mg) (base := base) F3 B GWa (PySem.W.mg_of X G a4) k4 b4 (PySem.W.mg_of X G aMt) (PySem.W.mg_of X G m4) IK
  have GCe := ok_cell (P := l.prog) (w := w) (mg := mg) (base := base) F10 B
  have GD := ok_draws (P := l.prog) (w := w) (mg := mg) (base := base) F11 B
  have GV := ok_wants (P := l.prog) (w := w) (mg := mg) (base := base) F12 B GCe (PySem.W.mg_of X G a10) k10 b10 GD (PySem.W.mg_of X G a11) k11 b11
  have GPl := ok_places (P := l.prog) (w := w) (mg := mg) (base := base) F6 B (PySem.W.mg_none_of X G zzi)
  have GLo := ok_lookO (P := l.prog) (w := w) (mg := mg) (base := base) l9 c9 B CN9.ck BM (PySem.W.mg_of X G m1) excB GI (PySem.W.mg_of X G a1) k1 b1
  have GPb := ok_putB (P := l.prog) (w := w) (mg := mg) (base := base) F8 B GLo (PySem.W.mg_of X G a9) k9 b9 GPl (PySem.W.mg_of X G a6) k6 b6
  have GPw := ok_putW (P := l.prog) (w := w) (mg := mg) (base := base) F7 B GLw (PySem.W.mg_of X G a3) k3 b3 GLo (PySem.W.mg_of X G a9) k9 b9 GPl (PySem.W.mg_of X G a6) k6 b6
  have GNt := ok_noTurn (P := l.prog) (w := w) (mg := mg) (base := base) F13 B (PySem.W.mg_none_of X G zve) C
  have GRf := ok_refused (P := l.prog) (w := w) (mg := mg) (base := base) F16 C rfl GPw (PySem.W.mg_of X G a7) k7 b7 GPb (PySem.W.mg_of X G a8) k8 b8 GNt (PySem.W.mg_of X G a13) k13 b13
  have GNu := ok_number (P := l.prog) (w := w) (mg := mg) (base := base) F18 C rfl GPw (PySem.W.mg_of X G a7) k7 b7
  have GOr := ok_order (P := l.prog) (w := w) (mg := mg) (base := base) F14 B GD (PySem.W.mg_of X G a11) k11 b11
  have GNo := ok_noOrder (P := l.prog) (w := w) (mg := mg) (base := base) F15 B GD (PySem.W.mg_of X G a11) k11 b11
  have GNw := ok_noWants (P := l.prog) (w := w) (mg := mg) (base := base) F17 B
  exact ok_law F19 B GCe (PySem.W.mg_of X G a10) k10 b10 GD (PySem.W.mg_of X G a11) k11 b11 GV (PySem.W.mg_of X G a12) k12 b12 GOr (PySem.W.mg_of X G a14) k14 b14 GPw (PySem.W.mg_of X G a7) k7 b7 GPb (PySem.W.mg_of X G a8) k8 b8 GNo (PySem.W.mg_of X G a15) k15 b15 GRf (PySem.W.mg_of X G a16) k16 b16 GNw (PySem.W.mg_of X G a17) k17 b17 GNu (PySem.W.mg_of X G a18) k18 b18
theorem walk {l : PySem.W.OpenLaw} {q : Program} {loose : List Str} {XP : (Str → Option Value) → Heap → Prop} {YP : World → Heap → Prop} {d : DefRec} {K : Params → PySem.W.Frag} (hn : l.most = some 63) (hdf : d.params.defaults = [])
    (hY : ∀ (w : World) (h : Heap), YP w h → (K w.params).In h) (hf : HF q ["is_name", "look_at_order"]) (hC : ∀ w : World, HC (K w.params) ["is_name", "look_at_order"]) (hKT : ∀ w : World, HT0 (K w.params) ["is_name", "look_at_order"])
    (F : ∀ (w : World) (mg : Str → Option Value) (fa : Addr) (h : Heap), (K w.params).In h → h.Ns mainGlobals mg → mg d.name = some (.ref fa) →
      ∃ fd : FuncData, (∀ (s : Shared) (u : Value), BindsTo s fd ⟨[u], []⟩ [("_law_script", u)]) ∧ ∀ base : Heap, (K w.params).In base → base.Ns mainGlobals mg → BmOf mg base → FnOk l.prog w (K w.params) mg base (CXE l.prog w) 8 fa fd ["_law_script"] (spLaw (tbOf (K w.params) "is_name") (tbOf (K w.params) "look_at_order") (K w.params))) :
    PySem.W.WalkO q loose XP YP l.row.toRowW d [] (fun f vs => PySem.call f vs) := by
  refine L2.walk_ofN ["is_name", "look_at_order"] (n := 63) (k := 8) (x := "_law_script") (CX := fun w => CXE l.prog w) (sp := fun w => spLaw (tbOf (K w.params) "is_name") (tbOf (K w.params) "look_at_order") (K w.params)) hn (by decide) hdf ⟨rfl, by decide, by decide⟩ hY hf hC hKT F ?_ fun _ _ _ _ _ z => ?_
  · intro w H a ns hl hT hS
    exact ⟨a, ns, rfl, hS, hl, ⟨#[], hT "is_name" (by simp), trivial⟩, ⟨#[], hT "look_at_order" (by simp), trivial⟩, fun _ => rfl⟩
  · obtain ⟨_, _, _, _, _, _, _, _, _, _, _, _, z⟩ := z
    exact z
theorem walkF {l : PySem.W.OpenLaw} {q : Program} {loose : List Str} {XP : (Str → Option Value) → Heap → Prop} {d : DefRec} {K : Params → PySem.W.Frag} (hn : l.most = some 63) (hdf : d.params.defaults = [])
    (hf : HF q ["is_name", "look_at_order"]) (hC : ∀ w : World, HC (filt (K w.params)) ["is_name", "look_at_order"]) (hKT : ∀ w : World, HT0 (filt (K w.params)) ["is_name", "look_at_order"])
    (F : ∀ (w : World) (mg : Str → Option Value) (fa : Addr) (h : Heap), (filt (K w.params)).In h → h.Ns mainGlobals mg → mg d.name = some (.ref fa) →
      ∃ fd : FuncData, (∀ (s : Shared) (u : Value), BindsTo s fd ⟨[u], []⟩ [("_law_script", u)]) ∧ ∀ base : Heap, (filt (K w.params)).In base → base.Ns mainGlobals mg → BmOf mg base → FnOk l.prog w (filt (K w.params)) mg base (CXE l.prog w) 8 fa fd ["_law_script"] (spLaw (tbOf (filt (K w.params)) "is_name") (tbOf (filt (K w.params)) "look_at_order") (filt (K w.params)))) :
    PySem.W.WalkO q loose XP (fun w h => (filt (K w.params)).In h) l.row.toRowW d [] (fun f vs => PySem.call f vs) :=
  walk (K := fun P => filt (K P)) hn hdf (fun w h Y => Y) hf hC hKT F
end G1
open PySem PySem.W PyProof.Rows
local macro_rules | `(tactic| refine $t) => `(tactic| (refine' $t; try (case hl => exact HD.left_cut HP.e1 (by kernel_rfl) HP.e2 HP.pre HP.blk HP.body HP.chain (by kernel_rfl) HP.look1 (fun w => by kernel_rfl) (fun w => by kernel_rfl))))
set_option maxRecDepth 100000 in
set_option maxHeartbeats 0 in
theorem PySem.Challenge.cw_dearsigns_k58_orders_of_things_holds : PySem.Challenge.rw_dearsigns_k58_orders_of_things.Holds := by
  w_on; o_law; z_head; (case hw => w_witness2)
  k_fill
  refine L2.walkX_of (fun _ => by kernel_rfl) (G1.walkF (l := PySem.Challenge.rw_dearsigns_k58_orders_of_things) rfl rfl ⟨⟨_, rfl⟩, ⟨_, rfl⟩, trivial⟩ ?C ?KT ?F)
  case C =>
    intro w
    refine' ⟨⟨_, _, _, _, L2.codeN_mk ?x0_a ?x0_l ?x0_hc ?x0_lc ?x0_h11 ?x0_h18 ?x0_h7 ?x0_h9 ?x0_h10 ?x0_ne⟩, ⟨_, _, _, _, L2.codeN_mk ?x1_a ?x1_l ?x1_hc ?x1_lc ?x1_h11 ?x1_h18 ?x1_h7 ?x1_h9 ?x1_h10 ?x1_ne⟩, trivial⟩
    (case x0_a => refine L2.filt_ns ?_; k_is)
    (case x0_l => refine L2.filt_look ?zz1 ?zz2; (case zz1 => k_is); (case zz2 => rfl))
    (case x0_hc => rfl)
    (case x0_lc => refine L2.filt_look ?zz1 ?zz2; (case zz1 => k_is); (case zz2 => rfl))
    (case x0_h11 => rfl)
    (case x0_h18 => rfl)
    (case x0_h7 => rfl)
    (case x0_h9 => rfl)
    (case x0_h10 => rfl)
    (case x0_ne => decide)
    (case x1_a => refine L2.filt_ns ?_; k_is)
    (case x1_l => refine L2.filt_look ?zz1 ?zz2; (case zz1 => k_is); (case zz2 => rfl))
    (case x1_hc => rfl)
    (case x1_lc => refine L2.filt_look ?zz1 ?zz2; (case zz1 => k_is); (case zz2 => rfl))
    (case x1_h11 => rfl)
    (case x1_h18 => rfl)
    (case x1_h7 => rfl)
    (case x1_h9 => rfl)
    (case x1_h10 => rfl)
    (case x1_ne => decide)
  case KT =>
    intro w
    exact ⟨by kernel_rfl, by kernel_rfl, trivial⟩
  case F =>
    intro w mg fa h KX G hmg
    refine' G1.all_mk KX G hmg (L2.codeN_mk ?y0_a ?y0_l ?y0_hc ?y0_lc ?y0_h11 ?y0_h18 ?y0_h7 ?y0_h9 ?y0_h10 ?y0_ne) (L2.codeN_mk ?y1_a ?y1_l ?y1_hc ?y1_lc ?y1_h11 ?y1_h18 ?y1_h7 ?y1_h9 ?y1_h10 ?y1_ne) ?a0 ?l0 ?c0 ?a1 ?l1 ?c1 ?a2 ?l2 ?c2 ?a3 ?l3 ?c3 ?a4 ?l4 ?c4 ?a5 ?l5 ?c5 ?a6 ?l6 ?c6 ?a7 ?l7 ?c7 ?a8 ?l8 ?c8 ?a9 ?l9 ?c9 ?a10 ?l10 ?c10 ?a11 ?l11 ?c11 ?a12 ?l12 ?c12 ?a13 ?l13 ?c13 ?a14 ?l14 ?c14 ?a15 ?l15 ?c15 ?a16 ?l16 ?c16 ?a17 ?l17 ?c17 ?a18 ?l18 ?c18 ?a19 ?l19 ?c19 ?aLe ?aLo ?aMt ?aMc ?m0 ?m1 ?m2 ?m3 ?m4 ?m5 ?m6 ?m7 ?m8 ?m9 ?m10 ?m11 ?m12 ?m13 ?m14 ?q1 ?q0 ?q2 ?q3 ?q6 ?qb ?q7 ?q4 ?q5 ?q8 ?q9 ?r1 ?r2 ?r3 ?n2 ?d2 ?t2 ?n3 ?d3 ?t3 ?n4 ?d4 ?t4 ?n5 ?d5 ?t5 ?n6 ?d6 ?t6 ?n7 ?d7 ?t7 ?n8 ?d8 ?t8 ?n9 ?d9 ?t9 ?n10 ?d10 ?t10 ?n11 ?d11 ?t11 ?n12 ?d12 ?t12 ?n13 ?d13 ?t13 ?n14 ?d14 ?t14 ?qA ?qB ?qC ?qD ?qG ?qH ?qI ?r4 ?nx ?excB ?IKf ?IK ?zzi ?zve ?z_isi ?z_int ?z_bool ?z_tuple ?z_abs ?z_len ?z_enum ?z_str ?z_range ?z_max ?z_all ?z_set ?z_list ?z_min
    (case y0_a => refine L2.filt_ns ?_; k_is)
    (case y0_l => refine L2.filt_look ?zz1 ?zz2; (case zz1 => k_is); (case zz2 => rfl))
    (case y0_hc => rfl)
    (case y0_lc => refine L2.filt_look ?zz1 ?zz2; (case zz1 => k_is); (case zz2 => rfl))
    (case y0_h11 => rfl)
    (case y0_h18 => rfl)
    (case y0_h7 => rfl)
    (case y0_h9 => rfl)
    (case y0_h10 => rfl)
    (case y0_ne => decide)
    (case y1_a => refine L2.filt_ns ?_; k_is)
    (case y1_l => refine L2.filt_look ?zz1 ?zz2; (case zz1 => k_is); (case zz2 => rfl))
    (case y1_hc => rfl)
    (case y1_lc => refine L2.filt_look ?zz1 ?zz2; (case zz1 => k_is); (case zz2 => rfl))
    (case y1_h11 => rfl)
    (case y1_h18 => rfl)
    (case y1_h7 => rfl)
    (case y1_h9 => rfl)
    (case y1_h10 => rfl)
    (case y1_ne => decide)
    (case a0 => refine L2.filt_ns ?_; k_is)
    (case l0 => refine L2.filt_look ?zz1 ?zz2; (case zz1 => k_is); (case zz2 => rfl))
    (case c0 => refine L2.filt_code ?_; k_is)
    (case a1 => refine L2.filt_ns ?_; k_is)
    (case l1 => refine L2.filt_look ?zz1 ?zz2; (case zz1 => k_is); (case zz2 => rfl))
    (case c1 => refine L2.filt_code ?_; k_is)
    (case a2 => refine L2.filt_ns ?_; k_is)
    (case l2 => refine L2.filt_look ?zz1 ?zz2; (case zz1 => k_is); (case zz2 => rfl))
    (case c2 => refine L2.filt_code ?_; k_is)
    (case a3 => refine L2.filt_ns ?_; k_is)
    (case l3 => refine L2.filt_look ?zz1 ?zz2; (case zz1 => k_is); (case zz2 => rfl))
    (case c3 => refine L2.filt_code ?_; k_is)
    (case a4 => refine L2.filt_ns ?_; k_is)
    (case l4 => refine L2.filt_look ?zz1 ?zz2; (case zz1 => k_is); (case zz2 => rfl))
    (case c4 => refine L2.filt_code ?_; k_is)
    (case a5 => refine L2.filt_ns ?_; k_is)
    (case l5 => refine L2.filt_look ?zz1 ?zz2; (case zz1 => k_is); (case zz2 => rfl))
    (case c5 => refine L2.filt_code ?_; k_is)
    (case a6 => refine L2.filt_ns ?_; k_is)
    (case l6 => refine L2.filt_look ?zz1 ?zz2; (case zz1 => k_is); (case zz2 => rfl))
    (case c6 => refine L2.filt_code ?_; k_is)
    (case a7 => refine L2.filt_ns ?_; k_is)
    (case l7 => refine L2.filt_look ?zz1 ?zz2; (case zz1 => k_is); (case zz2 => rfl))
    (case c7 => refine L2.filt_code ?_; k_is)
    (case a8 => refine L2.filt_ns ?_; k_is)
    (case l8 => refine L2.filt_look ?zz1 ?zz2; (case zz1 => k_is); (case zz2 => rfl))
    (case c8 => refine L2.filt_code ?_; k_is)
    (case a9 => refine L2.filt_ns ?_; k_is)
    (case l9 => refine L2.filt_look ?zz1 ?zz2; (case zz1 => k_is); (case zz2 => rfl))
    (case c9 => refine L2.filt_code ?_; k_is)
    (case a10 => refine L2.filt_ns ?_; k_is)
    (case l10 => refine L2.filt_look ?zz1 ?zz2; (case zz1 => k_is); (case zz2 => rfl))
    (case c10 => refine L2.filt_code ?_; k_is)
    (case a11 => refine L2.filt_ns ?_; k_is)
    (case l11 => refine L2.filt_look ?zz1 ?zz2; (case zz1 => k_is); (case zz2 => rfl))
    (case c11 => refine L2.filt_code ?_; k_is)
    (case a12 => refine L2.filt_ns ?_; k_is)
    (case l12 => refine L2.filt_look ?zz1 ?zz2; (case zz1 => k_is); (case zz2 => rfl))
    (case c12 => refine L2.filt_code ?_; k_is)
    (case a13 => refine L2.filt_ns ?_; k_is)
    (case l13 => refine L2.filt_look ?zz1 ?zz2; (case zz1 => k_is); (case zz2 => rfl))
    (case c13 => refine L2.filt_code ?_; k_is)
    (case a14 => refine L2.filt_ns ?_; k_is)
    (case l14 => refine L2.filt_look ?zz1 ?zz2; (case zz1 => k_is); (case zz2 => rfl))
    (case c14 => refine L2.filt_code ?_; k_is)
    (case a15 => refine L2.filt_ns ?_; k_is)
    (case l15 => refine L2.filt_look ?zz1 ?zz2; (case zz1 => k_is); (case zz2 => rfl))
    (case c15 => refine L2.filt_code ?_; k_is)
    (case a16 => refine L2.filt_ns ?_; k_is)
    (case l16 => refine L2.filt_look ?zz1 ?zz2; (case zz1 => k_is); (case zz2 => rfl))
    (case c16 => refine L2.filt_code ?_; k_is)
    (case a17 => refine L2.filt_ns ?_; k_is)
    (case l17 => refine L2.filt_look ?zz1 ?zz2; (case zz1 => k_is); (case zz2 => rfl))
    (case c17 => refine L2.filt_code ?_; k_is)
    (case a18 => refine L2.filt_ns ?_; k_is)
    (case l18 => refine L2.filt_look ?zz1 ?zz2; (case zz1 => k_is); (case zz2 => rfl))
    (case c18 => refine L2.filt_code ?_; k_is)
    (case a19 => refine L2.filt_ns ?_; k_is)
    (case l19 => refine L2.filt_look ?zz1 ?zz2; (case zz1 => k_is); (case zz2 => rfl))
    (case c19 => refine L2.filt_code ?_; k_is)
    (case aLe => refine L2.filt_ns ?_; k_is)
    (case aLo => refine L2.filt_ns ?_; k_is)
    (case aMt => refine L2.filt_ns ?_; k_is)
    (case aMc => refine L2.filt_ns ?_; k_is)
    (case m0 => refine L2.filt_ns ?_; k_is)
    (case m1 => refine L2.filt_ns ?_; k_is)
    (case m2 => refine L2.filt_ns ?_; k_is)
    (case m3 => refine L2.filt_ns ?_; k_is)
    (case m4 => refine L2.filt_ns ?_; k_is)
    (case m5 => refine L2.filt_ns ?_; k_is)
    (case m6 => refine L2.filt_ns ?_; k_is)
    (case m7 => refine L2.filt_ns ?_; k_is)
    (case m8 => refine L2.filt_ns ?_; k_is)
    (case m9 => refine L2.filt_ns ?_; k_is)
    (case m10 => refine L2.filt_ns ?_; k_is)
    (case m11 => refine L2.filt_ns ?_; k_is)
    (case m12 => refine L2.filt_ns ?_; k_is)
    (case m13 => refine L2.filt_ns ?_; k_is)
    (case m14 => refine L2.filt_ns ?_; k_is)
    (case q1 => kernel_rfl)
    (case q0 => kernel_rfl)
    (case q2 => kernel_rfl)
    (case q3 => kernel_rfl)
    (case q6 => kernel_rfl)
    (case qb => kernel_rfl)
    (case q7 => kernel_rfl)
    (case q4 => kernel_rfl)
    (case q5 => kernel_rfl)
    (case q8 => kernel_rfl)
    (case q9 => kernel_rfl)
    (case r1 => kernel_rfl)
    (case r2 => kernel_rfl)
    (case r3 => kernel_rfl)
    (case n2 => kernel_rfl)
    (case d2 => kernel_rfl)
    (case t2 => kernel_rfl)
    (case n3 => kernel_rfl)
    (case d3 => kernel_rfl)
    (case t3 => kernel_rfl)
    (case n4 => kernel_rfl)
    (case d4 => kernel_rfl)
    (case t4 => kernel_rfl)
    (case n5 => kernel_rfl)
    (case d5 => kernel_rfl)
    (case t5 => kernel_rfl)
    (case n6 => kernel_rfl)
    (case d6 => kernel_rfl)
    (case t6 => kernel_rfl)
    (case n7 => kernel_rfl)
    (case d7 => kernel_rfl)
    (case t7 => kernel_rfl)
    (case n8 => kernel_rfl)
    (case d8 => kernel_rfl)
    (case t8 => kernel_rfl)
    (case n9 => kernel_rfl)
    (case d9 => kernel_rfl)
    (case t9 => kernel_rfl)
    (case n10 => kernel_rfl)
    (case d10 => kernel_rfl)
    (case t10 => kernel_rfl)
    (case n11 => kernel_rfl)
    (case d11 => kernel_rfl)
    (case t11 => kernel_rfl)
    (case n12 => kernel_rfl)
    (case d12 => kernel_rfl)
    (case t12 => kernel_rfl)
    (case n13 => kernel_rfl)
    (case d13 => kernel_rfl)
    (case t13 => kernel_rfl)
    (case n14 => kernel_rfl)
    (case d14 => kernel_rfl)
    (case t14 => kernel_rfl)
    (case qA => kernel_rfl)
    (case qB => kernel_rfl)
    (case qC => kernel_rfl)
    (case qD => kernel_rfl)
    (case qG => kernel_rfl)
    (case qH => kernel_rfl)
    (case qI => kernel_rfl)
    (case r4 => kernel_rfl)
    (case nx => kernel_rfl)
    (case excB => kernel_rfl)
    (case IKf => refine L2.filt_find ?_; k_is)
    (case IK => (refine' L2.initK_mk ?IK_lC ?IK_tl ?IK_no ?IK_ni ?IK_lf ?IK_cq ?IK_hb ?IK_hbi ?IK_hXs ?IK_hce ?IK_h1 ?IK_hX2 ?IK_h3 ?IK_h4 ?IK_g1 ?IK_g2 ?IK_g3 ?IK_hcl ?IK_hpa ?IK_har ?IK_hcd ?IK_lc2 ?IK_hc4 ?IK_hfi ?IK_hns ?IK_hgl ?IK_hbl ?IK_gs ?IK_lcc ?IK_m1 ?IK_m2 ?IK_op ?IK_hline ?IK_hin ?IK_hsw ?IK_hs ?IK_hp ?IK_ht ?IK_hh ?IK_hdb ?IK_hml; (case IK_lf => refine L2.filt_look ?zz1 ?zz2; (case zz1 => k_is); (case zz2 => rfl)); (case IK_lC => refine L2.filt_look ?zz1 ?zz2; (case zz1 => k_is); (case zz2 => rfl)); (case IK_ni => refine L2.filt_ns ?_; k_is); (case IK_tl => kernel_rfl); (case IK_no => kernel_rfl); (case IK_cq => refine L2.filt_code ?_; first | k_is | kernel_rfl); (case IK_hb => rfl); (case IK_hbi => exact fun s e u => .of_eq rfl); (case IK_hXs => decide); (case IK_hce => decide); (case IK_h1 => rfl); (case IK_hX2 => rfl); (case IK_h3 => rfl); (case IK_h4 => rfl); (case IK_g1 => rfl); (case IK_g2 => rfl); (case IK_g3 => rfl); (case IK_hcl => rfl); (case IK_hpa => rfl); (case IK_har => rfl); (case IK_hcd => rfl); (case IK_lc2 => refine L2.filt_look ?zz1 ?zz2; (case zz1 => k_is); (case zz2 => rfl)); (case IK_hc4 => rfl); (case IK_hfi => decide +kernel); (case IK_hns => decide +kernel); (case IK_hgl => rfl); (case IK_hbl => rfl); (case IK_gs => refine L2.filt_ns ?_; k_is); (case IK_lcc => refine L2.filt_look ?zz1 ?zz2; (case zz1 => k_is); (case zz2 => rfl)); (case IK_m1 => kernel_rfl); (case IK_m2 => kernel_rfl); (case IK_op => refine L2.filt_ns ?_; k_is); (case IK_hline => rfl); (case IK_hin => exact fun L => rfl); (case IK_hsw => exact fun L => rfl); (case IK_hs => kernel_rfl); (case IK_hp => kernel_rfl); (case IK_ht => kernel_rfl); (case IK_hh => kernel_rfl); (case IK_hdb => decide); (case IK_hml => decide)))
    (case zzi => refine L2.filt_ns ?_; k_is)
    (case zve => refine L2.filt_ns ?_; k_is)
    (case z_isi => refine L2.filt_ns ?_; k_is)
    (case z_int => refine L2.filt_ns ?_; k_is)
    (case z_bool => refine L2.filt_ns ?_; k_is)
    (case z_tuple => refine L2.filt_ns ?_; k_is)
    (case z_abs => refine L2.filt_ns ?_; k_is)
    (case z_len => refine L2.filt_ns ?_; k_is)
    (case z_enum => refine L2.filt_ns ?_; k_is)
    (case z_str => refine L2.filt_ns ?_; k_is)
    (case z_range => refine L2.filt_ns ?_; k_is)
    (case z_max => refine L2.filt_ns ?_; k_is)
    (case z_all => refine L2.filt_ns ?_; k_is)
    (case z_set => refine L2.filt_ns ?_; k_is)
    (case z_list => refine L2.filt_ns ?_; k_is)
    (case z_min => refine L2.filt_ns ?_; k_is)
