import PyProof.Rows.All
import Wide.All
import OpenK.AllK
import Wide.FinOn
import Lean
import PyProof.EqAt
import PyProof.EqKinds
import PyProof.NeKinds
import PyProof.TupleCall
import PyProof.SetRoads
import PyProof.SetNew
import PyProof.Rows.Range3
import KE.KRevSl
import PyProof.SliceStr2
import PyProof.ListStr
import PyProof.TupleOfStr
import PyProof.StrCalls
import KE.KDictOf
import PyProof.AttrMissHeap
import PyProof.Rows.SumAny
import PyProof.ConsumeWalk
import PyProof.SeqI3
import KE.KStar
import PyProof.SumWalkG
import PyProof.DictValues
import PyProof.ZipIter
import PyProof.Draws
import PyProof.DictIter
import PyProof.Rows.SortWalk
import PyProof.Rows.SetFrom
import KE.KItemsList
import PyProof.StrOps2
import PySem.Challenge.RW_dearsigns_k38_candidates_of_parts
set_option Elab.async false
set_option linter.all false
set_option maxRecDepth 100000
set_option maxHeartbeats 4000000
set_option exponentiation.threshold 5000
namespace HD
open PySem PySem.W PySem.Calls PyProof.Rows
noncomputable def bootT (P : Params) : BT := .node (boot_o_0 P) (.node (boot_o_1 P) (.node (boot_o_3 P) (.node (boot_o_7 P) .nil .nil) .nil) (.node (boot_o_5 P) (.node (boot_o_9 P) .nil .nil) .nil)) (.node (boot_o_2 P) (.node (boot_o_4 P) (.node (boot_o_8 P) .nil .nil) .nil) (.node (boot_o_6 P) (.node (boot_o_10 P) .nil .nil) .nil))
theorem size_boot (P : Params) : ((boot_heap P).isNs mainGlobals, (boot_heap P).objs.size, (boot_heap P).nsMap mainGlobals "__annotations__") = (true, 11, some (.ref 6)) := by kernel_rfl
structure SM where
  T : BT
  n : Nat
  k : Nat
  D : List DictEntry
  pl : List Value
  nm : Value
noncomputable def key (P : Params) (x : Str) (t : Nat) (v : Value) : DictEntry := ⟨PyData.keyHash P x, .str x t, v⟩
noncomputable def SM.put (s : SM) (o : Obj) : SM := { s with T := s.T.ins s.n o, n := s.n + 1 }
noncomputable def SM.puts (s : SM) : List Obj → SM
  | [] => s
  | o :: r => (s.put o).puts r
noncomputable def tup (vs : List Value) : Obj := { cls := .type "tuple", data := .seq vs.toArray }
noncomputable def txts : List Str → Nat → List Value
  | [], _ => []
  | x :: r, t => .str x t :: txts r (t + 1)
noncomputable def theFile : Str := "/claim/cut.py"
structure CO where
  objs : List Obj
  k : Nat
  a : Nat
noncomputable def raw (n : Nat) : Value := .int n 0
noncomputable def codeObjs (n k : Nat) (name qual : Str) (line argc flags : Nat) (fn : Bool) (free : List Str) (pls : List Value) (loc : Option (List Str × List Str)) (tm : Option FuncData) : CO :=
  let f := free.length
  let o1 := [tup (txts free (k + 3)), { cls := .none, data := .fields pls.toArray }]
  let k1 := k + 3 + f
  let (o2, k2, n2, l, c) := match loc with
    | none => ([], k1, n + 2, Value.none, Value.none)
    | some (ls, cs) => ([tup (txts ls k1), tup (txts cs (k1 + ls.length))], k1 + ls.length + cs.length, n + 4, Value.ref (n + 2), Value.ref (n + 3))
  let (o3, n3, t) := match tm with
    | none => ([], n2, Value.none)
    | some fd => ([({ cls := .none, data := .func fd } : Obj)], n2 + 1, Value.ref n2)
  { objs := o1 ++ o2 ++ o3 ++ [{ cls := .type "code", data := .fields #[.str name k, .str qual (k + 1), .str theFile (k + 2), raw line, raw argc, raw 0, raw 0, raw flags, .ref n, .bool fn, raw 181, .ref (n + 1), .none, l, c, t, raw k2, raw line, .str theFile (k2 + 1)] }]
    k := k2 + 2
    a := n3 }
noncomputable def SM.store (P : Params) (s : SM) (x : Str) (v : Value) : SM :=
  match s.D with
  | e :: r => match Fast.sEq x "__name__" with
    | true => { s with D := ⟨e.hash, e.key, v⟩ :: r, k := s.k + 1, nm := v }
    | false => { s with D := e :: r ++ [key P x s.k v], k := s.k + 1 }
  | [] => s
noncomputable def constVals : List Expr → Nat → List Value × Nat
  | .Constant (.int i) _ _ :: r, k => let (vs, k') := constVals r (k + 1); (.int i k :: vs, k')
  | .Constant (.str i) _ _ :: r, k => let (vs, k') := constVals r (k + 1); (.str i k :: vs, k')
  | .Constant (.bool b) _ _ :: r, k => let (vs, k') := constVals r k; (.bool b :: vs, k')
  | _ :: r, k => let (vs, k') := constVals r k; (.none :: vs, k')
  | [], k => ([], k)
noncomputable def templ (name qual : Str) (args : Arguments) (body : List Stmt) (scope : Scope) : FuncData :=
  { name, qualname := qual, params := args, body := .stmts body, scope, globals := builtinsNs, closure := [], defaults := .none, kwdefaults := .none }
noncomputable def simFn (P : Params) (s : SM) (name : Str) (args : Arguments) (body : List Stmt) (scope : Scope) (pos : Pos) : SM :=
  let (dv, s) := match args.defaults with
    | [] => (Value.none, s)
    | d :: ds => let (vs, k') := constVals (d :: ds) s.k; (Value.ref s.n, ({ s with k := k' } : SM).put (tup vs))
  let c := codeObjs s.n s.k name name pos.line args.args.length 3 true [] [] (localNames args scope (.stmts body)) (some (templ name name args body scope))
  let s1 := s.puts c.objs
  let s2 : SM := { s1 with k := c.k, pl := s1.pl ++ [raw pos.line, raw pos.col, .ref c.a] }
  let f := s2.n
  let s3 := s2.put { cls := .type "function", data := .func { templ name name args body scope with globals := mainNs, defaults := dv, pyModule := s.nm, code := .ref c.a } }
  s3.store P name (.ref f)
noncomputable def findD (x : Str) : List DictEntry → Value
  | [] => .none
  | e :: r => match e.key with
    | .str y _ => match Fast.sEq x y with
      | true => e.val
      | false => findD x r
    | _ => findD x r
noncomputable def addSub (v : Value) (o : Obj) : Obj := match o.data with
  | .cls c => { o with data := .cls { c with subclasses := c.subclasses ++ [v] } }
  | _ => o
structure IOb where
  objs : List Obj
  pls : List Value
  es : List DictEntry
  k : Nat
noncomputable def simInit (P : Params) (cell n k : Nat) (cn : Str) (nm : Value) : List Stmt → IOb
  | .FunctionDef name args body _ _ _ scope _ _ pos :: _ =>
    let qual : Str := cn ++ "." ++ name
    let c := codeObjs (n + 1) k name qual pos.line args.args.length 3 true ["__class__"] [] (localNames args scope (.stmts body)) (some (templ name qual args body scope))
    let f := c.a + 1
    { objs := tup [.ref cell] :: c.objs ++ [{ cls := .type "function", data := .func { templ name qual args body scope with globals := mainNs, closure := [("__class__", cell)], pyModule := nm, code := .ref c.a, closureTuple := .ref n } }]
      pls := [raw pos.line, raw pos.col, .ref c.a]
      es := [key P name c.k (.ref f)]
      k := c.k + 1 }
  | _ => ⟨[], [], [], k⟩
noncomputable def excTypes : List Value := [.type "ValueError", .type "Exception", .type "BaseException", .type "object"]
noncomputable def simCls (P : Params) (s : SM) (name base : Str) (body : List Stmt) (statics : List Str) (pos : Pos) : SM :=
  let root := Fast.sEq base "ValueError"
  let bv : Value := match root with | true => .type "ValueError" | false => findD base s.D
  let own := match body with | .FunctionDef .. :: _ => true | _ => false
  let (n, k) := (s.n, s.k)
  let nsA := n + 2
  let c0 := match own with | true => n + 4 | false => n + 3
  let fr := c0 + 3
  let i := simInit P (n + 3) (fr + 1) (k + 12) name s.nm body
  let cc := codeObjs c0 (k + 2) name name pos.line 0 0 false [] i.pls none none
  let a := fr + 1 + i.objs.length
  let st := i.k + statics.length
  let ns2 := a + 1
  let cls := a + 2
  let e1 := key P "__module__" (k + 7) s.nm
  let e3 := key P "__firstlineno__" (k + 11) (.int pos.line (k + 10))
  let e5 := key P "__static_attributes__" st (.ref a)
  let (k5, cellE, cellO) := match own with
    | true => (st + 2, [key P "__classcell__" (st + 1) (.ref (n + 3))], [({ cls := .type "cell", data := .cell (some (.ref cls)) } : Obj)])
    | false => (st + 1, [], [])
  let (k6, weakE, weakO) := match root with
    | true => (k5 + 2, [key P "__weakref__" (k5 + 1) (.ref (cls + 1))], [({ cls := .type "getset_descriptor", data := .fields #[.str "__weakref__" k5, .ref cls, .builtin "ExceptionGroup.__weakref__", .none] } : Obj)])
    | false => (k5, [], [])
  let nsE := [e1, key P "__qualname__" (k + 9) (.str name (k + 8)), e3] ++ i.es ++ [e5] ++ cellE
  let ns2E := [e1, e3] ++ i.es ++ [e5] ++ weakE ++ [key P "__doc__" k6 .none]
  let mro := match root with | true => Value.ref cls :: excTypes | false => Value.ref cls :: bv :: excTypes
  let objs : List Obj := [tup [bv], { cls := .type "builtin_function_or_method", data := .fields #[.builtin "type.__prepare__", .type "type"] }, { cls := .type "dict", data := .dict nsE.toArray nsE.length }] ++ cellO ++ cc.objs ++
    [{ cls := .type "frame", slots := #[some (.ref (c0 + 2)), some (.ref mainNs), some (.ref nsA), none, some s.nm, none, some (.ref builtinsNs)] }] ++ i.objs ++
    [tup (txts statics i.k), { cls := .type "dict", data := .dict ns2E.toArray (ns2E.length - 2) },
     { cls := .type "type", data := .cls { name, bases := [bv], mro, ns := ns2, qualname := name }, slots := #[some (.ref n), none, some (.str name k), some (.str name (k + 8)), some (.builtin "ValueError.__new__"), some (.bool true)] }] ++ weakO ++
    [{ cls := .type "super", data := .fields #[.ref cls, .ref cls, .ref cls] }, { cls := .type "builtin_function_or_method", data := .fields #[.builtin "object.__init_subclass__", .ref cls] }]
  let s1 := s.puts objs
  let s2 : SM := { s1 with k := k6 + 2, pl := s1.pl ++ [raw pos.line, raw pos.col, .ref (c0 + 2)], T := match bv with | .ref b => s1.T.set b (addSub (.ref cls)) | _ => s1.T }
  s2.store P name (.ref cls)
noncomputable def simOne (P : Params) (s : SM) : Stmt → SM
  | .Assign (.Name x _ :: _) (.Constant (.str v) _ _) _ => ({ s with k := s.k + 1 } : SM).store P x (.str v s.k)
  | .Assign (.Name x _ :: _) (.Constant (.int v) _ _) _ => ({ s with k := s.k + 1 } : SM).store P x (.int v s.k)
  | .Assign (.Name x _ :: _) (.BinOp (.Constant (.int a) _ _) _ (.Constant (.int b) _ _) _) _ => ({ s with k := s.k + 3 } : SM).store P x (.int (a ^ b.toNat) (s.k + 2))
  | .Assign (.Name x _ :: _) (.Tuple es _ _) _ => let (vs, k') := constVals es s.k; (({ s with k := k' } : SM).put (tup vs)).store P x (.ref s.n)
  | .FunctionDef name args body _ _ _ scope _ _ pos => simFn P s name args body scope pos
  | .ClassDef name (.Name b _ :: _) _ body _ _ _ _ _ statics pos => simCls P s name b body statics pos
  | _ => s
noncomputable def simAll (P : Params) (s : SM) : List Stmt → SM
  | [] => s
  | x :: r => simAll P (simOne P s x) r
noncomputable def endPos (p : Pos) : Stmt → Pos
  | .Assign (.Name _ q :: _) _ _ => q
  | .FunctionDef _ _ _ _ _ _ _ _ _ q => q
  | .ClassDef _ _ _ _ _ _ _ _ _ _ q => q
  | _ => p
noncomputable def endPoses (p : Pos) : List Stmt → Pos
  | [] => p
  | x :: r => endPoses (endPos p x) r
noncomputable def sim0 (P : Params) : SM :=
  SM.puts ⟨bootT P, 11, 187, [key P "__name__" 165 (.str "__main__" 164), key P "__doc__" 166 .none, key P "__package__" 167 .none, key P "__loader__" 168 (.builtin "__main__.__loader__#opaque"), key P "__spec__" 169 .none, key P "__annotations__" 170 (.ref 6),
    key P "__builtins__" 171 (.ref 4), key P "__file__" 173 (.str theFile 172), key P "__cached__" 174 .none], [], .str "__main__" 164⟩
    ((codeObjs 11 182 "<module>" "<module>" 1 0 0 false [] [] none none).objs ++ [{ cls := .type "frame", slots := #[some (.ref 13), some (.ref mainNs), some (.ref mainNs), none, some (.str "__main__" 164), none, some (.ref builtinsNs)] }])
structure St where
  sim : Params → SM
  pos : Pos
noncomputable def SM.tree (s : SM) : BT := (s.T.set mainNs fun _ => { cls := .type "dict", data := .dict s.D.toArray s.D.length }).set 12 fun _ => { cls := .none, data := .fields s.pl.toArray }
noncomputable def St.at (S : St) (P : Params) (os : OsState) : SharedT := ⟨(S.sim P).tree, (S.sim P).n, {}, Array.mk [], boot_drawn, (S.sim P).k, os⟩
noncomputable def St.step (S : St) (l : List Stmt) : St := ⟨fun P => simAll P (S.sim P) l, endPoses S.pos l⟩
noncomputable def St0 : St := ⟨sim0, ⟨0, 0, 0, 0⟩⟩
abbrev pos0 : Pos := ⟨0, 0, 0, 0⟩
noncomputable def envOf (p : Program) : Env := { scope := p.main.scope, locals := mainNs, globals := mainNs, cells := [], code := .ref 13, frame := some 14 }
noncomputable def cOf (p : Program) : Code := .body (behindTheImports p) (envOf p)
abbrev annO : Option Value := some (.ref 6)
abbrev Piece (p : Program) (l : List Stmt) (m : Nat) (A B : St) : Prop :=
  ∀ w : World, (fun os => segRunT treeTable p w 11 annO 1 m (A.at w.params os) (piecesOf l (envOf p) (cOf p) A.pos [topFrame pos0])) = fun os => some (.next, B.at w.params os, cOf p, B.pos)
inductive Chain (p : Program) : List Stmt → Nat → St → St → Prop
  | nil (S : St) : Chain p [] 0 S S
  | cons {l r : List Stmt} {m n : Nat} {A B C : St} (h : Piece p l m A B) (t : Chain p r n B C) : Chain p (l ++ r) (m + n) A C
theorem fin_run {tb : String → Option Builtin} {p : Program} {w : World} {n₀ : Nat} {ann : Option Value} {c : Code} {pos q : Pos} (s : Shared) : topRun tb p w n₀ ann 2 s ⟨doneF .next, c, pos, [topFrame q]⟩ = some s := by
  obtain ⟨a, b, d, e, f⟩ := s
  rfl
theorem chain_run {p : Program} {w : World} {os : OsState} {b : List Stmt} {n : Nat} {A C : St} (h : Chain p b n A C) :
    topRun treeTable p w 11 annO (n + 2) (A.at w.params os).abs (restOf b (envOf p) (cOf p) A.pos [topFrame pos0]) = some (C.at w.params os).abs := by
  induction h with
  | nil S => exact piece_nil (fin_run _)
  | cons h _ ih =>
    have e := segRun_of (congrFun (h w) os)
    rw [Nat.add_assoc]
    exact piece_app e ih
abbrev Pre (p : Program) : Prop := ∀ w : World, (fun os => topGo treeTable p w 11 annO 12 ⟨boot_heap w.params, Array.mk [], boot_drawn, boot_toks, os⟩ (topStub p)) = fun os => some ((St0.at w.params os).abs, ⟨denote treeTable (cOf p), cOf p, pos0, [topFrame pos0]⟩)
abbrev Blk (p : Program) : Prop := ∀ (w : World) (hp : Heap) (gs : Array GenState) (d : Drawn) (k : Nat) (os : OsState),
  segRun treeTable p w 11 annO 1 1 ⟨hp, gs, d, k, os⟩ (blockOf (behindTheImports p) (envOf p) (cOf p) pos0 [topFrame pos0]) = some (.next, ⟨hp, gs, d, k, os⟩, cOf p, pos0)
abbrev Look1 (p : Program) (C : St) : Prop := ∀ w : World, (fun os => staticsOk (importedModules p.main.body) (boot_heap w.params) (C.at w.params os).abs.heap && namesBound p (C.at w.params os).abs.heap && gensDone (C.at w.params os).abs && laidKept (boot_heap w.params) (C.at w.params os).abs.heap) = fun _ => true
theorem left_cut {p q : Program} {loose : List Str} {Xt : Shared → Bool} {α : Type} {Yf : Shared → α} {Ya : World → α} {N n : Nat} {g0 : Bool} {b : List Stmt} {C : St}
    (e : opening p = plainProg p.main.scope.names) (hN : Nat.ble 600 N = true) (f : ∀ s, fenceModules? p s = some s)
    (pre : Pre p) (blk : Blk p) (hb : behindTheImports p = b) (ch : Chain p b n St0 C) (le : Nat.ble (12 + (1 + (n + 2))) N = true)
    (k1 : Look1 p C) (k2 : ∀ w : World, (fun os => openSeen q loose (importedModules p.main.body) Xt g0 (C.at w.params os).abs) = fun _ => openGood q loose) (k3 : ∀ w : World, (fun os => Yf (C.at w.params os).abs) = fun _ => Ya w) :
    LeftO p q loose Xt Yf Ya N g0 := fun w => by
  obtain ⟨⟨hp, gs, d, k, os⟩, a, a'⟩ := Option.map_eq_some_iff.mp (boot_open e hN f w)
  obtain ⟨rfl, rfl, rfl, rfl⟩ : hp = boot_heap w.params ∧ gs = #[] ∧ d = boot_drawn ∧ k = boot_toks := by simpa using a'
  obtain ⟨z1, z2, z3⟩ : _ ∧ _ ∧ _ := by simpa only [Prod.mk.injEq] using size_boot w.params
  have r1 := chain_run (w := w) (os := os) ch
  rw [← hb] at r1
  have r2 := piece_block (blk w _ _ _ _ _) r1
  have r3 := go_top (congrFun (pre w) os) r2
  have r' := topRun_mono (N - (12 + (1 + (n + 2)))) _ _ _ _ r3
  rw [show 12 + (1 + (n + 2)) + (N - (12 + (1 + (n + 2)))) = N by have := Nat.le_of_ble_eq_true le; omega] at r'
  have l1 := congrFun (k1 w) os
  have t : topFrom treeTable p w N ⟨boot_heap w.params, #[], boot_drawn, boot_toks, os⟩ = some (C.at w.params os).abs := by
    unfold topFrom
    dsimp only
    rw [z1, z2, z3, r']
    show (match staticsOk (importedModules p.main.body) (boot_heap w.params) (C.at w.params os).abs.heap && namesBound p (C.at w.params os).abs.heap && gensDone (C.at w.params os).abs && laidKept (boot_heap w.params) (C.at w.params os).abs.heap with | true => _ | false => _) = _
    rw [l1]
  unfold openEnds
  rw [a]
  show (topFrom treeTable p w N _).map _ = _
  rw [t]
  exact congrArg some (Prod.ext (congrFun (k2 w) os) (congrFun (k3 w) os))
end HD
namespace HP
open PySem PySem.W HD
noncomputable def pq : Program := PySem.Challenge.pw_dearsigns_k38_candidates_of_parts
theorem e1 : opening pq = plainProg pq.main.scope.names := by kernel_rfl
theorem e2 (s) : fenceModules? pq s = some s := by kernel_rfl
theorem pre : Pre pq := fun w => by kernel_rfl
theorem blk : Blk pq := fun w _ _ _ _ _ => by kernel_rfl
noncomputable def b0 : List Stmt := behindTheImports pq
noncomputable def S0 : St := St0
noncomputable def l0 : List Stmt := b0.take 20
noncomputable def b1 : List Stmt := b0.drop 20
noncomputable def S1 : St := S0.step l0
theorem q0 : Piece pq l0 993 S0 S1 := fun w => by kernel_rfl
noncomputable def l1 : List Stmt := b1.take 35
noncomputable def S2 : St := S1.step l1
theorem q1 : Piece pq l1 903 S1 S2 := fun w => by kernel_rfl
theorem chain : Chain pq (l0 ++ (l1 ++ [])) (993 + (903 + (0))) S0 S2 := .cons q0 (.cons q1 (Chain.nil S2))
theorem body : behindTheImports pq = l0 ++ (l1 ++ []) := by kernel_rfl
theorem look1 : Look1 pq S2 := fun w => by kernel_rfl
end HP
namespace L2
open PySem PySem.Spec PyProof.Rows
abbrev Key := Sum Int Str
def keyIs : Key → Value → Bool
  | .inl k, v => Value.isInt k v
  | .inr x, v => Value.isStrOf x v
def keyH (w : World) : Key → Int
  | .inl k => hashInt k
  | .inr x => hashStr w x
theorem keyIs_shape : ∀ {k : Key} {v : Value}, keyIs k v = true → (∃ i t, k = Sum.inl i ∧ v = Value.int i t) ∨ (∃ x t, k = Sum.inr x ∧ v = Value.str x t)
  | .inl i, v, h => by
    obtain ⟨t, e⟩ := Value.isInt_shape (k := i) (v := v) h
    exact .inl ⟨i, t, rfl, e⟩
  | .inr x, v, h => by
    obtain ⟨t, e⟩ := Value.isStrOf_shape (x := x) (v := v) h
    exact .inr ⟨x, t, rfl, e⟩
theorem keyIs_int (i : Int) (t : Tok) : keyIs (.inl i) (.int i t) = true := by simp [keyIs, Value.isInt]
theorem keyIs_str (x : Str) (t : Tok) : keyIs (.inr x) (.str x t) = true := by simp [keyIs, Value.isStrOf]
theorem key_ll (a b : Int) : decide ((Sum.inl a : Key) = Sum.inl b) = (a == b) := by
  by_cases e : a = b
  · subst e; simp
  · have h : ¬ (Sum.inl a : Key) = Sum.inl b := fun q => e (Sum.inl.inj q)
    rw [decide_eq_false h]
    exact (beq_eq_false_iff_ne.mpr e).symm
theorem key_rr (a b : Str) : decide ((Sum.inr a : Key) = Sum.inr b) = decide (a = b) := by
  by_cases e : a = b
  · subst e; simp
  · have h : ¬ (Sum.inr a : Key) = Sum.inr b := fun q => e (Sum.inr.inj q)
    rw [decide_eq_false h, decide_eq_false e]
theorem key_lr (a : Int) (b : Str) : decide ((Sum.inl a : Key) = Sum.inr b) = false := decide_eq_false (fun q => nomatch q)
theorem key_rl (a : Str) (b : Int) : decide ((Sum.inr a : Key) = Sum.inl b) = false := decide_eq_false (fun q => nomatch q)
def mixKind (prog : Program) (w : World) : PySem.KeyKind prog w Key where
  is := keyIs
  hash := keyH w
  inj := fun v a b ha hb => by
    rcases keyIs_shape ha with ⟨i, t, rfl, rfl⟩ | ⟨x, t, rfl, rfl⟩
    · rcases keyIs_shape hb with ⟨j, u, rfl, e⟩ | ⟨y, u, rfl, e⟩
      · injection e with e1 _; rw [e1]
      · exact nomatch e
    · rcases keyIs_shape hb with ⟨j, u, rfl, e⟩ | ⟨y, u, rfl, e⟩
      · exact nomatch e
      · injection e with e1 _; rw [e1]
  byValue := fun k v h => by
    rcases keyIs_shape h with ⟨i, t, rfl, rfl⟩ | ⟨x, t, rfl, rfl⟩ <;> rfl
  pyHash := fun hv h => by
    rcases keyIs_shape hv with ⟨i, t, rfl, rfl⟩ | ⟨x, t, rfl, rfl⟩
    · exact wpAny_pyHash_int h
    · exact wpAny_pyHash_str h
  eqBool := fun hu hv h => by
    rcases keyIs_shape hu with ⟨i, t, rfl, rfl⟩ | ⟨x, t, rfl, rfl⟩
    · rcases keyIs_shape hv with ⟨j, u, rfl, rfl⟩ | ⟨y, u, rfl, rfl⟩
      · rw [key_ll] at h; exact wpAny_eqBool_int h
      · rw [key_lr] at h; exact SeqAt.EqAt.int_str i t y u _ _ _ _ h
    · rcases keyIs_shape hv with ⟨j, u, rfl, rfl⟩ | ⟨y, u, rfl, rfl⟩
      · rw [key_rl] at h; exact SeqAt.EqAt.str_int x t j u _ _ _ _ h
      · rw [key_rr] at h; exact wpAny_eqBool_str h
  «strs» := fun k x t v h => by
    rcases keyIs_shape h with ⟨i, u, rfl, e⟩ | ⟨y, u, rfl, e⟩
    · exact nomatch e
    · injection e with e1 _
      subst e1
      cases v <;> rfl
theorem mixKind_int (prog : Program) (w : World) (i : Int) (t : Tok) : (mixKind prog w).is (.inl i) (.int i t) = true := keyIs_int i t
theorem mixKind_str (prog : Program) (w : World) (x : Str) (t : Tok) : (mixKind prog w).is (.inr x) (.str x t) = true := keyIs_str x t
end L2
namespace L2
open PySem PySem.Spec PyProof.Rows
inductive V where
  | non | bl (b : Bool) | int (i : Int) | str (x : Str) | byt (b : Array UInt8) | flt (b : UInt64) | ref (a : Addr) | ty (n : String)
  deriving DecidableEq
def RelV : V → Value → Prop
  | .non, u => u = Value.none
  | .bl b, u => u = Value.bool b
  | .int i, u => ∃ t, u = Value.int i t
  | .str x, u => ∃ t, u = Value.str x t
  | .byt b, u => ∃ t, u = Value.bytes b t
  | .flt b, u => ∃ t, u = Value.float b t
  | .ref a, u => u = Value.ref a
  | .ty n, u => u = Value.type n
abbrev Vals : List V → List Value → Prop := Paired RelV
theorem Vals.length {xs : List V} {us : List Value} (r : Vals xs us) : xs.length = us.length := Paired.length r
theorem Vals.get : ∀ {xs : List V} {us : List Value} {i : Nat} {x : V}, Vals xs us → xs[i]? = some x → ∃ u, us[i]? = some u ∧ RelV x u
  | _, _, _, _, .nil, e => by simp at e
  | _, _, 0, _, .cons r _, e => by simp at e; subst e; exact ⟨_, rfl, r⟩
  | _, _, i + 1, x, .cons _ t, e => by
    obtain ⟨u, h1, h2⟩ := Vals.get (i := i) (x := x) t (by simpa using e)
    exact ⟨u, by simpa using h1, h2⟩
theorem Vals.set {x : V} {u : Value} (r : RelV x u) : ∀ {xs : List V} {us : List Value} (i : Nat), Vals xs us → Vals (xs.set i x) (us.set i u)
  | _, _, _, .nil => .nil
  | _, _, 0, .cons _ t => .cons r t
  | _, _, i + 1, .cons q t => .cons q (Vals.set r i t)
theorem Vals.append : ∀ {xs ys : List V} {us ws : List Value}, Vals xs us → Vals ys ws → Vals (xs ++ ys) (us ++ ws)
  | _, _, _, _, .nil, s => s
  | _, _, _, _, .cons r t, s => .cons r (Vals.append t s)
def RelO : Option V → Option Value → Prop
  | some v, some u => RelV v u
  | none, none => True
  | _, _ => False
def KV {κ : Type} : List (κ × V) → List (κ × Value) → Prop := Paired fun (p : κ × V) (q : κ × Value) => p.1 = q.1 ∧ RelV p.2 q.2
def kV : Key → V
  | .inl i => .int i
  | .inr x => .str x
inductive HO where
    | lst (xs : List V)
    | tup (xs : List V)
    | dK (kvs : List (Key × V)) | dT (kvs : List (List Key × V))
    | set (S : Int → Bool) (n : Nat)
    | ins (C dx : Addr) (fs : List (Str × V))
    | own (x : Addr)
    | xd (fs : List (Str × V))
    | met (f x : Addr)
    | rng (lo hi : Int)
    | frz (o : Obj) (u : HO)
    | tbl (ps : Array Value)
    | ext (φ : Heap → Prop)
abbrev Hp := Addr → Option HO
def upd (H : Hp) (a : Addr) (o : HO) : Hp := fun b => if b = a then some o else H b
theorem upd_same {H : Hp} {a : Addr} {o : HO} : upd H a o a = some o := by unfold upd; rw [if_pos rfl]
theorem upd_ne {H : Hp} {a b : Addr} {o : HO} (h : b ≠ a) : upd H a o b = H b := by unfold upd; rw [if_neg h]
theorem upd_upd {H : Hp} {a : Addr} {o u : HO} : upd (upd H a o) a u = upd H a u := by
  funext b; unfold upd; split <;> rfl
theorem ne_of {H : Hp} {a b : Addr} {o u : HO} (h : H a = some o) (h' : H b = some u) (d : o ≠ u) : a ≠ b := by
  intro e; subst e; rw [h] at h'; exact d (Option.some.inj h')
theorem ne_of_none {H : Hp} {a b : Addr} {o : HO} (h : H a = some o) (h' : H b = none) : a ≠ b := by
  intro e; subst e; rw [h] at h'; cases h'
section
variable (P : Program) (w : World)
def ObjOk (H : Hp) (h : Heap) (a : Addr) : HO → Prop
  | .lst xs => xs.length ≤ sizeLine ∧ ∃ (its : List Value) (n : Nat), Vals xs its ∧ h.get? a = some { cls := .type "list", data := .seq its.toArray n }
  | .tup xs => xs.length ≤ sizeLine ∧ ∃ its : List Value, Vals xs its ∧ IsTup h a its.toArray
  | .dK kvs => kvs.length ≤ sizeLine ∧ (a == sysModules) = false ∧ ∃ vs, KV kvs vs ∧ h.DictOf (mixKind P w) a vs
  | .dT kvs => kvs.length ≤ sizeLine ∧ (a == sysModules) = false ∧ ∃ xs : List (List Key × Addr × Value),
      Paired (fun (p : List Key × V) (q : List Key × Addr × Value) => p.1 = q.1 ∧ H q.2.1 = some (.tup (p.1.map kV)) ∧ RelV p.2 q.2.2) kvs xs ∧
      ∃ o es ep, h.get? a = some o ∧ o.ExactDict ∧ o.data = .dict es ep ∧ es.toList = xs.map (entryOfKey (tupleKind (mixKind P w))) ∧ (xs.map (·.1)).Nodup
  | .set S n => h.SetOf (intKind P w) a S n
  | .ins C dx fs => H dx = some (.own a) ∧ fs.length ≤ 1000 ∧ dx ≠ a ∧ h.get? a = some (PySem.W.instObj C dx) ∧
      ∃ mA, h.Ns1 dx mA ∧ (∀ f, RelO (fs.lookup f) (mA f)) ∧ PySem.Within mA (fs.map (·.1))
  | .own _ => ∃ o, h.get? a = some o
  | .xd fs => ∃ mA, h.Ns1 a mA ∧ ∀ f, RelO (fs.lookup f) (mA f)
  | .rng lo hi => ∃ t u v, h.get? a = some { cls := .type "range", data := .fields #[.int lo t, .int hi u, .int 1 v] }
  | .frz o u => h.get? a = some o ∧ ObjOk H h a u
  | .tbl ps => h.get? a = some { cls := .none, data := .fields ps }
  | .met f x => h.get? a = some (PySem.W.methodObj (.ref f) (.ref x))
  | .ext φ => φ h ∧ (∃ o, h.get? a = some o) ∧ ∀ h1 h2 : Heap, φ h1 → (∀ o, h1.get? a = some o → h2.get? a = some o) → φ h2
def HOk (H : Hp) (h : Heap) : Prop := ∀ a o, H a = some o → ObjOk P w H h a o
end
section
variable {P : Program} {w : World} {H H' : Hp} {h h' : Heap} {a : Addr} {o : HO}
theorem ObjOk.lt (x : ObjOk P w H h a o) : a < h.objs.size := by
  cases o with
  | lst xs => obtain ⟨_, _, _, _, e⟩ := x; exact Heap.lt_size e
  | tup xs => obtain ⟨_, _, _, p⟩ := x; exact p.lt
  | dK kvs => obtain ⟨_, _, _, _, o, _, _, e, _⟩ := x; exact Heap.lt_size e
  | dT kvs => obtain ⟨_, _, _, _, o, _, _, e, _⟩ := x; exact Heap.lt_size e
  | set S n => obtain ⟨o, _, _, _, e, _⟩ := x; exact Heap.lt_size e
  | ins C dx fs => obtain ⟨_, _, _, e, _⟩ := x; exact Heap.lt_size e
  | own y => obtain ⟨_, e⟩ := x; exact Heap.lt_size e
  | xd fs => obtain ⟨_, ⟨_, _, _, e, _⟩, _⟩ := x; exact Heap.lt_size e
  | rng lo hi => obtain ⟨_, _, _, e⟩ := x; exact Heap.lt_size e
  | frz ob u => obtain ⟨e, _⟩ := x; exact Heap.lt_size e
  | tbl ps => exact Heap.lt_size (show h.get? a = some _ from x)
  | met f y => exact Heap.lt_size (show h.get? a = some _ from x)
  | ext φ => obtain ⟨_, ⟨_, e⟩, _⟩ := x; exact Heap.lt_size e
theorem Paired.mapP {α β : Type} {F G : α → β → Prop} : ∀ {l₁ : List α} {l₂ : List β}, Paired F l₁ l₂ → (∀ a b, F a b → G a b) → Paired G l₁ l₂
  | _, _, .nil, _ => .nil
  | _, _, .cons r t, f => .cons (f _ _ r) (Paired.mapP t f)
theorem ObjOk.stay (x : ObjOk P w H h a o) (k : ∀ b u, (b = a ∨ H b = some (.own a)) → h.get? b = some u → h'.get? b = some u)
    (ho : ∀ b, H b = some (.own a) → H' b = some (.own a)) (ht : ∀ b xs, H b = some (.tup xs) → H' b = some (.tup xs)) : ObjOk P w H' h' a o := by
  induction o with
  | lst xs => obtain ⟨z, its, n, r, e⟩ := x; exact ⟨z, its, n, r, k _ _ (.inl rfl) e⟩
  | tup xs => obtain ⟨z, its, r, ob, e, c⟩ := x; exact ⟨z, its, r, ob, k _ _ (.inl rfl) e, c⟩
  | dK kvs => obtain ⟨z, y, vs, r, ob, es, ep, e, c⟩ := x; exact ⟨z, y, vs, r, ob, es, ep, k _ _ (.inl rfl) e, c⟩
  | dT kvs =>
    obtain ⟨z, y, xs, r, ob, es, ep, e, c⟩ := x
    exact ⟨z, y, xs, Paired.mapP r fun p q z => ⟨z.1, ht _ _ z.2.1, z.2.2⟩, ob, es, ep, k _ _ (.inl rfl) e, c⟩
  | set S n => obtain ⟨ob, es, ep, t, e, c⟩ := x; exact ⟨ob, es, ep, t, k _ _ (.inl rfl) e, c⟩
  | ins C dx fs =>
    obtain ⟨d, z, ne, e, mA, ⟨od, es, ep, e2, c⟩, r⟩ := x
    exact ⟨ho _ d, z, ne, k _ _ (.inl rfl) e, mA, ⟨od, es, ep, k _ _ (.inr d) e2, c⟩, r⟩
  | own y => obtain ⟨ob, e⟩ := x; exact ⟨ob, k _ _ (.inl rfl) e⟩
  | xd fs => obtain ⟨mA, ⟨od, es, ep, e, c⟩, r⟩ := x; exact ⟨mA, ⟨od, es, ep, k _ _ (.inl rfl) e, c⟩, r⟩
  | rng lo hi => obtain ⟨t, u, v, e⟩ := x; exact ⟨t, u, v, k _ _ (.inl rfl) e⟩
  | frz ob u ih => obtain ⟨e, q⟩ := x; exact ⟨k _ _ (.inl rfl) e, ih q⟩
  | tbl ps =>
    have e : h.get? a = some { cls := .none, data := .fields ps } := x
    show h'.get? a = some { cls := .none, data := .fields ps }
    exact k a _ (.inl rfl) e
  | met f y =>
    have e : h.get? a = some (PySem.W.methodObj (.ref f) (.ref y)) := x
    show h'.get? a = some (PySem.W.methodObj (.ref f) (.ref y))
    exact k a _ (.inl rfl) e
  | ext φ => obtain ⟨p, ⟨o, e⟩, st⟩ := x; exact ⟨st _ _ p fun o q => k _ _ (.inl rfl) q, ⟨o, k _ _ (.inl rfl) e⟩, st⟩
theorem HOk.lt (x : HOk P w H h) (e : H a = some o) : a < h.objs.size := (x a o e).lt
theorem HOk.fresh (x : HOk P w H h) (e : h.objs.size ≤ a) : H a = none := by
  cases q : H a with
  | none => rfl
  | some u => exact absurd (Nat.lt_of_lt_of_le (x.lt q) e) (Nat.lt_irrefl _)
theorem HOk.kept (x : HOk P w H h) (k : ∀ b u, h.get? b = some u → h'.get? b = some u) : HOk P w H h' := fun a o e =>
  (x a o e).stay (fun b u _ q => k b u q) (fun _ q => q) fun _ _ q => q
theorem HOk.laid (x : HOk P w H h) (k : ∀ b u, h.get? b = some u → h'.get? b = some u) (hp : h.objs.size ≤ a) (new : ObjOk P w (upd H a o) h' a o) : HOk P w (upd H a o) h' := fun b u e => by
  have hn := x.fresh hp
  by_cases hb : b = a
  · subst hb; rw [upd_same] at e; cases e; exact new
  · rw [upd_ne hb] at e
    exact (x b u e).stay (fun c v _ q => k c v q) (fun c q => by rw [upd_ne (ne_of_none q hn)]; exact q) fun c xs q => by rw [upd_ne (ne_of_none q hn)]; exact q
end
def Rd (H : Hp) (a : Addr) (u : HO) : Prop := H a = some u ∨ ∃ o, H a = some (.frz o u)
theorem Rd.ok {P : Program} {w : World} {H : Hp} {h : Heap} {a : Addr} {u : HO} (r : Rd H a u) (x : HOk P w H h) : ObjOk P w H h a u := by
  rcases r with r | ⟨o, r⟩
  · exact x a u r
  · obtain ⟨_, q⟩ := x a _ r
    exact q
def Mut : Option HO → Prop
  | some (.lst _) => True
  | some (.dK _) => True
  | some (.dT _) => True
  | some (.set _ _) => True
  | some (.ins _ _ _) => True
  | some (.ext _) => True
  | _ => False
section
variable {P : Program} {w : World} {H : Hp} {h h' : Heap} {x e : Addr} {o' : HO}
theorem HOk.write (ok : HOk P w H h) (mu : Mut (H x)) (he : e = x ∨ H e = some (.own x)) (k : ∀ b u, b ≠ e → h.get? b = some u → h'.get? b = some u) (heo : ∃ u, h'.get? e = some u)
    (new : ObjOk P w (upd H x o') h' x o') : HOk P w (upd H x o') h' := fun b u q => by
  have nown : ∀ c y, H c = some (.own y) → c ≠ x := fun c y r z => by subst z; rw [r] at mu; exact mu
  have ntup : ∀ c xs, H c = some (.tup xs) → c ≠ x := fun c xs r z => by subst z; rw [r] at mu; exact mu
  by_cases hb : b = x
  · subst hb; rw [upd_same] at q; cases q; exact new
  · rw [upd_ne hb] at q
    by_cases hbe : b = e
    · have q' : H b = some (.own x) := by
        rcases he with z | z
        · exact absurd (hbe.trans z) hb
        · rw [hbe]; exact z
      rw [q] at q'; cases q'
      obtain ⟨v, hv⟩ := heo
      exact ⟨v, by rw [hbe]; exact hv⟩
    · refine (ok b u q).stay (fun c v hc r => k c v ?_ r) (fun c r => by rw [upd_ne (nown c b r)]; exact r) fun c xs r => by rw [upd_ne (ntup c xs r)]; exact r
      rcases hc with rfl | hc
      · exact hbe
      · rintro rfl
        rcases he with z | z
        · exact nown c b hc z
        · rw [hc] at z; cases z; exact hb rfl
end
structure Un (fs ex : List Addr) (H H' : Hp) (h h' : Heap) : Prop where
  keep : ∀ b o, h.get? b = some o → H b = none → b ∉ fs → b ∉ ex → h'.get? b = some o
  slot : ∀ b o, h.get? b = some o → H b = none → b ∈ fs → b ∉ ex → ∃ sl, h'.get? b = some { o with slots := sl }
  free : ∀ b o, h.get? b = some o → H b = none → b ∉ ex → H' b = none
  there : ∀ b o, h.get? b = some o → b ∉ ex → ∃ o', h'.get? b = some o'
  tups : ∀ b xs, H b = some (.tup xs) → H' b = some (.tup xs)
  frzs : ∀ b o u, H b = some (.frz o u) → H' b = some (.frz o u)
  tbls : ∀ b ps, H b = some (.tbl ps) → ∃ more, H' b = some (.tbl (ps ++ more))
section
variable {fs fs' ex ex' : List Addr} {H H1 H2 : Hp} {h h1 h2 h' : Heap} {a x e : Addr} {o : HO}
theorem Un.any (u : Un fs ex H H1 h h1) {b : Addr} {ob : Obj} (q : h.get? b = some ob) (n : H b = none) (hx : b ∉ ex) : ∃ sl, h1.get? b = some { ob with slots := sl } := by
  by_cases hb : b ∈ fs
  · exact u.slot b ob q n hb hx
  · exact ⟨ob.slots, u.keep b ob q n hb hx⟩
theorem Un.kept (k : ∀ b u, h.get? b = some u → h'.get? b = some u) : Un fs ex H H h h' :=
  ⟨fun b ob q _ _ _ => k b ob q, fun b ob q _ _ _ => ⟨ob.slots, k b ob q⟩, fun _ _ _ n _ => n, fun b ob q _ => ⟨ob, k b ob q⟩, fun _ _ q => q, fun _ _ _ q => q, fun _ ps q => ⟨#[], by rw [q]; simp⟩⟩
theorem Un.refl : Un fs ex H H h h := Un.kept fun _ _ q => q
theorem Un.laid (k : ∀ b u, h.get? b = some u → h'.get? b = some u) (hp : h.objs.size ≤ a) (hn : H a = none) : Un fs ex H (upd H a o) h h' where
  keep := fun b u q _ _ _ => k b u q
  slot := fun b u q _ _ _ => ⟨u.slots, k b u q⟩
  free := fun b u q n _ => by rw [upd_ne (Nat.ne_of_lt (Nat.lt_of_lt_of_le (Heap.lt_size q) hp))]; exact n
  there := fun b u q _ => ⟨u, k b u q⟩
  tups := fun b xs q => by rw [upd_ne (ne_of_none q hn)]; exact q
  frzs := fun b u xs q => by rw [upd_ne (ne_of_none q hn)]; exact q
  tbls := fun b ps q => ⟨#[], by rw [upd_ne (ne_of_none q hn), q]; simp⟩
theorem Un.write (mu : Mut (H x)) (he : e = x ∨ H e = some (.own x)) (k : ∀ b u, b ≠ e → h.get? b = some u → h'.get? b = some u) (heo : ∃ u, h'.get? e = some u) : Un fs ex H (upd H x o) h h' := by
  have hx : ∀ b, H b = none → b ≠ x := fun b n z => by subst z; rw [n] at mu; exact mu
  have hb : ∀ b, H b = none → b ≠ e := fun b n z => by
    subst z
    rcases he with r | r
    · exact hx b n r
    · rw [n] at r; cases r
  have hm : ∀ b u, H b = some u → ¬ Mut (some u) → b ≠ x := fun b u q nm z => by subst z; rw [q] at mu; exact nm mu
  refine ⟨fun b u q n _ _ => k b u (hb b n) q, fun b u q n _ _ => ⟨u.slots, k b u (hb b n) q⟩, fun b u q n _ => by rw [upd_ne (hx b n)]; exact n, fun b u q _ => ?_,
    fun b xs q => by rw [upd_ne (hm b _ q fun z => z)]; exact q, fun b u xs q => by rw [upd_ne (hm b _ q fun z => z)]; exact q, fun b ps q => ⟨#[], by rw [upd_ne (hm b _ q fun z => z), q]; simp⟩⟩
  by_cases hbe : b = e
  · subst hbe; exact heo
  · exact ⟨u, k b u hbe q⟩
end
def trk (h : Heap) (H : Hp) : List Addr := (List.range h.objs.size).filter fun a => (H a).isSome
def hidT (h : Heap) (H : Hp) : Heap := PySem.W.hideAll h (trk h H)
theorem hidT_size (h : Heap) (H : Hp) : (hidT h H).objs.size = h.objs.size := PySem.W.hideAll_size _ _
theorem hidT_get {h : Heap} {H : Hp} {b : Addr} {o : Obj} (e : h.get? b = some o) (n : H b = none) : (hidT h H).get? b = some o :=
  PySem.W.hideAll_get _ e fun hm => by
    have q : (H b).isSome = true := (List.mem_filter.mp hm).2
    rw [n] at q; simp at q
theorem of_hidT {h : Heap} {H : Hp} {b : Addr} {o : Obj} (e : (hidT h H).get? b = some o) : h.get? b = some o ∧ H b = none := by
  have e' : h.get? b = some o := PySem.W.of_hideAll (trk h H) e
  refine ⟨e', ?_⟩
  cases q : H b with
  | none => rfl
  | some x =>
    have hm : b ∈ trk h H := List.mem_filter.mpr ⟨List.mem_range.mpr (Heap.lt_size e'), by simp [q]⟩
    have z : (hidT h H).get? b = none := PySem.W.hideAll_none (trk h H) hm
    rw [z] at e; cases e
end L2
namespace L2
open PySem PySem.Spec PyProof.Rows
structure Mod (K : PySem.W.Frag) (mg : Str → Option Value) (base : Heap) : Prop where
  kin : K.In base
  glob : base.Ns mainGlobals mg
  blt : ∃ mb, base.Ns builtinsNs mb ∧ ∀ x : Str, x ≠ "__name__" → mb x = bootBuiltins x
  nolimit : base.NoLimit
structure Cx where
  prog : Program
  w : World
  K : PySem.W.Frag
  mg : Str → Option Value
  base : Heap
  A : Around
  N : List Str
  s₀ : Shared
  H₀ : Hp
  env : Env
  outer : List Env
  stack : List Env
  ex : List Addr
  fn : Str → Bool
  calm : Bool
  pn : List (Addr × Obj)
  xe : Value → Shared → Prop
def frs (l : List Env) : List Addr := l.filterMap (·.frame)
abbrev Cx.fs (X : Cx) : List Addr := frs X.outer
def Vis (sc : Scope) (x : Str) : Prop := sc.names.lookup x = some .local ∨ sc.names.lookup x = some .cell ∨ sc.names.lookup x = some .free
def Loc (sc : Scope) (x : Str) : Prop := sc.names.lookup x = some .local ∨ sc.names.lookup x = some .cell
def Look (env : Env) (h : Heap) (m : Str → Option Value) (x : Str) (u : Value) : Prop :=
  (env.kindOf x = some .local ∧ m x = some u) ∨ ((env.kindOf x = some .cell ∨ env.kindOf x = some .free) ∧ ∃ c, env.cells.lookup x = some c ∧ h.IsCell c (some u))
structure Cx.Ok (X : Cx) : Prop where
  mod : Mod X.K X.mg X.base
  kind : X.env.scope.kind = .function
  glob : X.env.globals = mainGlobals
  blt : X.env.builtins = builtinsNs
  above : X.s₀.heap.objs.size ≤ X.env.locals
  inj : ∀ x y c, X.env.cells.lookup x = some c → X.env.cells.lookup y = some c → x = y
  has : ∀ x, (X.env.kindOf x = some .cell ∨ X.env.kindOf x = some .free) → ∃ c, X.env.cells.lookup x = some c
  cab : ∀ x c, X.fn x = true → X.env.cells.lookup x = some c → X.s₀.heap.objs.size ≤ c
  hd : X.calm = true → X.A.handled = none
  frames : X.A.frames = some X.stack
  stk : X.stack = X.outer ∨ (X.stack = X.env :: X.outer ∧ X.env.frame = some X.env.locals)
  exf : ∀ b ∈ X.ex, b ≠ X.env.locals ∧ ∀ x c, X.env.cells.lookup x = some c → c ≠ b
  bs : ∀ b o, X.base.get? b = some o → X.s₀.heap.get? b = some o ∧ X.H₀ b = none
  bsz : X.base.objs.size ≤ X.s₀.heap.objs.size
  noex : ∀ b o, X.base.get? b = some o → b ∉ X.ex
  exfs : ∀ b ∈ X.ex, b ∉ X.fs
  funs : X.s₀.heap.FunFrames X.base X.outer
  frf : ∀ b ∈ X.fs, X.H₀ b = none
structure Inv (X : Cx) (pins : List (Addr × Obj)) (σ : List (Option V)) (H : Hp) (s : Shared) : Prop where
  ok : X.Ok
  os : s.os = X.s₀.os
  bare : AllBare s.gens
  base : Un X.fs X.ex X.H₀ H X.s₀.heap s.heap
  loc : ∃ m, s.heap.Ns X.env.locals m ∧ ∀ (i : Nat) (x : Str) (v : V), X.N[i]? = some x → σ[i]? = some (some v) → Vis X.env.scope x → ∃ u, RelV v u ∧ Look X.env s.heap m x u
  cell : ∀ x c, X.env.cells.lookup x = some c → ∃ v, s.heap.IsCell c v
  free : H X.env.locals = none
  freeC : ∀ x c, X.env.cells.lookup x = some c → H c = none
  pin : ∀ p ∈ X.pn ++ pins, s.heap.get? p.1 = some p.2 ∧ H p.1 = none ∧ p.1 ≠ X.env.locals ∧ p.1 ∉ X.fs ∧ ∀ v, p.2.data ≠ .cell v
  hok : HOk X.prog X.w H s.heap
  len : σ.length = X.N.length
section
variable {X : Cx} {pins : List (Addr × Obj)} {σ : List (Option V)} {H H' : Hp} {s : Shared} {h' : Heap}
theorem Cx.Ok.nofr (ok : X.Ok) {b : Addr} {o : Obj} (e : X.base.get? b = some o) : b ∉ X.fs := fun hb => by
  have := (ok.funs.mem hb).1
  rw [e] at this; cases this
theorem Inv.bs (I : Inv X pins σ H s) : ∀ b o, X.base.get? b = some o → s.heap.get? b = some o ∧ H b = none := fun b o e =>
  ⟨I.base.keep b o (I.ok.bs b o e).1 (I.ok.bs b o e).2 (I.ok.nofr e) (I.ok.noex b o e), I.base.free b o (I.ok.bs b o e).1 (I.ok.bs b o e).2 (I.ok.noex b o e)⟩
theorem Inv.bk (I : Inv X pins σ H s) : ∀ b o, X.base.get? b = some o → s.heap.get? b = some o := fun b o e => (I.bs b o e).1
theorem Inv.mod (I : Inv X pins σ H s) : Mod X.K X.mg X.base := I.ok.mod
theorem Inv.kIn (I : Inv X pins σ H s) : X.K.In s.heap := I.ok.mod.kin.keeps I.bk
theorem Inv.nolimit (I : Inv X pins σ H s) : s.heap.NoLimit := I.ok.mod.nolimit.keeps I.bk
theorem Inv.lt (I : Inv X pins σ H s) : X.env.locals < s.heap.objs.size := let ⟨_, hn, _⟩ := I.loc; hn.lt
theorem Inv.sz (I : Inv X pins σ H s) : X.s₀.heap.objs.size ≤ s.heap.objs.size := Nat.le_trans I.ok.above (Nat.le_of_lt I.lt)
theorem Inv.nofs (I : Inv X pins σ H s) {a : Addr} (h : s.heap.objs.size ≤ a) : a ∉ X.fs := fun hb => by
  obtain ⟨_, o, ho, _⟩ := I.ok.funs.mem hb
  exact absurd (Nat.lt_of_lt_of_le (Heap.lt_size ho) (Nat.le_trans I.sz h)) (Nat.lt_irrefl _)
theorem Inv.cne (I : Inv X pins σ H s) : ∀ x c, X.env.cells.lookup x = some c → c ≠ X.env.locals := fun x c e z => by
  obtain ⟨v, o, ho, hd⟩ := I.cell x c e
  obtain ⟨m, ⟨o', es, ep, ho', hd', _⟩, _⟩ := I.loc
  rw [z, ho'] at ho; cases ho; rw [hd'] at hd; cases hd
theorem Inv.funs (I : Inv X pins σ H s) : s.heap.FunFrames X.base X.outer := by
  have all : ∀ (l : List Env), (∀ b ∈ frs l, b ∈ X.fs) → X.s₀.heap.FunFrames X.base l → s.heap.FunFrames X.base l := by
    intro l
    induction l with
    | nil => intro _ _; trivial
    | cons env r ih =>
      intro hs hl
      obtain ⟨hk, ⟨L, o, hf, hn, ho, hd⟩, hr⟩ := hl
      have hL : L ∈ X.fs := hs L (by unfold frs; rw [List.filterMap_cons, hf]; exact List.mem_cons_self)
      obtain ⟨sl, e⟩ := I.base.slot L o ho (I.ok.frf L hL) hL fun z => I.ok.exfs L z hL
      exact ⟨hk, ⟨L, _, hf, hn, e, hd⟩, ih (fun b hb => hs b (by unfold frs; rw [List.filterMap_cons, hf]; exact List.mem_cons_of_mem _ hb)) hr⟩
  exact all X.outer (fun _ hb => hb) I.ok.funs
theorem Inv.stack (I : Inv X pins σ H s) : s.heap.FunFrames X.base X.stack := by
  rcases I.ok.stk with e | ⟨e, hf⟩
  · rw [e]; exact I.funs
  · rw [e]
    obtain ⟨m, hn, _⟩ := I.loc
    refine .cons (by rw [I.ok.kind]; decide) hf hn ?_ I.funs
    exact Heap.get?_none_of_le (Nat.le_trans I.ok.bsz I.ok.above)
theorem Inv.stkSub (I : Inv X pins σ H s) : ∀ b ∈ frs X.stack, b ∈ X.env.locals :: X.fs := fun b hb => by
  rcases I.ok.stk with e | ⟨e, hf⟩
  · rw [e] at hb; exact List.mem_cons_of_mem _ hb
  · rw [e] at hb
    unfold frs at hb
    rw [List.filterMap_cons, hf] at hb
    exact hb
theorem Inv.stkFree (I : Inv X pins σ H s) : ∀ b ∈ frs X.stack, H b = none := fun b hb => by
  rcases List.mem_cons.mp (I.stkSub b hb) with e | hb
  · rw [e]; exact I.free
  · obtain ⟨_, o, ho, _⟩ := I.ok.funs.mem hb
    exact I.base.free b o ho (I.ok.frf b hb) fun z => I.ok.exfs b z hb
theorem Inv.step {g' : Array GenState} {t' : Nat} {d' : Drawn} {ch : List Addr} (I : Inv X pins σ H s)
    (hch : ∀ b ∈ ch, (b ∈ X.ex ∨ X.s₀.heap.objs.size ≤ b) ∧ b ≠ X.env.locals ∧ (∀ x c, X.env.cells.lookup x = some c → c ≠ b) ∧ ∀ p ∈ X.pn ++ pins, p.1 ≠ b)
    (keep : ∀ b o, b ≠ X.env.locals → b ∉ X.fs → b ∉ ch → s.heap.get? b = some o → H b = none → h'.get? b = some o)
    (slot : ∀ b o, b ≠ X.env.locals → b ∈ X.fs → b ∉ ch → s.heap.get? b = some o → H b = none → ∃ sl, h'.get? b = some { o with slots := sl }) (free : ∀ b o, b ∉ ch → s.heap.get? b = some o → H b = none → H' b = none)
    (there : ∀ b o, b ∉ ch → s.heap.get? b = some o → ∃ o', h'.get? b = some o')
    (tups : ∀ b xs, H b = some (.tup xs) → H' b = some (.tup xs)) (frzs : ∀ b o u, H b = some (.frz o u) → H' b = some (.frz o u)) (tbls : ∀ b ps, H b = some (.tbl ps) → ∃ more, H' b = some (.tbl (ps ++ more)))
    (ns : ∀ m, s.heap.Ns X.env.locals m → h'.Ns X.env.locals m) (hok : HOk X.prog X.w H' h') (hg : AllBare g') :
    Inv X pins σ H' { s with heap := h', gens := g', drawn := d', toks := t' } := by
  have neL : ∀ b o, X.s₀.heap.get? b = some o → b ≠ X.env.locals := fun b o e => Nat.ne_of_lt (Nat.lt_of_lt_of_le (Heap.lt_size e) I.ok.above)
  have neC : ∀ b o, X.s₀.heap.get? b = some o → b ∉ X.ex → b ∉ ch := fun b o e hx hb => by
    rcases (hch b hb).1 with z | z
    · exact hx z
    · exact absurd (Nat.lt_of_lt_of_le (Heap.lt_size e) z) (Nat.lt_irrefl _)
  have cellK : ∀ x c, X.env.cells.lookup x = some c → ∀ v, s.heap.IsCell c v → h'.IsCell c v := fun x c e v ⟨o, ho, hd⟩ => by
    have nch : c ∉ ch := fun z => (hch c z).2.2.1 x c e rfl
    by_cases hc : c ∈ X.fs
    · obtain ⟨sl, q⟩ := slot c o (I.cne x c e) hc nch ho (I.freeC x c e)
      exact ⟨_, q, hd⟩
    · exact ⟨o, keep c o (I.cne x c e) hc nch ho (I.freeC x c e), hd⟩
  refine ⟨I.ok, I.os, hg, ⟨fun b o e n hb hx => ?_, fun b o e n hb hx => ?_, fun b o e n hx => ?_, fun b o e hx => ?_, fun b xs e => tups b xs (I.base.tups b xs e), fun b o xs e => frzs b o xs (I.base.frzs b o xs e), fun b ps e => ?_⟩, ?_, fun x c e => ?_, ?_, fun x c e => ?_, fun p hp => ?_, hok, I.len⟩
  · exact keep b o (neL b o e) hb (neC b o e hx) (I.base.keep b o e n hb hx) (I.base.free b o e n hx)
  · obtain ⟨sl, e1⟩ := I.base.slot b o e n hb hx
    obtain ⟨sl', e2⟩ := slot b _ (neL b o e) hb (neC b o e hx) e1 (I.base.free b o e n hx)
    exact ⟨sl', e2⟩
  · obtain ⟨o', e1⟩ := I.base.there b o e hx
    exact free b o' (neC b o e hx) e1 (I.base.free b o e n hx)
  · obtain ⟨o', e1⟩ := I.base.there b o e hx
    exact there b o' (neC b o e hx) e1
  · obtain ⟨m1, e1⟩ := I.base.tbls b ps e
    obtain ⟨m2, e2⟩ := tbls b _ e1
    exact ⟨m1 ++ m2, by rw [e2, Array.append_assoc]⟩
  · obtain ⟨m, hn, hl⟩ := I.loc
    refine ⟨m, ns m hn, fun i x v e1 e2 e3 => ?_⟩
    obtain ⟨u, r, l⟩ := hl i x v e1 e2 e3
    refine ⟨u, r, ?_⟩
    rcases l with l | ⟨k, c, e, z⟩
    · exact .inl l
    · exact .inr ⟨k, c, e, cellK x c e _ z⟩
  · obtain ⟨v, z⟩ := I.cell x c e
    exact ⟨v, cellK x c e v z⟩
  · obtain ⟨m, ⟨o, _, _, ho, _⟩, _⟩ := I.loc
    exact free _ o (fun z => (hch _ z).2.1 rfl) ho I.free
  · obtain ⟨v, o, ho, hd⟩ := I.cell x c e
    exact free c o (fun z => (hch c z).2.2.1 x c e rfl) ho (I.freeC x c e)
  · obtain ⟨e, n, ne, nf, d⟩ := I.pin p hp
    have nch : p.1 ∉ ch := fun z => (hch p.1 z).2.2.2 p hp rfl
    exact ⟨keep p.1 p.2 ne nf nch e n, free p.1 p.2 nch e n, ne, nf, d⟩
theorem Inv.un {t' : Nat} (I : Inv X pins σ H s) (u : Un X.fs [] H H' s.heap h') (hok : HOk X.prog X.w H' h') : Inv X pins σ H' { s with heap := h', toks := t' } := by
  obtain ⟨m, ⟨o, es, ep, ho, r⟩, _⟩ := id I.loc
  obtain ⟨sl, hL⟩ := u.any ho I.free (by simp)
  exact I.step (g' := s.gens) (d' := s.drawn) (ch := []) (fun _ z => nomatch z) (fun b o _ hb _ e n => u.keep b o e n hb (by simp)) (fun b o _ hb _ e n => u.slot b o e n hb (by simp)) (fun b o _ e n => u.free b o e n (by simp)) (fun b o _ e => u.there b o e (by simp)) u.tups u.frzs u.tbls (fun m' hm => by
    obtain ⟨o', es', ep', ho', r'⟩ := hm
    rw [ho] at ho'; cases ho'
    exact ⟨_, es', ep', hL, r'⟩) hok I.bare
theorem Inv.call {g' : Array GenState} {t' : Nat} {d' : Drawn} {ch : List Addr} (I : Inv X pins σ H s) (u : Un (frs X.stack) ch H H' s.heap h') (hok : HOk X.prog X.w H' h') (hg : AllBare g')
    (hch : ∀ b ∈ ch, (b ∈ X.ex ∨ X.s₀.heap.objs.size ≤ b) ∧ b ≠ X.env.locals ∧ (∀ x c, X.env.cells.lookup x = some c → c ≠ b) ∧ ∀ p ∈ X.pn ++ pins, p.1 ≠ b) :
    Inv X pins σ H' { s with heap := h', gens := g', drawn := d', toks := t' } := by
  obtain ⟨m, ⟨o, es, ep, ho, r⟩, _⟩ := id I.loc
  obtain ⟨sl, hL⟩ := u.any ho I.free fun z => (hch _ z).2.1 rfl
  exact I.step (ch := ch) hch (fun b o hL hb hc e n => u.keep b o e n (fun z => (List.mem_cons.mp (I.stkSub b z)).elim hL hb) hc) (fun b o _ _ hc e n => u.any e n hc) (fun b o hc e n => u.free b o e n hc) (fun b o hc e => u.there b o e hc) u.tups u.frzs u.tbls (fun m' hm => by
    obtain ⟨o', es', ep', ho', r'⟩ := hm
    rw [ho] at ho'; cases ho'
    exact ⟨_, es', ep', hL, r'⟩) hok hg
theorem Inv.turned {t' : Nat} {it : Addr} (I : Inv X pins σ H s) (k : ∀ b o, b ≠ it → s.heap.get? b = some o → h'.get? b = some o) (hn : H it = none) (hL : it ≠ X.env.locals)
    (h1 : it ∈ X.ex ∨ X.s₀.heap.objs.size ≤ it) (h2 : ∀ x c, X.env.cells.lookup x = some c → c ≠ it) (h3 : ∀ p ∈ X.pn ++ pins, p.1 ≠ it) : Inv X pins σ H { s with heap := h', toks := t' } := by
  have nit : ∀ b u, H b = some u → b ≠ it := fun b u e z => by rw [z, hn] at e; cases e
  refine I.step (g' := s.gens) (d' := s.drawn) (ch := [it]) (fun b hb => ?_) (fun b o _ _ hc e _ => k b o (fun z => hc (by simp [z])) e) (fun b o _ _ hc e _ => ⟨o.slots, k b o (fun z => hc (by simp [z])) e⟩) (fun _ _ _ _ n => n)
    (fun b o hc e => ⟨o, k b o (fun z => hc (by simp [z])) e⟩) (fun _ _ e => e) (fun _ _ _ e => e) (fun b ps e => ⟨#[], by rw [e]; simp⟩) (fun m hm => ?_) (fun b u e => ?_) I.bare
  · have e : b = it := by simpa using hb
    subst e
    exact ⟨h1, hL, h2, h3⟩
  · obtain ⟨o, es, ep, ho, r⟩ := hm
    exact ⟨o, es, ep, k _ o (Ne.symm hL) ho, r⟩
  · refine (I.hok b u e).stay (fun c v hc q => k c v ?_ q) (fun _ q => q) fun _ _ q => q
    rcases hc with z | z
    · rw [z]; exact nit b u e
    · exact nit c _ z
theorem Inv.tok (I : Inv X pins σ H s) (t : Nat) : Inv X pins σ H { s with toks := t } := I.un (h' := s.heap) (t' := t) Un.refl I.hok
theorem Inv.kept {t' : Nat} (I : Inv X pins σ H s) (k : ∀ b u, s.heap.get? b = some u → h'.get? b = some u) : Inv X pins σ H { s with heap := h', toks := t' } := I.un (Un.kept k) (I.hok.kept k)
theorem Inv.laid {a : Addr} {o : HO} {t' : Nat} (I : Inv X pins σ H s) (k : ∀ b u, s.heap.get? b = some u → h'.get? b = some u) (hp : s.heap.objs.size ≤ a) (new : ObjOk X.prog X.w (upd H a o) h' a o) :
    Inv X pins σ (upd H a o) { s with heap := h', toks := t' } := I.un (Un.laid k hp (I.hok.fresh hp)) (I.hok.laid k hp new)
theorem Inv.write {x e : Addr} {o : HO} {t' : Nat} (I : Inv X pins σ H s) (mu : Mut (H x)) (he : e = x ∨ H e = some (.own x)) (k : ∀ b u, b ≠ e → s.heap.get? b = some u → h'.get? b = some u) (heo : ∃ u, h'.get? e = some u)
    (new : ObjOk X.prog X.w (upd H x o) h' x o) : Inv X pins σ (upd H x o) { s with heap := h', toks := t' } := I.un (Un.write mu he k heo) (I.hok.write mu he k heo new)
theorem Inv.pins_of {pins' : List (Addr × Obj)} (I : Inv X pins σ H s) (h : ∀ p ∈ pins', s.heap.get? p.1 = some p.2 ∧ H p.1 = none ∧ p.1 ≠ X.env.locals ∧ p.1 ∉ X.fs ∧ ∀ v, p.2.data ≠ .cell v) : Inv X pins' σ H s :=
  ⟨I.ok, I.os, I.bare, I.base, I.loc, I.cell, I.free, I.freeC, fun p hp => (List.mem_append.mp hp).elim (fun z => I.pin p (List.mem_append_left _ z)) (h p), I.hok, I.len⟩
theorem nodup_ix {N : List Str} (hN : N.Nodup) {i j : Nat} {x : Str} (a : N[i]? = some x) (b : N[j]? = some x) : i = j := by
  obtain ⟨h1, e1⟩ := List.getElem?_eq_some_iff.mp a
  obtain ⟨h2, e2⟩ := List.getElem?_eq_some_iff.mp b
  exact (List.getElem_inj hN).mp (e1.trans e2.symm)
theorem store_ok2 {M : Model} {A : Around} {E : Value → Shared → Prop} {i : Nat} {x : Str} {v : V} {u : Value} {Q : Unit → Shared → Prop} (I : Inv X pins σ H s) (hN : X.N.Nodup) (hi : X.N[i]? = some x) (hx : Loc X.env.scope x) (r : RelV v u)
    (h : ∀ s', Inv X pins (σ.set i (some v)) H s' → (∃ a, Heap.SameBut a s.heap s'.heap ∧ (a = X.env.locals ∨ X.env.cells.lookup x = some a)) → Q () s') (hf : X.fn x = true ∨ X.env.scope.names.lookup x = some .local := by first | exact .inl rfl | exact .inr rfl | assumption) : wpAny M A (storeName X.env x u) Q E s := by
  obtain ⟨m, hn, hl⟩ := id I.loc
  have hcls : (X.env.scope.kind == .class || (X.env.scope.kind == .module && X.env.locals != X.env.globals)) = false := by rw [I.ok.kind]; rfl
  have hiσ : i < σ.length := by rw [I.len]; exact (List.getElem?_eq_some_iff.mp hi).1
  have cne := I.cne
  have tracked : ∀ {a : Addr} {h' : Heap}, (∃ o, s.heap.get? a = some o ∧ H a = none) → Heap.SameBut a s.heap h' → HOk X.prog X.w H h' := fun {a h'} ha hs b ob e => by
    obtain ⟨_, _, hfree⟩ := ha
    refine (I.hok b ob e).stay (fun c w' hc q => (hs.2 c ?_).trans q) (fun _ q => q) fun _ _ q => q
    rintro rfl
    rcases hc with rfl | hc
    · rw [hfree] at e; cases e
    · rw [hfree] at hc; cases hc
  rcases hx with hk | hk
  · refine wpAny_storeName_local hk hn (fun h' hn' hs => ?_) hcls
    obtain ⟨oL, _, _, hoL, _⟩ := id hn
    refine h _ ⟨I.ok, I.os, I.bare, ⟨fun b o e n hb hx => ?_, fun b o e n hb hx => ?_, I.base.free, fun b o e hx => ?_, I.base.tups, I.base.frzs, I.base.tbls⟩, ⟨_, hn', fun j y v' e1 e2 e3 => ?_⟩, fun y c e => ?_, I.free, I.freeC, fun p hp => ?_, tracked ⟨oL, hoL, I.free⟩ hs, by simpa using I.len⟩ ⟨_, hs, .inl rfl⟩
    · exact (hs.2 b (Nat.ne_of_lt (Nat.lt_of_lt_of_le (Heap.lt_size e) I.ok.above))).trans (I.base.keep b o e n hb hx)
    · obtain ⟨sl, e1⟩ := I.base.slot b o e n hb hx
      exact ⟨sl, (hs.2 b (Nat.ne_of_lt (Nat.lt_of_lt_of_le (Heap.lt_size e) I.ok.above))).trans e1⟩
    · obtain ⟨o', e1⟩ := I.base.there b o e hx
      exact ⟨o', (hs.2 b (Nat.ne_of_lt (Nat.lt_of_lt_of_le (Heap.lt_size e) I.ok.above))).trans e1⟩
    · by_cases hj : j = i
      · subst hj
        rw [hi] at e1; cases e1
        rw [List.getElem?_set_self hiσ] at e2
        cases e2
        exact ⟨u, r, .inl ⟨hk, by simp⟩⟩
      · rw [List.getElem?_set_ne (Ne.symm hj)] at e2
        obtain ⟨u', r', q⟩ := hl j y v' e1 e2 e3
        refine ⟨u', r', ?_⟩
        rcases q with ⟨k, e⟩ | ⟨k, c, e, z⟩
        · refine .inl ⟨k, ?_⟩
          have : y ≠ x := fun e => hj (nodup_ix hN e1 (e ▸ hi))
          simp [this, e]
        · exact .inr ⟨k, c, e, z.sameBut hs (cne y c e)⟩
    · obtain ⟨w', z⟩ := I.cell y c e
      exact ⟨w', z.sameBut hs (cne y c e)⟩
    · obtain ⟨e, n, ne, nf, d⟩ := I.pin p hp
      exact ⟨(hs.2 p.1 ne).trans e, n, ne, nf, d⟩
  · have hfn : X.fn x = true := by
      rcases hf with z | z
      · exact z
      · rw [z] at hk; cases hk
    obtain ⟨c, hc⟩ := I.ok.has x (.inl hk)
    obtain ⟨w', z⟩ := I.cell x c hc
    refine wpAny_storeName_cell I.ok.kind hk hc z (fun h' hc' hs => ?_)
    obtain ⟨oc, hoc, hocd⟩ := id z
    refine h { s with heap := h' } ⟨I.ok, I.os, I.bare, ⟨fun b o e n hb hx => ?_, fun b o e n hb hx => ?_, I.base.free, fun b o e hx => ?_, I.base.tups, I.base.frzs, I.base.tbls⟩, ⟨m, hn.sameBut hs (Ne.symm (cne x c hc)), fun j y v' e1 e2 e3 => ?_⟩, fun y c' e => ?_, I.free, I.freeC, fun p hp => ?_, tracked ⟨oc, hoc, I.freeC x c hc⟩ hs, by simpa using I.len⟩ ⟨c, hs, .inr hc⟩
    · exact (hs.2 b (Nat.ne_of_lt (Nat.lt_of_lt_of_le (Heap.lt_size e) (I.ok.cab x c hfn hc)))).trans (I.base.keep b o e n hb hx)
    · obtain ⟨sl, e1⟩ := I.base.slot b o e n hb hx
      exact ⟨sl, (hs.2 b (Nat.ne_of_lt (Nat.lt_of_lt_of_le (Heap.lt_size e) (I.ok.cab x c hfn hc)))).trans e1⟩
    · obtain ⟨o', e1⟩ := I.base.there b o e hx
      exact ⟨o', (hs.2 b (Nat.ne_of_lt (Nat.lt_of_lt_of_le (Heap.lt_size e) (I.ok.cab x c hfn hc)))).trans e1⟩
    · by_cases hj : j = i
      · subst hj
        rw [hi] at e1; cases e1
        rw [List.getElem?_set_self hiσ] at e2
        cases e2
        exact ⟨u, r, .inr ⟨.inl hk, c, hc, hc'⟩⟩
      · rw [List.getElem?_set_ne (Ne.symm hj)] at e2
        obtain ⟨u', r', q⟩ := hl j y v' e1 e2 e3
        refine ⟨u', r', ?_⟩
        rcases q with q | ⟨k, c', e, z'⟩
        · exact .inl q
        · refine .inr ⟨k, c', e, z'.sameBut hs ?_⟩
          rintro rfl
          exact hj (nodup_ix hN e1 (I.ok.inj _ _ _ e hc ▸ hi))
    · by_cases hcc : c' = c
      · subst hcc; exact ⟨_, hc'⟩
      · obtain ⟨w2, z2⟩ := I.cell y c' e
        exact ⟨w2, z2.sameBut hs hcc⟩
    · obtain ⟨e, n, ne, nf, d⟩ := I.pin p hp
      refine ⟨(hs.2 p.1 ?_).trans e, n, ne, nf, d⟩
      intro q
      rw [q, hoc] at e
      have q' : oc = p.2 := Option.some.inj e
      exact d w' (by rw [← q']; exact hocd)
theorem store_ok {M : Model} {A : Around} {E : Value → Shared → Prop} {i : Nat} {x : Str} {v : V} {u : Value} {Q : Unit → Shared → Prop} (I : Inv X pins σ H s) (hN : X.N.Nodup) (hi : X.N[i]? = some x) (hx : Loc X.env.scope x) (r : RelV v u)
    (h : ∀ s', Inv X pins (σ.set i (some v)) H s' → Q () s') (hf : X.fn x = true ∨ X.env.scope.names.lookup x = some .local := by first | exact .inl rfl | exact .inr rfl | assumption) : wpAny M A (storeName X.env x u) Q E s :=
  store_ok2 I hN hi hx r (fun s' I' _ => h s' I') hf
end
abbrev XK := Value → Option Addr → Hp → Prop
abbrev St := List (Option V)
abbrev VK := V → Hp → Prop
abbrev TE := St → Hp → VK → Prop
abbrev TT := St → Hp → (Bool → Hp → Prop) → Prop
abbrev TA := St → Hp → (List V → Hp → Prop) → Prop
structure Ends where
  nx : St → Hp → Prop
  rt : VK
  bk : St → Hp → Prop := fun _ _ => False
  ct : St → Hp → Prop := fun _ _ => False
abbrev TS := Ends → St → Hp → Prop
def EP (X : Cx) (pins : List (Addr × Obj)) (σ : St) (Q : VK) (u : Value) (s' : Shared) : Prop := ∃ v H', Inv X pins σ H' s' ∧ RelV v u ∧ Q v H'
def TP (X : Cx) (pins : List (Addr × Obj)) (σ : St) (Q : Bool → Hp → Prop) (b : Bool) (s' : Shared) : Prop := ∃ H', Inv X pins σ H' s' ∧ Q b H'
def AP (X : Cx) (pins : List (Addr × Obj)) (σ : St) (Q : List V → Hp → Prop) (us : List Value) (s' : Shared) : Prop := ∃ vs H', Inv X pins σ H' s' ∧ Vals vs us ∧ Q vs H'
def SP (X : Cx) (pins : List (Addr × Obj)) (D : Ends) (f : Flow) (s' : Shared) : Prop :=
  match f with
  | .next => ∃ σ' H', Inv X pins σ' H' s' ∧ D.nx σ' H'
  | .brk => ∃ σ' H', Inv X pins σ' H' s' ∧ D.bk σ' H'
  | .cont => ∃ σ' H', Inv X pins σ' H' s' ∧ D.ct σ' H'
  | .ret u => ∃ v σ' H', Inv X pins σ' H' s' ∧ RelV v u ∧ D.rt v H'
def PE (X : Cx) (e : Expr) (t : TE) : Prop :=
  ∀ (pins : List (Addr × Obj)) (s : Shared) (σ : St) (H : Hp) (Q : VK), Inv X pins σ H s → t σ H Q → wpAny (model X.prog X.w) X.A (eval e X.env) (EP X pins σ Q) X.xe s
def PT (X : Cx) (e : Expr) (t : TT) : Prop :=
  ∀ (pins : List (Addr × Obj)) (s : Shared) (σ : St) (H : Hp) (Q : Bool → Hp → Prop), Inv X pins σ H s → t σ H Q → wpAny (model X.prog X.w) X.A (isTrue e X.env (eval e X.env)) (TP X pins σ Q) X.xe s
def PW (X : Cx) (e : Expr) (t : TT) : Prop :=
  ∀ (whole : Sem Value) (pins : List (Addr × Obj)) (s : Shared) (σ : St) (H : Hp) (Q : Bool → Hp → Prop), Inv X pins σ H s → t σ H Q → wpAny (model X.prog X.w) X.A (isTrue e X.env whole) (TP X pins σ Q) X.xe s
theorem PW.pt {X : Cx} {e : Expr} {t : TT} (h : PW X e t) : PT X e t := h _
def PA (X : Cx) (es : List Expr) (t : TA) : Prop :=
  ∀ (pos : Pos) (pins : List (Addr × Obj)) (s : Shared) (σ : St) (H : Hp) (Q : List V → Hp → Prop), Inv X pins σ H s → t σ H Q → wpAny (model X.prog X.w) X.A (spliced (backTo pos (starEach es X.env))) (AP X pins σ Q) X.xe s
def PS (X : Cx) (st : Stmt) (t : TS) : Prop :=
  ∀ (pins : List (Addr × Obj)) (s : Shared) (σ : St) (H : Hp) (D : Ends), Inv X pins σ H s → t D σ H → wpAny (model X.prog X.w) X.A (exec st X.env) (SP X pins D) X.xe s
def PSs (X : Cx) (st : List Stmt) (t : TS) : Prop :=
  ∀ (pins : List (Addr × Obj)) (s : Shared) (σ : St) (H : Hp) (D : Ends), Inv X pins σ H s → t D σ H → wpAny (model X.prog X.w) X.A (execs st X.env) (SP X pins D) X.xe s
theorem thn {α : Type} {t : Sem α} {Q Q' : α → Shared → Prop} {M : Model} {A : Around} {E : Value → Shared → Prop} {s : Shared} (h : wpAny M A t Q E s) (hQ : ∀ a s, Q a s → Q' a s) : wpAny M A t Q' E s := wpAny_mono h hQ fun _ _ x => x
end L2
namespace L2
open PySem PySem.Spec PyProof.Rows
section
variable {X : Cx}
def tVar (i : Nat) : TE := fun σ H Q => ∃ v, σ[i]? = some (some v) ∧ Q v H
def tC (v : V) : TE := fun _ H Q => Q v H
theorem pe_var {i : Nat} {x : Str} {pos : Pos} (hN : X.N[i]? = some x) (hv : Vis X.env.scope x) (hd : (x == ("__debug__" : Str)) = false := by decide) (hcd : (x == ("__classdict__" : Str)) = false := by decide) : PE X (.Name x pos) (tVar i) := by
  intro pins s σ H Q I h
  obtain ⟨v, e, h⟩ := h
  obtain ⟨m, hn, hl⟩ := I.loc
  obtain ⟨u, r, l⟩ := hl i x v hN e hv
  have fin : EP X pins σ Q u s := ⟨v, H, I, r, h⟩
  rcases l with ⟨hk, hm⟩ | ⟨hk, c, hc, hcell⟩
  · exact wpAny_Name (wpAny_loadName_local I.ok.kind hk hn hm fin) hd
  · rcases hk with hk | hk
    · exact wpAny_Name (wpAny_loadName_cell I.ok.kind hk hc hcell fin) hd
    · exact wpAny_Name (wpAny_loadName_free I.ok.kind hk hc hcell fin hcd) hd
theorem pe_int {i j pos} : PE X (.Constant (.int i) j pos) (tC (.int i)) := fun _ _ _ H _ I h => wpAny_Constant_int ⟨.int i, H, I.tok _, ⟨_, rfl⟩, h⟩
theorem pe_bl {b j pos} : PE X (.Constant (.bool b) j pos) (tC (.bl b)) := fun _ _ _ H _ I h => Constant_bool ⟨.bl b, H, I, rfl, h⟩
theorem pe_non {j pos} : PE X (.Constant .none j pos) (tC .non) := fun _ _ _ H _ I h => Constant_none ⟨.non, H, I, rfl, h⟩
theorem pe_str {x j pos} : PE X (.Constant (.str x) j pos) (tC (.str x)) := fun _ _ _ H _ I h => Calls.Constant_str ⟨.str x, H, I.tok _, ⟨_, rfl⟩, h⟩
def Gl (X : Cx) (x : Str) : Prop := X.env.kindOf x = some .globalImplicit
theorem ld_glob {E : Value → Shared → Prop} {pins : List (Addr × Obj)} {s : Shared} {σ : St} {H : Hp} {x : Str} {u : Value} {pos : Pos} {Q : Value → Shared → Prop} (I : Inv X pins σ H s) (hg : Gl X x) (hm : X.mg x = some u) (h : Q u s)
    (hd : (x == ("__debug__" : Str)) = false := by decide) : wpAny (model X.prog X.w) X.A (eval (.Name x pos) X.env) Q E s :=
  Calls.Name_function_global I.ok.kind hg (Calls.loadGlobal_global (by rw [I.ok.glob]; exact I.mod.glob.keeps I.bk) hm h) hd
theorem ld_blt {E : Value → Shared → Prop} {pins : List (Addr × Obj)} {s : Shared} {σ : St} {H : Hp} {x : Str} {u : Value} {pos : Pos} {Q : Value → Shared → Prop} (I : Inv X pins σ H s) (hg : Gl X x) (hm : X.mg x = none) (hv : bootBuiltins x = some u) (h : Q u s)
    (hn : x ≠ "__name__" := by decide) (hd : (x == ("__debug__" : Str)) = false := by decide) : wpAny (model X.prog X.w) X.A (eval (.Name x pos) X.env) Q E s := by
  obtain ⟨mb, h1, h2⟩ := I.mod.blt
  exact Calls.Name_function_global I.ok.kind hg (Calls.loadGlobal_builtin (by rw [I.ok.glob]; exact I.mod.glob.keeps I.bk) hm (by rw [I.ok.blt]; exact h1.keeps I.bk) ((h2 x hn).trans hv) h) hd
theorem pe_glob {x : Str} {v : V} {u : Value} {pos : Pos} (hg : Gl X x) (hm : X.mg x = some u) (r : RelV v u) (hd : (x == ("__debug__" : Str)) = false := by decide) : PE X (.Name x pos) (tC v) :=
  fun _ _ _ H _ I h => ld_glob I hg hm ⟨v, H, I, r, h⟩ hd
theorem pe_bltn {x : Str} {v : V} {u : Value} {pos : Pos} (hg : Gl X x) (hm : X.mg x = none) (hv : bootBuiltins x = some u) (r : RelV v u) (hn : x ≠ "__name__" := by decide) (hd : (x == ("__debug__" : Str)) = false := by decide) : PE X (.Name x pos) (tC v) :=
  fun _ _ _ H _ I h => ld_blt I hg hm hv ⟨v, H, I, r, h⟩ hn hd
variable {a b : Expr} {ta tb : TE} {pos : Pos}
def PC (X : Cx) (op : CmpOp) (a b : Expr) (t : TE) : Prop :=
  ∀ (pins : List (Addr × Obj)) (s : Shared) (σ : St) (H : Hp) (Q : VK), Inv X pins σ H s → t σ H Q →
    wpAny (model X.prog X.w) X.A (eval a X.env) (fun v s₁ => wpAny (model X.prog X.w) X.A (eval b X.env) (fun u s₂ => wpAny (model X.prog X.w) X.A (compareOp op v u) (EP X pins σ Q) X.xe s₂) X.xe s₁) X.xe s
theorem nobehind (b : Expr) {op : CmpOp} (h : op ≠ .In) (h2 : op ≠ .NotIn) : behindInMarks op b = false := by
  have e1 : (op == CmpOp.In) = false := by cases op <;> first | rfl | exact absurd rfl h
  have e2 : (op == CmpOp.NotIn) = false := by cases op <;> first | rfl | exact absurd rfl h2
  cases b <;> simp [behindInMarks, e1, e2]
def tNotN (ta : TE) : TE := fun σ H Q => ta σ H fun x H1 => Q (.bl (!decide (x = .non))) H1
theorem RelV.none_iff {x : V} {v : Value} (r : RelV x v) : (v == Value.none) = decide (x = .non) := by
  cases x with
  | non => cases r; rfl
  | bl _ => cases r; rfl
  | int _ => obtain ⟨t, rfl⟩ := r; rfl
  | str _ => obtain ⟨t, rfl⟩ := r; rfl
  | byt _ => obtain ⟨t, rfl⟩ := r; rfl
  | flt _ => obtain ⟨t, rfl⟩ := r; rfl
  | ref _ => cases r; rfl
  | ty _ => cases r; rfl
theorem pc_notN {j pos'} (ha : PE X a ta) : PC X .IsNot a (.Constant .none j pos') (tNotN ta) := by
  intro pins s σ H Q I h
  refine thn (ha pins s σ H _ I h) fun v s1 ⟨x, H1, I1, r1, q1⟩ => ?_
  exact Constant_none (isnot_none_gen ⟨.bl _, H1, I1, by rw [r1.none_iff]; rfl, q1⟩)
def tB (t : TE) : TT := fun σ H Q => t σ H fun x H1 => ∃ c, x = .bl c ∧ Q c H1
theorem pt_cmp {op : CmpOp} {t : TE} (h : PC X op a b t) (h1 : behindInMarks op b = false := by first | exact nobehind _ (by decide) (by decide) | rfl) : PT X (.Compare a [op] [b] pos) (tB t) := by
  intro pins s σ H Q I hw
  refine wpAny_isTrue_Compare1 (thn (h pins s σ H _ I hw) fun v s1 h1 => thn h1 fun u s2 h2 => thn h2 fun c s3 ⟨x, H1, I1, r1, q1⟩ => ?_) h1
  obtain ⟨d, rfl, q⟩ := q1
  cases r1
  exact wpAny_truthy_bool ⟨H1, I1, q⟩
theorem pt_val {e : Expr} {t : TE} (h : PE X e t) (he : ∀ whole, isTrue e X.env whole = (do let v ← whole; standAt e.pos; holding [v] (truthy v)) := by intro _; rfl) : PT X e (tB t) := by
  intro pins s σ H Q I hw
  refine isTrue_plain (thn (h pins s σ H _ I hw) fun v s1 ⟨x, H1, I1, r1, q1⟩ => ?_) (he _)
  obtain ⟨d, rfl, q⟩ := q1
  cases r1
  exact wpAny_truthy_bool ⟨H1, I1, q⟩
variable {tA tB' : TT} {rest : List Expr}
def tAnd (t u : TT) : TT := fun σ H Q => t σ H fun c H1 => if c = true then u σ H1 Q else Q false H1
def tOr (t u : TT) : TT := fun σ H Q => t σ H fun c H1 => if c = true then Q true H1 else u σ H1 Q
def tNot (t : TT) : TT := fun σ H Q => t σ H fun c H1 => Q (!c) H1
theorem pw_and1 (ha : PT X a tA) : PW X (.BoolOp .And [a] pos) tA := by
  intro wh pins s σ H Q I h
  refine isTrue_and (thn (ha pins s σ H Q I h) fun c s1 e => ?_)
  cases c with
  | true => exact isTrue_and_nil e
  | false => exact e
theorem pw_or1 (ha : PT X a tA) : PW X (.BoolOp .Or [a] pos) tA := by
  intro wh pins s σ H Q I h
  refine isTrue_or (thn (ha pins s σ H Q I h) fun c s1 e => ?_)
  cases c with
  | false => exact isTrue_or_nil e
  | true => exact e
theorem pw_and (ha : PT X a tA) (hb : PW X (.BoolOp .And (b :: rest) pos) tB') : PW X (.BoolOp .And (a :: b :: rest) pos) (tAnd tA tB') := by
  intro wh pins s σ H Q I h
  refine isTrue_and (thn (ha pins s σ H _ I h) fun c s1 ⟨H1, I1, q1⟩ => ?_)
  cases c with
  | true => exact hb wh pins s1 σ H1 Q I1 q1
  | false => exact ⟨H1, I1, q1⟩
theorem pw_or (ha : PT X a tA) (hb : PW X (.BoolOp .Or (b :: rest) pos) tB') : PW X (.BoolOp .Or (a :: b :: rest) pos) (tOr tA tB') := by
  intro wh pins s σ H Q I h
  refine isTrue_or (thn (ha pins s σ H _ I h) fun c s1 ⟨H1, I1, q1⟩ => ?_)
  cases c with
  | true => exact ⟨H1, I1, q1⟩
  | false => exact hb wh pins s1 σ H1 Q I1 q1
theorem pt_not (ha : PT X a tA) : PT X (.UnaryOp .Not a pos) (tNot tA) := by
  intro pins s σ H Q I h
  exact isTrue_not (ha pins s σ H (fun c H1 => Q (!c) H1) I h)
def tAndV (ta tb : TE) : TE := fun σ H Q => ta σ H fun x H1 => ∃ c, x = .bl c ∧ if c = true then tb σ H1 Q else Q (.bl false) H1
def tOrV (ta tb : TE) : TE := fun σ H Q => ta σ H fun x H1 => ∃ c, x = .bl c ∧ if c = true then Q (.bl true) H1 else tb σ H1 Q
def tNotV (ta : TE) : TE := fun σ H Q => ta σ H fun x H1 => ∃ c, x = .bl c ∧ Q (.bl (!c)) H1
theorem pe_one {op} {t : TE} (h : PE X a t) : PE X (.BoolOp op [a] pos) t := fun pins s σ H Q I hw => BoolOp_one (h pins s σ H Q I hw)
theorem pe_and (ha : PE X a ta) (hb : PE X (.BoolOp .And (b :: rest) pos) tb) : PE X (.BoolOp .And (a :: b :: rest) pos) (tAndV ta tb) := by
  intro pins s σ H Q I h
  refine BoolOp_and (thn (ha pins s σ H _ I h) fun v s1 ⟨x, H1, I1, r1, q1⟩ => ?_)
  obtain ⟨c, rfl, q1⟩ := q1
  cases r1
  refine wpAny_truthy_bool ?_
  cases c with
  | true => exact hb pins s1 σ H1 Q I1 q1
  | false => exact ⟨.bl false, H1, I1, rfl, q1⟩
theorem pe_or (ha : PE X a ta) (hb : PE X (.BoolOp .Or (b :: rest) pos) tb) : PE X (.BoolOp .Or (a :: b :: rest) pos) (tOrV ta tb) := by
  intro pins s σ H Q I h
  refine BoolOp_or (thn (ha pins s σ H _ I h) fun v s1 ⟨x, H1, I1, r1, q1⟩ => ?_)
  obtain ⟨c, rfl, q1⟩ := q1
  cases r1
  refine wpAny_truthy_bool ?_
  cases c with
  | false => exact hb pins s1 σ H1 Q I1 q1
  | true => exact ⟨.bl true, H1, I1, rfl, q1⟩
theorem pe_not (ha : PE X a ta) : PE X (.UnaryOp .Not a pos) (tNotV ta) := by
  intro pins s σ H Q I h
  refine UnaryOp_ (thn (ha pins s σ H _ I h) fun v s1 ⟨x, H1, I1, r1, q1⟩ => ?_)
  obtain ⟨c, rfl, q1⟩ := q1
  cases r1
  exact not_of (wpAny_truthy_bool ⟨.bl (!c), H1, I1, rfl, q1⟩)
def tIf (t : TT) (ta tb : TE) : TE := fun σ H Q => t σ H fun c H1 => if c = true then ta σ H1 Q else tb σ H1 Q
theorem pe_ifExp {c : Expr} (hc : PT X c tA) (ha : PE X a ta) (hb : PE X b tb) : PE X (.IfExp c a b pos) (tIf tA ta tb) := by
  intro pins s σ H Q I h
  refine wpAny_IfExp (thn (hc pins s σ H _ I h) fun d s1 ⟨H1, I1, q1⟩ => ?_)
  cases d with
  | true => exact ha pins s1 σ H1 Q I1 q1
  | false => exact hb pins s1 σ H1 Q I1 q1
end
end L2
namespace L2
open PySem PySem.Spec PyProof.Rows
def SqL (K : PySem.W.Frag) (H : Hp) (a : Addr) (xs : List V) : Prop :=
  Rd H a (.lst xs) ∨
    ∃ (o : Obj) (its : Array Value) (n : Nat), K.lookup a = some o ∧ o.cls = .type "list" ∧ o.dict = none ∧ o.data = .seq its n ∧ its.size ≤ sizeLine ∧ Vals xs its.toList
def SqT (K : PySem.W.Frag) (H : Hp) (a : Addr) (xs : List V) : Prop :=
  Rd H a (.tup xs) ∨
    ∃ (o : Obj) (its : Array Value) (n : Nat), K.lookup a = some o ∧ o.cls = .type "tuple" ∧ o.data = .seq its n ∧ its.size ≤ sizeLine ∧ Vals xs its.toList
def absV : Value → Option V
  | .none => some .non
  | .bool b => some (.bl b)
  | .int i _ => some (.int i)
  | .str x _ => some (.str x)
  | .bytes b _ => some (.byt b)
  | .float b _ => some (.flt b)
  | .ref a => some (.ref a)
  | .type n => some (.ty n)
  | _ => none
theorem RelV.abs {x : V} {u : Value} (r : RelV x u) : absV u = some x := by
  cases x with
  | non => cases r; rfl
  | bl _ => cases r; rfl
  | int _ => obtain ⟨t, rfl⟩ := r; rfl
  | str _ => obtain ⟨t, rfl⟩ := r; rfl
  | byt _ => obtain ⟨t, rfl⟩ := r; rfl
  | flt _ => obtain ⟨t, rfl⟩ := r; rfl
  | ref _ => cases r; rfl
  | ty _ => cases r; rfl
theorem RelV.inj {x y : V} {u : Value} (r : RelV x u) (q : RelV y u) : x = y := Option.some.inj (r.abs.symm.trans q.abs)
theorem Vals.inj : ∀ {xs ys : List V} {us : List Value}, Vals xs us → Vals ys us → xs = ys
  | _, _, _, .nil, .nil => rfl
  | _, _, _, .cons r t, .cons r' t' => by rw [r.inj r', Vals.inj t t']
section
variable {X : Cx} {pins : List (Addr × Obj)} {σ : St} {H : Hp} {s : Shared} {a : Addr} {xs ys : List V}
theorem SqL.of {K : PySem.W.Frag} (h : H a = some (.lst xs)) : SqL K H a xs := .inl (.inl h)
theorem SqT.of {K : PySem.W.Frag} (h : H a = some (.tup xs)) : SqT K H a xs := .inl (.inl h)
theorem Inv.list (I : Inv X pins σ H s) (h : SqL X.K H a xs) : ∃ its : List Value, Vals xs its ∧ PlainL s.heap a its.toArray ∧ xs.length ≤ sizeLine := by
  rcases h with h | ⟨o, its, n, hk, hc, hd, hs, hz, r⟩
  · obtain ⟨z, its, n, r, e⟩ := h.ok I.hok
    exact ⟨its, r, ⟨_, n, e, rfl, rfl, rfl⟩, z⟩
  · refine ⟨its.toList, r, ⟨o, n, I.kIn a o hk, hc, hd, by simpa using hs⟩, ?_⟩
    have e := r.length
    simp only [Array.length_toList] at e
    omega
theorem Inv.tuple (I : Inv X pins σ H s) (h : SqT X.K H a xs) : ∃ its : List Value, Vals xs its ∧ IsTup s.heap a its.toArray ∧ xs.length ≤ sizeLine := by
  rcases h with h | ⟨o, its, n, hk, hc, hs, hz, r⟩
  · obtain ⟨z, its, r, p⟩ := h.ok I.hok
    exact ⟨its, r, p, z⟩
  · refine ⟨its.toList, r, ⟨o, I.kIn a o hk, hc, n, by simpa using hs⟩, ?_⟩
    have e := r.length
    simp only [Array.length_toList] at e
    omega
theorem Inv.list_inj (I : Inv X pins σ H s) (h : SqL X.K H a xs) (h' : SqL X.K H a ys) : xs = ys := by
  obtain ⟨its, r, ⟨o, n, e, _, _, d⟩, _⟩ := I.list h
  obtain ⟨its', r', ⟨o', n', e', _, _, d'⟩, _⟩ := I.list h'
  rw [e] at e'; cases e'
  rw [d] at d'
  injection d' with d1 _
  have : its = its' := by simpa using congrArg Array.toList d1
  subst this
  exact r.inj r'
end
abbrev Cx.wish (X : Cx) (E : Value → Shared → Prop) : Cx := { X with xe := E }
abbrev Cx.nox (X : Cx) : Cx := X.wish fun _ _ => False
theorem Cx.Ok.wish {X : Cx} (ok : X.Ok) (E : Value → Shared → Prop) : (X.wish E).Ok :=
  ⟨ok.mod, ok.kind, ok.glob, ok.blt, ok.above, ok.inj, ok.has, ok.cab, ok.hd, ok.frames, ok.stk, ok.exf, ok.bs, ok.bsz, ok.noex, ok.exfs, ok.funs, ok.frf⟩
theorem Cx.Ok.unwish {X : Cx} {E : Value → Shared → Prop} (ok : (X.wish E).Ok) : X.Ok :=
  ⟨ok.mod, ok.kind, ok.glob, ok.blt, ok.above, ok.inj, ok.has, ok.cab, ok.hd, ok.frames, ok.stk, ok.exf, ok.bs, ok.bsz, ok.noex, ok.exfs, ok.funs, ok.frf⟩
section
variable {X : Cx} {pins : List (Addr × Obj)} {σ : St} {H : Hp} {s : Shared} {E : Value → Shared → Prop}
theorem Inv.wish (I : Inv X pins σ H s) (E : Value → Shared → Prop) : Inv (X.wish E) pins σ H s := ⟨I.ok.wish E, I.os, I.bare, I.base, I.loc, I.cell, I.free, I.freeC, I.pin, I.hok, I.len⟩
theorem Inv.unwish (I : Inv (X.wish E) pins σ H s) : Inv X pins σ H s := ⟨I.ok.unwish, I.os, I.bare, I.base, I.loc, I.cell, I.free, I.freeC, I.pin, I.hok, I.len⟩
theorem SP.unwish {D : Ends} {f : Flow} {s' : Shared} (h : SP (X.wish E) pins D f s') : SP X pins D f s' := by
  cases f with
  | next => obtain ⟨σ', H', I, q⟩ := h; exact ⟨σ', H', I.unwish, q⟩
  | brk => obtain ⟨σ', H', I, q⟩ := h; exact ⟨σ', H', I.unwish, q⟩
  | cont => obtain ⟨σ', H', I, q⟩ := h; exact ⟨σ', H', I.unwish, q⟩
  | ret u => obtain ⟨v, σ', H', I, r, q⟩ := h; exact ⟨v, σ', H', I.unwish, r, q⟩
theorem PSs.nox {st : List Stmt} {t : TS} (h : PSs X.nox st t) : PSs X st t := fun pins s σ H D I hw =>
  wpAny_mono (h pins s σ H D (I.wish _) hw) (fun _ _ q => q.unwish) fun _ _ z => False.elim z
end
section
variable {X : Cx} {st : Stmt} {rest : List Stmt} {t u : TS} {e : Expr} {te : TE} {pos : Pos}
def tNext : TS := fun D σ H => D.nx σ H
def tSeq (t u : TS) : TS := fun D σ H => t { D with nx := u D } σ H
theorem pss_nil : PSs X [] tNext := fun _ _ σ H _ I h => wpAny_execs_nil ⟨σ, H, I, h⟩
theorem pss_cons (h1 : PS X st t) (h2 : PSs X rest u) : PSs X (st :: rest) (tSeq t u) := by
  intro pins s σ H D I h
  refine wpAny_execs_cons (thn (h1 pins s σ H { D with nx := u D } I h) fun f s1 q => ?_)
  cases f with
  | next =>
    obtain ⟨σ', H', I', q⟩ := q
    exact h2 pins s1 σ' H' D I' q
  | ret v => exact q
  | brk => exact q
  | cont => exact q
theorem pss_one (h1 : PS X st t) : PSs X [st] t := by
  intro pins s σ H D I h
  refine wpAny_execs_cons (thn (h1 pins s σ H D I h) fun f s1 q => ?_)
  cases f with
  | next => exact wpAny_execs_nil q
  | ret v => exact q
  | brk => exact q
  | cont => exact q
theorem Inv.quiet {pins : List (Addr × Obj)} {σ : St} {H : Hp} {s : Shared} (I : Inv X pins σ H s) : interactive X.env = false := by simp [interactive, I.ok.kind]
def tDrop (te : TE) : TS := fun D σ H => te σ H fun _ H1 => D.nx σ H1
theorem ps_expr (he : PE X e te) (hs : swapsWith e none pos.line X.env = pure false := by rfl) : PS X (.Expr e pos) (tDrop te) := by
  intro pins s σ H D I h
  exact wpAny_Expr_any (thn (he pins s σ H _ I h) fun v s1 ⟨x, H1, I1, r1, q1⟩ => ⟨σ, H1, I1, q1⟩) I.quiet hs
def tRet (te : TE) : TS := fun D σ H => te σ H D.rt
theorem ps_ret (he : PE X e te) : PS X (.Return (some e) pos) (tRet te) := by
  intro pins s σ H D I h
  exact wpAny_Return_some (thn (he pins s σ H _ I h) fun v s1 ⟨x, H1, I1, r1, q1⟩ => ⟨x, σ, H1, I1, r1, q1⟩)
def tIfS (c : TT) (t u : TS) : TS := fun D σ H => c σ H fun b H1 => if b = true then t D σ H1 else u D σ H1
theorem ps_if {c : Expr} {a b : List Stmt} {tc : TT} (hc : PT X c tc) (ha : PSs X a t) (hb : PSs X b u) : PS X (.If c a b pos) (tIfS tc t u) := by
  intro pins s σ H D I h
  refine wpAny_If (thn (hc pins s σ H _ I h) fun d s1 ⟨H1, I1, q1⟩ => ?_)
  cases d with
  | true => exact ha pins s1 σ H1 D I1 q1
  | false => exact hb pins s1 σ H1 D I1 q1
def tNever : TS := fun _ _ _ => False
theorem pss_never {sts : List Stmt} : PSs X sts tNever := fun _ _ _ _ _ _ h => h.elim
end
abbrev TG := V → St → Hp → (St → Hp → Prop) → Prop
abbrev TGs := List V → St → Hp → (St → Hp → Prop) → Prop
def PG (X : Cx) (target : Expr) (t : TG) : Prop :=
  ∀ (pins : List (Addr × Obj)) (s : Shared) (σ : St) (H : Hp) (v : V) (u : Value) (Q : St → Hp → Prop), Inv X pins σ H s → RelV v u → t v σ H Q →
    wpAny (model X.prog X.w) X.A (assign target X.env u) (fun _ s' => ∃ σ' H', Inv X pins σ' H' s' ∧ Q σ' H') X.xe s
def PGs (X : Cx) (ts : List Expr) (t : TGs) : Prop :=
  ∀ (pins : List (Addr × Obj)) (s : Shared) (σ : St) (H : Hp) (vs : List V) (us : List Value) (Q : St → Hp → Prop), Inv X pins σ H s → Vals vs us → t vs σ H Q →
    wpAny (model X.prog X.w) X.A (assignInOrder ((assignEach ts X.env).map (·.2)) us) (fun _ s' => ∃ σ' H', Inv X pins σ' H' s' ∧ Q σ' H') X.xe s
abbrev TSet := V → V → V → Hp → (Hp → Prop) → Prop
def PSet (X : Cx) (t : TSet) : Prop :=
  ∀ (pins : List (Addr × Obj)) (s : Shared) (σ : St) (H : Hp) (o i v : V) (ov iv u : Value) (Q : Hp → Prop), Inv X pins σ H s → RelV o ov → RelV i iv → RelV v u → t o i v H Q →
    wpAny (model X.prog X.w) X.A (setItem ov iv u) (fun _ s' => ∃ H', Inv X pins σ H' s' ∧ Q H') X.xe s
section
variable {X : Cx} {pos : Pos}
def gName (i : Nat) : TG := fun v σ H Q => Q (σ.set i (some v)) H
theorem pg_name {i : Nat} {x : Str} (hN : X.N.Nodup) (hi : X.N[i]? = some x) (hx : Loc X.env.scope x) (hf : X.fn x = true ∨ X.env.scope.names.lookup x = some .local := by first | exact .inl rfl | exact .inr rfl | assumption) : PG X (.Name x pos) (gName i) := by
  intro pins s σ H v u Q I r h
  exact wpAny_assign_Name (store_ok I hN hi hx r (fun s' I' => ⟨_, H, I', h⟩) hf)
def gNil : TGs := fun vs σ H Q => vs = [] ∧ Q σ H
def gCons (t : TG) (u : TGs) : TGs := fun vs σ H Q => ∃ v r, vs = v :: r ∧ t v σ H fun σ' H' => u r σ' H' Q
theorem pgs_nil : PGs X [] gNil := by
  intro pins s σ H vs us Q I r h
  obtain ⟨e, h⟩ := h
  subst e
  cases r
  exact assignInOrder_nil ⟨σ, H, I, h⟩
theorem pgs_cons {e : Expr} {es : List Expr} {t : TG} {u : TGs} (h1 : PG X e t) (h2 : PGs X es u)
    (hs : (assignEach (e :: es) X.env).map (·.2) = assign e X.env :: (assignEach es X.env).map (·.2) := by rfl) : PGs X (e :: es) (gCons t u) := by
  intro pins s σ H vs us Q I r h
  obtain ⟨v, vr, e1, h⟩ := h
  subst e1
  cases r with
  | cons r rr =>
    rw [hs]
    refine assignInOrder_cons (thn (h1 pins s σ H _ _ _ I r h) fun _ s1 ⟨σ1, H1, I1, q1⟩ => ?_)
    exact h2 pins s1 σ1 H1 _ _ Q I1 rr q1
def gTup (K : PySem.W.Frag) (n : Nat) (t : TGs) : TG := fun v σ H Q => ∃ a xs, v = .ref a ∧ SqT K H a xs ∧ xs.length = n ∧ t xs σ H Q
theorem pg_tup {es : List Expr} {k : Nat} {t : TGs} {n : Nat} (hc : X.calm = true) (h : PGs X es t)
    (hn : (assignEach es X.env).length = n := by rfl) (hst : (assignEach es X.env).findIdx? (·.1) = none := by rfl) : PG X (.Tuple es k pos) (gTup X.K n t) := by
  intro pins s σ H v u Q I r hw
  obtain ⟨a, xs, e1, hq, hl, hw⟩ := hw
  subst e1
  cases r
  obtain ⟨its, rv, ht, hz⟩ := I.tuple hq
  refine assign_Tuple_tuple (I.ok.hd hc) ht (by simp [hn, ← hl, rv.length]) hst fun h' hx => ?_
  have I1 : Inv X pins σ H { s with heap := h' } := I.kept (t' := s.toks) fun b o e => hx b o (Nat.ne_of_lt (Heap.lt_size e)) e
  exact h pins _ σ H xs _ Q I1 (by simpa using rv) hw
def gSub (to ti : TE) (t : TSet) : TG := fun v σ H Q => to σ H fun o H1 => ti σ H1 fun i H2 => t o i v H2 fun H3 => Q σ H3
theorem pg_sub {o i : Expr} {to ti : TE} {t : TSet} (ho : PE X o to) (hi : PE X i ti) (hs : PSet X t)
    (ha : ∀ v, assign (.Subscript o i pos) X.env v = (do
      let ov ← holding [v] (eval o X.env)
      let iv ← holding [v, ov] (eval i X.env)
      standAt pos
      holding [v, ov, iv] (setItem ov iv v)
      release [v, ov, iv] []) := by intro _; rfl) : PG X (.Subscript o i pos) (gSub to ti t) := by
  intro pins s σ H v u Q I r h
  rw [ha]
  refine wpAny_bind (wpAny_holding (thn (ho pins s σ H _ I h) fun ov s1 ⟨x, H1, I1, r1, q1⟩ => ?_))
  refine wpAny_bind (wpAny_holding (thn (hi pins s1 σ H1 _ I1 q1) fun iv s2 ⟨y, H2, I2, r2, q2⟩ => ?_))
  refine wpAny_bind (wpAny_standAt (wpAny_bind (wpAny_holding (thn (hs pins s2 σ H2 x y v ov iv u _ I2 r1 r2 r q2) fun _ s3 ⟨H3, I3, q3⟩ => ?_))))
  exact wpAny_release ⟨σ, H3, I3, q3⟩
def tAsg (te : TE) (g : TG) : TS := fun D σ H => te σ H fun x H1 => g x σ H1 D.nx
theorem ps_asg {tg e : Expr} {te : TE} {g : TG} (he : PE X e te) (hg : PG X tg g) (hs : swapsWithSole [tg] e pos.line X.env = pure false := by rfl) (hw : swappedStores [tg] e X.env = pure none := by rfl)
    (h1 : (assignEach [tg] X.env).map (·.2) = [assign tg X.env] := by rfl) : PS X (.Assign [tg] e pos) (tAsg te g) := by
  intro pins s σ H D I h
  refine wpAny_Assign_stores (thn (he pins s σ H _ I h) fun v s1 ⟨x, H1, I1, r1, q1⟩ => ?_) hs hw
  rw [h1]
  exact thn (hg pins s1 σ H1 x v _ I1 r1 q1) fun _ s2 q => q
theorem ps_set {i : Nat} {x : Str} {e : Expr} {te : TE} {pos' : Pos} (hN : X.N.Nodup) (hi : X.N[i]? = some x) (hx : Loc X.env.scope x) (he : PE X e te) (hs : swapsWith e (some (.Name x pos')) pos.line X.env = pure false := by rfl) (hf : X.fn x = true ∨ X.env.scope.names.lookup x = some .local := by first | exact .inl rfl | exact .inr rfl | assumption) :
    PS X (.Assign [.Name x pos'] e pos) (tAsg te (gName i)) := by
  intro pins s σ H D I h
  refine wpAny_Assign_Name (thn (he pins s σ H _ I h) fun v s1 ⟨y, H1, I1, r1, q1⟩ => ?_) hs
  exact store_ok I1 hN hi hx r1 (fun s2 I2 => ⟨_, H1, I2, q1⟩) hf
def tPar (i j : Nat) (ta : TA) : TS := fun D σ H => ta σ H fun vs H1 => ∃ v w, vs = [v, w] ∧ D.nx ((σ.set i (some v)).set j (some w)) H1
theorem ps_par {i j : Nat} {x y : Str} {a b : Expr} {ta : TA} {px py pt : Pos} {kt k2 pt2} (hc : X.calm = true) (hN : X.N.Nodup) (hi : X.N[i]? = some x) (hj : X.N[j]? = some y) (hij : i ≠ j)
    (hx : X.env.scope.names.lookup x = some .local) (hy : X.env.scope.names.lookup y = some .local) (ha : PA X [a, b] ta)
    (hw : swappedStores [.Tuple [.Name x px, .Name y py] kt pt] (.Tuple [a, b] k2 pt2) X.env = pure (some [x, y]))
    (hs : swapsWithSole [.Tuple [.Name x px, .Name y py] kt pt] (.Tuple [a, b] k2 pt2) pos.line X.env = pure false := by rfl) :
    PS X (.Assign [.Tuple [.Name x px, .Name y py] kt pt] (.Tuple [a, b] k2 pt2) pos) (tPar i j ta) := by
  intro pins s σ H D I h
  rw [exec_Assign_arm]
  refine wpAny_bind (wpAny_standAt ?_)
  rw [hs]
  refine wpAny_bind (wpAny_pure ?_)
  rw [if_neg (by decide)]
  refine wpAny_bind (Tuple_ (thn (ha _ pins s σ H _ I h) fun us s1 ⟨vs, H1, I1, r1, q1⟩ => ?_))
  obtain ⟨v, w, e1, q1⟩ := q1
  subst e1
  obtain ⟨u1, u2, rfl, rv, rw'⟩ : ∃ u1 u2, us = [u1, u2] ∧ RelV v u1 ∧ RelV w u2 := by
    cases r1 with
    | cons p q =>
      cases q with
      | cons p' q' =>
        cases q'
        exact ⟨_, _, rfl, p, p'⟩
  refine wpAny_newObj_type ?_ (by show 2 ≤ sizeLine; decide)
  have I2 : Inv X pins σ H1 { s1 with heap := s1.heap.push { cls := .type "tuple", data := .seq [u1, u2].toArray } } := I1.kept (t' := s1.toks) fun b o e => Heap.get?_push_of_some _ e
  rw [hw]
  refine wpAny_bind (wpAny_pure ?_)
  show wpAny (model X.prog X.w) X.A (do rule "assign.swapped-stores"; let items ← unpackItems (.ref s1.heap.objs.size) 2 none; assignInOrder [fun v => bindName X.env y v, fun v => bindName X.env x v] items.reverse; pure Flow.next) _ _ _
  refine wpAny_bind (wpAny_rule (wpAny_bind (unpackItems_tuple (items := #[u1, u2]) (I.ok.hd hc) (IsTup.new s1.heap _) fun h' hx' => ?_)))
  have I3 := I2.kept (h' := h') (t' := s1.toks) fun b o e => hx' b o (Nat.ne_of_lt (Heap.lt_size e)) e
  show wpAny _ _ (assignInOrder [fun v => bindName X.env y v, fun v => bindName X.env x v] [u2, u1] >>= fun _ => pure Flow.next) _ _ _
  refine wpAny_bind (assignInOrder_cons (wpAny_bindName (store_ok I3 hN hj (.inl hy) rw' (fun s2 I4 => ?_) (.inr hy))))
  refine assignInOrder_cons (wpAny_bindName (store_ok I4 hN hi (.inl hx) rv (fun s3 I5 => assignInOrder_nil (wpAny_pure ?_)) (.inr hx)))
  rw [List.set_comm _ _ (Ne.symm hij)] at I5
  exact ⟨_, H1, I5, q1⟩
end
section
variable {X : Cx} {pos : Pos}
def tWhile (c : TT) (tb : TS) : TS := fun D σ H => ∃ W : Nat → St → Hp → Prop, (∃ m, W m σ H) ∧ ∀ m σ H, W m σ H →
  c σ H fun b H1 => if b = true then ∃ N : St → Hp → Prop, (∀ σ' H', N σ' H' → ∃ m', m' < m ∧ W m' σ' H') ∧ tb { D with nx := N, ct := N, bk := D.nx } σ H1 else D.nx σ H1
theorem ps_while {c : Expr} {body : List Stmt} {tc : TT} {tb : TS} (hp : PassesOwn (model X.prog X.w) X.A X.env X.xe) (hc : PT X c tc) (hb : PSs X body tb) : PS X (.While c body [] pos) (tWhile tc tb) := by
  intro pins s σ H D I h
  obtain ⟨W, ⟨m0, w0⟩, turn⟩ := h
  refine wpAny_While (codeAny_whileLoop (fun n s' => ∃ σ' H', Inv X pins σ' H' s' ∧ W n σ' H') ?_ m0 ⟨σ, H, I, w0⟩)
  rintro n s1 ⟨σ1, H1, I1, w1⟩
  refine wpAny_passesOwn hp (thn (hc pins s1 σ1 H1 _ I1 (turn n σ1 H1 w1)) fun b s2 ⟨H2, I2, q2⟩ => ?_)
  cases b with
  | true =>
    obtain ⟨N, hN, q2⟩ := q2
    rw [if_pos rfl]
    refine wpAny_passesOwn hp (thn (hb pins s2 σ1 H2 _ I2 q2) fun f s3 q3 => ?_)
    cases f with
    | next =>
      obtain ⟨σ3, H3, I3, n3⟩ := q3
      obtain ⟨m', hm, w3⟩ := hN σ3 H3 n3
      exact ⟨m', hm, σ3, H3, I3, w3⟩
    | cont =>
      obtain ⟨σ3, H3, I3, n3⟩ := q3
      obtain ⟨m', hm, w3⟩ := hN σ3 H3 n3
      exact ⟨m', hm, σ3, H3, I3, w3⟩
    | brk => exact q3
    | ret v => exact q3
  | false =>
    rw [if_neg Bool.false_ne_true]
    exact wpAny_execs_nil ⟨σ1, H2, I2, q2⟩
end
structure It where
  go : Nat → Hp → Prop
  yld : Nat → Hp → V → Hp → Prop
  stop : Nat → Hp → Prop
def FpOk (X : Cx) (pins : List (Addr × Obj)) (H : Hp) (b : Addr) : Prop :=
  H b = none ∧ b ≠ X.env.locals ∧ b ∉ X.fs ∧ (b ∈ X.ex ∨ X.s₀.heap.objs.size ≤ b) ∧ (∀ x c, X.env.cells.lookup x = some c → c ≠ b) ∧ ∀ p ∈ X.pn ++ pins, p.1 ≠ b
theorem Inv.fpOk {X : Cx} {pins : List (Addr × Obj)} {σ : St} {H H' : Hp} {s : Shared} {b : Addr} (I : Inv X pins σ H s) (hb : s.heap.objs.size ≤ b) (hn : H' b = none) : FpOk X pins H' b := by
  refine ⟨hn, Nat.ne_of_gt (Nat.lt_of_lt_of_le I.lt hb), I.nofs hb, .inr (Nat.le_trans I.sz hb), fun x c e z => ?_, fun p hp z => ?_⟩
  · obtain ⟨v, q⟩ := I.cell x c e
    exact absurd (Nat.lt_of_lt_of_le q.lt (by rw [z]; exact hb)) (Nat.lt_irrefl _)
  · exact absurd (Nat.lt_of_lt_of_le (Heap.lt_size (I.pin p hp).1) (by rw [z]; exact hb)) (Nat.lt_irrefl _)
structure Turn (P : Program) (w : World) (K : PySem.W.Frag) (tg : Expr) (J : It) (fp : List Addr) (it : Addr) (tn : Nat → Heap → Prop) : Prop where
  mem : it ∈ fp
  obj : ∀ i h, tn i h → ∀ b ∈ fp, ∃ o, h.get? b = some o ∧ ∀ v, o.data ≠ .cell v
  keep : ∀ i h h', tn i h → (∀ b ∈ fp, ∀ o, h.get? b = some o → h'.get? b = some o) → tn i h'
  item : ∀ (X : Cx), X.prog = P → X.w = w → X.K = K → X.calm = true → ∀ (i : Nat) (pins : List (Addr × Obj)) (s : Shared) (σ : St) (H : Hp) (E : Value → Shared → Prop), Inv X pins σ H s → (∀ b ∈ fp, FpOk X pins H b) → tn i s.heap → J.go i H →
    wpAny (model P w) X.A (pyNext (.ref it)) (fun r s1 => ∃ u, r = some u ∧
      wpAny (model P w) X.A (letOwnedTupleGo tg (.ref it) u) (fun _ s2 => ∃ x H', Inv X pins σ H' s2 ∧ RelV x u ∧ J.yld i H x H' ∧ tn (i + 1) s2.heap ∧ ∀ b ∈ fp, H' b = none) E s1) E s
  done : ∀ (X : Cx), X.prog = P → X.w = w → X.K = K → X.calm = true → ∀ (i : Nat) (pins : List (Addr × Obj)) (s : Shared) (σ : St) (H : Hp) (E : Value → Shared → Prop), Inv X pins σ H s → (∀ b ∈ fp, FpOk X pins H b) → tn i s.heap → J.stop i H →
    wpAny (model P w) X.A (pyNext (.ref it)) (fun r s1 => r = none ∧ Inv X pins σ H s1) E s
  self : ∀ (A : Around) (i : Nat) (s : Shared) (Q : Value → Shared → Prop) (E : Value → Shared → Prop), tn i s.heap → Q (.ref it) s → wpAny (model P w) A (pyIter (.ref it)) Q E s
abbrev TI := St → Hp → (It → Hp → Prop) → Prop
def PIE (X : Cx) (pins : List (Addr × Obj)) (σ : St) (tg : Expr) (R : It → Hp → Prop) (itv : Value) (s2 : Shared) : Prop :=
  ∃ (it : Addr) (fp : List Addr) (tn : Nat → Heap → Prop) (J : It) (H' : Hp), itv = .ref it ∧ Inv X pins σ H' s2 ∧ Turn X.prog X.w X.K tg J fp it tn ∧ tn 0 s2.heap ∧ (∀ b ∈ fp, FpOk X pins H' b) ∧ R J H'
def PI (X : Cx) (tg iter : Expr) (wi : TI) : Prop :=
  ∀ (pins : List (Addr × Obj)) (s : Shared) (σ : St) (H : Hp) (R : It → Hp → Prop), Inv X pins σ H s → wi σ H R →
    wpAny (model X.prog X.w) X.A (eval iter X.env) (fun v s1 => wpAny (model X.prog X.w) X.A (pyIter v) (PIE X pins σ tg R) X.xe s1) X.xe s
theorem go_of {M : Model} {A : Around} {E : Value → Shared → Prop} {s : Shared} {tg : Expr} {it : Addr} {u : Value} {o : Obj} {n : String} {vs : Array Value} {Q : Unit → Shared → Prop} (ho : s.heap.get? it = some o) (hc : o.cls = .type n) (hd : o.data = .fields vs)
    (hn : ["enumerate", "zip", "dict_itemiterator", "dict_reverseitemiterator", "odict_iterator", "itertools.zip_longest", "itertools.pairwise"].contains n = false) (hQ : Q () s) : wpAny M A (letOwnedTupleGo tg (.ref it) u) Q E s := by
  unfold letOwnedTupleGo
  cases tg <;> first
    | exact wpAny_pure hQ
    | (cases u <;> first
        | exact wpAny_pure hQ
        | (refine wpAny_bind (wpAny_load ho ?_)
           rw [hc, hd]
           show wpAny M A (if (["enumerate", "zip", "dict_itemiterator", "dict_reverseitemiterator", "odict_iterator", "itertools.zip_longest", "itertools.pairwise"].contains n && vs[0]? == some (rawInt _)) = true then _ else _) Q E s
           rw [if_neg (by intro h; rw [hn, Bool.false_and] at h; cases h)]
           exact wpAny_pure hQ))
def Itl (K : PySem.W.Frag) (a : Addr) : It :=
  ⟨fun i H => ∃ xs x, SqL K H a xs ∧ xs[i]? = some x, fun i H x H' => H' = H ∧ ∀ xs, SqL K H a xs → xs[i]? = some x, fun i H => ∃ xs, SqL K H a xs ∧ xs.length ≤ i⟩
def Itr (lo : Int) (n : Nat) : It := ⟨fun i _ => i < n, fun i H x H' => H' = H ∧ x = .int (lo + i), fun i _ => n ≤ i⟩
theorem turn_list {P : Program} {w : World} {K : PySem.W.Frag} {tg : Expr} (a it : Addr) : Turn P w K tg (Itl K a) [it] it (fun i h => h.IsListIter it a i) where
  mem := by simp
  obj := fun i h st b hb => by
    have e : b = it := by simpa using hb
    subst e
    obtain ⟨o, e, c, d⟩ := st
    exact ⟨o, e, fun v z => by rw [d] at z; cases z⟩
  keep := fun i h h' st k => st.at fun o e => k it (by simp) o e
  item := by
    intro X hP hw hK hc i pins s σ H E I hf st hg
    subst hP hw hK
    obtain ⟨xs, x, hq, hx⟩ := hg
    obtain ⟨its, rv, p, hz⟩ := I.list hq
    obtain ⟨u, hu, ru⟩ := rv.get hx
    obtain ⟨f0, f1, f2, f3, f4, f5⟩ := hf it (by simp)
    refine wpAny_pyNext_list_item st p.isList (x := u) (by simpa using hu) fun h' st' sb => ?_
    have I1 : Inv X pins σ H { s with heap := h' } := I.turned (t' := s.toks) (fun b o hb e => (sb.2 b hb).trans e) f0 f1 f3 f4 f5
    obtain ⟨o, e, c, d⟩ := id st'
    exact ⟨u, rfl, go_of (s := { s with heap := h' }) e c d (by decide) ⟨x, H, I1, ru, ⟨rfl, fun ys hy => by rw [I.list_inj hy hq]; exact hx⟩, st', fun b hb => (hf b hb).1⟩⟩
  done := by
    intro X hP hw hK hc i pins s σ H E I hf st hg
    subst hP hw hK
    obtain ⟨xs, hq, hx⟩ := hg
    obtain ⟨its, rv, p, hz⟩ := I.list hq
    obtain ⟨f0, f1, f2, f3, f4, f5⟩ := hf it (by simp)
    have hl := rv.length
    exact wpAny_pyNext_list_end (I.ok.hd hc) st p.isList (by simp; omega) fun h' eb => ⟨rfl, I.turned (t' := s.toks) (fun b o hb e => eb b o hb e) f0 f1 f3 f4 f5⟩
  self := fun _ _ _ _ _ st h => wpAny_pyIter_listiter st h
theorem turn_range {P : Program} {w : World} {K : PySem.W.Frag} {tg : Expr} (it : Addr) (lo : Int) (n : Nat) : Turn P w K tg (Itr lo n) [it] it (fun i h => IsRangeIter h it (lo + (i : Nat) * 1) ((n : Int) - (i : Nat)) 1) where
  mem := by simp
  obj := fun i h st b hb => by
    have e : b = it := by simpa using hb
    subst e
    exact ⟨_, st, fun v z => by
      have z' : Data.fields _ = Data.cell v := z
      cases z'⟩
  keep := fun i h h' st k => k it (by simp) _ st
  item := by
    intro X hP hw hK hc i pins s σ H E I hf st hg
    subst hP hw hK
    obtain ⟨f0, f1, f2, f3, f4, f5⟩ := hf it (by simp)
    have W := Walks.range (prog := X.prog) (w := X.w) (I.ok.hd hc) it lo 1 n
    refine W.item i s _ _ hg st fun v h' tk hv st' kk => ?_
    obtain ⟨t, rfl⟩ := hv
    have I1 : Inv X pins σ H { s with heap := h', toks := tk } := I.turned (fun b o hb e => kk b o (by simpa using hb) e) f0 f1 f3 f4 f5
    refine ⟨_, rfl, go_of (s := { s with heap := h', toks := tk }) (n := "range_iterator") st' rfl rfl (by decide) ⟨.int (lo + i), H, I1, ⟨t, ?_⟩, ⟨rfl, rfl⟩, st', fun b hb => (hf b hb).1⟩⟩
    rw [Int.mul_one]
  done := by
    intro X hP hw hK hc i pins s σ H E I hf st hg
    subst hP hw hK
    obtain ⟨f0, f1, f2, f3, f4, f5⟩ := hf it (by simp)
    exact wpAny_pyNext_range_end (I.ok.hd hc) st (by have : n ≤ i := hg; omega) fun h' eb => ⟨rfl, I.turned (t' := s.toks) (fun b o hb e => eb b o hb e) f0 f1 f3 f4 f5⟩
  self := fun _ _ _ _ _ st h => wpAny_pyIter_rangeiter st h
end L2
namespace L2
open PySem PySem.Spec PyProof.Rows
section
variable {X : Cx} {tg : Expr}
def iList (K : PySem.W.Frag) (tl : TE) : TI := fun σ H R => tl σ H fun x H1 => ∃ a, x = .ref a ∧ (∃ xs, SqL K H1 a xs) ∧ R (Itl K a) H1
theorem pi_list {l : Expr} {tl : TE} (hl : PE X l tl) : PI X tg l (iList X.K tl) := by
  intro pins s σ H R I h
  refine thn (hl pins s σ H _ I h) fun v s1 ⟨x, H1, I1, r1, q1⟩ => ?_
  obtain ⟨a, e, ⟨xs, hq⟩, q⟩ := q1
  subst e
  cases r1
  obtain ⟨its, rv, p, hz⟩ := I1.list hq
  refine wpAny_pyIter_list p.isList ?_
  refine ⟨s1.heap.objs.size, [s1.heap.objs.size], _, _, H1, rfl, I1.kept (t' := s1.toks) fun b o e => Heap.get?_push_of_some _ e, turn_list a _, ⟨_, Heap.get?_push_size _ rfl, rfl, rfl⟩, fun b hb => ?_, q⟩
  have e : b = s1.heap.objs.size := by simpa using hb
  subst e
  exact I1.fpOk (Nat.le_refl _) (I1.hok.fresh (Nat.le_refl _))
theorem range_it {pins : List (Addr × Obj)} {σ : St} {H : Hp} {s : Shared} {R : It → Hp → Prop} {E : Value → Shared → Prop} {lo hi : Int} {t u v : Tok} {tk : Nat} (I : Inv X pins σ H s) (h1 : -(2 ^ 62) ≤ lo) (h2 : lo < 2 ^ 62) (h3 : -(2 ^ 62) ≤ hi) (h4 : hi < 2 ^ 62)
    (q : R (Itr lo (hi - lo).toNat) H) : wpAny (model X.prog X.w) X.A (pyIter (.ref s.heap.objs.size)) (PIE X pins σ tg R) E { s with heap := s.heap.push { cls := .type "range", data := .fields #[.int lo t, .int hi u, .int 1 v] }, toks := tk } := by
  refine wpAny_pyIter_range (IsRange.new ..) (small_one h1 h2 h3 h4) ?_
  have I1 : Inv X pins σ H { s with heap := s.heap.push { cls := .type "range", data := .fields #[.int lo t, .int hi u, .int 1 v] }, toks := tk } := I.kept fun b o e => Heap.get?_push_of_some _ e
  refine ⟨(s.heap.push { cls := .type "range", data := .fields #[.int lo t, .int hi u, .int 1 v] }).objs.size, [(s.heap.push { cls := .type "range", data := .fields #[.int lo t, .int hi u, .int 1 v] }).objs.size], _, _, H, rfl,
    I1.kept (t' := tk) fun b o e => Heap.get?_push_of_some _ e, turn_range _ lo (hi - lo).toNat, ?_, fun b hb => ?_, q⟩
  · have e1 : lo + ((0 : Nat) : Int) * 1 = lo := by simp
    have e2 : (((hi - lo).toNat : Nat) : Int) - ((0 : Nat) : Int) = Builtin.Range.rangeSize lo hi 1 := by rw [rangeSize_one]; split <;> omega
    show IsRangeIter _ _ (lo + ((0 : Nat) : Int) * 1) ((((hi - lo).toNat : Nat) : Int) - ((0 : Nat) : Int)) 1
    rw [e1, e2]
    exact Heap.get?_push_size _ rfl
  · have e : b = (s.heap.push { cls := .type "range", data := .fields #[.int lo t, .int hi u, .int 1 v] }).objs.size := by simpa using hb
    subst e
    exact I1.fpOk (Nat.le_refl _) (I1.hok.fresh (Nat.le_refl _))
def iRng1 (ta : TA) : TI := fun σ H R => ta σ H fun vs H1 => ∃ j : Int, vs = [.int j] ∧ -(2 ^ 62) ≤ j ∧ j < 2 ^ 62 ∧ R (Itr 0 j.toNat) H1
def iRng2 (ta : TA) : TI := fun σ H R => ta σ H fun vs H1 => ∃ i j : Int, vs = [.int i, .int j] ∧ (-(2 ^ 62) ≤ i ∧ i < 2 ^ 62 ∧ -(2 ^ 62) ≤ j ∧ j < 2 ^ 62) ∧ R (Itr i (j - i).toNat) H1
theorem pi_range1 {a : Expr} {ta : TA} {p pos : Pos} (hg : Gl X "range") (hm : X.mg "range" = none) (ha : PA X [a] ta) (hs : starEach [a] X.env = [(false, eval a X.env)] := by rfl) : PI X tg (.Call (.Name "range" p) [a] [] pos) (iRng1 ta) := by
  intro pins s σ H R I h
  refine Call_ (ld_blt I hg hm boot_range (PyProof.Rows.callWith_type1 (thn (ha pos pins s σ H _ I h) fun us s1 ⟨vs, H1, I1, r1, q1⟩ => ?_) hs rfl))
  obtain ⟨j, e, q1, q2, q⟩ := q1
  subst e
  cases r1 with
  | cons r rr =>
    cases rr
    obtain ⟨t, rfl⟩ := r
    exact call_range_1 (range_it I1 (by omega) (by omega) q1 q2 (by simpa using q))
theorem pi_range2 {a b : Expr} {ta : TA} {p pos : Pos} (hg : Gl X "range") (hm : X.mg "range" = none) (ha : PA X [a, b] ta) (hs : starEach [a, b] X.env = [(false, eval a X.env), (false, eval b X.env)] := by rfl) (hs2 : starEach [b] X.env = [(false, eval b X.env)] := by rfl) :
    PI X tg (.Call (.Name "range" p) [a, b] [] pos) (iRng2 ta) := by
  intro pins s σ H R I h
  refine Call_ (ld_blt I hg hm boot_range (PyProof.Rows.callWith_type1 (thn (ha pos pins s σ H _ I h) fun us s1 ⟨vs, H1, I1, r1, q1⟩ => ?_) (by rw [hs, hs2]) (by rw [hs2]; rfl)))
  obtain ⟨i, j, e, ⟨q1, q2, q3, q4⟩, q⟩ := q1
  subst e
  cases r1 with
  | cons r rr =>
    cases rr with
    | cons r' rr =>
      cases rr
      obtain ⟨t, rfl⟩ := r
      obtain ⟨t', rfl⟩ := r'
      exact call_range_2 (range_it I1 q1 q2 q3 q4 q)
def tFor (wi : TI) (g : TG) (tb : TS) : TS := fun D σ H => wi σ H fun J H1 => ∃ W : Nat → Nat → St → Hp → Prop, (∃ m, W 0 m σ H1) ∧ ∀ i m σ H, W i m σ H →
  (J.stop i H ∧ D.nx σ H) ∨ (J.go i H ∧ ∃ N : St → Hp → Prop, (∀ σ' H', N σ' H' → ∃ m', m' < m ∧ W (i + 1) m' σ' H') ∧ ∀ x H', J.yld i H x H' → g x σ H' fun σ2 H2 => tb { D with nx := N, ct := N, bk := D.nx } σ2 H2)
def pinsAt (fp : List Addr) (h : Heap) : List (Addr × Obj) := fp.filterMap fun b => (h.get? b).map fun o => (b, o)
theorem mem_pinsAt {fp : List Addr} {h : Heap} {b : Addr} {o : Obj} (hb : b ∈ fp) (e : h.get? b = some o) : (b, o) ∈ pinsAt fp h := List.mem_filterMap.mpr ⟨b, hb, by rw [e]; rfl⟩
theorem of_pinsAt {fp : List Addr} {h : Heap} {p : Addr × Obj} (hp : p ∈ pinsAt fp h) : p.1 ∈ fp ∧ h.get? p.1 = some p.2 := by
  obtain ⟨b, hb, e⟩ := List.mem_filterMap.mp hp
  cases q : h.get? b with
  | none => rw [q] at e; cases e
  | some o =>
    rw [q] at e
    have e' : (b, o) = p := Option.some.inj e
    subst e'
    exact ⟨hb, q⟩
theorem Inv.pinned {pins : List (Addr × Obj)} {σ : St} {H : Hp} {s : Shared} {fp : List Addr} (I : Inv X pins σ H s) (hf : ∀ b ∈ fp, FpOk X pins H b) (ho : ∀ b ∈ fp, ∃ o, s.heap.get? b = some o ∧ ∀ v, o.data ≠ .cell v) : Inv X (pins ++ pinsAt fp s.heap) σ H s :=
  I.pins_of fun p hp => (List.mem_append.mp hp).elim (fun z => I.pin p (List.mem_append_right _ z)) fun z => by
    obtain ⟨hb, e⟩ := of_pinsAt z
    obtain ⟨f0, f1, f2, _⟩ := hf p.1 hb
    obtain ⟨o, e', d⟩ := ho p.1 hb
    rw [e] at e'; cases e'
    exact ⟨e, f0, f1, f2, d⟩
theorem Inv.unpinned {pins pl : List (Addr × Obj)} {σ : St} {H : Hp} {s : Shared} (I : Inv X (pins ++ pl) σ H s) : Inv X pins σ H s := I.pins_of fun p hp => I.pin p (List.mem_append_right _ (List.mem_append_left _ hp))
theorem ps_for {iter : Expr} {body : List Stmt} {wi : TI} {g : TG} {tb : TS} {pos : Pos} (hp : PassesOwn (model X.prog X.w) X.A X.env X.xe) (hc : X.calm = true) (hi : PI X tg iter wi) (hg : PG X tg g) (hb : PSs X body tb)
    (hs : ∀ x, foldedSetIterable iter X.env x = pure x := by intro _; rfl) : PS X (.For tg iter body [] pos) (tFor wi g tb) := by
  intro pins s σ H D I h
  refine wpAny_For (thn (hi pins s σ H _ I h) fun v s1 h1 => thn h1 fun itv s2 h2 => ?_) hs
  obtain ⟨it, fp, tn, J, H2, e, I2, T, st2, f2, W, ⟨m0, w0⟩, turn⟩ := h2
  subst e
  have stat : ∀ {H' : Hp}, (∀ b ∈ fp, H' b = none) → ∀ b ∈ fp, FpOk X pins H' b := fun hn b hb => ⟨hn b hb, (f2 b hb).2⟩
  refine codeAny_forLoop_any (fun n s' => ∃ i σ' H', Inv X pins σ' H' s' ∧ tn i s'.heap ∧ (∀ b ∈ fp, H' b = none) ∧ W i n σ' H') ?_ m0 ⟨0, σ, H2, I2, st2, fun b hb => (f2 b hb).1, w0⟩
  rintro n s3 ⟨i, σ3, H3, I3, st3, fr3, w3⟩
  rcases turn i n σ3 H3 w3 with ⟨stop, qn⟩ | ⟨go, N, hN, step⟩
  · refine wpAny_passesOwn hp (thn (T.done X rfl rfl rfl hc i pins s3 σ3 H3 X.xe I3 (stat fr3) st3 stop) fun r s4 ⟨hr, I4⟩ => ?_)
    subst hr
    exact wpAny_execs_nil ⟨σ3, H3, I4, qn⟩
  · refine wpAny_passesOwn hp (thn (T.item X rfl rfl rfl hc i pins s3 σ3 H3 X.xe I3 (stat fr3) st3 go) fun r s4 ⟨u, hr, h4⟩ => ?_)
    subst hr
    refine wpAny_passesOwn hp (thn h4 fun _ s5 ⟨x, H5, I5, r5, y5, st5, fr5⟩ => ?_)
    have I5' := I5.pinned (stat fr5) (T.obj _ _ st5)
    refine wpAny_passesOwn hp (thn (hg _ s5 σ3 H5 x u _ I5' r5 (step x H5 y5)) fun _ s6 ⟨σ6, H6, I6, q6⟩ => ?_)
    refine wpAny_passesOwn hp (thn (hb _ s6 σ6 H6 _ I6 q6) fun f s7 q7 => ?_)
    have again : ∀ {σ7 : St} {H7 : Hp}, Inv X (pins ++ pinsAt fp s5.heap) σ7 H7 s7 → N σ7 H7 → ∃ m, m < n ∧ ∃ i σ' H', Inv X pins σ' H' s7 ∧ tn i s7.heap ∧ (∀ b ∈ fp, H' b = none) ∧ W i m σ' H' := fun {σ7 H7} I7 n7 => by
      obtain ⟨m', hm, w7⟩ := hN σ7 H7 n7
      refine ⟨m', hm, i + 1, σ7, H7, I7.unpinned, T.keep _ _ _ st5 fun b hb o e => (I7.pin (b, o) (List.mem_append_right _ (List.mem_append_right _ (mem_pinsAt hb e)))).1, fun b hb => ?_, w7⟩
      obtain ⟨o, e, d⟩ := T.obj _ _ st5 b hb
      exact (I7.pin (b, o) (List.mem_append_right _ (List.mem_append_right _ (mem_pinsAt hb e)))).2.1
    cases f with
    | next => obtain ⟨σ7, H7, I7, n7⟩ := q7; exact again I7 n7
    | cont => obtain ⟨σ7, H7, I7, n7⟩ := q7; exact again I7 n7
    | brk => obtain ⟨σ7, H7, I7, q7⟩ := q7; exact ⟨σ7, H7, I7.unpinned, q7⟩
    | ret v => obtain ⟨x7, σ7, H7, I7, r7, q7⟩ := q7; exact ⟨x7, σ7, H7, I7.unpinned, r7, q7⟩
end
theorem for_list {K : PySem.W.Frag} {a : Addr} {xs : List V} {g : TG} {tb : TS} {D : Ends} {σ : St} {H : Hp} (Pv : Nat → St → Hp → Prop) (h0 : Pv 0 σ H) (hl : ∀ i σ H, i ≤ xs.length → Pv i σ H → SqL K H a xs)
    (hs : ∀ i x σ H, xs[i]? = some x → Pv i σ H → g x σ H fun σ2 H2 => tb { D with nx := Pv (i + 1), ct := Pv (i + 1), bk := D.nx } σ2 H2) (hd : ∀ σ H, Pv xs.length σ H → D.nx σ H) :
    ∃ W : Nat → Nat → St → Hp → Prop, (∃ m, W 0 m σ H) ∧ ∀ i m σ H, W i m σ H →
      ((Itl K a).stop i H ∧ D.nx σ H) ∨ ((Itl K a).go i H ∧ ∃ N : St → Hp → Prop, (∀ σ' H', N σ' H' → ∃ m', m' < m ∧ W (i + 1) m' σ' H') ∧ ∀ x H', (Itl K a).yld i H x H' → g x σ H' fun σ2 H2 => tb { D with nx := N, ct := N, bk := D.nx } σ2 H2) := by
  refine ⟨fun i m σ H => m = xs.length - i ∧ i ≤ xs.length ∧ Pv i σ H, ⟨xs.length, by simp, Nat.zero_le _, h0⟩, ?_⟩
  rintro i m σ H ⟨rfl, hi, p⟩
  have q := hl i σ H hi p
  by_cases hlt : i < xs.length
  · refine .inr ⟨⟨xs, xs[i], q, by simp [hlt]⟩, Pv (i + 1), fun σ' H' p' => ⟨xs.length - (i + 1), by omega, rfl, hlt, p'⟩, fun x H' y => ?_⟩
    obtain ⟨e, y⟩ := y
    subst e
    exact hs i x σ _ (y xs q) p
  · have e : i = xs.length := by omega
    subst e
    exact .inl ⟨⟨xs, q, Nat.le_refl _⟩, hd σ H p⟩
theorem for_range {lo : Int} {n : Nat} {g : TG} {tb : TS} {D : Ends} {σ : St} {H : Hp} (Pv : Nat → St → Hp → Prop) (h0 : Pv 0 σ H)
    (hs : ∀ i σ H, i < n → Pv i σ H → g (.int (lo + i)) σ H fun σ2 H2 => tb { D with nx := Pv (i + 1), ct := Pv (i + 1), bk := D.nx } σ2 H2) (hd : ∀ σ H, Pv n σ H → D.nx σ H) :
    ∃ W : Nat → Nat → St → Hp → Prop, (∃ m, W 0 m σ H) ∧ ∀ i m σ H, W i m σ H →
      ((Itr lo n).stop i H ∧ D.nx σ H) ∨ ((Itr lo n).go i H ∧ ∃ N : St → Hp → Prop, (∀ σ' H', N σ' H' → ∃ m', m' < m ∧ W (i + 1) m' σ' H') ∧ ∀ x H', (Itr lo n).yld i H x H' → g x σ H' fun σ2 H2 => tb { D with nx := N, ct := N, bk := D.nx } σ2 H2) := by
  refine ⟨fun i m σ H => m = n - i ∧ i ≤ n ∧ Pv i σ H, ⟨n, by simp, Nat.zero_le _, h0⟩, ?_⟩
  rintro i m σ H ⟨rfl, hi, p⟩
  by_cases hlt : i < n
  · refine .inr ⟨hlt, Pv (i + 1), fun σ' H' p' => ⟨n - (i + 1), by omega, rfl, hlt, p'⟩, fun x H' y => ?_⟩
    obtain ⟨e, y⟩ := y
    subst e y
    exact hs i σ _ hlt p
  · have e : i = n := by omega
    subst e
    exact .inl ⟨Nat.le_refl _, hd σ H p⟩
theorem while_by {c : TT} {tb : TS} {D : Ends} {σ : St} {H : Hp} (Pv : St → Hp → Prop) (μ : St → Hp → Nat) (h0 : Pv σ H)
    (hs : ∀ σ H, Pv σ H → c σ H fun b H1 => if b = true then tb { D with nx := fun σ' H' => Pv σ' H' ∧ μ σ' H' < μ σ H, ct := fun σ' H' => Pv σ' H' ∧ μ σ' H' < μ σ H, bk := D.nx } σ H1 else D.nx σ H1)
    (mono : ∀ σ H Q Q', (∀ b H1, Q b H1 → Q' b H1) → c σ H Q → c σ H Q') : tWhile c tb D σ H := by
  refine ⟨fun m σ H => m = μ σ H ∧ Pv σ H, ⟨_, rfl, h0⟩, ?_⟩
  rintro m σ H ⟨rfl, p⟩
  refine mono σ H _ _ (fun b H1 q => ?_) (hs σ H p)
  cases b with
  | true => exact ⟨_, fun σ' H' ⟨p', l⟩ => ⟨_, l, rfl, p'⟩, q⟩
  | false => exact q
end L2
namespace L2
open PySem PySem.Spec PyProof.Rows
abbrev R2 := V → V → Hp → VK → Prop
def OpR (X : Cx) (f : Value → Value → Sem Value) (r : R2) : Prop :=
  ∀ (pins : List (Addr × Obj)) (s : Shared) (σ : St) (H : Hp) (x y : V) (v u : Value) (Q : VK), Inv X pins σ H s → RelV x v → RelV y u → r x y H Q →
    wpAny (model X.prog X.w) X.A (f v u) (EP X pins σ Q) X.xe s
def UnR (X : Cx) (f : Value → Sem Value) (r : V → Hp → VK → Prop) : Prop :=
  ∀ (pins : List (Addr × Obj)) (s : Shared) (σ : St) (H : Hp) (x : V) (v : Value) (Q : VK), Inv X pins σ H s → RelV x v → r x H Q →
    wpAny (model X.prog X.w) X.A (f v) (EP X pins σ Q) X.xe s
def CallR (X : Cx) (f : Value) (r : List V → Hp → VK → Prop) : Prop :=
  ∀ (pins : List (Addr × Obj)) (s : Shared) (σ : St) (H : Hp) (xs : List V) (us : List Value) (Q : VK), Inv X pins σ H s → Vals xs us → r xs H Q →
    wpAny (model X.prog X.w) X.A (call f us) (EP X pins σ Q) X.xe s
def tOp (r : R2) (ta tb : TE) : TE := fun σ H Q => ta σ H fun x H1 => tb σ H1 fun y H2 => r x y H2 Q
def tUn (r : V → Hp → VK → Prop) (ta : TE) : TE := fun σ H Q => ta σ H fun x H1 => r x H1 Q
def rI (C : Int → Int → Prop) (g : Int → Int → V) : R2 := fun x y H Q => ∃ i j, x = .int i ∧ y = .int j ∧ C i j ∧ Q (g i j) H
def rI0 (g : Int → Int → V) : R2 := fun x y H Q => ∃ i j, x = .int i ∧ y = .int j ∧ Q (g i j) H
def rU (g : Int → V) : V → Hp → VK → Prop := fun x H Q => ∃ i, x = .int i ∧ Q (g i) H
section
variable {X : Cx} {a b c : Expr} {ta tb tc : TE} {pos : Pos}
theorem binT (ha : PE X a ta) (hb : PE X b tb) {pins : List (Addr × Obj)} {s : Shared} {σ : St} {H : Hp} {R : V → V → Hp → Prop} (I : Inv X pins σ H s)
    (h : ta σ H fun x H1 => tb σ H1 fun y H2 => R x y H2) {Q : Value → Shared → Prop} {f : Value → Value → Sem Value}
    (hf : ∀ v u s2 x y H2, Inv X pins σ H2 s2 → RelV x v → RelV y u → R x y H2 → wpAny (model X.prog X.w) X.A (f v u) Q X.xe s2) :
    wpAny (model X.prog X.w) X.A (eval a X.env) (fun v s₁ => wpAny (model X.prog X.w) X.A (eval b X.env) (fun u s₂ => wpAny (model X.prog X.w) X.A (f v u) Q X.xe s₂) X.xe s₁) X.xe s := by
  refine thn (ha pins s σ H _ I h) fun v s1 ⟨x, H1, I1, r1, q1⟩ => ?_
  refine thn (hb pins s1 σ H1 _ I1 q1) fun u s2 ⟨y, H2, I2, r2, q2⟩ => ?_
  exact hf v u s2 x y H2 I2 r1 r2 q2
theorem pe_op {op : Operator} {r : R2} (ho : OpR X (binaryOp op) r) (ha : PE X a ta) (hb : PE X b tb) : PE X (.BinOp a op b pos) (tOp r ta tb) := by
  intro pins s σ H Q I h
  exact wpAny_BinOp (binT ha hb I h fun v u s2 x y H2 I2 rx ry q => ho pins s2 σ H2 x y v u Q I2 rx ry q)
theorem pe_un {op : UnaryOp} {r : V → Hp → VK → Prop} (ho : UnR X (unaryOp op) r) (ha : PE X a ta) : PE X (.UnaryOp op a pos) (tUn r ta) := by
  intro pins s σ H Q I h
  exact UnaryOp_ (thn (ha pins s σ H _ I h) fun v s1 ⟨x, H1, I1, r1, q1⟩ => ho pins s1 σ H1 x v Q I1 r1 q1)
theorem opI {f : Value → Value → Sem Value} {C : Int → Int → Prop} {g : Int → Int → Int}
    (rule : ∀ (i j : Int) (t u : Tok) (s : Shared) (Q : Value → Shared → Prop) (E : Value → Shared → Prop), C i j → Q (.int (g i j) s.toks) { s with toks := s.toks + 1 } → wpAny (model X.prog X.w) X.A (f (.int i t) (.int j u)) Q E s) :
    OpR X f (rI C fun i j => .int (g i j)) := by
  intro pins s σ H x y v u Q I rx ry h
  obtain ⟨i, j, rfl, rfl, hc, q⟩ := h
  obtain ⟨t, rfl⟩ := rx
  obtain ⟨t', rfl⟩ := ry
  exact rule i j t t' s _ _ hc ⟨.int (g i j), H, I.tok _, ⟨_, rfl⟩, q⟩
theorem opI0 {f : Value → Value → Sem Value} {g : Int → Int → Int}
    (rule : ∀ (i j : Int) (t u : Tok) (s : Shared) (Q : Value → Shared → Prop) (E : Value → Shared → Prop), Q (.int (g i j) s.toks) { s with toks := s.toks + 1 } → wpAny (model X.prog X.w) X.A (f (.int i t) (.int j u)) Q E s) :
    OpR X f (rI0 fun i j => .int (g i j)) := by
  intro pins s σ H x y v u Q I rx ry h
  obtain ⟨i, j, rfl, rfl, q⟩ := h
  obtain ⟨t, rfl⟩ := rx
  obtain ⟨t', rfl⟩ := ry
  exact rule i j t t' s _ _ ⟨.int (g i j), H, I.tok _, ⟨_, rfl⟩, q⟩
theorem opB0 {f : Value → Value → Sem Value} {g : Int → Int → Bool}
    (rule : ∀ (i j : Int) (t u : Tok) (s : Shared) (Q : Value → Shared → Prop) (E : Value → Shared → Prop), Q (.bool (g i j)) s → wpAny (model X.prog X.w) X.A (f (.int i t) (.int j u)) Q E s) :
    OpR X f (rI0 fun i j => .bl (g i j)) := by
  intro pins s σ H x y v u Q I rx ry h
  obtain ⟨i, j, rfl, rfl, q⟩ := h
  obtain ⟨t, rfl⟩ := rx
  obtain ⟨t', rfl⟩ := ry
  exact rule i j t t' s _ _ ⟨.bl (g i j), H, I, rfl, q⟩
def CDiv (i j : Int) : Prop := 0 < j ∧ j < 1073741824
def CPow (i j : Int) : Prop := 0 ≤ j ∧ j ≤ 1000000 ∧ i.natAbs < 2 ^ 64
def CMul (i j : Int) : Prop := (-(2 ^ 64) < i ∧ i < 2 ^ 64) ∨ (-(2 ^ 64) < j ∧ j < 2 ^ 64)
theorem CMul.ok {i j : Int} (h : CMul i j) : IntMulOk i j := by
  rcases h with ⟨h1, h2⟩ | ⟨h1, h2⟩
  · exact .of_left (intBits_le_64 h1 h2)
  · exact .of_right (intBits_le_64 h1 h2)
theorem op_add : OpR X (binaryOp .Add) (rI0 fun i j => .int (i + j)) := opI0 fun _ _ _ _ _ _ _ q => add_int q
theorem op_sub : OpR X (binaryOp .Sub) (rI0 fun i j => .int (i - j)) := opI0 fun _ _ _ _ _ _ _ q => sub_int q
theorem op_mul : OpR X (binaryOp .Mult) (rI CMul fun i j => .int (i * j)) := opI fun _ _ _ _ _ _ _ hc q => mul_int q hc.ok
theorem op_fdiv : OpR X (binaryOp .FloorDiv) (rI CDiv fun i j => .int (i / j)) := opI fun i j _ _ _ _ _ hc q => by
  have h1 : (0 : Int) < j := hc.1
  have h2 : j < 1073741824 := hc.2
  exact floordiv_int (by omega) (by rw [Int.fdiv_eq_ediv_of_nonneg i (by omega)]; exact q) (.inl (PyProof.noPylong_small (by omega)))
theorem op_mod : OpR X (binaryOp .Mod) (rI (fun _ j => 0 < j) fun i j => .int (i % j)) := opI fun i j _ _ _ _ _ hc q => by
  have h1 : (0 : Int) < j := hc
  exact mod_int' (by omega) (by rw [Int.fmod_eq_emod_of_nonneg i (by omega)]; exact q)
theorem op_pow : OpR X (binaryOp .Pow) (rI CPow fun i j => .int (i ^ j.toNat)) := opI fun _ _ _ _ _ _ _ hc q => pow_int_small hc.1 hc.2.1 hc.2.2 q
theorem unI {f : Value → Sem Value} {g : Int → Int}
    (rule : ∀ (i : Int) (t : Tok) (s : Shared) (Q : Value → Shared → Prop) (E : Value → Shared → Prop), Q (.int (g i) s.toks) { s with toks := s.toks + 1 } → wpAny (model X.prog X.w) X.A (f (.int i t)) Q E s) :
    UnR X f (rU fun i => .int (g i)) := by
  intro pins s σ H x v Q I rx h
  obtain ⟨i, rfl, q⟩ := h
  obtain ⟨t, rfl⟩ := rx
  exact rule i t s _ _ ⟨.int (g i), H, I.tok _, ⟨_, rfl⟩, q⟩
theorem un_neg : UnR X (unaryOp .USub) (rU fun i => .int (-i)) := unI fun _ _ _ _ _ q => neg_int q
end
def scal : V → V → Bool
  | .non, .non => true | .non, .int _ => true | .int _, .non => true | .non, .bl _ => true | .bl _, .non => true | .non, .str _ => true | .str _, .non => true
  | .int _, .int _ => true | .bl _, .bl _ => true | .str _, .str _ => true | .byt _, .byt _ => true
  | .int _, .str _ => true | .str _, .int _ => true | .bl _, .str _ => true | .str _, .bl _ => true
  | _, _ => false
def rEq : R2 := fun x y H Q => scal x y = true ∧ Q (.bl (decide (x = y))) H
def rNe : R2 := fun x y H Q => scal x y = true ∧ Q (.bl (!decide (x = y))) H
theorem dec_int {i j : Int} : decide (V.int i = V.int j) = (i == j) := by
  rw [Bool.eq_iff_iff]
  simp
theorem dec_bl {i j : Bool} : decide (V.bl i = V.bl j) = (i == j) := by
  rw [Bool.eq_iff_iff]
  simp
theorem dec_str {i j : Str} : decide (V.str i = V.str j) = (i == j) := by
  rw [Bool.eq_iff_iff]
  simp
theorem dec_byt {i j : Array UInt8} : decide (V.byt i = V.byt j) = (i.toList == j.toList) := by
  rw [Bool.eq_iff_iff]
  cases i
  cases j
  simp
section
variable {X : Cx} {a b c : Expr} {ta tb tc : TE} {pos : Pos}
theorem fin_bl {pins : List (Addr × Obj)} {σ : St} {H : Hp} {s : Shared} {Q : VK} {k k' : Bool} (I : Inv X pins σ H s) (q : Q (.bl k) H) (e : k = k') : EP X pins σ Q (.bool k') s := by
  subst e
  exact ⟨.bl k, H, I, rfl, q⟩
theorem op_eq : OpR X (compareOp .Eq) rEq := by
  intro pins s σ H x y v u Q I rx ry h
  obtain ⟨hs, q⟩ := h
  cases x with
  | non =>
    cases rx
    cases y with
    | non => cases ry; exact PySem.EqNone.eq_none_none (fin_bl I q (by simp))
    | bl j => cases ry; exact PySem.EqNone.eq_none_bool (fin_bl I q (by simp))
    | int j => obtain ⟨t', rfl⟩ := ry; exact PySem.EqNone.eq_none_int (fin_bl I q (by simp))
    | str j => obtain ⟨t', rfl⟩ := ry; exact PySem.EqNone.eq_none_str (fin_bl I q (by simp))
    | _ => exact absurd (show false = true from hs) Bool.false_ne_true
  | bl i =>
    cases rx
    cases y with
    | non => cases ry; exact PySem.EqNone.eq_bool_none (fin_bl I q (by simp))
    | bl j => cases ry; exact eq_bool (fin_bl I q dec_bl)
    | str j => obtain ⟨t', rfl⟩ := ry; exact PySem.EqMixed.eq_bool_str (fin_bl I q (by simp))
    | _ => exact absurd (show false = true from hs) Bool.false_ne_true
  | int i =>
    obtain ⟨t, rfl⟩ := rx
    cases y with
    | non => cases ry; exact PySem.EqNone.eq_int_none (fin_bl I q (by simp))
    | int j => obtain ⟨t', rfl⟩ := ry; exact eq_int (fin_bl I q dec_int)
    | str j => obtain ⟨t', rfl⟩ := ry; exact PySem.EqMixed.eq_int_str (fin_bl I q (by simp))
    | _ => exact absurd (show false = true from hs) Bool.false_ne_true
  | str i =>
    obtain ⟨t, rfl⟩ := rx
    cases y with
    | non => cases ry; exact PySem.EqNone.eq_str_none (fin_bl I q (by simp))
    | bl j => cases ry; exact PySem.EqMixed.eq_str_bool (fin_bl I q (by simp))
    | int j => obtain ⟨t', rfl⟩ := ry; exact PySem.EqMixed.eq_str_int (fin_bl I q (by simp))
    | str j => obtain ⟨t', rfl⟩ := ry; exact eq_str (fin_bl I q dec_str)
    | _ => exact absurd (show false = true from hs) Bool.false_ne_true
  | byt i =>
    obtain ⟨t, rfl⟩ := rx
    cases y with
    | byt j => obtain ⟨t', rfl⟩ := ry; exact PySem.W.eq_bytes (fin_bl I q dec_byt)
    | _ => exact absurd (show false = true from hs) Bool.false_ne_true
  | _ => cases y <;> exact absurd (show false = true from hs) Bool.false_ne_true
theorem op_ne : OpR X (compareOp .NotEq) rNe := by
  intro pins s σ H x y v u Q I rx ry h
  obtain ⟨hs, q⟩ := h
  cases x with
  | non =>
    cases rx
    cases y with
    | non => cases ry; exact PySem.EqNone.ne_none_none (fin_bl I q (by simp))
    | bl j => cases ry; exact PySem.EqNone.ne_none_bool (fin_bl I q (by simp))
    | int j => obtain ⟨t', rfl⟩ := ry; exact PySem.EqNone.ne_none_int (fin_bl I q (by simp))
    | str j => obtain ⟨t', rfl⟩ := ry; exact PySem.EqNone.ne_none_str (fin_bl I q (by simp))
    | _ => exact absurd (show false = true from hs) Bool.false_ne_true
  | bl i =>
    cases rx
    cases y with
    | non => cases ry; exact PySem.EqNone.ne_bool_none (fin_bl I q (by simp))
    | bl j => cases ry; exact ne_bool (fin_bl I q (congrArg not dec_bl))
    | str j => obtain ⟨t', rfl⟩ := ry; exact PySem.EqMixed.ne_bool_str (fin_bl I q (by simp))
    | _ => exact absurd (show false = true from hs) Bool.false_ne_true
  | int i =>
    obtain ⟨t, rfl⟩ := rx
    cases y with
    | non => cases ry; exact PySem.EqNone.ne_int_none (fin_bl I q (by simp))
    | int j => obtain ⟨t', rfl⟩ := ry; exact ne_int (fin_bl I q (congrArg not dec_int))
    | str j => obtain ⟨t', rfl⟩ := ry; exact PySem.EqMixed.ne_int_str (fin_bl I q (by simp))
    | _ => exact absurd (show false = true from hs) Bool.false_ne_true
  | str i =>
    obtain ⟨t, rfl⟩ := rx
    cases y with
    | non => cases ry; exact PySem.EqNone.ne_str_none (fin_bl I q (by simp))
    | bl j => cases ry; exact PySem.EqMixed.ne_str_bool (fin_bl I q (by simp))
    | int j => obtain ⟨t', rfl⟩ := ry; exact PySem.EqMixed.ne_str_int (fin_bl I q (by simp))
    | str j => obtain ⟨t', rfl⟩ := ry; exact ne_str (fin_bl I q (congrArg not dec_str))
    | _ => exact absurd (show false = true from hs) Bool.false_ne_true
  | byt i =>
    obtain ⟨t, rfl⟩ := rx
    cases y with
    | byt j => obtain ⟨t', rfl⟩ := ry; exact PySem.W.ne_bytes (fin_bl I q (congrArg not dec_byt))
    | _ => exact absurd (show false = true from hs) Bool.false_ne_true
  | _ => cases y <;> exact absurd (show false = true from hs) Bool.false_ne_true
theorem op_lt : OpR X (compareOp .Lt) (rI0 fun i j => .bl (decide (i < j))) := opB0 fun _ _ _ _ _ _ _ q => lt_int q
theorem op_le : OpR X (compareOp .LtE) (rI0 fun i j => .bl (decide (i ≤ j))) := opB0 fun _ _ _ _ _ _ _ q => le_int q
theorem op_gt : OpR X (compareOp .Gt) (rI0 fun i j => .bl (decide (j < i))) := opB0 fun _ _ _ _ _ _ _ q => gt_int q
theorem op_ge : OpR X (compareOp .GtE) (rI0 fun i j => .bl (decide (j ≤ i))) := opB0 fun _ _ _ _ _ _ _ q => ge_int q
theorem op_in_str : OpR X (compareOp .In) (fun x y H Q => ∃ i j, x = .str i ∧ y = .str j ∧ Q (.bl (!(Builtin.Str.occurrences j i 0 j.length 1).isEmpty)) H) := by
  intro pins s σ H x y v u Q I rx ry h
  obtain ⟨i, j, rfl, rfl, q⟩ := h
  obtain ⟨t, rfl⟩ := rx
  obtain ⟨t', rfl⟩ := ry
  exact in_str (fin_bl I q rfl)
theorem op_isN : OpR X (compareOp .Is) (fun x y H Q => y = .non ∧ Q (.bl (decide (x = .non))) H) := by
  intro pins s σ H x y v u Q I rx ry h
  obtain ⟨rfl, q⟩ := h
  cases ry
  refine is_none_gen (fin_bl I q ?_)
  cases x <;> first
    | (cases rx; rfl)
    | (obtain ⟨t, rfl⟩ := rx; rfl)
theorem op_notN : OpR X (compareOp .IsNot) (fun x y H Q => y = .non ∧ Q (.bl (!decide (x = .non))) H) := by
  intro pins s σ H x y v u Q I rx ry h
  obtain ⟨rfl, q⟩ := h
  cases ry
  refine isnot_none_gen (fin_bl I q ?_)
  cases x <;> first
    | (cases rx; rfl)
    | (obtain ⟨t, rfl⟩ := rx; rfl)
theorem nomark (b : Expr) {op : CmpOp} (h : op ≠ .In := by decide) (h2 : op ≠ .NotIn := by decide) : behindInMarks op b = false := by
  have e1 : (op == CmpOp.In) = false := by cases op <;> first | rfl | exact absurd rfl h
  have e2 : (op == CmpOp.NotIn) = false := by cases op <;> first | rfl | exact absurd rfl h2
  cases b <;> simp [behindInMarks, e1, e2]
theorem pe_cmpR {op : CmpOp} {r : R2} (ho : OpR X (compareOp op) r) (ha : PE X a ta) (hb : PE X b tb) (hm : behindInMarks op b = false) : PE X (.Compare a [op] [b] pos) (tOp r ta tb) := by
  intro pins s σ H Q I h
  exact wpAny_Compare1 (binT ha hb I h fun v u s2 x y H2 I2 rx ry q => ho pins s2 σ H2 x y v u Q I2 rx ry q) hm
def tTest (t : TE) : TT := fun σ H Q => t σ H fun x H' => ∃ k, x = .bl k ∧ Q k H'
theorem pt_cmpR {op : CmpOp} {r : R2} (ho : OpR X (compareOp op) r) (ha : PE X a ta) (hb : PE X b tb) (hm : behindInMarks op b = false) : PT X (.Compare a [op] [b] pos) (tTest (tOp r ta tb)) := by
  intro pins s σ H Q I h
  refine wpAny_isTrue_Compare1 (thn (ha pins s σ H _ I h) fun v s1 ⟨x, H1, I1, r1, q1⟩ => thn (hb pins s1 σ H1 _ I1 q1) fun u s2 ⟨y, H2, I2, r2, q2⟩ =>
    thn (ho pins s2 σ H2 x y v u _ I2 r1 r2 q2) fun c s3 ⟨z, H3, I3, r3, k, e, q3⟩ => ?_) hm
  subst e
  cases r3
  exact wpAny_truthy_bool ⟨H3, I3, q3⟩
theorem line63 : (sizeLine : Nat) < 2 ^ 63 := by rw [sizeLine_eq]; decide
theorem op_add_str : OpR X (binaryOp .Add) (fun x y H Q => ∃ i j, x = .str i ∧ y = .str j ∧ i.length + j.length ≤ sizeLine ∧ Q (.str (i ++ j)) H) := by
  intro pins s σ H x y v u Q I rx ry h
  obtain ⟨i, j, rfl, rfl, hz, q⟩ := h
  obtain ⟨t, rfl⟩ := rx
  obtain ⟨t', rfl⟩ := ry
  exact add_str (fun t' tk => ⟨.str (i ++ j), H, I.tok _, ⟨_, rfl⟩, q⟩) hz
theorem vals1 {x : V} {us : List Value} (r : Vals [x] us) : ∃ u, us = [u] ∧ RelV x u := by
  cases r with
  | cons r1 r2 => cases r2; exact ⟨_, rfl, r1⟩
theorem vals2 {x y : V} {us : List Value} (r : Vals [x, y] us) : ∃ u w', us = [u, w'] ∧ RelV x u ∧ RelV y w' := by
  cases r with
  | cons r1 r2 =>
    cases r2 with
    | cons r3 r4 => cases r4; exact ⟨_, _, rfl, r1, r3⟩
theorem call_abs : CallR X (.builtin "abs") (fun xs H Q => ∃ i, xs = [.int i] ∧ Q (.int (if i < 0 then -i else i)) H) := by
  intro pins s σ H xs us Q I r h
  obtain ⟨i, rfl, q⟩ := h
  obtain ⟨u, rfl, t, rfl⟩ := vals1 r
  exact call_abs_int fun u tk => ⟨.int (if i < 0 then -i else i), H, I.tok _, ⟨_, rfl⟩, q⟩
theorem call_max2 (hc : X.calm = true) : CallR X (.builtin "max") (fun xs H Q => ∃ i j, xs = [.int i, .int j] ∧ Q (.int (if j > i then j else i)) H) := by
  intro pins s σ H xs us Q I r h
  obtain ⟨i, j, rfl, q⟩ := h
  obtain ⟨u, w', rfl, ⟨t, rfl⟩, ⟨t', rfl⟩⟩ := vals2 r
  refine max_two_ints (I.ok.hd hc) fun h' tk k => ⟨_, H, I.kept k, ?_, q⟩
  by_cases hj : j > i
  · rw [if_pos hj, if_pos hj]; exact ⟨_, rfl⟩
  · rw [if_neg hj, if_neg hj]; exact ⟨_, rfl⟩
theorem call_min2 (hc : X.calm = true) : CallR X (.builtin "min") (fun xs H Q => ∃ i j, xs = [.int i, .int j] ∧ Q (.int (if j < i then j else i)) H) := by
  intro pins s σ H xs us Q I r h
  obtain ⟨i, j, rfl, q⟩ := h
  obtain ⟨u, w', rfl, ⟨t, rfl⟩, ⟨t', rfl⟩⟩ := vals2 r
  refine min_two_ints (I.ok.hd hc) fun h' tk k => ⟨_, H, I.kept k, ?_, q⟩
  by_cases hj : j < i
  · rw [if_pos hj, if_pos hj]; exact ⟨_, rfl⟩
  · rw [if_neg hj, if_neg hj]; exact ⟨_, rfl⟩
theorem call_int1 : CallR X (.type "int") (fun xs H Q => (∃ i, xs = [.int i] ∧ Q (.int i) H) ∨ ∃ k, xs = [.bl k] ∧ Q (.int (if k then 1 else 0)) H) := by
  intro pins s σ H xs us Q I r h
  rcases h with ⟨i, rfl, q⟩ | ⟨k, rfl, q⟩
  · obtain ⟨u, rfl, t, rfl⟩ := vals1 r
    exact call_int_int ⟨.int i, H, I, ⟨_, rfl⟩, q⟩
  · obtain ⟨u, rfl, r1⟩ := vals1 r
    cases r1
    exact call_int_bool ⟨.int (if k then 1 else 0), H, I.tok _, ⟨_, rfl⟩, q⟩
end
end L2
namespace L2
open PySem PySem.Spec PyProof.Rows
structure ObjM (h : Heap) (x dx C : Addr) (mA : Str → Option Value) : Prop where
  obj : h.get? x = some (PySem.W.instObj C dx)
  ns : h.Ns1 dx mA
  ne : dx ≠ x
theorem lookIn_ns {h : Heap} {dx : Addr} {mA : Str → Option Value} (n : h.Ns1 dx mA) : ∃ od, h.get? dx = some od ∧ ∀ name, PySem.W.lookIn name od = some (mA name) := by
  obtain ⟨o, es, ep, ho, hd, hk, _, hm⟩ := n
  refine ⟨o, ho, fun name => ?_⟩
  have e := hm name
  unfold nsFind findBy at e
  rw [← Array.find?_toList] at e
  unfold PySem.W.lookIn
  rw [hd]
  dsimp only
  split
  · rename_i y q
    rw [q] at e
    exact congrArg some e
  · rename_i q
    rw [q] at e
    have a : es.toList.any (·.refKey) = false := by
      rw [List.any_eq_false]
      intro y hy
      obtain ⟨z, t, hkey⟩ := hk y (Array.mem_toList_iff.mp hy)
      simp [DictEntry.refKey, hkey]
    have a' : ¬ es.toList.any (·.refKey) = true := by rw [a]; exact Bool.false_ne_true
    rw [if_neg a']
    exact congrArg some e
theorem ObjM.look {h : Heap} {x dx C : Addr} {mA : Str → Option Value} (I : ObjM h x dx C mA) : ∃ od, PySem.W.InstAt h x (PySem.W.instObj C dx) C (some od) ∧ ∀ name, PySem.W.lookIn name od = some (mA name) :=
  let ⟨od, ho, hl⟩ := lookIn_ns I.ns
  ⟨od, ⟨I.obj, rfl, rfl, ho⟩, hl⟩
section
variable {prog : Program} {w : World} {A : Around} {E : Value → Shared → Prop} {s : Shared} {K : PySem.W.Frag} {x dx C f : Addr} {mA : Str → Option Value} {name : Str} {v : Value}
end
theorem RelO.some_of {v : V} {o : Option Value} (r : RelO (some v) o) : ∃ u, o = some u ∧ RelV v u := by
  cases o with
  | none => exact (show False from r).elim
  | some u => exact ⟨u, rfl, r⟩
section
variable {P : Program} {w : World} {H H' : Hp} {h h' : Heap} {a C dx : Addr} {fs fs' : List (Str × V)}
theorem ins_get (hok : HOk P w H h) (e : H a = some (.ins C dx fs)) : ∃ mA, ObjM h a dx C mA ∧ (∀ f, RelO (fs.lookup f) (mA f)) ∧ PySem.Within mA (fs.map (·.1)) ∧ fs.length ≤ 1000 ∧ H dx = some (.own a) := by
  obtain ⟨d, z, ne, ob, mA, n, r, q⟩ := (show ObjOk P w H h a (.ins C dx fs) from hok a _ e)
  exact ⟨mA, ⟨ob, n, ne⟩, r, q, z, d⟩
end
structure Cls (K : PySem.W.Frag) (C : Addr) : Prop where
  pg : PySem.W.plainGet K C Str.empty = true
  hd : PySem.W.hasDictIn K C = true
  po : PySem.W.plainOver K C = true
  sa : PySem.W.findIn K (.ref C) "__setattr__" = some (some (.builtin "object.__setattr__"))
theorem Cls.get {K : PySem.W.Frag} {C : Addr} (c : Cls K C) (f : Str) : PySem.W.plainGet K C f = true := c.pg
section
variable {X : Cx} {pins : List (Addr × Obj)} {σ : St} {H : Hp} {s : Shared} {a C dx : Addr} {fs : List (Str × V)} {f : Str} {v : V} {A : Around} {E : Value → Shared → Prop}
end
def InOp (X : Cx) (op : Operator) (rd : V → V → Hp → VK → Prop) : Prop :=
  ∀ (pins : List (Addr × Obj)) (s : Shared) (σ : St) (H : Hp) (x y : V) (u v : Value) (Q : VK), Inv X pins σ H s → RelV x u → RelV y v → rd x y H Q → wpAny (model X.prog X.w) X.A (inplaceOp op u v) (EP X pins σ Q) X.xe s
section
variable {X : Cx} {o e value : Expr} {f : Str} {pos pos' tpos : Pos} {ta tv : TE}
def rAdd : V → V → Hp → VK → Prop := fun x y H Q => ∃ i j, x = .int i ∧ y = .int j ∧ Q (.int (i + j)) H
theorem in_add : InOp X .Add rAdd := by
  rintro pins s σ H x y u v Q I rx ry ⟨i, j, rfl, rfl, q⟩
  obtain ⟨t, rfl⟩ := (show ∃ t, u = Value.int i t from rx)
  obtain ⟨t', rfl⟩ := (show ∃ t', v = Value.int j t' from ry)
  exact PyProof.Rows.iadd_int ⟨.int (i + j), H, I.tok _, ⟨_, rfl⟩, q⟩
end
section
variable {X : Cx} {pins : List (Addr × Obj)} {σ : St} {H : Hp} {s : Shared} {A : Around} {E : Value → Shared → Prop} {Q : Value → Shared → Prop} {c : Value} {b : Bool}
inductive TyOf (K : PySem.W.Frag) (H : Hp) : V → Value → Prop where
  | non : TyOf K H .non (.type "NoneType")
  | bl (x : Bool) : TyOf K H (.bl x) (.type "bool")
  | int (i : Int) : TyOf K H (.int i) (.type "int")
  | str (x : Str) : TyOf K H (.str x) (.type "str")
  | flt (x : UInt64) : TyOf K H (.flt x) (.type "float")
  | lst {a : Addr} {xs : List V} (e : H a = some (.lst xs)) : TyOf K H (.ref a) (.type "list")
  | frz {a : Addr} {o : Obj} {xs : List V} (e : H a = some (.frz o (.lst xs))) : TyOf K H (.ref a) (.type "list")
  | tup {a : Addr} {xs : List V} (e : H a = some (.tup xs)) : TyOf K H (.ref a) (.type "tuple")
  | dK {a : Addr} {kvs : List (Key × V)} (e : H a = some (.dK kvs)) : TyOf K H (.ref a) (.type "dict")
  | dT {a : Addr} {kvs : List (List Key × V)} (e : H a = some (.dT kvs)) : TyOf K H (.ref a) (.type "dict")
  | ins {a C dx : Addr} {fs : List (Str × V)} (e : H a = some (.ins C dx fs)) (cl : Cls K C) (ha : PySem.W.findIn K (.ref C) "__class__" = some (some (.builtin "object.__class__")))
      (hn : PySem.W.specialIn K (.builtin "object.__class__") "__get__" = some (some (.builtin "getset_descriptor.__get__"))) (htk : PySem.W.takesIn K (.builtin "object.__class__") = some true)
      (hm : PySem.W.mroIn K C (.type "object") = some true) : TyOf K H (.ref a) (.ref C)
end
end L2
namespace L2
open PySem PySem.Spec PyProof.Rows
structure Room (k : Nat) (A : Around) : Prop where
  hd : A.handled = none
  dp : A.depth + 3 * k + 5 < recursionLimit
  un : A.units + 16 * k + 200 < cLine
theorem Room.mono {j k : Nat} {A : Around} (r : Room k A) (h : j ≤ k) : Room j A := ⟨r.hd, by have := r.dp; omega, by have := r.un; omega⟩
theorem Room.deeper {k : Nat} {A : Around} (r : Room (k + 1) A) (env : Env) : Room k (A.deeper env) :=
  ⟨r.hd, by have := r.dp; show A.depth + 1 + 3 * k + 5 < _; omega, by have := r.un; show A.units + 3 + 16 * k + 200 < _; omega⟩
theorem Room.depth {k : Nat} {A : Around} (r : Room k A) : A.depth < recursionLimit := by have := r.dp; omega
def tNil : TA := fun _ H Q => Q [] H
def tCons (ta : TE) (tr : TA) : TA := fun σ H Q => ta σ H fun x H1 => tr σ H1 fun xs H2 => Q (x :: xs) H2
section
variable {X : Cx} {e : Expr} {es : List Expr} {te : TE} {t : TA} {pos : Pos}
theorem pa_nil : PA X [] tNil := fun _ _ _ _ H Q I h => Calls.spliced_nil ⟨[], H, I, .nil, h⟩
theorem pa_cons (ha : PE X e te) (hr : PA X es t) (hs : starEach (e :: es) X.env = (false, eval e X.env) :: starEach es X.env := by rfl) : PA X (e :: es) (tCons te t) := by
  intro pos pins s σ H Q I h
  rw [hs]
  show wpAny _ _ (spliced ((false, eval e X.env) :: backTo pos (starEach es X.env))) _ _ s
  refine Calls.spliced_cons (thn (ha pins s σ H _ I h) fun u s1 ⟨x, H1, I1, r1, q1⟩ => ?_)
  exact thn (hr pos pins s1 σ H1 _ I1 q1) fun us s2 ⟨xs, H2, I2, r2, q2⟩ => ⟨x :: xs, H2, I2, .cons r1 r2, q2⟩
def tTup (t : TA) : TE := fun σ H Q => t σ H fun xs H1 => xs.length ≤ sizeLine ∧ ∀ p, H1 p = none → Q (.ref p) (upd H1 p (.tup xs))
def tLst (t : TA) : TE := fun σ H Q => t σ H fun xs H1 => xs.length ≤ sizeLine ∧ ∀ p, H1 p = none → Q (.ref p) (upd H1 p (.lst xs))
theorem pe_tup {x1} (h : PA X es t) : PE X (.Tuple es x1 pos) (tTup t) := by
  intro pins s σ H Q I hq
  refine wpAny_Tuple_spliced (thn (h pos pins s σ H _ I hq) fun us s1 ⟨xs, H1, I1, r, z, q⟩ => ⟨by rw [← r.length]; exact z, ?_⟩)
  have hf : H1 s1.heap.objs.size = none := I1.hok.fresh (Nat.le_refl _)
  refine ⟨.ref s1.heap.objs.size, upd H1 s1.heap.objs.size (.tup xs), I1.laid (t' := s1.toks) (fun b u e => Heap.get?_push_of_some _ e) (Nat.le_refl _) ?_, rfl, q _ hf⟩
  exact ⟨z, us, r, ⟨_, Heap.get?_push_size _ rfl, rfl, _, rfl⟩⟩
theorem pe_lst (h : PA X es t) : PE X (.List es pos) (tLst t) := by
  intro pins s σ H Q I hq
  refine wpAny_List_spliced (thn (h pos pins s σ H _ I hq) fun us s1 ⟨xs, H1, I1, r, z, q⟩ => ⟨by rw [← r.length]; exact z, ?_⟩)
  have hf : H1 s1.heap.objs.size = none := I1.hok.fresh (Nat.le_refl _)
  refine ⟨.ref s1.heap.objs.size, upd H1 s1.heap.objs.size (.lst xs), I1.laid (t' := s1.toks) (fun b u e => Heap.get?_push_of_some _ e) (Nat.le_refl _) ?_, rfl, q _ hf⟩
  exact ⟨z, us, 0, r, Heap.get?_push_size _ rfl⟩
end
abbrev Sp := List V → Hp → VK → XK → Prop
abbrev CXT := List Env → Hp → Shared → XK → Value → Shared → Prop
structure Env0 (P : Program) (w : World) (K : PySem.W.Frag) (mg : Str → Option Value) (base : Heap) (A : Around) (outer : List Env) (s : Shared) (H : Hp) : Prop where
  frames : A.frames = some outer
  mod : Mod K mg base
  bs : ∀ b o, base.get? b = some o → s.heap.get? b = some o ∧ H b = none
  bsz : base.objs.size ≤ s.heap.objs.size
  funs : s.heap.FunFrames base outer
  frf : ∀ b ∈ frs outer, H b = none
  hok : HOk P w H s.heap
  bare : AllBare s.gens
def CE (outer : List Env) (P : Program) (w : World) (H : Hp) (s : Shared) (Q : VK) (u : Value) (s' : Shared) : Prop :=
  ∃ v H', s'.os = s.os ∧ AllBare s'.gens ∧ Un (frs outer) [] H H' s.heap s'.heap ∧ HOk P w H' s'.heap ∧ RelV v u ∧ Q v H'
def CR (CX : CXT) (outer : List Env) (P : Program) (w : World) (H : Hp) (s : Shared) (Q : VK) (E : XK) (r : Result) (s' : Shared) : Prop :=
  match r with
  | .ok (.ret u) => CE outer P w H s Q u s'
  | .ok _ => False
  | .error e => CX outer H s E e s'
structure FnOk (P : Program) (w : World) (K : PySem.W.Frag) (mg : Str → Option Value) (base : Heap) (CX : CXT) (k : Nat) (f : Addr) (fd : FuncData) (ps : List Str) (sp : Sp) : Prop where
  len : ∀ vs H Q E, sp vs H Q E → vs.length = ps.length
  run : ∀ (A : Around) (outer : List Env) (s : Shared) (H : Hp) (args : Args) (us : List Value) (vs : List V) (Q : VK) (E : XK), Room k A → Env0 P w K mg base A outer s H → BindsTo s fd args (ps.zip us) → Vals vs us → sp vs H Q E →
    codeAny (model P w) A (.call (.ref f) args) (CR CX outer P w H s Q E) s
section
variable {X : Cx} {pins : List (Addr × Obj)} {σ : St} {H : Hp} {s s' : Shared}
theorem Inv.env0 (I : Inv X pins σ H s) : Env0 X.prog X.w X.K X.mg X.base X.A X.stack s H :=
  ⟨I.ok.frames, I.ok.mod, I.bs, Nat.le_trans I.ok.bsz I.sz, I.stack, I.stkFree, I.hok, I.bare⟩
theorem Inv.after {Q : VK} {u : Value} (I : Inv X pins σ H s) (h : CE X.stack X.prog X.w H s Q u s') : EP X pins σ Q u s' := by
  obtain ⟨v, H', os, bare, un, hok, r, q⟩ := h
  obtain ⟨hh, g, d, t, os'⟩ := s'
  obtain rfl : os' = s.os := os
  exact ⟨v, H', I.call (h' := hh) (g' := g) (d' := d) (t' := t) (ch := []) un hok bare (fun b z => absurd z (by simp)), r, q⟩
end
def tCall (sp : Sp) (dvs : List V) (E : XK) (t : TA) : TE := fun σ H Q => t σ H fun vs H1 => sp (vs ++ dvs) H1 Q E
def Binds (K : PySem.W.Frag) (fd : FuncData) (ps : List Str) (ds : List Value) : Prop :=
  ∀ (s : Shared) (us : List Value), K.In s.heap → (us ++ ds).length = ps.length → BindsTo s fd ⟨us, []⟩ (ps.zip (us ++ ds))
theorem Binds.all {K : PySem.W.Frag} {fd : FuncData} {ps : List Str} (h : ∀ us : List Value, us.length = ps.length → bindArgs fd ⟨us, []⟩ = pure (ps.zip us)) : Binds K fd ps [] := fun s us _ hl => by
  rw [List.append_nil] at hl ⊢
  exact .of_eq (h us hl)
def Passes (CX : CXT) (X : Cx) (E : XK) : Prop := ∀ (pins : List (Addr × Obj)) (σ : St) (H : Hp) (s : Shared) (e : Value) (s' : Shared), Inv X pins σ H s → CX X.stack H s E e s' → X.xe e s'
section
variable {X : Cx} {CX : CXT} {k : Nat} {f C : Addr} {fd : FuncData} {ps : List Str} {sp : Sp} {dvs : List V} {ds : List Value} {E : XK} {x m : Str} {p pos apos : Pos} {e o : Expr} {es : List Expr} {ta : TE} {t : TA}
theorem run_fn {pins : List (Addr × Obj)} {σ : St} {H : Hp} {s : Shared} {Q : VK} {us : List Value} {vs : List V} (F : FnOk X.prog X.w X.K X.mg X.base CX k f fd ps sp) (hr : Room k X.A) (hb : Binds X.K fd ps ds) (hd : Vals dvs ds) (hx : Passes CX X E)
    (I : Inv X pins σ H s) (r : Vals vs us) (h : sp (vs ++ dvs) H Q E) : wpAny (model X.prog X.w) X.A (call (.ref f) us) (EP X pins σ Q) X.xe s := by
  have r2 : Vals (vs ++ dvs) (us ++ ds) := r.append hd
  have hl : (us ++ ds).length = ps.length := by rw [← r2.length]; exact F.len _ _ _ _ h
  refine wpAny_call (codeAny_mono (F.run X.A X.stack s H ⟨us, []⟩ (us ++ ds) (vs ++ dvs) Q E hr I.env0 (hb s us I.kIn hl) r2 h) fun r s' hq => ?_)
  cases r with
  | error e => exact hx pins σ H s e s' I hq
  | ok fl =>
    cases fl with
    | ret u => exact I.after hq
    | next => exact False.elim hq
    | brk => exact False.elim hq
    | cont => exact False.elim hq
theorem pe_call (F : FnOk X.prog X.w X.K X.mg X.base CX k f fd ps sp) (hr : Room k X.A) (hg : Gl X x) (hm : X.mg x = some (.ref f)) (hk : PySem.W.keepIn X.K (.ref f) = true) (hb : Binds X.K fd ps ds) (hd : Vals dvs ds) (hx : Passes CX X E)
    (ha : PA X (e :: es) t) (hdb : (x == ("__debug__" : Str)) = false := by decide) (he : starEach (e :: es) X.env = (false, eval e X.env) :: starEach es X.env := by rfl) (hpl : (backTo pos (starEach es X.env)).any (·.1) = false := by rfl) :
    PE X (.Call (.Name x p) (e :: es) [] pos) (tCall sp dvs E t) := by
  intro pins s σ H Q I h
  refine wpAny_Call_Name_kw (ld_glob I hg hm ?_ hdb)
  refine PySem.W.callWith_K (h₀ := X.base) I.ok.mod.kin hk (thn (ha pos pins s σ H _ I h) fun us s1 ⟨vs, H1, I1, r, q⟩ => ⟨I1.kIn, ?_⟩) he hpl
  exact run_fn F hr hb hd hx I1 r q
end
section
variable {X : Cx} {CX : CXT} {k : Nat} {f C : Addr} {fd : FuncData} {ps ks : List Str} {sp : Sp} {E : XK} {x m : Str} {p pos apos kpos : Pos} {e o : Expr} {es : List Expr} {kws : List Keyword} {te ta : TE} {t tk : TA} {nm : Option Str}
variable {g : List Value → List Value → List Value} {gV : List V → List V → List V}
end
structure FnScope (N P : List Str) (sc : Scope) : Prop where
  kind : sc.kind = .function
  co : sc.isCoroutine = false
  gen : sc.isGenerator = false
  nd : N.Nodup
  pre : N.take P.length = P
  par : ∀ x ∈ P, sc.names.lookup x = some .local ∨ sc.names.lookup x = some .cell
  nofree : ∀ y ∈ sc.names, y.2 ≠ .free
theorem bindL_out {kindOf : Str → Option NameKind} {x : Str} : ∀ {binds : List (Str × Value)} {m : Str → Option Value}, (∀ v, (x, v) ∉ binds) → bindL kindOf binds m x = m x
  | [], _, _ => rfl
  | (n, v) :: r, m, h => by
    unfold bindL
    rw [bindL_out fun w hw => h w (List.mem_cons_of_mem _ hw)]
    split
    · have : x ≠ n := by rintro rfl; exact h v List.mem_cons_self
      simp [this]
    · rfl
theorem bindC_out {kindOf : Str → Option NameKind} {x : Str} : ∀ {binds : List (Str × Value)} {m : Str → Option Value}, (∀ v, (x, v) ∉ binds) → bindC kindOf binds m x = m x
  | [], _, _ => rfl
  | (n, v) :: r, m, h => by
    unfold bindC
    rw [bindC_out fun w hw => h w (List.mem_cons_of_mem _ hw)]
    split
    · rfl
    · have : x ≠ n := by rintro rfl; exact h v List.mem_cons_self
      simp [this]
theorem bindL_get {kindOf : Str → Option NameKind} {x : Str} {v : Value} : ∀ {P : List Str} {vs : List Value} {i : Nat} {m : Str → Option Value}, P.Nodup → P[i]? = some x → vs[i]? = some v → kindOf x = some .local →
    bindL kindOf (P.zip vs) m x = some v
  | [], _, _, _, _, h, _, _ => by simp at h
  | _ :: _, [], _, _, _, _, h, _ => by simp at h
  | p :: P, w :: vs, 0, m, nd, h1, h2, hk => by
    simp at h1 h2; subst h1; subst h2
    show bindL kindOf ((p, w) :: P.zip vs) m p = _
    unfold bindL
    rw [bindL_out fun v hv => (List.nodup_cons.mp nd).1 (List.of_mem_zip hv).1, if_pos hk]
    simp
  | p :: P, w :: vs, i + 1, m, nd, h1, h2, hk => by
    show bindL kindOf ((p, w) :: P.zip vs) m x = _
    unfold bindL
    exact bindL_get (i := i) (List.nodup_cons.mp nd).2 (by simpa using h1) (by simpa using h2) hk
theorem bindC_get {kindOf : Str → Option NameKind} {x : Str} {v : Value} : ∀ {P : List Str} {vs : List Value} {i : Nat} {m : Str → Option Value}, P.Nodup → P[i]? = some x → vs[i]? = some v → kindOf x ≠ some .local →
    bindC kindOf (P.zip vs) m x = some v
  | [], _, _, _, _, h, _, _ => by simp at h
  | _ :: _, [], _, _, _, _, h, _ => by simp at h
  | p :: P, w :: vs, 0, m, nd, h1, h2, hk => by
    simp at h1 h2; subst h1; subst h2
    show bindC kindOf ((p, w) :: P.zip vs) m p = _
    unfold bindC
    rw [bindC_out fun v hv => (List.nodup_cons.mp nd).1 (List.of_mem_zip hv).1, if_neg hk]
    simp
  | p :: P, w :: vs, i + 1, m, nd, h1, h2, hk => by
    show bindC kindOf ((p, w) :: P.zip vs) m x = _
    unfold bindC
    exact bindC_get (i := i) (List.nodup_cons.mp nd).2 (by simpa using h1) (by simpa using h2) hk
def start (N : List Str) (vs : List V) : St := vs.map some ++ List.replicate (N.length - vs.length) none
def cxOf (CX : CXT) (P : Program) (w : World) (K : PySem.W.Frag) (mg : Str → Option Value) (base : Heap) (N : List Str) (qual : Str) (scope : Scope) (f : Addr) (cd : Value) (A : Around) (outer : List Env) (s : Shared) (H : Hp) (E : XK) : Cx where
  prog := P
  w := w
  K := K
  mg := mg
  base := base
  A := A.deeper (envOfC qual scope s.heap.objs.size f cd)
  N := N
  s₀ := s
  H₀ := H
  env := envOfC qual scope s.heap.objs.size f cd
  outer := outer
  stack := envOfC qual scope s.heap.objs.size f cd :: outer
  ex := []
  calm := true
  fn := fun _ => true
  pn := []
  xe := fun e s' => wpAny (model P w) (A.deeper (envOfC qual scope s.heap.objs.size f cd)) (leaving (envOfC qual scope s.heap.objs.size f cd) e) (fun _ s'' => CX outer H s E e s'') (fun e' s'' => CX outer H s E e' s'') s'
theorem cell_has {sc : Scope} {n : Nat} {x : Str} (h : sc.names.lookup x = some .cell) : ∃ c, (cellsFrom n sc.names []).lookup x = some c := by
  have q := PySem.W.cellsFrom_some sc.names n [] (.inl h)
  exact Option.isSome_iff_exists.mp q
theorem inv_start {CX : CXT} {P : Program} {w : World} {K : PySem.W.Frag} {mg : Str → Option Value} {base : Heap} {N ps : List Str} {qual : Str} {scope : Scope} {f : Addr} {cd : Value} {A : Around} {outer : List Env} {s s1 : Shared} {H : Hp} {E : XK} {us : List Value} {vs : List V}
    (S : FnScope N ps scope) (hd : A.handled = none) (e0 : Env0 P w K mg base A outer s H) (hl : vs.length = ps.length) (r : Vals vs us)
    (x : InCallC s s.heap.objs.size (bindL (envOfC qual scope s.heap.objs.size f cd).kindOf (ps.zip us) fun _ => none) (cellsFrom (s.heap.objs.size + 1) scope.names []) (bindC (envOfC qual scope s.heap.objs.size f cd).kindOf (ps.zip us) fun _ => none) s1) :
    Inv (cxOf CX P w K mg base N qual scope f cd A outer s H E) [] (start N vs) H s1 := by
  have hpl : ps.length ≤ N.length := by have := congrArg List.length S.pre; rw [List.length_take] at this; omega
  obtain ⟨h1, tk, rfl, hk⟩ := x.done
  have noA : ∀ b : Addr, b ∉ (cxOf CX P w K mg base N qual scope f cd A outer s H E).ex := fun b z => absurd (show b ∈ ([] : List Addr) from z) (by simp)
  refine ⟨⟨e0.mod, S.kind, rfl, rfl, Nat.le_refl _, fun y z c h1 h2 => ?_, fun y hy => ?_, fun y c _ h => ?_, fun _ => hd, Around.frames_deeper e0.frames, .inr ⟨rfl, rfl⟩, fun b z => absurd z (noA b), e0.bs, e0.bsz, fun b _ _ => noA b, fun b z => absurd z (noA b), e0.funs, e0.frf⟩,
    rfl, e0.bare, Un.kept hk, ⟨_, x.toInCall.ns, fun i y v h1 h2 h3 => ?_⟩, fun y c h => ⟨_, x.cell y c h⟩, e0.hok.fresh (Nat.le_refl _), fun y c h => ?_, fun p hp => absurd (show p ∈ ([] : List (Addr × Obj)) from hp) (by simp), e0.hok.kept hk, ?_⟩
  · exact name_of_addr x.apart (PySem.mem_of_lookup h1) (PySem.mem_of_lookup h2)
  · have hy : scope.names.lookup y = some .cell ∨ scope.names.lookup y = some .free := hy
    rcases hy with hy | hy
    · exact cell_has hy
    · exact absurd rfl (S.nofree _ (PySem.mem_of_lookup hy))
  · exact Nat.le_of_lt (x.above y c (PySem.mem_of_lookup h))
  · have hi : i < vs.length := by
      unfold start at h2
      by_cases hi : i < vs.length
      · exact hi
      · rw [List.getElem?_append_right (by simpa using hi)] at h2
        rw [List.getElem?_replicate] at h2
        split at h2 <;> cases h2
    have ha : vs[i]? = some v := by
      unfold start at h2
      rw [List.getElem?_append_left (by simpa using hi), List.getElem?_map] at h2
      cases e : vs[i]? with
      | none => rw [e] at h2; cases h2
      | some a => rw [e] at h2; cases h2; rfl
    obtain ⟨u, hu, rv⟩ := r.get ha
    have hp : ps[i]? = some y := by
      rw [← S.pre, List.getElem?_take_of_lt (by omega)]; exact h1
    have ndP : ps.Nodup := by rw [← S.pre]; exact S.nd.sublist (List.take_sublist _ _)
    refine ⟨u, rv, ?_⟩
    rcases S.par y (List.mem_of_getElem? hp) with k | k
    · exact .inl ⟨k, bindL_get ndP hp hu k⟩
    · obtain ⟨c, e⟩ := cell_has (n := s.heap.objs.size + 1) k
      refine .inr ⟨.inl k, c, e, ?_⟩
      have q := x.cell y c e
      rw [bindC_get ndP hp hu (by show scope.names.lookup y ≠ _; rw [k]; decide)] at q
      exact q
  · exact e0.hok.fresh (Nat.le_of_lt (x.above y c (PySem.mem_of_lookup h)))
  · unfold start
    show _ = N.length
    rw [List.length_append, List.length_map, List.length_replicate]
    omega
theorem fn_of {CX : CXT} {P : Program} {w : World} {K : PySem.W.Frag} {mg : Str → Option Value} {base : Heap} {k : Nat} {f : Addr} {name qual : Str} {params : Arguments} {body : List Stmt} {scope : Scope} {dV kV doc pm cdv ct oc : Value} {an od : Option Addr}
    {osl : Array (Option Value)} {N ps : List Str} {sp : Sp} (lk : K.lookup f = some ⟨oc, od, .func (PySem.W.fnOf name qual params body scope dV kV doc pm an cdv ct), osl⟩) (hcd : PySem.W.codeIn K cdv qual = true) (S : FnScope N ps scope)
    (len : ∀ vs H Q E, sp vs H Q E → vs.length = ps.length)
    (hbody : ∀ (A : Around) (outer : List Env) (s : Shared) (H : Hp) (vs : List V) (Q : VK) (E : XK), Room k (A.deeper (envOfC qual scope s.heap.objs.size f cdv)) → sp vs H Q E →
      ∃ t, PSs (cxOf CX P w K mg base N qual scope f cdv A outer s H E) body t ∧ t { nx := fun _ H' => Q .non H', rt := Q } (start N vs) H) :
    FnOk P w K mg base CX (k + 1) f (PySem.W.fnOf name qual params body scope dV kV doc pm an cdv ct) ps sp := by
  refine ⟨len, fun A outer s H args us vs Q E hr e0 hb r hsp => ?_⟩
  have hl := len _ _ _ _ hsp
  have KX : K.In s.heap := e0.mod.kin.keeps fun b o e => (e0.bs b o e).1
  have lim : s.heap.NoLimit := e0.mod.nolimit.keeps fun b o e => (e0.bs b o e).1
  have hkind : ∀ y ∈ ps.zip us, scope.names.lookup y.1 = some .local ∨ (scope.names.lookup y.1 = some .cell ∧ ((cellsFrom (s.heap.objs.size + 1) scope.names []).lookup y.1).isSome = true) := fun ⟨n, v⟩ hy => by
    rcases S.par n (List.of_mem_zip hy).1 with q | q
    · exact .inl q
    · exact .inr ⟨q, PySem.W.cellsFrom_some _ _ _ (.inl q)⟩
  refine codeAny_call_function hr.depth (KX _ _ lk) rfl S.co S.gen rfl (PySem.W.codeRec_of KX hcd) (hb _ _ _ _ ?_)
  refine wpAny_newFunctionEnv_cells S.kind hkind fun env he s1 x => ?_
  subst he
  refine ⟨lim.keeps x.toInCall.keep, codeAny_func ?_⟩
  obtain ⟨t, ht, hq⟩ := hbody A outer s H vs Q E (hr.deeper _) hsp
  have I : Inv (cxOf CX P w K mg base N qual scope f cdv A outer s H E) [] (start N vs) H s1 := inv_start S hr.hd e0 hl r x
  refine wpAny_mono (ht [] s1 (start N vs) H _ I hq) (fun fl s' hs => ?_) fun e s' hs => hs
  have fin : ∀ {σ' : St} {H' : Hp} {v : V} {u : Value}, Inv (cxOf CX P w K mg base N qual scope f cdv A outer s H E) [] σ' H' s' → RelV v u → Q v H' → CE outer P w H s Q u s' :=
    fun {σ' H' v u} J rv q => ⟨v, H', J.os, J.bare, J.base, J.hok, rv, q⟩
  cases fl with
  | ret u =>
    obtain ⟨v, σ', H', J, rv, q⟩ := hs
    exact fin J rv q
  | next =>
    obtain ⟨σ', H', J, q⟩ := hs
    exact fin (v := V.non) (u := Value.none) J rfl q
  | brk =>
    obtain ⟨_, _, _, q⟩ := hs
    exact False.elim q
  | cont =>
    obtain ⟨_, _, _, q⟩ := hs
    exact False.elim q
end L2
namespace L2
open PySem PySem.Spec PyProof.Rows
section
variable {X : Cx} {x : Str} {p pos : Pos} {e : Expr} {es : List Expr} {t : TA} {id T : String} {r : List V → Hp → VK → Prop}
def tCB (r : List V → Hp → VK → Prop) (t : TA) : TE := fun σ H Q => t σ H fun vs H1 => r vs H1 Q
theorem pe_callB (hc : CallR X (.builtin id) r) (hg : Gl X x) (hm : X.mg x = none) (hv : bootBuiltins x = some (.builtin id)) (ha : PA X (e :: es) t) (hn : x ≠ "__name__" := by decide) (hdb : (x == ("__debug__" : Str)) = false := by decide)
    (he : starEach (e :: es) X.env = (false, eval e X.env) :: starEach es X.env := by rfl) (hpl : (backTo pos (starEach es X.env)).any (·.1) = false := by rfl) : PE X (.Call (.Name x p) (e :: es) [] pos) (tCB r t) := by
  intro pins s σ H Q I h
  refine wpAny_Call_Name_kw (ld_blt I hg hm hv ?_ hn hdb)
  exact PyProof.Rows.callWith_builtin1 (thn (ha pos pins s σ H _ I h) fun us s1 ⟨vs, H1, I1, r1, q1⟩ => hc pins s1 σ H1 vs us Q I1 r1 q1) he hpl
theorem pe_callTy (hc : CallR X (.type T) r) (hg : Gl X x) (hm : X.mg x = none) (hv : bootBuiltins x = some (.type T)) (ha : PA X (e :: es) t) (hn : x ≠ "__name__" := by decide) (hdb : (x == ("__debug__" : Str)) = false := by decide)
    (he : starEach (e :: es) X.env = (false, eval e X.env) :: starEach es X.env := by rfl) (hpl : (backTo pos (starEach es X.env)).any (·.1) = false := by rfl) : PE X (.Call (.Name x p) (e :: es) [] pos) (tCB r t) := by
  intro pins s σ H Q I h
  refine wpAny_Call_Name_kw (ld_blt I hg hm hv ?_ hn hdb)
  exact PyProof.Rows.callWith_type1 (thn (ha pos pins s σ H _ I h) fun us s1 ⟨vs, H1, I1, r1, q1⟩ => hc pins s1 σ H1 vs us Q I1 r1 q1) he hpl
theorem pe_callTy0 (hc : CallR X (.type T) r) (hg : Gl X x) (hm : X.mg x = none) (hv : bootBuiltins x = some (.type T)) (hn : x ≠ "__name__" := by decide) (hdb : (x == ("__debug__" : Str)) = false := by decide) :
    PE X (.Call (.Name x p) [] [] pos) (tCB r tNil) := by
  intro pins s σ H Q I h
  refine wpAny_Call_Name_kw (ld_blt I hg hm hv ?_ hn hdb)
  exact PyProof.Rows.callWith_type0 (hc pins s σ H [] [] Q I .nil h)
end
end L2
namespace HT
open PySem PyProof.Rows
section
open PySem.SeqAt
open PySem.AutoSeq1 (wpAny_loadPart')
open PySem.MeetsSeq PySem.MeetsSeq2 PySem.MeetsSeq3
end
section
variable {prog : Program} {w : World} {A : Around} {E : Value → Shared → Prop} {s : Shared}
def sIx (n d : Nat) : Option Int → Nat
  | none => d
  | some v => if v < 0 then (v + (n : Int)).toNat else min v.toNat n
theorem sIx_nat (n d k : Nat) : sIx n d (some (k : Int)) = min k n := by
  show (if (k : Int) < 0 then ((k : Int) + (n : Int)).toNat else min (k : Int).toNat n) = min k n
  rw [if_neg (by omega), Int.toNat_natCast]
end
end HT
namespace L2
open PySem PySem.Spec PyProof.Rows
abbrev TO := St → Hp → (Option Int → Hp → Prop) → Prop
def PO (X : Cx) (e : Option Expr) (t : TO) : Prop :=
  ∀ (pins : List (Addr × Obj)) (s : Shared) (σ : St) (H : Hp) (Q : Option Int → Hp → Prop), Inv X pins σ H s → t σ H Q →
    wpAny (model X.prog X.w) X.A (evalPart e X.env) (fun u s' => ∃ o H', Inv X pins σ H' s' ∧ IsPart u o ∧ Q o H') X.xe s
def tNoPart : TO := fun _ H Q => Q none H
def tPart (t : TE) : TO := fun σ H Q => t σ H fun x H1 => ∃ i, x = .int i ∧ Q (some i) H1
section
variable {X : Cx} {e : Expr} {te : TE} {lo hi : Option Expr} {tl th : TO} {pos p2 : Pos}
theorem po_none : PO X none tNoPart := by
  intro pins s σ H Q I h
  rw [evalPart_none]
  exact wpAny_pure ⟨none, H, I, .none, h⟩
theorem po_some (h : PE X e te) : PO X (some e) (tPart te) := by
  intro pins s σ H Q I hw
  rw [evalPart_some]
  refine thn (h pins s σ H _ I hw) fun u s1 ⟨x, H1, I1, r1, q1⟩ => ?_
  obtain ⟨i, rfl, q⟩ := q1
  obtain ⟨t, rfl⟩ := r1
  exact ⟨some i, H1, I1, .int i t, q⟩
def SlR (X : Cx) (r : V → Option Int → Option Int → Hp → VK → Prop) : Prop :=
  ∀ (pins : List (Addr × Obj)) (s : Shared) (σ : St) (H : Hp) (x : V) (v vl vu : Value) (lo hi : Option Int) (sl : Addr) (Q : VK), Inv X pins σ H s → RelV x v → s.heap.IsSliceOf sl vl vu .none → IsPart vl lo → IsPart vu hi → r x lo hi H Q →
    ∃ T id, typeLookup (.type T) "__getitem__" = pure (some (.builtin id)) ∧ s.TypeIs v T ∧ wpAny (model X.prog X.w) X.A (getItem v (.ref sl)) (EP X pins σ Q) X.xe s
def tSl (r : V → Option Int → Option Int → Hp → VK → Prop) (te : TE) (tl th : TO) : TE := fun σ H Q => te σ H fun x H1 => tl σ H1 fun l H2 => th σ H2 fun u H3 => r x l u H3 Q
theorem pe_slice {r : V → Option Int → Option Int → Hp → VK → Prop} (hr : SlR X r) (he : PE X e te) (hl : PO X lo tl) (hu : PO X hi th) : PE X (.Subscript e (.Slice lo hi none p2) pos) (tSl r te tl th) := by
  intro pins s σ H Q I h
  refine Subscript_ (thn (he pins s σ H _ I h) fun v s1 ⟨x, H1, I1, r1, q1⟩ => ?_)
  refine wpAny_Slice (thn (hl pins s1 σ H1 _ I1 q1) fun vl s2 ⟨l, H2, I2, pl, q2⟩ => thn (hu pins s2 σ H2 _ I2 q2) fun vu s3 ⟨u, H3, I3, pu, q3⟩ => ?_)
  rw [evalPart_none]
  refine wpAny_pure ?_
  have I4 : Inv X pins σ H3 { s3 with heap := s3.heap.push { cls := .type "slice", data := .fields #[vl, vu, .none] } } := I3.kept (t' := s3.toks) fun b ob q => Heap.get?_push_of_some _ q
  obtain ⟨T, id, hT, ht, hg⟩ := hr pins { s3 with heap := s3.heap.push { cls := .type "slice", data := .fields #[vl, vu, .none] } } σ H3 x v vl vu l u s3.heap.objs.size Q I4 r1 (Heap.IsSliceOf.new ..) pl pu q3
  show wpAny (model X.prog X.w) X.A (subscriptTail e (.Slice lo hi none p2) v (.ref s3.heap.objs.size)) (EP X pins σ Q) X.xe { s3 with heap := s3.heap.push { cls := .type "slice", data := .fields #[vl, vu, .none] } }
  exact tail_any (ops := [.ref s3.heap.objs.size, v]) ht hT hg (by with_unfolding_all rfl)
end
end L2
namespace L2
open PySem PySem.Spec PyProof.Rows
def ixN (n : Nat) (i : Int) : Option Nat := if 0 ≤ i then (if i < n then some i.toNat else none) else if -(n : Int) ≤ i then some (i + n).toNat else none
def atI {α : Type} (xs : List α) (i : Int) : Option α := (ixN xs.length i).bind fun j => xs[j]?
theorem ixN_seq {n : Nat} {i : Int} {j : Nat} (h : ixN n i = some j) : seqIndex? i n = some j ∧ j < n ∧ -(n : Int) ≤ i ∧ i < n := by
  unfold ixN at h
  by_cases h0 : 0 ≤ i
  · rw [if_pos h0] at h
    by_cases h1 : i < n
    · rw [if_pos h1] at h
      have e : i.toNat = j := Option.some.inj h
      exact ⟨by rw [seqIndex_of h0 h1, e], by omega, by omega, h1⟩
    · rw [if_neg h1] at h; cases h
  · rw [if_neg h0] at h
    by_cases h1 : -(n : Int) ≤ i
    · rw [if_pos h1] at h
      have e : (i + n).toNat = j := Option.some.inj h
      exact ⟨by rw [seqIndex_neg (by omega) h1, e], by omega, h1, by omega⟩
    · rw [if_neg h1] at h; cases h
theorem atI_get {α : Type} {xs : List α} {i : Int} {v : α} (h : atI xs i = some v) : ∃ j, seqIndex? i xs.length = some j ∧ xs[j]? = some v ∧ j < xs.length ∧ -(xs.length : Int) ≤ i ∧ i < xs.length := by
  unfold atI at h
  cases e : ixN xs.length i with
  | none => rw [e] at h; cases h
  | some j =>
    rw [e] at h
    obtain ⟨h1, h2, h3, h4⟩ := ixN_seq e
    exact ⟨j, h1, h, h2, h3, h4⟩
theorem atI_nat {α : Type} {xs : List α} {j : Nat} {v : α} (h : xs[j]? = some v) : atI xs (j : Int) = some v := by
  have hj : j < xs.length := (List.getElem?_eq_some_iff.mp h).1
  have e : ixN xs.length (j : Int) = some j := by
    unfold ixN
    rw [if_pos (by omega), if_pos (by omega)]; simp
  unfold atI; rw [e]; exact h
def PlainIx (b : Expr) : Prop := ∀ o i, subscripted b false o i = operate [o, i] (getItem o i)
def IxR (X : Cx) (r : R2) : Prop :=
  ∀ (value slice : Expr) (pins : List (Addr × Obj)) (s : Shared) (σ : St) (H : Hp) (x y : V) (v u : Value) (Q : VK), Inv X pins σ H s → RelV x v → RelV y u → r x y H Q →
    subscripted slice false v u = operate [v, u] (getItem v u) → wpAny (model X.prog X.w) X.A (subscriptTail value slice v u) (EP X pins σ Q) X.xe s
def MtR (X : Cx) (id : String) (r : V → List V → Hp → VK → Prop) : Prop :=
  ∀ (pins : List (Addr × Obj)) (s : Shared) (σ : St) (H : Hp) (x : V) (xs : List V) (v : Value) (us : List Value) (Q : VK), Inv X pins σ H s → RelV x v → Vals xs us → r x xs H Q →
    wpAny (model X.prog X.w) X.A (call (.builtin id) (v :: us)) (EP X pins σ Q) X.xe s
section
variable {X : Cx} {a b : Expr} {ta tb : TE} {pos : Pos}
theorem pe_ix {r : R2} (hr : IxR X r) (ha : PE X a ta) (hb : PE X b tb) (hs : PlainIx b) : PE X (.Subscript a b pos) (tOp r ta tb) := by
  intro pins s σ H Q I h
  exact Subscript_ (binT ha hb I h fun v u s2 x y H2 I2 rx ry q => hr a b pins s2 σ H2 x y v u Q I2 rx ry q (hs _ _))
def rIxL (K : PySem.W.Frag) : R2 := fun x y H Q => ∃ p xs i v, x = .ref p ∧ y = .int i ∧ SqL K H p xs ∧ atI xs i = some v ∧ Q v H
def rIxT (K : PySem.W.Frag) : R2 := fun x y H Q => ∃ p xs i v, x = .ref p ∧ y = .int i ∧ SqT K H p xs ∧ atI xs i = some v ∧ Q v H
def rIxS : R2 := fun x y H Q => ∃ z i c, x = .str z ∧ y = .int i ∧ z.length ≤ sizeLine ∧ atI z.cps.toList i = some c ∧ Q (.str ⟨#[c]⟩) H
theorem ix_list : IxR X (rIxL X.K) := by
  intro value slice pins s σ H x y v u Q I rx ry h hs
  obtain ⟨p, xs, i, z, rfl, rfl, hq, he, q⟩ := h
  cases rx
  obtain ⟨t, rfl⟩ := ry
  obtain ⟨its, r, pl, hz⟩ := I.list hq
  obtain ⟨j, h1, h2, h3, h4, h5⟩ := atI_get he
  obtain ⟨w, ew, rw'⟩ := r.get h2
  have hl := r.length
  have hn := line63
  have fin : EP X pins σ Q w s := ⟨z, H, I, rw', q⟩
  by_cases h0 : 0 ≤ i
  · have hj : i.toNat = j := by
      rw [seqIndex_of h0 h5] at h1
      exact Option.some.inj h1
    exact item_listR pl.isList h0 (by omega) (by rw [hj]; simpa using ew) fin hs
  · have hj : (i + (its.toArray.size : Int)).toNat = j := by
      rw [seqIndex_neg (by omega) h4] at h1
      rw [List.size_toArray, ← hl]
      exact Option.some.inj h1
    exact subscriptTail_builtinR (x := w) pl.isList.typeIs slot_list_getitem.lookup
      (wpAny_getItem_list_neg (Q := fun r s' => r = w ∧ EP X pins σ Q r s') pl.isList (by omega) (by rw [List.size_toArray] <;> omega) (by omega) (by rw [hj]; simpa using ew) ⟨rfl, fin⟩) hs
theorem ix_tup : IxR X (rIxT X.K) := by
  intro value slice pins s σ H x y v u Q I rx ry h hs
  obtain ⟨p, xs, i, z, rfl, rfl, hq, he, q⟩ := h
  cases rx
  obtain ⟨t, rfl⟩ := ry
  obtain ⟨its, r, pl, hz⟩ := I.tuple hq
  obtain ⟨j, h1, h2, h3, h4, h5⟩ := atI_get he
  obtain ⟨w, ew, rw'⟩ := r.get h2
  have hl := r.length
  have hn := line63
  have fin : EP X pins σ Q w s := ⟨z, H, I, rw', q⟩
  exact subscriptTail_builtinR (x := w) pl.typeIs slot_tuple_getitem.lookup
    (getItem_tuple (j := j) (Q := fun r s' => r = w ∧ EP X pins σ Q r s') pl (by omega) (by omega) (by rw [List.size_toArray, ← hl]; exact h1) (by simpa using ew) ⟨rfl, fin⟩) hs
theorem ix_str : IxR X rIxS := by
  intro value slice pins s σ H x y v u Q I rx ry h hs
  obtain ⟨z, i, c, rfl, rfl, hz, he, q⟩ := h
  obtain ⟨t, rfl⟩ := rx
  obtain ⟨t', rfl⟩ := ry
  obtain ⟨j, h1, h2, h3, h4, h5⟩ := atI_get he
  have hl : z.cps.toList.length = z.length := by simp [Str.length]
  rw [hl] at h1 h4 h5
  have hn := line63
  exact tail_any (typeIs_str s z t) slot_str_getitem.lookup (getItem_str (c := c) (by
    have e1 : decide (i < -(2 ^ 63 : Int)) = false := decide_eq_false (by omega)
    have e2 : decide (i ≥ 2 ^ 63) = false := decide_eq_false (by omega)
    rw [e1, e2, Bool.or_false]) (by rw [h1]; simpa using h2) ⟨.str ⟨#[c]⟩, H, I.tok _, ⟨_, rfl⟩, q⟩) hs
theorem mapSeq_set (its : List Value) (n j : Nat) (u : Value) : Obj.mapSeq (·.setIfInBounds j u) { cls := .type "list", data := .seq its.toArray n } = { cls := .type "list", data := .seq (its.set j u).toArray n } := by
  simp [Obj.mapSeq]
theorem Inv.lst {pins : List (Addr × Obj)} {σ : St} {H : Hp} {s : Shared} {p : Addr} {xs : List V} (I : Inv X pins σ H s) (h : H p = some (.lst xs)) :
    ∃ (its : List Value) (n : Nat), Vals xs its ∧ s.heap.get? p = some { cls := .type "list", data := .seq its.toArray n } ∧ xs.length ≤ sizeLine := by
  obtain ⟨z, its, n, r, e⟩ := I.hok p _ h
  exact ⟨its, n, r, e, z⟩
theorem Inv.lstUpd {pins : List (Addr × Obj)} {σ : St} {H : Hp} {s : Shared} {p : Addr} {xs ys : List V} {its its' : List Value} {n n' : Nat} {f : Obj → Obj} (I : Inv X pins σ H s) (h : H p = some (.lst xs))
    (ho : s.heap.get? p = some { cls := .type "list", data := .seq its.toArray n }) (hf : f { cls := .type "list", data := .seq its.toArray n } = { cls := .type "list", data := .seq its'.toArray n' }) (r : Vals ys its') (hz : ys.length ≤ sizeLine) (t : Nat) :
    Inv X pins σ (upd H p (.lst ys)) { s with heap := s.heap.update p f, toks := t } := by
  have e : (s.heap.update p f).get? p = some { cls := .type "list", data := .seq its'.toArray n' } := by
    rw [Heap.get?_update_self f ho (by rw [hf] <;> rfl), hf]
  refine I.write (x := p) (e := p) (by rw [h]; trivial) (.inl rfl) (fun b u hb q => (Heap.get?_update_other _ _ (Ne.symm hb)).trans q) ⟨_, e⟩ ?_
  exact ⟨hz, its', n', r, e⟩
def rSetL : V → V → V → Hp → (Hp → Prop) → Prop := fun o i v H Q => ∃ p xs k j, o = .ref p ∧ i = .int k ∧ H p = some (.lst xs) ∧ ixN xs.length k = some j ∧ Q (upd H p (.lst (xs.set j v)))
theorem set_list : PSet X rSetL := by
  intro pins s σ H o i v ov iv u Q I ro ri rv h
  obtain ⟨p, xs, k, j, rfl, rfl, hp, hj, q⟩ := h
  cases ro
  obtain ⟨t, rfl⟩ := ri
  obtain ⟨its, n, r, ho, hz⟩ := I.lst hp
  obtain ⟨h1, h2, h3, h4⟩ := ixN_seq hj
  have hl := r.length
  have hn := line63
  have I' : Inv X pins σ (upd H p (.lst (xs.set j v))) { s with heap := s.heap.update p (Obj.mapSeq (·.setIfInBounds j u)) } :=
    I.lstUpd hp ho (mapSeq_set its n j u) (r.set rv j) (by rw [List.length_set]; exact hz) s.toks
  by_cases h0 : 0 ≤ k
  · have hk : k.toNat = j := by
      rw [seqIndex_of h0 h4] at h1
      exact Option.some.inj h1
    exact PySem.W.ki_setAt ho h0 (by omega) (by rw [List.size_toArray, ← hl]; exact h4) (by rw [hk]; exact ⟨_, I', q⟩)
  · have hk : (k + (its.toArray.size : Int)).toNat = j := by
      rw [seqIndex_neg (by omega) h3] at h1
      rw [List.size_toArray, ← hl]
      exact Option.some.inj h1
    exact PySem.W.ki_setBack ho (by omega) (by rw [List.size_toArray, ← hl]; exact h3) (by omega) (by rw [hk]; exact ⟨_, I', q⟩)
theorem slice_bounds (lo hi : Option Int) (n : Nat) : (sliceBounds lo hi none n).1 = ((HT.sIx n 0 lo : Nat) : Int) ∧ (sliceBounds lo hi none n).2.1 = ((HT.sIx n n hi : Nat) : Int) ∧ (sliceBounds lo hi none n).2.2 = 1 := by
  refine ⟨?_, ?_, rfl⟩
  · cases lo with
    | none => simp [sliceBounds, HT.sIx]
    | some i =>
      simp only [sliceBounds, HT.sIx, Option.getD_none, show (1 : Int) > 0 by decide, if_true]
      by_cases h : i < 0
      · simp only [h, if_true] <;> omega
      · simp only [h, if_false] <;> omega
  · cases hi with
    | none => simp [sliceBounds, HT.sIx]
    | some i =>
      simp only [sliceBounds, HT.sIx, Option.getD_none, show (1 : Int) > 0 by decide, if_true]
      by_cases h : i < 0
      · simp only [h, if_true] <;> omega
      · simp only [h, if_false] <;> omega
def flatV : V → Bool
  | .non => true
  | .bl _ => true
  | .int _ => true
  | .str _ => true
  | _ => false
def eqV : V → V → Bool
  | .non, .non => true
  | .bl a, .bl b => a == b
  | .bl a, .int b => (if a then 1 else 0) == b
  | .int a, .bl b => a == (if b then 1 else 0)
  | .int a, .int b => a == b
  | .str a, .str b => a == b
  | _, _ => false
theorem eqAt_V {A : Around} {s : Shared} {y x : V} {u v : Value} (ry : RelV y u) (rx : RelV x v) (fy : flatV y = true) (fx : flatV x = true) : SeqAt.EqAt A s u v (eqV y x) := by
  cases y with
  | non =>
    cases ry
    cases x with
    | non => cases rx; exact SeqAt.EqAt.same _
    | bl b => cases rx; exact SeqAt.EqAt.none_bool b
    | int b => obtain ⟨t, rfl⟩ := rx; exact SeqAt.EqAt.none_int b t
    | str b => obtain ⟨t, rfl⟩ := rx; exact SeqAt.EqAt.none_str b t
    | _ => exact absurd (show false = true from fx) Bool.false_ne_true
  | bl a =>
    cases ry
    cases x with
    | non => cases rx; exact SeqAt.EqAt.bool_none a
    | bl b => cases rx; exact SeqAt.EqAt.bool_bool a b
    | int b => obtain ⟨t, rfl⟩ := rx; exact SeqAt.EqAt.bool_int a b t
    | str b => obtain ⟨t, rfl⟩ := rx; exact SeqAt.EqAt.bool_str a b t
    | _ => exact absurd (show false = true from fx) Bool.false_ne_true
  | int a =>
    obtain ⟨t', rfl⟩ := ry
    cases x with
    | non => cases rx; exact SeqAt.EqAt.int_none a t'
    | bl b => cases rx; exact SeqAt.EqAt.int_bool a t' b
    | int b => obtain ⟨t, rfl⟩ := rx; exact SeqAt.EqAt.int_int a t' b t
    | str b => obtain ⟨t, rfl⟩ := rx; exact SeqAt.EqAt.int_str a t' b t
    | _ => exact absurd (show false = true from fx) Bool.false_ne_true
  | str a =>
    obtain ⟨t', rfl⟩ := ry
    cases x with
    | non => cases rx; exact SeqAt.EqAt.str_none a t'
    | bl b => cases rx; exact SeqAt.EqAt.str_bool a t' b
    | int b => obtain ⟨t, rfl⟩ := rx; exact SeqAt.EqAt.str_int a t' b t
    | str b => obtain ⟨t, rfl⟩ := rx; exact SeqAt.EqAt.str_str a t' b t
    | _ => exact absurd (show false = true from fx) Bool.false_ne_true
  | _ => exact absurd (show false = true from fy) Bool.false_ne_true
def eqU (x : V) (u : Value) : Bool := match u with
  | .none => eqV .non x
  | .bool b => eqV (.bl b) x
  | .int i _ => eqV (.int i) x
  | .str z _ => eqV (.str z) x
  | _ => false
theorem eqU_of {x y : V} {u : Value} (r : RelV y u) (f : flatV y = true) : eqU x u = eqV y x := by
  cases y with
  | non => cases r; rfl
  | bl b => cases r; rfl
  | int i => obtain ⟨t, rfl⟩ := r; rfl
  | str z => obtain ⟨t, rfl⟩ := r; rfl
  | _ => exact absurd (show false = true from f) Bool.false_ne_true
theorem any_eqU {x : V} : ∀ {xs : List V} {us : List Value}, Vals xs us → xs.all flatV = true → us.any (eqU x) = xs.any fun y => eqV y x
  | _, _, .nil, _ => rfl
  | y :: xs, u :: us, .cons r t, f => by
    rw [List.all_cons, Bool.and_eq_true] at f
    rw [List.any_cons, List.any_cons, eqU_of r f.1, any_eqU t f.2]
theorem mem_eqAt {A : Around} {s : Shared} {x : V} {v : Value} (rx : RelV x v) (fx : flatV x = true) : ∀ {xs : List V} {us : List Value}, Vals xs us → xs.all flatV = true → ∀ u ∈ us, SeqAt.EqAt A s u v (eqU x u)
  | _, _, .nil, _ => fun u hu => by cases hu
  | y :: xs, u :: us, .cons r t, f => fun u' hu => by
    rw [List.all_cons, Bool.and_eq_true] at f
    rcases List.mem_cons.mp hu with rfl | hu
    · rw [eqU_of r f.1]; exact eqAt_V r rx f.1 fx
    · exact mem_eqAt rx fx t f.2 u' hu
def inV (x : V) (xs : List V) : Bool := xs.any fun y => eqV y x
def rIn (K : PySem.W.Frag) (neg : Bool) : R2 := fun x y H Q => ∃ p xs, y = .ref p ∧ (SqL K H p xs ∨ SqT K H p xs) ∧ flatV x = true ∧ xs.all flatV = true ∧ Q (.bl (if neg then !inV x xs else inV x xs)) H
theorem op_in_seq : OpR X (compareOp .In) (rIn X.K false) := by
  intro pins s σ H x y v u Q I rx ry h
  obtain ⟨p, xs, rfl, hq, fx, fs, q⟩ := h
  cases ry
  rcases hq with hq | hq
  · obtain ⟨its, r, pl, hz⟩ := I.list hq
    refine SeqAt.in_listAt (eqU x) pl.isList (fun w hw => mem_eqAt rx fx r fs w (by simpa using hw)) ⟨.bl _, H, I, rfl, ?_⟩
    rw [show its.toArray.any (eqU x) = its.any (eqU x) by simp, any_eqU r fs]
    exact q
  · obtain ⟨its, r, pl, hz⟩ := I.tuple hq
    refine SeqAt.in_tupleAt (eqU x) pl (fun w hw => mem_eqAt rx fx r fs w (by simpa using hw)) ⟨.bl _, H, I, rfl, ?_⟩
    rw [show its.toArray.any (eqU x) = its.any (eqU x) by simp, any_eqU r fs]
    exact q
theorem op_notIn_seq : OpR X (compareOp .NotIn) (rIn X.K true) := by
  intro pins s σ H x y v u Q I rx ry h
  obtain ⟨p, xs, rfl, hq, fx, fs, q⟩ := h
  cases ry
  rcases hq with hq | hq
  · obtain ⟨its, r, pl, hz⟩ := I.list hq
    refine SeqAt.notIn_listAt (eqU x) pl.isList (fun w hw => mem_eqAt rx fx r fs w (by simpa using hw)) ⟨.bl _, H, I, rfl, ?_⟩
    rw [show its.toArray.any (eqU x) = its.any (eqU x) by simp, any_eqU r fs]
    exact q
  · obtain ⟨its, r, pl, hz⟩ := I.tuple hq
    refine SeqAt.notIn_tupleAt (eqU x) pl (fun w hw => mem_eqAt rx fx r fs w (by simpa using hw)) ⟨.bl _, H, I, rfl, ?_⟩
    rw [show its.toArray.any (eqU x) = its.any (eqU x) by simp, any_eqU r fs]
    exact q
theorem call_len_seq : CallR X (.builtin "len") (fun xs H Q => ∃ p ys, xs = [.ref p] ∧ (SqL X.K H p ys ∨ SqT X.K H p ys) ∧ Q (.int ys.length) H) := by
  intro pins s σ H xs us Q I r h
  obtain ⟨p, ys, rfl, hq, q⟩ := h
  obtain ⟨u, rfl, rx⟩ := vals1 r
  cases rx
  have hn := line63
  rcases hq with hq | hq
  · obtain ⟨its, r', pl, hz⟩ := I.list hq
    have hlen := r'.length
    exact Calls.call_len_list pl.isList (by simp only [List.size_toArray] <;> omega) ⟨.int ys.length, H, I.tok _, ⟨s.toks + 1, by rw [List.size_toArray, hlen]⟩, q⟩
  · obtain ⟨its, r', pl, hz⟩ := I.tuple hq
    have hlen := r'.length
    exact len_tuple pl (by simp only [List.size_toArray] <;> omega) ⟨.int ys.length, H, I.tok _, ⟨s.toks + 1, by rw [List.size_toArray, hlen]⟩, q⟩
theorem call_len_str : CallR X (.builtin "len") (fun xs H Q => ∃ z, xs = [.str z] ∧ z.length ≤ sizeLine ∧ Q (.int z.length) H) := by
  intro pins s σ H xs us Q I r h
  obtain ⟨z, rfl, hz, q⟩ := h
  obtain ⟨u, rfl, t, rfl⟩ := vals1 r
  have hn := line63
  exact len_str (by omega) ⟨.int z.length, H, I.tok _, ⟨_, rfl⟩, q⟩
theorem call_list_of : CallR X (.type "list") (fun xs H Q => ∃ p ys, xs = [.ref p] ∧ (SqL X.K H p ys ∨ SqT X.K H p ys) ∧ ∀ l, H l = none → Q (.ref l) (upd H l (.lst ys))) := by
  intro pins s σ H xs us Q I r h
  obtain ⟨p, ys, rfl, hq, q⟩ := h
  obtain ⟨u, rfl, rx⟩ := vals1 r
  cases rx
  have fin : ∀ (its : List Value), Vals ys its → ys.length ≤ sizeLine → ∀ (h' : Heap) (c' : Nat), (∀ b o', s.heap.get? b = some o' → h'.get? b = some o') →
      h'.get? s.heap.objs.size = some { cls := .type "list", dict := none, data := .seq its.toArray c', slots := #[] } → EP X pins σ Q (.ref s.heap.objs.size) { s with heap := h' } := fun its r' hz h' c' kp e =>
    ⟨.ref s.heap.objs.size, _, I.laid (t' := s.toks) kp (Nat.le_refl _) (show ObjOk X.prog X.w _ h' _ (.lst ys) from ⟨hz, its, c', r', e⟩), rfl, q _ (I.hok.fresh (Nat.le_refl _))⟩
  rcases hq with hq | hq
  · obtain ⟨its, r', pl, hz⟩ := I.list hq
    have hlen := r'.length
    obtain ⟨o, ho, hc, n, hd⟩ := pl.isList
    exact call_list_seq p (.inl rfl) ho hc hd (fun h' c' kp e => fin its r' hz h' c' kp e) (by simp only [List.size_toArray] <;> omega)
  · obtain ⟨its, r', pl, hz⟩ := I.tuple hq
    have hlen := r'.length
    obtain ⟨o, ho, hc, n, hd⟩ := pl
    exact call_list_seq p (.inr rfl) ho hc hd (fun h' c' kp e => fin its r' hz h' c' kp e) (by simp only [List.size_toArray] <;> omega)
def tyV (K : PySem.W.Frag) (T : String) (x : V) (H : Hp) : Prop := match x with
  | .str _ => T = "str"
  | .int _ => T = "int"
  | .ref p => (T = "list" ∧ ∃ xs, SqL K H p xs) ∨ (T = "tuple" ∧ ∃ o, K.lookup p = some o ∧ o.cls = .type "tuple" ∧ o.dict = none) ∨
      (T = "dict" ∧ ((∃ kvs, H p = some (.dK kvs)) ∨ ∃ kvs, H p = some (.dT kvs))) ∨ (T = "set" ∧ ∃ S n, H p = some (.set S n))
  | _ => False
theorem tyV_is {pins : List (Addr × Obj)} {σ : St} {H : Hp} {s : Shared} {T : String} {x : V} {v : Value} (I : Inv X pins σ H s) (r : RelV x v) (ty : tyV X.K T x H) :
    s.TypeIs v T ∧ ∀ a, v = .ref a → ∃ ob, s.heap.get? a = some ob ∧ ob.dict = none := by
  cases x with
  | str z =>
    obtain ⟨t, rfl⟩ := r
    cases (show T = "str" from ty)
    exact ⟨typeIs_str s z t, fun _ e => nomatch e⟩
  | int i =>
    obtain ⟨t, rfl⟩ := r
    cases (show T = "int" from ty)
    exact ⟨typeIs_int s i t, fun _ e => nomatch e⟩
  | ref p =>
    cases r
    rcases ty with ⟨rfl, xs, hq⟩ | ⟨rfl, o, hk, hc, hd⟩ | ⟨rfl, hk⟩ | ⟨rfl, S, n, hk⟩
    · obtain ⟨its, _, pl, _⟩ := I.list hq
      refine ⟨pl.isList.typeIs, fun a e => ?_⟩
      cases e
      obtain ⟨o, n, e, c, hd, _⟩ := pl
      exact ⟨o, e, hd⟩
    · refine ⟨⟨o, I.kIn p o hk, hc⟩, fun a e => ?_⟩
      cases e
      exact ⟨o, I.kIn _ o hk, hd⟩
    · have z : ∃ o, s.heap.get? p = some o ∧ o.ExactDict := by
        rcases hk with ⟨kvs, hk⟩ | ⟨kvs, hk⟩
        · obtain ⟨_, _, _, _, o, _, _, e, ex, _⟩ := I.hok p _ hk
          exact ⟨o, e, ex⟩
        · obtain ⟨_, _, _, _, o, _, _, e, ex, _⟩ := I.hok p _ hk
          exact ⟨o, e, ex⟩
      obtain ⟨o, e, ex⟩ := z
      refine ⟨⟨o, e, ex.1⟩, fun a e2 => ?_⟩
      cases e2
      exact ⟨o, e, ex.2.1⟩
    · obtain ⟨o, _, _, _, e, ex, _⟩ := I.hok p _ hk
      refine ⟨⟨o, e, ex.1⟩, fun a e2 => ?_⟩
      cases e2
      exact ⟨o, e, ex.2.1⟩
  | _ => exact False.elim ty
def tBM0 (K : PySem.W.Frag) (T : String) (r : V → List V → Hp → VK → Prop) (to : TE) : TE := fun σ H Q => to σ H fun x H1 => tyV K T x H1 ∧ r x [] H1 Q
def tBM (K : PySem.W.Frag) (T : String) (r : V → List V → Hp → VK → Prop) (to : TE) (t : TA) : TE := fun σ H Q => to σ H fun x H1 => tyV K T x H1 ∧ t σ H1 fun xs H2 => r x xs H2 Q
variable {o e : Expr} {es : List Expr} {to : TE} {t : TA} {name : Str} {apos cpos : Pos} {T id : String} {r : V → List V → Hp → VK → Prop}
theorem pe_bm0 (pa : PlainAttrs T) (slot : Slot T name id) (hty : typeOf (.builtin id) = pure (.type "method_descriptor")) (hm : MtR X id r) (ho : PE X o to)
    (hbase : attributeBase o name X.env (eval o X.env) = eval o X.env := by rfl) (hline : (apos.endLine == cpos.line) = true := by rfl) : PE X (.Call (.Attribute o name apos) [] [] cpos) (tBM0 X.K T r to) := by
  intro pins s σ H Q I h
  refine wpAny_Call_method0_late hbase hline (thn (ho pins s σ H _ I h) fun v s1 ⟨x, H1, I1, r1, ty, q1⟩ => ?_)
  obtain ⟨h1, h2⟩ := tyV_is I1 r1 ty
  exact ⟨T, id, pa, slot, hty, h1, h2, Calls.callWith_builtin rfl (PySem.evalArgs_none (hm pins s1 σ H1 x [] v [] Q I1 r1 .nil q1))⟩
theorem pe_bm (pa : PlainAttrs T) (slot : Slot T name id) (hty : typeOf (.builtin id) = pure (.type "method_descriptor")) (hm : MtR X id r) (ho : PE X o to) (ha : PA X (e :: es) t)
    (hbase : attributeBase o name X.env (eval o X.env) = eval o X.env := by rfl)
    (hfew : ((backTo cpos (starEach (e :: es) X.env)).all (fun x => !x.1) && (backToKw cpos (keywordEach [] X.env)).all (fun x => x.1.isSome)
      && decide ((e :: es).length + ([] : List Keyword).length + (if ([] : List Keyword).isEmpty then 0 else 1) < 30)) = true := by rfl)
    (hline : (apos.endLine == cpos.line) = true := by rfl) (hs : starEach (e :: es) X.env = (false, eval e X.env) :: starEach es X.env := by rfl) (hplain : (backTo cpos (starEach es X.env)).any (·.1) = false := by rfl) :
    PE X (.Call (.Attribute o name apos) (e :: es) [] cpos) (tBM X.K T r to t) := by
  intro pins s σ H Q I h
  refine wpAny_Call_method_late hbase hfew hline rfl (thn (ho pins s σ H _ I h) fun v s1 ⟨x, H1, I1, r1, ty, q1⟩ => ?_)
  obtain ⟨h1, h2⟩ := tyV_is I1 r1 ty
  refine ⟨T, id, pa, slot, hty, h1, h2, ?_⟩
  have hA := ha cpos pins s1 σ H1 _ I1 q1
  rw [hs] at hA ⊢
  refine Calls.callWith_builtin (by show (false || (backTo cpos (starEach es X.env)).any (·.1)) = false; rw [hplain] <;> rfl) (Calls.evalArgs_plain ?_)
  exact thn hA fun us s2 ⟨vs, H2, I2, r2, q2⟩ => hm pins s2 σ H2 x vs v us Q I2 r1 r2 q2
/- xs.append(e), list.index on a module's tuple .. are MtR facts of 06m -/
end
end L2
namespace L2
open PySem PySem.Spec PyProof.Rows
def MtM (X : Cx) (id : String) (r : V → List V → Hp → VK → Prop) : Prop :=
  ∀ (pins : List (Addr × Obj)) (s : Shared) (σ : St) (H : Hp) (x : V) (xs : List V) (v : Value) (us : List Value) (Q : VK), Inv X pins σ H s → RelV x v → Vals xs us → r x xs H Q →
    wpAny (model X.prog X.w) X.A (call (.builtin id) (v :: us)) (EP X pins σ Q) X.xe s
theorem Vals.one : ∀ {x : V} {us : List Value}, Vals [x] us → ∃ u, us = [u] ∧ RelV x u
  | _, _, .cons r .nil => ⟨_, rfl, r⟩
theorem Vals.zero : ∀ {us : List Value}, Vals [] us → us = []
  | _, .nil => rfl
section
variable {X : Cx} {pins : List (Addr × Obj)} {σ : St} {H : Hp} {s : Shared} {l b : Addr} {xs ys zs : List V}
theorem Inv.lset {its its' : List Value} {n : Nat} {f : Array Value → Array Value} {t' : Nat} (I : Inv X pins σ H s) (hH : H l = some (.lst xs))
    (e : s.heap.get? l = some { cls := .type "list", data := .seq its.toArray n }) (hf : f its.toArray = its'.toArray) (hv : Vals ys its') (hz : ys.length ≤ sizeLine) :
    Inv X pins σ (upd H l (.lst ys)) { s with heap := s.heap.update l (Obj.mapSeq f), toks := t' } := by
  have q := PySem.IsL.update e f
  rw [hf] at q
  refine I.write (x := l) (e := l) (by rw [hH]; exact trivial) (.inl rfl) (fun b' u hb hu => (Heap.get?_update_other s.heap (Obj.mapSeq f) (Ne.symm hb)).trans hu) ⟨_, q⟩ ?_
  exact ⟨hz, its', _, hv, q⟩
theorem Inv.lnew {its : List Value} {t' : Nat} (I : Inv X pins σ H s) (hv : Vals ys its) (hz : ys.length ≤ sizeLine) :
    Inv X pins σ (upd H s.heap.objs.size (.lst ys)) { s with heap := s.heap.push { cls := .type "list", data := .seq its.toArray }, toks := t' } :=
  I.laid (fun _ _ q => Heap.get?_push_of_some _ q) (Nat.le_refl _) ⟨hz, its, 0, hv, Heap.get?_push_size _ rfl⟩
theorem Inv.fresh (I : Inv X pins σ H s) : H s.heap.objs.size = none := I.hok.fresh (Nat.le_refl _)
theorem Inv.lstM (I : Inv X pins σ H s) (hH : H l = some (.lst xs)) : xs.length ≤ sizeLine ∧ ∃ (its : List Value) (n : Nat), Vals xs its ∧ xs.length = its.length ∧ s.heap.get? l = some { cls := .type "list", data := .seq its.toArray n } := by
  obtain ⟨z, its, n, r, e⟩ := I.hok l _ hH
  exact ⟨z, its, n, r, r.length, e⟩
theorem notLongL {n : Nat} (h : n ≤ sizeLine) : Builtin.List.listTooLong n = false := by
  unfold Builtin.List.listTooLong
  exact decide_eq_false (by omega)
end
section
variable {X : Cx}
def rAppend : V → List V → Hp → VK → Prop := fun x vs H Q => ∃ l xs y, x = .ref l ∧ vs = [y] ∧ H l = some (.lst xs) ∧ xs.length < sizeLine ∧ Q .non (upd H l (.lst (xs ++ [y])))
theorem mt_append : MtM X "list.append" rAppend := by
  intro pins s σ H x vs v us Q I rx rv h
  obtain ⟨l, xs, y, rfl, rfl, hH, hz, q⟩ := h
  cases rx
  obtain ⟨u, rfl, ru⟩ := rv.one
  obtain ⟨z, its, n, r, hl, e⟩ := I.lstM hH
  refine call_meets F.slot_list_append ⟨_, e, rfl⟩ F.entry_list_append (F.args_list_append_2 _ _) (PySem.list_append l its.toArray n u (by rw [List.size_toArray]; omega)) ⟨e, ?_⟩
  refine ⟨.non, _, I.lset (its' := its ++ [u]) hH e (by simp) (r.append (.cons ru .nil)) ?_, rfl, q⟩
  rw [List.length_append, List.length_singleton]
  omega
def rExtend : V → List V → Hp → VK → Prop := fun x vs H Q => ∃ l b xs zs, x = .ref l ∧ vs = [.ref b] ∧ H l = some (.lst xs) ∧ H b = some (.lst zs) ∧ xs.length + zs.length ≤ sizeLine ∧ Q .non (upd H l (.lst (xs ++ zs)))
theorem mt_extend : MtM X "list.extend" rExtend := by
  intro pins s σ H x vs v us Q I rx rv h
  obtain ⟨l, b, xs, zs, rfl, rfl, hH, hB, hz, q⟩ := h
  cases rx
  obtain ⟨u, rfl, ru⟩ := rv.one
  cases ru
  obtain ⟨z, its, n, r, hl, e⟩ := I.lstM hH
  obtain ⟨z2, its2, n2, r2, hl2, e2⟩ := I.lstM hB
  have hsz : its.toArray.size + its2.toArray.size ≤ sizeLine := by rw [List.size_toArray, List.size_toArray]; omega
  have hlong : ¬ (!its.toArray.isEmpty && Builtin.List.listTooLong (its.toArray.size + its2.toArray.size)) = true := by
    rw [notLongL hsz, Bool.and_false]
    exact Bool.false_ne_true
  refine call_meets F.slot_list_extend ⟨_, e, rfl⟩ F.entry_list_extend (F.args_list_extend_2 _ _)
    (AutoSeq1.list_extend_list_list_0 l its.toArray n b its2.toArray n2 hlong (by rw [List.size_toArray]; omega) (by omega)) ⟨e, e2, ?_⟩
  refine ⟨.non, _, I.lset (its' := its ++ its2) hH e (by simp) (r.append r2) ?_, rfl, q⟩
  rw [List.length_append]
  omega
def rClear : V → List V → Hp → VK → Prop := fun x vs H Q => ∃ l xs, x = .ref l ∧ vs = [] ∧ H l = some (.lst xs) ∧ Q .non (upd H l (.lst []))
theorem mt_clear : MtM X "list.clear" rClear := by
  intro pins s σ H x vs v us Q I rx rv h
  obtain ⟨l, xs, rfl, rfl, hH, q⟩ := h
  cases rx
  have hus := rv.zero
  subst hus
  obtain ⟨z, its, n, r, hl, e⟩ := I.lstM hH
  refine call_meets F.slot_list_clear ⟨_, e, rfl⟩ F.entry_list_clear (F.args_list_clear_1 _) (AutoSeq1.list_clear_list_0 l its.toArray n (by rw [List.size_toArray]; omega)) ⟨e, ?_⟩
  exact ⟨.non, _, I.lset (its' := []) (ys := []) hH e rfl .nil (Nat.zero_le _), rfl, q⟩
def rCat : R2 := fun x y H Q => ∃ l b xs zs, x = .ref l ∧ y = .ref b ∧ H l = some (.lst xs) ∧ H b = some (.lst zs) ∧ xs.length + zs.length ≤ sizeLine ∧ ∀ p, H p = none → Q (.ref p) (upd H p (.lst (xs ++ zs)))
theorem op_cat : OpR X (binaryOp .Add) rCat := by
  intro pins s σ H x y v u Q I rx ry h
  obtain ⟨l, b, xs, zs, rfl, rfl, hH, hB, hz, q⟩ := h
  cases rx
  cases ry
  obtain ⟨z, its, n, r, hl, e⟩ := I.lstM hH
  obtain ⟨z2, its2, n2, r2, hl2, e2⟩ := I.lstM hB
  refine PySem.P.add_list e e2 ?_ (by rw [List.size_toArray, List.size_toArray]; omega)
  have ea : its.toArray ++ its2.toArray = (its ++ its2).toArray := by simp
  rw [ea]
  exact ⟨.ref _, _, I.lnew (t' := s.toks) (r.append r2) (by rw [List.length_append]; omega), rfl, q _ I.fresh⟩
end
section
variable {prog : Program} {w : World} {A : Around} {E : Value → Shared → Prop} {s : Shared}
set_option maxRecDepth 100000 in
end
section
variable {X : Cx}
end
end L2
namespace Att
open PySem PySem.W PySem.Calls PyProof.Rows
theorem ints_of_wellAll {P : Params} {h : Heap} : ∀ (ns : List Int) (vs : List Value), WellAll P h vs (ns.map WData.int) → IntsAre vs ns := by
  intro ns
  induction ns with
  | nil =>
    intro vs w
    rw [List.map_nil] at w
    cases w
    exact .nil
  | cons n ns ih =>
    intro vs w
    rw [List.map_cons] at w
    cases w with
    | cons a b =>
      cases a
      exact .cons _ _ (ih _ b)
theorem script_of {l : OpenLaw} {n : Nat} (hn : l.most = some n) {P : Params} {h : Heap} {args : List WData} {vals : List Value}
    (hpre : l.row.toRowW.claim.pre args = true) (hwl : WellAll P h vals args) :
    ∃ a vs ns, vals = [Value.ref a] ∧ args = [WData.list (ns.map WData.int)] ∧ h.get? a = some { cls := .type "list", data := .seq vs.toArray } ∧ IntsAre vs ns ∧ ns.length ≤ n := by
  have hsh : WShape.hasAll [] args [.list .int] = true := (pre_splitW hpre).1
  have hc : l.pre.holds [] { args := args } = true := (pre_splitW hpre).2
  obtain ⟨d, r, rfl, h1, h2⟩ := hasAllW_cons hsh
  obtain rfl := hasAllW_nil h2
  obtain ⟨xs, rfl, h3⟩ := hasW_list h1
  obtain ⟨ns, rfl⟩ := items_int h3
  have hlen : ns.length ≤ n := by
    unfold OpenLaw.pre at hc
    have h4 : (WTm.not (.lt (.lit (.int (n : Int))) (.len (.arg 0)))).holds [] { args := [.list (ns.map .int)] } = true := by
      have h4 := (holds_andW hc).1
      rw [hn] at h4
      exact h4
    have h5 := condW_of h4 (w_not (w_lt w_lit (w_len_list (w_arg rfl))))
    rw [List.length_map] at h5
    refine Nat.le_of_not_lt fun q => ?_
    have q' : (n : Int) < ((ns.length : Nat) : Int) := by omega
    first
      | (rw [decide_eq_true q'] at h5; exact absurd h5 (by decide))
      | (simp at h5; omega)
  cases hwl with
  | cons w1 w2 =>
    cases w2
    cases w1 with
    | list ho hall => exact ⟨_, _, ns, rfl, rfl, ho, ints_of_wellAll ns _ hall, hlen⟩
theorem post_true (l : OpenLaw) (args : List WData) : l.row.toRowW.claim.post args (.bool true) args = true :=
  postW_of (r := l.row.toRowW) (X := (true == true))
    (show WShape.has [] (.bool true) .bool = true by first | rfl | decide | simp [WShape.has, WShape.arms, WShape.armsAll])
    (show (WTm.eq .res (.lit (.bool true))).value [] { args := args, res := some (.bool true), after := args } = some (.bool (true == true)) from w_eq_bool (w_res rfl) w_lit) rfl
theorem attach_call {l : OpenLaw} {n : Nat} {q : Program} {loose : List Str} {XP : (Str → Option Value) → Heap → Prop} {YP : World → Heap → Prop} {d : DefRec}
    (hn : l.most = some n) (hdf : d.params.defaults = [])
    (call : ∀ (w : World) (s₀ s₁ : Shared) (mg mb : Str → Option Value) (fa : Addr) (o : Obj) (pm cd doc : Value) (a : Addr) (vs : List Value) (ns : List Int),
      Ground q loose [] XP w s₀ mg mb s₁.heap → YP w s₁.heap →
      s₁.heap.get? fa = some o → o.data = .func (docDef d.name d.params d.body d.scope pm cd doc) → s₁.heap.CodeRec cd d.name → mg d.name = some (.ref fa) →
      s₁.heap.get? a = some { cls := .type "list", data := .seq vs.toArray } → IntsAre vs ns → ns.length ≤ n → s₁.gens = #[] →
      codeAny (model l.prog w) callerA (.call (.ref fa) ⟨[.ref a], []⟩) (fun r s' => r = .ok (.ret (.bool true)) ∧ OldK s₁.heap s'.heap ∧ s'.os = s₁.os ∧ AllBare s'.gens) s₁) :
    WalkO q loose XP YP l.row.toRowW d [] (fun f vs => PySem.call f vs) := by
  intro w s₀ s₁ mg mb G Y fa o pm cd doc dV kV ho hd hcd hD hmg hg args vals as hpre hlay hrd hwl hlo
  obtain rfl : dV = .none := Dflts.none hD hdf
  obtain rfl : kV = .none := Dflts.noKw hD
  obtain ⟨a, vs, ns, rfl, rfl, hobj, hints, hlen⟩ := script_of hn hpre hwl
  refine enter_call (codeAny_mono (call w s₀ s₁ mg mb fa o pm cd doc a vs ns G Y ho (fd_plain hd) hcd hmg hobj hints hlen hg) fun r s' hq => ?_)
  obtain ⟨rfl, h2, h3, h4⟩ := hq
  exact ⟨.inl ⟨.bool true, .bool true, [], rfl, fun _ => rfl, .bool true, post_true l _, fun _ => ⟨List.Pairwise.nil, fun _ hm => (nomatch hm)⟩⟩, h2, h3, h4⟩
section
variable {prog : Program} {w : World} {A : Around} {E : Value → Shared → Prop} {s : Shared} {K : Frag}
end
end Att
namespace L2
open PySem PySem.Spec PyProof.Rows
theorem vals_ints : ∀ {vs : List Value} {ns : List Int}, IntsAre vs ns → Vals (ns.map V.int) vs
  | _, _, .nil => .nil
  | _, _, .cons n t h => .cons ⟨t, rfl⟩ (vals_ints h)
end L2
namespace L2
open PySem PySem.Spec PyProof.Rows
end L2
/- THE LAST THEOREM (shape; LID, My.* are yours):
   My.Adr: a structure of the addresses that your layer names (classes, functions); My.Txt K t: a structure (Prop) of the equations over K;
   My.txt_mk : {K} {implicit addresses ..} (e1 : nsIn K mainGlobals "law" = some (some (.ref f))) (e2 : K.lookup f = some ⟨oc, od, .func (fnOf "law" "law" params body scope dV kV doc pm an cdv ct), sl⟩) (e3 : codeIn K cdv "law" = true) .. : ∃ t, My.Txt K t
set_option maxRecDepth 100000 in
set_option maxHeartbeats 0 in
theorem PySem.Challenge.cw_LID_holds : PySem.Challenge.rw_LID.Holds := by
  w_on; o_law; k_head; (case hw => w_witness2)
  k_fill
  refine L2.walk_of (l := PySem.Challenge.rw_LID) (n := 63) (k := 40) (x := "script") (CX := fun w => ..) (sp := fun _ => My.sp_law) rfl (by decide) rfl ⟨rfl, by decide, by decide⟩ (fun w h Y => PySem.W.kIn_of Y) ?F ?S ?C
  case F =>
    intro w mg fa h KX G hmg
    have T : ∃ t, My.Txt (L2.KOf KX) t := by
      dsimp only [L2.KOf]                          -- K must stand as «<heap const> w.params» for k_is
      refine' My.txt_mk ?e1 ?e2 ?e3 ..
      (case e1 => PySem.W.k_is)                    -- in the order: a name -> its address -> its object -> its parts
      (case e2 => PySem.W.k_is)
      ..
    obtain ⟨t, T⟩ := T
    have e0 := hmg.symm.trans (PySem.W.mg_of KX G T.law)
    cases e0                                       -- fa is the law's own address
    exact ⟨_, fun s u => .of_eq rfl, fun base kb nb => My.law_fn T kb nb⟩     -- if «.of_eq rfl» comes too early: refine' ⟨_, ?b, fun base kb nb => My.law_fn T kb nb⟩; exact fun s u => .of_eq rfl
  case S => exact fun w H a ns hl hO hS => ..
  case C => exact ..
(the tactic k_is has no namespace: write k_is) -/
namespace L2
open PySem PySem.Spec PyProof.Rows
def defArgs (s : Stmt) : Arguments := match s with
  | .FunctionDef _ a _ _ _ _ _ _ _ _ => a
  | _ => { posonlyargs := [], args := [], vararg := none, kwonlyargs := [], kw_defaults := [], kwarg := none, defaults := [] }
def defBody (s : Stmt) : List Stmt := match s with
  | .FunctionDef _ _ b _ _ _ _ _ _ _ => b
  | _ => []
def defScope (s : Stmt) : Scope := match s with
  | .FunctionDef _ _ _ _ _ _ sc _ _ _ => sc
  | _ => { kind := .function, names := [], isGenerator := false, isCoroutine := false }
abbrev E0 : XK := fun _ _ _ => False
section
variable {P : Program} {w : World} {K : PySem.W.Frag} {mg : Str → Option Value} {base : Heap}
end
section
variable {X : Cx}
theorem pv (i : Nat) {x : Str} {pos : Pos} (hN : X.N[i]? = some x := by rfl) (hv : Vis X.env.scope x := by first | exact Or.inl rfl | exact Or.inr (Or.inl rfl) | exact Or.inr (Or.inr rfl)) (hd : (x == ("__debug__" : Str)) = false := by decide)
    (hcd : (x == ("__classdict__" : Str)) = false := by decide) : PE X (.Name x pos) (tVar i) := pe_var hN hv hd hcd
end
theorem iteF {A B : Prop} (h : B) : if false = true then A else B := by
  rw [if_neg Bool.false_ne_true]
  exact h
theorem iteT {A B : Prop} (h : A) : if true = true then A else B := by
  rw [if_pos rfl]
  exact h
theorem ite2 {c A B : Prop} [Decidable c] (h1 : c → A) (h2 : ¬ c → B) : if c then A else B := by
  by_cases h : c
  · rw [if_pos h]
    exact h1 h
  · rw [if_neg h]
    exact h2 h
def Same (H H' : Hp) : Prop := ∀ b o, H b = some o → H' b = some o
theorem Same.trans {H H1 H2 : Hp} (a : Same H H1) (b : Same H1 H2) : Same H H2 := fun c o h => b c o (a c o h)
theorem Same.free {H H' : Hp} (e : Same H H') {l : Addr} (h : H' l = Option.none) : H l = Option.none := by
  cases q : H l with
  | none => rfl
  | some o =>
    rw [e l o q] at h
    cases h
theorem Same.seq {K : PySem.W.Frag} {H H' : Hp} {a : Addr} {xs : List V} (e : Same H H') (h : SqL K H a xs) : SqL K H' a xs := by
  rcases h with (h | ⟨o, h⟩) | h
  · exact .inl (.inl (e _ _ h))
  · exact .inl (.inr ⟨o, e _ _ h⟩)
  · exact .inr h
end L2
namespace L2
open PySem PySem.Spec PyProof.Rows
section
variable {X : Cx} {es : List Expr} {tk : Nat} {tpos : Pos}
end
def big : Nat := 2 ^ 4000
theorem big_log {n : Nat} (h : n < big) : n.log2 < 4000 := by
  by_cases h0 : n = 0
  · rw [h0]; decide +kernel
  · exact (Nat.log2_lt h0).mpr h
section
variable {X : Cx}
theorem op_fdivB : OpR X (binaryOp .FloorDiv) (rI (fun _ j => j ≠ 0 ∧ j.natAbs < big) fun i j => .int (i.fdiv j)) := opI fun _ _ _ _ _ _ _ hc q => floordiv_int hc.1 q (.inl (PyProof.noPylong_of_log2 (Nat.lt_trans (big_log hc.2) (by decide))))
theorem op_fdivP : OpR X (binaryOp .FloorDiv) (rI (fun _ j => 0 < j ∧ j.natAbs < big) fun i j => .int (i / j)) := opI fun i j _ _ _ _ _ hc q => by
  have h1 : (0 : Int) < j := hc.1
  exact floordiv_int (by omega) (by rw [Int.fdiv_eq_ediv_of_nonneg i (by omega)]; exact q) (.inl (PyProof.noPylong_of_log2 (Nat.lt_trans (big_log hc.2) (by decide))))
def eqVs : List V → List V → Bool
  | [], [] => true
  | x :: xs, y :: ys => eqV x y && eqVs xs ys
  | _, _ => false
end
end L2
namespace L2
open PySem PySem.Spec PyProof.Rows
section
variable {M : Model} {A : Around} {E : Value → Shared → Prop} {s : Shared} {env : Env} {outer : List Env} {base : Heap} {L e : Addr} {oe : Obj} {vs : Array Value} {Q : Unit → Shared → Prop}
end
end L2
namespace L2
open PySem PySem.Spec PyProof.Rows
def dxOf (h : Heap) (e : Addr) : Option Addr := (h.get? e).bind fun o => o.dict
structure Thrown (h0 h : Heap) (e C T : Addr) : Prop where
  n0 : h0.get? e = none
  t0 : h0.get? T = none
  ne : T ≠ e
  ob : ∃ oe vs, h.get? e = some oe ∧ oe.cls = .ref C ∧ oe.data = .fields vs ∧ vs[1]? = some (.ref T)
  tb : ∃ oT ts, h.get? T = some oT ∧ oT.data = .fields ts ∧ ts[3]? = some .none
def CXE (P : Program) (w : World) : CXT := fun outer H s E ev s' => ∃ e C T H', ev = .ref e ∧ s'.os = s.os ∧ AllBare s'.gens ∧ Un (frs outer) [] H H' s.heap s'.heap ∧ HOk P w H' s'.heap ∧ H' e = none ∧ H' T = none ∧
  Thrown s.heap s'.heap e C T ∧ E (.ref C) (dxOf s'.heap e) H'
theorem passE0 {X : Cx} {P : Program} {w : World} : Passes (CXE P w) X E0 := fun _ _ _ _ _ _ _ h => by
  obtain ⟨_, _, _, _, _, _, _, _, _, _, _, _, z⟩ := h
  exact z.elim
section
variable {P : Program} {w : World} {K : PySem.W.Frag} {mg : Str → Option Value} {base : Heap} {N : List Str} {qual : Str} {scope : Scope} {f : Addr} {cd : Value} {A : Around} {outer : List Env} {s : Shared} {H : Hp} {E : XK}
end
section
variable {P : Program} {w : World} {K : PySem.W.Frag} {mg : Str → Option Value} {base : Heap}
end
end L2
namespace L2
open PySem PySem.Spec PyProof.Rows
section
variable {X : Cx} {k : Nat} {f : Addr} {fd : FuncData} {ps : List Str} {sp : Sp} {dvs : List V} {ds : List Value} {x : Str} {p pos : Pos} {e : Expr} {es : List Expr} {t : TA}
end
def excAtD (C e : Addr) (d : Option Addr) (h : Heap) : Prop := ∃ o, h.get? e = some o ∧ o.cls = .ref C ∧ o.dict = d ∧ PySem.W.notCls o = true
abbrev excAt (C e : Addr) (h : Heap) : Prop := excAtD C e none h
def ExcD (C e : Addr) (d : Option Addr) : HO := .ext (excAtD C e d)
abbrev ExcO (C e : Addr) : HO := ExcD C e none
theorem looks_isType {K : PySem.W.Frag} {M : Model} {h : Heap} {D : Addr} (X : K.In h) (c : (PySem.W.clsIn K D).isSome = true) : PySem.W.Looks M h (isType (.ref D)) true := by
  unfold PySem.W.clsIn at c
  split at c
  · rename_i a b cd sl lk
    intro A Q E s k q
    unfold isType loadHead
    exact wpAny_bind (wpAny_loadPart (k _ _ (X _ _ lk)) (wpAny_pure q))
  · cases c
end L2
namespace L2
open PySem PySem.Spec PyProof.Rows
structure ClsX (K : PySem.W.Frag) (C : Addr) : Prop where
  ga : PySem.W.findIn K (.ref C) "__getattribute__" = some (some (.builtin "BaseException.__getattribute__"))
  no : PySem.W.findIn K (.ref C) "__getattr__" = some none
  hd : PySem.W.hasDictIn K C = true
  ha : PySem.W.findIn K (.ref C) "__class__" = some (some (.builtin "object.__class__"))
  hn : PySem.W.specialIn K (.builtin "object.__class__") "__get__" = some (some (.builtin "getset_descriptor.__get__"))
  ht : PySem.W.takesIn K (.builtin "object.__class__") = some true
  hm : PySem.W.mroIn K C (.type "object") = some true
  hb : PySem.W.mroIn K C (.type "BaseException") = some true
section
variable {prog : Program} {w : World} {A : Around} {E : Value → Shared → Prop} {K : PySem.W.Frag} {C e : Addr} {ox : Obj} {od : Option Obj}
theorem ga_class {s : Shared} {tk : Tok} {Q : Fin → Shared → Prop} (c : ClsX K C) (X : K.In s.heap) (I : PySem.W.InstAt s.heap e ox C od) (h : Q (.done (.ret (.ref C))) s) :
    wpAny (model prog w) A (Builtin.«object.__getattribute__» ⟨[.ref e, .str "__class__" tk], []⟩) Q E s := by
  have hf : PySem.W.findObj K C od "__class__" = some (.bind (.builtin "getset_descriptor.__get__") (.builtin "object.__class__")) := by
    obtain ⟨cd, q, _⟩ := PySem.W.any_some c.hd
    unfold PySem.W.findObj
    rw [q, Option.bind_some, c.ha, Option.bind_some]
    simp [c.hn, c.ht]
  obtain ⟨hh, gg, d, t, os⟩ := s
  have L0 := I.type (M := model prog w)
  have L1 := PySem.W.looks_find (M := model prog w) X I hf
  unfold Builtin.«object.__getattribute__»
  repeat (first | with_reducible refine L0.at ?_ | with_reducible refine L1.at ?_ | wp_step)
  exact PySem.W.class_get (ox := ox) (od := od) X I c.hm (wpAny_pure h)
theorem ga_check {M : Model} {s : Shared} {nameV : Value} {Q : Unit → Shared → Prop} (c : ClsX K C) (X : K.In s.heap) (I : PySem.W.InstAt s.heap e ox C od) (h : Q () s) :
    wpAny M A (checkBuiltinCall "BaseException.__getattribute__" ⟨[.ref e, nameV], []⟩) Q E s := by
  have hk : builtinKind "BaseException.__getattribute__" = some .slot := by decide +kernel
  have hs : splitId "BaseException.__getattribute__" = some ("BaseException", "__getattribute__") := by decide +kernel
  have ha := F.args_bexc_ga (.ref e) nameV
  have LI : PySem.W.Looks M s.heap (isInstance (.ref e) (.type "BaseException")) true := (I.type (M := M)).andThen (PySem.W.looks_mroIn X c.hb)
  obtain ⟨hh, gg, d, t, os⟩ := s
  simp only [checkBuiltinCall, hk, hs]
  refine wpAny_bind (LI.at ?_)
  repeat (first | assumption | wp_step)
theorem exc_class {s : Shared} {Q : Option Value → Shared → Prop} (c : ClsX K C) (X : K.In s.heap) (I : PySem.W.InstAt s.heap e ox C od) (h : Q (some (.ref C)) { s with toks := s.toks + 1 }) :
    wpAny (model prog w) A (getAttr? (.ref e) "__class__") Q E s := by
  obtain ⟨hh, gg, d, t, os⟩ := s
  have L0 := I.type (M := model prog w)
  have L1 := PySem.W.looks_findIn (M := model prog w) X c.ga
  have L2 := PySem.W.looks_findIn (M := model prog w) X c.no
  have f3 := PySem.F.attr_ValueError.ga.bind (.ref e)
  unfold getAttr? getAttrBy? getAttrBy
  refine wpAny_bind (wpAny_mkText (wpAny_bind (wpAny_attempt (wpAny_holding (wpAny_bind (L0.at (wpAny_bind (L1.at ?_))))))))
  have e1 : (onTheHeap (Value.ref C) && Value.builtin "BaseException.__getattribute__" == Value.builtin "object.__getattribute__") = false := by rw [show (Value.builtin "BaseException.__getattribute__" == Value.builtin "object.__getattribute__") = false from by decide +kernel, Bool.and_false]
  dsimp only
  rw [e1]
  simp only [Bool.false_eq_true, if_false]
  unfold getAttrByItsOwn hookBefore
  repeat (first | with_reducible refine L2.at ?_ | assumption | wp_step)
  refine codeAny_call_builtin PySem.F.attr_ValueError.ga.plain F.entry_bexc_ga (ga_check c X I (ga_class c X I ?_))
  show wpAny (model prog w) A (handedOut (.ref C)) _ _ _
  exact PySem.W.handed_on rfl (wpAny_pure h)
end
end L2
namespace L2
open PySem PySem.Spec PyProof.Rows
theorem kitx_exc {K : PySem.W.Frag} {C e : Addr} (c : ClsX K C) : PySem.W.KitX K (.ref e) (.ref C) (excAt C e) where
  ty := fun M h _ ⟨o, h1, h2, _⟩ => h2 ▸ (PySem.W.Looks.ld h1).andThen .now
  it := fun M h X _ => by
    obtain ⟨cd, q, _⟩ := PySem.W.any_some c.hd
    exact looks_isType X (by rw [q]; rfl)
  ne := fun h tp dd its n sl X htp => by
    obtain ⟨cd, q, _⟩ := PySem.W.any_some c.hd
    refine Bool.eq_false_iff.mpr fun z => ?_
    have e : C = tp := Value.ref.inj (beq_iff_eq.mp z)
    subst e
    unfold PySem.W.clsIn at q
    split at q
    · rename_i lk
      have z := (X _ _ lk).symm.trans htp
      cases z
    · cases q
  ca := fun {prog w A E Q s} X ⟨o, h1, h2, h3, h4⟩ k => by
    have I : PySem.W.InstAt s.heap e o C none := ⟨h1, h2, h4, by rw [h3]; exact trivial⟩
    exact exc_class c X I k
theorem kitx_excD {K : PySem.W.Frag} {C e d : Addr} (c : ClsX K C) : PySem.W.KitX K (.ref e) (.ref C) (fun h => excAtD C e (some d) h ∧ ∃ od, h.get? d = some od) where
  ty := fun M h _ ⟨⟨o, h1, h2, _⟩, _⟩ => h2 ▸ (PySem.W.Looks.ld h1).andThen .now
  it := fun M h X _ => by
    obtain ⟨cd, q, _⟩ := PySem.W.any_some c.hd
    exact looks_isType X (by rw [q]; rfl)
  ne := fun h tp dd its n sl X htp => (kitx_exc (e := e) c).ne h tp dd its n sl X htp
  ca := fun {prog w A E Q s} X ⟨⟨o, h1, h2, h3, h4⟩, od, hod⟩ k => by
    have I : PySem.W.InstAt s.heap e o C (some od) := ⟨h1, h2, h4, by rw [h3]; exact hod⟩
    exact exc_class c X I k
inductive TyX (K : PySem.W.Frag) (H : Hp) : V → Value → Prop where
  | of {x : V} {t : Value} (h : TyOf K H x t) : TyX K H x t
  | exc {C e : Addr} (h : H e = some (ExcO C e)) (c : ClsX K C) : TyX K H (.ref e) (.ref C)
  | excD {C e d : Addr} {fs : List (Str × V)} (h : H e = some (ExcD C e (some d))) (hd : H d = some (.xd fs)) (c : ClsX K C) : TyX K H (.ref e) (.ref C)
def clsV : V → Option Value
  | .ty n => some (.type n)
  | .ref a => some (.ref a)
  | _ => none
theorem clsV_rel {c : V} {u cv : Value} (h : clsV c = some cv) (r : RelV c u) : u = cv := by
  cases c with
  | ty n => cases h; exact r
  | ref a => cases h; exact r
  | _ => cases h
theorem clsV_all : ∀ {xs : List V} {us cs : List Value}, Vals xs us → xs.map clsV = cs.map some → us = cs
  | _, _, [], .nil, _ => rfl
  | _, _, _ :: _, .nil, h => by simp at h
  | _, _, [], .cons _ _, h => by simp at h
  | _, _, c :: cs, .cons r t, h => by
    simp only [List.map_cons, List.cons.injEq] at h
    rw [clsV_rel h.1 r, clsV_all t h.2]
section
variable {X : Cx}
def rIsi (K : PySem.W.Frag) : List V → Hp → VK → Prop := fun vs H Q => ∃ x c t b, vs = [x, c] ∧ TyX K H x t ∧ ((∃ cv, clsV c = some cv ∧ PySem.W.kitOne K t cv = some b) ∨ ∃ p xs cs, c = .ref p ∧ SqT K H p xs ∧ xs.map clsV = cs.map some ∧ PySem.W.kitAny K t cs = some b) ∧ Q (.bl b) H
theorem kitx_of {pins : List (Addr × Obj)} {σ : St} {H : Hp} {s : Shared} {x : V} {t u : Value} (I : Inv X pins σ H s) (rx : RelV x u) (ty : TyX X.K H x t) : ∃ HH, PySem.W.KitX X.K u t HH ∧ HH s.heap ∧ u ≠ .builtin "__main__.__loader__#opaque" := by
  cases ty with
  | exc h c =>
    cases (show u = _ from rx)
    obtain ⟨p, _⟩ := I.hok _ _ h
    exact ⟨_, kitx_exc c, p, fun z => nomatch z⟩
  | excD h hd c =>
    cases (show u = _ from rx)
    obtain ⟨p, _⟩ := I.hok _ _ h
    obtain ⟨_, ⟨od, _, _, q, _⟩, _⟩ := I.hok _ _ hd
    exact ⟨_, kitx_excD c, ⟨p, od, q⟩, fun z => nomatch z⟩
  | of ty =>
    cases ty with
    | non => cases (show u = Value.none from rx); exact ⟨_, PySem.W.kitx_none, trivial, fun z => nomatch z⟩
    | bl y => cases (show u = Value.bool y from rx); exact ⟨_, PySem.W.kitx_bool, trivial, fun z => nomatch z⟩
    | int i => obtain ⟨t, q⟩ := (show ∃ t, u = Value.int i t from rx); cases q; exact ⟨_, PySem.W.kitx_int, trivial, fun z => nomatch z⟩
    | str y => obtain ⟨t, q⟩ := (show ∃ t, u = Value.str y t from rx); cases q; exact ⟨_, PySem.W.kitx_str, trivial, fun z => nomatch z⟩
    | flt y => obtain ⟨t, q⟩ := (show ∃ t, u = Value.float y t from rx); cases q; exact ⟨_, PySem.W.kitx_float, trivial, fun z => nomatch z⟩
    | @lst a xs ea =>
      cases (show u = Value.ref a from rx)
      obtain ⟨_, _, n, _, h1⟩ := (show ObjOk X.prog X.w H s.heap a (.lst xs) from I.hok a _ ea)
      exact ⟨_, PySem.W.kitx_list, ⟨_, h1, rfl⟩, fun z => nomatch z⟩
    | @frz a ob xs ea =>
      cases (show u = Value.ref a from rx)
      obtain ⟨_, _, _, n, _, h1⟩ := (show ObjOk X.prog X.w H s.heap a (.frz ob (.lst xs)) from I.hok a _ ea)
      exact ⟨_, PySem.W.kitx_list, ⟨_, h1, rfl⟩, fun z => nomatch z⟩
    | @tup a xs ea =>
      cases (show u = Value.ref a from rx)
      obtain ⟨_, _, _, p⟩ := (show ObjOk X.prog X.w H s.heap a (.tup xs) from I.hok a _ ea)
      obtain ⟨o, h1, h2, _⟩ := p
      exact ⟨_, PySem.W.kitx_tuple, ⟨o, h1, h2⟩, fun z => nomatch z⟩
    | @dK a kvs ea =>
      cases (show u = Value.ref a from rx)
      obtain ⟨_, _, vs, _, p⟩ := (show ObjOk X.prog X.w H s.heap a (.dK kvs) from I.hok a _ ea)
      obtain ⟨o, es, ep, h1, h2, _⟩ := p
      exact ⟨_, PySem.W.kitx_dict, ⟨o, h1, h2.1⟩, fun z => nomatch z⟩
    | @dT a kvs ea =>
      cases (show u = Value.ref a from rx)
      obtain ⟨_, _, xs, _, o, es, ep, h1, h2, _⟩ := (show ObjOk X.prog X.w H s.heap a (.dT kvs) from I.hok a _ ea)
      exact ⟨_, PySem.W.kitx_dict, ⟨o, h1, h2.1⟩, fun z => nomatch z⟩
    | @ins a C dx fs ea cl ha hn htk hm =>
      cases (show u = Value.ref a from rx)
      obtain ⟨mA, O, _⟩ := ins_get I.hok ea
      obtain ⟨od, J, _⟩ := O.look
      exact ⟨_, PySem.W.kitx_own (cl.get _) cl.hd ha hn htk hm, J, fun z => nomatch z⟩
theorem call_isi : CallR X (.builtin "isinstance") (rIsi X.K) := by
  intro pins s σ H xs us Q I r h
  obtain ⟨x, c, t, b, rfl, ty, hc, q⟩ := h
  obtain ⟨u, v, rfl, rx, rc⟩ := vals2 r
  obtain ⟨HH, Z, p, hx⟩ := kitx_of I rx ty
  rcases hc with ⟨cv, e1, e2⟩ | ⟨a, xs, cs, rfl, hs, e1, e2⟩
  · rw [clsV_rel e1 rc]
    exact PySem.W.kia_one Z I.kIn p e2 hx fun tk => ⟨.bl b, H, I.tok tk, rfl, q⟩
  · cases (show v = Value.ref a from rc)
    obtain ⟨its, rv, ⟨o, h1, h2, n, h3⟩, _⟩ := I.tuple hs
    have e3 := clsV_all rv e1
    subst e3
    obtain ⟨oc, od, oda, osl⟩ := o
    simp only at h2 h3
    subst h2 h3
    exact PySem.W.kia_tup Z I.kIn p h1 e2 hx fun tk => ⟨.bl b, H, I.tok tk, rfl, q⟩
theorem boot_isi : bootBuiltins "isinstance" = some (.builtin "isinstance") := by decide +kernel
def eAt (xs ys : List V) (j : Nat) : Bool := match xs[j]?, ys[j]? with
  | some x, some y => eqV x y
  | _, _ => false
theorem eqVs_all : ∀ xs ys : List V, ((List.range (min xs.length ys.length)).all (eAt xs ys) && xs.length == ys.length) = eqVs xs ys
  | [], [] => rfl
  | [], _ :: _ => by simp [eqVs]
  | _ :: _, [] => by simp [eqVs]
  | x :: xs, y :: ys => by
    have ih := eqVs_all xs ys
    show _ = (eqV x y && eqVs xs ys)
    rw [← ih]
    have e1 : min (x :: xs).length (y :: ys).length = (min xs.length ys.length) + 1 := by simp only [List.length_cons]; omega
    rw [e1, List.range_succ_eq_map, List.all_cons, List.all_map]
    have e2 : (eAt (x :: xs) (y :: ys)) 0 = eqV x y := rfl
    have e3 : (eAt (x :: xs) (y :: ys)) ∘ Nat.succ = eAt xs ys := by
      funext j
      simp [eAt, Function.comp]
    have e4 : ((x :: xs).length == (y :: ys).length) = (xs.length == ys.length) := by
      rw [Bool.eq_iff_iff]
      simp
    rw [e2, e3, e4, Bool.and_assoc]
theorem items_eq {A : Around} {s : Shared} {xs ys : List V} {us vs : List Value} (r1 : Vals xs us) (r2 : Vals ys vs) (f1 : xs.all flatV = true) (f2 : ys.all flatV = true) :
    ∀ j (h1 : j < us.toArray.size) (h2 : j < vs.toArray.size), SeqAt.EqAt A s us.toArray[j] vs.toArray[j] (eAt xs ys j) := fun j h1 h2 => by
  have l1 : j < xs.length := by rw [r1.length]; simpa using h1
  have l2 : j < ys.length := by rw [r2.length]; simpa using h2
  obtain ⟨u, q1, z1⟩ := r1.get (i := j) (x := xs[j]) (by simp [l1])
  obtain ⟨v, q2, z2⟩ := r2.get (i := j) (x := ys[j]) (by simp [l2])
  have e1 : us.toArray[j] = u := by
    have : us[j]? = some us.toArray[j] := by simp
    rw [this] at q1; exact Option.some.inj q1
  have e2 : vs.toArray[j] = v := by
    have : vs[j]? = some vs.toArray[j] := by simp
    rw [this] at q2; exact Option.some.inj q2
  have e3 : eAt xs ys j = eqV xs[j] ys[j] := by simp [eAt, l1, l2]
  rw [e1, e2, e3]
  exact eqAt_V z1 z2 (List.all_eq_true.mp f1 _ (List.getElem_mem l1)) (List.all_eq_true.mp f2 _ (List.getElem_mem l2))
end
theorem Inv.above {X : Cx} {pins : List (Addr × Obj)} {σ : St} {H : Hp} {s : Shared} (I : Inv X pins σ H s) : sysModules < s.heap.objs.size := by
  have h : mainGlobals < s.heap.objs.size := (I.mod.glob.keeps I.bk).lt
  exact Nat.lt_trans (by decide) h
def tDict0 : TE := fun _ H Q => ∀ p, H p = none → Q (.ref p) (upd H p (.dK []))
theorem pe_dict0 {X : Cx} {pos : Pos} : PE X (.Dict [] [] pos) tDict0 := fun pins s σ H Q I h => by
  have new : ObjOk X.prog X.w (upd H s.heap.objs.size (.dK [])) (s.heap.push { cls := .type "dict", data := .dict #[] }) s.heap.objs.size (.dK []) :=
    ⟨Nat.zero_le _, beq_eq_false_iff_ne.mpr (Ne.symm (Nat.ne_of_lt I.above)), [], .nil, Heap.DictOf.new s.heap⟩
  exact wpAny_Dict_empty ⟨.ref s.heap.objs.size, _, I.laid (a := s.heap.objs.size) (o := .dK []) (t' := s.toks) (fun _ _ q => Heap.get?_push_of_some _ q) (Nat.le_refl _) new, rfl, h _ (I.hok.fresh (Nat.le_refl _))⟩
end L2
namespace L2
open PySem PySem.Spec PyProof.Rows
section
variable {X : Cx}
end
end L2
namespace L2
open PySem PySem.Spec PyProof.Rows
def clOf (env : Env) : List (Str × NameKind) → List (Str × Addr) → List (Str × Addr)
  | [], cs => cs
  | (n, k) :: r, cs => clOf env r (if (k == .free) = true then (n, (env.cells.lookup n).getD 0) :: cs else cs)
theorem clOf_run {env : Env} : ∀ {names : List (Str × NameKind)} {cs : List (Str × Addr)}, (∀ y ∈ names, y.2 = .free → (env.cells.lookup y.1).isSome = true) →
    (forIn names cs fun (x : Str × NameKind) (r : List (Str × Addr)) => if (x.2 == .free) = true then (do let c ← cellOf env x.1; pure (ForInStep.yield ((x.1, c) :: r))) else pure (ForInStep.yield r) : Sem (List (Str × Addr))) = pure (clOf env names cs)
  | [], cs, _ => rfl
  | (n, k) :: r, cs, h => by
    have ih := fun cs' => clOf_run (env := env) (names := r) (cs := cs') fun y hy => h y (List.mem_cons_of_mem _ hy)
    rw [List.forIn_cons]
    by_cases hk : (k == NameKind.free) = true
    · have hs := h (n, k) List.mem_cons_self (by simpa using hk)
      obtain ⟨c, hc⟩ := Option.isSome_iff_exists.mp hs
      have e : cellOf env n = pure c := by unfold cellOf; rw [show env.cells.lookup n = some c from hc]
      simp only [hk, if_true, e, clOf]
      rw [show env.cells.lookup n = some c from hc]
      exact ih _
    · simp only [hk, clOf]
      exact ih _
theorem closure_eq {scope : Scope} {env : Env} (h : ∀ y ∈ scope.names, y.2 = .free → (env.cells.lookup y.1).isSome = true) : closureFor scope env = pure (clOf env scope.names []) := by
  have e := clOf_run (env := env) (cs := []) h
  unfold closureFor
  simp only [e]
  rfl
theorem clOf_sub {env : Env} {x : Str} {c : Addr} : ∀ {names : List (Str × NameKind)} {cs : List (Str × Addr)}, (clOf env names cs).lookup x = some c → cs.lookup x = some c ∨ ((x, NameKind.free) ∈ names ∧ (env.cells.lookup x).getD 0 = c)
  | [], cs, h => .inl h
  | (n, k) :: r, cs, h => by
    unfold clOf at h
    rcases clOf_sub (names := r) h with z | ⟨z1, z2⟩
    · by_cases hk : (k == NameKind.free) = true
      · rw [if_pos hk] at z
        rw [List.lookup_cons] at z
        cases hx : x == n with
        | true =>
          rw [hx] at z
          have e : x = n := by simpa using hx
          subst e
          have ek : k = .free := by simpa using hk
          subst ek
          exact .inr ⟨List.mem_cons_self, Option.some.inj z⟩
        | false => rw [hx] at z; exact .inl z
      · rw [if_neg hk] at z
        exact .inl z
    · exact .inr ⟨List.mem_cons_of_mem _ z1, z2⟩
theorem clOf_keep {env : Env} {x : Str} : ∀ {names : List (Str × NameKind)} {cs : List (Str × Addr)}, cs.lookup x = some ((env.cells.lookup x).getD 0) → (clOf env names cs).lookup x = some ((env.cells.lookup x).getD 0)
  | [], cs, h => h
  | (n, k) :: r, cs, h => by
    unfold clOf
    refine clOf_keep (names := r) ?_
    by_cases hk : (k == NameKind.free) = true
    · rw [if_pos hk, List.lookup_cons]
      cases hx : x == n with
      | true =>
        have e : x = n := by simpa using hx
        subst e
        rfl
      | false => exact h
    · rw [if_neg hk]; exact h
theorem clOf_has {env : Env} {x : Str} : ∀ {names : List (Str × NameKind)} {cs : List (Str × Addr)}, (x, NameKind.free) ∈ names → (clOf env names cs).lookup x = some ((env.cells.lookup x).getD 0)
  | [], cs, h => nomatch h
  | (n, k) :: r, cs, h => by
    unfold clOf
    rcases List.mem_cons.mp h with z | z
    · cases z
      refine clOf_keep (names := r) ?_
      rw [if_pos (by rfl), List.lookup_cons]
      simp
    · exact clOf_has (names := r) z
theorem mem_of_look {x : Str} {k : NameKind} : ∀ {names : List (Str × NameKind)}, names.lookup x = some k → (x, k) ∈ names
  | [], h => nomatch h
  | (n, k') :: r, h => by
    rw [List.lookup_cons] at h
    cases hx : x == n with
    | true =>
      rw [hx] at h
      have e : x = n := by simpa using hx
      subst e
      cases h
      exact List.mem_cons_self
    | false => rw [hx] at h; exact List.mem_cons_of_mem _ (mem_of_look h)
theorem relabel_look {env : Env} {x : Str} {k' : NameKind} : ∀ {names : List (Str × NameKind)},
    (names.map fun (n, k) => if (k == NameKind.free && env.scope.kind == .function && env.kindOf n == some .cell) then (n, NameKind.cell) else (n, k)).lookup x = some k' → ∃ k, names.lookup x = some k ∧ (k' = k ∨ (k = .free ∧ k' = .cell))
  | [], h => nomatch h
  | (n, k) :: r, h => by
    rw [List.map_cons] at h
    by_cases hc : (k == NameKind.free && env.scope.kind == .function && env.kindOf n == some .cell) = true
    · simp only [hc, if_true] at h
      rw [List.lookup_cons] at h ⊢
      cases hx : x == n with
      | true =>
        rw [hx] at h
        cases h
        have ek : k = .free := by
          rw [Bool.and_eq_true, Bool.and_eq_true] at hc
          simpa using hc.1.1
        exact ⟨k, rfl, .inr ⟨ek, rfl⟩⟩
      | false => rw [hx] at h; exact relabel_look h
    · simp only [hc, Bool.false_eq_true, if_false] at h
      rw [List.lookup_cons] at h ⊢
      cases hx : x == n with
      | true => rw [hx] at h; exact ⟨k', h, .inl rfl⟩
      | false => rw [hx] at h; exact relabel_look h
theorem relabel_free {env : Env} {x : Str} : ∀ {names : List (Str × NameKind)}, names.lookup x = some .free →
    (names.map fun (n, k) => if (k == NameKind.free && env.scope.kind == .function && env.kindOf n == some .cell) then (n, NameKind.cell) else (n, k)).lookup x = some .cell ∨
    (names.map fun (n, k) => if (k == NameKind.free && env.scope.kind == .function && env.kindOf n == some .cell) then (n, NameKind.cell) else (n, k)).lookup x = some .free
  | [], h => nomatch h
  | (n, k) :: r, h => by
    rw [List.map_cons]
    rw [List.lookup_cons] at h
    by_cases hc : (k == NameKind.free && env.scope.kind == .function && env.kindOf n == some .cell) = true
    · simp only [hc, if_true, List.lookup_cons]
      cases hx : x == n with
      | true => exact .inl rfl
      | false => rw [hx] at h; exact relabel_free h
    · simp only [hc, Bool.false_eq_true, if_false, List.lookup_cons]
      cases hx : x == n with
      | true => rw [hx] at h; cases h; exact .inr rfl
      | false => rw [hx] at h; exact relabel_free h
def blk (X : Cx) (scope : Scope) (N : List Str) (s : Shared) (H : Hp) (fp : List Addr) : Cx :=
  { X with N := N, s₀ := s, H₀ := H, env := compEnvC scope (clOf X.env scope.names []) s.heap.objs.size X.env, outer := X.stack, stack := X.stack, ex := fp, fn := fun _ => false, pn := [], xe := fun _ _ => False }
structure BlkOk (esc scope : Scope) (N : List Str) (fi : List Nat) : Prop where
  kind : scope.kind = .function
  nocell : ∀ y ∈ scope.names, y.2 ≠ .cell
  loc : ∀ y ∈ scope.names, y.2 = .local → scope.names.lookup y.1 = some .local
  free : ∀ y ∈ scope.names, y.2 = .free → esc.names.lookup y.1 = some .cell ∨ esc.names.lookup y.1 = some .free
  ix : ∀ i ∈ fi, scope.names.lookup (N.getD i "") = some .free
def nB (N os : List Str) (fi : List Nat) : List Str := os ++ fi.map fun i => N.getD i ""
def sB (σ : St) (os : List Str) (fi : List Nat) : St := os.map (fun _ => none) ++ fi.map fun i => (σ[i]?).join
section
variable {X : Cx} {pins : List (Addr × Obj)} {σ : St} {H : Hp} {s : Shared} {scope esc : Scope} {os : List Str} {fi : List Nat} {fp : List Addr}
theorem blk_cells (B : BlkOk esc scope X.N fi) (he : X.env.scope = esc) (I : Inv X pins σ H s) : ∀ y ∈ scope.names, y.2 = .free → (X.env.cells.lookup y.1).isSome = true := fun y hy hf => by
  have k := B.free y hy hf
  rw [← he] at k
  obtain ⟨c, e⟩ := I.ok.has y.1 k
  rw [e]; rfl
theorem blk_cl (B : BlkOk esc scope X.N fi) (he : X.env.scope = esc) (I : Inv X pins σ H s) {x : Str} {c : Addr} (h : (clOf X.env scope.names []).lookup x = some c) : X.env.cells.lookup x = some c := by
  rcases clOf_sub h with z | ⟨z1, z2⟩
  · cases z
  · obtain ⟨d, e⟩ := Option.isSome_iff_exists.mp (blk_cells B he I _ z1 rfl)
    rw [show X.env.cells.lookup x = some d from e] at z2 ⊢
    rw [← z2]; rfl
theorem blk_ok (B : BlkOk esc scope X.N fi) (he : X.env.scope = esc) (I : Inv X pins σ H s) (hf : ∀ b ∈ fp, FpOk X pins H b) (ho : ∀ b ∈ fp, ∃ o, s.heap.get? b = some o) : (blk X scope (nB X.N os fi) s H fp).Ok where
  mod := I.ok.mod
  kind := B.kind
  glob := I.ok.glob
  blt := I.ok.blt
  above := Nat.le_refl _
  inj := fun x y c h1 h2 => I.ok.inj x y c (blk_cl B he I h1) (blk_cl B he I h2)
  has := fun x h => by
    have q : ∃ k, scope.names.lookup x = some k ∧ (k = .cell ∨ k = .free) := by
      rcases h with h | h
      · obtain ⟨k, e, z | ⟨z, _⟩⟩ := relabel_look h
        · exact ⟨k, e, .inl z.symm⟩
        · exact ⟨k, e, .inr z⟩
      · obtain ⟨k, e, z | ⟨_, z⟩⟩ := relabel_look h
        · exact ⟨k, e, .inr z.symm⟩
        · cases z
    obtain ⟨k, e, z | z⟩ := q
    · subst z; exact absurd rfl (B.nocell _ (mem_of_look e))
    · subst z; exact ⟨_, clOf_has (mem_of_look e)⟩
  cab := fun x c h _ => nomatch h
  hd := I.ok.hd
  frames := I.ok.frames
  stk := .inl rfl
  exf := fun b hb => by
    obtain ⟨o, e⟩ := ho b hb
    exact ⟨Nat.ne_of_lt (Heap.lt_size e), fun x c h => (hf b hb).2.2.2.2.1 x c (blk_cl B he I h)⟩
  bs := I.bs
  bsz := Nat.le_trans I.ok.bsz I.sz
  noex := fun b o e hb => by
    rcases (hf b hb).2.2.2.1 with z | z
    · exact I.ok.noex b o e z
    · exact absurd (Nat.lt_of_lt_of_le (Heap.lt_size e) (Nat.le_trans I.ok.bsz z)) (Nat.lt_irrefl _)
  exfs := fun b hb z => by
    rcases List.mem_cons.mp (I.stkSub b z) with e | e
    · exact (hf b hb).2.1 e
    · exact (hf b hb).2.2.1 e
  funs := I.stack
  frf := I.stkFree
theorem blk_inv {h1 : Heap} {t1 : Nat} {m1 : Str → Option Value} (B : BlkOk esc scope X.N fi) (he : X.env.scope = esc) (I : Inv X pins σ H s) (hf : ∀ b ∈ fp, FpOk X pins H b) (ho : ∀ b ∈ fp, ∃ o, s.heap.get? b = some o)
    (k : ∀ b o, s.heap.get? b = some o → h1.get? b = some o) (hn : h1.Ns s.heap.objs.size m1) : Inv (blk X scope (nB X.N os fi) s H fp) [] (sB σ os fi) H { s with heap := h1, toks := t1 } where
  ok := blk_ok B he I hf ho
  os := rfl
  bare := I.bare
  base := Un.kept k
  loc := by
    refine ⟨m1, hn, fun j x v e1 e2 e3 => ?_⟩
    have hj : os.length ≤ j := by
      by_cases hj : j < os.length
      · have z : (sB σ os fi)[j]? = some (some v) := e2
        unfold sB at z
        rw [List.getElem?_append_left (by simpa using hj), List.getElem?_map] at z
        cases q : os[j]? with
        | none => rw [q] at z; cases z
        | some _ => rw [q] at z; cases z
      · omega
    have z1 : (nB X.N os fi)[j]? = some x := e1
    have z2 : (sB σ os fi)[j]? = some (some v) := e2
    unfold nB at z1
    unfold sB at z2
    rw [List.getElem?_append_right hj, List.getElem?_map] at z1
    rw [List.getElem?_append_right (by simpa using hj), List.length_map, List.getElem?_map] at z2
    cases q : fi[j - os.length]? with
    | none => rw [q] at z1; cases z1
    | some i =>
      rw [q] at z1 z2
      have w1 : X.N.getD i "" = x := Option.some.inj z1
      have w2 : (σ[i]?).join = some v := Option.some.inj z2
      have w3 : σ[i]? = some (some v) := by
        cases p : σ[i]? with
        | none => rw [p] at w2; cases w2
        | some y => rw [p] at w2; exact congrArg some w2
      have lx : scope.names.lookup x = some .free := by rw [← w1]; exact B.ix i (List.mem_of_getElem? q)
      have li : i < X.N.length := by rw [← I.len]; exact (List.getElem?_eq_some_iff.mp w3).1
      have w4 : X.N[i]? = some x := by
        rw [List.getD_eq_getElem?_getD, List.getElem?_eq_getElem li] at w1
        rw [List.getElem?_eq_getElem li]
        exact congrArg some w1
      have kx := B.free _ (mem_of_look lx) rfl
      rw [← he] at kx
      obtain ⟨m, hm, hl⟩ := I.loc
      obtain ⟨u, r, l⟩ := hl i x v w4 w3 (by rcases kx with kx | kx; exact .inr (.inl kx); exact .inr (.inr kx))
      refine ⟨u, r, .inr ⟨relabel_free lx, ?_⟩⟩
      rcases l with ⟨a, _⟩ | ⟨_, c, e, ic⟩
      · rcases kx with kx | kx <;> rw [show X.env.kindOf x = X.env.scope.names.lookup x from rfl, kx] at a <;> cases a
      · refine ⟨c, ?_, ?_⟩
        · have := clOf_has (env := X.env) (cs := []) (mem_of_look lx)
          rw [e] at this
          exact this
        · obtain ⟨o, ho, hd⟩ := ic
          exact ⟨o, k _ o ho, hd⟩
  cell := fun x c h => by
    obtain ⟨v, o, ho, hd⟩ := I.cell x c (blk_cl B he I h)
    exact ⟨v, o, k _ o ho, hd⟩
  free := I.hok.fresh (Nat.le_refl _)
  freeC := fun x c h => I.freeC x c (blk_cl B he I h)
  pin := fun p hp => nomatch hp
  hok := I.hok.kept k
  len := by
    show (sB σ os fi).length = (nB X.N os fi).length
    unfold sB nB
    simp
theorem blk_out {N : List Str} {s' : Shared} {H' : Hp} {σ' : St} {pins' : List (Addr × Obj)} {h' : Heap} (I : Inv X pins σ H s) (hf : ∀ b ∈ fp, FpOk X pins H b) (I' : Inv (blk X scope N s H fp) pins' σ' H' s') (sb : Heap.SameBut s.heap.objs.size s'.heap h') :
    Inv X pins σ H' { s' with heap := h' } := by
  have ne : ∀ b o, s.heap.get? b = some o → b ≠ s.heap.objs.size := fun b o e => Nat.ne_of_lt (Heap.lt_size e)
  have un : Un (frs X.stack) fp H H' s.heap h' := by
    have u : Un (frs X.stack) fp H H' s.heap s'.heap := I'.base
    exact ⟨fun b o e n hb hx => (sb.2 b (ne b o e)).trans (u.keep b o e n hb hx), fun b o e n hb hx => by
        obtain ⟨sl, q⟩ := u.slot b o e n hb hx
        exact ⟨sl, (sb.2 b (ne b o e)).trans q⟩, u.free, fun b o e hx => by
        obtain ⟨o', q⟩ := u.there b o e hx
        exact ⟨o', (sb.2 b (ne b o e)).trans q⟩, u.tups, u.frzs, u.tbls⟩
  have hok : HOk X.prog X.w H' h' := fun b ob e => by
    have fr : H' s.heap.objs.size = none := I'.free
    refine (I'.hok b ob e).stay (fun c w' hc q => (sb.2 c ?_).trans q) (fun _ q => q) fun _ _ q => q
    rintro rfl
    rcases hc with rfl | hc
    · rw [fr] at e; cases e
    · rw [fr] at hc; cases hc
  obtain ⟨hh, g, d, t, os'⟩ := s'
  obtain rfl : os' = s.os := I'.os
  have J := I.call (h' := h') (g' := g) (d' := d) (t' := t) (ch := fp) un hok I'.bare fun b hb => ⟨(hf b hb).2.2.2.1, (hf b hb).2.1, (hf b hb).2.2.2.2.1, (hf b hb).2.2.2.2.2⟩
  exact J
end
end L2
namespace L2
open PySem PySem.Spec PyProof.Rows
abbrev F0 : Value → Shared → Prop := fun _ _ => False
theorem of_F0 {α : Type} {M : Model} {A : Around} {t : Sem α} {Q Q' : α → Shared → Prop} {E : Value → Shared → Prop} {s : Shared} (h : wpAny M A t Q F0 s) (hQ : ∀ a s, Q a s → Q' a s) : wpAny M A t Q' E s := wpAny_mono h hQ fun _ _ z => z.elim
def PTs (X : Cx) (ifs : List Expr) (t : TT) : Prop :=
  ∀ (pins : List (Addr × Obj)) (s : Shared) (σ : St) (H : Hp) (Q : Bool → Hp → Prop), Inv X pins σ H s → t σ H Q →
    wpAny (model X.prog X.w) X.A (forIn ifs true fun e b => if b = true then (do let y ← isTrue e X.env (eval e X.env); pure (ForInStep.yield y)) else pure (ForInStep.yield b)) (TP X pins σ Q) X.xe s
theorem pts_nil {X : Cx} : PTs X [] (fun _ H Q => Q true H) := fun _ _ _ H _ I h => wpAny_pure ⟨H, I, h⟩
theorem pts_one {X : Cx} {e : Expr} {t : TT} (h : PT X e t) : PTs X [e] t := by
  intro pins s σ H Q I q
  rw [List.forIn_cons]
  simp only [if_true]
  exact wpAny_bind (wpAny_bind (thn (h pins s σ H Q I q) fun y s1 z => wpAny_pure (wpAny_pure z)))
theorem comp_loop {P : Program} {w : World} {A : Around} {elt tg iter : Expr} {ifs : List Expr} {scope : Scope} {pos : Pos} {it acc : Value} {env : Env} {R : Result → Shared → Prop} {s : Shared} (I : Nat → Shared → Prop)
    (turn : ∀ n s, I n s → wpAny (model P w) A (pyNext it) (fun r s1 => match r with
      | none => R (.ok .next) s1
      | some v => wpAny (model P w) A (letOwnedTupleGo tg it v) (fun _ s2 => wpAny (model P w) A (assign tg env v) (fun _ s3 =>
          wpAny (model P w) A (forIn ifs true fun e b => if b = true then (do let y ← isTrue e env (eval e env); pure (ForInStep.yield y)) else pure (ForInStep.yield b)) (fun ok s4 =>
            if ok = true then wpAny (model P w) A (eval elt env) (fun x s5 => wpAny (model P w) A (call (.builtin "list.append") [acc, x]) (fun _ s6 => ∃ m, m < n ∧ I m s6) F0 s5) F0 s4
            else ∃ m, m < n ∧ I m s4) F0 s3) F0 s2) F0 s1) F0 s)
    (n : Nat) (h : I n s) : codeAny (model P w) A (.compLoop (.ListComp elt [⟨tg, iter, ifs, 0⟩] scope pos) 0 it acc env) R s := by
  refine codeAny_loop rfl I (fun n s hI => ?_) n h
  show wpAny _ A ((compTurn (.ListComp elt [⟨tg, iter, ifs, 0⟩] scope pos) 0 it acc env).onRaise (fun x => do noteFrame x env; theTreesLotGoes x)) _ _ s
  refine wpAny_noted ?_
  rw [compTurn_list]
  refine wpAny_bind (wpAny_standAt (wpAny_bind (of_F0 (turn n s hI) fun r s1 h1 => ?_)))
  cases r with
  | none => exact wpAny_pure h1
  | some v =>
    refine wpAny_bind (of_F0 h1 fun _ s2 h2 => wpAny_bind (of_F0 h2 fun _ s3 h3 => wpAny_bind (of_F0 h3 fun ok s4 h4 => ?_)))
    cases ok with
    | false => exact wpAny_pure ⟨rfl, h4⟩
    | true => exact wpAny_bind (wpAny_bind (of_F0 h4 fun x s5 h5 => wpAny_bind (of_F0 h5 fun _ s6 h6 => wpAny_pure (wpAny_pure ⟨rfl, h6⟩))))
def LCr (l : Addr) (J : It) (g : TG) (tt : TT) (te : TE) (σb : St) (H : Hp) (Q : VK) : Prop := ∃ W : Nat → Nat → St → Hp → Prop, (∃ m, W 0 m σb H) ∧ ∀ i m σ2 H2, W i m σ2 H2 →
  (J.stop i H2 ∧ Q (.ref l) H2) ∨ (J.go i H2 ∧ ∀ x H3, J.yld i H2 x H3 → g x σ2 H3 fun σ4 H4 => tt σ4 H4 fun ok H5 =>
    if ok = true then te σ4 H5 fun v H6 => ∃ xs, H6 l = some (.lst xs) ∧ xs.length < sizeLine ∧ ∃ m', m' < m ∧ W (i + 1) m' σ4 (upd H6 l (.lst (xs ++ [v]))) else ∃ m', m' < m ∧ W (i + 1) m' σ4 H5)
def tLC (os : List Str) (fi : List Nat) (wi : TI) (g : TG) (tt : TT) (te : TE) : TE := fun σ H Q => wi σ H fun J H1 => ∀ l, H1 l = none → LCr l J g tt te (sB σ os fi) (upd H1 l (.lst [])) Q
section
variable {X : Cx} {tg iter elt : Expr} {ifs : List Expr} {scope esc : Scope} {pos : Pos} {N os : List Str} {fi : List Nat} {wi : TI} {g : TG} {tt : TT} {te : TE}
theorem comp_core {pins : List (Addr × Obj)} {σ : St} {H : Hp} {s : Shared} {E : Value → Shared → Prop} {it : Addr} {fp : List Addr} {tn : Nat → Heap → Prop} {J : It} {Q : VK} {RR : Value → Addr → Result → Shared → Prop} (hc : X.calm = true) (hN : X.N = N) (he : X.env.scope = esc) (B : BlkOk esc scope N fi)
    (hg : ∀ s H fp, PG (blk X scope (nB N os fi) s H fp) tg g) (ht : ∀ s H fp, PTs (blk X scope (nB N os fi) s H fp) ifs tt) (hel : ∀ s H fp, PE (blk X scope (nB N os fi) s H fp) elt te)
    (I : Inv X pins σ H s) (T : Turn X.prog X.w X.K tg J fp it tn) (st : tn 0 s.heap) (hf : ∀ b ∈ fp, FpOk X pins H b) (q : ∀ l, H l = none → LCr l J g tt te (sB σ os fi) (upd H l (.lst [])) Q)
    (hRR : ∀ D s3 H3 s' σ' H', Inv X pins σ H3 s3 → (∀ b ∈ fp, FpOk X pins H3 b) → Inv (blk X scope (nB N os fi) s3 H3 fp) [] σ' H' s' → Q (.ref D) H' → RR (.ref D) s3.heap.objs.size (.ok .next) s') :
    wpAny (model X.prog X.w) X.A (newList []) (fun acc s3 => wpAny (model X.prog X.w) X.A (newFunctionEnv scope X.env.globals (clOf X.env scope.names []) [] X.env.qual none .none (some X.env)) (fun cenv s4 =>
      codeAny (model X.prog X.w) X.A (.compStart (.ListComp elt [⟨tg, iter, ifs, 0⟩] scope pos) 0 (.ref it) acc { cenv with scope := relabel scope X.env }) (RR acc cenv.locals) s4) E s3) E s := by
  subst hN
  have fresh : H s.heap.objs.size = none := I.hok.fresh (Nat.le_refl _)
  refine wpAny_newObj_type ?_
  have I3 : Inv X pins σ (upd H s.heap.objs.size (.lst [])) { s with heap := s.heap.push { cls := .type "list", dict := none, data := .seq ([] : List Value).toArray } } :=
    I.laid (t' := s.toks) (fun b u e => Heap.get?_push_of_some _ e) (Nat.le_refl _) ⟨Nat.zero_le _, [], 0, .nil, Heap.get?_push_size _ rfl⟩
  have old : ∀ b ∈ fp, ∃ o, s.heap.get? b = some o := fun b hb => by
    obtain ⟨o, e, _⟩ := T.obj _ _ st b hb
    exact ⟨o, e⟩
  have hf3 : ∀ b ∈ fp, FpOk X pins (upd H s.heap.objs.size (.lst [])) b := fun b hb => by
    obtain ⟨o, e⟩ := old b hb
    exact ⟨by rw [upd_ne (Nat.ne_of_lt (Heap.lt_size e))]; exact (hf b hb).1, (hf b hb).2⟩
  have st3 : tn 0 (s.heap.push { cls := .type "list", dict := none, data := .seq ([] : List Value).toArray }) := T.keep _ _ _ st fun b hb o e => Heap.get?_push_of_some _ e
  have q3 := q _ fresh
  have ho3 : ∀ b ∈ fp, ∃ o, (s.heap.push { cls := .type "list", dict := none, data := .seq ([] : List Value).toArray }).get? b = some o := fun b hb => by
    obtain ⟨o, e⟩ := old b hb
    exact ⟨o, Heap.get?_push_of_some _ e⟩
  have RR3 := hRR s.heap.objs.size { s with heap := s.heap.push { cls := .type "list", dict := none, data := .seq ([] : List Value).toArray } } (upd H s.heap.objs.size (.lst []))
  generalize s.heap.objs.size = D at *
  generalize upd H D (.lst []) = H3 at *
  generalize s.heap.push { cls := .type "list", dict := none, data := .seq ([] : List Value).toArray } = h3 at *
  refine wpAny_newFunctionEnv B.nocell (by intro y hy; simp at hy) (fun h4 hn4 sb4 => ?_) B.kind
  have k4 : ∀ b o, h3.get? b = some o → h4.get? b = some o := fun b o e => (sb4.2 b (Nat.ne_of_lt (Heap.lt_size e))).trans (Heap.get?_push_of_some _ e)
  have I4 := blk_inv (os := os) (t1 := s.toks + ([] : List (Str × Value)).length) B he I3 hf3 ho3 k4 hn4
  have st4 : tn 0 h4 := T.keep _ _ _ st3 fun b hb o e => k4 b o e
  obtain ⟨W, ⟨m0, w0⟩, turn⟩ := q3
  have fpB : ∀ {H' : Hp}, (∀ b ∈ fp, H' b = none) → ∀ b ∈ fp, FpOk (blk X scope (nB X.N os fi) { s with heap := h3 } H3 fp) [] H' b := fun hn b hb => by
    refine ⟨hn b hb, (I4.ok.exf b hb).1, I4.ok.exfs b hb, .inl hb, (I4.ok.exf b hb).2, fun p hp => nomatch hp⟩
  have loop : ∀ s4 : Shared, Inv (blk X scope (nB X.N os fi) { s with heap := h3 } H3 fp) [] (sB σ os fi) H3 s4 → tn 0 s4.heap →
      codeAny (model X.prog X.w) X.A (.compLoop (.ListComp elt [⟨tg, iter, ifs, 0⟩] scope pos) 0 (.ref it) (.ref D) (compEnvC scope (clOf X.env scope.names []) h3.objs.size X.env)) (RR (.ref D) h3.objs.size) s4 := by
    intro s4 J4 t4
    refine comp_loop (fun n s' => ∃ i σ' H', Inv (blk X scope (nB X.N os fi) { s with heap := h3 } H3 fp) [] σ' H' s' ∧ tn i s'.heap ∧ (∀ b ∈ fp, H' b = none) ∧ W i n σ' H') ?_ m0 ⟨0, _, _, J4, t4, fun b hb => (hf3 b hb).1, w0⟩
    rintro n s5 ⟨i, σ5, H5, I5, t5, fr5, w5⟩
    rcases turn i n σ5 H5 w5 with ⟨stop, qn⟩ | ⟨go, step⟩
    · refine of_F0 (T.done (blk X scope (nB X.N os fi) { s with heap := h3 } H3 fp) rfl rfl rfl hc i [] s5 σ5 H5 F0 I5 (fpB fr5) t5 stop) fun r s6 ⟨hr, I6⟩ => ?_
      subst hr
      exact RR3 s6 σ5 H5 I3 hf3 I6 qn
    · refine of_F0 (T.item (blk X scope (nB X.N os fi) { s with heap := h3 } H3 fp) rfl rfl rfl hc i [] s5 σ5 H5 F0 I5 (fpB fr5) t5 go) fun r s6 ⟨u, hr, h6⟩ => ?_
      subst hr
      refine of_F0 h6 fun _ s7 ⟨x, H7, I7, r7, y7, t7, fr7⟩ => ?_
      have I7' := I7.pinned (fpB fr7) (T.obj _ _ t7)
      refine of_F0 (hg _ _ _ _ s7 σ5 H7 x u _ I7' r7 (step x H7 y7)) fun _ s8 ⟨σ8, H8, I8, q8⟩ => ?_
      refine of_F0 (ht _ _ _ _ s8 σ8 H8 _ I8 q8) fun ok s9 ⟨H9, I9, q9⟩ => ?_
      have again : ∀ {s' : Shared} {H' : Hp} {m : Nat}, Inv (blk X scope (nB X.N os fi) { s with heap := h3 } H3 fp) ([] ++ pinsAt fp s7.heap) σ8 H' s' → W (i + 1) m σ8 H' →
          ∃ i σ' H', Inv (blk X scope (nB X.N os fi) { s with heap := h3 } H3 fp) [] σ' H' s' ∧ tn i s'.heap ∧ (∀ b ∈ fp, H' b = none) ∧ W i m σ' H' := fun {s' H' m} J w => by
        refine ⟨i + 1, σ8, H', J.unpinned, T.keep _ _ _ t7 fun b hb o e => (J.pin (b, o) (List.mem_append_right _ (List.mem_append_right _ (mem_pinsAt hb e)))).1, fun b hb => ?_, w⟩
        obtain ⟨o, e, d⟩ := T.obj _ _ t7 b hb
        exact (J.pin (b, o) (List.mem_append_right _ (List.mem_append_right _ (mem_pinsAt hb e)))).2.1
      cases ok with
      | false =>
        obtain ⟨m', lt, w9⟩ := (show ∃ m', m' < n ∧ W (i + 1) m' σ8 H9 from q9)
        exact ⟨m', lt, again I9 w9⟩
      | true =>
        refine of_F0 (hel _ _ _ _ s9 σ8 H9 _ I9 q9) fun y sA ⟨v, HA, IA, rA, xs, hx, hz, m', lt, wA⟩ => ?_
        refine of_F0 (mt_append _ sA σ8 HA (.ref D) [v] (.ref D) [y] (fun _ H' => W (i + 1) m' σ8 H') IA rfl (.cons rA .nil) ⟨D, xs, v, rfl, rfl, hx, hz, wA⟩) fun _ sB' ⟨_, HB, IB, _, wB⟩ => ?_
        exact ⟨m', lt, again IB wB⟩
  exact codeAny_compStart_list (loop _ I4 st4) (T.self _ 0 _ _ _ st4 (loop _ I4 st4))
theorem pe_comp (hc : X.calm = true) (hN : X.N = N) (he : X.env.scope = esc) (B : BlkOk esc scope N fi) (hi : PI X tg iter wi)
    (hg : ∀ s H fp, PG (blk X scope (nB N os fi) s H fp) tg g) (ht : ∀ s H fp, PTs (blk X scope (nB N os fi) s H fp) ifs tt) (hel : ∀ s H fp, PE (blk X scope (nB N os fi) s H fp) elt te)
    (hs : ∀ x, foldedSetIterable iter X.env x = pure x := by intro _; rfl) : PE X (.ListComp elt [⟨tg, iter, ifs, 0⟩] scope pos) (tLC os fi wi g tt te) := by
  intro pins s σ H Q I h
  have cells := blk_cells (by rw [hN]; exact B) he I
  rw [eval_ListComp]
  refine wpAny_comprehension_free (use := none) rfl hs (closure_eq cells) B.kind B.loc (thn (hi pins s σ H _ I h) fun v s1 h1 => thn h1 fun itv s2 h2 => ?_)
  obtain ⟨it, fp, tn, J, H2, rfl, I2, T, st2, f2, q2⟩ := h2
  refine comp_core (RR := fun acc C => compPost (model X.prog X.w) X.A X.xe none (EP X pins σ Q) acc C) hc hN he B hg ht hel I2 T st2 f2 q2 ?_
  intro D s3 H3 s' σ' H' I3 f3 I' q
  obtain ⟨m, hn, _⟩ := I'.loc
  exact ⟨m, hn, fun h' sb => ⟨.ref D, H', blk_out I3 f3 I' sb, rfl, q⟩⟩
end
end L2
namespace L2
open PySem PySem.Spec PyProof.Rows
theorem runs_gens {M : Model} {G : PySem.Ctx} {p : Pos} {t : Sem Fin} {fs : List Frame} {a b : Shared} {e : End} (h : Runs M G p t fs a e b) : a.gens.size ≤ b.gens.size := by
  induction h <;> (try simp only [Shared.setGen, Array.size_setIfInBounds, Array.size_push] at *) <;> omega
theorem wakes_gens {M : Model} {G : PySem.Ctx} {p : Pos} {g : Nat} {r : Resume} {a b : Shared} {x : GenResult} (h : Wakes M G p g r a x b) : a.gens.size ≤ b.gens.size := by
  have sz : ∀ (s : Shared) (y : GenState), (s.setGen g y).gens.size = s.gens.size := fun s y => by simp [Shared.setGen]
  unfold Wakes at h
  split at h
  · exact h.elim
  · split at h
    · obtain ⟨e, c, q, _, _, rfl⟩ := h
      have := runs_gens q
      rw [sz] at this ⊢
      exact this
    · rw [h.2]; first | exact Nat.le_refl _ | (rw [sz]; exact Nat.le_refl _)
    · rw [h.2]; first | exact Nat.le_refl _ | (rw [sz]; exact Nat.le_refl _)
  · obtain ⟨e, c, q, _, _, rfl⟩ := h
    have := runs_gens q
    rw [sz] at this ⊢
    exact this
  · rw [h.2]; first | exact Nat.le_refl _ | (rw [sz]; exact Nat.le_refl _)
  · rw [h.2]; first | exact Nat.le_refl _ | (rw [sz]; exact Nat.le_refl _)
theorem wp_gens {α : Type} (M : Model) (G : PySem.Ctx) (k : Nat) (t : Sem α) : ∀ (Q : α → Pos → Shared → Prop) (E : Value → Pos → Shared → Prop) (p : Pos) (a : Shared), k ≤ a.gens.size → Sem.wp M G t Q E p a →
    Sem.wp M G t (fun x p' b => k ≤ b.gens.size ∧ Q x p' b) (fun e p' b => k ≤ b.gens.size ∧ E e p' b) p a := by
  induction t with
  | pure _ => intro Q E p a l h; exact ⟨l, h⟩
  | raise _ => intro Q E p a l h; exact ⟨l, h⟩
  | unsupported _ => intro Q E p a _ h; exact h
  | finish _ => intro Q E p a _ h; exact h
  | rule _ _ ih => intro Q E p a l h; exact ih () Q E p a l h
  | «at» p' _ ih => intro Q E p a l h; exact ih () Q E p' a l h
  | load _ _ _ ih => intro Q E p a l h; obtain ⟨o, z, h⟩ := h; exact ⟨o, z, ih o Q E p a l h⟩
  | update _ _ _ _ ih => intro Q E p a l h; exact ⟨h.1, ih () Q E p _ l h.2⟩
  | loadIfAlive _ _ ih => intro Q E p a l h; exact ih _ Q E p a l h
  | point _ _ ih => intro Q E p a l h; exact ih () Q E p a l h
  | register _ _ => intro Q E p a _ h; exact h
  | alloc _ _ ih => intro Q E p a l h; exact ih _ Q E p _ l h
  | fresh _ ih => intro Q E p a l h; exact ih _ Q E p _ l h
  | ask _ ih => intro Q E p a l h; exact ih _ Q E p a l h
  | choose _ _ _ ih => intro Q E p a l h; exact ⟨h.1, ih _ Q E p _ l h.2⟩
  | os _ _ _ ih => intro Q E p a l h; exact ih _ Q E p _ l h
  | call _ _ _ _ _ ih => intro Q E p a l h; obtain ⟨r, b, z, h⟩ := h; exact ⟨r, b, z, ih r Q E p b (Nat.le_trans l (runs_gens z)) h⟩
  | handled _ _ ih => intro Q E p a l h; exact ih _ Q E p a l h
  | genState _ _ ih => intro Q E p a l h; obtain ⟨x, z, h⟩ := h; exact ⟨x, z, ih _ Q E p a l h⟩
  | newGen _ _ ih => intro Q E p a l h; exact ih _ Q E p _ (by simp only [Array.size_push]; omega) h
  | resume _ _ _ _ ih => intro Q E p a l h; obtain ⟨r, b, z, h⟩ := h; exact ⟨r, b, z, ih r Q E p b (Nat.le_trans l (wakes_gens z)) h⟩
  | yield _ _ _ _ => intro Q E p a _ h; exact h
  | stack _ ih => intro Q E p a l h; exact ih _ Q E p a l h
  | fork _ _ => intro Q E p a _ h; exact h
  | thread _ ih => intro Q E p a l h; exact ih _ Q E p a l h
  | await _ _ _ _ _ => intro Q E p a _ h; exact h
theorem any_gens {α : Type} {M : Model} {A : Around} {t : Sem α} {Q : α → Shared → Prop} {E : Value → Shared → Prop} {a : Shared} {k : Nat} (l : k ≤ a.gens.size) (h : wpAny M A t Q E a) :
    wpAny M A t (fun x b => k ≤ b.gens.size ∧ Q x b) (fun e b => k ≤ b.gens.size ∧ E e b) a := fun G p hG => wp_gens M G k t _ _ p a l (h G p hG)
def gA (A : Around) (e : Env) : Around := ⟨A.handled, A.depth + 1, A.frames.map (e :: ·), A.guards, A.units + 3⟩
abbrev gE (X : Cx) (scope : Scope) (code : Value) (s : Shared) : Env := genEnv scope (clOf X.env scope.names []) s.heap.objs.size code builtinsNs X.env
def gblk (X : Cx) (scope : Scope) (N : List Str) (code : Value) (s : Shared) (H : Hp) (fp : List Addr) : Cx :=
  { X with A := gA X.A.in1.in1 (gE X scope code s), N := N, s₀ := s, H₀ := H, env := gE X scope code s, outer := X.stack, stack := gE X scope code s :: X.stack, ex := fp, fn := fun _ => false, pn := [], xe := fun _ _ => False }
section
variable {X : Cx} {pins : List (Addr × Obj)} {σ : St} {H : Hp} {s : Shared} {scope esc : Scope} {os : List Str} {fi : List Nat} {fp : List Addr} {code : Value}
theorem gblk_ok (B : BlkOk esc scope X.N fi) (he : X.env.scope = esc) (I : Inv X pins σ H s) (hf : ∀ b ∈ fp, FpOk X pins H b) (ho : ∀ b ∈ fp, ∃ o, s.heap.get? b = some o) : (gblk X scope (nB X.N os fi) code s H fp).Ok where
  mod := I.ok.mod
  kind := B.kind
  glob := I.ok.glob
  blt := rfl
  above := Nat.le_refl _
  inj := fun x y c h1 h2 => I.ok.inj x y c (blk_cl B he I h1) (blk_cl B he I h2)
  has := fun x h => by
    rcases h with h | h
    · exact absurd rfl (B.nocell _ (mem_of_look h))
    · exact ⟨_, clOf_has (mem_of_look h)⟩
  cab := fun x c h _ => nomatch h
  hd := I.ok.hd
  frames := by
    show (X.A.in1.in1.frames).map (gE X scope code s :: ·) = _
    rw [show X.A.in1.in1.frames = X.A.frames from rfl, I.ok.frames]
    rfl
  stk := .inr ⟨rfl, rfl⟩
  exf := fun b hb => by
    obtain ⟨o, e⟩ := ho b hb
    exact ⟨Nat.ne_of_lt (Heap.lt_size e), fun x c h => (hf b hb).2.2.2.2.1 x c (blk_cl B he I h)⟩
  bs := I.bs
  bsz := Nat.le_trans I.ok.bsz I.sz
  noex := (blk_ok (os := os) B he I hf ho).noex
  exfs := (blk_ok (os := os) B he I hf ho).exfs
  funs := I.stack
  frf := I.stkFree
theorem gblk_inv {h1 : Heap} {t1 : Nat} {g1 : Array GenState} {m1 : Str → Option Value} (B : BlkOk esc scope X.N fi) (he : X.env.scope = esc) (I : Inv X pins σ H s) (hf : ∀ b ∈ fp, FpOk X pins H b) (ho : ∀ b ∈ fp, ∃ o, s.heap.get? b = some o)
    (k : ∀ b o, s.heap.get? b = some o → h1.get? b = some o) (hn : h1.Ns s.heap.objs.size m1) (hb : AllBare g1) : Inv (gblk X scope (nB X.N os fi) code s H fp) [] (sB σ os fi) H { s with heap := h1, toks := t1, gens := g1 } where
  ok := gblk_ok B he I hf ho
  os := rfl
  bare := hb
  base := Un.kept k
  loc := by
    obtain ⟨m, hm, hl⟩ := (blk_inv (os := os) (t1 := t1) B he I hf ho k hn).loc
    refine ⟨m1, hn, fun j x v e1 e2 e3 => ?_⟩
    have e3' : Vis (relabel scope X.env) x := by
      rcases e3 with e3 | e3 | e3
      · exact .inl (lookup_relabel_local e3)
      · exact absurd rfl (B.nocell _ (mem_of_look e3))
      · rcases relabel_free (env := X.env) e3 with z | z
        · exact .inr (.inl z)
        · exact .inr (.inr z)
    obtain ⟨u, r, l⟩ := hl j x v e1 e2 e3'
    refine ⟨u, r, ?_⟩
    have kx : scope.names.lookup x = some .free := by
      rcases e3 with e3 | e3 | e3
      · have hj : os.length ≤ j := by
          by_cases hj : j < os.length
          · have z : (sB σ os fi)[j]? = some (some v) := e2
            unfold sB at z
            rw [List.getElem?_append_left (by simpa using hj), List.getElem?_map] at z
            cases q : os[j]? with
            | none => rw [q] at z; cases z
            | some _ => rw [q] at z; cases z
          · omega
        have z1 : (nB X.N os fi)[j]? = some x := e1
        unfold nB at z1
        rw [List.getElem?_append_right hj, List.getElem?_map] at z1
        cases q : fi[j - os.length]? with
        | none => rw [q] at z1; cases z1
        | some i =>
          rw [q] at z1
          have w1 : X.N.getD i "" = x := Option.some.inj z1
          rw [← w1]
          exact B.ix i (List.mem_of_getElem? q)
      · exact absurd rfl (B.nocell _ (mem_of_look e3))
      · exact e3
    rcases l with ⟨a, _⟩ | ⟨_, c, e, ic⟩
    · have a' : (relabel scope X.env).names.lookup x = some .local := a
      rcases relabel_free (env := X.env) kx with z | z
      · have z' : (relabel scope X.env).names.lookup x = some .cell := z
        rw [z'] at a'; cases a'
      · have z' : (relabel scope X.env).names.lookup x = some .free := z
        rw [z'] at a'; cases a'
    · exact .inr ⟨.inr kx, c, e, ic⟩
  cell := (blk_inv (os := os) (t1 := t1) B he I hf ho k hn).cell
  free := I.hok.fresh (Nat.le_refl _)
  freeC := fun x c h => I.freeC x c (blk_cl B he I h)
  pin := fun p hp => nomatch hp
  hok := I.hok.kept k
  len := by
    show (sB σ os fi).length = (nB X.N os fi).length
    unfold sB nB
    simp
theorem gblk_out {N : List Str} {s' : Shared} {H' : Hp} {σ' : St} {pins' : List (Addr × Obj)} {h' : Heap} {g' : Array GenState} (I : Inv X pins σ H s) (hf : ∀ b ∈ fp, FpOk X pins H b) (I' : Inv (gblk X scope N code s H fp) pins' σ' H' s')
    (k : ∀ b o, s'.heap.get? b = some o → h'.get? b = some o) (hb : AllBare g') : Inv X pins σ H' { s' with heap := h', gens := g' } := by
  have un : Un (frs X.stack) fp H H' s.heap h' := by
    have u : Un (frs X.stack) fp H H' s.heap s'.heap := I'.base
    exact ⟨fun b o e n hb hx => k b o (u.keep b o e n hb hx), fun b o e n hb hx => by
        obtain ⟨sl, q⟩ := u.slot b o e n hb hx
        exact ⟨sl, k b _ q⟩, u.free, fun b o e hx => by
        obtain ⟨o', q⟩ := u.there b o e hx
        exact ⟨o', k b o' q⟩, u.tups, u.frzs, u.tbls⟩
  have hok : HOk X.prog X.w H' h' := I'.hok.kept k
  obtain ⟨hh, g, d, t, os'⟩ := s'
  obtain rfl : os' = s.os := I'.os
  have J := I.call (h' := h') (g' := g') (d' := d) (t' := t) (ch := fp) un hok hb fun b hb => ⟨(hf b hb).2.2.2.1, (hf b hb).2.1, (hf b hb).2.2.2.2.1, (hf b hb).2.2.2.2.2⟩
  exact J
end
end L2
namespace L2
open PySem PySem.Spec PyProof.Rows
theorem bare_set {a : Array GenState} {g : Nat} {y : GenState} (h : AllBare a) (hy : y.bare = true) : AllBare (a.setIfInBounds g y) := fun z hz => by
  obtain ⟨i, hi, rfl⟩ := Array.mem_iff_getElem.mp hz
  have hi' : i < a.size := by simpa using hi
  rw [Array.getElem_setIfInBounds hi']
  split
  · exact hy
  · exact h _ (Array.getElem_mem _)
theorem setGen_size {s : Shared} {g : Nat} {y : GenState} : (s.setGen g y).gens.size = s.gens.size := by simp [Shared.setGen]
theorem setGen_get {s : Shared} {g : Nat} {y : GenState} (h : g < s.gens.size) : (s.setGen g y).gens[g]? = some y := by simp [Shared.setGen, h]
theorem setGen_two {s : Shared} {g : Nat} {x y : GenState} : (s.setGen g x).setGen g y = s.setGen g y := by
  simp [Shared.setGen]
theorem Inv.gens {X : Cx} {pins : List (Addr × Obj)} {σ : St} {H : Hp} {s : Shared} {g : Array GenState} (I : Inv X pins σ H s) (h : AllBare g) : Inv X pins σ H { s with gens := g } :=
  ⟨I.ok, I.os, h, I.base, I.loc, I.cell, I.free, I.freeC, I.pin, I.hok, I.len⟩
theorem Inv.setGen {X : Cx} {pins : List (Addr × Obj)} {σ : St} {H : Hp} {s : Shared} {g : Nat} {y : GenState} (I : Inv X pins σ H s) (h : y.bare = true) : Inv X pins σ H (s.setGen g y) := I.gens (bare_set I.bare h)
def GLr (J : It) (g : TG) (te : TE) (σb : St) (H : Hp) (Q : VK) : Prop := ∃ W : Nat → Nat → St → Hp → Prop, (∃ m, W 0 m σb H) ∧ ∀ i m σ2 H2, W i m σ2 H2 →
  (J.stop i H2 ∧ Q (.bl true) H2) ∨ (J.go i H2 ∧ ∀ x H3, J.yld i H2 x H3 → g x σ2 H3 fun σ4 H4 => te σ4 H4 fun v H5 => ∃ b, v = .bl b ∧ if b = true then ∃ m', m' < m ∧ W (i + 1) m' σ4 H5 else Q (.bl false) H5)
def gR (Y : Cx) (ps : List (Addr × Obj)) (Q : VK) : Nat → Shared → Shared → Prop := fun _ _ s => ∃ σ H, Inv Y ps σ H s ∧ Q (.bl true) H
def gY (Y : Cx) (ps : List (Addr × Obj)) (g : Nat) (Q : VK) : Protocol := fun _ _ v s kap => ∃ b, v = .bool b ∧ g < s.gens.size ∧ ∃ σ H, Inv Y ps σ H s ∧ if b = true then kap (.send .none) (s.setGen g .running) else Q (.bl false) H
section
variable {X Y : Cx} {tg iter elt : Expr} {scope : Scope} {pos : Pos} {g : TG} {te : TE} {it : Addr} {fp : List Addr} {tn : Nat → Heap → Prop} {J : It} {Q : VK} {gn : Nat} {ps : List (Addr × Obj)} {W : Nat → Nat → St → Hp → Prop}
theorem seg_gen (hY : Y.A = gA X.A.in1.in1 Y.env) (hx : Y.xe = F0) (hc : Y.calm = true) (hco : Y.env.scope.isCoroutine = false) (hg : PG Y tg g) (hel : PE Y elt te) (T : Turn Y.prog Y.w Y.K tg J fp it tn)
    (stat : ∀ {H : Hp}, (∀ b ∈ fp, H b = none) → ∀ b ∈ fp, FpOk Y ps H b)
    (turn : ∀ i m σ2 H2, W i m σ2 H2 → (J.stop i H2 ∧ Q (.bl true) H2) ∨ (J.go i H2 ∧ ∀ x H3, J.yld i H2 x H3 → g x σ2 H3 fun σ4 H4 => te σ4 H4 fun v H5 => ∃ b, v = .bl b ∧ if b = true then ∃ m', m' < m ∧ W (i + 1) m' σ4 H5 else Q (.bl false) H5)) :
    ∀ (n m i : Nat) (σ : St) (H : Hp) (s₀ s : Shared), m < n → gn < s.gens.size → Inv Y ps σ H s → tn i s.heap → (∀ b ∈ fp, H b = none) → W i m σ H →
      Seg (model Y.prog Y.w) X.A.in1.in1 (fun n s₀ r s₁ => r = .ok .next ∧ gR Y ps Q n s₀ s₁) (gY Y ps gn Q) n s₀ (.compLoop (.GeneratorExp elt [⟨tg, iter, [], 0⟩] scope pos) 0 (.ref it) .none Y.env)
        ((model Y.prog Y.w).den (.compLoop (.GeneratorExp elt [⟨tg, iter, [], 0⟩] scope pos) 0 (.ref it) .none Y.env)) [] s := by
  have up : ∀ {α : Type} {t : Sem α} {P P' : α → Shared → Prop} {E : Value → Shared → Prop} {s : Shared} {k : Nat}, k < s.gens.size → wpAny (model Y.prog Y.w) Y.A t P Y.xe s → (∀ a s', k < s'.gens.size → P a s' → P' a s') →
      wpAny (model Y.prog Y.w) (X.A.in1.in1.over (.compLoop (.GeneratorExp elt [⟨tg, iter, [], 0⟩] scope pos) 0 (.ref it) .none Y.env) []) t P' E s := fun {α t P P' E s k} l h f => by
    rw [hY, hx] at h
    exact wpAny_mono (any_gens (k := k + 1) l h) (fun a s' z => f a s' z.1 z.2) fun _ _ z => z.2.elim
  intro n
  induction n with
  | zero => intro m i σ H s₀ s lt; omega
  | succ n ih =>
    intro m i σ H s₀ s lt lg I t0 fr w
    show Seg _ _ _ _ _ s₀ _ ((compTurn (.GeneratorExp elt [⟨tg, iter, [], 0⟩] scope pos) 0 (.ref it) .none Y.env).onRaise (leaving Y.env)) [] s
    rw [compTurn_gen, Sem.onRaise_eq_wrap]
    refine seg_bind_wrap (wpAny_standAt ?_)
    rcases turn i m σ H w with ⟨stop, q⟩ | ⟨go, step⟩
    · refine seg_bind_wrap (up lg (T.done Y rfl rfl rfl hc i ps s σ H Y.xe I (stat fr) t0 stop) fun r s1 _ ⟨hr, I1⟩ => ?_)
      subst hr
      exact seg_end (.ok .next) ⟨rfl, σ, H, I1, q⟩
    · refine seg_bind_wrap (up lg (T.item Y rfl rfl rfl hc i ps s σ H Y.xe I (stat fr) t0 go) fun r s1 l1 ⟨u, hr, h1⟩ => ?_)
      subst hr
      refine seg_bind_wrap (up l1 h1 fun _ s2 l2 ⟨x, H2, I2, r2, y2, t2, fr2⟩ => ?_)
      have I2' := I2.pinned (stat fr2) (T.obj _ _ t2)
      refine seg_bind_wrap (up l2 (hg _ s2 σ H2 x u _ I2' r2 (step x H2 y2)) fun _ s3 l3 ⟨σ3, H3, I3, q3⟩ => ?_)
      refine seg_bind_wrap (wpAny_pure ?_)
      simp only [if_true]
      have hy : ∀ v, yieldOut Y.env v = yieldValue v := fun v => by simp only [yieldOut, hco, Bool.false_eq_true, if_false]
      simp only [hy]
      rw [Sem.bind_eq_wrap', Sem.bind_eq_wrap', Sem.wrap_wrap, Sem.wrap_wrap]
      refine seg_wrap (up l3 (hel _ s3 σ3 H3 _ I3 q3) fun y s4 l4 ⟨v, H4, I4, r4, b, hv, q4⟩ => ?_)
      subst hv
      obtain rfl : y = Value.bool b := r4
      refine seg_at (seg_yield rfl rfl rfl ⟨b, rfl, l4, σ3, H4, I4.unpinned, ?_⟩)
      cases b with
      | false => exact q4
      | true =>
        obtain ⟨m', lt', w'⟩ := (show ∃ m', m' < m ∧ W (i + 1) m' σ3 H4 from q4)
        have t4 : tn (i + 1) s4.heap := T.keep _ _ _ t2 fun b hb o e => (I4.pin (b, o) (List.mem_append_right _ (List.mem_append_right _ (mem_pinsAt hb e)))).1
        have fr4 : ∀ b ∈ fp, H4 b = none := fun b hb => by
          obtain ⟨o, e, d⟩ := T.obj _ _ t2 b hb
          exact (I4.pin (b, o) (List.mem_append_right _ (List.mem_append_right _ (mem_pinsAt hb e)))).2.1
        exact seg_again rfl (ih m' (i + 1) σ3 H4 _ _ (by omega) (by rw [setGen_size]; exact l4) (I4.unpinned.setGen rfl) t4 fr4 w')
theorem seg_gen0 (hY : Y.A = gA X.A.in1.in1 Y.env) (hx : Y.xe = F0) (T : Turn Y.prog Y.w Y.K tg J fp it tn) {n : Nat} {s₀ s : Shared} {R : GenEnd} {P : Protocol} (t0 : tn 0 s.heap)
    (h : Seg (model Y.prog Y.w) X.A.in1.in1 R P n s₀ (.compLoop (.GeneratorExp elt [⟨tg, iter, [], 0⟩] scope pos) 0 (.ref it) .none Y.env)
        ((model Y.prog Y.w).den (.compLoop (.GeneratorExp elt [⟨tg, iter, [], 0⟩] scope pos) 0 (.ref it) .none Y.env)) [] s) :
    Seg (model Y.prog Y.w) X.A.in1.in1 R P n s₀ (.compStart (.GeneratorExp elt [⟨tg, iter, [], 0⟩] scope pos) 0 (.ref it) .none Y.env)
        ((model Y.prog Y.w).den (.compStart (.GeneratorExp elt [⟨tg, iter, [], 0⟩] scope pos) 0 (.ref it) .none Y.env)) [] s := by
  show Seg _ _ _ _ _ s₀ _ ((compStart (.GeneratorExp elt [⟨tg, iter, [], 0⟩] scope pos) 0 (.ref it) .none Y.env).onRaise (leaving Y.env)) [] s
  unfold compStart
  rw [Sem.onRaise_eq_wrap]
  show Seg _ _ _ _ _ s₀ _ ((ask >>= _).wrap _ _ _ _) [] s
  refine seg_bind_wrap (wpAny_askSetting ?_)
  split
  · exact seg_again rfl h
  · refine seg_bind_wrap (wpAny_rule ?_)
    show Seg _ _ _ _ _ s₀ _ ((standAt iter.pos >>= _).wrap _ _ _ _) [] s
    exact seg_bind_wrap (wpAny_standAt (seg_bind_wrap (T.self _ 0 s _ _ t0 (seg_again rfl h))))
theorem all_gen {pins : List (Addr × Obj)} {σ : St} {a : Addr} {oa : Obj} {E : Value → Shared → Prop} {RR : Result → Shared → Prop} (hh : X.A.handled = none) (hroom : X.A.depth < recursionLimit) (hpa : (a, oa) ∈ ps) (hga : ∀ h : Heap, h.get? a = some oa → h.IsGen a gn)
    (ht : ∀ (s : Shared) (h' : Heap) (y : GenState) (σ' : St) (H' : Hp), Inv Y ps σ' H' s → (∀ b o, s.heap.get? b = some o → h'.get? b = some o) → y.bare = true → Q (.bl true) H' → RR (.ok (.ret (.bool true))) { s.setGen gn y with heap := h' })
    (hf : ∀ (s : Shared) (y : GenState) (σ' : St) (H' : Hp), Inv Y ps σ' H' s → y.bare = true → Q (.bl false) H' → RR (.ok (.ret (.bool false))) (s.setGen gn y)) :
    ∀ (n : Nat) (gs : GenState) (s : Shared), s.heap.IsGen a gn → s.heap.NoLimit → s.gens[gn]? = some gs →
      gs.Goes (model Y.prog Y.w) X.A.in1.in1 (fun n s₀ r s₁ => r = .ok .next ∧ gR Y ps Q n s₀ s₁) (gY Y ps gn Q) n (.send .none) (s.setGen gn .running) →
      codeAny (model Y.prog Y.w) X.A (.builtin "all.loop" ⟨[.ref a], []⟩) RR s := by
  intro n
  induction n with
  | zero =>
    intro gs s hg hl hgs go
    refine codeAny_builtin F.entry_all_loop ?_
    rw [Around.under_plainId F.plain_all_loop _]
    show wpAny _ X.A.in1 (pyNext (.ref a) >>= _) _ _ s
    refine wpAny_bind (wpAny_pyNext_genexpQ (P := gR Y ps Q) hh hl hroom hg hgs go (fun v s1 gs' hb hv => ?_) (fun s1 hp h' hk => ?_))
    · obtain ⟨b, rfl, lt, σ', H', I', q⟩ := hv
      refine wpAny_bind (wpAny_holding (wpAny_truthy_bool ?_))
      refine wpAny_bind (wpAny_letGo ?_)
      cases b with
      | true => exact False.elim q
      | false =>
        simp only [Bool.false_eq_true, if_false]
        exact wpAny_bind (wpAny_rule (wpAny_pure (hf s1 gs' σ' H' I' hb q)))
    · obtain ⟨σ', H', I', q⟩ := hp
      exact wpAny_bind (wpAny_rule (wpAny_pure (ht s1 h' .finished σ' H' I' hk rfl q)))
  | succ n ih =>
    intro gs s hg hl hgs go
    refine codeAny_builtin F.entry_all_loop ?_
    rw [Around.under_plainId F.plain_all_loop _]
    show wpAny _ X.A.in1 (pyNext (.ref a) >>= _) _ _ s
    refine wpAny_bind (wpAny_pyNext_genexpQ (P := gR Y ps Q) hh hl hroom hg hgs go (fun v s1 gs' hb hv => ?_) (fun s1 hp h' hk => ?_))
    · obtain ⟨b, rfl, lt, σ', H', I', q⟩ := hv
      refine wpAny_bind (wpAny_holding (wpAny_truthy_bool ?_))
      refine wpAny_bind (wpAny_letGo ?_)
      cases b with
      | true =>
        simp only [if_true]
        refine wpAny_pure ⟨plainId_quiet F.plain_all_loop _, ih gs' _ (hga _ (I'.pin _ (List.mem_append_right _ hpa)).1) I'.nolimit (setGen_get lt) ?_⟩
        rw [setGen_two]
        exact q
      | false =>
        simp only [Bool.false_eq_true, if_false]
        exact wpAny_bind (wpAny_rule (wpAny_pure (hf s1 gs' σ' H' I' hb q)))
    · obtain ⟨σ', H', I', q⟩ := hp
      exact wpAny_bind (wpAny_rule (wpAny_pure (ht s1 h' .finished σ' H' I' hk rfl q)))
end
end L2
namespace L2
open PySem PySem.Spec PyProof.Rows
structure CodeK (K : PySem.W.Frag) (c P : Addr) : Prop where
  ex : ∃ (o : Obj) (vs : Array Value) (file : Str) (tf : Tok) (flags : Int) (tk : Tok) (inF : Bool) (text : Int) (tt : Tok), K.lookup c = some o ∧ o.cls = .type "code" ∧ o.data = .fields vs ∧ vs[11]? = some (.ref P) ∧ vs.getD 18 .none = .str file tf ∧
    vs.getD 7 .none = .int flags tk ∧ vs.getD 9 .none = .bool inF ∧ vs.getD 10 .none = .int text tt
  ne : c ≠ P
structure BmK (X : Cx) : Prop where
  ex : ∃ (bm : Addr) (ob : Obj), X.mg "__builtins__" = some (.ref bm) ∧ bm ≠ builtinsNs ∧ X.base.get? bm = some ob ∧ ob.cls = .type "module" ∧ ob.dict = some builtinsNs ∧ ob.data = .plain
theorem upd_self {H : Hp} {p : Addr} {o : HO} (h : H p = some o) : upd H p o = H := by
  funext b
  by_cases e : b = p
  · subst e; rw [upd_same, h]
  · rw [upd_ne e]
section
variable {X : Cx} {pins : List (Addr × Obj)} {σ : St} {H : Hp} {s : Shared} {c P : Addr}
theorem tab_step {E : Value → Shared → Prop} {pos : Pos} {qn : Str} {scope : Scope} {ps : Array Value} (I : Inv X pins σ H s) (hc : X.env.code = .ref c) (C : CodeK X.K c P) (hP : H P = some (.tbl ps)) (tr : TriplesOk ps.toList) :
    wpAny (model X.prog X.w) X.A (genexprCode X.env pos qn scope) (fun code s' => ∃ ps', TriplesOk ps'.toList ∧ Inv X pins σ (upd H P (.tbl ps')) s' ∧ (∀ b o, b ≠ P → s.heap.get? b = some o → s'.heap.get? b = some o)) E s := by
  obtain ⟨o, vs, file, tf, flags, tk, inF, text, tt, lk, cl, d, h11, h18, h7, h9, h10⟩ := C.ex
  have ho := I.kIn c o lk
  have hp : s.heap.get? P = some { cls := .none, data := .fields ps } := I.hok P _ hP
  have g11 : vs.getD 11 .none = .ref P := by
    rw [Array.getD_eq_getD_getElem?, h11]; rfl
  have hok : s.heap.IsCode c P ps := ⟨o, vs, file, tf, flags, tk, inF, text, tt, _, ho, d, g11, h18, h7, h9, h10, hp, rfl, tr, C.ne⟩
  have htab : s.heap.TableAt c P ps := ⟨⟨o, vs, ho, cl, d, h11⟩, hp⟩
  cases hnf : codeAmong pos ps.toList with
  | some c' => exact wpAny_genexprCode_hit hc hok hnf ⟨ps, tr, by rw [upd_self hP]; exact I, fun b o _ e => e⟩
  | none =>
    refine wpAny_genexprCodeX hc hok htab hnf fun c' h' tk ext _ _ _ _ tab _ => ?_
    have tr' : TriplesOk (ps ++ #[rawInt pos.line, rawInt pos.col, .ref c']).toList := by
      rw [Array.toList_append]
      exact TriplesOk_snoc _ _ _ _ tr
    refine ⟨_, tr', ?_, fun b o hb e => ext b o hb e⟩
    have ne : ∀ b, H b = none → b ≠ P := fun b n z => by rw [z, hP] at n; cases n
    have neT : ∀ b u, H b = some u → (∀ q, u ≠ .tbl q) → b ≠ P := fun b u e n z => by rw [z, hP] at e; cases e; exact n _ rfl
    refine I.un (t' := tk) ⟨fun b o e n _ _ => ext b o (ne b n) e, fun b o e n _ _ => ⟨o.slots, ext b o (ne b n) e⟩, fun b o e n _ => by rw [upd_ne (ne b n)]; exact n, fun b o e _ => ?_, fun b xs e => by rw [upd_ne (neT b _ e fun _ z => nomatch z)]; exact e,
      fun b o u e => by rw [upd_ne (neT b _ e fun _ z => nomatch z)]; exact e, fun b qs e => ?_⟩ fun b u e => ?_
    · by_cases hb : b = P
      · subst hb; exact ⟨_, tab.2⟩
      · exact ⟨o, ext b o hb e⟩
    · by_cases hb : b = P
      · subst hb
        rw [hP] at e; cases e
        exact ⟨_, upd_same⟩
      · exact ⟨#[], by rw [upd_ne hb, e]; simp⟩
    · by_cases hb : b = P
      · subst hb
        rw [upd_same] at e; cases e
        exact tab.2
      · rw [upd_ne hb] at e
        refine (I.hok b u e).stay (fun d v hd q => ext d v ?_ q) (fun d q => by rw [upd_ne (neT d _ q fun _ z => nomatch z)]; exact q) fun d xs q => by rw [upd_ne (neT d _ q fun _ z => nomatch z)]; exact q
        rcases hd with z | z
        · rw [z]; exact hb
        · exact neT d _ z fun _ y => nomatch y
end
def tAll (P : Addr) (os : List Str) (fi : List Nat) (wi : TI) (g : TG) (te : TE) : TE := fun σ H Q => wi σ H fun J H1 => ∃ ps, H1 P = some (.tbl ps) ∧ TriplesOk ps.toList ∧ ∀ ps', TriplesOk ps'.toList → GLr J g te (sB σ os fi) (upd H1 P (.tbl ps')) Q
theorem Room.gen {k : Nat} {A : Around} {e : Env} (r : Room (k + 1) A) : Room k (gA A.in1.in1 e) :=
  ⟨r.hd, by have := r.dp; show A.depth + 1 + 3 * k + 5 < _; omega, by have := r.un; show A.units + 1 + 1 + 3 + 16 * k + 200 < _; omega⟩
section
variable {X : Cx} {tg iter elt : Expr} {scope esc : Scope} {pos gpos p : Pos} {N os : List Str} {fi : List Nat} {wi : TI} {g : TG} {te : TE} {c P : Addr} {k : Nat}
theorem pe_all (hc : X.calm = true) (hr : Room k X.A) (hgl : Gl X "all") (hm : X.mg "all" = none) (hcd : X.env.code = .ref c) (CK : CodeK X.K c P) (BM : BmK X) (hN : X.N = N) (he : X.env.scope = esc) (B : BlkOk esc scope N fi) (hco : scope.isCoroutine = false) (h0 : scope.names.lookup (".0" : Str) = some NameKind.local) (hi : PI X tg iter wi)
    (hg : ∀ code s H fp, PG (gblk X scope (nB N os fi) code s H fp) tg g) (hel : ∀ code s H fp, PE (gblk X scope (nB N os fi) code s H fp) elt te)
    (hs : ∀ x, genFold iter X.env x = pure x := by intro _; rfl) : PE X (.Call (.Name "all" p) [.GeneratorExp elt [⟨tg, iter, [], 0⟩] scope gpos] [] pos) (tAll P os fi wi g te) := by
  intro pins s σ H Q I h
  subst hN
  have cells := blk_cells B he I
  have hroom : X.A.depth < recursionLimit := by have := hr.dp; omega
  refine wpAny_Call_Name_kw (ld_blt I hgl hm boot_all ?_)
  refine PyProof.Rows.callWith_builtin1 ?_ rfl rfl
  show wpAny _ _ (spliced ((false, eval (.GeneratorExp elt [⟨tg, iter, [], 0⟩] scope gpos) X.env) :: backTo pos (starEach [] X.env))) _ _ s
  refine Calls.spliced_cons (wpAny_GeneratorExp_make hco (closure_eq cells) B.nocell h0 B.kind hroom (thn (hi pins s σ H _ I h) fun v s1 h1 => thn h1 fun itv s2 h2 => ?_) hs)
  obtain ⟨it, fp, tn, J, H2, rfl, I2, T, st2, f2, qs, hP, tr, q2⟩ := h2
  refine ⟨I2.nolimit, thn (tab_step I2 hcd CK hP tr) fun code s3 ⟨qs', tr', I3, k3⟩ => ?_⟩
  obtain ⟨bm, ob, b1, b2, b3, b4, b5, b6⟩ := BM.ex
  refine wpAny_builtinsFor (by rw [I3.ok.glob]; exact I3.mod.glob.keeps I3.bk) b1 b2 (I3.bk _ _ b3) b4 b5 b6 ?_
  intro h4 hn4 sb4
  refine Calls.spliced_nil ?_
  have q3 := q2 qs' tr'
  have fpP : ∀ b ∈ fp, b ≠ P := fun b hb z => by
    have := (f2 b hb).1
    rw [z, hP] at this; cases this
  have f3 : ∀ b ∈ fp, FpOk X pins (upd H2 P (.tbl qs')) b := fun b hb => ⟨by rw [upd_ne (fpP b hb)]; exact (f2 b hb).1, (f2 b hb).2⟩
  have st3 : tn 0 s3.heap := T.keep _ _ _ st2 fun b hb o e => k3 b o (fpP b hb) e
  generalize upd H2 P (.tbl qs') = H3 at *
  have k4 : ∀ b o, s3.heap.get? b = some o → h4.get? b = some o := fun b o e => (sb4.2 b (Nat.ne_of_lt (Heap.lt_size e))).trans (Heap.get?_push_of_some _ e)
  have ho3 : ∀ b ∈ fp, ∃ o, s3.heap.get? b = some o := fun b hb => by
    obtain ⟨o, e, _⟩ := T.obj _ _ st3 b hb
    exact ⟨o, e⟩
  have sz4 : s3.heap.objs.size < h4.objs.size := hn4.lt
  obtain ⟨oa, hoa⟩ : ∃ oa : Obj, oa = { cls := .type "generator", data := .fields #[.int s3.gens.size 0, .str "<genexpr>" (s3.toks + 1), .str (X.env.qual ++ "<genexpr>") (s3.toks + 1 + 1)] } := ⟨_, rfl⟩
  rw [← hoa]
  have ga : (h4.push oa).get? h4.objs.size = some oa := Heap.get?_push_size _ (by rw [hoa]; rfl)
  have isg : ∀ h : Heap, h.get? h4.objs.size = some oa → h.IsGen h4.objs.size s3.gens.size := fun h e => ⟨oa, _, _, e, by rw [hoa], by rw [hoa], by rw [hoa]⟩
  have hn5 : (h4.push oa).Ns s3.heap.objs.size (fun y => if y = ".0" then some (Value.ref it) else none) := hn4.keeps fun b o e => Heap.get?_push_of_some _ e
  have k5 : ∀ b o, s3.heap.get? b = some o → (h4.push oa).get? b = some o := fun b o e => Heap.get?_push_of_some _ (k4 b o e)
  have cde : ∃ gc : GenState, gc = .fresh (.compStart (.GeneratorExp elt [⟨tg, iter, [], 0⟩] scope gpos) 0 (.ref it) .none (gE X scope code s3)) := ⟨_, rfl⟩
  obtain ⟨gc, hgc⟩ := cde
  show wpAny _ _ (call (.builtin "all") [.ref h4.objs.size]) _ _ { s3 with gens := s3.gens.push (.fresh (.compStart (.GeneratorExp elt [⟨tg, iter, [], 0⟩] scope gpos) 0 (.ref it) .none (gE X scope code s3))), toks := s3.toks + 1 + 1 + 1, heap := h4.push oa }
  rw [← hgc]
  have bare5 : AllBare (s3.gens.push gc) := I3.bare.push (by rw [hgc]; rfl)
  obtain ⟨W, ⟨m0, w0⟩, turn⟩ := q3
  refine call_function_tree F.kind_all F.plain_all F.entry_all (F.args_all1 _) ?_
  unfold Builtin.«all»
  refine wpAny_bind (m := oneArg "all" _) (wpAny_pure ?_)
  refine wpAny_bind (wpAny_pyIter_gen (isg _ ga) ?_)
  refine wpAny_pure ⟨plainId_quiet F.plain_all_loop _, ?_⟩
  have IY : Inv (gblk X scope (nB X.N os fi) code s3 H3 fp) [(h4.objs.size, oa)] (sB σ os fi) H3 (({ s3 with gens := s3.gens.push gc, toks := s3.toks + 1 + 1 + 1, heap := h4.push oa } : Shared).setGen s3.gens.size .running) := by
    have J0 := gblk_inv (os := os) (code := code) (t1 := s3.toks + 1 + 1 + 1) B he I3 f3 ho3 k5 hn5 bare5
    refine (J0.pins_of fun p hp => ?_).setGen rfl
    obtain rfl := List.mem_singleton.mp hp
    refine ⟨ga, I3.hok.fresh (Nat.le_of_lt sz4), Nat.ne_of_gt sz4, fun z => ?_, fun v => by rw [hoa]; exact fun z => nomatch z⟩
    have z' : h4.objs.size ∈ frs X.stack := z
    rcases List.mem_cons.mp (I3.stkSub _ z') with e | e
    · exact absurd (Nat.lt_trans I3.lt sz4) (by rw [e]; exact Nat.lt_irrefl _)
    · exact I3.nofs (Nat.le_of_lt sz4) e
  have stat : ∀ {H' : Hp}, (∀ b ∈ fp, H' b = none) → ∀ b ∈ fp, FpOk (gblk X scope (nB X.N os fi) code s3 H3 fp) [(h4.objs.size, oa)] H' b := fun hn b hb => by
    refine ⟨hn b hb, (IY.ok.exf b hb).1, IY.ok.exfs b hb, .inl hb, (IY.ok.exf b hb).2, fun p hp => ?_⟩
    obtain rfl := List.mem_singleton.mp hp
    obtain ⟨o, e⟩ := ho3 b hb
    exact Nat.ne_of_gt (Nat.lt_trans (Heap.lt_size e) sz4)
  have lg : s3.gens.size < (s3.gens.push gc).size := by rw [Array.size_push]; omega
  refine all_gen (X := X) (Y := gblk X scope (nB X.N os fi) code s3 H3 fp) (Q := Q) (ps := [(h4.objs.size, oa)]) (pins := pins) (σ := σ) (E := X.xe) hr.hd hroom (List.mem_singleton.mpr rfl) isg
    (fun s' h' y σ' H' I' kk hb q => by
      have J := gblk_out (h' := h') I3 f3 I' kk (bare_set (g := s3.gens.size) I'.bare hb)
      exact ⟨.bl true, H', J, rfl, q⟩) (fun s' y σ' H' I' hb q => by
      have J := gblk_out (h' := s'.heap) I3 f3 I' (fun _ _ e => e) (bare_set (g := s3.gens.size) I'.bare hb)
      exact ⟨.bl false, H', J, rfl, q⟩)
    (m0 + 1) gc _ (isg _ ga) (I3.nolimit.keeps k5) (by simp) ?_
  subst hgc
  refine ⟨rfl, seg_gen0 (X := X) (Y := gblk X scope (nB X.N os fi) code s3 H3 fp) rfl rfl T (T.keep _ _ _ st3 fun b hb o e => k5 b o e) ?_⟩
  exact seg_gen (X := X) (Y := gblk X scope (nB X.N os fi) code s3 H3 fp) rfl rfl hc hco (hg _ _ _ _) (hel _ _ _ _) T stat turn (m0 + 1) m0 0 _ H3 _ _ (Nat.lt_succ_self _) (by rw [setGen_size]; exact lg) IY (T.keep _ _ _ st3 fun b hb o e => k5 b o e) (fun b hb => (f3 b hb).1) w0
end
end L2
namespace L2
open PySem PySem.Spec PyProof.Rows
def BmOf (mg : Str → Option Value) (h : Heap) : Prop := ∃ (bm : Addr) (ob : Obj), mg "__builtins__" = some (.ref bm) ∧ bm ≠ builtinsNs ∧ h.get? bm = some ob ∧ ob.cls = .type "module" ∧ ob.dict = some builtinsNs ∧ ob.data = .plain
structure OnlyT (Ts : List (Addr × Addr)) (H : Hp) : Prop where
  all : ∀ b, H b = none ∨ (∃ o xs, H b = some (.frz o (.lst xs))) ∨ (H b = some (.tbl #[]) ∧ ∃ t ∈ Ts, t.2 = b)
  tab : ∀ t ∈ Ts, H t.2 = some (.tbl #[])
theorem law_callT {P : Program} {w : World} {K : PySem.W.Frag} {mg mb : Str → Option Value} {CX : CXT} {k : Nat} {fa a : Addr} {fd : FuncData} {x : Str} {sp : Sp} {s : Shared} {vs : List Value} {ns : List Int} {Ts : List (Addr × Addr)}
    (KX : K.In s.heap) (hns : s.heap.Ns mainGlobals mg) (hb : s.heap.Ns builtinsNs mb) (hbb : ∀ x : Str, x ≠ "__name__" → mb x = bootBuiltins x) (hlim : s.heap.NoLimit) (hg : s.gens = #[]) (hT : ∀ t ∈ Ts, s.heap.TableAt t.1 t.2 #[]) (hKT : ∀ t ∈ Ts, K.lookup t.2 = none) (hbm : BmOf mg s.heap)
    (ha : s.heap.get? a = some { cls := .type "list", data := .seq vs.toArray }) (hi : IntsAre vs ns) (hl : ns.length ≤ sizeLine) (hr : Room k callerA)
    (F : ∀ base : Heap, K.In base → base.Ns mainGlobals mg → BmOf mg base → FnOk P w K mg base CX k fa fd [x] sp) (hbind : ∀ (s : Shared) (u : Value), BindsTo s fd ⟨[u], []⟩ [(x, u)])
    (hsp : ∀ H : Hp, OnlyT Ts H → SqL K H a (ns.map V.int) → sp [.ref a] H (fun v _ => v = .bl true) fun _ _ _ => False)
    (hCX : ∀ H e s', CX [] H s (fun _ _ _ => False) e s' → False) :
    codeAny (model P w) callerA (.call (.ref fa) ⟨[.ref a], []⟩) (fun r s' => r = .ok (.ret (.bool true)) ∧ OldK s.heap s'.heap ∧ s'.os = s.os ∧ AllBare s'.gens) s := by
  have rv := vals_ints hi
  have lenV := hi.length
  have aP : ∀ t ∈ Ts, t.2 ≠ a := fun t ht z => by
    have e := (hT t ht).2
    rw [z, ha] at e
    cases e
  have run : ∀ H : Hp, OnlyT Ts H → SqL K H a (ns.map V.int) → HOk P w H s.heap → (∀ b, H b ≠ none → b = a ∨ ∃ t ∈ Ts, t.2 = b) → (H a ≠ none → K.lookup a = none) →
      codeAny (model P w) callerA (.call (.ref fa) ⟨[.ref a], []⟩) (fun r s' => r = .ok (.ret (.bool true)) ∧ OldK s.heap s'.heap ∧ s'.os = s.os ∧ AllBare s'.gens) s := by
    intro H hO hS hok hA hK
    have lift : ∀ {b : Addr} {o : Obj}, s.heap.get? b = some o → H b = none → (hidT s.heap H).get? b = some o := fun e n => hidT_get e n
    have un0 : ∀ {b : Addr} {o : Obj}, s.heap.get? b = some o → (∀ its n, o.data ≠ .seq its n) → (∀ fs, o.data ≠ .fields fs) → H b = none := fun {b o} e d1 d2 => by
      cases q : H b with
      | none => rfl
      | some u =>
        rcases hA b (by rw [q]; simp) with z | ⟨t, ht, z⟩
        · subst z; rw [ha] at e; cases e; exact absurd rfl (d1 _ _)
        · subst z; rw [(hT t ht).2] at e; cases e; exact absurd rfl (d2 _)
    have ns1 : ∀ {b : Addr} {m : Str → Option Value}, s.heap.Ns b m → (hidT s.heap H).Ns b m := fun {b m} ⟨o, es, ep, e, d, r⟩ => ⟨o, es, ep, lift e (un0 e (fun _ _ z => by rw [d] at z; cases z) fun _ z => by rw [d] at z; cases z), d, r⟩
    have kb : K.In (hidT s.heap H) := fun b o e => lift (KX b o e) (by
      cases q : H b with
      | none => rfl
      | some u =>
        rcases hA b (by rw [q]; simp) with z | ⟨t, ht, z⟩
        · subst z; rw [hK (by rw [q]; simp)] at e; cases e
        · subst z; rw [hKT t ht] at e; cases e)
    have bmb : BmOf mg (hidT s.heap H) := by
      obtain ⟨bm, ob, b1, b2, b3, b4, b5, b6⟩ := hbm
      exact ⟨bm, ob, b1, b2, lift b3 (un0 b3 (fun _ _ z => by rw [b6] at z; cases z) fun _ z => by rw [b6] at z; cases z), b4, b5, b6⟩
    have hM : Mod K mg (hidT s.heap H) := ⟨kb, ns1 hns, ⟨mb, ns1 hb, hbb⟩, let ⟨mc, h1, h2⟩ := hlim; ⟨mc, ns1 h1, h2⟩⟩
    have e0 : Env0 P w K mg (hidT s.heap H) callerA [] s H := ⟨rfl, hM, fun b o e => of_hidT e, Nat.le_of_eq (hidT_size _ _), trivial, fun b hb => absurd (show b ∈ ([] : List Addr) from hb) (by simp), hok, .of_eq hg⟩
    refine codeAny_mono ((F _ kb (ns1 hns) bmb).run callerA [] s H ⟨[.ref a], []⟩ [.ref a] [.ref a] _ _ hr e0 (hbind s (.ref a)) (.cons rfl .nil) (hsp H hO hS)) fun r s' h => ?_
    cases r with
    | error e => exact (hCX H e s' h).elim
    | ok fl =>
      cases fl with
      | next => exact False.elim h
      | brk => exact False.elim h
      | cont => exact False.elim h
      | ret u =>
        obtain ⟨v, H', os, bare, un, hok', r', q⟩ := h
        have q' : v = .bl true := q
        subst q'
        obtain rfl : u = Value.bool true := r'
        refine ⟨rfl, ⟨fun b o e => ?_, fun b o e => un.there b o e (by simp)⟩, os, bare⟩
        rcases hO.all b with z | ⟨ob, xs, z⟩ | ⟨z, t, ht, rfl⟩
        · exact .inl (un.keep b o e z (by intro y; exact absurd (show b ∈ ([] : List Addr) from y) (by simp)) (by simp))
        · have z2 := un.frzs b ob _ z
          obtain ⟨e1, _⟩ := hok b _ z
          obtain ⟨e2, _⟩ := hok' b _ z2
          rw [e] at e1; cases e1
          exact .inl e2
        · obtain ⟨more, z2⟩ := un.tbls _ _ z
          have e1 : s.heap.get? t.2 = some { cls := .none, data := .fields #[] } := hok _ _ z
          have e2 : s'.heap.get? t.2 = some { cls := .none, data := .fields (#[] ++ more) } := hok' _ _ z2
          rw [e] at e1; cases e1
          exact .inr (.inl ⟨(hT t ht).isCodeTable, rfl, #[], more, rfl, e2⟩)
  have mem : ∀ b, (∃ t ∈ Ts, t.2 = b) ∨ ¬ ∃ t ∈ Ts, t.2 = b := fun b => Classical.em _
  have dc : ∀ b, Decidable (∃ t ∈ Ts, t.2 = b) := fun b => Classical.propDecidable _
  cases hk : K.lookup a with
  | some o =>
    have e := KX a o hk
    rw [ha] at e
    cases e
    refine run (fun b => if (∃ t ∈ Ts, t.2 = b) then some (.tbl #[]) else none) ⟨fun b => ?_, fun t ht => if_pos ⟨t, ht, rfl⟩⟩ (.inr ⟨_, vs.toArray, _, hk, rfl, rfl, rfl, by rw [List.size_toArray, lenV]; exact hl, by simpa using rv⟩) (fun b u z => ?_) (fun b z => ?_) fun z => ?_
    · rcases mem b with y | y
      · exact .inr (.inr ⟨if_pos y, y⟩)
      · exact .inl (if_neg y)
    · rcases mem b with y | y
      · have z' := (if_pos y).symm.trans z
        cases z'
        obtain ⟨t, ht, rfl⟩ := y
        exact (hT t ht).2
      · have z' := (if_neg y).symm.trans z
        cases z'
    · rcases mem b with y | y
      · exact .inr y
      · exact absurd (if_neg y) z
    · refine absurd (if_neg ?_) z
      rintro ⟨t, ht, e⟩
      exact aP t ht e
  | none =>
    refine run (fun b => if b = a then some (.frz { cls := .type "list", data := .seq vs.toArray } (.lst (ns.map V.int))) else if (∃ t ∈ Ts, t.2 = b) then some (.tbl #[]) else none) ⟨fun b => ?_, fun t ht => ?_⟩ (.inl (.inr ⟨{ cls := .type "list", data := .seq vs.toArray }, if_pos rfl⟩)) (fun b u z => ?_) (fun b z => ?_) fun _ => hk
    · by_cases hb : b = a
      · exact .inr (.inl ⟨_, _, if_pos hb⟩)
      · rcases mem b with y | y
        · exact .inr (.inr ⟨(if_neg hb).trans (if_pos y), y⟩)
        · exact .inl ((if_neg hb).trans (if_neg y))
    · exact (if_neg (aP t ht)).trans (if_pos ⟨t, ht, rfl⟩)
    · by_cases hb : b = a
      · have z' := (if_pos hb).symm.trans z
        cases z'
        subst hb
        exact ⟨ha, by rw [List.length_map]; exact hl, vs, _, rv, ha⟩
      · rcases mem b with y | y
        · have z' := ((if_neg hb).trans (if_pos y)).symm.trans z
          cases z'
          obtain ⟨t, ht, rfl⟩ := y
          exact (hT t ht).2
        · have z' := ((if_neg hb).trans (if_neg y)).symm.trans z
          cases z'
    · by_cases hb : b = a
      · exact .inl hb
      · rcases mem b with y | y
        · exact .inr y
        · exact absurd ((if_neg hb).trans (if_neg y)) z
theorem walk_ofT {l : PySem.W.OpenLaw} {n k : Nat} {q : Program} {loose : List Str} {XP : (Str → Option Value) → Heap → Prop} {YP : World → Heap → Prop} {d : DefRec} {K : Params → PySem.W.Frag} {CX : World → CXT} {sp : World → Sp} {x : Str} {Ts : World → List (Addr × Addr)}
    (hn : l.most = some n) (hn2 : n ≤ sizeLine) (hdf : d.params.defaults = []) (hr : Room k callerA)
    (hY : ∀ (w : World) (h : Heap), YP w h → (K w.params).In h)
    (hT : ∀ (w : World) (h : Heap) (lo : List Str) (mean : ExcName → Option Value) (mg mb : Str → Option Value), (K w.params).In h → Top q lo mean mg mb h → ∀ t ∈ Ts w, h.TableAt t.1 t.2 #[]) (hKT : ∀ (w : World), ∀ t ∈ Ts w, (K w.params).lookup t.2 = none)
    (F : ∀ (w : World) (mg : Str → Option Value) (fa : Addr) (h : Heap), (K w.params).In h → h.Ns mainGlobals mg → mg d.name = some (.ref fa) →
      ∃ fd : FuncData, (∀ (s : Shared) (u : Value), BindsTo s fd ⟨[u], []⟩ [(x, u)]) ∧
        ∀ base : Heap, (K w.params).In base → base.Ns mainGlobals mg → BmOf mg base → FnOk l.prog w (K w.params) mg base (CX w) k fa fd [x] (sp w))
    (hsp : ∀ (w : World) (H : Hp) (a : Addr) (ns : List Int), ns.length ≤ n → OnlyT (Ts w) H → SqL (K w.params) H a (ns.map V.int) → sp w [.ref a] H (fun v _ => v = .bl true) fun _ _ _ => False)
    (hCX : ∀ (w : World) (H : Hp) (s : Shared) (e : Value) (s' : Shared), CX w [] H s (fun _ _ _ => False) e s' → False) :
    PySem.W.WalkO q loose XP YP l.row.toRowW d [] (fun f vs => PySem.call f vs) := by
  refine Att.attach_call hn hdf fun w s₀ s₁ mg mb fa o pm cd doc a vs ns G Y ho hd hcd hmg hobj hints hlen hg => ?_
  have KX := hY w _ Y
  obtain ⟨fd, hb, hF⟩ := F w mg fa _ KX G.T.g hmg
  exact law_callT KX G.T.g G.T.b G.T.builtins G.T.nolimit hg (hT w _ _ _ _ _ KX G.T) (hKT w) G.T.bmain hobj hints (Nat.le_trans hlen hn2) hr hF hb (fun H hO hS => hsp w H a ns hlen hO hS) fun H e s' => hCX w H s₁ e s'
end L2
namespace L2
open PySem PySem.Spec PyProof.Rows
def Its (x : Str) : It := ⟨fun i _ => i < x.cps.size, fun i H v H' => H' = H ∧ ∃ c, x.cps[i]? = some c ∧ v = .str ⟨#[c]⟩, fun i _ => i = x.cps.size⟩
theorem turn_str {P : Program} {w : World} {K : PySem.W.Frag} {tg : Expr} {it : Addr} {x : Str} {t : Tok} {ty : String} (hn : ["enumerate", "zip", "dict_itemiterator", "dict_reverseitemiterator", "odict_iterator", "itertools.zip_longest", "itertools.pairwise"].contains ty = false)
    (W : ∀ A' : Around, A'.handled = none → Walks P w A' it [it] [it] x.cps.size (SignAt x) (fun i h => h.IsStrIter it ty x t i))
    (hself : ∀ (A : Around) (i : Nat) (s : Shared) (Q : Value → Shared → Prop) (E : Value → Shared → Prop), s.heap.IsStrIter it ty x t i → Q (.ref it) s → wpAny (model P w) A (pyIter (.ref it)) Q E s) : Turn P w K tg (Its x) [it] it (fun i h => h.IsStrIter it ty x t i) where
  mem := by simp
  obj := fun i h st b hb => by
    have e : b = it := by simpa using hb
    subst e
    obtain ⟨o, ho, _, d⟩ := st
    exact ⟨o, ho, fun v z => by rw [d] at z; cases z⟩
  keep := fun i h h' st k => by
    obtain ⟨o, ho, r⟩ := st
    exact ⟨o, k it (by simp) o ho, r⟩
  item := by
    intro X hP hw hK hc i pins s σ H E I hf st hg
    subst hP hw hK
    obtain ⟨f0, f1, f2, f3, f4, f5⟩ := hf it (by simp)
    refine (W X.A (I.ok.hd hc)).item i s _ _ hg st fun v h' tk hv st' kk => ?_
    obtain ⟨c, u, hcu, rfl⟩ := hv
    have I1 : Inv X pins σ H { s with heap := h', toks := tk } := I.turned (fun b o hb e => kk b o (by simpa using hb) e) f0 f1 f3 f4 f5
    obtain ⟨o, ho, hcl, d⟩ := id st'
    exact ⟨_, rfl, go_of (s := { s with heap := h', toks := tk }) ho hcl d hn ⟨.str ⟨#[c]⟩, H, I1, ⟨u, rfl⟩, ⟨rfl, c, hcu, rfl⟩, st', fun b hb => (hf b hb).1⟩⟩
  done := by
    intro X hP hw hK hc i pins s σ H E I hf st hg
    subst hP hw hK
    obtain ⟨f0, f1, f2, f3, f4, f5⟩ := hf it (by simp)
    have hi : i = x.cps.size := hg
    subst hi
    exact (W X.A (I.ok.hd hc)).done s _ _ st fun h' tk kk => ⟨rfl, I.turned (fun b o hb e => kk b o (by simpa using hb) e) f0 f1 f3 f4 f5⟩
  self := fun A i s Q E st h => hself A i s Q E st h
def iStr (tl : TE) : TI := fun σ H R => tl σ H fun v H1 => ∃ x, v = .str x ∧ R (Its x) H1
section
variable {X : Cx} {tg : Expr}
theorem pi_str {l : Expr} {tl : TE} (hl : PE X l tl) : PI X tg l (iStr tl) := by
  intro pins s σ H R I h
  refine thn (hl pins s σ H _ I h) fun v s1 ⟨y, H1, I1, r1, x, e, q⟩ => ?_
  subst e
  obtain ⟨t, rfl⟩ := r1
  have fin : ∀ b ∈ [s1.heap.objs.size], FpOk X pins H1 b := fun b hb => by
    have e : b = s1.heap.objs.size := by simpa using hb
    subst e
    exact I1.fpOk (Nat.le_refl _) (I1.hok.fresh (Nat.le_refl _))
  cases ha : x.cps.all (· < 128)
  · refine wpAny_pyIter_wide ha ?_
    exact ⟨s1.heap.objs.size, [s1.heap.objs.size], _, _, H1, rfl, I1.kept (t' := s1.toks) fun b o e => Heap.get?_push_of_some _ e, turn_str (by decide) (fun A' hA => Walks.strWide hA _ x t) (fun A i s Q E st h => wpAny_pyIter_striter_wide st h), ⟨_, Heap.get?_push_size _ rfl, rfl, rfl⟩, fin, q⟩
  · refine wpAny_pyIter_ascii ha ?_
    exact ⟨s1.heap.objs.size, [s1.heap.objs.size], _, _, H1, rfl, I1.kept (t' := s1.toks) fun b o e => Heap.get?_push_of_some _ e, turn_str (by decide) (fun A' hA => Walks.strAscii hA _ x t) (fun A i s Q E st h => wpAny_pyIter_striter_ascii st h), ⟨_, Heap.get?_push_size _ rfl, rfl, rfl⟩, fin, q⟩
def rEqL (K : PySem.W.Frag) (neg : Bool) : R2 := fun x y H Q => ∃ a b xs ys, x = .ref a ∧ y = .ref b ∧ SqL K H a xs ∧ SqL K H b ys ∧ xs.all flatV = true ∧ ys.all flatV = true ∧ Q (.bl (if neg then !eqVs xs ys else eqVs xs ys)) H
theorem eqVs_lens {xs ys : List V} (h : xs.length ≠ ys.length) : eqVs xs ys = false := by
  rw [← eqVs_all]
  have : (xs.length == ys.length) = false := by simpa using h
  rw [this, Bool.and_false]
theorem op_eqL (hu : X.A.units < cLine) : OpR X (compareOp .Eq) (rEqL X.K false) := by
  intro pins s σ H x y v u Q I rx ry h
  obtain ⟨a, b, xs, ys, rfl, rfl, ha, hb, f1, f2, q⟩ := h
  cases rx
  cases ry
  obtain ⟨its, r1, p1, _⟩ := I.list ha
  obtain ⟨its2, r2, p2, _⟩ := I.list hb
  by_cases hz : xs.length = ys.length
  · have hz2 : its.toArray.size = its2.toArray.size := by rw [List.size_toArray, List.size_toArray, ← r1.length, ← r2.length]; exact hz
    refine SeqAt.eq_listAt p1.isList p2.isList hz2 hu (items_eq r1 r2 f1 f2) ⟨.bl _, H, I, rfl, ?_⟩
    have e : (List.range its.toArray.size).all (eAt xs ys) = eqVs xs ys := by
      rw [← eqVs_all, List.size_toArray, ← r1.length, ← hz, Nat.min_self]; simp
    rw [e]
    exact q
  · have hz2 : (its.toArray.size != its2.toArray.size) = true := by
      rw [List.size_toArray, List.size_toArray, ← r1.length, ← r2.length]; simpa using hz
    have q' : Q (.bl false) H := by rw [eqVs_lens hz] at q; exact q
    exact SeqAt.eq_list_lengthsAt p1.isList p2.isList hz2 hu ⟨.bl _, H, I, rfl, q'⟩
theorem op_neV (hu : X.A.units < cLine) : OpR X (compareOp .NotEq) (rEqL X.K true) := by
  intro pins s σ H x y v u Q I rx ry h
  obtain ⟨a, b, xs, ys, rfl, rfl, ha, hb, f1, f2, q⟩ := h
  cases rx
  cases ry
  obtain ⟨its, r1, p1, _⟩ := I.list ha
  obtain ⟨its2, r2, p2, _⟩ := I.list hb
  by_cases hz : xs.length = ys.length
  · have hz2 : its.toArray.size = its2.toArray.size := by rw [List.size_toArray, List.size_toArray, ← r1.length, ← r2.length]; exact hz
    refine SeqAt.RcNeAt.lists p1.isList p2.isList hz2 hu (items_eq r1 r2 f1 f2) _ _ _ _ ⟨.bl _, H, I, rfl, ?_⟩
    have e : (List.range its.toArray.size).all (eAt xs ys) = eqVs xs ys := by
      rw [← eqVs_all, List.size_toArray, ← r1.length, ← hz, Nat.min_self]; simp
    rw [e]
    exact q
  · have hz2 : (its.toArray.size != its2.toArray.size) = true := by
      rw [List.size_toArray, List.size_toArray, ← r1.length, ← r2.length]; simpa using hz
    have q' : Q (.bl true) H := by rw [eqVs_lens hz] at q; exact q
    exact SeqAt.RcNeAt.lists_lengths p1.isList p2.isList hz2 hu _ _ _ _ ⟨.bl _, H, I, rfl, q'⟩
end
end L2
namespace L2
open PySem PySem.Spec PyProof.Rows
def cdOf (K : PySem.W.Frag) (n : Str) : Addr := match PySem.W.nsIn K mainGlobals n with
  | some (some (.ref f)) => (match K.lookup f with
    | some ⟨_, _, .func fd, _⟩ => (match fd.code with
      | .ref c => c
      | _ => 0)
    | _ => 0)
  | _ => 0
def tbOf (K : PySem.W.Frag) (n : Str) : Addr := match K.lookup (cdOf K n) with
  | some ⟨_, _, .fields vs, _⟩ => (match (vs[11]? : Option Value) with
    | some (.ref T) => T
    | _ => 0)
  | _ => 0
structure CodeN (K : PySem.W.Frag) (n : Str) (f c T : Addr) (fd : FuncData) : Prop where
  a : PySem.W.nsIn K mainGlobals n = some (some (.ref f))
  l : ∃ oc od sl, K.lookup f = some ⟨oc, od, .func fd, sl⟩
  hc : fd.code = .ref c
  lc : ∃ (od : Option Addr) (vs : Array Value) (sl : Array (Option Value)) (file : Str) (tf : Tok) (flags : Int) (tk : Tok) (inF : Bool) (text : Int) (tt : Tok), K.lookup c = some ⟨.type "code", od, .fields vs, sl⟩ ∧ vs[11]? = some (.ref T) ∧ vs.getD 18 .none = .str file tf ∧
    vs.getD 7 .none = .int flags tk ∧ vs.getD 9 .none = .bool inF ∧ vs.getD 10 .none = .int text tt
  ne : c ≠ T
section
variable {K : PySem.W.Frag} {n : Str} {f c T : Addr} {fd : FuncData}
theorem CodeN.cd (C : CodeN K n f c T fd) : cdOf K n = c := by
  obtain ⟨oc, od, sl, l⟩ := C.l
  unfold cdOf
  rw [C.a]
  simp only [l, C.hc]
theorem CodeN.tb (C : CodeN K n f c T fd) : tbOf K n = T := by
  obtain ⟨od, vs, sl, _, _, _, _, _, _, _, l, h11, _⟩ := C.lc
  unfold tbOf
  rw [C.cd]
  simp only [l, h11]
theorem CodeN.ck (C : CodeN K n f c T fd) : CodeK K c T := by
  obtain ⟨od, vs, sl, file, tf, flags, tk, inF, text, tt, l, h11, r⟩ := C.lc
  exact ⟨⟨_, vs, file, tf, flags, tk, inF, text, tt, l, rfl, rfl, h11, r⟩, C.ne⟩
theorem CodeN.tab {q : Program} {lo : List Str} {mean : ExcName → Option Value} {mg mb : Str → Option Value} {h : Heap} {d : DefRec} (C : CodeN K n f c T fd) (KX : K.In h) (Tp : Top q lo mean mg mb h) (hf : (recsOf q).find? (fun e => e.name == n) = some d) : h.TableAt (cdOf K n) (tbOf K n) #[] := by
  rw [C.cd, C.tb]
  have hn : d.name = n := beq_iff_eq.mp (List.find?_some (p := fun e : DefRec => e.name == n) hf)
  obtain ⟨a', o', fd', c', P', h1, h2, h3, h4, h5, h6⟩ := Tp.tab d (List.mem_of_find?_eq_some hf)
  have hm := PySem.W.mg_of KX Tp.g C.a
  rw [hn, hm] at h1; cases h1
  obtain ⟨oc, od, sl, l⟩ := C.l
  rw [KX _ _ l] at h2; cases h2
  cases h3
  rw [C.hc] at h4; cases h4
  obtain ⟨od2, vs, sl2, _, _, _, _, _, _, _, l2, h11, _⟩ := C.lc
  obtain ⟨⟨o3, vs3, e1, _, e2, e3⟩, _⟩ := id h6
  rw [KX _ _ l2] at e1; cases e1
  cases e2
  rw [h11] at e3; cases e3
  exact h6
theorem codeN_mk {oc : Value} {od odc : Option Addr} {sl slc : Array (Option Value)} {vs : Array Value} {file : Str} {tf : Tok} {flags : Int} {tk : Tok} {inF : Bool} {text : Int} {tt : Tok} (a : PySem.W.nsIn K mainGlobals n = some (some (.ref f))) (l : K.lookup f = some ⟨oc, od, .func fd, sl⟩) (hc : fd.code = .ref c)
    (lc : K.lookup c = some ⟨.type "code", odc, .fields vs, slc⟩) (h11 : vs[11]? = some (.ref T)) (h18 : vs.getD 18 .none = .str file tf) (h7 : vs.getD 7 .none = .int flags tk) (h9 : vs.getD 9 .none = .bool inF) (h10 : vs.getD 10 .none = .int text tt) (ne : c ≠ T) : CodeN K n f c T fd :=
  ⟨a, ⟨oc, od, sl, l⟩, hc, ⟨odc, vs, slc, file, tf, flags, tk, inF, text, tt, lc, h11, h18, h7, h9, h10⟩, ne⟩
end
end L2
namespace L2
open PySem PySem.Spec PyProof.Rows
abbrev TB := St → Hp → (St → Hp → Prop) → Prop
abbrev Fi := PySem.Fin
def PB (Y : Cx) (body : Sem Fi → Sem Fi) (t : TB) : Prop :=
  ∀ (pins : List (Addr × Obj)) (s : Shared) (σ : St) (H : Hp) (N : St → Hp → Prop) (k : Sem Fi) (R : Fi → Shared → Prop), Inv Y pins σ H s → t σ H N →
    (∀ σ' H' s', Inv Y pins σ' H' s' → N σ' H' → wpAny (model Y.prog Y.w) Y.A k R F0 s') → wpAny (model Y.prog Y.w) Y.A (body k) R F0 s
def turnOf (tg : Expr) (p : Pos) (ifs : List Expr) (it : Value) (env : Env) (body : Sem Fi → Sem Fi) (k : Sem Fi) : Sem Fi := do
  standAt p
  match ← pyNext it with
  | none => pure (.done .next)
  | some v =>
    letOwnedTupleGo tg it v
    assign tg env v
    let mut ok := true
    for c in ifs do
      if ok then ok ← isTrue c env (eval c env)
    if ok then body k else k
def LoopRule (P : Program) (w : World) (A : Around) (e : Expr) (d : Nat) : Prop := ∀ (it acc : Value) (env : Env) (R : Result → Shared → Prop) (I : Nat → Shared → Prop),
  (∀ n s, I n s → wpAny (model P w) A (compTurn e d it acc env) (fun fin s' => match fin with | .done f => R (.ok f) s' | .again c' => c' = .compLoop e d it acc env ∧ ∃ m, m < n ∧ I m s') F0 s) →
  ∀ n s, I n s → codeAny (model P w) A (.compLoop e d it acc env) R s
def StartRule (P : Program) (w : World) (A : Around) (e : Expr) (d : Nat) : Prop := ∀ (it acc : Value) (env : Env) (R : Result → Shared → Prop) (s : Shared),
  codeAny (model P w) A (.compLoop e d it acc env) R s → wpAny (model P w) A (pyIter it) (fun it' s' => codeAny (model P w) A (.compLoop e d it' acc env) R s') F0 s → codeAny (model P w) A (.compStart e d it acc env) R s
section
variable {P : Program} {w : World} {A : Around} {elt kx vx : Expr} {gens : List Comprehension} {scope : Scope} {pos : Pos} {d : Nat} {g : Comprehension}
theorem loop_list : LoopRule P w A (.ListComp elt gens scope pos) d := by
  intro it acc env R I turn n s h
  refine codeAny_loop rfl I (fun n s hI => ?_) n h
  show wpAny _ A ((compTurn (.ListComp elt gens scope pos) d it acc env).onRaise (fun x => do noteFrame x env; theTreesLotGoes x)) _ _ s
  exact wpAny_noted (of_F0 (turn n s hI) fun _ _ z => z)
theorem loop_set : LoopRule P w A (.SetComp elt gens scope pos) d := by
  intro it acc env R I turn n s h
  refine codeAny_loop rfl I (fun n s hI => ?_) n h
  show wpAny _ A ((compTurn (.SetComp elt gens scope pos) d it acc env).onRaise (fun x => do noteFrame x env; theTreesLotGoes x)) _ _ s
  exact wpAny_noted (of_F0 (turn n s hI) fun _ _ z => z)
theorem loop_dict : LoopRule P w A (.DictComp kx vx gens scope pos) d := by
  intro it acc env R I turn n s h
  refine codeAny_loop rfl I (fun n s hI => ?_) n h
  show wpAny _ A ((compTurn (.DictComp kx vx gens scope pos) d it acc env).onRaise (fun x => do noteFrame x env; theTreesLotGoes x)) _ _ s
  exact wpAny_noted (of_F0 (turn n s hI) fun _ _ z => z)
theorem start_any {e : Expr} {it acc : Value} {env : Env} {R : Result → Shared → Prop} {s : Shared} {E : Value → Shared → Prop} (hg : (clausesOf e)[d]? = some g) (ha : g.is_async = 0)
    (h0 : codeAny (model P w) A (.compLoop e d it acc env) R s) (h : wpAny (model P w) A (pyIter it) (fun it' s' => codeAny (model P w) A (.compLoop e d it' acc env) R s') F0 s) :
    wpAny (model P w) A (compStart e d it acc env) (fun fin s' => match fin with | .done f => R (.ok f) s' | .again c' => c'.quiet = true ∧ codeAny (model P w) A c' R s') E s := by
  unfold compStart
  rw [hg]
  simp only [Option.elim, ha]
  show wpAny _ _ (ask >>= _) _ _ s
  refine wpAny_bind (wpAny_askSetting (wpAny_ite ?_))
  split
  · first
      | exact wpAny_bind (wpAny_pure (wpAny_pure (And.intro rfl h0)))
      | exact wpAny_pure (And.intro rfl h0)
  · refine wpAny_bind (wpAny_rule ?_)
    exact wpAny_bind (wpAny_standAt (wpAny_bind (of_F0 h fun it' s' h' => wpAny_pure (And.intro rfl h'))))
theorem start_list (hg : gens[d]? = some g) (ha : g.is_async = 0) : StartRule P w A (.ListComp elt gens scope pos) d := by
  intro it acc env R s h0 h
  refine codeAny_of_tree ?_
  show wpAny _ _ ((compStart (.ListComp elt gens scope pos) d it acc env).onRaise (fun x => do noteFrame x env; standAt theWindowsPlace)) _ _ s
  exact wpAny_notedAt (start_any (e := .ListComp elt gens scope pos) hg ha h0 h)
theorem start_set (hg : gens[d]? = some g) (ha : g.is_async = 0) : StartRule P w A (.SetComp elt gens scope pos) d := by
  intro it acc env R s h0 h
  refine codeAny_of_tree ?_
  show wpAny _ _ ((compStart (.SetComp elt gens scope pos) d it acc env).onRaise (fun x => do noteFrame x env; standAt theWindowsPlace)) _ _ s
  exact wpAny_notedAt (start_any (e := .SetComp elt gens scope pos) hg ha h0 h)
theorem start_dict (hg : gens[d]? = some g) (ha : g.is_async = 0) : StartRule P w A (.DictComp kx vx gens scope pos) d := by
  intro it acc env R s h0 h
  refine codeAny_of_tree ?_
  show wpAny _ _ ((compStart (.DictComp kx vx gens scope pos) d it acc env).onRaise (fun x => do noteFrame x env; standAt theWindowsPlace)) _ _ s
  exact wpAny_notedAt (start_any (e := .DictComp kx vx gens scope pos) hg ha h0 h)
end
def LR (J : It) (g : TG) (tt : TT) (tb : TB) (σ : St) (H : Hp) (N : St → Hp → Prop) : Prop := ∃ W : Nat → Nat → St → Hp → Prop, (∃ m, W 0 m σ H) ∧ ∀ i m σ2 H2, W i m σ2 H2 →
  (J.stop i H2 ∧ N σ2 H2) ∨ (J.go i H2 ∧ ∀ x H3, J.yld i H2 x H3 → g x σ2 H3 fun σ4 H4 => tt σ4 H4 fun ok H5 =>
    if ok = true then tb σ4 H5 (fun σ6 H6 => ∃ m', m' < m ∧ W (i + 1) m' σ6 H6) else ∃ m', m' < m ∧ W (i + 1) m' σ4 H5)
section
variable {Y : Cx} {e tg iter : Expr} {ifs : List Expr} {d : Nat} {p : Pos} {body : Sem Fi → Sem Fi} {it : Addr} {acc : Value} {J : It} {g : TG} {tt : TT} {tb : TB} {wi : TI} {fp : List Addr} {tn : Nat → Heap → Prop} {pins : List (Addr × Obj)} {R : Result → Shared → Prop} {N : St → Hp → Prop} {s : Shared} {σ : St} {H : Hp}
theorem loop_any (hL : LoopRule Y.prog Y.w Y.A e d) (hc : Y.calm = true) (hx : Y.xe = F0) (hT : compTurn e d (.ref it) acc Y.env = turnOf tg p ifs (.ref it) Y.env body (again (.compLoop e d (.ref it) acc Y.env)))
    (hg : PG Y tg g) (ht : PTs Y ifs tt) (hb : PB Y body tb) (T : Turn Y.prog Y.w Y.K tg J fp it tn) (stat : ∀ {H' : Hp}, (∀ b ∈ fp, H' b = none) → ∀ b ∈ fp, FpOk Y pins H' b)
    (I : Inv Y pins σ H s) (st : tn 0 s.heap) (fr : ∀ b ∈ fp, H b = none) (q : LR J g tt tb σ H N) (hR : ∀ σ' H' s', Inv Y pins σ' H' s' → N σ' H' → R (.ok .next) s') :
    codeAny (model Y.prog Y.w) Y.A (.compLoop e d (.ref it) acc Y.env) R s := by
  obtain ⟨W, ⟨m0, w0⟩, turn⟩ := q
  refine hL _ _ _ _ (fun n s' => ∃ i σ' H', Inv Y pins σ' H' s' ∧ tn i s'.heap ∧ (∀ b ∈ fp, H' b = none) ∧ W i n σ' H') ?_ m0 s ⟨0, σ, H, I, st, fr, w0⟩
  rintro n s5 ⟨i, σ5, H5, I5, t5, fr5, w5⟩
  rw [hT]
  unfold turnOf
  refine wpAny_bind (wpAny_standAt (wpAny_bind ?_))
  rcases turn i n σ5 H5 w5 with ⟨stop, qn⟩ | ⟨go, step⟩
  · refine of_F0 (T.done Y rfl rfl rfl hc i pins s5 σ5 H5 F0 I5 (stat fr5) t5 stop) fun r s6 ⟨hr, I6⟩ => ?_
    subst hr
    exact wpAny_pure (hR _ _ _ I6 qn)
  · refine of_F0 (T.item Y rfl rfl rfl hc i pins s5 σ5 H5 F0 I5 (stat fr5) t5 go) fun r s6 ⟨u, hr, h6⟩ => ?_
    subst hr
    refine wpAny_bind (of_F0 h6 fun _ s7 ⟨x, H7, I7, r7, y7, t7, fr7⟩ => ?_)
    have I7' := I7.pinned (stat fr7) (T.obj _ _ t7)
    have a1 := hg _ s7 σ5 H7 x u _ I7' r7 (step x H7 y7)
    rw [hx] at a1
    refine wpAny_bind (of_F0 a1 fun _ s8 ⟨σ8, H8, I8, q8⟩ => ?_)
    have a2 := ht _ s8 σ8 H8 _ I8 q8
    rw [hx] at a2
    refine wpAny_bind (of_F0 a2 fun ok s9 ⟨H9, I9, q9⟩ => ?_)
    have again : ∀ {s' : Shared} {σ' : St} {H' : Hp} {m : Nat}, Inv Y (pins ++ pinsAt fp s7.heap) σ' H' s' → W (i + 1) m σ' H' →
        ∃ i σ' H', Inv Y pins σ' H' s' ∧ tn i s'.heap ∧ (∀ b ∈ fp, H' b = none) ∧ W i m σ' H' := fun {s' σ' H' m} J w => by
      refine ⟨i + 1, σ', H', J.unpinned, T.keep _ _ _ t7 fun b hb o e => (J.pin (b, o) (List.mem_append_right _ (List.mem_append_right _ (mem_pinsAt hb e)))).1, fun b hb => ?_, w⟩
      obtain ⟨o, e, d⟩ := T.obj _ _ t7 b hb
      exact (J.pin (b, o) (List.mem_append_right _ (List.mem_append_right _ (mem_pinsAt hb e)))).2.1
    cases ok with
    | false =>
      obtain ⟨m', lt, w9⟩ := (show ∃ m', m' < n ∧ W (i + 1) m' σ8 H9 from q9)
      exact wpAny_pure ⟨rfl, m', lt, again I9 w9⟩
    | true =>
      exact hb _ s9 σ8 H9 _ _ _ I9 q9 fun σA HA sA IA ⟨m', lt, wA⟩ => wpAny_pure ⟨rfl, m', lt, again IA wA⟩
def inBody (e : Expr) (d : Nat) (iter : Expr) (acc : Value) (env : Env) (k : Sem Fi) : Sem Fi := do
  let x ← eval iter env
  standAt iter.pos
  let x ← foldedSetIterable iter env x
  let _ ← runOwn (.compStart e d (← holding [x] (pyIter x)) acc env) env
  k
def tIn (wi : TI) (g : TG) (tt : TT) (tb : TB) : TB := fun σ H N => wi σ H fun J H1 => LR J g tt tb σ H1 N
theorem pb_in (hL : LoopRule Y.prog Y.w Y.A e d) (hS : StartRule Y.prog Y.w Y.A e d) (hc : Y.calm = true) (hx : Y.xe = F0) (hT : ∀ it : Addr, compTurn e d (.ref it) acc Y.env = turnOf tg p ifs (.ref it) Y.env body (again (.compLoop e d (.ref it) acc Y.env)))
    (hi : PI Y tg iter wi) (hg : PG Y tg g) (ht : PTs Y ifs tt) (hb : PB Y body tb) (hs : ∀ x, foldedSetIterable iter Y.env x = pure x := by intro _; rfl) : PB Y (inBody e d iter acc Y.env) (tIn wi g tt tb) := by
  intro pins s σ H N k R I h hk
  unfold inBody
  have a1 := hi pins s σ H _ I h
  rw [hx] at a1
  refine wpAny_bind (of_F0 a1 fun v s1 h1 => wpAny_bind (wpAny_standAt (wpAny_bind (wpAny_of_eq (hs v) (wpAny_bind (wpAny_holding (of_F0 h1 fun itv s2 h2 => ?_)))))))
  obtain ⟨it, fp, tn, J, H2, rfl, I2, T, st2, f2, q⟩ := h2
  refine wpAny_bind (wpAny_runOwn ?_)
  have lp : codeAny (model Y.prog Y.w) Y.A (.compLoop e d (.ref it) acc Y.env) (fun r s' => match r with | .ok f => wpAny (model Y.prog Y.w) Y.A k R F0 s' | .error e => cameBackBy (model Y.prog Y.w) Y.A Y.env F0 e s') s2 :=
    loop_any hL hc hx (hT it) hg ht hb T (fun hn b hb => ⟨hn b hb, (f2 b hb).2⟩) I2 st2 (fun b hb => (f2 b hb).1) q fun σ' H' s' I' n' => hk σ' H' s' I' n'
  exact hS _ _ _ _ _ lp (T.self _ 0 _ _ _ st2 lp)
def listBody (elt : Expr) (acc : Value) (env : Env) (k : Sem Fi) : Sem Fi := (do let _ ← call (.builtin "list.append") [acc, ← eval elt env]) >>= fun _ => k
def tEmL (D : Addr) (te : TE) : TB := fun σ H N => te σ H fun v H6 => ∃ xs, H6 D = some (.lst xs) ∧ xs.length < sizeLine ∧ N σ (upd H6 D (.lst (xs ++ [v])))
theorem pb_list {elt : Expr} {te : TE} {D : Addr} (hx : Y.xe = F0) (hel : PE Y elt te) : PB Y (listBody elt (.ref D) Y.env) (tEmL D te) := by
  intro pins s σ H N k R I h hk
  have a1 := hel pins s σ H _ I h
  rw [hx] at a1
  refine wpAny_bind (wpAny_bind (of_F0 a1 fun y sA ⟨v, HA, IA, rA, xs, hxs, hz, wA⟩ => wpAny_bind ?_))
  have a2 := mt_append pins sA σ HA (.ref D) [v] (.ref D) [y] (fun _ H' => N σ H') IA rfl (.cons rA .nil) ⟨D, xs, v, rfl, rfl, hxs, hz, wA⟩
  rw [hx] at a2
  exact of_F0 a2 fun _ sB' ⟨_, HB, IB, _, wB⟩ => wpAny_pure (hk σ HB sB' IB wB)
end
def NewRule (X : Cx) (mk : Sem Value) (o0 : Addr → HO) : Prop := ∀ (pins : List (Addr × Obj)) (s : Shared) (σ : St) (H : Hp) (E : Value → Shared → Prop) (Q : Value → Shared → Prop), Inv X pins σ H s →
  (∀ s3 : Shared, (∀ b o, s.heap.get? b = some o → s3.heap.get? b = some o) → Inv X pins σ (upd H s.heap.objs.size (o0 s.heap.objs.size)) s3 → Q (.ref s.heap.objs.size) s3) → wpAny (model X.prog X.w) X.A mk Q E s
theorem new_list {X : Cx} : NewRule X (newList []) (fun _ => .lst []) := by
  intro pins s σ H E Q I h
  refine wpAny_newObj_type ?_
  exact h _ (fun b o e => Heap.get?_push_of_some _ e) (I.laid (t' := s.toks) (fun b u e => Heap.get?_push_of_some _ e) (Nat.le_refl _) ⟨Nat.zero_le _, [], 0, .nil, Heap.get?_push_size _ rfl⟩)
section
variable {X : Cx} {e tg iter : Expr} {ifs : List Expr} {scope esc : Scope} {pos : Pos} {N os : List Str} {fi : List Nat} {wi : TI} {g : TG} {tt : TT} {tb : Addr → TB} {body : Addr → Env → Sem Fi → Sem Fi} {o0 : Addr → HO} {mk : Sem Value} {p : Pos}
theorem comp_coreG {pins : List (Addr × Obj)} {σ : St} {H : Hp} {s : Shared} {E : Value → Shared → Prop} {it : Addr} {fp : List Addr} {tn : Nat → Heap → Prop} {J : It} {Q : VK} {RR : Value → Addr → Result → Shared → Prop} (hc : X.calm = true) (hN : X.N = N) (he : X.env.scope = esc) (B : BlkOk esc scope N fi)
    (hL : LoopRule X.prog X.w X.A e 0) (hS : StartRule X.prog X.w X.A e 0) (hT : ∀ (it D : Addr) (env : Env), compTurn e 0 (.ref it) (.ref D) env = turnOf tg p ifs (.ref it) env (body D env) (again (.compLoop e 0 (.ref it) (.ref D) env)))
    (hmk : NewRule X mk o0)
    (hg : ∀ s H fp, PG (blk X scope (nB N os fi) s H fp) tg g) (ht : ∀ s H fp, PTs (blk X scope (nB N os fi) s H fp) ifs tt) (hb : ∀ D s H fp, PB (blk X scope (nB N os fi) s H fp) (body D (blk X scope (nB N os fi) s H fp).env) (tb D))
    (I : Inv X pins σ H s) (T : Turn X.prog X.w X.K tg J fp it tn) (st : tn 0 s.heap) (hf : ∀ b ∈ fp, FpOk X pins H b) (q : ∀ l, H l = none → LR J g tt (tb l) (sB σ os fi) (upd H l (o0 l)) fun _ H' => Q (.ref l) H')
    (hRR : ∀ D s3 H3 s' σ' H', Inv X pins σ H3 s3 → (∀ b ∈ fp, FpOk X pins H3 b) → Inv (blk X scope (nB N os fi) s3 H3 fp) [] σ' H' s' → Q (.ref D) H' → RR (.ref D) s3.heap.objs.size (.ok .next) s') :
    wpAny (model X.prog X.w) X.A mk (fun acc s3 => wpAny (model X.prog X.w) X.A (newFunctionEnv scope X.env.globals (clOf X.env scope.names []) [] X.env.qual none .none (some X.env)) (fun cenv s4 =>
      codeAny (model X.prog X.w) X.A (.compStart e 0 (.ref it) acc { cenv with scope := relabel scope X.env }) (RR acc cenv.locals) s4) E s3) E s := by
  subst hN
  have fresh : H s.heap.objs.size = none := I.hok.fresh (Nat.le_refl _)
  have old : ∀ b ∈ fp, ∃ o, s.heap.get? b = some o := fun b hb => by
    obtain ⟨o, e, _⟩ := T.obj _ _ st b hb
    exact ⟨o, e⟩
  refine hmk pins s σ H E _ I fun s3 k3 I3 => ?_
  have hf3 : ∀ b ∈ fp, FpOk X pins (upd H s.heap.objs.size (o0 s.heap.objs.size)) b := fun b hb => by
    obtain ⟨o, e⟩ := old b hb
    exact ⟨by rw [upd_ne (Nat.ne_of_lt (Heap.lt_size e))]; exact (hf b hb).1, (hf b hb).2⟩
  have st3 : tn 0 s3.heap := T.keep _ _ _ st fun b hb o e => k3 b o e
  have q3 := q _ fresh
  have ho3 : ∀ b ∈ fp, ∃ o, s3.heap.get? b = some o := fun b hb => by
    obtain ⟨o, e⟩ := old b hb
    exact ⟨o, k3 b o e⟩
  generalize s.heap.objs.size = D at *
  generalize upd H D (o0 D) = H3 at *
  refine wpAny_newFunctionEnv B.nocell (by intro y hy; simp at hy) (fun h4 hn4 sb4 => ?_) B.kind
  have k4 : ∀ b o, s3.heap.get? b = some o → h4.get? b = some o := fun b o e => (sb4.2 b (Nat.ne_of_lt (Heap.lt_size e))).trans (Heap.get?_push_of_some _ e)
  have I4 := blk_inv (os := os) (t1 := s3.toks + ([] : List (Str × Value)).length) B he I3 hf3 ho3 k4 hn4
  have st4 : tn 0 h4 := T.keep _ _ _ st3 fun b hb o e => k4 b o e
  have fpB : ∀ {H' : Hp}, (∀ b ∈ fp, H' b = none) → ∀ b ∈ fp, FpOk (blk X scope (nB X.N os fi) s3 H3 fp) [] H' b := fun hn b hb => by
    refine ⟨hn b hb, (I4.ok.exf b hb).1, I4.ok.exfs b hb, .inl hb, (I4.ok.exf b hb).2, fun p hp => nomatch hp⟩
  have lp := loop_any (Y := blk X scope (nB X.N os fi) s3 H3 fp) (R := RR (.ref D) s3.heap.objs.size) hL hc rfl (hT it D _) (hg s3 H3 fp) (ht s3 H3 fp) (hb D s3 H3 fp) T fpB I4 st4 (fun b hb => (hf3 b hb).1) q3
    fun σ' H' s' I' n' => hRR D s3 H3 s' σ' H' I3 hf3 I' n'
  exact hS _ _ _ _ _ lp (T.self _ 0 _ _ _ st4 lp)
def tCG (o0 : Addr → HO) (os : List Str) (fi : List Nat) (wi : TI) (g : TG) (tt : TT) (tb : Addr → TB) : TE := fun σ H Q => wi σ H fun J H1 => ∀ l, H1 l = none → LR J g tt (tb l) (sB σ os fi) (upd H1 l (o0 l)) fun _ H' => Q (.ref l) H'
theorem pe_compG {gs : List Comprehension} {p' : Pos} (hev : eval e X.env = comprehension e scope X.env p' mk false (eval iter X.env)) (hcl : clausesOf e = ⟨tg, iter, ifs, 0⟩ :: gs) (hc : X.calm = true) (hN : X.N = N) (he : X.env.scope = esc) (B : BlkOk esc scope N fi)
    (hL : LoopRule X.prog X.w X.A e 0) (hS : StartRule X.prog X.w X.A e 0) (hT : ∀ (it D : Addr) (env : Env), compTurn e 0 (.ref it) (.ref D) env = turnOf tg p ifs (.ref it) env (body D env) (again (.compLoop e 0 (.ref it) (.ref D) env)))
    (hmk : NewRule X mk o0) (hi : PI X tg iter wi)
    (hg : ∀ s H fp, PG (blk X scope (nB N os fi) s H fp) tg g) (ht : ∀ s H fp, PTs (blk X scope (nB N os fi) s H fp) ifs tt) (hb : ∀ D s H fp, PB (blk X scope (nB N os fi) s H fp) (body D (blk X scope (nB N os fi) s H fp).env) (tb D))
    (hs : ∀ x, foldedSetIterable iter X.env x = pure x := by intro _; rfl) : PE X e (tCG o0 os fi wi g tt tb) := by
  intro pins s σ H Q I h
  have cells := blk_cells (by rw [hN]; exact B) he I
  rw [hev]
  refine wpAny_comprehension_free (use := none) hcl hs (closure_eq cells) B.kind B.loc (thn (hi pins s σ H _ I h) fun v s1 h1 => thn h1 fun itv s2 h2 => ?_)
  obtain ⟨it, fp, tn, J, H2, rfl, I2, T, st2, f2, q2⟩ := h2
  refine comp_coreG (RR := fun acc C => compPost (model X.prog X.w) X.A X.xe none (EP X pins σ Q) acc C) hc hN he B hL hS hT hmk hg ht hb I2 T st2 f2 q2 ?_
  intro D s3 H3 s' σ' H' I3 f3 I' q
  obtain ⟨m, hn, _⟩ := I'.loc
  exact ⟨m, hn, fun h' sb => ⟨.ref D, H', blk_out I3 f3 I' sb, rfl, q⟩⟩
end
section
variable {X : Cx} {elt tg iter tg2 iter2 : Expr} {ifs ifs2 : List Expr} {scope esc : Scope} {pos : Pos} {N os : List Str} {fi : List Nat} {wi wi2 : TI} {g g2 : TG} {tt tt2 : TT} {te : TE}
theorem pe_comp2 (hc : X.calm = true) (hN : X.N = N) (he : X.env.scope = esc) (B : BlkOk esc scope N fi) (hi : PI X tg iter wi)
    (hg : ∀ s H fp, PG (blk X scope (nB N os fi) s H fp) tg g) (ht : ∀ s H fp, PTs (blk X scope (nB N os fi) s H fp) ifs tt)
    (hi2 : ∀ s H fp, PI (blk X scope (nB N os fi) s H fp) tg2 iter2 wi2) (hg2 : ∀ s H fp, PG (blk X scope (nB N os fi) s H fp) tg2 g2) (ht2 : ∀ s H fp, PTs (blk X scope (nB N os fi) s H fp) ifs2 tt2)
    (hel : ∀ s H fp, PE (blk X scope (nB N os fi) s H fp) elt te)
    (hs : ∀ x, foldedSetIterable iter X.env x = pure x := by intro _; rfl) (hs2 : ∀ env x, foldedSetIterable iter2 env x = pure x := by intro _ _; rfl) :
    PE X (.ListComp elt [⟨tg, iter, ifs, 0⟩, ⟨tg2, iter2, ifs2, 0⟩] scope pos) (tCG (fun _ => .lst []) os fi wi g tt fun D => tIn wi2 g2 tt2 (tEmL D te)) := by
  refine pe_compG (gs := [⟨tg2, iter2, ifs2, 0⟩]) (body := fun D env => inBody (.ListComp elt [⟨tg, iter, ifs, 0⟩, ⟨tg2, iter2, ifs2, 0⟩] scope pos) 1 iter2 (.ref D) env) rfl rfl hc hN he B loop_list (start_list rfl rfl) (fun _ _ _ => rfl) new_list hi hg ht (fun D s H fp => ?_) hs
  exact pb_in (body := listBody elt (.ref D) (blk X scope (nB N os fi) s H fp).env) loop_list (start_list rfl rfl) hc rfl (fun _ => rfl) (hi2 s H fp) (hg2 s H fp) (ht2 s H fp) (pb_list rfl (hel s H fp)) (hs2 _)
end
end L2
namespace L2
open PySem PySem.Spec PyProof.Rows
def ssOf (ks : List Str) : Key → Bool
  | .inr x => decide (x ∈ ks)
  | _ => false
def SetT (P : Program) (w : World) (a : Addr) (ks : List Str) : HO := .ext fun h => h.SetOf (mixKind P w) a (ssOf ks) ks.length
def insT (x : Str) (ks : List Str) : List Str := if x ∈ ks then ks else ks ++ [x]
theorem setT_ok {P : Program} {w : World} {H : Hp} {h : Heap} {a : Addr} {ks : List Str} (x : h.SetOf (mixKind P w) a (ssOf ks) ks.length) : ObjOk P w H h a (SetT P w a ks) :=
  ⟨x, let ⟨o, _, _, _, e, _⟩ := x; ⟨o, e⟩, fun h1 h2 ⟨o, es, ep, t, e, r⟩ k => ⟨o, es, ep, t, k o e, r⟩⟩
theorem ins_eq (x : Str) (ks : List Str) : (fun k' => ssOf ks k' || decide (k' = (.inr x : Key))) = ssOf (insT x ks) := by
  funext k
  cases k with
  | inl i => simp [ssOf]
  | inr y =>
    unfold insT
    by_cases h : x ∈ ks
    · rw [if_pos h]
      simp only [ssOf]
      by_cases e : y = x
      · subst e; simp [h]
      · simp [e]
    · rw [if_neg h]
      simp [ssOf, List.mem_append, Bool.decide_or]
theorem ins_len (x : Str) (ks : List Str) : (if ssOf ks (.inr x) = true then ks.length else ks.length + 1) = (insT x ks).length := by
  unfold insT
  by_cases h : x ∈ ks
  · rw [if_pos h, if_pos (show ssOf ks (.inr x) = true by simp [ssOf, h])]
  · rw [if_neg h, if_neg (by simp [ssOf, h]), List.length_append]; rfl
section
variable {X : Cx} {pins : List (Addr × Obj)} {σ : St} {H : Hp} {s : Shared} {a : Addr} {ks : List Str}
theorem Inv.setOf (I : Inv X pins σ H s) (h : H a = some (SetT X.prog X.w a ks)) : s.heap.SetOf (mixKind X.prog X.w) a (ssOf ks) ks.length := (I.hok a _ h).1
theorem Inv.setPut {h' : Heap} {ks' : List Str} {t' : Nat} (I : Inv X pins σ H s) (h : H a = some (SetT X.prog X.w a ks)) (sb : Heap.SameBut a s.heap h') (n : h'.SetOf (mixKind X.prog X.w) a (ssOf ks') ks'.length) : Inv X pins σ (upd H a (SetT X.prog X.w a ks')) { s with heap := h', toks := t' } :=
  I.write (x := a) (e := a) (by rw [h]; exact trivial) (.inl rfl) (fun b u hb e => (sb.2 b hb).trans e) (let ⟨o, _, _, _, e, _⟩ := n; ⟨o, e⟩) (setT_ok n)
theorem call_set0 : CallR X (.type "set") (fun xs H Q => xs = [] ∧ ∀ p, H p = none → Q (.ref p) (upd H p (SetT X.prog X.w p []))) := by
  intro pins s σ H xs us Q I r h
  obtain ⟨rfl, q⟩ := h
  cases r
  refine call_set_0 fun led => ?_
  have n : (s.heap.push { cls := .type "set", dict := none, data := .set #[] 0 (.fresh 0 0 led) }).SetOf (mixKind X.prog X.w) s.heap.objs.size (ssOf []) ([] : List Str).length :=
    ⟨_, #[], 0, _, Heap.get?_push_size _ rfl, ⟨rfl, rfl, rfl⟩, rfl, fun e he => by simp at he, fun k => by cases k <;> simp [ssOf], by decide, by rfl, rfl⟩
  exact ⟨.ref s.heap.objs.size, _, I.laid (t' := s.toks) (fun b u e => Heap.get?_push_of_some _ e) (Nat.le_refl _) (setT_ok n), rfl, q _ I.fresh⟩
theorem boot_set : bootBuiltins "set" = some (.type "set") := by decide +kernel
def rInS (P : Program) (w : World) (neg : Bool) : R2 := fun x y H Q => ∃ z a ks, x = .str z ∧ y = .ref a ∧ H a = some (SetT P w a ks) ∧ Q (.bl (if neg then !decide (z ∈ ks) else decide (z ∈ ks))) H
theorem op_in_set : OpR X (compareOp .In) (rInS X.prog X.w false) := by
  intro pins s σ H x y v u Q I rx ry h
  obtain ⟨z, a, ks, rfl, rfl, ha, q⟩ := h
  obtain ⟨t, rfl⟩ := rx
  cases ry
  exact wpAny_inSet_of (mixKind_str _ _ z t) rfl (I.setOf ha) ⟨.bl _, H, I.tok _, rfl, q⟩
def rAddS (P : Program) (w : World) : V → List V → Hp → VK → Prop := fun x xs H Q => ∃ a z ks, x = .ref a ∧ xs = [.str z] ∧ H a = some (SetT P w a ks) ∧ ks.length + 1 < 4096 ∧ Q .non (upd H a (SetT P w a (insT z ks)))
theorem mt_setadd : MtR X "set.add" (rAddS X.prog X.w) := by
  intro pins s σ H x xs v us Q I rx rv h
  obtain ⟨a, z, ks, rfl, rfl, ha, hz, q⟩ := h
  cases rx
  obtain ⟨u, rfl, t, rfl⟩ := vals1 rv
  refine call_set_add (mixKind_str _ _ z t) rfl (I.setOf ha) hz fun h' sb n => ?_
  rw [ins_eq, ins_len] at n
  exact ⟨.non, _, I.setPut ha sb n, rfl, q⟩
theorem call_len_setT : CallR X (.builtin "len") (fun xs H Q => ∃ a ks, xs = [.ref a] ∧ H a = some (SetT X.prog X.w a ks) ∧ Q (.int ks.length) H) := by
  intro pins s σ H xs us Q I r h
  obtain ⟨a, ks, rfl, ha, q⟩ := h
  obtain ⟨u, rfl, rx⟩ := vals1 r
  cases rx
  obtain ⟨o, es, ep, t, e, ex, d, _, _, b, f, n⟩ := I.setOf ha
  refine call_len_set e ex d f ?_ ⟨.int ks.length, H, I.tok _, ⟨_, by rw [n]⟩, q⟩
  have : es.size < 4096 := b
  omega
end
def tAddS (P : Program) (w : World) (to : TE) (t : TA) : TE := fun σ H Q => to σ H fun x H1 => (∃ a ks, x = .ref a ∧ H1 a = some (SetT P w a ks)) ∧ t σ H1 fun xs H2 => rAddS P w x xs H2 Q
theorem pe_setadd {X : Cx} {o e : Expr} {to : TE} {t : TA} {apos cpos : Pos} (ho : PE X o to) (ha : PA X [e] t)
    (hbase : attributeBase o "add" X.env (eval o X.env) = eval o X.env := by rfl)
    (hfew : ((backTo cpos (starEach [e] X.env)).all (fun x => !x.1) && (backToKw cpos (keywordEach [] X.env)).all (fun x => x.1.isSome)
      && decide ([e].length + ([] : List Keyword).length + (if ([] : List Keyword).isEmpty then 0 else 1) < 30)) = true := by rfl)
    (hline : (apos.endLine == cpos.line) = true := by rfl) (hs : starEach [e] X.env = (false, eval e X.env) :: starEach [] X.env := by rfl) (hplain : (backTo cpos (starEach [] X.env)).any (·.1) = false := by rfl) :
    PE X (.Call (.Attribute o "add" apos) [e] [] cpos) (tAddS X.prog X.w to t) := by
  intro pins s σ H Q I h
  refine wpAny_Call_method_late hbase hfew hline rfl (thn (ho pins s σ H _ I h) fun v s1 ⟨x, H1, I1, r1, ⟨a, ks, ea, hA⟩, q1⟩ => ?_)
  subst ea
  cases r1
  have S := I1.setOf hA
  refine ⟨"set", "set.add", F.plainAttrs_set, F.slot_set_add, F.type_set_add, S.typeIs, S.noDict, ?_⟩
  have hA := ha cpos pins s1 σ H1 _ I1 q1
  rw [hs] at hA ⊢
  refine Calls.callWith_builtin (by show (false || (backTo cpos (starEach [] X.env)).any (·.1)) = false; rw [hplain] <;> rfl) (Calls.evalArgs_plain ?_)
  exact thn hA fun us s2 ⟨vs, H2, I2, r2, q2⟩ => mt_setadd pins s2 σ H2 (.ref a) vs _ us Q I2 rfl r2 q2
theorem new_set {X : Cx} : NewRule X (newSet (.type "set")) (fun a => SetT X.prog X.w a []) := by
  intro pins s σ H E Q I h
  refine wpAny_newSet_of (knd := mixKind X.prog X.w) fun led n => ?_
  have n' : (s.heap.push { cls := .type "set", dict := none, data := .set #[] 0 (.fresh 0 0 led) }).SetOf (mixKind X.prog X.w) s.heap.objs.size (ssOf []) ([] : List Str).length := by
    have e : (fun _ : Key => false) = ssOf [] := by
      funext k; cases k <;> simp [ssOf]
    rw [← e]; exact n
  exact h _ (fun b o e => Heap.get?_push_of_some _ e) (I.laid (t' := s.toks) (fun b u e => Heap.get?_push_of_some _ e) (Nat.le_refl _) (setT_ok n'))
def setBody (elt : Expr) (acc : Value) (env : Env) (k : Sem Fi) : Sem Fi := (do let v ← eval elt env; standAt elt.pos; let _ ← call (.builtin "set.add") [acc, v]) >>= fun _ => k
def tEmS (P : Program) (w : World) (D : Addr) (te : TE) : TB := fun σ H N => te σ H fun v H6 => ∃ z ks, v = .str z ∧ H6 D = some (SetT P w D ks) ∧ ks.length + 1 < 4096 ∧ N σ (upd H6 D (SetT P w D (insT z ks)))
theorem pb_set {Y : Cx} {elt : Expr} {te : TE} {D : Addr} (hx : Y.xe = F0) (hel : PE Y elt te) : PB Y (setBody elt (.ref D) Y.env) (tEmS Y.prog Y.w D te) := by
  intro pins s σ H N k R I h hk
  have a1 := hel pins s σ H _ I h
  rw [hx] at a1
  refine wpAny_bind (wpAny_bind (of_F0 a1 fun y sA ⟨v, HA, IA, rA, z, ks, ev, hD, hz, wA⟩ => wpAny_bind (wpAny_standAt (wpAny_bind ?_))))
  have a2 := mt_setadd pins sA σ HA (.ref D) [v] (.ref D) [y] (fun _ H' => N σ H') IA rfl (.cons rA .nil) ⟨D, z, ks, rfl, by rw [ev], hD, hz, wA⟩
  rw [hx] at a2
  exact of_F0 a2 fun _ sB' ⟨_, HB, IB, _, wB⟩ => wpAny_pure (hk σ HB sB' IB wB)
section
variable {X : Cx} {elt tg iter : Expr} {ifs : List Expr} {scope esc : Scope} {pos : Pos} {N os : List Str} {fi : List Nat} {wi : TI} {g : TG} {tt : TT} {te : TE}
theorem pe_setcomp (hc : X.calm = true) (hN : X.N = N) (he : X.env.scope = esc) (B : BlkOk esc scope N fi) (hi : PI X tg iter wi)
    (hg : ∀ s H fp, PG (blk X scope (nB N os fi) s H fp) tg g) (ht : ∀ s H fp, PTs (blk X scope (nB N os fi) s H fp) ifs tt)
    (hel : ∀ s H fp, PE (blk X scope (nB N os fi) s H fp) elt te)
    (hs : ∀ x, foldedSetIterable iter X.env x = pure x := by intro _; rfl) :
    PE X (.SetComp elt [⟨tg, iter, ifs, 0⟩] scope pos) (tCG (fun a => SetT X.prog X.w a []) os fi wi g tt fun D => tEmS X.prog X.w D te) :=
  pe_compG (gs := []) (body := fun D env => setBody elt (.ref D) env) rfl rfl hc hN he B loop_set (start_set rfl rfl) (fun _ _ _ => rfl) new_set hi hg ht (fun D s H fp => pb_set rfl (hel s H fp)) hs
end
end L2
namespace L2
open PySem PySem.Spec PyProof.Rows
section
variable {X : Cx} {tg : Expr}
end
end L2
namespace L2
open PySem PySem.Spec PyProof.Rows
inductive TopR (K : PySem.W.Frag) (H : Hp) (R : V → V → Bool → Prop) : V → V → Bool → Prop where
  | lsts {a c : Addr} {xs ys : List V} (e : Nat → Bool) (ha : SqL K H a xs) (hc : SqL K H c ys) (hl : xs.length = ys.length) (h : ∀ j x y, xs[j]? = some x → ys[j]? = some y → R x y (e j)) : TopR K H R (.ref a) (.ref c) ((List.range xs.length).all e)
  | lens {a c : Addr} {xs ys : List V} (ha : SqL K H a xs) (hc : SqL K H c ys) (hl : xs.length ≠ ys.length) : TopR K H R (.ref a) (.ref c) false
  | tups {a c : Addr} {xs ys : List V} (e : Nat → Bool) (ha : SqT K H a xs) (hc : SqT K H c ys) (h : ∀ j x y, xs[j]? = some x → ys[j]? = some y → R x y (e j)) : TopR K H R (.ref a) (.ref c) ((List.range (min xs.length ys.length)).all e && xs.length == ys.length)
def EqD (K : PySem.W.Frag) (H : Hp) : Nat → V → V → Bool → Prop
  | 0, x, y, b => (flatV x = true ∧ flatV y = true ∧ b = eqV x y) ∨ ∃ a, x = .ref a ∧ y = .ref a ∧ b = true
  | n + 1, x, y, b => ((flatV x = true ∧ flatV y = true ∧ b = eqV x y) ∨ ∃ a, x = .ref a ∧ y = .ref a ∧ b = true) ∨ ∃ a c, x = .ref a ∧ y = .ref c ∧ a ≠ c ∧ TopR K H (EqD K H n) x y b
section
variable {X : Cx} {pins : List (Addr × Obj)} {σ : St} {H : Hp} {s : Shared}
theorem items_R {R : V → V → Bool → Prop} {A : Around} {xs ys : List V} {us vs : List Value} {e : Nat → Bool} (hR : ∀ x y b u v, R x y b → RelV x u → RelV y v → SeqAt.EqAt A s u v b) (r1 : Vals xs us) (r2 : Vals ys vs) (h : ∀ j x y, xs[j]? = some x → ys[j]? = some y → R x y (e j)) :
    ∀ j (h1 : j < us.toArray.size) (h2 : j < vs.toArray.size), SeqAt.EqAt A s us.toArray[j] vs.toArray[j] (e j) := fun j h1 h2 => by
  have l1 : j < xs.length := by rw [r1.length]; simpa using h1
  have l2 : j < ys.length := by rw [r2.length]; simpa using h2
  obtain ⟨u, q1, z1⟩ := r1.get (i := j) (x := xs[j]) (by simp [l1])
  obtain ⟨v, q2, z2⟩ := r2.get (i := j) (x := ys[j]) (by simp [l2])
  have e1 : us.toArray[j] = u := by
    have : us[j]? = some us.toArray[j] := by simp
    rw [this] at q1; exact Option.some.inj q1
  have e2 : vs.toArray[j] = v := by
    have : vs[j]? = some vs.toArray[j] := by simp
    rw [this] at q2; exact Option.some.inj q2
  rw [e1, e2]
  exact hR _ _ _ _ _ (h j _ _ (by simp [l1]) (by simp [l2])) z1 z2
theorem top_at {R : V → V → Bool → Prop} {A : Around} {x y : V} {b : Bool} {u v : Value} (I : Inv X pins σ H s) (hu : A.units < cLine) (hR : ∀ x y b u v, R x y b → RelV x u → RelV y v → SeqAt.EqAt A.in1 s u v b) (h : TopR X.K H R x y b) (rx : RelV x u) (ry : RelV y v) : SeqAt.RcAt A s u v b := by
  cases h with
  | lsts e ha hc hl h =>
    cases rx
    cases ry
    obtain ⟨its, r1, p1, _⟩ := I.list ha
    obtain ⟨its2, r2, p2, _⟩ := I.list hc
    have z := SeqAt.RcAt.lists (A := A) p1.isList p2.isList (by rw [List.size_toArray, List.size_toArray, ← r1.length, ← r2.length]; exact hl) hu (items_R hR r1 r2 h)
    rw [List.size_toArray, ← r1.length] at z
    exact z
  | lens ha hc hl =>
    cases rx
    cases ry
    obtain ⟨its, r1, p1, _⟩ := I.list ha
    obtain ⟨its2, r2, p2, _⟩ := I.list hc
    exact SeqAt.RcAt.lists_lengths (A := A) p1.isList p2.isList (by rw [List.size_toArray, List.size_toArray, ← r1.length, ← r2.length]; simpa using hl) hu
  | tups e ha hc h =>
    cases rx
    cases ry
    obtain ⟨its, r1, p1, _⟩ := I.tuple ha
    obtain ⟨its2, r2, p2, _⟩ := I.tuple hc
    have z := SeqAt.RcAt.tuples (A := A) (show s.heap.IsTuple _ its.toArray from p1) (show s.heap.IsTuple _ its2.toArray from p2) hu (items_R hR r1 r2 h)
    rw [List.size_toArray, List.size_toArray, ← r1.length, ← r2.length] at z
    exact z
theorem flat_at {A : Around} {x y : V} {b : Bool} {u v : Value} (h : (flatV x = true ∧ flatV y = true ∧ b = eqV x y) ∨ ∃ a, x = .ref a ∧ y = .ref a ∧ b = true) (rx : RelV x u) (ry : RelV y v) : SeqAt.EqAt A s u v b := by
  rcases h with ⟨f1, f2, rfl⟩ | ⟨a, rfl, rfl, rfl⟩
  · exact eqAt_V rx ry f1 f2
  · cases rx
    cases ry
    exact SeqAt.EqAt.same _
theorem eqd_at (I : Inv X pins σ H s) : ∀ (n : Nat) (A : Around), A.units + n < cLine → ∀ (x y : V) (b : Bool) (u v : Value), EqD X.K H n x y b → RelV x u → RelV y v → SeqAt.EqAt A s u v b
  | 0, A, hu, x, y, b, u, v, h, rx, ry => flat_at h rx ry
  | n + 1, A, hu, x, y, b, u, v, h, rx, ry => by
    rcases h with h | ⟨a, c, rfl, rfl, ne, h⟩
    · exact flat_at h rx ry
    · cases rx
      cases ry
      exact SeqAt.EqAt.of_refs ne (top_at I (by omega) (eqd_at I n A.in1 (by show A.units + 1 + n < cLine; omega)) h rfl rfl)
def rEqD (K : PySem.W.Frag) (neg : Bool) : R2 := fun x y H Q => ∃ n b, n ≤ 40 ∧ TopR K H (EqD K H n) x y b ∧ Q (.bl (if neg then !b else b)) H
theorem op_eqD (hu : X.A.units + 60 < cLine) : OpR X (compareOp .Eq) (rEqD X.K false) := by
  intro pins s σ H x y v u Q I rx ry h
  obtain ⟨n, b, hn, h, q⟩ := h
  exact top_at I (by omega) (eqd_at I n X.A.in1 (by show X.A.units + 1 + n < cLine; omega)) h rx ry _ _ _ _ ⟨.bl _, H, I, rfl, q⟩
theorem op_neD (hu : X.A.units + 60 < cLine) : OpR X (compareOp .NotEq) (rEqD X.K true) := by
  intro pins s σ H x y v u Q I rx ry h
  obtain ⟨n, b, hn, h, q⟩ := h
  have hR := eqd_at I n X.A.in1 (by show X.A.units + 1 + n < cLine; omega)
  have hu' : X.A.units < cLine := by omega
  cases h with
  | lsts e ha hc hl h =>
    cases rx
    cases ry
    obtain ⟨its, r1, p1, _⟩ := I.list ha
    obtain ⟨its2, r2, p2, _⟩ := I.list hc
    refine SeqAt.RcNeAt.lists (A := X.A) p1.isList p2.isList (by rw [List.size_toArray, List.size_toArray, ← r1.length, ← r2.length]; exact hl) hu' (items_R hR r1 r2 h) _ _ _ _ ?_
    rw [List.size_toArray, ← r1.length]
    exact ⟨.bl _, H, I, rfl, q⟩
  | lens ha hc hl =>
    cases rx
    cases ry
    obtain ⟨its, r1, p1, _⟩ := I.list ha
    obtain ⟨its2, r2, p2, _⟩ := I.list hc
    exact SeqAt.RcNeAt.lists_lengths (A := X.A) p1.isList p2.isList (by rw [List.size_toArray, List.size_toArray, ← r1.length, ← r2.length]; simpa using hl) hu' _ _ _ _ ⟨.bl _, H, I, rfl, q⟩
  | tups e ha hc h =>
    cases rx
    cases ry
    obtain ⟨its, r1, p1, _⟩ := I.tuple ha
    obtain ⟨its2, r2, p2, _⟩ := I.tuple hc
    refine SeqAt.RcNeAt.tuples (A := X.A) (show s.heap.IsTuple _ its.toArray from p1) (show s.heap.IsTuple _ its2.toArray from p2) hu' (items_R hR r1 r2 h) _ _ _ _ ?_
    rw [List.size_toArray, List.size_toArray, ← r1.length, ← r2.length]
    exact ⟨.bl _, H, I, rfl, q⟩
end
theorem Room.units60 {k : Nat} {A : Around} (r : Room k A) : A.units + 60 < cLine := by have := r.un; omega
end L2
namespace L2
open PySem PySem.Spec PyProof.Rows
def HF (q : Program) : List Str → Prop
  | [] => True
  | n :: ns => (∃ d, (recsOf q).find? (fun e => e.name == n) = some d) ∧ HF q ns
def HC (K : PySem.W.Frag) : List Str → Prop
  | [] => True
  | n :: ns => (∃ f c T fd, CodeN K n f c T fd) ∧ HC K ns
def HT0 (K : PySem.W.Frag) : List Str → Prop
  | [] => True
  | n :: ns => K.lookup (tbOf K n) = none ∧ HT0 K ns
theorem HF.mem {q : Program} : ∀ {ns : List Str}, HF q ns → ∀ n ∈ ns, ∃ d, (recsOf q).find? (fun e => e.name == n) = some d
  | [], _, n, h => nomatch h
  | _ :: _, h, n, hn => by
    rcases List.mem_cons.mp hn with rfl | hn
    · exact h.1
    · exact HF.mem h.2 n hn
theorem HC.mem {K : PySem.W.Frag} : ∀ {ns : List Str}, HC K ns → ∀ n ∈ ns, ∃ f c T fd, CodeN K n f c T fd
  | [], _, n, h => nomatch h
  | _ :: _, h, n, hn => by
    rcases List.mem_cons.mp hn with rfl | hn
    · exact h.1
    · exact HC.mem h.2 n hn
theorem HT0.mem {K : PySem.W.Frag} : ∀ {ns : List Str}, HT0 K ns → ∀ n ∈ ns, K.lookup (tbOf K n) = none
  | [], _, n, h => nomatch h
  | _ :: _, h, n, hn => by
    rcases List.mem_cons.mp hn with rfl | hn
    · exact h.1
    · exact HT0.mem h.2 n hn
theorem walk_ofN (names : List Str) {l : PySem.W.OpenLaw} {n k : Nat} {q : Program} {loose : List Str} {XP : (Str → Option Value) → Heap → Prop} {YP : World → Heap → Prop} {d : DefRec} {K : Params → PySem.W.Frag} {CX : World → CXT} {sp : World → Sp} {x : Str}
    (hn : l.most = some n) (hn2 : n ≤ sizeLine) (hdf : d.params.defaults = []) (hr : Room k callerA)
    (hY : ∀ (w : World) (h : Heap), YP w h → (K w.params).In h) (hf : HF q names) (hC : ∀ w : World, HC (K w.params) names) (hKT : ∀ w : World, HT0 (K w.params) names)
    (F : ∀ (w : World) (mg : Str → Option Value) (fa : Addr) (h : Heap), (K w.params).In h → h.Ns mainGlobals mg → mg d.name = some (.ref fa) →
      ∃ fd : FuncData, (∀ (s : Shared) (u : Value), BindsTo s fd ⟨[u], []⟩ [(x, u)]) ∧
        ∀ base : Heap, (K w.params).In base → base.Ns mainGlobals mg → BmOf mg base → FnOk l.prog w (K w.params) mg base (CX w) k fa fd [x] (sp w))
    (hsp : ∀ (w : World) (H : Hp) (a : Addr) (ns : List Int), ns.length ≤ n → (∀ m ∈ names, H (tbOf (K w.params) m) = some (.tbl #[])) → SqL (K w.params) H a (ns.map V.int) → sp w [.ref a] H (fun v _ => v = .bl true) fun _ _ _ => False)
    (hCX : ∀ (w : World) (H : Hp) (s : Shared) (e : Value) (s' : Shared), CX w [] H s (fun _ _ _ => False) e s' → False) :
    PySem.W.WalkO q loose XP YP l.row.toRowW d [] (fun f vs => PySem.call f vs) := by
  refine walk_ofT (Ts := fun w => names.map fun m => (cdOf (K w.params) m, tbOf (K w.params) m)) hn hn2 hdf hr hY ?_ ?_ F ?_ hCX
  · intro w h lo mean mg mb KX Tp t ht
    obtain ⟨m, hm, rfl⟩ := List.mem_map.mp ht
    obtain ⟨f, c, T, fd, C⟩ := (hC w).mem m hm
    obtain ⟨d, hd⟩ := hf.mem m hm
    exact C.tab KX Tp hd
  · intro w t ht
    obtain ⟨m, hm, rfl⟩ := List.mem_map.mp ht
    exact (hKT w).mem m hm
  · intro w H a ns hl hO hS
    exact hsp w H a ns hl (fun m hm => hO.tab _ (List.mem_map.mpr ⟨m, hm, rfl⟩)) hS
end L2
namespace L2
open PySem PySem.Spec PyProof.Rows
section
variable {κ : Type} [DecidableEq κ]
def valV (kvs : List (κ × V)) (k : κ) : Option V := (kvs.find? fun kv => decide (kv.1 = k)).map (·.2)
def putK (kvs : List (κ × V)) (k : κ) (v : V) : List (κ × V) :=
  if (kvs.any fun kv => decide (kv.1 = k)) = true then kvs.map (fun kv => if kv.1 = k then (kv.1, v) else kv) else kvs ++ [(k, v)]
theorem valV_pos {p : κ × V} {r : List (κ × V)} {k : κ} (e : p.1 = k) : valV (p :: r) k = some p.2 := by simp [valV, List.find?_cons, e]
theorem valV_neg {p : κ × V} {r : List (κ × V)} {k : κ} (e : ¬ p.1 = k) : valV (p :: r) k = valV r k := by simp [valV, List.find?_cons, e]
theorem valV_any (k : κ) : ∀ kvs : List (κ × V), (kvs.any fun kv => decide (kv.1 = k)) = (valV kvs k).isSome
  | [] => rfl
  | p :: r => by
    rw [List.any_cons]
    by_cases e : p.1 = k
    · simp only [valV_pos e, decide_eq_true e, Bool.true_or, Option.isSome_some]
    · rw [valV_neg e, decide_eq_false e, Bool.false_or]; exact valV_any k r
theorem valV_map (k j : κ) (y : V) : ∀ kvs : List (κ × V), valV (kvs.map fun kv => if kv.1 = k then (kv.1, y) else kv) j = (valV kvs j).map fun x => if j = k then y else x
  | [] => rfl
  | p :: r => by
    have ih := valV_map k j y r
    rw [List.map_cons]
    by_cases h : p.1 = k
    · rw [if_pos h]
      by_cases e : p.1 = j
      · rw [valV_pos (p := (p.1, y)) e, valV_pos e, Option.map_some, if_pos (e.symm.trans h)]
      · rw [valV_neg (p := (p.1, y)) e, valV_neg e, ih]
    · rw [if_neg h]
      by_cases e : p.1 = j
      · rw [valV_pos (p := p) e, valV_pos e, Option.map_some, if_neg (fun z => h (e.trans z))]
      · rw [valV_neg (p := p) e, valV_neg e, ih]
theorem valV_snoc (k j : κ) (y : V) : ∀ kvs : List (κ × V), valV kvs k = none → valV (kvs ++ [(k, y)]) j = if j = k then some y else valV kvs j
  | [], _ => by
    by_cases e : k = j
    · rw [if_pos e.symm]; exact valV_pos (p := (k, y)) e
    · rw [if_neg (fun z => e z.symm)]; exact valV_neg (p := (k, y)) e
  | p :: r, hn => by
    rw [List.cons_append]
    have hk : ¬ p.1 = k := fun z => by rw [valV_pos z] at hn; cases hn
    rw [valV_neg hk] at hn
    have ih := valV_snoc k j y r hn
    by_cases e : p.1 = j
    · rw [valV_pos e, valV_pos e, if_neg (fun z => hk (e.trans z))]
    · rw [valV_neg e, valV_neg e, ih]
theorem valV_put (kvs : List (κ × V)) (k j : κ) (y : V) : valV (putK kvs k y) j = if j = k then some y else valV kvs j := by
  unfold putK
  by_cases a : (kvs.any fun kv => decide (kv.1 = k)) = true
  · rw [if_pos a, valV_map]
    rw [valV_any] at a
    by_cases e : j = k
    · obtain ⟨x, hx⟩ := Option.isSome_iff_exists.mp a
      rw [if_pos e, e, hx, Option.map_some, if_pos rfl]
    · rw [if_neg e]
      cases valV kvs j with
      | none => rfl
      | some x => rw [Option.map_some, if_neg e]
  · rw [if_neg a]
    refine valV_snoc k j y kvs ?_
    rw [valV_any] at a
    cases q : valV kvs k with
    | none => rfl
    | some x => rw [q] at a; exact (a rfl).elim
theorem length_putK (kvs : List (κ × V)) (k : κ) (v : V) : (putK kvs k v).length ≤ kvs.length + 1 := by
  unfold putK
  split
  · rw [List.length_map]; omega
  · rw [List.length_append, List.length_cons, List.length_nil]; omega
theorem putK_new {kvs : List (κ × V)} {k : κ} (v : V) (h : valV kvs k = none) : putK kvs k v = kvs ++ [(k, v)] := by
  unfold putK
  rw [valV_any, h]
  exact if_neg (by decide)
theorem RelO.isSome_eq {o : Option V} {u : Option Value} (r : RelO o u) : o.isSome = u.isSome := by
  cases o with
  | none => cases u with
    | none => rfl
    | some _ => exact (show False from r).elim
  | some _ => cases u with
    | none => exact (show False from r).elim
    | some _ => rfl
theorem RelO.getD {o : Option V} {u : Option Value} {d : V} {d' : Value} (r : RelO o u) (rd : RelV d d') : RelV (o.getD d) (u.getD d') := by
  cases o with
  | none => cases u with
    | none => exact rd
    | some _ => exact (show False from r).elim
  | some _ => cases u with
    | none => exact (show False from r).elim
    | some _ => exact r
theorem KV.val {kvs : List (κ × V)} {vs : List (κ × Value)} (r : KV kvs vs) (k : κ) : RelO (valV kvs k) (valueAt vs k) := by
  unfold KV at r
  induction r with
  | nil => exact True.intro
  | @cons p q ps qs h t ih =>
    obtain ⟨h1, h2⟩ := h
    by_cases e : p.1 = k
    · have e' : q.1 = k := h1.symm.trans e
      have b : valueAt (q :: qs) k = some q.2 := by simp [valueAt, List.find?_cons, e']
      rw [valV_pos e, b]; exact h2
    · have e' : ¬ q.1 = k := fun z => e (h1.trans z)
      have b : valueAt (q :: qs) k = valueAt qs k := by simp [valueAt, List.find?_cons, e']
      rw [valV_neg e, b]; exact ih
theorem KV.any {kvs : List (κ × V)} {vs : List (κ × Value)} (r : KV kvs vs) (k : κ) : (kvs.any fun kv => decide (kv.1 = k)) = vs.any fun kv => decide (kv.1 = k) := by
  unfold KV at r
  induction r with
  | nil => rfl
  | cons h t ih => rw [List.any_cons, List.any_cons, ih, h.1]
theorem KV.repl {kvs : List (κ × V)} {vs : List (κ × Value)} (r : KV kvs vs) (k : κ) {y : V} {u : Value} (ry : RelV y u) :
    KV (kvs.map fun kv => if kv.1 = k then (kv.1, y) else kv) (vs.map fun kv => if kv.1 = k then (kv.1, u) else kv) := by
  unfold KV at r ⊢
  induction r with
  | nil => exact .nil
  | @cons p q ps qs h t ih =>
    rw [List.map_cons, List.map_cons]
    refine .cons ?_ ih
    obtain ⟨h1, h2⟩ := h
    by_cases e : p.1 = k
    · rw [if_pos e, if_pos (h1.symm.trans e)]; exact ⟨h1, ry⟩
    · rw [if_neg e, if_neg (fun z => e (h1.trans z))]; exact ⟨h1, h2⟩
theorem KV.put {kvs : List (κ × V)} {vs : List (κ × Value)} (r : KV kvs vs) (k : κ) {y : V} {u : Value} (ry : RelV y u) : KV (putK kvs k y) (stored vs k u) := by
  unfold putK stored
  rw [r.any k]
  by_cases e : (vs.any fun kv => decide (kv.1 = k)) = true
  · rw [if_pos e, if_pos e]; exact r.repl k ry
  · rw [if_neg e, if_neg e]; exact Paired.snoc r ⟨rfl, ry⟩
theorem KV.length {kvs : List (κ × V)} {vs : List (κ × Value)} (r : KV kvs vs) : kvs.length = vs.length := Paired.length r
end
theorem kV_is {P : Program} {w : World} {k : Key} {u : Value} (r : RelV (kV k) u) : (mixKind P w).is k u = true := by
  cases k with
  | inl i => obtain ⟨t, e⟩ := (show ∃ t, u = Value.int i t from r); subst e; exact mixKind_int P w i t
  | inr x => obtain ⟨t, e⟩ := (show ∃ t, u = Value.str x t from r); subst e; exact mixKind_str P w x t
theorem items_are {P : Program} {w : World} : ∀ {ks : List Key} {us : List Value}, Vals (ks.map kV) us → ItemsAre (mixKind P w) ks us
  | [], _, r => by rw [List.map_nil] at r; cases r; exact .nil
  | k :: ks, _, r => by
    rw [List.map_cons] at r
    cases r with
    | cons h t => exact .cons (kV_is h) (items_are t)
abbrev KT (H : Hp) : List (List Key × V) → List (List Key × Addr × Value) → Prop := Paired fun p q => p.1 = q.1 ∧ H q.2.1 = some (.tup (p.1.map kV)) ∧ RelV p.2 q.2.2
theorem KT.val {H : Hp} {kvs : List (List Key × V)} {xs : List (List Key × Addr × Value)} (r : KT H kvs xs) (k : List Key) : RelO (valV kvs k) ((atKey xs k).map (·.2)) := by
  induction r with
  | nil => exact True.intro
  | @cons p q ps qs h t ih =>
    obtain ⟨h1, _, h2⟩ := h
    by_cases e : p.1 = k
    · have e' : q.1 = k := h1.symm.trans e
      have b : atKey (q :: qs) k = some q.2 := by simp [atKey, List.find?_cons, e']
      rw [valV_pos e, b]; exact h2
    · have e' : ¬ q.1 = k := fun z => e (h1.trans z)
      have b : atKey (q :: qs) k = atKey qs k := by simp [atKey, List.find?_cons, e']
      rw [valV_neg e, b]; exact ih
theorem KT.repl {H : Hp} {kvs : List (List Key × V)} {xs : List (List Key × Addr × Value)} (r : KT H kvs xs) (k : List Key) {y : V} {u : Value} (ry : RelV y u) :
    KT H (kvs.map fun kv => if kv.1 = k then (kv.1, y) else kv) (xs.map (putAt k u)) := by
  induction r with
  | nil => exact .nil
  | @cons p q ps qs h t ih =>
    rw [List.map_cons, List.map_cons]
    refine .cons ?_ ih
    obtain ⟨h1, h2, h3⟩ := h
    unfold putAt
    by_cases e : p.1 = k
    · rw [if_pos e, if_pos (h1.symm.trans e)]; exact ⟨h1, h2, ry⟩
    · rw [if_neg e, if_neg (fun z => e (h1.trans z))]; exact ⟨h1, h2, h3⟩
theorem KT.put {H : Hp} {kvs : List (List Key × V)} {xs : List (List Key × Addr × Value)} (r : KT H kvs xs) (k : List Key) {b : Addr} {y : V} {u : Value} (hb : H b = some (.tup (k.map kV))) (ry : RelV y u) :
    KT H (putK kvs k y) (storedH xs k b u) := by
  have e : (kvs.any fun kv => decide (kv.1 = k)) = (atKey xs k).isSome := by
    rw [valV_any, (r.val k).isSome_eq, Option.isSome_map]
  unfold putK storedH
  rw [e]
  by_cases q : (atKey xs k).isSome = true
  · rw [if_pos q, if_pos q]; exact r.repl k ry
  · rw [if_neg q, if_neg q]; exact Paired.snoc r ⟨rfl, hb, ry⟩
theorem KT.keeps {H H' : Hp} {kvs : List (List Key × V)} {xs : List (List Key × Addr × Value)} (r : KT H kvs xs) (ht : ∀ b ys, H b = some (.tup ys) → H' b = some (.tup ys)) : KT H' kvs xs :=
  Paired.mapP r fun _ _ z => ⟨z.1, ht _ _ z.2.1, z.2.2⟩
section
variable {P : Program} {w : World} {H : Hp} {h : Heap} {a : Addr}
theorem rd_of {u : HO} (ok : HOk P w H h) (e : Rd H a u) : ObjOk P w H h a u := e.ok ok
theorem dk_rd {kvs : List (Key × V)} (ok : HOk P w H h) (e : Rd H a (.dK kvs)) : kvs.length ≤ sizeLine ∧ (a == sysModules) = false ∧ ∃ vs, KV kvs vs ∧ h.DictOf (mixKind P w) a vs :=
  show ObjOk P w H h a (.dK kvs) from rd_of ok e
theorem dk_of {kvs : List (Key × V)} (ok : HOk P w H h) (e : H a = some (.dK kvs)) : kvs.length ≤ sizeLine ∧ (a == sysModules) = false ∧ ∃ vs, KV kvs vs ∧ h.DictOf (mixKind P w) a vs := dk_rd ok (.inl e)
theorem key_of {ks : List Key} (ok : HOk P w H h) (e : H a = some (.tup (ks.map kV))) : (tupleKind (mixKind P w)).is h ks a := by
  obtain ⟨_, its, r, o, h1, h2, n, h3⟩ := (show ObjOk P w H h a (.tup (ks.map kV)) from ok a _ e)
  exact ⟨o, its.toArray, n, h1, h2, h3, by simpa using items_are r⟩
theorem dt_rd {kvs : List (List Key × V)} (ok : HOk P w H h) (e : Rd H a (.dT kvs)) : kvs.length ≤ sizeLine ∧ (a == sysModules) = false ∧
    ∃ xs, KT H kvs xs ∧ h.DictOfH (tupleKind (mixKind P w)) a xs := by
  obtain ⟨z, y, xs, r, o, es, ep, h1, h2, h3, h4, h5⟩ := (show ObjOk P w H h a (.dT kvs) from rd_of ok e)
  refine ⟨z, y, xs, r, o, es, ep, h1, h2, h3, h4, fun x hx => ?_, h5⟩
  have all : ∀ {l : List (List Key × V)} {m : List (List Key × Addr × Value)}, KT H l m → ∀ x ∈ m, (tupleKind (mixKind P w)).is h x.1 x.2.1 := by
    intro l m q
    induction q with
    | nil => intro x hx; exact nomatch hx
    | @cons p q ps qs hq t ih =>
      intro x hx
      rcases List.mem_cons.mp hx with e | hx
      · subst e
        exact key_of ok (by rw [← hq.1]; exact hq.2.1)
      · exact ih x hx
  exact all r x hx
theorem dt_of {kvs : List (List Key × V)} (ok : HOk P w H h) (e : H a = some (.dT kvs)) : kvs.length ≤ sizeLine ∧ (a == sysModules) = false ∧
    ∃ xs, KT H kvs xs ∧ h.DictOfH (tupleKind (mixKind P w)) a xs := dt_rd ok (.inl e)
end
def DGet (H : Hp) (a : Addr) (y : V) (r : Option V) : Prop :=
  (∃ kvs k, Rd H a (.dK kvs) ∧ y = kV k ∧ r = valV kvs k) ∨ ∃ kvs k b, Rd H a (.dT kvs) ∧ y = .ref b ∧ H b = some (.tup (k.map kV)) ∧ r = valV kvs k
def DPut (H : Hp) (a : Addr) (y v : V) (H' : Hp) : Prop :=
  (∃ kvs k, H a = some (.dK kvs) ∧ y = kV k ∧ kvs.length < sizeLine ∧ H' = upd H a (.dK (putK kvs k v))) ∨
  ∃ kvs k b, H a = some (.dT kvs) ∧ y = .ref b ∧ H b = some (.tup (k.map kV)) ∧ kvs.length < sizeLine ∧ H' = upd H a (.dT (putK kvs k v))
theorem DGet.k {H : Hp} {a : Addr} {kvs : List (Key × V)} {k : Key} (e : H a = some (.dK kvs)) : DGet H a (kV k) (valV kvs k) := .inl ⟨kvs, k, .inl e, rfl, rfl⟩
theorem DPut.k {H : Hp} {a : Addr} {kvs : List (Key × V)} {k : Key} {v : V} (e : H a = some (.dK kvs)) (hl : kvs.length < sizeLine) : DPut H a (kV k) v (upd H a (.dK (putK kvs k v))) := .inl ⟨kvs, k, e, rfl, hl, rfl⟩
section
variable {X : Cx} {pins : List (Addr × Obj)} {σ : St} {H : Hp} {s : Shared} {a : Addr} {y v : V} {u r : Value} {o : Option V} {A : Around} {E : Value → Shared → Prop}
theorem d_getItem {Q : Value → Shared → Prop} (hu : A.units + 1 < cLine) (I : Inv X pins σ H s) (g : DGet H a y (some v)) (ry : RelV y u) (h : ∀ w' s', Inv X pins σ H s' → RelV v w' → Q w' s') :
    wpAny (model X.prog X.w) A (getItem (.ref a) u) Q E s := by
  rcases g with ⟨kvs, k, e, ey, l⟩ | ⟨kvs, k, b, e, ey, eb, l⟩
  · subst ey
    obtain ⟨z, hd, vs, rel, dd⟩ := dk_rd I.hok e
    obtain ⟨w', hw, rw'⟩ := RelO.some_of (v := v) (o := valueAt vs k) (by rw [l]; exact rel.val k)
    exact wpAny_getItem_of (kV_is ry) dd.mapOf hw (h w' _ (I.tok _) rw')
  · subst ey
    cases (show u = Value.ref b from ry)
    obtain ⟨z, hd, xs, rel, dd⟩ := dt_rd I.hok e
    obtain ⟨w', hw, rw'⟩ := RelO.some_of (v := v) (o := (atKey xs k).map (·.2)) (by rw [l]; exact rel.val k)
    obtain ⟨p, hp, hp2⟩ := Option.map_eq_some_iff.mp hw
    refine wpAny_getItem_heap (tupleKind_room_in1 hu) (key_of I.hok eb) dd hp ?_
    rw [hp2]
    exact h w' _ (I.tok _) rw'
theorem d_in {Q : Value → Shared → Prop} (hu : A.units + 1 < cLine) (I : Inv X pins σ H s) (g : DGet H a y o) (ry : RelV y u) (h : ∀ s', Inv X pins σ H s' → Q (.bool o.isSome) s') :
    wpAny (model X.prog X.w) A (compareOp .In u (.ref a)) Q E s := by
  rcases g with ⟨kvs, k, e, ey, l⟩ | ⟨kvs, k, b, e, ey, eb, l⟩
  · subst ey
    obtain ⟨z, hd, vs, rel, dd⟩ := dk_rd I.hok e
    refine wpAny_in_of (kV_is ry) hd dd.mapOf ?_
    rw [← (rel.val k).isSome_eq, ← l]
    exact h _ (I.tok _)
  · subst ey
    cases (show u = Value.ref b from ry)
    obtain ⟨z, hd, xs, rel, dd⟩ := dt_rd I.hok e
    refine wpAny_in_heap (tupleKind_room_in1 hu) (key_of I.hok eb) hd dd ?_
    have q := (rel.val k).isSome_eq
    rw [Option.isSome_map] at q
    rw [← q, ← l]
    exact h _ (I.tok _)
theorem d_notIn {Q : Value → Shared → Prop} (hu : A.units + 1 < cLine) (I : Inv X pins σ H s) (g : DGet H a y o) (ry : RelV y u) (h : ∀ s', Inv X pins σ H s' → Q (.bool (!o.isSome)) s') :
    wpAny (model X.prog X.w) A (compareOp .NotIn u (.ref a)) Q E s := by
  rcases g with ⟨kvs, k, e, ey, l⟩ | ⟨kvs, k, b, e, ey, eb, l⟩
  · subst ey
    obtain ⟨z, hd, vs, rel, dd⟩ := dk_rd I.hok e
    refine wpAny_notIn_of (kV_is ry) hd dd.mapOf ?_
    rw [← (rel.val k).isSome_eq, ← l]
    exact h _ (I.tok _)
  · subst ey
    cases (show u = Value.ref b from ry)
    obtain ⟨z, hd, xs, rel, dd⟩ := dt_rd I.hok e
    refine wpAny_notIn_heap (tupleKind_room_in1 hu) (key_of I.hok eb) hd dd ?_
    have q := (rel.val k).isSome_eq
    rw [Option.isSome_map] at q
    rw [← q, ← l]
    exact h _ (I.tok _)
theorem d_write {h' : Heap} {t' : Nat} {ob : HO} (I : Inv X pins σ H s) (mu : Mut (H a)) (hs : Heap.SameBut a s.heap h') (he : ∃ q, h'.get? a = some q) (new : ObjOk X.prog X.w (upd H a ob) h' a ob) :
    Inv X pins σ (upd H a ob) { s with heap := h', toks := t' } :=
  I.write (x := a) (e := a) mu (.inl rfl) (fun b q hb z => (hs.2 b hb).trans z) he new
theorem dk_new {P : Program} {w : World} {H' : Hp} {h' : Heap} {kvs : List (Key × V)} {vs : List (Key × Value)} (z : kvs.length ≤ sizeLine) (hd : (a == sysModules) = false) (rel : KV kvs vs) (dd : h'.DictOf (mixKind P w) a vs) :
    ObjOk P w H' h' a (.dK kvs) := ⟨z, hd, vs, rel, dd⟩
theorem d_setItem {H' : Hp} {Q : Unit → Shared → Prop} (hu : A.units + 1 < cLine) (I : Inv X pins σ H s) (g : DPut H a y v H') (ry : RelV y u) (rv : RelV v r) (h : ∀ s', Inv X pins σ H' s' → Q () s') :
    wpAny (model X.prog X.w) A (setItem (.ref a) u r) Q E s := by
  rcases g with ⟨kvs, k, e, ey, l, eH⟩ | ⟨kvs, k, b, e, ey, eb, l, eH⟩
  · subst ey eH
    obtain ⟨z, hd, vs, rel, dd⟩ := dk_of I.hok e
    have hz : vs.length ≤ sizeLine := by rw [← rel.length]; exact z
    have hl : (putK kvs k v).length ≤ sizeLine := by have := length_putK kvs k v; omega
    refine wpAny_setItem_pairs (hsz := hz) (kV_is ry) dd fun h' dd' hs => h _ ?_
    have he : ∃ q, h'.get? a = some q := let ⟨q, _, _, hq, _⟩ := dd'; ⟨q, hq⟩
    exact d_write I (by rw [e]; exact True.intro) hs he (dk_new hl hd (rel.put k rv) dd')
  · subst ey eH
    cases (show u = Value.ref b from ry)
    obtain ⟨z, hd, xs, rel, dd⟩ := dt_of I.hok e
    have hz : xs.length ≤ sizeLine := by rw [← Paired.length rel]; exact z
    have hl : (putK kvs k v).length ≤ sizeLine := by have := length_putK kvs k v; omega
    refine wpAny_setItem_heap (hsz := hz) (tupleKind_room_in1 hu) (key_of I.hok eb) dd fun h' dd' hs => h _ ?_
    obtain ⟨q, es, ep, hq, h2, h3, h4, _, h5⟩ := dd'
    refine d_write I (by rw [e]; exact True.intro) hs ⟨q, hq⟩ ⟨hl, hd, _, (rel.put k eb rv).keeps fun c ys ec => ?_, q, es, ep, hq, h2, h3, h4, h5⟩
    rw [upd_ne (ne_of ec e (fun z => nomatch z))]
    exact ec
end
section
variable {X : Cx} {pins : List (Addr × Obj)} {σ : St} {H : Hp} {s : Shared} {a : Addr} {kvs : List (Key × V)} {k : Key} {u : Value} {A : Around} {E : Value → Shared → Prop}
end
def NoSl (i : Expr) : Prop := ∀ ov iv, subscripted i false ov iv = operate [ov, iv] (getItem ov iv)
theorem subD_of {prog : Program} {w : World} {A : Around} {E : Value → Shared → Prop} {s : Shared} {env : Env} {value slice : Expr} {pos : Pos} {T id : String} {Q : Value → Shared → Prop}
    (hl : typeLookup (.type T) "__getitem__" = pure (some (.builtin id))) (hs : NoSl slice)
    (h : wpAny (model prog w) A (eval value env) (fun o s₁ => wpAny (model prog w) A (eval slice env) (fun i s₂ => s₂.TypeIs o T ∧ wpAny (model prog w) A (getItem o i) Q E s₂) E s₁) E s) :
    wpAny (model prog w) A (eval (.Subscript value slice pos) env) Q E s := by
  refine Subscript_ (wpAny_mono h (fun o s₁ h₁ => wpAny_mono h₁ (fun i s₂ h₂ => ?_) fun _ _ x => x) fun _ _ x => x)
  obtain ⟨hT, h₂⟩ := h₂
  unfold subscriptTail
  refine wpAny_bind ?_
  rw [getitemInPython_of_ne hT.not_modules]
  refine wpAny_bind (wpAny_specialOf hT hl ?_)
  have fin : wpAny (model prog w) A (subscripted slice false o i) (fun r s₃ => wpAny (model prog w) A (letTemporaryGo value o r >>= fun _ => pure r) Q E s₃) E s₂ := by
    rw [hs o i]
    exact wpAny_operating (wpAny_mono h₂ (fun r s₃ h₃ => wpAny_bind (wpAny_letTemporaryGo (wpAny_pure h₃))) fun _ _ x => x)
  first
    | exact wpAny_pure (wpAny_bind fin)
    | exact wpAny_bind (wpAny_pure (wpAny_bind fin))
    | exact wpAny_bind fin
theorem dict_typeIs {X : Cx} {pins : List (Addr × Obj)} {σ : St} {H : Hp} {s : Shared} {a : Addr} {y : V} {o : Option V} (I : Inv X pins σ H s) (g : DGet H a y o) : s.TypeIs (.ref a) "dict" := by
  rcases g with ⟨kvs, k, e, _, _⟩ | ⟨kvs, k, b, e, _, _, _⟩
  · obtain ⟨_, _, vs, _, dd⟩ := dk_rd I.hok e
    exact dd.typeIs
  · obtain ⟨_, _, xs, _, dd⟩ := dt_rd I.hok e
    exact dd.typeIs
def tDGet (td ty : TE) : TE := fun σ H Q => td σ H fun x H1 => ty σ H1 fun y H2 => ∃ a v, x = .ref a ∧ DGet H2 a y (some v) ∧ Q v H2
def tDIn (ty td : TE) : TE := fun σ H Q => ty σ H fun y H1 => td σ H1 fun x H2 => ∃ a o, x = .ref a ∧ DGet H2 a y o ∧ Q (.bl o.isSome) H2
def tDNotIn (ty td : TE) : TE := fun σ H Q => ty σ H fun y H1 => td σ H1 fun x H2 => ∃ a o, x = .ref a ∧ DGet H2 a y o ∧ Q (.bl (!o.isSome)) H2
def sDPut (td ty tv : TE) : TS := fun D σ H => tv σ H fun v H1 => td σ H1 fun x H2 => ty σ H2 fun y H3 => ∃ a H4, x = .ref a ∧ DPut H3 a y v H4 ∧ D.nx σ H4
def sDAug (td ty tv : TE) (rd : V → V → Hp → VK → Prop) : TS := fun D σ H => td σ H fun x H1 => ty σ H1 fun y H2 => ∃ a v, x = .ref a ∧ DGet H2 a y (some v) ∧
  tv σ H2 fun y2 H3 => rd v y2 H3 fun z H4 => ∃ H5, DPut H4 a y z H5 ∧ D.nx σ H5
section
variable {X : Cx} {o i e value : Expr} {pos pos' tpos : Pos} {td ty tv : TE}
theorem pe_dget (hu : X.A.units + 1 < cLine) (ho : PE X o td) (hi : PE X i ty) (hs : NoSl i) : PE X (.Subscript o i pos) (tDGet td ty) := by
  intro pins s σ H Q I h
  refine subD_of PySem.F.slot_dict_getitem.lookup hs (thn (ho pins s σ H _ I h) fun u s1 ⟨x, H1, I1, rx, q1⟩ => thn (hi pins s1 σ H1 _ I1 q1) fun iv s2 ⟨y, H2, I2, ry, a, v, ex, g, q2⟩ => ?_)
  subst ex
  obtain rfl : u = Value.ref a := rx
  exact ⟨dict_typeIs I2 g, d_getItem hu I2 g ry fun w' s3 I3 rw' => ⟨v, H2, I3, rw', q2⟩⟩
theorem pc_din (hu : X.A.units + 1 < cLine) (hi : PE X i ty) (ho : PE X o td) : PC X .In i o (tDIn ty td) := by
  intro pins s σ H Q I h
  refine thn (hi pins s σ H _ I h) fun iv s1 ⟨y, H1, I1, ry, q1⟩ => thn (ho pins s1 σ H1 _ I1 q1) fun u s2 ⟨x, H2, I2, rx, a, ov, ex, g, q2⟩ => ?_
  subst ex
  obtain rfl : u = Value.ref a := rx
  exact d_in hu I2 g ry fun s3 I3 => ⟨.bl ov.isSome, H2, I3, rfl, q2⟩
theorem pc_dnotin (hu : X.A.units + 1 < cLine) (hi : PE X i ty) (ho : PE X o td) : PC X .NotIn i o (tDNotIn ty td) := by
  intro pins s σ H Q I h
  refine thn (hi pins s σ H _ I h) fun iv s1 ⟨y, H1, I1, ry, q1⟩ => thn (ho pins s1 σ H1 _ I1 q1) fun u s2 ⟨x, H2, I2, rx, a, ov, ex, g, q2⟩ => ?_
  subst ex
  obtain rfl : u = Value.ref a := rx
  exact d_notIn hu I2 g ry fun s3 I3 => ⟨.bl (!ov.isSome), H2, I3, rfl, q2⟩
theorem ps_dput (hu : X.A.units + 1 < cLine) (ho : PE X o td) (hi : PE X i ty) (hv : PE X value tv) (hs : swapsWith value (some (.Subscript o i pos')) pos.line X.env = pure false) :
    PS X (.Assign [.Subscript o i pos'] value pos) (sDPut td ty tv) := by
  intro pins s σ H D I h
  refine wpAny_Assign_Subscript (thn (hv pins s σ H _ I h) fun r s1 ⟨v, H1, I1, rv, q1⟩ => thn (ho pins s1 σ H1 _ I1 q1) fun u s2 ⟨x, H2, I2, rx, q2⟩ => thn (hi pins s2 σ H2 _ I2 q2) fun iv s3 ⟨y, H3, I3, ry, a, H4, ex, g, q3⟩ => ?_) hs
  subst ex
  obtain rfl : u = Value.ref a := rx
  exact d_setItem hu I3 g ry rv fun s4 I4 => ⟨σ, H4, I4, q3⟩
theorem ps_daug {op : Operator} {rd : V → V → Hp → VK → Prop} (hu : X.A.units + 1 < cLine) (ho : PE X o td) (hi : PE X i ty) (hv : PE X value tv) (hop : InOp X op rd)
    (ha : ∀ ov iv new, augStore i ov iv new = (do holding [new, ov, iv] (setItem ov iv new); release [new, ov, iv] []; pure .next)) : PS X (.AugAssign (.Subscript o i tpos) op value pos) (sDAug td ty tv rd) := by
  intro pins s σ H D I h
  refine wpAny_AugAssign_SubscriptAny (thn (ho pins s σ H _ I h) fun u s1 ⟨x, H1, I1, rx, q1⟩ => thn (hi pins s1 σ H1 _ I1 q1) fun iv s2 ⟨y, H2, I2, ry, a, v, ex, g, q2⟩ => ?_) ha
  subst ex
  obtain rfl : u = Value.ref a := rx
  refine d_getItem hu I2 g ry fun w' s3 I3 rw' => thn (hv pins s3 σ H2 _ I3 q2) fun w2 s4 ⟨y2, H3, I4, ry2, q3⟩ => thn (hop pins s4 σ H3 v y2 w' w2 _ I4 rw' ry2 q3) fun w3 s5 ⟨z, H4, I5, rz, H5, g5, q4⟩ => ?_
  exact d_setItem hu I5 g5 ry rz fun s6 I6 => ⟨σ, H5, I6, q4⟩
end
section
variable {X : Cx} {pos : Pos}
end
structure M1 (X : Cx) (o : Expr) (m : Str) (apos : Pos) (e : Expr) (cpos : Pos) : Prop where
  base : attributeBase o m X.env (eval o X.env) = eval o X.env
  few : ((backTo cpos (starEach [e] X.env)).all (fun x => !x.1) && (backToKw cpos (keywordEach [] X.env)).all (fun x => x.1.isSome)
    && decide (([e] : List Expr).length + ([] : List Keyword).length + (if ([] : List Keyword).isEmpty then 0 else 1) < 30)) = true
  line : (apos.endLine == cpos.line) = true
  trees : backTo cpos (starEach [e] X.env) = [(false, eval e X.env)]
structure M2 (X : Cx) (o : Expr) (m : Str) (apos : Pos) (e f : Expr) (cpos : Pos) : Prop where
  base : attributeBase o m X.env (eval o X.env) = eval o X.env
  few : ((backTo cpos (starEach [e, f] X.env)).all (fun x => !x.1) && (backToKw cpos (keywordEach [] X.env)).all (fun x => x.1.isSome)
    && decide (([e, f] : List Expr).length + ([] : List Keyword).length + (if ([] : List Keyword).isEmpty then 0 else 1) < 30)) = true
  line : (apos.endLine == cpos.line) = true
  trees : backTo cpos (starEach [e, f] X.env) = [(false, eval e X.env), (false, eval f X.env)]
def IsD (H : Hp) (a : Addr) : Prop := (∃ kvs, Rd H a (.dK kvs)) ∨ ∃ kvs, Rd H a (.dT kvs)
theorem isD_at {X : Cx} {pins : List (Addr × Obj)} {σ : St} {H : Hp} {s : Shared} {a : Addr} (I : Inv X pins σ H s) (d : IsD H a) :
    s.TypeIs (.ref a) "dict" ∧ (∀ b, Value.ref a = .ref b → ∃ ob, s.heap.get? b = some ob ∧ ob.dict = none) ∧ (a == sysModules) = false := by
  rcases d with ⟨kvs, e⟩ | ⟨kvs, e⟩
  · obtain ⟨_, hd, vs, _, dd⟩ := dk_rd I.hok e
    refine ⟨dd.typeIs, fun b q => ?_, hd⟩
    cases q
    obtain ⟨ob, _, _, h1, h2, _⟩ := dd
    exact ⟨ob, h1, h2.2.1⟩
  · obtain ⟨_, hd, xs, _, dd⟩ := dt_rd I.hok e
    refine ⟨dd.typeIs, fun b q => ?_, hd⟩
    cases q
    obtain ⟨ob, _, _, h1, h2, _⟩ := dd
    exact ⟨ob, h1, h2.2.1⟩
section
variable {X : Cx} {pins : List (Addr × Obj)} {σ : St} {H : Hp} {s : Shared} {a : Addr} {y d : V} {u r : Value} {o : Option V} {A : Around} {E : Value → Shared → Prop}
theorem d_get1 {Q : Value → Shared → Prop} (hu : A.units + 1 < cLine) (I : Inv X pins σ H s) (g : DGet H a y o) (ry : RelV y u) (h : ∀ w' s', Inv X pins σ H s' → RelV (o.getD .non) w' → Q w' s') :
    wpAny (model X.prog X.w) A (call (.builtin "dict.get") [.ref a, u]) Q E s := by
  rcases g with ⟨kvs, k, e, ey, l⟩ | ⟨kvs, k, b, e, ey, eb, l⟩
  · subst ey
    obtain ⟨z, hd, vs, rel, dd⟩ := dk_rd I.hok e
    refine call_meetsIn PySem.F.slot_dict_get dd.typeIs PySem.F.entry_dict_get (PySem.F.args_dict_get_2 _ _) (meets_dict_get (mixKind X.prog X.w) a (kV_is ry) hd) ⟨_, dd.mapOf, h _ _ (I.tok _) ?_⟩
    rw [l]
    exact (rel.val k).getD rfl
  · subst ey
    cases (show u = Value.ref b from ry)
    obtain ⟨z, hd, xs, rel, dd⟩ := dt_rd I.hok e
    refine call_meetsIn PySem.F.slot_dict_get dd.typeIs PySem.F.entry_dict_get (PySem.F.args_dict_get_2 _ _) (meetsH_dict_get (tupleKind (mixKind X.prog X.w)) a b hd) ⟨tupleKind_room_in1 hu, k, xs, key_of I.hok eb, dd, h _ _ (I.tok _) ?_⟩
    rw [l]
    exact (rel.val k).getD rfl
theorem d_get2 {Q : Value → Shared → Prop} (hu : A.units + 1 < cLine) (I : Inv X pins σ H s) (g : DGet H a y o) (ry : RelV y u) (rd : RelV d r) (h : ∀ w' s', Inv X pins σ H s' → RelV (o.getD d) w' → Q w' s') :
    wpAny (model X.prog X.w) A (call (.builtin "dict.get") [.ref a, u, r]) Q E s := by
  rcases g with ⟨kvs, k, e, ey, l⟩ | ⟨kvs, k, b, e, ey, eb, l⟩
  · subst ey
    obtain ⟨z, hd, vs, rel, dd⟩ := dk_rd I.hok e
    refine call_meetsIn PySem.F.slot_dict_get dd.typeIs PySem.F.entry_dict_get (PySem.F.args_dict_get_3 _ _ _) (meets_dict_get_default (mixKind X.prog X.w) a (kV_is ry) hd r) ⟨_, dd.mapOf, h _ _ (I.tok _) ?_⟩
    rw [l]
    exact (rel.val k).getD rd
  · subst ey
    cases (show u = Value.ref b from ry)
    obtain ⟨z, hd, xs, rel, dd⟩ := dt_rd I.hok e
    refine call_meetsIn PySem.F.slot_dict_get dd.typeIs PySem.F.entry_dict_get (PySem.F.args_dict_get_3 _ _ _) (meetsH_dict_get_default (tupleKind (mixKind X.prog X.w)) a b hd r) ⟨tupleKind_room_in1 hu, k, xs, key_of I.hok eb, dd, h _ _ (I.tok _) ?_⟩
    rw [l]
    exact (rel.val k).getD rd
end
def tDGet1 (td ty : TE) : TE := fun σ H Q => td σ H fun x H1 => ∃ a, x = .ref a ∧ IsD H1 a ∧ ty σ H1 fun y H2 => ∃ o, DGet H2 a y o ∧ Q (o.getD .non) H2
def tDGet2 (td ty tx : TE) : TE := fun σ H Q => td σ H fun x H1 => ∃ a, x = .ref a ∧ IsD H1 a ∧ ty σ H1 fun y H2 => tx σ H2 fun z H3 => ∃ o, DGet H3 a y o ∧ Q (o.getD z) H3
section
variable {X : Cx} {o e f : Expr} {apos cpos : Pos} {td ty tx : TE}
theorem pe_dget1 (hu : X.A.units + 1 < cLine) (ho : PE X o td) (he : PE X e ty) (m : M1 X o "get" apos e cpos) : PE X (.Call (.Attribute o "get" apos) [e] [] cpos) (tDGet1 td ty) := by
  intro pins s σ H Q I h
  refine wpAny_Call_method m.base m.few m.line PySem.F.plainAttrs_dict PySem.F.slot_dict_get PySem.F.type_dict_get (thn (ho pins s σ H _ I h) fun u s1 ⟨x, H1, I1, rx, a, ex, d, q1⟩ => ?_)
  subst ex
  obtain rfl : u = Value.ref a := rx
  obtain ⟨t1, t2, _⟩ := isD_at I1 d
  refine ⟨t1, t2, ?_⟩
  rw [m.trees]
  refine Calls.callWith_builtin rfl (Calls.evalArgs_plain (Calls.spliced_cons (thn (he pins s1 σ H1 _ I1 q1) fun iv s2 ⟨y, H2, I2, ry, ov, g, q2⟩ => Calls.spliced_nil ?_)))
  exact d_get1 hu I2 g ry fun w' s3 I3 rw' => ⟨_, H2, I3, rw', q2⟩
theorem pe_dget2 (hu : X.A.units + 1 < cLine) (ho : PE X o td) (he : PE X e ty) (hf : PE X f tx) (m : M2 X o "get" apos e f cpos) : PE X (.Call (.Attribute o "get" apos) [e, f] [] cpos) (tDGet2 td ty tx) := by
  intro pins s σ H Q I h
  refine wpAny_Call_method m.base m.few m.line PySem.F.plainAttrs_dict PySem.F.slot_dict_get PySem.F.type_dict_get (thn (ho pins s σ H _ I h) fun u s1 ⟨x, H1, I1, rx, a, ex, d, q1⟩ => ?_)
  subst ex
  obtain rfl : u = Value.ref a := rx
  obtain ⟨t1, t2, _⟩ := isD_at I1 d
  refine ⟨t1, t2, ?_⟩
  rw [m.trees]
  refine Calls.callWith_builtin rfl (Calls.evalArgs_plain (Calls.spliced_cons (thn (he pins s1 σ H1 _ I1 q1) fun iv s2 ⟨y, H2, I2, ry, q2⟩ =>
    Calls.spliced_cons (thn (hf pins s2 σ H2 _ I2 q2) fun fv s3 ⟨z, H3, I3, rz, ov, g, q3⟩ => Calls.spliced_nil ?_))))
  exact d_get2 hu I3 g ry rz fun w' s4 I4 rw' => ⟨_, H3, I4, rw', q3⟩
end
section
variable {X : Cx} {pins : List (Addr × Obj)} {σ : St} {H : Hp} {s : Shared} {a : Addr} {kvs : List (Key × V)} {A : Around} {E : Value → Shared → Prop}
end
section
variable {X : Cx} {pins : List (Addr × Obj)} {σ : St} {H : Hp} {s : Shared} {a : Addr} {y : V} {u : Value} {A : Around} {E : Value → Shared → Prop}
end
end L2
namespace L2
open PySem PySem.Spec PyProof.Rows
section
variable {κ : Type} [DecidableEq κ]
end
end L2
namespace L2
open PySem PySem.Spec PyProof.Rows
def cutS (z : Str) (lo hi : Option Int) : Str := ⟨((z.cps.toList.drop (HT.sIx z.length 0 lo)).take (HT.sIx z.length z.length hi - HT.sIx z.length 0 lo)).toArray⟩
theorem sIx_le (n d : Nat) (hd : d ≤ n) (v : Option Int) : HT.sIx n d v ≤ n := by
  cases v with
  | none => exact hd
  | some i =>
    show (if i < 0 then (i + (n : Int)).toNat else min i.toNat n) ≤ n
    by_cases h : i < 0
    · rw [if_pos h]; omega
    · rw [if_neg h]; omega
theorem pick_cut (z : Str) (lo hi : Option Int) : (Builtin.Str.strSliceIndices lo hi 1 z.length).filterMap (z.cps[·]?) = (z.cps.toList.drop (HT.sIx z.length 0 lo)).take (HT.sIx z.length z.length hi - HT.sIx z.length 0 lo) ∧
    (Builtin.Str.strSliceIndices lo hi 1 z.length).length = HT.sIx z.length z.length hi - HT.sIx z.length 0 lo := by
  obtain ⟨h1, h2, h3⟩ := slice_bounds lo hi z.length
  have e : Builtin.Str.strSliceIndices lo hi 1 z.length = sliceRange (sliceBounds lo hi none z.length).1 (sliceBounds lo hi none z.length).2.1 (sliceBounds lo hi none z.length).2.2 := rfl
  rw [e, h1, h2, h3, sliceRange_one]
  exact ⟨pick_run _ _ _, by simp⟩
theorem cutS_len (z : Str) (lo hi : Option Int) : (cutS z lo hi).length ≤ z.length := by
  unfold cutS Str.length
  simp
  omega
section
variable {X : Cx}
theorem part_of {v : Value} {o : Option Int} (h : IsPart v o) : ∃ p : Option (Int × Tok), v = partValue p ∧ p.map (·.1) = o := by
  cases h with
  | none => exact ⟨none, rfl, rfl⟩
  | int i t => exact ⟨some (i, t), rfl, rfl⟩
def rSlS : V → Option Int → Option Int → Hp → VK → Prop := fun x lo hi H Q => ∃ z, x = .str z ∧ z.length ≤ sizeLine ∧ Q (.str (cutS z lo hi)) H
theorem sl_str : SlR X rSlS := by
  intro pins s σ H x v vl vu lo hi sl Q I rx hs pl pu h
  obtain ⟨z, rfl, hz, q⟩ := h
  obtain ⟨t, rfl⟩ := rx
  obtain ⟨l, rfl, el⟩ := part_of pl
  obtain ⟨u, rfl, eu⟩ := part_of pu
  subst el eu
  refine ⟨"str", _, PySem.F.slot_str_getitem.lookup, typeIs_str s z t, ?_⟩
  refine wpAny_getItem_str_slice (l := l) (u := u) (st := none) hs rfl ?_
  obtain ⟨p1, p2⟩ := pick_cut z (l.map (·.1)) (u.map (·.1))
  have pk : slicePicked z l u none = Builtin.Str.strSliceIndices (l.map (·.1)) (u.map (·.1)) 1 z.length := rfl
  unfold sliceMade
  rw [pk]
  split
  · rename_i hh
    have len : (Builtin.Str.strSliceIndices (l.map (·.1)) (u.map (·.1)) 1 z.length).length = z.length := by
      have := (Bool.and_eq_true _ _ ▸ hh : _ ∧ _).2
      exact eq_of_beq this
    have e : cutS z (l.map (·.1)) (u.map (·.1)) = z := by
      rw [p2] at len
      unfold cutS
      rw [len]
      have sz : z.cps.toList.length = z.length := by simp [Str.length]
      by_cases h0 : z.length = 0
      · have : z.cps.toList = [] := List.length_eq_zero_iff.mp (by rw [sz]; exact h0)
        rw [this, h0]
        cases z with
        | mk c =>
          have : c = #[] := Array.size_eq_zero_iff.mp h0
          rw [this]; rfl
      · have hb : HT.sIx z.length z.length (u.map (·.1)) ≤ z.length := sIx_le _ _ (Nat.le_refl _) _
        have ha : HT.sIx z.length 0 (l.map (·.1)) = 0 := by omega
        rw [ha, List.drop_zero, List.take_of_length_le (by omega)]
    rw [e] at q
    exact ⟨.str z, H, I, ⟨t, rfl⟩, q⟩
  · rw [p1]
    exact ⟨by
      show ((List.take _ (List.drop _ z.cps.toList)).toArray).size ≤ _
      have := cutS_len z (l.map (·.1)) (u.map (·.1))
      exact Nat.le_trans this hz, .str _, H, I.tok _, ⟨_, rfl⟩, q⟩
end
theorem new_dict {X : Cx} : NewRule X newDict (fun _ => .dK []) := by
  intro pins s σ H E Q I h
  refine wpAny_newObj_type ?_
  have new : ObjOk X.prog X.w (upd H s.heap.objs.size (.dK [])) (s.heap.push { cls := .type "dict", data := .dict #[] }) s.heap.objs.size (.dK []) :=
    ⟨Nat.zero_le _, beq_eq_false_iff_ne.mpr (Ne.symm (Nat.ne_of_lt I.above)), [], .nil, Heap.DictOf.new s.heap⟩
  exact h _ (fun b o e => Heap.get?_push_of_some _ e) (I.laid (t' := s.toks) (fun b u e => Heap.get?_push_of_some _ e) (Nat.le_refl _) new)
def dictBody (kx vx : Expr) (D : Addr) (env : Env) (k : Sem Fi) : Sem Fi := (do
  let kv ← eval kx env
  let vv ← holding [kv] (eval vx env)
  standAt { kx.pos with endLine := vx.pos.endLine, endCol := vx.pos.endCol }
  holding [kv, vv] (dictSet D kv vv)) >>= fun _ => k
def tEmD (D : Addr) (tk tv : TE) : TB := fun σ H N => tk σ H fun y H1 => tv σ H1 fun v H2 => ∃ k kvs, y = kV k ∧ H2 D = some (.dK kvs) ∧ kvs.length < sizeLine ∧ N σ (upd H2 D (.dK (putK kvs k v)))
theorem pb_dict {Y : Cx} {kx vx : Expr} {tk tv : TE} {D : Addr} (hx : Y.xe = F0) (hk : PE Y kx tk) (hv : PE Y vx tv) : PB Y (dictBody kx vx D Y.env) (tEmD D tk tv) := by
  intro pins s σ H N k R I h hh
  have a1 := hk pins s σ H _ I h
  rw [hx] at a1
  refine wpAny_bind (wpAny_bind (of_F0 a1 fun u s1 ⟨y, H1, I1, ry, q1⟩ => wpAny_bind (wpAny_holding ?_)))
  have a2 := hv pins s1 σ H1 _ I1 q1
  rw [hx] at a2
  refine of_F0 a2 fun r s2 ⟨v, H2, I2, rv, kk, kvs, ey, hD, hz, n2⟩ => wpAny_bind (wpAny_standAt (wpAny_holding ?_))
  subst ey
  obtain ⟨z, hd, vs, rel, dd⟩ := dk_of I2.hok hD
  have hz' : vs.length ≤ sizeLine := by rw [← rel.length]; exact z
  have hl : (putK kvs kk v).length ≤ sizeLine := by have := length_putK kvs kk v; omega
  refine wpAny_dictSet_pairs (hsz := hz') (kV_is ry) dd fun h' dd' hs => ?_
  have he : ∃ q, h'.get? D = some q := let ⟨q, _, _, hq, _⟩ := dd'; ⟨q, hq⟩
  exact hh σ _ _ (d_write I2 (by rw [hD]; exact True.intro) hs he (dk_new hl hd (rel.put kk rv) dd')) n2
section
variable {X : Cx} {kx vx tg iter : Expr} {ifs : List Expr} {scope esc : Scope} {pos : Pos} {N os : List Str} {fi : List Nat} {wi : TI} {g : TG} {tt : TT} {tk tv : TE}
theorem pe_dictcomp (hc : X.calm = true) (hN : X.N = N) (he : X.env.scope = esc) (B : BlkOk esc scope N fi) (hi : PI X tg iter wi)
    (hg : ∀ s H fp, PG (blk X scope (nB N os fi) s H fp) tg g) (ht : ∀ s H fp, PTs (blk X scope (nB N os fi) s H fp) ifs tt)
    (hk : ∀ s H fp, PE (blk X scope (nB N os fi) s H fp) kx tk) (hv : ∀ s H fp, PE (blk X scope (nB N os fi) s H fp) vx tv)
    (hs : ∀ x, foldedSetIterable iter X.env x = pure x := by intro _; rfl) :
    PE X (.DictComp kx vx [⟨tg, iter, ifs, 0⟩] scope pos) (tCG (fun _ => .dK []) os fi wi g tt fun D => tEmD D tk tv) :=
  pe_compG (gs := []) (body := fun D env => dictBody kx vx D env) rfl rfl hc hN he B loop_dict (start_dict rfl rfl) (fun _ _ _ => rfl) new_dict hi hg ht (fun D s H fp => pb_dict rfl (hk s H fp) (hv s H fp)) hs
end
end L2
namespace PySem
theorem xr_miss_list {prog : Program} {w : World} {A : Around} {E : Value → Shared → Prop} {s : Shared} {a : Addr} {xs : Array Value} {k : Nat} {name : Str} {Q : Option Value → Shared → Prop}
    (hx : s.heap.get? a = some { cls := .type "list", data := .seq xs k }) (hmiss : typeLookup (.type "list") name = pure none) (hname : (["__module__", "__name__", "__qualname__", "__doc__", "__annotations__"] : List Str).contains name = false) (hA : A.handled = none)
    (h : ∀ h' tk, (∀ b ob, s.heap.get? b = some ob → h'.get? b = some ob) → Q none { s with heap := h', toks := tk }) (hsz : name.length + 100 ≤ sizeLine := by size_fits) :
    wpAny (model prog w) A (getAttr? (.ref a) name) Q E s := by
  obtain ⟨hp, g, d, tk, os⟩ := s
  have hT : ∀ tk', (⟨hp, g, d, tk', os⟩ : Shared).TypeIs (.ref a) "list" := fun _ => ⟨_, hx, rfl⟩
  have f1 := sub_AttributeError
  have f3 := F.slot_list_getattribute.lookup
  have f4 := F.slot_list_getattribute.bind (.ref a)
  have f5 := am_list_getattr_none
  unfold getAttr? getAttrBy? getAttrBy
  repeat (any_goals (first | assumption | exact hT _ | ((with_reducible show wpAny _ _ (call (Value.builtin "list.__getattribute__") _ _) _ _ _); refine call_meets F.slot_list_getattribute (hT _) am_entry_list_getattribute (F.args_list_getattribute_2 _ _) (meets_getattribute_miss_list a xs k #[] name _ hmiss hname hsz) ⟨hx, hA, fun h' tk' e hx' => ?_⟩) | wp_step))
  obtain ⟨t', u', he⟩ := hx'.there
  show wpAny _ _ (getattributeRaised _ _ _ _ _ _ _) _ _ _
  unfold getattributeRaised
  repeat (any_goals (first | assumption | wp_step))
  exact h _ _ hx'.keeps
namespace F
theorem xr_entry_loop : entryFor table "dict.update.loop" = some Builtin.«dict.update.loop» := entryFor_of_tree (by kernel_rfl)
theorem xr_plain_loop : plainId "dict.update.loop" = true := by decide +kernel
theorem xr_no_keys : typeLookup (.type "list") "keys" = pure none := by rw [typeLookup_type, builtinLookup_eq_fast]; kernel_rfl
end F
section
variable {prog : Program} {w : World} {K : Type} [DecidableEq K] {knd : KeyKind prog w K} {A : Around} {R : Result → Shared → Prop}
def XrPairs (knd : KeyKind prog w K) (h : Heap) (items : Array Value) (ps : List (K × Value)) : Prop := items.size = ps.length ∧ ∀ (j : Nat) (k : K) (v : Value), ps[j]? = some (k, v) → ∃ p kx, items[j]? = some (.ref p) ∧ knd.is k kx = true ∧ ∃ o n, h.get? p = some o ∧ o.cls = .type "tuple" ∧ o.data = .seq #[kx, v] n
theorem XrPairs.keeps {h h' : Heap} {items : Array Value} {ps : List (K × Value)} (x : XrPairs knd h items ps) (k : ∀ b o, o.cls = .type "tuple" → h.get? b = some o → h'.get? b = some o) : XrPairs knd h' items ps :=
  ⟨x.1, fun j a v e => by
    obtain ⟨p, kx, e1, e2, o, n, e3, e4, e5⟩ := x.2 j a v e
    exact ⟨p, kx, e1, e2, o, n, k _ _ e4 e3, e4, e5⟩⟩
theorem xr_dict_keeps {h h' : Heap} {d : Addr} {kvs : List (K × Value)} (x : h.DictOf knd d kvs) (k : ∀ o, h.get? d = some o → h'.get? d = some o) : h'.DictOf knd d kvs := by
  obtain ⟨o, es, ep, ho, r⟩ := x
  exact ⟨o, es, ep, k _ ho, r⟩
theorem xr_loop {it l d : Addr} {items : Array Value} {ps : List (K × Value)} {res : Value} (hh : A.handled = none) (len : ps.length ≤ sizeLine) :
    ∀ (k i : Nat) (z : Int) (tz : Tok) (s : Shared), ps.length - i = k → i ≤ ps.length → s.heap.IsListIter it l i → s.heap.IsList l items → XrPairs knd s.heap items ps → s.heap.DictOf knd d (merged [] (ps.take i)) →
    (∀ h' tk, h'.DictOf knd d (merged [] ps) → (∀ b o, b ≠ d → b ≠ it → s.heap.get? b = some o → h'.get? b = some o) → R (.ok (.ret res)) { s with heap := h', toks := tk }) →
    codeAny (model prog w) A (.builtin "dict.update.loop" ⟨[.ref d, .ref it, .int z tz, res], []⟩) R s := by
  intro k
  induction k with
  | zero =>
    intro i z tz s hk hi hit hl hp hd hR
    have hin : i = ps.length := by omega
    have hdi : d ≠ it := fun e => by
      obtain ⟨o, h1, _, h2⟩ := hit
      obtain ⟨o', es, ep, h3, _, h4, _⟩ := hd
      rw [e, h1] at h3; cases h3
      rw [h2] at h4; cases h4
    refine codeAny_builtin F.xr_entry_loop ?_
    rw [Around.under_plainId F.xr_plain_loop _]
    show wpAny _ A.in1 (pyNext (.ref it) >>= _) _ _ s
    refine wpAny_bind (wpAny_pyNext_list_end (show A.in1.handled = none from hh) hit hl (Array.getElem?_eq_none_iff.mpr (by rw [hp.1]; omega)) fun h' ex => ?_)
    show wpAny _ _ (Builtin.Dict.addKeywords d [] >>= _) _ _ _
    rw [hin, List.take_length] at hd
    exact wpAny_bind (wpAny_pure (wpAny_pure (hR h' s.toks (xr_dict_keeps hd fun o e => ex d o hdi e) fun b o _ h2 e => ex b o h2 e)))
  | succ k ih =>
    intro i z tz s hk hi hit hl hp hd hR
    have hlt : i < ps.length := by omega
    have hdi : d ≠ it := fun e => by
      obtain ⟨o, h1, _, h2⟩ := hit
      obtain ⟨o', es, ep, h3, _, h4, _⟩ := hd
      rw [e, h1] at h3; cases h3
      rw [h2] at h4; cases h4
    obtain ⟨⟨ky, v⟩, hkv⟩ : ∃ kv, ps[i]? = some kv := ⟨_, List.getElem?_eq_getElem hlt⟩
    obtain ⟨p, kx, e1, e2, op, np, e3, e4, e5⟩ := hp.2 i ky v hkv
    refine codeAny_builtin F.xr_entry_loop ?_
    rw [Around.under_plainId F.xr_plain_loop _]
    show wpAny _ A.in1 (pyNext (.ref it) >>= _) _ _ s
    refine wpAny_bind (wpAny_pyNext_list_item hit hl e1 fun h1 hit1 sb1 => ?_)
    have nit : ∀ b o, o.cls = .type "tuple" → s.heap.get? b = some o → b ≠ it := fun b o hc hb e => by
      obtain ⟨o', h1, h2, _⟩ := hit
      rw [e, h1] at hb; cases hb
      rw [h2] at hc; exact absurd (Value.type.inj hc) (by decide)
    have lit : l ≠ it := fun e => by
      obtain ⟨o', h1, h2, _⟩ := hit
      obtain ⟨o, h3, h4, _⟩ := hl
      rw [e, h1] at h3; cases h3
      rw [h2] at h4; exact absurd (Value.type.inj h4) (by decide)
    have hl1 : h1.IsList l items := by
      obtain ⟨o, h3, r⟩ := hl
      exact ⟨o, (sb1.2 l lit).trans h3, r⟩
    have hp1 : XrPairs knd h1 items ps := hp.keeps fun b o hc hb => (sb1.2 b (nit b o hc hb)).trans hb
    have hd1 : h1.DictOf knd d (merged [] (ps.take i)) := xr_dict_keeps hd fun o e => (sb1.2 d hdi).trans e
    have e31 : h1.get? p = some op := (sb1.2 p (nit p op e4 e3)).trans e3
    refine wpAny_bind (wpAny_holding (wpAny_bind (wpAny_tryCatch ?_)))
    unfold Builtin.Dict.pairItems
    refine wpAny_bind (wpAny_typeOf (T := "tuple") ⟨op, e31, e4⟩ ?_)
    rw [if_pos (by decide)]
    refine wpAny_bind (wpAny_seqItems e31 e5 (wpAny_pure ?_))
    show wpAny _ _ (holding [kx, v] (dictSet d kx v)) _ _ _
    have hsz : (merged ([] : List (K × Value)) (ps.take i)).length ≤ sizeLine := by
      have a := merged_length_le ([] : List (K × Value)) (ps.take i)
      rw [List.length_take] at a
      simp only [List.length_nil] at a
      omega
    refine wpAny_holding (wpAny_dictSet_pairs (hsz := hsz) e2 hd1 fun h2 hd2 sb2 => ?_)
    have dcl : ∀ b o, (∀ es ep, o.data ≠ .dict es ep) → h1.get? b = some o → b ≠ d := fun b o hn hb e => by
      obtain ⟨o', es, ep, h3, _, h4, _⟩ := hd1
      rw [e, h3] at hb; cases hb
      exact hn _ _ h4
    have hit2 : h2.IsListIter it l (i + 1) := by
      obtain ⟨o, a, b, c⟩ := hit1
      exact ⟨o, (sb2.2 it (Ne.symm hdi)).trans a, b, c⟩
    have hl2 : h2.IsList l items := by
      obtain ⟨o, h3, r, n, h4⟩ := hl1
      exact ⟨o, (sb2.2 l (dcl l o (fun es ep q => by rw [h4] at q; cases q) h3)).trans h3, r, n, h4⟩
    have hp2 : XrPairs knd h2 items ps := ⟨hp1.1, fun j a u e => by
      obtain ⟨p, kx, e1, e2, o, n, e3, e4, e5⟩ := hp1.2 j a u e
      exact ⟨p, kx, e1, e2, o, n, (sb2.2 p (dcl p o (fun es ep q => by rw [e5] at q; cases q) e3)).trans e3, e4, e5⟩⟩
    refine wpAny_pure ⟨plainId_quiet F.xr_plain_loop _, ih (i + 1) _ _ _ (by omega) hlt hit2 hl2 hp2 (by rw [merged_take_succ _ _ _ _ hkv]; exact hd2) fun h' tk hd' kp => hR h' tk hd' fun b o b1 b2 e => ?_⟩
    exact kp b o b1 b2 ((sb2.2 b b1).trans ((sb1.2 b b2).trans e))
end
section
variable {prog : Program} {w : World} {K : Type} [DecidableEq K] {knd : KeyKind prog w K} {A : Around} {E : Value → Shared → Prop} {s : Shared}
theorem xr_call_dict {l : Addr} {items : Array Value} {n : Nat} {ps : List (K × Value)} {Q : Value → Shared → Prop} (hh : A.handled = none) (hl : s.heap.get? l = some { cls := .type "list", data := .seq items n }) (hp : XrPairs knd s.heap items ps) (hsz : ps.length ≤ sizeLine)
    (h : ∀ h' tk, h'.DictOf knd s.heap.objs.size (merged [] ps) → (∀ b o, s.heap.get? b = some o → h'.get? b = some o) → Q (.ref s.heap.objs.size) { s with heap := h', toks := tk }) :
    wpAny (model prog w) A (call (.type "dict") [.ref l]) Q E s := by
  refine callType_codes (Q₁ := fun obj s₁ => obj = .ref s.heap.objs.size ∧ s₁ = { s with heap := s.heap.push { cls := .type "dict", data := .dict #[] } }) F.kt_called_dict (F.kt_typeCall_dict_1 _) F.entry_dict_init (kt_code_dict_new _ ⟨rfl, rfl⟩) ?_
  rintro obj s₁ ⟨rfl, rfl⟩
  have hnew : (s.heap.push { cls := .type "dict", data := .dict #[] }).DictOf knd s.heap.objs.size [] := Heap.DictOf.new s.heap
  have hl1 := Heap.get?_push_of_some { cls := .type "dict", data := .dict #[] } hl
  have hT : ({ s with heap := s.heap.push { cls := .type "dict", data := .dict #[] } } : Shared).TypeIs (.ref l) "list" := ⟨_, hl1, rfl⟩
  refine ⟨hnew.typeIs, F.args_dict_init_2 _ _, ?_⟩
  unfold Builtin.«dict.__init__»
  refine wpAny_bind ?_
  unfold Builtin.Dict.selfAndRest
  refine wpAny_bind (wpAny_notOrdered_dict hnew.typeIs ?_)
  show wpAny _ _ (pure (s.heap.objs.size, [Value.ref l])) _ _ _
  refine wpAny_pure ?_
  show wpAny _ _ (Builtin.Dict.updateFrom "dict.__init__" s.heap.objs.size (.ref l) [] .none) _ _ _
  unfold Builtin.Dict.updateFrom
  refine wpAny_bind (wpAny_typeOf hT ?_)
  rw [if_pos (by decide)]
  refine wpAny_bind (xr_miss_list (name := "keys") hl1 F.xr_no_keys (by decide +kernel) hh (fun h2 tk2 k2 => ?_))
  simp only [Option.isNone_none, if_true]
  refine wpAny_bind (wpAny_rule ?_)
  have hl2 := k2 _ _ hl1
  refine wpAny_bind (wpAny_pyIter_list ⟨_, hl2, rfl, n, rfl⟩ ?_)
  dsimp only
  have kp : ∀ b o, s.heap.get? b = some o → (h2.push { cls := .type "list_iterator", data := .fields #[.ref l, .int 0 0] }).get? b = some o := fun b o e => Heap.get?_push_of_some _ (k2 _ _ (Heap.get?_push_of_some _ e))
  refine wpAny_pure ⟨plainId_quiet F.xr_plain_loop _, xr_loop (A := A.in1) (knd := knd) (it := h2.objs.size) (l := l) (items := items) (ps := ps) (res := .none) (show A.in1.handled = none from hh) hsz ps.length 0 0 0 _ rfl (Nat.zero_le _) ⟨_, Heap.get?_push_size _ rfl, rfl, rfl⟩ ⟨_, kp _ _ hl, rfl, n, rfl⟩ (hp.keeps fun b o _ e => kp b o e)
    (xr_dict_keeps hnew fun o e => Heap.get?_push_of_some _ (k2 _ _ e)) fun h' tk hd' k' => ⟨rfl, h h' tk hd' fun b o e => ?_⟩⟩
  exact k' b o (fun z => Nat.lt_irrefl _ (z ▸ Heap.lt_size e)) (fun z => Nat.lt_irrefl _ (z ▸ Heap.lt_size (k2 _ _ (Heap.get?_push_of_some _ e)))) (kp b o e)
end
end PySem
namespace L2
open PySem
def putAll (kvs : List (Key × V)) : List (Key × V) := kvs.foldl (fun m p => putK m p.1 p.2) []
theorem kv_all : ∀ (kvs : List (Key × V)) (ps : List (Key × Value)), KV kvs ps → ∀ (acc : List (Key × V)) (vacc : List (Key × Value)), KV acc vacc → KV (kvs.foldl (fun m p => putK m p.1 p.2) acc) (merged vacc ps) := by
  intro kvs
  induction kvs with
  | nil =>
    intro ps r acc vacc a
    unfold KV at r
    cases r
    exact a
  | cons p kvs ih =>
    intro ps r acc vacc a
    unfold KV at r
    cases r with
    | cons e t =>
      rename_i q qs
      obtain ⟨k, v⟩ := p
      obtain ⟨k', u⟩ := q
      obtain ⟨ek, rv⟩ := e
      have ek : k = k' := ek
      subst ek
      exact ih qs t _ _ (KV.put a k rv)
theorem xr_ps {P : Program} {w : World} {H : Hp} {h : Heap} (ok : HOk P w H h) : ∀ (ts : List Addr) (kvs : List (Key × V)), ts.length = kvs.length → (∀ (j : Nat) (a : Addr) (k : Key) (v : V), ts[j]? = some a → kvs[j]? = some (k, v) → H a = some (.tup [kV k, v])) →
    ∃ ps : List (Key × Value), KV kvs ps ∧ ∀ (j : Nat) (k : Key) (u : Value), ps[j]? = some (k, u) → ∃ p kx, ts[j]? = some p ∧ (mixKind P w).is k kx = true ∧ ∃ o n, h.get? p = some o ∧ o.cls = .type "tuple" ∧ o.data = .seq #[kx, u] n := by
  intro ts
  induction ts with
  | nil =>
    intro kvs hl _
    cases kvs with
    | nil => exact ⟨[], .nil, fun j k u e => by simp at e⟩
    | cons _ _ => simp at hl
  | cons a ts ih =>
    intro kvs hl f
    cases kvs with
    | nil => simp at hl
    | cons kv kvs =>
      obtain ⟨k, v⟩ := kv
      have e := f 0 a k v rfl rfl
      obtain ⟨_, its, r, o, h1, h2, n, h3⟩ := (show ObjOk P w H h a (.tup [kV k, v]) from ok a _ e)
      obtain ⟨kx, u, rfl, rk, rv⟩ := vals2 r
      obtain ⟨ps, r', g⟩ := ih kvs (by simpa using hl) fun j b k2 v2 e1 e2 => f (j + 1) b k2 v2 (by simpa using e1) (by simpa using e2)
      refine ⟨(k, u) :: ps, .cons ⟨rfl, rv⟩ r', fun j k2 u2 e => ?_⟩
      cases j with
      | zero =>
        simp at e
        obtain ⟨rfl, rfl⟩ := e
        exact ⟨a, kx, rfl, kV_is rk, o, n, h1, h2, h3⟩
      | succ j =>
        obtain ⟨p, kx2, q⟩ := g j k2 u2 (by simpa using e)
        exact ⟨p, kx2, by simpa using q⟩
theorem boot_dict : bootBuiltins "dict" = some (.type "dict") := by decide +kernel
theorem call_dictP {X : Cx} (hc : X.calm = true) : CallR X (.type "dict") (fun xs H Q => ∃ (l : Addr) (ts : List Addr) (kvs : List (Key × V)), xs = [.ref l] ∧ H l = some (.lst (ts.map V.ref)) ∧ ts.length = kvs.length ∧
    (∀ (j : Nat) (a : Addr) (k : Key) (v : V), ts[j]? = some a → kvs[j]? = some (k, v) → H a = some (.tup [kV k, v])) ∧ ∀ D, H D = none → Q (.ref D) (upd H D (.dK (putAll kvs)))) := by
  intro pins s σ H xs us Q I r h
  obtain ⟨l, ts, kvs, rfl, hl, len, f, q⟩ := h
  obtain ⟨u, rfl, ru⟩ := vals1 r
  cases (show u = Value.ref l from ru)
  obtain ⟨z, its, n, vs, hget⟩ := (show ObjOk X.prog X.w H s.heap l (.lst (ts.map V.ref)) from I.hok l _ hl)
  obtain ⟨ps, rel, g⟩ := xr_ps I.hok ts kvs len f
  have pl : ps.length = ts.length := by rw [len]; exact (KV.length rel).symm
  have il : its.length = ts.length := by rw [← Vals.length vs, List.length_map]
  have tz : ts.length ≤ sizeLine := by simpa using z
  have hp : XrPairs (mixKind X.prog X.w) s.heap its.toArray ps := by
    refine ⟨by simp [il, pl], fun j k v e => ?_⟩
    obtain ⟨p, kx, e1, r⟩ := g j k v e
    obtain ⟨y, hy, ry⟩ := Vals.get (i := j) (x := .ref p) vs (by rw [List.getElem?_map, e1]; rfl)
    cases (show y = Value.ref p from ry)
    exact ⟨p, kx, by simpa using hy, r⟩
  refine xr_call_dict (knd := mixKind X.prog X.w) (I.ok.hd hc) hget hp (by omega) fun h' tk hd k => ?_
  have kv := kv_all kvs ps rel [] [] .nil
  have ml := merged_length_le ([] : List (Key × Value)) ps
  have new : ObjOk X.prog X.w (upd H s.heap.objs.size (.dK (putAll kvs))) h' s.heap.objs.size (.dK (putAll kvs)) :=
    ⟨by rw [show putAll kvs = kvs.foldl (fun m p => putK m p.1 p.2) [] from rfl, KV.length kv]; simp only [List.length_nil] at ml; omega, beq_eq_false_iff_ne.mpr (Ne.symm (Nat.ne_of_lt I.above)), _, kv, hd⟩
  exact ⟨.ref _, _, I.laid (t' := tk) k (Nat.le_refl _) new, rfl, q _ I.fresh⟩
end L2
namespace L2
open PySem
theorem vals_intP : ∀ (ns : List Int) (its : List Value), Vals (ns.map V.int) its → ∃ ps : List (Int × Tok), its = ps.map (fun p => Value.int p.1 p.2) ∧ ps.map (·.1) = ns := by
  intro ns
  induction ns with
  | nil =>
    intro its r
    cases r
    exact ⟨[], rfl, rfl⟩
  | cons n ns ih =>
    intro its r
    cases r with
    | cons e t =>
      obtain ⟨tk, rfl⟩ := (show ∃ t, _ = Value.int n t from e)
      obtain ⟨ps, rfl, e2⟩ := ih _ t
      exact ⟨(n, tk) :: ps, rfl, by rw [List.map_cons, e2]⟩
theorem vals_bls : ∀ (bs : List Bool) (its : List Value), Vals (bs.map V.bl) its → its = bs.map Value.bool := by
  intro bs
  induction bs with
  | nil =>
    intro its r
    cases r
    rfl
  | cons b bs ih =>
    intro its r
    cases r with
    | cons e t =>
      cases (show _ = Value.bool b from e)
      rw [ih _ t]; rfl
theorem boot_sum : bootBuiltins "sum" = some (.builtin "sum") := by decide +kernel
theorem boot_any : bootBuiltins "any" = some (.builtin "any") := by decide +kernel
section
variable {X : Cx}
theorem call_sumL (hc : X.calm = true) : CallR X (.builtin "sum") (fun xs H Q => ∃ (l : Addr) (ns : List Int), xs = [.ref l] ∧ H l = some (.lst (ns.map V.int)) ∧ Q (.int ns.sum) H) := by
  intro pins s σ H xs us Q I r h
  obtain ⟨l, ns, rfl, hl, q⟩ := h
  obtain ⟨u, rfl, ru⟩ := vals1 r
  cases (show u = Value.ref l from ru)
  obtain ⟨z, its, n, vs, hget⟩ := (show ObjOk X.prog X.w H s.heap l (.lst (ns.map V.int)) from I.hok l _ hl)
  obtain ⟨ps, rfl, rfl⟩ := vals_intP ns its vs
  have il : s.heap.IsList l (intItems ps.toArray) := ⟨_, hget, rfl, n, by simp [intItems]⟩
  refine sum_intListG (I.ok.hd hc) il fun h' tk t' k => ?_
  rw [preSum_eq, List.take_of_length_le (by simp)]
  exact ⟨.int _, H, I.kept k, ⟨t', rfl⟩, q⟩
theorem call_anyL (hc : X.calm = true) : CallR X (.builtin "any") (fun xs H Q => ∃ (l : Addr) (bs : List Bool), xs = [.ref l] ∧ H l = some (.lst (bs.map V.bl)) ∧ Q (.bl (bs.any id)) H) := by
  intro pins s σ H xs us Q I r h
  obtain ⟨l, bs, rfl, hl, q⟩ := h
  obtain ⟨u, rfl, ru⟩ := vals1 r
  cases (show u = Value.ref l from ru)
  obtain ⟨z, its, n, vs, hget⟩ := (show ObjOk X.prog X.w H s.heap l (.lst (bs.map V.bl)) from I.hok l _ hl)
  have := vals_bls bs its vs
  subst this
  have il : s.heap.IsList l (bs.map Value.bool).toArray := ⟨_, hget, rfl, n, rfl⟩
  have hlt : l < s.heap.objs.size := Heap.lt_size hget
  refine call_any_walk (wpAny_pyIter_list il ?_)
  refine ⟨_, _, _, _, _, _, fun i => (bs[i]?).getD false, rfl, Walks.list (A := X.A.in1) (I.ok.hd hc) _ l (Nat.ne_of_lt hlt) (bs.map Value.bool).toArray, ⟨⟨_, Heap.get?_push_size _ rfl, rfl, rfl⟩, il.push _⟩, ?_, fun h' tk k => ?_⟩
  · intro i v s' Q' E' hP hQ
    obtain ⟨b, hb, rfl⟩ : ∃ b, bs[i]? = some b ∧ Value.bool b = v := by simpa using hP
    dsimp only at hQ
    rw [hb] at hQ
    unfold truthy
    exact wpAny_pure hQ
  · have e : ((List.range (bs.map Value.bool).toArray.size).any fun i => (bs[i]?).getD false) = bs.any id := by
      rw [show (bs.map Value.bool).toArray.size = bs.length by simp]
      rw [Bool.eq_iff_iff, List.any_eq_true, List.any_eq_true]
      constructor
      · rintro ⟨i, hi, e⟩
        have hi' := List.mem_range.mp hi
        rw [List.getElem?_eq_getElem hi'] at e
        exact ⟨bs[i], List.getElem_mem hi', e⟩
      · rintro ⟨b, hb, e⟩
        obtain ⟨i, hi⟩ := List.getElem?_of_mem hb
        exact ⟨i, List.mem_range.mpr (List.getElem?_eq_some_iff.mp hi).1, by rw [hi]; exact e⟩
    rw [e]
    exact ⟨.bl _, H, I.kept (old_kept k), rfl, q⟩
def tStar (te : TE) (tr : TA) : TA := fun σ H Q => te σ H fun x H1 => ∃ l xs, x = .ref l ∧ H1 l = some (.lst xs) ∧ tr σ H1 fun ys H2 => Q (xs ++ ys) H2
theorem vals_app : ∀ {xs : List V} {us : List Value}, Vals xs us → ∀ {ys : List V} {vs : List Value}, Vals ys vs → Vals (xs ++ ys) (us ++ vs)
  | _, _, .nil, _, _, h => h
  | _, _, .cons r t, _, _, h => .cons r (vals_app t h)
theorem pa_star {e : Expr} {es : List Expr} {te : TE} {t : TA} {p : Pos} (ha : PE X e te) (hr : PA X es t) : PA X (.Starred e p :: es) (tStar te t) := by
  intro pos pins s σ H Q I h
  refine PySem.W.items_star (thn (ha pins s σ H _ I h) fun u s1 ⟨x, H1, I1, r1, l, xs, ex, hl, q1⟩ => ?_)
  subst ex
  cases (show u = Value.ref l from r1)
  obtain ⟨z, its, n, vs, hget⟩ := (show ObjOk X.prog X.w H1 s1.heap l (.lst xs) from I1.hok l _ hl)
  unfold PySem.W.StarOf notIterableAtAll
  refine wpAny_bind (wpAny_specialOf (T := "list") ⟨_, hget, rfl⟩ PySem.F.slot_list_iter.lookup (wpAny_pure ⟨rfl, ?_⟩))
  have zl : its.toArray.size ≤ sizeLine := by rw [show its.toArray.size = its.length by simp, ← Vals.length vs]; exact z
  refine wpAny_collect_seq l (.inl rfl) hget rfl rfl (fun h' hk => ?_) zl
  exact thn (hr pos pins _ σ H1 _ (I1.kept hk) q1) fun us s2 ⟨ys, H2, I2, r2, q2⟩ => ⟨xs ++ ys, H2, I2, vals_app vs r2, q2⟩
end
end L2
namespace L2
open PySem PySem.Spec PyProof.Rows
section
variable {X : Cx}
end
end L2
namespace GF
open PySem L2
end GF
namespace L2
open PySem PySem.Spec PyProof.Rows
def mkC : Nat → List (Str × NameKind) → List (Str × Addr) → List (Str × Addr)
  | _, [], cs => cs
  | n, (x, k) :: r, cs => if (k == .cell) = true then mkC (n + 1) r ((x, n) :: cs) else mkC n r cs
theorem mkC_at {x : Str} {c : Addr} : ∀ {names : List (Str × NameKind)} {n : Nat} {cs : List (Str × Addr)}, (mkC n names cs).lookup x = some c → cs.lookup x = some c ∨ (n ≤ c ∧ (x, NameKind.cell) ∈ names)
  | [], n, cs, h => .inl h
  | (y, k) :: r, n, cs, h => by
    unfold mkC at h
    by_cases hk : (k == NameKind.cell) = true
    · rw [if_pos hk] at h
      have ek : k = .cell := by simpa using hk
      rcases mkC_at h with z | ⟨z1, z2⟩
      · rw [List.lookup_cons] at z
        cases hx : x == y with
        | true =>
          rw [hx] at z
          cases z
          have e : x = y := by simpa using hx
          subst e ek
          exact .inr ⟨Nat.le_refl _, List.mem_cons_self⟩
        | false => rw [hx] at z; exact .inl z
      · exact .inr ⟨by omega, List.mem_cons_of_mem _ z2⟩
    · rw [if_neg hk] at h
      rcases mkC_at h with z | ⟨z1, z2⟩
      · exact .inl z
      · exact .inr ⟨z1, List.mem_cons_of_mem _ z2⟩
theorem mkC_inj {x y : Str} {c : Addr} : ∀ {names : List (Str × NameKind)} {n : Nat} {cs : List (Str × Addr)}, (∀ x y c, cs.lookup x = some c → cs.lookup y = some c → x = y) → (∀ x c, cs.lookup x = some c → c < n) →
    (mkC n names cs).lookup x = some c → (mkC n names cs).lookup y = some c → x = y
  | [], n, cs, i, b, h1, h2 => i x y c h1 h2
  | (z, k) :: r, n, cs, i, b, h1, h2 => by
    unfold mkC at h1 h2
    by_cases hk : (k == NameKind.cell) = true
    · rw [if_pos hk] at h1 h2
      refine mkC_inj (fun x y c g1 g2 => ?_) (fun x c g => ?_) h1 h2
      · rw [List.lookup_cons] at g1 g2
        cases hx : x == z with
        | true =>
          have ex : x = z := by simpa using hx
          rw [hx] at g1; cases g1
          cases hy : y == z with
          | true => rw [ex]; exact (by simpa using hy : y = z).symm
          | false =>
            rw [hy] at g2
            exact absurd (b _ _ g2) (Nat.lt_irrefl _)
        | false =>
          rw [hx] at g1
          cases hy : y == z with
          | true =>
            rw [hy] at g2; cases g2
            exact absurd (b _ _ g1) (Nat.lt_irrefl _)
          | false => rw [hy] at g2; exact i _ _ _ g1 g2
      · rw [List.lookup_cons] at g
        cases hx : x == z with
        | true => rw [hx] at g; cases g; exact Nat.lt_succ_self _
        | false => rw [hx] at g; exact Nat.lt_succ_of_lt (b _ _ g)
    · rw [if_neg hk] at h1 h2
      exact mkC_inj i b h1 h2
theorem mkC_stay {x : Str} : ∀ {names : List (Str × NameKind)} {n : Nat} {cs : List (Str × Addr)}, (∃ c, cs.lookup x = some c) → ∃ c, (mkC n names cs).lookup x = some c
  | [], n, cs, h => h
  | (y, k) :: r, n, cs, h => by
    unfold mkC
    by_cases hk : (k == NameKind.cell) = true
    · rw [if_pos hk]
      refine mkC_stay ?_
      rw [List.lookup_cons]
      cases hx : x == y with
      | true => exact ⟨_, rfl⟩
      | false => exact h
    · rw [if_neg hk]
      exact mkC_stay h
theorem mkC_has {x : Str} : ∀ {names : List (Str × NameKind)} {n : Nat} {cs : List (Str × Addr)}, (x, NameKind.cell) ∈ names → ∃ c, (mkC n names cs).lookup x = some c
  | [], n, cs, h => nomatch h
  | (y, k) :: r, n, cs, h => by
    unfold mkC
    rcases List.mem_cons.mp h with z | z
    · cases z
      rw [if_pos (show (NameKind.cell == NameKind.cell) = true from rfl)]
      refine mkC_stay ⟨n, ?_⟩
      rw [List.lookup_cons]
      simp
    · by_cases hk : (k == NameKind.cell) = true
      · rw [if_pos hk]; exact mkC_has z
      · rw [if_neg hk]; exact mkC_has z
theorem mkC_other {x : Str} : ∀ {names : List (Str × NameKind)} {n : Nat} {cs : List (Str × Addr)}, (x, NameKind.cell) ∉ names → (mkC n names cs).lookup x = cs.lookup x
  | [], n, cs, h => rfl
  | (y, k) :: r, n, cs, h => by
    unfold mkC
    have hr : (x, NameKind.cell) ∉ r := fun z => h (List.mem_cons_of_mem _ z)
    by_cases hk : (k == NameKind.cell) = true
    · rw [if_pos hk, mkC_other hr, List.lookup_cons]
      cases hx : x == y with
      | true =>
        have ex : x = y := by simpa using hx
        have ek : k = .cell := by simpa using hk
        subst ex ek
        exact absurd List.mem_cons_self h
      | false => rfl
    · rw [if_neg hk]; exact mkC_other hr
theorem cells_run {M : Model} {A : Around} {E : Value → Shared → Prop} : ∀ (names : List (Str × NameKind)) (cs : List (Str × Addr)) (s : Shared) (Q : List (Str × Addr) → Shared → Prop),
    (∀ h', (∀ b o, s.heap.get? b = some o → h'.get? b = some o) → s.heap.objs.size ≤ h'.objs.size → (∀ x c, (mkC s.heap.objs.size names cs).lookup x = some c → cs.lookup x = some c ∨ h'.IsCell c none) → Q (mkC s.heap.objs.size names cs) { s with heap := h' }) →
    wpAny M A (forIn names cs fun (x : Str × NameKind) (r : List (Str × Addr)) => if (x.2 == NameKind.cell) = true then (do let c ← alloc { cls := Value.type "cell", data := Data.cell none }; pure (ForInStep.yield ((x.1, c) :: r))) else pure (ForInStep.yield r)) Q E s
  | [], cs, s, Q, h => wpAny_pure (h s.heap (fun _ _ e => e) (Nat.le_refl _) fun x c e => .inl e)
  | (y, k) :: r, cs, s, Q, h => by
    rw [List.forIn_cons]
    by_cases hk : (k == NameKind.cell) = true
    · simp only [hk, if_true]
      refine wpAny_bind (wpAny_bind (wpAny_alloc (wpAny_pure ?_)))
      refine cells_run r _ _ Q fun h' k1 k2 k3 => ?_
      have sz : (s.heap.push { cls := Value.type "cell", data := Data.cell none }).objs.size = s.heap.objs.size + 1 := by simp [Heap.push]
      have e1 : mkC s.heap.objs.size ((y, k) :: r) cs = mkC (s.heap.push { cls := Value.type "cell", data := Data.cell none }).objs.size r ((y, s.heap.objs.size) :: cs) := by
        rw [sz]
        show (if (k == NameKind.cell) = true then _ else _) = _
        rw [if_pos hk]
      have := h h' (fun b o e => k1 b o (Heap.get?_push_of_some _ e)) (Nat.le_trans (by rw [sz]; omega) k2) fun x c e => by
        rw [e1] at e
        rcases k3 x c e with z | z
        · rw [List.lookup_cons] at z
          cases hx : x == y with
          | true =>
            rw [hx] at z; cases z
            exact .inr ⟨_, k1 _ _ (Heap.get?_push_size _ rfl), rfl⟩
          | false => rw [hx] at z; exact .inl z
        · exact .inr z
      rw [e1] at this
      exact this
    · simp only [hk]
      refine wpAny_bind (wpAny_pure ?_)
      have e1 : mkC s.heap.objs.size ((y, k) :: r) cs = mkC s.heap.objs.size r cs := by
        show (if (k == NameKind.cell) = true then _ else _) = _
        rw [if_neg hk]
      refine cells_run r cs s Q fun h' k1 k2 k3 => ?_
      have := h h' k1 k2 fun x c e => k3 x c (by rw [e1] at e; exact e)
      rw [e1] at this
      exact this
theorem newEnvC {M : Model} {A : Around} {E : Value → Shared → Prop} {s : Shared} {scope : Scope} {g : Addr} {cl : List (Str × Addr)} {qual : Str} {env : Env} {Q : Env → Shared → Prop}
    (h : ∀ h', (∀ b o, s.heap.get? b = some o → h'.get? b = some o) → h'.Ns s.heap.objs.size (fun _ => none) → (∀ x c, (mkC (s.heap.objs.size + 1) scope.names cl).lookup x = some c → cl.lookup x = some c ∨ h'.IsCell c none) →
      Q { scope := scope, locals := s.heap.objs.size, globals := g, cells := mkC (s.heap.objs.size + 1) scope.names cl, qual := qual, func := none, code := env.code, frame := env.frame, builtins := env.builtins } { s with heap := h' }) :
    wpAny M A (newFunctionEnv scope g cl [] qual none .none (some env)) Q E s := by
  unfold newFunctionEnv
  refine wpAny_bind (wpAny_alloc ?_)
  have sz : (s.heap.push { cls := Value.type (if (some env).isSome = true then "dict" else "frame"), data := Data.dict #[] }).objs.size = s.heap.objs.size + 1 := by simp [Heap.push]
  refine wpAny_bind (cells_run scope.names cl _ _ fun h' k1 k2 k3 => ?_)
  refine wpAny_bind (wpAny_pure (wpAny_pure ?_))
  have ns := Heap.Ns.new s.heap (Value.type (if (some env).isSome = true then "dict" else "frame"))
  have := h h' (fun b o e => k1 b o (Heap.get?_push_of_some _ e)) (by
    obtain ⟨o, es, ep, q1, q2⟩ := ns
    exact ⟨o, es, ep, k1 _ _ q1, q2⟩) (by rw [← sz]; exact k3)
  rw [← sz] at this
  exact this
end L2
namespace L2
open PySem PySem.Spec PyProof.Rows
def blkC (X : Cx) (scope : Scope) (N : List Str) (s : Shared) (H : Hp) (fp : List Addr) : Cx :=
  { X with N := N, s₀ := s, H₀ := H, env := compEnvC scope (mkC (s.heap.objs.size + 1) scope.names (clOf X.env scope.names [])) s.heap.objs.size X.env, outer := X.stack, stack := X.stack, ex := fp, fn := fun x => scope.names.lookup x == some .cell, pn := [], xe := fun _ _ => False }
structure BlkC (esc scope : Scope) (N : List Str) (fi : List Nat) : Prop where
  kind : scope.kind = .function
  cel : ∀ y ∈ scope.names, y.2 = .cell → scope.names.lookup y.1 = some .cell
  loc : ∀ y ∈ scope.names, y.2 = .local → scope.names.lookup y.1 = some .local
  fre : ∀ y ∈ scope.names, y.2 = .free → scope.names.lookup y.1 = some .free
  free : ∀ y ∈ scope.names, y.2 = .free → esc.names.lookup y.1 = some .cell ∨ esc.names.lookup y.1 = some .free
  ix : ∀ i ∈ fi, scope.names.lookup (N.getD i "") = some .free
section
variable {X : Cx} {pins : List (Addr × Obj)} {σ : St} {H : Hp} {s : Shared} {scope esc : Scope} {os : List Str} {fi : List Nat} {fp : List Addr}
theorem blkC_cells (B : BlkC esc scope X.N fi) (he : X.env.scope = esc) (I : Inv X pins σ H s) : ∀ y ∈ scope.names, y.2 = .free → (X.env.cells.lookup y.1).isSome = true := fun y hy hf => by
  have k := B.free y hy hf
  rw [← he] at k
  obtain ⟨c, e⟩ := I.ok.has y.1 k
  rw [e]; rfl
theorem blkC_cl (B : BlkC esc scope X.N fi) (he : X.env.scope = esc) (I : Inv X pins σ H s) {x : Str} {c : Addr} (h : (clOf X.env scope.names []).lookup x = some c) : X.env.cells.lookup x = some c := by
  rcases clOf_sub h with z | ⟨z1, z2⟩
  · cases z
  · obtain ⟨d, e⟩ := Option.isSome_iff_exists.mp (blkC_cells B he I _ z1 rfl)
    rw [show X.env.cells.lookup x = some d from e] at z2 ⊢
    rw [← z2]; rfl
theorem cell_lt (I : Inv X pins σ H s) {x : Str} {c : Addr} (h : X.env.cells.lookup x = some c) : c < s.heap.objs.size := by
  obtain ⟨v, o, ho, _⟩ := I.cell x c h
  exact Heap.lt_size ho
theorem blkC_at (B : BlkC esc scope X.N fi) (he : X.env.scope = esc) (I : Inv X pins σ H s) {x : Str} {c : Addr} (h : (mkC (s.heap.objs.size + 1) scope.names (clOf X.env scope.names [])).lookup x = some c) : X.env.cells.lookup x = some c ∨ s.heap.objs.size < c := by
  rcases mkC_at h with z | ⟨z, _⟩
  · exact .inl (blkC_cl B he I z)
  · exact .inr (by omega)
theorem blkC_ok (B : BlkC esc scope X.N fi) (he : X.env.scope = esc) (I : Inv X pins σ H s) (hf : ∀ b ∈ fp, FpOk X pins H b) (ho : ∀ b ∈ fp, ∃ o, s.heap.get? b = some o) : (blkC X scope (nB X.N os fi) s H fp).Ok where
  mod := I.ok.mod
  kind := B.kind
  glob := I.ok.glob
  blt := I.ok.blt
  above := Nat.le_refl _
  inj := fun x y c h1 h2 => mkC_inj (fun x y c g1 g2 => I.ok.inj x y c (blkC_cl B he I g1) (blkC_cl B he I g2)) (fun x c g => Nat.lt_succ_of_lt (cell_lt I (blkC_cl B he I g))) h1 h2
  has := fun x h => by
    have q : ∃ k, scope.names.lookup x = some k ∧ (k = .cell ∨ k = .free) := by
      rcases h with h | h
      · obtain ⟨k, e, z | ⟨z, _⟩⟩ := relabel_look h
        · exact ⟨k, e, .inl z.symm⟩
        · exact ⟨k, e, .inr z⟩
      · obtain ⟨k, e, z | ⟨_, z⟩⟩ := relabel_look h
        · exact ⟨k, e, .inr z.symm⟩
        · cases z
    obtain ⟨k, e, z | z⟩ := q
    · subst z; exact mkC_has (mem_of_look e)
    · subst z; exact mkC_stay ⟨_, clOf_has (mem_of_look e)⟩
  cab := fun x c h g => by
    rcases mkC_at g with z | ⟨z, _⟩
    · rcases clOf_sub z with z | ⟨z1, _⟩
      · cases z
      · have e1 := B.fre _ z1 rfl
        have e2 : scope.names.lookup x = some .cell := by simpa [blkC] using h
        rw [e2] at e1; cases e1
    · show s.heap.objs.size ≤ c
      omega
  hd := I.ok.hd
  frames := I.ok.frames
  stk := .inl rfl
  exf := fun b hb => by
    obtain ⟨o, e⟩ := ho b hb
    have lt := Heap.lt_size e
    refine ⟨Nat.ne_of_lt lt, fun x c h => ?_⟩
    rcases blkC_at B he I h with z | z
    · exact (hf b hb).2.2.2.2.1 x c z
    · exact Nat.ne_of_gt (Nat.lt_trans lt z)
  bs := I.bs
  bsz := Nat.le_trans I.ok.bsz I.sz
  noex := fun b o e hb => by
    rcases (hf b hb).2.2.2.1 with z | z
    · exact I.ok.noex b o e z
    · exact absurd (Nat.lt_of_lt_of_le (Heap.lt_size e) (Nat.le_trans I.ok.bsz z)) (Nat.lt_irrefl _)
  exfs := fun b hb z => by
    rcases List.mem_cons.mp (I.stkSub b z) with e | e
    · exact (hf b hb).2.1 e
    · exact (hf b hb).2.2.1 e
  funs := I.stack
  frf := I.stkFree
theorem blkC_inv {h1 : Heap} {t1 : Nat} {m1 : Str → Option Value} (B : BlkC esc scope X.N fi) (he : X.env.scope = esc) (I : Inv X pins σ H s) (hf : ∀ b ∈ fp, FpOk X pins H b) (ho : ∀ b ∈ fp, ∃ o, s.heap.get? b = some o)
    (k : ∀ b o, s.heap.get? b = some o → h1.get? b = some o) (hn : h1.Ns s.heap.objs.size m1) (hc : ∀ x c, (mkC (s.heap.objs.size + 1) scope.names (clOf X.env scope.names [])).lookup x = some c → (clOf X.env scope.names []).lookup x = some c ∨ h1.IsCell c none) :
    Inv (blkC X scope (nB X.N os fi) s H fp) [] (sB σ os fi) H { s with heap := h1, toks := t1 } where
  ok := blkC_ok B he I hf ho
  os := rfl
  bare := I.bare
  base := Un.kept k
  loc := by
    refine ⟨m1, hn, fun j x v e1 e2 e3 => ?_⟩
    have hj : os.length ≤ j := by
      by_cases hj : j < os.length
      · have z : (sB σ os fi)[j]? = some (some v) := e2
        unfold sB at z
        rw [List.getElem?_append_left (by simpa using hj), List.getElem?_map] at z
        cases q : os[j]? with
        | none => rw [q] at z; cases z
        | some _ => rw [q] at z; cases z
      · omega
    have z1 : (nB X.N os fi)[j]? = some x := e1
    have z2 : (sB σ os fi)[j]? = some (some v) := e2
    unfold nB at z1
    unfold sB at z2
    rw [List.getElem?_append_right hj, List.getElem?_map] at z1
    rw [List.getElem?_append_right (by simpa using hj), List.length_map, List.getElem?_map] at z2
    cases q : fi[j - os.length]? with
    | none => rw [q] at z1; cases z1
    | some i =>
      rw [q] at z1 z2
      have w1 : X.N.getD i "" = x := Option.some.inj z1
      have w2 : (σ[i]?).join = some v := Option.some.inj z2
      have w3 : σ[i]? = some (some v) := by
        cases p : σ[i]? with
        | none => rw [p] at w2; cases w2
        | some y => rw [p] at w2; exact congrArg some w2
      have lx : scope.names.lookup x = some .free := by rw [← w1]; exact B.ix i (List.mem_of_getElem? q)
      have li : i < X.N.length := by rw [← I.len]; exact (List.getElem?_eq_some_iff.mp w3).1
      have w4 : X.N[i]? = some x := by
        rw [List.getD_eq_getElem?_getD, List.getElem?_eq_getElem li] at w1
        rw [List.getElem?_eq_getElem li]
        exact congrArg some w1
      have kx := B.free _ (mem_of_look lx) rfl
      rw [← he] at kx
      obtain ⟨m, hm, hl⟩ := I.loc
      obtain ⟨u, r, l⟩ := hl i x v w4 w3 (by rcases kx with kx | kx; exact .inr (.inl kx); exact .inr (.inr kx))
      refine ⟨u, r, .inr ⟨relabel_free lx, ?_⟩⟩
      rcases l with ⟨a, _⟩ | ⟨_, c, e, ic⟩
      · rcases kx with kx | kx <;> rw [show X.env.kindOf x = X.env.scope.names.lookup x from rfl, kx] at a <;> cases a
      · refine ⟨c, ?_, ?_⟩
        · have := clOf_has (env := X.env) (cs := []) (mem_of_look lx)
          rw [e] at this
          have no : (x, NameKind.cell) ∉ scope.names := fun z => by
            have := B.cel _ z rfl
            rw [lx] at this; cases this
          show (mkC (s.heap.objs.size + 1) scope.names (clOf X.env scope.names [])).lookup x = some c
          rw [mkC_other no]
          exact this
        · obtain ⟨o, ho, hd⟩ := ic
          exact ⟨o, k _ o ho, hd⟩
  cell := fun x c h => by
    rcases hc x c h with z | z
    · obtain ⟨v, o, ho, hd⟩ := I.cell x c (blkC_cl B he I z)
      exact ⟨v, o, k _ o ho, hd⟩
    · exact ⟨_, z⟩
  free := I.hok.fresh (Nat.le_refl _)
  freeC := fun x c h => by
    rcases blkC_at B he I h with z | z
    · exact I.freeC x c z
    · exact I.hok.fresh (Nat.le_of_lt z)
  pin := fun p hp => nomatch hp
  hok := I.hok.kept k
  len := by
    show (sB σ os fi).length = (nB X.N os fi).length
    unfold sB nB
    simp
theorem blkC_out {N : List Str} {s' : Shared} {H' : Hp} {σ' : St} {pins' : List (Addr × Obj)} {h' : Heap} (I : Inv X pins σ H s) (hf : ∀ b ∈ fp, FpOk X pins H b) (I' : Inv (blkC X scope N s H fp) pins' σ' H' s') (sb : Heap.SameBut s.heap.objs.size s'.heap h') :
    Inv X pins σ H' { s' with heap := h' } := by
  have ne : ∀ b o, s.heap.get? b = some o → b ≠ s.heap.objs.size := fun b o e => Nat.ne_of_lt (Heap.lt_size e)
  have un : Un (frs X.stack) fp H H' s.heap h' := by
    have u : Un (frs X.stack) fp H H' s.heap s'.heap := I'.base
    exact ⟨fun b o e n hb hx => (sb.2 b (ne b o e)).trans (u.keep b o e n hb hx), fun b o e n hb hx => by
        obtain ⟨sl, q⟩ := u.slot b o e n hb hx
        exact ⟨sl, (sb.2 b (ne b o e)).trans q⟩, u.free, fun b o e hx => by
        obtain ⟨o', q⟩ := u.there b o e hx
        exact ⟨o', (sb.2 b (ne b o e)).trans q⟩, u.tups, u.frzs, u.tbls⟩
  have hok : HOk X.prog X.w H' h' := fun b ob e => by
    have fr : H' s.heap.objs.size = none := I'.free
    refine (I'.hok b ob e).stay (fun c w' hc q => (sb.2 c ?_).trans q) (fun _ q => q) fun _ _ q => q
    rintro rfl
    rcases hc with rfl | hc
    · rw [fr] at e; cases e
    · rw [fr] at hc; cases hc
  obtain ⟨hh, g, d, t, os'⟩ := s'
  obtain rfl : os' = s.os := I'.os
  have J := I.call (h' := h') (g' := g) (d' := d) (t' := t) (ch := fp) un hok I'.bare fun b hb => ⟨(hf b hb).2.2.2.1, (hf b hb).2.1, (hf b hb).2.2.2.2.1, (hf b hb).2.2.2.2.2⟩
  exact J
end
section
variable {X : Cx} {e tg iter : Expr} {ifs : List Expr} {scope esc : Scope} {pos : Pos} {N os : List Str} {fi : List Nat} {wi : TI} {g : TG} {tt : TT} {tb : Addr → TB} {body : Addr → Env → Sem Fi → Sem Fi} {o0 : Addr → HO} {mk : Sem Value} {p : Pos}
theorem comp_coreC {pins : List (Addr × Obj)} {σ : St} {H : Hp} {s : Shared} {E : Value → Shared → Prop} {it : Addr} {fp : List Addr} {tn : Nat → Heap → Prop} {J : It} {Q : VK} {RR : Value → Addr → Result → Shared → Prop} (hc : X.calm = true) (hN : X.N = N) (he : X.env.scope = esc) (B : BlkC esc scope N fi)
    (hL : LoopRule X.prog X.w X.A e 0) (hS : StartRule X.prog X.w X.A e 0) (hT : ∀ (it D : Addr) (env : Env), compTurn e 0 (.ref it) (.ref D) env = turnOf tg p ifs (.ref it) env (body D env) (again (.compLoop e 0 (.ref it) (.ref D) env)))
    (hmk : NewRule X mk o0)
    (hg : ∀ s H fp, PG (blkC X scope (nB N os fi) s H fp) tg g) (ht : ∀ s H fp, PTs (blkC X scope (nB N os fi) s H fp) ifs tt) (hb : ∀ D s H fp, PB (blkC X scope (nB N os fi) s H fp) (body D (blkC X scope (nB N os fi) s H fp).env) (tb D))
    (I : Inv X pins σ H s) (T : Turn X.prog X.w X.K tg J fp it tn) (st : tn 0 s.heap) (hf : ∀ b ∈ fp, FpOk X pins H b) (q : ∀ l, H l = none → LR J g tt (tb l) (sB σ os fi) (upd H l (o0 l)) fun _ H' => Q (.ref l) H')
    (hRR : ∀ D s3 H3 s' σ' H', Inv X pins σ H3 s3 → (∀ b ∈ fp, FpOk X pins H3 b) → Inv (blkC X scope (nB N os fi) s3 H3 fp) [] σ' H' s' → Q (.ref D) H' → RR (.ref D) s3.heap.objs.size (.ok .next) s') :
    wpAny (model X.prog X.w) X.A mk (fun acc s3 => wpAny (model X.prog X.w) X.A (newFunctionEnv scope X.env.globals (clOf X.env scope.names []) [] X.env.qual none .none (some X.env)) (fun cenv s4 =>
      codeAny (model X.prog X.w) X.A (.compStart e 0 (.ref it) acc { cenv with scope := relabel scope X.env }) (RR acc cenv.locals) s4) E s3) E s := by
  subst hN
  have fresh : H s.heap.objs.size = none := I.hok.fresh (Nat.le_refl _)
  have old : ∀ b ∈ fp, ∃ o, s.heap.get? b = some o := fun b hb => by
    obtain ⟨o, e, _⟩ := T.obj _ _ st b hb
    exact ⟨o, e⟩
  refine hmk pins s σ H E _ I fun s3 k3 I3 => ?_
  have hf3 : ∀ b ∈ fp, FpOk X pins (upd H s.heap.objs.size (o0 s.heap.objs.size)) b := fun b hb => by
    obtain ⟨o, e⟩ := old b hb
    exact ⟨by rw [upd_ne (Nat.ne_of_lt (Heap.lt_size e))]; exact (hf b hb).1, (hf b hb).2⟩
  have st3 : tn 0 s3.heap := T.keep _ _ _ st fun b hb o e => k3 b o e
  have q3 := q _ fresh
  have ho3 : ∀ b ∈ fp, ∃ o, s3.heap.get? b = some o := fun b hb => by
    obtain ⟨o, e⟩ := old b hb
    exact ⟨o, k3 b o e⟩
  generalize s.heap.objs.size = D at *
  generalize upd H D (o0 D) = H3 at *
  refine newEnvC fun h4 k4 hn4 hc4 => ?_
  have I4 := blkC_inv (os := os) (t1 := s3.toks) B he I3 hf3 ho3 k4 hn4 hc4
  have st4 : tn 0 h4 := T.keep _ _ _ st3 fun b hb o e => k4 b o e
  have fpB : ∀ {H' : Hp}, (∀ b ∈ fp, H' b = none) → ∀ b ∈ fp, FpOk (blkC X scope (nB X.N os fi) s3 H3 fp) [] H' b := fun hn b hb => by
    refine ⟨hn b hb, (I4.ok.exf b hb).1, I4.ok.exfs b hb, .inl hb, (I4.ok.exf b hb).2, fun p hp => nomatch hp⟩
  have lp := loop_any (Y := blkC X scope (nB X.N os fi) s3 H3 fp) (R := RR (.ref D) s3.heap.objs.size) hL hc rfl (hT it D _) (hg s3 H3 fp) (ht s3 H3 fp) (hb D s3 H3 fp) T fpB I4 st4 (fun b hb => (hf3 b hb).1) q3
    fun σ' H' s' I' n' => hRR D s3 H3 s' σ' H' I3 hf3 I' n'
  exact hS _ _ _ _ _ lp (T.self _ 0 _ _ _ st4 lp)
theorem pe_compGC {gs : List Comprehension} {p' : Pos} (hev : eval e X.env = comprehension e scope X.env p' mk false (eval iter X.env)) (hcl : clausesOf e = ⟨tg, iter, ifs, 0⟩ :: gs) (hc : X.calm = true) (hN : X.N = N) (he : X.env.scope = esc) (B : BlkC esc scope N fi)
    (hL : LoopRule X.prog X.w X.A e 0) (hS : StartRule X.prog X.w X.A e 0) (hT : ∀ (it D : Addr) (env : Env), compTurn e 0 (.ref it) (.ref D) env = turnOf tg p ifs (.ref it) env (body D env) (again (.compLoop e 0 (.ref it) (.ref D) env)))
    (hmk : NewRule X mk o0) (hi : PI X tg iter wi)
    (hg : ∀ s H fp, PG (blkC X scope (nB N os fi) s H fp) tg g) (ht : ∀ s H fp, PTs (blkC X scope (nB N os fi) s H fp) ifs tt) (hb : ∀ D s H fp, PB (blkC X scope (nB N os fi) s H fp) (body D (blkC X scope (nB N os fi) s H fp).env) (tb D))
    (hs : ∀ x, foldedSetIterable iter X.env x = pure x := by intro _; rfl) : PE X e (tCG o0 os fi wi g tt tb) := by
  intro pins s σ H Q I h
  have cells := blkC_cells (by rw [hN]; exact B) he I
  rw [hev]
  refine wpAny_comprehension_free (use := none) hcl hs (closure_eq cells) B.kind B.loc (thn (hi pins s σ H _ I h) fun v s1 h1 => thn h1 fun itv s2 h2 => ?_)
  obtain ⟨it, fp, tn, J, H2, rfl, I2, T, st2, f2, q2⟩ := h2
  refine comp_coreC (RR := fun acc C => compPost (model X.prog X.w) X.A X.xe none (EP X pins σ Q) acc C) hc hN he B hL hS hT hmk hg ht hb I2 T st2 f2 q2 ?_
  intro D s3 H3 s' σ' H' I3 f3 I' q
  obtain ⟨m, hn, _⟩ := I'.loc
  exact ⟨m, hn, fun h' sb => ⟨.ref D, H', blkC_out I3 f3 I' sb, rfl, q⟩⟩
end
section
variable {X : Cx} {elt kx vx tg iter tg2 iter2 : Expr} {ifs ifs2 : List Expr} {scope esc : Scope} {pos : Pos} {N os : List Str} {fi : List Nat} {wi wi2 : TI} {g g2 : TG} {tt tt2 : TT} {te tk tv : TE}
theorem pe_dictcompC (hc : X.calm = true) (hN : X.N = N) (he : X.env.scope = esc) (B : BlkC esc scope N fi) (hi : PI X tg iter wi)
    (hg : ∀ s H fp, PG (blkC X scope (nB N os fi) s H fp) tg g) (ht : ∀ s H fp, PTs (blkC X scope (nB N os fi) s H fp) ifs tt)
    (hk : ∀ s H fp, PE (blkC X scope (nB N os fi) s H fp) kx tk) (hv : ∀ s H fp, PE (blkC X scope (nB N os fi) s H fp) vx tv)
    (hs : ∀ x, foldedSetIterable iter X.env x = pure x := by intro _; rfl) :
    PE X (.DictComp kx vx [⟨tg, iter, ifs, 0⟩] scope pos) (tCG (fun _ => .dK []) os fi wi g tt fun D => tEmD D tk tv) :=
  pe_compGC (gs := []) (body := fun D env => dictBody kx vx D env) rfl rfl hc hN he B loop_dict (start_dict rfl rfl) (fun _ _ _ => rfl) new_dict hi hg ht (fun D s H fp => pb_dict rfl (hk s H fp) (hv s H fp)) hs
theorem pe_compC (hc : X.calm = true) (hN : X.N = N) (he : X.env.scope = esc) (B : BlkC esc scope N fi) (hi : PI X tg iter wi)
    (hg : ∀ s H fp, PG (blkC X scope (nB N os fi) s H fp) tg g) (ht : ∀ s H fp, PTs (blkC X scope (nB N os fi) s H fp) ifs tt)
    (hel : ∀ s H fp, PE (blkC X scope (nB N os fi) s H fp) elt te)
    (hs : ∀ x, foldedSetIterable iter X.env x = pure x := by intro _; rfl) :
    PE X (.ListComp elt [⟨tg, iter, ifs, 0⟩] scope pos) (tCG (fun _ => .lst []) os fi wi g tt fun D => tEmL D te) :=
  pe_compGC (gs := []) (body := fun D env => listBody elt (.ref D) env) rfl rfl hc hN he B loop_list (start_list rfl rfl) (fun _ _ _ => rfl) new_list hi hg ht (fun D s H fp => pb_list rfl (hel s H fp)) hs
end
end L2
namespace L2
open PySem PySem.Spec PyProof.Rows
def ValsO (a v : Addr) : HO := .ext fun h => h.IsValuesView v a
theorem valsO_ok {P : Program} {w : World} {H : Hp} {h : Heap} {a v : Addr} (x : h.IsValuesView v a) : ObjOk P w H h v (ValsO a v) := by
  obtain ⟨o, q⟩ := id x
  exact ⟨x, ⟨o, q.1⟩, fun h1 h2 ⟨o, a, b⟩ k => ⟨o, k o a, b⟩⟩
section
variable {X : Cx}
theorem mt_values : MtR X "dict.values" (fun x xs H Q => ∃ a kvs, x = .ref a ∧ xs = [] ∧ H a = some (.dK kvs) ∧ ∀ v, H v = none → Q (.ref v) (upd H v (ValsO a v))) := by
  intro pins s σ H x xs v us Q I rx rv h
  obtain ⟨a, kvs, rfl, rfl, ha, q⟩ := h
  cases rx
  cases rv
  obtain ⟨z, hd, vs, rel, dd⟩ := dk_of I.hok ha
  refine call_meetsIn PySem.F.slot_dict_values dd.typeIs PySem.F.entry_dict_values (PySem.F.args_dict_values_1 _) (meets_dict_values (mixKind X.prog X.w) a hd) ⟨⟨vs, dd⟩, ?_⟩
  have new : ObjOk X.prog X.w (upd H s.heap.objs.size (ValsO a s.heap.objs.size)) (s.heap.push { cls := .type "dict_values", data := .fields #[.ref a] }) s.heap.objs.size (ValsO a s.heap.objs.size) :=
    valsO_ok ⟨_, Heap.get?_push_size _ rfl, rfl, rfl⟩
  exact ⟨.ref _, _, I.laid (t' := s.toks) (fun b o e => Heap.get?_push_of_some _ e) (Nat.le_refl _) new, rfl, q _ I.fresh⟩
theorem kv_ints : ∀ {kvs : List (Key × V)} {vs : List (Key × Value)} {ns : List Int}, KV kvs vs → kvs.map (·.2) = ns.map V.int → ∀ (i : Nat) (k : Key) (v : Value), vs[i]? = some (k, v) → ∃ t, v = .int (ns.getD i 0) t
  | [], [], ns, r, e, i, k, v, h => nomatch h
  | p :: kvs, q :: vs, [], r, e, i, k, v, h => nomatch e
  | p :: kvs, q :: vs, n :: ns, .cons r rs, e, i, k, v, h => by
    rw [List.map_cons, List.map_cons] at e
    injection e with e1 e2
    cases i with
    | zero =>
      cases (Option.some.inj h)
      obtain ⟨_, r⟩ := r
      rw [e1] at r
      exact r
    | succ i => exact kv_ints rs e2 i k v h
theorem preSum_list (ns : List Int) : ∀ n, n ≤ ns.length → preSum (fun i => ns.getD i 0) n = (ns.take n).sum
  | 0, _ => by simp [preSum]
  | n + 1, h => by
    have ih := preSum_list ns n (by omega)
    show preSum (fun i => ns.getD i 0) n + ns.getD n 0 = _
    have hn : n < ns.length := by omega
    have e : ns.take (n + 1) = ns.take n ++ [ns[n]] := by rw [List.take_add_one, List.getElem?_eq_getElem hn]; rfl
    have e2 : ns.getD n 0 = ns[n] := by rw [List.getD_eq_getElem?_getD, List.getElem?_eq_getElem hn]; rfl
    rw [ih, e, e2, List.sum_append]
    simp only [List.sum_cons, List.sum_nil, Int.add_zero]
theorem call_sumV (hc : X.calm = true) : CallR X (.builtin "sum") (fun xs H Q => ∃ (v a : Addr) (kvs : List (Key × V)) (ns : List Int), xs = [.ref v] ∧ H v = some (ValsO a v) ∧ H a = some (.dK kvs) ∧ kvs.map (·.2) = ns.map V.int ∧ Q (.int ns.sum) H) := by
  intro pins s σ H xs us Q I r h
  obtain ⟨v, a, kvs, ns, rfl, hv, ha, en, q⟩ := h
  obtain ⟨u, rfl, ru⟩ := vals1 r
  cases (show u = Value.ref v from ru)
  obtain ⟨z, hd, vs, rel, o, es, ep, g1, g2, g3, g4, g5, g6⟩ := dk_of I.hok ha
  obtain ⟨vw, _, _⟩ := (show ObjOk X.prog X.w H s.heap v (ValsO a v) from I.hok v _ hv)
  have da : Heap.DictAt (mixKind X.prog X.w) s.heap a vs ep := ⟨o, es, g1, g2, g3, g4, g5, g6⟩
  have hlt : a < s.heap.objs.size := Heap.lt_size g1
  have ln : vs.length = ns.length := by
    have := congrArg List.length en
    rw [List.length_map, List.length_map] at this
    rw [← KV.length rel]; exact this
  refine call_sum_walkG (wpAny_pyIter_values vw da ?_)
  refine ⟨_, _, _, _, _, _, fun i => ns.getD i 0, rfl, Walks.dictValues (knd := mixKind X.prog X.w) (A := X.A.in1) (I.ok.hd hc) _ a (Nat.ne_of_lt hlt) vs ep, ⟨?_, ?_⟩, ?_, ?_, fun h' tk t' k => ?_⟩
  · exact ⟨_, Heap.get?_push_size _ rfl, rfl, rfl⟩
  · exact ⟨o, es, Heap.get?_push_of_some _ g1, g2, g3, g4, g5, g6⟩
  · intro b hb
    have sz : (s.heap.push { cls := Value.type "dict_valueiterator", data := Data.fields #[Value.ref a, Value.int 0 0, Value.int (↑vs.length) 0, Value.int (↑ep) 0] }).objs.size = s.heap.objs.size + 1 := by simp [Heap.push]
    rcases List.mem_cons.mp hb with e | e
    · rw [e, sz]; exact Nat.lt_succ_self _
    · rw [List.mem_singleton.mp e, sz]; exact Nat.lt_succ_of_lt hlt
  · rintro i v' ⟨k, hk⟩
    exact kv_ints rel en i k v' hk
  · rw [preSum_list ns _ (by omega), ln, List.take_length]
    refine ⟨.int _, H, I.kept (fun b o e => k b o ?_ (Heap.get?_push_of_some _ e)), ⟨t', rfl⟩, q⟩
    intro hb
    rw [List.mem_singleton.mp hb] at e
    exact absurd (Heap.lt_size e) (Nat.lt_irrefl _)
end
def Itd (n : Nat) : It := ⟨fun i _ => i < n, fun i H x H' => H' = H ∧ x = .int ((n : Int) - 1 - i), fun i _ => n ≤ i⟩
theorem turn_rev {P : Program} {w : World} {K : PySem.W.Frag} {tg : Expr} (it : Addr) (n : Nat) : Turn P w K tg (Itd n) [it] it (fun i h => IsRangeIter h it (((n : Int) - 1) + (i : Nat) * (-1)) ((n : Int) - (i : Nat)) (-1)) where
  mem := by simp
  obj := fun i h st b hb => by
    have e : b = it := by simpa using hb
    subst e
    exact ⟨_, st, fun v z => by
      have z' : Data.fields _ = Data.cell v := z
      cases z'⟩
  keep := fun i h h' st k => k it (by simp) _ st
  item := by
    intro X hP hw hK hc i pins s σ H E I hf st hg
    subst hP hw hK
    obtain ⟨f0, f1, f2, f3, f4, f5⟩ := hf it (by simp)
    have W := Walks.range (prog := X.prog) (w := X.w) (I.ok.hd hc) it ((n : Int) - 1) (-1) n
    refine W.item i s _ _ hg st fun v h' tk hv st' kk => ?_
    obtain ⟨t, rfl⟩ := hv
    have I1 : Inv X pins σ H { s with heap := h', toks := tk } := I.turned (fun b o hb e => kk b o (by simpa using hb) e) f0 f1 f3 f4 f5
    refine ⟨_, rfl, go_of (s := { s with heap := h', toks := tk }) (n := "range_iterator") st' rfl rfl (by decide) ⟨.int ((n : Int) - 1 - i), H, I1, ⟨t, ?_⟩, ⟨rfl, rfl⟩, st', fun b hb => (hf b hb).1⟩⟩
    rw [show (n : Int) - 1 + (i : Nat) * (-1) = (n : Int) - 1 - i by omega]
  done := by
    intro X hP hw hK hc i pins s σ H E I hf st hg
    subst hP hw hK
    obtain ⟨f0, f1, f2, f3, f4, f5⟩ := hf it (by simp)
    exact wpAny_pyNext_range_end (I.ok.hd hc) st (by have : n ≤ i := hg; omega) fun h' eb => ⟨rfl, I.turned (t' := s.toks) (fun b o hb e => eb b o hb e) f0 f1 f3 f4 f5⟩
  self := fun _ _ _ _ _ st h => wpAny_pyIter_rangeiter st h
theorem sub_ri_reversed : isSubtype (.type "range_iterator") (.type "reversed") = pure false := by kernel_rfl
section
variable {prog : Program} {w : World} {A : Around} {E : Value → Shared → Prop} {s : Shared}
theorem sz_rev (n : Nat) : Builtin.Range.rangeSize 0 n 1 = n := by
  rw [rangeSize_one]
  split <;> omega
theorem sm_rev (n : Nat) (hn : (n : Int) < 2 ^ 62) : (Builtin.Range.rangeFitsLong 0 && Builtin.Range.rangeFitsLong n && Builtin.Range.rangeFitsLong 1 && Builtin.Range.rangeFitsLong (-1) && Builtin.Range.rangeFitsLong (0 - 1) && Builtin.Range.rangeFitsLong n) = true := by
  simp only [Builtin.Range.rangeFitsLong, Bool.and_eq_true, decide_eq_true_eq]
  omega
theorem top_rev (n : Nat) : (0 : Int) + ((n : Int) - 1) * 1 = (n : Int) - 1 := by omega
theorem code_reversed_range {r : Addr} {n : Nat} {t u v : Tok} {Q₁ : Value → Shared → Prop} (hr : s.heap.get? r = some { cls := .type "range", data := .fields #[.int 0 t, .int n u, .int 1 v] }) (hn : (n : Int) < 2 ^ 62)
    (h : Q₁ (.ref s.heap.objs.size) { s with heap := s.heap.push { cls := .type "range_iterator", data := .fields #[rawInt ((n : Int) - 1), rawInt n, rawInt (-1)] } }) :
    codeAny (model prog w) A (.call (.builtin "reversed.__new__") { pos := [.type "reversed", .ref r] }) (wants Q₁ E) s := by
  refine codeAny_call_builtin PySem.F.plain_reversed_new PySem.F.entry_reversed_new ?_
  rw [PySem.F.newCall_reversed_1]
  refine wpAny_pure ?_
  unfold Builtin.«reversed.__new__»
  rw [newClass_reversed, pure_bind]
  dsimp only
  obtain ⟨hh, g, d, tk, os⟩ := s
  repeat wp_step
  refine wpAny_of_eq PySem.F.slot_range_reversed.lookup ?_
  dsimp only
  have bs : bindSpecial (.builtin "range.__reversed__") (.ref r) = pure (.builtin "range.__reversed__", [.ref r]) := by
    unfold bindSpecial
    rw [PySem.F.type_range_reversed, pure_bind]
    rfl
  refine wpAny_bind (wpAny_of_eq bs ?_)
  dsimp only
  rw [if_neg (by decide)]
  refine wpAny_bind (wpAny_rule (wpAny_bind (wpAny_runValue ?_)))
  refine codeAny_call_builtin (by decide +kernel) PySem.F.entry_range_reversed ?_
  have hk : builtinKind "range.__reversed__" = some .method := by decide +kernel
  have hs : splitId "range.__reversed__" = some ("range", "__reversed__") := by decide +kernel
  have ha := PySem.F.args_range_reversed_1 (.ref r)
  have hs0 : isSubtype (.type "range") (.type "range") = pure true := by kernel_rfl
  simp only [checkBuiltinCall, hk, hs]
  have ins : ∀ {A : Around} {E : Value → Shared → Prop} {Q : Bool → Shared → Prop}, Q true ⟨hh, g, d, tk, os⟩ → wpAny (model prog w) A (isInstance (.ref r) (.type "range")) Q E ⟨hh, g, d, tk, os⟩ := fun {A E Q} q => by
    unfold isInstance
    exact wpAny_bind (wpAny_typeOf_ref hr (wpAny_of_eq hs0 q))
  refine wpAny_bind (ins ?_)
  simp only [Bool.not_true, Bool.false_eq_true, if_false]
  refine wpAny_of_eq ha ?_
  clear ha hk hs
  unfold Builtin.«range.__reversed__»
  have so : selfOnly "range.__reversed__" { pos := [Value.ref r] } = pure (.ref r) := rfl
  have a0 : ∀ (i : Int) (t : Tok), asInt? (.int i t) = pure (some i) := fun _ _ => rfl
  refine wpAny_bind (wpAny_of_eq so ?_)
  refine wpAny_bind ?_
  unfold Builtin.Range.rangeFields
  refine wpAny_bind (wpAny_field hr rfl (i := 0) rfl (wpAny_bind (wpAny_of_eq (a0 _ _) ?_)))
  refine wpAny_bind (wpAny_field hr rfl (i := 1) rfl (wpAny_bind (wpAny_of_eq (a0 _ _) ?_)))
  refine wpAny_bind (wpAny_field (x := .int 1 v) hr rfl (i := 2) rfl ?_)
  refine wpAny_bind ?_
  rw [a0 1 v]
  refine wpAny_pure ?_
  refine wpAny_pure ?_
  dsimp only
  rw [sz_rev, sm_rev n hn]
  simp only [Bool.not_true, Bool.false_eq_true, if_false, if_true]
  rw [top_rev]
  unfold newFields
  refine wpAny_bind (wpAny_newObj_type ?_)
  refine wpAny_pure ?_
  exact wpAny_pure h
end
section
variable {X : Cx} {tg : Expr}
def tRange (ta : TA) : TE := fun σ H Q => ta σ H fun vs H1 => ∃ n : Nat, vs = [.int n] ∧ ∀ r, H1 r = none → Q (.ref r) (upd H1 r (.rng 0 n))
theorem pe_range1 {a : Expr} {ta : TA} {p pos : Pos} (hg : Gl X "range") (hm : X.mg "range" = none) (ha : PA X [a] ta) (hs : starEach [a] X.env = [(false, eval a X.env)] := by rfl) : PE X (.Call (.Name "range" p) [a] [] pos) (tRange ta) := by
  intro pins s σ H Q I h
  refine wpAny_Call_Name_kw (ld_blt I hg hm boot_range ?_)
  refine PyProof.Rows.callWith_type1 (thn (ha pos pins s σ H _ I h) fun us s1 ⟨vs, H1, I1, r1, n, e, q⟩ => ?_) hs rfl
  subst e
  obtain ⟨u, rfl, t, rfl⟩ := vals1 r1
  refine call_range_1 ?_
  have new : ObjOk X.prog X.w (upd H1 s1.heap.objs.size (.rng 0 n)) (s1.heap.push { cls := .type "range", data := .fields #[.int 0 s1.toks, .int n t, .int 1 (s1.toks + 1)] }) s1.heap.objs.size (.rng 0 n) := ⟨_, _, _, Heap.get?_push_size _ rfl⟩
  exact ⟨.ref _, _, I1.laid (t' := s1.toks + 1 + 1) (fun b o e => Heap.get?_push_of_some _ e) (Nat.le_refl _) new, rfl, q _ I1.fresh⟩
def iRev (ta : TA) : TI := fun σ H R => ta σ H fun vs H1 => ∃ (r : Addr) (n : Nat), vs = [.ref r] ∧ H1 r = some (.rng 0 n) ∧ (n : Int) < 2 ^ 62 ∧ R (Itd n) H1
theorem pi_rev {a : Expr} {ta : TA} {p pos : Pos} (hg : Gl X "reversed") (hm : X.mg "reversed" = none) (ha : PA X [a] ta) (hs : starEach [a] X.env = [(false, eval a X.env)] := by rfl) : PI X tg (.Call (.Name "reversed" p) [a] [] pos) (iRev ta) := by
  intro pins s σ H R I h
  refine Call_ (ld_blt I hg hm boot_reversed (PyProof.Rows.callWith_type1 (thn (ha pos pins s σ H _ I h) fun us s1 ⟨vs, H1, I1, r1, r, n, e, hr, hn, q⟩ => ?_) hs rfl))
  subst e
  obtain ⟨u, rfl, ru⟩ := vals1 r1
  cases (show u = Value.ref r from ru)
  obtain ⟨t, u, v, hget⟩ := (show ObjOk X.prog X.w H1 s1.heap r (.rng 0 n) from I1.hok r _ hr)
  refine callType_other (U := "range_iterator") (newId := "reversed.__new__") (Q₁ := fun obj s2 => obj = .ref s1.heap.objs.size ∧ s2 = { s1 with heap := s1.heap.push { cls := .type "range_iterator", data := .fields #[rawInt ((n : Int) - 1), rawInt n, rawInt (-1)] } })
    (by decide) PySem.F.create_reversed ⟨_, _, PySem.F.mro_reversed⟩ PySem.F.made_reversed sub_ri_reversed (PySem.F.typeCall_reversed_1 _) (code_reversed_range hget hn ⟨rfl, rfl⟩) ?_
  rintro obj s2 ⟨rfl, rfl⟩
  have st : IsRangeIter (s1.heap.push { cls := .type "range_iterator", data := .fields #[rawInt ((n : Int) - 1), rawInt n, rawInt (-1)] }) s1.heap.objs.size (((n : Int) - 1) + ((0 : Nat) : Int) * (-1)) ((n : Int) - ((0 : Nat) : Int)) (-1) := by
    have e1 : ((n : Int) - 1) + ((0 : Nat) : Int) * (-1) = (n : Int) - 1 := by simp
    have e2 : (n : Int) - ((0 : Nat) : Int) = n := by simp
    rw [e1, e2]
    exact Heap.get?_push_size _ rfl
  refine ⟨⟨_, Heap.get?_push_size _ rfl, rfl⟩, ?_⟩
  refine wpAny_pyIter_rangeiter st ?_
  have I2 : Inv X pins σ H1 { s1 with heap := s1.heap.push { cls := .type "range_iterator", data := .fields #[rawInt ((n : Int) - 1), rawInt n, rawInt (-1)] }, toks := s1.toks } := I1.kept fun b o e => Heap.get?_push_of_some _ e
  refine ⟨_, [s1.heap.objs.size], _, _, H1, rfl, I2, turn_rev _ n, st, fun b hb => ?_, q⟩
  have e : b = s1.heap.objs.size := by simpa using hb
  subst e
  exact I1.fpOk (Nat.le_refl _) (I1.hok.fresh (Nat.le_refl _))
end
end L2
namespace L2
open PySem PySem.Spec PyProof.Rows
section
variable {X : Cx} {e tg iter : Expr} {ifs : List Expr} {scope esc : Scope} {pos : Pos} {N os : List Str} {fi : List Nat} {wi : TI} {g : TG} {tt : TT} {tb : Addr → TB} {body : Addr → Env → Sem Fi → Sem Fi} {o0 : Addr → HO} {mk : Sem Value} {p : Pos}
theorem ps_compG {gs : List Comprehension} {i : Nat} {y : Str} {py spos p' : Pos} (hev : ∀ use : Option (Value → Sem Unit), True) (hex : exec (.Assign [.Name y py] e spos) X.env = (do standAt spos; let _ ← (do let _ ← comprehension e scope X.env p' mk false (eval iter X.env) (some (assign (.Name y py) X.env))); pure .next)) (hcl : clausesOf e = ⟨tg, iter, ifs, 0⟩ :: gs) (hc : X.calm = true) (hN : X.N = N) (he : X.env.scope = esc) (B : BlkOk esc scope N fi)
    (hL : LoopRule X.prog X.w X.A e 0) (hS : StartRule X.prog X.w X.A e 0) (hT : ∀ (it D : Addr) (env : Env), compTurn e 0 (.ref it) (.ref D) env = turnOf tg p ifs (.ref it) env (body D env) (again (.compLoop e 0 (.ref it) (.ref D) env)))
    (hmk : NewRule X mk o0) (hnd : X.N.Nodup) (hy : X.N[i]? = some y) (hl : Loc X.env.scope y) (hi : PI X tg iter wi)
    (hg : ∀ s H fp, PG (blk X scope (nB N os fi) s H fp) tg g) (ht : ∀ s H fp, PTs (blk X scope (nB N os fi) s H fp) ifs tt) (hb : ∀ D s H fp, PB (blk X scope (nB N os fi) s H fp) (body D (blk X scope (nB N os fi) s H fp).env) (tb D))
    (hfn : X.fn y = true ∨ X.env.scope.names.lookup y = some .local := by first | exact .inl rfl | exact .inr rfl | assumption)
    (hs : ∀ x, foldedSetIterable iter X.env x = pure x := by intro _; rfl) : PS X (.Assign [.Name y py] e spos) (fun D σ H => tCG o0 os fi wi g tt tb σ H fun v H' => D.nx (σ.set i (some v)) H') := by
  intro pins s σ H D I h
  have cells := blk_cells (by rw [hN]; exact B) he I
  rw [hex]
  refine wpAny_bind (wpAny_standAt (wpAny_bind ?_))
  refine wpAny_bind (thn (wpAny_comprehension_free (use := some (assign (.Name y py) X.env)) (Q := fun _ s' => SP X pins D .next s') hcl hs (closure_eq cells) B.kind B.loc (thn (hi pins s σ H _ I h) fun v s1 h1 => thn h1 fun itv s2 h2 => ?_)) fun _ _ z => wpAny_pure (wpAny_pure z))
  obtain ⟨it, fp, tn, J, H2, rfl, I2, T, st2, f2, q2⟩ := h2
  refine comp_coreG (Q := fun v H' => D.nx (σ.set i (some v)) H') (RR := fun acc C => compPost (model X.prog X.w) X.A X.xe (some (assign (.Name y py) X.env)) (fun _ s' => SP X pins D .next s') acc C) hc hN he B hL hS hT hmk hg ht hb I2 T st2 f2 q2 ?_
  intro Dl s3 H3 s' σ' H' I3 f3 I' q
  have J' : Inv X pins σ H' s' := blk_out I3 f3 I' (Heap.SameBut.refl ..)
  show wpAny _ _ (assign (.Name y py) X.env (.ref Dl)) _ _ s'
  refine wpAny_assign_Name (store_ok2 (v := .ref Dl) J' hnd hy hl rfl (fun s'' J'' sb => ?_) hfn)
  obtain ⟨a, sb, ha⟩ := sb
  have cL : s3.heap.objs.size ≠ X.env.locals := Nat.ne_of_gt I3.lt
  have cC : ∀ x c, X.env.cells.lookup x = some c → c ≠ s3.heap.objs.size := fun x c e => by
    obtain ⟨v, ic⟩ := I3.cell x c e
    exact Nat.ne_of_lt ic.lt
  have ca : s3.heap.objs.size ≠ a := by
    rcases ha with z | z
    · rw [z]; exact cL
    · exact (cC _ _ z).symm
  obtain ⟨m, hn, _⟩ := I'.loc
  have hn'' : s''.heap.Ns s3.heap.objs.size m := by
    obtain ⟨o, es, ep, ho, r⟩ := hn
    exact ⟨o, es, ep, (sb.2 _ ca).trans ho, r⟩
  refine ⟨m, hn'', fun h' sb' => ⟨σ.set i (some (.ref Dl)), H', ?_, q⟩⟩
  exact J''.turned (t' := s''.toks) (it := s3.heap.objs.size) (fun b o hb e => (sb'.2 b hb).trans e) I'.free cL (.inr I3.sz) cC fun p hp => Nat.ne_of_lt (Heap.lt_size (I3.pin p hp).1)
end
section
variable {X : Cx} {elt kx vx tg iter tg2 iter2 : Expr} {ifs ifs2 : List Expr} {scope esc : Scope} {pos : Pos} {N os : List Str} {fi : List Nat} {wi wi2 : TI} {g g2 : TG} {tt tt2 : TT} {te tk tv : TE}
theorem pe_compL (hc : X.calm = true) (hN : X.N = N) (he : X.env.scope = esc) (B : BlkOk esc scope N fi) (hi : PI X tg iter wi)
    (hg : ∀ s H fp, PG (blk X scope (nB N os fi) s H fp) tg g) (ht : ∀ s H fp, PTs (blk X scope (nB N os fi) s H fp) ifs tt)
    (hel : ∀ s H fp, PE (blk X scope (nB N os fi) s H fp) elt te)
    (hs : ∀ x, foldedSetIterable iter X.env x = pure x := by intro _; rfl) :
    PE X (.ListComp elt [⟨tg, iter, ifs, 0⟩] scope pos) (tCG (fun _ => .lst []) os fi wi g tt fun D => tEmL D te) :=
  pe_compG (gs := []) (body := fun D env => listBody elt (.ref D) env) rfl rfl hc hN he B loop_list (start_list rfl rfl) (fun _ _ _ => rfl) new_list hi hg ht (fun D s H fp => pb_list rfl (hel s H fp)) hs
theorem ps_compL {i : Nat} {y : Str} {py spos : Pos} (hc : X.calm = true) (hN : X.N = N) (he : X.env.scope = esc) (B : BlkOk esc scope N fi) (hnd : X.N.Nodup) (hy : X.N[i]? = some y) (hl : Loc X.env.scope y) (hi : PI X tg iter wi)
    (hg : ∀ s H fp, PG (blk X scope (nB N os fi) s H fp) tg g) (ht : ∀ s H fp, PTs (blk X scope (nB N os fi) s H fp) ifs tt) (hel : ∀ s H fp, PE (blk X scope (nB N os fi) s H fp) elt te)
    (hsw : swapsWith (.ListComp elt [⟨tg, iter, ifs, 0⟩] scope pos) (some (.Name y py)) spos.line X.env = pure true := by rfl)
    (hfn : X.fn y = true ∨ X.env.scope.names.lookup y = some .local := by first | exact .inl rfl | exact .inr rfl | assumption)
    (hs : ∀ x, foldedSetIterable iter X.env x = pure x := by intro _; rfl) : PS X (.Assign [.Name y py] (.ListComp elt [⟨tg, iter, ifs, 0⟩] scope pos) spos) (fun D σ H => tCG (fun _ => .lst []) os fi wi g tt (fun D => tEmL D te) σ H fun v H' => D.nx (σ.set i (some v)) H') :=
  ps_compG (gs := []) (body := fun D env => listBody elt (.ref D) env) (fun _ => trivial) (exec_Assign_Name_used _ _ _ _ hsw) rfl hc hN he B loop_list (start_list rfl rfl) (fun _ _ _ => rfl) new_list hnd hy hl hi hg ht (fun D s H fp => pb_list rfl (hel s H fp)) hfn hs
theorem ps_dictcomp {i : Nat} {y : Str} {py spos : Pos} (hc : X.calm = true) (hN : X.N = N) (he : X.env.scope = esc) (B : BlkOk esc scope N fi) (hnd : X.N.Nodup) (hy : X.N[i]? = some y) (hl : Loc X.env.scope y) (hi : PI X tg iter wi)
    (hg : ∀ s H fp, PG (blk X scope (nB N os fi) s H fp) tg g) (ht : ∀ s H fp, PTs (blk X scope (nB N os fi) s H fp) ifs tt)
    (hk : ∀ s H fp, PE (blk X scope (nB N os fi) s H fp) kx tk) (hv : ∀ s H fp, PE (blk X scope (nB N os fi) s H fp) vx tv)
    (hsw : swapsWith (.DictComp kx vx [⟨tg, iter, ifs, 0⟩] scope pos) (some (.Name y py)) spos.line X.env = pure true := by rfl)
    (hfn : X.fn y = true ∨ X.env.scope.names.lookup y = some .local := by first | exact .inl rfl | exact .inr rfl | assumption)
    (hs : ∀ x, foldedSetIterable iter X.env x = pure x := by intro _; rfl) : PS X (.Assign [.Name y py] (.DictComp kx vx [⟨tg, iter, ifs, 0⟩] scope pos) spos) (fun D σ H => tCG (fun _ => .dK []) os fi wi g tt (fun D => tEmD D tk tv) σ H fun v H' => D.nx (σ.set i (some v)) H') :=
  ps_compG (gs := []) (body := fun D env => dictBody kx vx D env) (fun _ => trivial) (exec_Assign_Name_used _ _ _ _ hsw) rfl hc hN he B loop_dict (start_dict rfl rfl) (fun _ _ _ => rfl) new_dict hnd hy hl hi hg ht (fun D s H fp => pb_dict rfl (hk s H fp) (hv s H fp)) hfn hs
theorem ps_comp2 {i : Nat} {y : Str} {py spos : Pos} (hc : X.calm = true) (hN : X.N = N) (he : X.env.scope = esc) (B : BlkOk esc scope N fi) (hnd : X.N.Nodup) (hy : X.N[i]? = some y) (hl : Loc X.env.scope y) (hi : PI X tg iter wi)
    (hg : ∀ s H fp, PG (blk X scope (nB N os fi) s H fp) tg g) (ht : ∀ s H fp, PTs (blk X scope (nB N os fi) s H fp) ifs tt)
    (hi2 : ∀ s H fp, PI (blk X scope (nB N os fi) s H fp) tg2 iter2 wi2) (hg2 : ∀ s H fp, PG (blk X scope (nB N os fi) s H fp) tg2 g2) (ht2 : ∀ s H fp, PTs (blk X scope (nB N os fi) s H fp) ifs2 tt2)
    (hel : ∀ s H fp, PE (blk X scope (nB N os fi) s H fp) elt te)
    (hsw : swapsWith (.ListComp elt [⟨tg, iter, ifs, 0⟩, ⟨tg2, iter2, ifs2, 0⟩] scope pos) (some (.Name y py)) spos.line X.env = pure true := by rfl)
    (hfn : X.fn y = true ∨ X.env.scope.names.lookup y = some .local := by first | exact .inl rfl | exact .inr rfl | assumption)
    (hs : ∀ x, foldedSetIterable iter X.env x = pure x := by intro _; rfl) (hs2 : ∀ env x, foldedSetIterable iter2 env x = pure x := by intro _ _; rfl) :
    PS X (.Assign [.Name y py] (.ListComp elt [⟨tg, iter, ifs, 0⟩, ⟨tg2, iter2, ifs2, 0⟩] scope pos) spos) (fun D σ H => tCG (fun _ => .lst []) os fi wi g tt (fun D => tIn wi2 g2 tt2 (tEmL D te)) σ H fun v H' => D.nx (σ.set i (some v)) H') := by
  refine ps_compG (gs := [⟨tg2, iter2, ifs2, 0⟩]) (body := fun D env => inBody (.ListComp elt [⟨tg, iter, ifs, 0⟩, ⟨tg2, iter2, ifs2, 0⟩] scope pos) 1 iter2 (.ref D) env) (fun _ => trivial) (exec_Assign_Name_used _ _ _ _ hsw) rfl hc hN he B loop_list (start_list rfl rfl) (fun _ _ _ => rfl) new_list hnd hy hl hi hg ht (fun D s H fp => ?_) hfn hs
  exact pb_in (body := listBody elt (.ref D) (blk X scope (nB N os fi) s H fp).env) loop_list (start_list rfl rfl) hc rfl (fun _ => rfl) (hi2 s H fp) (hg2 s H fp) (ht2 s H fp) (pb_list rfl (hel s H fp)) (hs2 _)
end
theorem lr_list {K : PySem.W.Frag} {S : Addr} {xs : List V} {g : TG} {tt : TT} {tb : TB} {σ : St} {H : Hp} {N : St → Hp → Prop} (Pv : Nat → St → Hp → Prop) (h0 : Pv 0 σ H) (hS : ∀ i σ H, Pv i σ H → SqL K H S xs)
    (step : ∀ (i : Nat) (x : V) (σ : St) (H : Hp) (C : St → Hp → Prop), xs[i]? = some x → Pv i σ H → (∀ σ' H', Pv (i + 1) σ' H' → C σ' H') → g x σ H fun σ4 H4 => tt σ4 H4 fun ok H5 => if ok = true then tb σ4 H5 C else C σ4 H5)
    (fin : ∀ σ H, Pv xs.length σ H → N σ H) : LR (Itl K S) g tt tb σ H N := by
  refine ⟨fun i m σ H => m = xs.length - i ∧ i ≤ xs.length ∧ Pv i σ H, ⟨_, rfl, Nat.zero_le _, h0⟩, ?_⟩
  rintro i m σ2 H2 ⟨rfl, hi, p⟩
  have sq := hS i σ2 H2 p
  by_cases hlt : i < xs.length
  · refine .inr ⟨⟨xs, _, sq, List.getElem?_eq_getElem hlt⟩, ?_⟩
    rintro x H3 ⟨rfl, hx⟩
    exact step i x σ2 H3 _ (hx _ sq) p fun σ' H' p' => ⟨xs.length - (i + 1), by omega, rfl, hlt, p'⟩
  · have e : i = xs.length := by omega
    subst e
    exact .inl ⟨⟨xs, sq, Nat.le_refl _⟩, fin σ2 H2 p⟩
end L2
namespace L2
open PySem PySem.Spec PyProof.Rows
end L2
namespace L2
open PySem PySem.Spec PyProof.Rows
section
variable {prog : Program} {w : World} {A : Around} {E : Value → Shared → Prop} {s : Shared} {z TI TO i1 i2 : Addr} {n1 n2 k : Nat} {P1 P2 : Nat → Value → Prop} {St1 St2 : Nat → Heap → Prop} {fp1 fp2 : List Addr} {a b : Value}
end
section
variable {prog : Program} {w : World} {A : Around} {E : Value → Shared → Prop} {s : Shared} {z TI TO i1 i2 : Addr} {n1 n2 k : Nat} {P1 P2 : Nat → Value → Prop} {St1 St2 : Nat → Heap → Prop} {fp1 fp2 : List Addr} {a b : Value}
end
section
variable {prog : Program} {w : World} {A : Around} {E : Value → Shared → Prop} {s : Shared}
end
end L2
namespace L2
open PySem PySem.Spec PyProof.Rows
section
variable {prog : Program} {w : World} {A : Around} {E : Value → Shared → Prop} {s : Shared}
end
section
variable {X : Cx} {es : List Expr} {tk : Nat} {tpos : Pos}
end
theorem kV_rel {k : Key} {u : Value} (h : keyIs k u = true) : RelV (kV k) u := by
  rcases keyIs_shape h with ⟨i, t, rfl, rfl⟩ | ⟨x, t, rfl, rfl⟩
  · exact ⟨t, rfl⟩
  · exact ⟨t, rfl⟩
theorem kv_get : ∀ {kvs : List (Key × V)} {vs : List (Key × Value)} (rel : KV kvs vs) {i : Nat} (hi : i < kvs.length), ∃ w', vs[i]? = some (kvs[i].1, w') ∧ RelV kvs[i].2 w'
  | p :: kvs, q :: vs, .cons r rs, 0, _ => ⟨q.2, by
      obtain ⟨e, _⟩ := r
      show some q = some (p.1, q.2)
      rw [e], r.2⟩
  | p :: kvs, q :: vs, .cons r rs, i + 1, hi => kv_get rs (Nat.lt_of_succ_lt_succ hi)
section
variable {X : Cx} {tg : Expr}
end
end L2
namespace L2
open PySem PySem.Spec PyProof.Rows
section
variable {X : Cx}
end
end L2
namespace L2
open PySem PySem.Spec PyProof.Rows
section
variable {X : Cx}
end
end L2
namespace L2
open PySem PySem.Spec PyProof.Rows
theorem lr_range {lo : Int} {n : Nat} {g : TG} {tt : TT} {tb : TB} {σ : St} {H : Hp} {N : St → Hp → Prop} (Pv : Nat → St → Hp → Prop) (h0 : Pv 0 σ H)
    (step : ∀ (i : Nat) (σ : St) (H : Hp) (C : St → Hp → Prop), i < n → Pv i σ H → (∀ σ' H', Pv (i + 1) σ' H' → C σ' H') → g (.int (lo + i)) σ H fun σ4 H4 => tt σ4 H4 fun ok H5 => if ok = true then tb σ4 H5 C else C σ4 H5)
    (fin : ∀ σ H, Pv n σ H → N σ H) : LR (Itr lo n) g tt tb σ H N := by
  refine ⟨fun i m σ H => m = n - i ∧ i ≤ n ∧ Pv i σ H, ⟨_, rfl, Nat.zero_le _, h0⟩, ?_⟩
  rintro i m σ2 H2 ⟨rfl, hi, p⟩
  by_cases hlt : i < n
  · refine .inr ⟨hlt, ?_⟩
    rintro x H3 ⟨rfl, rfl⟩
    exact step i σ2 H3 _ hlt p fun σ' H' p' => ⟨n - (i + 1), by omega, rfl, hlt, p'⟩
  · have e : i = n := by omega
    subst e
    exact .inl ⟨Nat.le_refl _, fin _ _ p⟩
end L2
namespace L2
open PySem PySem.Spec PyProof.Rows
end L2
namespace L2
open PySem PySem.Spec PyProof.Rows
end L2
namespace L2
open PySem PySem.Spec PyProof.Rows
end L2
namespace L2
open PySem PySem.Spec PyProof.Rows
end L2
namespace L2
open PySem
end L2
namespace L2
open PySem PySem.Spec PyProof.Rows
section
variable {pr : Program} {wd : World} {Ar : Around} {Rs : Result → Shared → Prop} {J : Addr} {fo wo : List Addr} {Ge : Array GenState → Array GenState → Prop} {m : Nat} {Pv : Nat → Value → Prop} {Sa : Nat → Shared → Prop}
end
section
variable {pr : Program} {wd : World} {Ar : Around} {Ex : Value → Shared → Prop} {s : Shared}
end
section
variable {X : Cx}
end
end L2
namespace L2
open PySem PySem.Spec PyProof.Rows PySem.W
theorem Inv.many {X : Cx} {pins : List (Addr × Obj)} {σ : St} {H H' : Hp} {s : Shared} {h' : Heap} {t' : Nat} (I : Inv X pins σ H s) (k : ∀ b u, s.heap.get? b = some u → h'.get? b = some u) (old : ∀ b, b < s.heap.objs.size → H' b = H b)
    (new : ∀ b o, s.heap.objs.size ≤ b → H' b = some o → ObjOk X.prog X.w H' h' b o) : Inv X pins σ H' { s with heap := h', toks := t' } := by
  have up : ∀ b o, H b = some o → H' b = some o := fun b o e => by rw [old b (I.hok.lt e)]; exact e
  refine I.un ⟨fun b u q _ _ _ => k b u q, fun b u q _ _ _ => ⟨u.slots, k b u q⟩, fun b u q n _ => by rw [old b (Heap.lt_size q)]; exact n, fun b u q _ => ⟨u, k b u q⟩, fun b xs q => up b _ q, fun b u xs q => up b _ q, fun b ps q => ⟨#[], by rw [up b _ q]; simp⟩⟩ ?_
  intro b o e
  rcases Nat.lt_or_ge b s.heap.objs.size with z | z
  · rw [old b z] at e
    exact (I.hok b o e).stay (fun c v _ q => k c v q) (fun c q => up c _ q) fun c xs q => up c _ q
  · exact new b o z e
theorem vals_refs : ∀ as : List Addr, Vals (as.map V.ref) (as.map Value.ref)
  | [] => .nil
  | a :: as => .cons rfl (vals_refs as)
def layPairs (H : Hp) : List Addr → List (Key × V) → Hp
  | t :: ts, (k, v) :: kvs => upd (layPairs H ts kvs) t (.tup [kV k, v])
  | _, _ => H
theorem layPairs_not {H : Hp} : ∀ (ts : List Addr) (kvs : List (Key × V)) (b : Addr), b ∉ ts → layPairs H ts kvs b = H b
  | [], _, b, _ => rfl
  | t :: ts, [], b, _ => rfl
  | t :: ts, (k, v) :: kvs, b, hb => by
    show upd (layPairs H ts kvs) t _ b = _
    rw [upd_ne (fun z => hb (by rw [z]; exact List.mem_cons_self)), layPairs_not ts kvs b fun z => hb (List.mem_cons_of_mem _ z)]
theorem layPairs_at {H : Hp} : ∀ (ts : List Addr) (kvs : List (Key × V)), ts.Pairwise (· < ·) → ∀ (j : Nat) (t : Addr) (k : Key) (v : V), ts[j]? = some t → kvs[j]? = some (k, v) → layPairs H ts kvs t = some (.tup [kV k, v])
  | [], _, _, j, t, k, v, e, _ => by simp at e
  | t0 :: ts, [], _, j, t, k, v, _, e => by simp at e
  | t0 :: ts, (k0, v0) :: kvs, p, j, t, k, v, e1, e2 => by
    show upd (layPairs H ts kvs) t0 _ t = _
    cases j with
    | zero =>
      simp at e1 e2
      obtain ⟨rfl, rfl⟩ := e2
      subst e1
      rw [upd_same]
    | succ j =>
      have e1 : ts[j]? = some t := by simpa using e1
      have e2 : kvs[j]? = some (k, v) := by simpa using e2
      have lt : t0 < t := (List.pairwise_cons.mp p).1 t (List.mem_of_getElem? e1)
      rw [upd_ne (Nat.ne_of_gt lt)]
      exact layPairs_at ts kvs (List.pairwise_cons.mp p).2 j t k v e1 e2
def tLItems (to : TE) : TE := fun σ H Q => to σ H fun x H1 => ∃ a kvs, x = .ref a ∧ H1 a = some (.dK kvs) ∧ ∀ (l : Addr) (ts : List Addr) (H' : Hp), H1 l = none → (∀ b o, H1 b = some o → H' b = some o) → H' l = some (.lst (ts.map V.ref)) → ts.length = kvs.length →
  (∀ (j : Nat) (t : Addr) (k : Key) (v : V), ts[j]? = some t → kvs[j]? = some (k, v) → H' t = some (.tup [kV k, v]) ∧ H1 t = none) → Q (.ref l) H'
section
variable {X : Cx} {o : Expr} {to : TE} {p pos apos cpos : Pos}
theorem pe_litems (hc : X.calm = true) (hg : Gl X "list") (hm : X.mg "list" = none) (ho : PE X o to)
    (hbase : attributeBase o "items" X.env (eval o X.env) = eval o X.env := by rfl) (hline : (apos.endLine == cpos.line) = true := by rfl)
    (he : starEach [.Call (.Attribute o "items" apos) [] [] cpos] X.env = (false, eval (.Call (.Attribute o "items" apos) [] [] cpos) X.env) :: starEach [] X.env := by rfl) :
    PE X (.Call (.Name "list" p) [.Call (.Attribute o "items" apos) [] [] cpos] [] pos) (tLItems to) := by
  intro pins s σ H Q I h
  refine wpAny_Call_Name_kw (ld_blt I hg hm boot_list ?_ (by decide) (by decide))
  refine PyProof.Rows.callWith_type1 ?_ he (by rfl)
  rw [he]
  show wpAny _ _ (spliced ((false, eval (.Call (.Attribute o "items" apos) [] [] cpos) X.env) :: backTo pos (starEach [] X.env))) _ _ s
  refine Calls.spliced_cons ?_
  refine wpAny_Call_method0_late hbase hline (thn (ho pins s σ H _ I h) fun v s1 ⟨x, H1, I1, r1, a, kvs, ex, ha, q⟩ => ?_)
  subst ex
  obtain rfl : v = Value.ref a := r1
  obtain ⟨hz, hs, vs, rel, dd⟩ := dk_of I1.hok ha
  obtain ⟨t1, t2, _⟩ := isD_at I1 (.inl ⟨kvs, .inl ha⟩)
  refine ⟨"dict", "dict.items", PySem.F.plainAttrs_dict, PySem.F.slot_dict_items, PySem.F.type_dict_items, t1, t2, Calls.callWith_builtin rfl (PySem.evalArgs_none ?_)⟩
  refine call_meetsIn PySem.F.slot_dict_items dd.typeIs PySem.F.entry_dict_items (PySem.F.args_dict_items_1 _) (meets_dict_items (mixKind X.prog X.w) a hs) ⟨⟨_, dd⟩, ?_⟩
  show wpAny _ _ (spliced []) _ _ _
  refine Calls.spliced_nil ?_
  obtain ⟨ep, da⟩ := (Heap.DictOf.dictAt dd)
  have hview : (s1.heap.push { cls := .type "dict_items", data := .fields #[.ref a] }).IsItemsView s1.heap.objs.size a := ⟨_, Heap.get?_push_size _ rfl, rfl, rfl⟩
  refine kdx_call (s := { s1 with heap := s1.heap.push { cls := .type "dict_items", data := .fields #[.ref a] } }) (knd := mixKind X.prog X.w) (kvs := vs) (ep := ep) (I.ok.hd hc) hview (da.push _) (by rw [← rel.length]; exact hz) fun h' tk acc c as hk hl hal hG hacc => ?_
  have zp : (s1.heap.push { cls := .type "dict_items", data := .fields #[.ref a] }).objs.size = s1.heap.objs.size + 1 := Heap.size_push ..
  have kp : ∀ b u, s1.heap.get? b = some u → h'.get? b = some u := fun b u e => hk b u (Heap.get?_push_of_some _ e)
  have lenv : vs.length = kvs.length := rel.length.symm
  rw [zp] at hG
  have hG0 := hG.above
  have la : ∀ b ∈ as, s1.heap.objs.size + 1 < b := fun b hb => hG0 b hb
  have lz : (s1.heap.push { cls := .type "dict_items", data := .fields #[.ref a] }).objs.size ∉ as := fun z => by
    have := la _ z
    rw [zp] at this
    omega
  rw [zp] at lz
  have hl' : h'.get? (s1.heap.objs.size + 1) = some { cls := .type "list", dict := none, data := .seq acc c, slots := #[] } := by rw [← zp]; exact hl
  have free : ∀ b, s1.heap.objs.size ≤ b → H1 b = none := fun b hb => I1.hok.fresh hb
  let H2 : Hp := upd (layPairs H1 as kvs) (s1.heap.objs.size + 1) (.lst (as.map V.ref))
  have oldH : ∀ b, b < s1.heap.objs.size → H2 b = H1 b := fun b hb => by
    show upd _ _ _ b = _
    have nb : b ≠ s1.heap.objs.size + 1 := fun z => by rw [z] at hb; exact absurd hb (by omega)
    rw [upd_ne nb, layPairs_not as kvs b fun z => absurd (Nat.lt_trans (la b z) hb) (by omega)]
  have tupAt : ∀ (j : Nat) (t : Addr) (k : Key) (v : V), as[j]? = some t → kvs[j]? = some (k, v) → H2 t = some (.tup [kV k, v]) := fun j t k v e1 e2 => by
    show upd _ _ _ t = _
    rw [upd_ne (fun z => lz (by rw [← z]; exact List.mem_of_getElem? e1))]
    exact layPairs_at as kvs hG.rise j t k v e1 e2
  have I2 : Inv X pins σ H2 { s1 with heap := h', toks := tk } := I1.many kp oldH fun b u hb e => by
    by_cases hbl : b = s1.heap.objs.size + 1
    · subst hbl
      have : u = .lst (as.map V.ref) := by
        have e' : H2 (s1.heap.objs.size + 1) = some (.lst (as.map V.ref)) := upd_same
        rw [e'] at e; cases e; rfl
      subst this
      refine ⟨by rw [List.length_map, hal, lenv]; exact hz, as.map Value.ref, c, ?_, ?_⟩
      · exact vals_refs as
      · rw [hl', ← hacc]
    · have e2 : layPairs H1 as kvs b = some u := by
        have : H2 b = layPairs H1 as kvs b := upd_ne hbl
        rw [← this]; exact e
      by_cases hin : b ∈ as
      · obtain ⟨j, hj⟩ := List.mem_iff_getElem?.mp hin
        have jl := (List.getElem?_eq_some_iff.mp hj).1
        obtain ⟨⟨k, v⟩, hkv⟩ : ∃ p, kvs[j]? = some p := ⟨_, List.getElem?_eq_getElem (by omega)⟩
        have := layPairs_at (H := H1) as kvs hG.rise j b k v hj hkv
        rw [this] at e2
        cases e2
        obtain ⟨key, k', x', e3, e4, e5⟩ := hG.pairs j b hj
        obtain ⟨w', hw, rv⟩ := kv_get rel (i := j) (by omega)
        rw [hw] at e3
        have e6 : kvs[j] = (k, v) := by
          have := List.getElem?_eq_getElem (l := kvs) (i := j) (by omega)
          rw [hkv] at this
          exact (Option.some.inj this).symm
        rw [e6] at hw rv e3
        cases e3
        exact ⟨by show 2 ≤ sizeLine; decide, [key, _], .cons (kV_rel e4) (.cons rv .nil), _, e5, rfl, 0, rfl⟩
      · rw [layPairs_not as kvs b hin, free b hb] at e2
        cases e2
  refine ⟨.ref (s1.heap.objs.size + 1), H2, I2, by rw [zp]; rfl, ?_⟩
  refine q _ as H2 (free _ (by omega)) (fun b u e => by rw [oldH b (I1.hok.lt e)]; exact e) upd_same (by rw [hal, lenv]) fun j t k v e1 e2 => ⟨tupAt j t k v e1 e2, free _ ?_⟩
  have := la t (List.mem_of_getElem? e1)
  omega
end
end L2
namespace L2
open PySem PySem.Spec PyProof.Rows
structure FunG (K : PySem.W.Frag) (x qual : Str) (st : Stmt) (dV : Value) (f : Addr) (fd : FuncData) : Prop where
  ex : ∃ (oc : Value) (od : Option Addr) (kV doc pm : Value) (an : Option Addr) (cdv ct : Value) (osl : Array (Option Value)),
    fd = PySem.W.fnOf x qual (defArgs st) (defBody st) (defScope st) dV kV doc pm an cdv ct ∧ K.lookup f = some ⟨oc, od, .func fd, osl⟩ ∧ PySem.W.codeIn K cdv qual = true
  kp : PySem.W.keepIn K (.ref f) = true
section
variable {P : Program} {w : World} {K : PySem.W.Frag} {mg : Str → Option Value} {base : Heap} {x qual : Str} {st : Stmt} {dV : Value} {f : Addr} {fd : FuncData} {N ps : List Str} {k : Nat} {sp : Sp}
theorem FunG.okE (F : FunG K x qual st dV f fd) (S : FnScope N ps (defScope st)) (len : ∀ vs H Q E, sp vs H Q E → vs.length = ps.length)
    (hbody : ∀ (cdv : Value) (A : Around) (outer : List Env) (s : Shared) (H : Hp) (vs : List V) (Q : VK) (E : XK), Room k (A.deeper (envOfC qual (defScope st) s.heap.objs.size f cdv)) → sp vs H Q E →
      ∃ t, PSs (cxOf (CXE P w) P w K mg base N qual (defScope st) f cdv A outer s H E) (defBody st) t ∧ t { nx := fun _ H' => Q .non H', rt := Q } (start N vs) H) : FnOk P w K mg base (CXE P w) (k + 1) f fd ps sp := by
  obtain ⟨oc, od, kV, doc, pm, an, cdv, ct, osl, rfl, lk, hcd⟩ := F.ex
  exact fn_of lk hcd S len fun A outer s H vs Q E hr hsp => hbody cdv A outer s H vs Q E hr hsp
theorem FunG.okN (F : FunG K x qual st dV f fd) (S : FnScope N ps (defScope st)) (len : ∀ vs H Q E, sp vs H Q E → vs.length = ps.length)
    (hbody : ∀ (cdv : Value) (A : Around) (outer : List Env) (s : Shared) (H : Hp) (vs : List V) (Q : VK) (E : XK), Room k (A.deeper (envOfC qual (defScope st) s.heap.objs.size f cdv)) → sp vs H Q E →
      ∃ t, PSs (cxOf (CXE P w) P w K mg base N qual (defScope st) f cdv A outer s H E).nox (defBody st) t ∧ t { nx := fun _ H' => Q .non H', rt := Q } (start N vs) H) : FnOk P w K mg base (CXE P w) (k + 1) f fd ps sp :=
  F.okE S len fun cdv A outer s H vs Q E hr hsp => by
    obtain ⟨t, h, q⟩ := hbody cdv A outer s H vs Q E hr hsp
    exact ⟨t, h.nox, q⟩
theorem FunG.binds (F : FunG K x qual st .none f fd)
    (h : ∀ (kV doc pm : Value) (an : Option Addr) (cdv ct : Value) (us : List Value), us.length = ps.length → bindArgs (PySem.W.fnOf x qual (defArgs st) (defBody st) (defScope st) .none kV doc pm an cdv ct) ⟨us, []⟩ = pure (ps.zip us)) : Binds K fd ps [] := by
  obtain ⟨oc, od, kV, doc, pm, an, cdv, ct, osl, rfl, lk, hcd⟩ := F.ex
  exact .all (h kV doc pm an cdv ct)
theorem fung_mk {oc : Value} {od an : Option Addr} {osl : Array (Option Value)} {kV doc pm cdv ct : Value} (l : K.lookup f = some ⟨oc, od, .func (PySem.W.fnOf x qual (defArgs st) (defBody st) (defScope st) dV kV doc pm an cdv ct), osl⟩)
    (c : PySem.W.codeIn K cdv qual = true) (k : PySem.W.keepIn K (.ref f) = true) : FunG K x qual st dV f (PySem.W.fnOf x qual (defArgs st) (defBody st) (defScope st) dV kV doc pm an cdv ct) := ⟨⟨oc, od, kV, doc, pm, an, cdv, ct, osl, rfl, l, c⟩, k⟩
end
inductive Th (H : Hp) : V → Prop where
  | non : Th H .non
  | bl (b : Bool) : Th H (.bl b)
  | int (i : Int) : Th H (.int i)
  | str (x : Str) : Th H (.str x)
  | lst {a : Addr} {xs : List V} (h : H a = some (.lst xs)) : Th H (.ref a)
  | tup {a : Addr} {xs : List V} (h : H a = some (.tup xs)) : Th H (.ref a)
  | dK {a : Addr} {xs : List (Key × V)} (h : H a = some (.dK xs)) : Th H (.ref a)
def isI : V → Bool
  | .int _ => true
  | .bl _ => true
  | _ => false
def isB : V → Bool
  | .bl _ => true
  | _ => false
def isW : V → Bool
  | .int _ => true
  | _ => false
theorem isW_eq (x : V) : (if isI x = true then !isB x else false) = isW x := by cases x <;> rfl
theorem ki1 {K : PySem.W.Frag} : PySem.W.kitOne K (.type "int") (.type "int") = some true := by kernel_rfl
theorem ki2 {K : PySem.W.Frag} : PySem.W.kitOne K (.type "bool") (.type "int") = some true := by kernel_rfl
theorem ki3 {K : PySem.W.Frag} : PySem.W.kitOne K (.type "NoneType") (.type "int") = some false := by kernel_rfl
theorem ki4 {K : PySem.W.Frag} : PySem.W.kitOne K (.type "str") (.type "int") = some false := by kernel_rfl
theorem ki5 {K : PySem.W.Frag} : PySem.W.kitOne K (.type "list") (.type "int") = some false := by kernel_rfl
theorem ki6 {K : PySem.W.Frag} : PySem.W.kitOne K (.type "tuple") (.type "int") = some false := by kernel_rfl
theorem ki7 {K : PySem.W.Frag} : PySem.W.kitOne K (.type "dict") (.type "int") = some false := by kernel_rfl
theorem kb1 {K : PySem.W.Frag} : PySem.W.kitOne K (.type "int") (.type "bool") = some false := by kernel_rfl
theorem kb2 {K : PySem.W.Frag} : PySem.W.kitOne K (.type "bool") (.type "bool") = some true := by kernel_rfl
theorem kt1 {K : PySem.W.Frag} : PySem.W.kitOne K (.type "tuple") (.type "tuple") = some true := by kernel_rfl
theorem boot_int : bootBuiltins "int" = some (.type "int") := by decide +kernel
theorem boot_bool : bootBuiltins "bool" = some (.type "bool") := by decide +kernel
theorem boot_tuple : bootBuiltins "tuple" = some (.type "tuple") := by decide +kernel
theorem Th.ty {K : PySem.W.Frag} {H : Hp} {x : V} (h : Th H x) : ∃ t, TyX K H x t ∧ PySem.W.kitOne K t (.type "int") = some (isI x) ∧ (isI x = true → PySem.W.kitOne K t (.type "bool") = some (isB x)) := by
  cases h with
  | non => exact ⟨_, .of .non, ki3, fun z => nomatch z⟩
  | bl b => exact ⟨_, .of (.bl b), ki2, fun _ => kb2⟩
  | int i => exact ⟨_, .of (.int i), ki1, fun _ => kb1⟩
  | str x => exact ⟨_, .of (.str x), ki4, fun z => nomatch z⟩
  | lst h => exact ⟨_, .of (.lst h), ki5, fun z => nomatch z⟩
  | tup h => exact ⟨_, .of (.tup h), ki6, fun z => nomatch z⟩
  | dK h => exact ⟨_, .of (.dK h), ki7, fun z => nomatch z⟩
end L2
namespace G1
open PySem L2
def top (i : Nat) : Stmt := PySem.Challenge.pw_dearsigns_k38_candidates_of_parts.main.body.getD i (.Pass ⟨0, 0, 0, 0⟩)
abbrev sWhole : Stmt := top 7
abbrev sWithin : Stmt := top 8
abbrev sIsF : Stmt := top 9
abbrev sAbove : Stmt := top 10
abbrev sName : Stmt := top 11
abbrev sLetter : Stmt := top 12
abbrev sGcd : Stmt := top 13
abbrev sLook : Stmt := top 18
abbrev sSigns : Stmt := top 19
abbrev sRow : Stmt := top 20
abbrev sUnlike : Stmt := top 21
abbrev sSignsOf : Stmt := top 22
abbrev sCell : Stmt := top 42
abbrev sSource : Stmt := top 43
abbrev sDraw : Stmt := top 44
abbrev sLow : Stmt := top 45
abbrev sPrice : Stmt := top 46
abbrev sTongue : Stmt := top 49
abbrev sWords : Stmt := top 25
abbrev sWCounts : Stmt := top 26
abbrev sTCounts : Stmt := top 27
abbrev sFollows : Stmt := top 28
abbrev sComers : Stmt := top 29
abbrev sCounts : Stmt := top 30
abbrev sEnds : Stmt := top 31
abbrev sOfLen : Stmt := top 32
abbrev sComes : Stmt := top 47
abbrev sTexts : Stmt := top 48
abbrev sLWords : Stmt := top 50
abbrev sOpen : Stmt := top 51
abbrev sPart : Stmt := top 52
abbrev sCand : Stmt := top 53
abbrev sCandOf : Stmt := top 36
abbrev sFew : Stmt := top 37
abbrev sAmong : Stmt := top 38
abbrev sGoes : Stmt := top 39
abbrev sAllOn : Stmt := top 40
abbrev sLaw : Stmt := top 54
structure Bl (mg : Str → Option Value) : Prop where
  isi : mg "isinstance" = none
  int : mg "int" = none
  bool : mg "bool" = none
  tuple : mg "tuple" = none
  abs : mg "abs" = none
  len : mg "len" = none
  enum : mg "enumerate" = none
  str : mg "str" = none
  range : mg "range" = none
  max : mg "max" = none
  all : mg "all" = none
  set : mg "set" = none
  list : mg "list" = none
  min : mg "min" = none
  sum : mg "sum" = none
  dict : mg "dict" = none
  any : mg "any" = none
  reversed : mg "reversed" = none
section
variable {P : Program} {w : World} {K : PySem.W.Frag} {mg : Str → Option Value} {base : Heap}
def spWhole : Sp := fun vs H Q _ => ∃ x, vs = [x] ∧ Th H x ∧ Q (.bl (isW x)) H
theorem scW : FnScope ["thing"] ["thing"] (defScope sWhole) := ⟨rfl, rfl, rfl, by decide +kernel, rfl, by decide +kernel, by decide +kernel⟩
theorem ok_whole {f : Addr} {fd : FuncData} (F : FunG K "is_whole" "is_whole" sWhole .none f fd) (B : Bl mg) : FnOk P w K mg base (CXE P w) 1 f fd ["thing"] spWhole := by
  refine F.okN scW (fun vs H Q E h => ?_) (fun cdv A outer s H vs Q E hr h => ?_)
  · obtain ⟨x, rfl, _⟩ := h
    rfl
  · obtain ⟨x, rfl, hx, q⟩ := h
    obtain ⟨t, ty, e1, e2⟩ := hx.ty (K := K)
    refine ⟨_, pss_one (ps_ret (pe_and (pe_callB call_isi (by rfl) B.isi boot_isi (pa_cons (pv 0) (pa_cons (pe_bltn (by rfl) B.int boot_int (v := .ty "int") rfl) pa_nil)))
      (pe_one (pe_not (pe_callB call_isi (by rfl) B.isi boot_isi (pa_cons (pv 0) (pa_cons (pe_bltn (by rfl) B.bool boot_bool (v := .ty "bool") rfl) pa_nil))))))), ?_⟩
    refine ⟨x, rfl, x, _, t, isI x, rfl, ty, .inl ⟨_, rfl, e1⟩, _, rfl, ?_⟩
    rw [← isW_eq x] at q
    by_cases hi : isI x = true
    · rw [if_pos hi] at q ⊢
      exact ⟨x, rfl, x, _, t, isB x, rfl, ty, .inl ⟨_, rfl, e2 hi⟩, _, rfl, q⟩
    · rw [if_neg hi] at q ⊢
      exact q
end
end G1
namespace GM
theorem gcd_step (m n : Nat) : Nat.gcd n (m % n) = Nat.gcd m n := by
  rw [Nat.gcd_comm n, Nat.gcd_comm m, Nat.gcd_rec n m]
theorem abs_nat (i : Int) : (if i < 0 then -i else i) = (i.natAbs : Int) := by split <;> omega
def gd (a b : Int) : Int := ((Nat.gcd a.natAbs b.natAbs : Nat) : Int)
theorem gd_pos {a b : Int} (h : b ≠ 0) : 0 < gd a b := by
  unfold gd
  have : 0 < Nat.gcd a.natAbs b.natAbs := Nat.gcd_pos_of_pos_right _ (by omega)
  omega
theorem gd_dvd1 (a b : Int) : gd a b ∣ a := by
  unfold gd
  have h : (Nat.gcd a.natAbs b.natAbs) ∣ a.natAbs := Nat.gcd_dvd_left _ _
  exact Int.dvd_natAbs.mp (Int.natCast_dvd_natCast.mpr h)
theorem gd_dvd2 (a b : Int) : gd a b ∣ b := by
  unfold gd
  have h : (Nat.gcd a.natAbs b.natAbs) ∣ b.natAbs := Nat.gcd_dvd_right _ _
  exact Int.dvd_natAbs.mp (Int.natCast_dvd_natCast.mpr h)
theorem gd_le {a b : Int} (h : b ≠ 0) : (gd a b).natAbs ≤ b.natAbs := by
  unfold gd
  have : Nat.gcd a.natAbs b.natAbs ≤ b.natAbs := Nat.le_of_dvd (by omega) (Nat.gcd_dvd_right _ _)
  omega
theorem parted {a b g : Int} (hb : b ≠ 0) (hg : g = gd a b ∨ g = -gd a b) (hs : 0 < b ↔ 0 < g) :
    ∃ c d, a.fdiv g = c ∧ b.fdiv g = d ∧ a = g * c ∧ b = g * d ∧ 0 < d ∧ Nat.gcd c.natAbs d.natAbs = 1 ∧ c.natAbs ≤ a.natAbs ∧ d.natAbs ≤ b.natAbs := by
  have h0 := gd_pos (a := a) hb
  have g0 : g ≠ 0 := by omega
  have d1 : g ∣ a := by
    rcases hg with e | e
    · rw [e]; exact gd_dvd1 a b
    · rw [e]; exact (Int.neg_dvd).mpr (gd_dvd1 a b)
  have d2 : g ∣ b := by
    rcases hg with e | e
    · rw [e]; exact gd_dvd2 a b
    · rw [e]; exact (Int.neg_dvd).mpr (gd_dvd2 a b)
  obtain ⟨c, rfl⟩ := d1
  obtain ⟨d, rfl⟩ := d2
  have na : g.natAbs = Nat.gcd (g * c).natAbs (g * d).natAbs := by
    have e : gd (g * c) (g * d) = ((Nat.gcd (g * c).natAbs (g * d).natAbs : Nat) : Int) := rfl
    rcases hg with z | z <;> omega
  refine ⟨c, d, Int.mul_fdiv_cancel_left _ g0, Int.mul_fdiv_cancel_left _ g0, rfl, rfl, ?_, ?_, ?_, ?_⟩
  · by_cases hp : 0 < g
    · have z := hs.mpr hp
      rw [Int.mul_comm] at z
      exact Int.pos_of_mul_pos_left z hp
    · have gn : g < 0 := by omega
      have bn : ¬ 0 < g * d := fun z => hp (hs.mp z)
      have bn2 : g * d < 0 := by omega
      rcases Int.lt_trichotomy d 0 with z | z | z
      · have := Int.mul_pos_of_neg_of_neg gn z
        omega
      · rw [z] at hb; simp at hb
      · exact z
  · rw [Int.natAbs_mul, Int.natAbs_mul, Nat.gcd_mul_left] at na
    have gp : 0 < g.natAbs := by omega
    have : g.natAbs * 1 = g.natAbs * Nat.gcd c.natAbs d.natAbs := by rw [Nat.mul_one]; exact na
    exact (Nat.eq_of_mul_eq_mul_left gp this).symm
  · rw [Int.natAbs_mul]; exact Nat.le_mul_of_pos_left _ (by omega)
  · rw [Int.natAbs_mul]; exact Nat.le_mul_of_pos_left _ (by omega)
end GM
theorem boot_abs : PySem.bootBuiltins "abs" = some (.builtin "abs") := by decide +kernel
namespace G1
open PySem L2 GM
section
variable {P : Program} {w : World} {K : PySem.W.Frag} {mg : Str → Option Value} {base : Heap}
def spGcd : Sp := fun vs H Q _ => ∃ a b : Int, vs = [.int a, .int b] ∧ Q (.int (gd a b)) H
theorem scG : FnScope ["one", "other"] ["one", "other"] (defScope sGcd) := ⟨rfl, rfl, rfl, by decide +kernel, rfl, by decide +kernel, by decide +kernel⟩
theorem ok_gcd {f : Addr} {fd : FuncData} (F : FunG K "common_divisor" "common_divisor" sGcd .none f fd) (B : Bl mg) : FnOk P w K mg base (CXE P w) 1 f fd ["one", "other"] spGcd := by
  refine F.okN scG (fun vs H Q E h => ?_) (fun cdv A outer s H vs Q E hr h => ?_)
  · obtain ⟨a, b, rfl, _⟩ := h
    rfl
  · obtain ⟨a, b, rfl, q⟩ := h
    refine ⟨_, pss_cons (ps_set (i := 0) scG.nd rfl (Or.inl rfl) (pe_callB call_abs (by rfl) B.abs boot_abs (pa_cons (pv 0) pa_nil)))
      (pss_cons (ps_set (i := 1) scG.nd rfl (Or.inl rfl) (pe_callB call_abs (by rfl) B.abs boot_abs (pa_cons (pv 1) pa_nil)))
      (pss_cons (ps_while PassesOwn.never (pt_cmpR op_gt (pv 1) pe_int (nomark _))
        (pss_one (ps_par (i := 0) (j := 1) rfl scG.nd rfl rfl (by decide) rfl rfl (pa_cons (pv 1) (pa_cons (pe_op op_mod (pv 0) (pv 1)) pa_nil)) rfl)))
      (pss_one (ps_ret (pv 0))))), ?_⟩
    refine ⟨_, rfl, a, rfl, _, rfl, b, rfl, ?_⟩
    refine while_by (fun σ H' => H' = H ∧ ∃ m n : Nat, σ = [some (.int m), some (.int n)] ∧ Nat.gcd m n = Nat.gcd a.natAbs b.natAbs) (fun σ _ => match σ with | [_, some (.int n)] => n.toNat | _ => 0)
      ⟨rfl, a.natAbs, b.natAbs, by simp only [abs_nat]; rfl, rfl⟩ ?_ ?_
    · rintro σ H' ⟨rfl, m, n, rfl, hg⟩
      refine ⟨_, rfl, _, _, rfl, rfl, _, rfl, ?_⟩
      refine ite2 (fun hn => ?_) (fun hn => ?_)
      · have hn' : (0 : Int) < n := of_decide_eq_true hn
        refine ⟨_, rfl, _, rfl, _, rfl, _, _, rfl, rfl, hn', _, _, rfl, ⟨rfl, n, m % n, ?_, ?_⟩, ?_⟩
        · show [some (V.int n), some (V.int ((m : Int) % n))] = _
          rw [← Int.natCast_emod]
        · rw [gcd_step]; exact hg
        · show ((m : Int) % n).toNat < (n : Int).toNat
          have := Int.emod_lt_of_pos (m : Int) hn'
          have := Int.emod_nonneg (m : Int) (show (n : Int) ≠ 0 by omega)
          omega
      · have hn' : ¬ (0 : Int) < n := fun z => hn (decide_eq_true z)
        refine ⟨_, rfl, ?_⟩
        have n0 : n = 0 := by omega
        rw [n0, Nat.gcd_zero_right] at hg
        rw [hg]
        exact q
    · rintro σ H' Q1 Q2 h ⟨v, e, i, j, e1, e2, x, e3, z⟩
      exact ⟨v, e, i, j, e1, e2, x, e3, h _ _ z⟩
end
end G1
namespace G1
open PySem L2 GM
structure FracOf (a b c d : Int) : Prop where
  g : ∃ g : Int, g ≠ 0 ∧ a = g * c ∧ b = g * d
  pos : 0 < d
  low : Nat.gcd c.natAbs d.natAbs = 1
  top : c.natAbs ≤ a.natAbs
  bot : d.natAbs ≤ b.natAbs
section
variable {P : Program} {w : World} {K : PySem.W.Frag} {mg : Str → Option Value} {base : Heap}
end
end G1
namespace G1
open PySem L2 GM
section
variable {P : Program} {w : World} {K : PySem.W.Frag} {mg : Str → Option Value} {base : Heap} {c : List Addr}
theorem same_upd {H : Hp} {p : Addr} {o : HO} (h : H p = none) : Same H (upd H p o) := fun b u e => by rw [upd_ne (ne_of_none e h)]; exact e
structure Src (H : Hp) (p : Addr) : Prop where
  ex : ∃ n s : Int, H p = some (.lst [.int n, .int s]) ∧ 0 ≤ n ∧ 0 ≤ s ∧ s < 2147483647
def spSource : Sp := fun vs H Q _ => ∃ x k : Int, vs = [.int x, .int k] ∧ 0 ≤ k ∧ k ≤ 1000 ∧ ∀ p H', H p = none → Src H' p → (∀ b, b ≠ p → H' b = H b) → Q (.ref p) H'
theorem scS : FnScope ["_law_cell", "_law_k", "_law_seed"] ["_law_cell", "_law_k"] (defScope sSource) := ⟨rfl, rfl, rfl, by decide +kernel, rfl, by decide +kernel, by decide +kernel⟩
theorem ok_source {f : Addr} {fd : FuncData} (F : FunG K "_law_source" "_law_source" sSource .none f fd) (B : Bl mg) : FnOk P w K mg base (CXE P w) 1 f fd ["_law_cell", "_law_k"] spSource := by
  refine F.okN scS (fun vs H Q E h => ?_) (fun cdv A outer s H vs Q E hr h => ?_)
  · obtain ⟨x, k, rfl, _⟩ := h
    rfl
  · obtain ⟨x, k, rfl, k0, k1, q⟩ := h
    refine ⟨_, pss_cons (ps_set (i := 2) scS.nd rfl (Or.inl rfl) (pe_op op_mod (pe_op op_mul (pe_op op_add (pe_op op_add (pe_op op_mod (pv 0) pe_int) (pe_op op_mul pe_int (pv 1))) pe_int) pe_int) pe_int))
      (pss_one (ps_ret (pe_lst (pa_cons (pe_op op_mul (pv 0) (pe_callTy call_int1 (by rfl) B.int boot_int (pa_cons (pe_cmpR op_ge (pv 0) (pe_op op_pow pe_int pe_int) (nomark _)) pa_nil))) (pa_cons (pv 2) pa_nil))))), ?_⟩
    have m0 : (0 : Int) ≤ x % 1000003 := Int.emod_nonneg _ (by decide)
    have m1 : x % 1000003 < 1000003 := Int.emod_lt_of_pos _ (by decide)
    refine ⟨_, rfl, _, _, rfl, rfl, (by show (0 : Int) < 1000003; decide), _, rfl, _, _, rfl, rfl, .inl ⟨by decide, by decide⟩, _, _, rfl, rfl, _, _, rfl, rfl, _, _, rfl, rfl, .inr ⟨by decide, by decide⟩, _, _, rfl, rfl, (by show (0 : Int) < 2147483647; decide), ?_⟩
    refine ⟨_, rfl, _, rfl, _, _, rfl, rfl, ⟨by decide, by decide, by decide⟩, _, _, rfl, rfl, .inr ⟨_, rfl, _, _, rfl, rfl, .inr (by split <;> constructor <;> decide), _, rfl, by show 2 ≤ sizeLine; decide, fun p hp => ?_⟩⟩
    have h18 : (10 : Int) ^ (18 : Int).toNat = 1000000000000000000 := by decide
    refine q p _ hp ⟨_, _, upd_same, ?_, Int.emod_nonneg _ (by decide), Int.emod_lt_of_pos _ (by decide)⟩ fun b hb => upd_ne hb
    split
    · rename_i z
      have := of_decide_eq_true z
      omega
    · omega
def spDraw : Sp := fun vs H Q _ => ∃ (p : Addr) (m : Int), vs = [.ref p, .int m] ∧ Src H p ∧ 0 < m ∧ m.natAbs < big ∧ ∀ d H', 0 ≤ d → d < m → Src H' p → (∀ b, b ≠ p → H' b = H b) → Q (.int d) H'
theorem scD : FnScope ["_law_source_here", "_law_many", "_law_digit"] ["_law_source_here", "_law_many"] (defScope sDraw) := ⟨rfl, rfl, rfl, by decide +kernel, rfl, by decide +kernel, by decide +kernel⟩
theorem ok_draw {f : Addr} {fd : FuncData} (F : FunG K "_law_draw" "_law_draw" sDraw .none f fd) : FnOk P w K mg base (CXE P w) 1 f fd ["_law_source_here", "_law_many"] spDraw := by
  refine F.okN scD (fun vs H Q E h => ?_) (fun cdv A outer s H vs Q E hr h => ?_)
  · obtain ⟨p, m, rfl, _⟩ := h
    rfl
  · obtain ⟨p, m, rfl, ⟨n, sd, hp, n0, s0, s1⟩, m0, mb, q⟩ := h
    refine ⟨_, pss_cons (ps_if (pt_cmpR op_gt (pe_ix ix_list (pv 0) pe_int (fun _ _ => rfl)) pe_int (nomark _))
        (pss_cons (ps_set (i := 2) scD.nd rfl (Or.inl rfl) (pe_op op_mod (pe_ix ix_list (pv 0) pe_int (fun _ _ => rfl)) (pv 1)))
        (pss_cons (ps_asg (pe_op op_fdivP (pe_ix ix_list (pv 0) pe_int (fun _ _ => rfl)) (pv 1)) (pg_sub (pv 0) pe_int set_list))
        (pss_one (ps_ret (pv 2))))) pss_nil)
      (pss_cons (ps_asg (pe_op op_mod (pe_op op_add (pe_op op_mul (pe_ix ix_list (pv 0) pe_int (fun _ _ => rfl)) pe_int) pe_int) pe_int) (pg_sub (pv 0) pe_int set_list))
      (pss_one (ps_ret (pe_op op_mod (pe_op op_fdiv (pe_op op_mod (pe_op op_mul (pe_ix ix_list (pv 0) pe_int (fun _ _ => rfl)) (pe_ix ix_list (pv 0) pe_int (fun _ _ => rfl))) pe_int) pe_int) (pv 1))))), ?_⟩
    have st : SqL K H p [.int n, .int sd] := SqL.of hp
    refine ⟨_, rfl, p, _, _, _, rfl, rfl, st, rfl, _, _, rfl, rfl, _, rfl, ?_⟩
    refine ite2 (fun hn => ?_) (fun hn => ?_)
    · have n1 : (0 : Int) < n := of_decide_eq_true hn
      refine ⟨_, rfl, p, _, _, _, rfl, rfl, st, rfl, _, rfl, _, _, rfl, rfl, m0, ?_⟩
      refine ⟨_, rfl, p, _, _, _, rfl, rfl, st, rfl, _, rfl, _, _, rfl, rfl, ⟨m0, mb⟩, _, rfl, p, _, _, 0, rfl, rfl, hp, rfl, ?_⟩
      refine ⟨_, rfl, ?_⟩
      exact q _ _ (Int.emod_nonneg _ (by omega)) (Int.emod_lt_of_pos _ m0) ⟨_, _, upd_same, Int.ediv_nonneg n0 (by omega), s0, s1⟩ fun b hb => upd_ne hb
    · refine ⟨_, rfl, p, _, _, _, rfl, rfl, st, rfl, _, _, rfl, rfl, .inr ⟨by decide, by decide⟩, _, _, rfl, rfl, _, _, rfl, rfl, (by show (0 : Int) < 2147483647; decide), _, rfl, p, _, _, 1, rfl, rfl, hp, rfl, ?_⟩
      have t0 : (0 : Int) ≤ (sd * 48271 + 11) % 2147483647 := Int.emod_nonneg _ (by decide)
      have t1 : (sd * 48271 + 11) % 2147483647 < 2147483647 := Int.emod_lt_of_pos _ (by decide)
      have st2 : SqL K (upd H p (.lst [.int n, .int ((sd * 48271 + 11) % 2147483647)])) p [.int n, .int ((sd * 48271 + 11) % 2147483647)] := SqL.of upd_same
      refine ⟨_, rfl, p, _, _, _, rfl, rfl, st2, rfl, _, rfl, p, _, _, _, rfl, rfl, st2, rfl, _, _, rfl, rfl, .inl ⟨by show _ < (sd * 48271 + 11) % 2147483647; omega, by show (sd * 48271 + 11) % 2147483647 < _; omega⟩, _, _, rfl, rfl, (by show (0 : Int) < 2147483629; decide), _, _, rfl, rfl, ⟨by decide, by decide⟩, _, rfl, _, _, rfl, rfl, m0, ?_⟩
      exact q _ _ (Int.emod_nonneg _ (by omega)) (Int.emod_lt_of_pos _ m0) ⟨_, _, upd_same, n0, t0, t1⟩ fun b hb => upd_ne hb
end
end G1
namespace L2
open PySem PySem.Spec PyProof.Rows
def tCut (t : TS) : TS := fun D σ H => ∃ J : St → Hp → Prop, t { D with nx := J } σ H ∧ ∀ σ' H', J σ' H' → D.nx σ' H'
theorem ps_cut {X : Cx} {st : Stmt} {t : TS} (h : PS X st t) : PS X st (tCut t) := by
  intro pins s σ H D I hw
  obtain ⟨J, h1, h2⟩ := hw
  refine thn (h pins s σ H _ I h1) fun f s1 q => ?_
  cases f with
  | next =>
    obtain ⟨σ', H', I', q⟩ := q
    exact ⟨σ', H', I', h2 σ' H' q⟩
  | ret v => exact q
  | brk => exact q
  | cont => exact q
section
variable {X : Cx} {es : List Expr} {t : TA} {te : TE} {pos : Pos} {l r : List Expr} {k : Nat} {o : Operator} {a b : Expr} {cst : Const} {x : Str} {u : UnaryOp} {kw : List Keyword} {f : Expr}
theorem pac_c (ha : PE X (.Constant cst k pos) te) (hr : PA X es t) : PA X (.Constant cst k pos :: es) (tCons te t) := pa_cons ha hr rfl
theorem pac_n (ha : PE X (.Name x pos) te) (hr : PA X es t) : PA X (.Name x pos :: es) (tCons te t) := pa_cons ha hr rfl
theorem pac_l (ha : PE X (.List l pos) te) (hr : PA X es t) : PA X (.List l pos :: es) (tCons te t) := pa_cons ha hr rfl
theorem pac_t (ha : PE X (.Tuple l k pos) te) (hr : PA X es t) : PA X (.Tuple l k pos :: es) (tCons te t) := pa_cons ha hr rfl
theorem pac_b (ha : PE X (.BinOp a o b pos) te) (hr : PA X es t) : PA X (.BinOp a o b pos :: es) (tCons te t) := pa_cons ha hr rfl
theorem pac_f (ha : PE X (.Call f l kw pos) te) (hr : PA X es t) : PA X (.Call f l kw pos :: es) (tCons te t) := pa_cons ha hr rfl
theorem pac_s (ha : PE X (.Subscript a b pos) te) (hr : PA X es t) : PA X (.Subscript a b pos :: es) (tCons te t) := pa_cons ha hr rfl
end
end L2
namespace G1
open PySem L2 GM
def Ext (p : Addr) (H H' : Hp) : Prop := ∀ b o, b ≠ p → H b = some o → H' b = some o
theorem Ext.trans {p : Addr} {H H1 H2 : Hp} (a : Ext p H H1) (b : Ext p H1 H2) : Ext p H H2 := fun c o n h => b c o n (a c o n h)
theorem Ext.of_eq {p : Addr} {H H' : Hp} (h : ∀ b, b ≠ p → H' b = H b) : Ext p H H' := fun b o n e => (h b n).trans e
theorem Ext.new {p l : Addr} {H : Hp} {o : HO} (h : H l = none) : Ext p H (upd H l o) := fun b u _ e => by rw [upd_ne (ne_of_none e h)]; exact e
theorem Src.new {H : Hp} {p l : Addr} {o : HO} (s : Src H p) (h : H l = none) : Src (upd H l o) p := by
  obtain ⟨n, d, e, r⟩ := s.ex
  exact ⟨n, d, by rw [upd_ne (ne_of_none e h)]; exact e, r⟩
theorem Src.ne {H : Hp} {p l : Addr} (s : Src H p) (h : H l = none) : l ≠ p := fun z => by
  obtain ⟨n, d, e, _⟩ := s.ex
  rw [← z, h] at e; cases e
end G1
namespace L2
open PySem PySem.Spec PyProof.Rows
structure SPE (X : Cx) (e : Expr) (t : TE) : Prop where
  out : PE X e t
structure SPT (X : Cx) (e : Expr) (t : TT) : Prop where
  out : PT X e t
structure SPW (X : Cx) (e : Expr) (t : TT) : Prop where
  out : PW X e t
structure SPA (X : Cx) (es : List Expr) (t : TA) : Prop where
  out : PA X es t
structure SPS (X : Cx) (st : Stmt) (t : TS) : Prop where
  out : PS X st t
structure SPSs (X : Cx) (st : List Stmt) (t : TS) : Prop where
  out : PSs X st t
structure SPG (X : Cx) (e : Expr) (t : TG) : Prop where
  out : PG X e t
structure SPGs (X : Cx) (es : List Expr) (t : TGs) : Prop where
  out : PGs X es t
structure SPI (X : Cx) (tg e : Expr) (t : TI) : Prop where
  out : PI X tg e t
structure SPC (X : Cx) (op : CmpOp) (a b : Expr) (t : TE) : Prop where
  out : PC X op a b t
structure SPO (X : Cx) (e : Option Expr) (t : TO) : Prop where
  out : PO X e t
theorem SPW.pt {X : Cx} {e : Expr} {t : TT} (h : SPW X e t) : SPT X e t := ⟨h.out.pt⟩
section
variable {X : Cx}
theorem zpv (i : Nat) {x : Str} {pos : Pos} (hN : X.N[i]? = some x := by rfl) (hv : Vis X.env.scope x := by first | exact Or.inl rfl | exact Or.inr (Or.inl rfl) | exact Or.inr (Or.inr rfl)) (hd : (x == ("__debug__" : Str)) = false := by decide) (hcd : (x == ("__classdict__" : Str)) = false := by decide) : SPE X (.Name x pos) (tVar i) := ⟨pv i hN hv hd hcd⟩
end
section
variable {X : Cx}
theorem zpe_int {i j pos} : SPE X (.Constant (.int i) j pos) (tC (.int i)) := ⟨pe_int ⟩
end
section
variable {X : Cx}
theorem zpe_bl {b j pos} : SPE X (.Constant (.bool b) j pos) (tC (.bl b)) := ⟨pe_bl ⟩
end
section
variable {X : Cx}
theorem zpe_non {j pos} : SPE X (.Constant .none j pos) (tC .non) := ⟨pe_non ⟩
end
section
variable {X : Cx}
theorem zpe_str {x j pos} : SPE X (.Constant (.str x) j pos) (tC (.str x)) := ⟨pe_str ⟩
end
section
variable {X : Cx}
theorem zpe_glob {x : Str} {v : V} {u : Value} {pos : Pos} (hg : Gl X x) (hm : X.mg x = some u) (r : RelV v u) (hd : (x == ("__debug__" : Str)) = false := by decide) : SPE X (.Name x pos) (tC v) := ⟨pe_glob hg hm r hd⟩
end
section
variable {X : Cx}
theorem zpe_bltn {x : Str} {v : V} {u : Value} {pos : Pos} (hg : Gl X x) (hm : X.mg x = none) (hv : bootBuiltins x = some u) (r : RelV v u) (hn : x ≠ "__name__" := by decide) (hd : (x == ("__debug__" : Str)) = false := by decide) : SPE X (.Name x pos) (tC v) := ⟨pe_bltn hg hm hv r hn hd⟩
end
section
variable {X : Cx} {a b : Expr} {ta tb : TE} {pos : Pos} {tA tB' : TT} {rest : List Expr}
theorem zpe_one {op} {t : TE} (h : SPE X a t) : SPE X (.BoolOp op [a] pos) t := ⟨pe_one h.out⟩
end
section
variable {X : Cx} {a b : Expr} {ta tb : TE} {pos : Pos} {tA tB' : TT} {rest : List Expr}
theorem zpe_and (ha : SPE X a ta) (hb : SPE X (.BoolOp .And (b :: rest) pos) tb) : SPE X (.BoolOp .And (a :: b :: rest) pos) (tAndV ta tb) := ⟨pe_and ha.out hb.out⟩
end
section
variable {X : Cx} {a b : Expr} {ta tb : TE} {pos : Pos} {tA tB' : TT} {rest : List Expr}
theorem zpe_or (ha : SPE X a ta) (hb : SPE X (.BoolOp .Or (b :: rest) pos) tb) : SPE X (.BoolOp .Or (a :: b :: rest) pos) (tOrV ta tb) := ⟨pe_or ha.out hb.out⟩
end
section
variable {X : Cx} {a b : Expr} {ta tb : TE} {pos : Pos} {tA tB' : TT} {rest : List Expr}
end
section
variable {X : Cx} {a b : Expr} {ta tb : TE} {pos : Pos} {tA tB' : TT} {rest : List Expr}
theorem zpe_ifExp {c : Expr} (hc : SPT X c tA) (ha : SPE X a ta) (hb : SPE X b tb) : SPE X (.IfExp c a b pos) (tIf tA ta tb) := ⟨pe_ifExp hc.out ha.out hb.out⟩
end
section
variable {X : Cx} {a b : Expr} {ta tb : TE} {pos : Pos}
end
section
variable {X : Cx} {a b : Expr} {ta tb : TE} {pos : Pos}
end
section
variable {X : Cx} {a b : Expr} {ta tb : TE} {pos : Pos}
theorem zpc_notN {j pos'} (ha : SPE X a ta) : SPC X .IsNot a (.Constant .none j pos') (tNotN ta) := ⟨pc_notN ha.out⟩
end
section
variable {X : Cx} {a b : Expr} {ta tb : TE} {pos : Pos}
theorem zpt_cmp {op : CmpOp} {t : TE} (h : SPC X op a b t) (h1 : behindInMarks op b = false := by first | exact nobehind _ (by decide) (by decide) | rfl) : SPT X (.Compare a [op] [b] pos) (tB t) := ⟨pt_cmp h.out h1⟩
end
section
variable {X : Cx} {a b : Expr} {ta tb : TE} {pos : Pos}
theorem zpt_val {e : Expr} {t : TE} (h : SPE X e t) (he : ∀ whole, isTrue e X.env whole = (do let v ← whole; standAt e.pos; holding [v] (truthy v)) := by intro _; rfl) : SPT X e (tB t) := ⟨pt_val h.out he⟩
end
section
variable {X : Cx} {a b : Expr} {ta tb : TE} {pos : Pos} {tA tB' : TT} {rest : List Expr}
theorem zpw_and1 (ha : SPT X a tA) : SPW X (.BoolOp .And [a] pos) tA := ⟨pw_and1 ha.out⟩
end
section
variable {X : Cx} {a b : Expr} {ta tb : TE} {pos : Pos} {tA tB' : TT} {rest : List Expr}
theorem zpw_or1 (ha : SPT X a tA) : SPW X (.BoolOp .Or [a] pos) tA := ⟨pw_or1 ha.out⟩
end
section
variable {X : Cx} {a b : Expr} {ta tb : TE} {pos : Pos} {tA tB' : TT} {rest : List Expr}
theorem zpw_and (ha : SPT X a tA) (hb : SPW X (.BoolOp .And (b :: rest) pos) tB') : SPW X (.BoolOp .And (a :: b :: rest) pos) (tAnd tA tB') := ⟨pw_and ha.out hb.out⟩
end
section
variable {X : Cx} {a b : Expr} {ta tb : TE} {pos : Pos} {tA tB' : TT} {rest : List Expr}
theorem zpw_or (ha : SPT X a tA) (hb : SPW X (.BoolOp .Or (b :: rest) pos) tB') : SPW X (.BoolOp .Or (a :: b :: rest) pos) (tOr tA tB') := ⟨pw_or ha.out hb.out⟩
end
section
variable {X : Cx} {a b : Expr} {ta tb : TE} {pos : Pos} {tA tB' : TT} {rest : List Expr}
theorem zpt_not (ha : SPT X a tA) : SPT X (.UnaryOp .Not a pos) (tNot tA) := ⟨pt_not ha.out⟩
end
section
variable {X : Cx} {st : Stmt} {rest : List Stmt} {t u : TS} {e : Expr} {te : TE} {pos : Pos}
theorem zpss_nil  : SPSs X [] tNext := ⟨pss_nil ⟩
end
section
variable {X : Cx} {st : Stmt} {rest : List Stmt} {t u : TS} {e : Expr} {te : TE} {pos : Pos}
theorem zpss_cons (h1 : SPS X st t) (h2 : SPSs X rest u) : SPSs X (st :: rest) (tSeq t u) := ⟨pss_cons h1.out h2.out⟩
end
section
variable {X : Cx} {st : Stmt} {rest : List Stmt} {t u : TS} {e : Expr} {te : TE} {pos : Pos}
theorem zpss_one (h1 : SPS X st t) : SPSs X [st] t := ⟨pss_one h1.out⟩
end
section
variable {X : Cx} {st : Stmt} {rest : List Stmt} {t u : TS} {e : Expr} {te : TE} {pos : Pos}
end
section
variable {X : Cx} {st : Stmt} {rest : List Stmt} {t u : TS} {e : Expr} {te : TE} {pos : Pos}
end
section
variable {X : Cx} {st : Stmt} {rest : List Stmt} {t u : TS} {e : Expr} {te : TE} {pos : Pos}
end
section
variable {X : Cx} {st : Stmt} {rest : List Stmt} {t u : TS} {e : Expr} {te : TE} {pos : Pos}
theorem zps_expr (he : SPE X e te) (hs : swapsWith e none pos.line X.env = pure false := by rfl) : SPS X (.Expr e pos) (tDrop te) := ⟨ps_expr he.out hs⟩
end
section
variable {X : Cx} {st : Stmt} {rest : List Stmt} {t u : TS} {e : Expr} {te : TE} {pos : Pos}
theorem zps_ret (he : SPE X e te) : SPS X (.Return (some e) pos) (tRet te) := ⟨ps_ret he.out⟩
end
section
variable {X : Cx} {st : Stmt} {rest : List Stmt} {t u : TS} {e : Expr} {te : TE} {pos : Pos}
end
section
variable {X : Cx} {st : Stmt} {rest : List Stmt} {t u : TS} {e : Expr} {te : TE} {pos : Pos}
theorem zps_if {c : Expr} {a b : List Stmt} {tc : TT} (hc : SPT X c tc) (ha : SPSs X a t) (hb : SPSs X b u) : SPS X (.If c a b pos) (tIfS tc t u) := ⟨ps_if hc.out ha.out hb.out⟩
end
section
variable {X : Cx} {pos : Pos}
theorem zpg_name {i : Nat} {x : Str} (hN : X.N.Nodup) (hi : X.N[i]? = some x) (hx : Loc X.env.scope x) (hf : X.fn x = true ∨ X.env.scope.names.lookup x = some .local := by first | exact .inl rfl | exact .inr rfl | assumption) : SPG X (.Name x pos) (gName i) := ⟨pg_name hN hi hx hf⟩
end
section
variable {X : Cx} {pos : Pos}
theorem zpgs_nil  : SPGs X [] gNil := ⟨pgs_nil ⟩
end
section
variable {X : Cx} {pos : Pos}
theorem zpgs_cons {e : Expr} {es : List Expr} {t : TG} {u : TGs} (h1 : SPG X e t) (h2 : SPGs X es u) (hs : (assignEach (e :: es) X.env).map (·.2) = assign e X.env :: (assignEach es X.env).map (·.2) := by rfl) : SPGs X (e :: es) (gCons t u) := ⟨pgs_cons h1.out h2.out hs⟩
end
section
variable {X : Cx} {pos : Pos}
theorem zpg_tup {es : List Expr} {k : Nat} {t : TGs} {n : Nat} (hc : X.calm = true) (h : SPGs X es t) (hn : (assignEach es X.env).length = n := by rfl) (hst : (assignEach es X.env).findIdx? (·.1) = none := by rfl) : SPG X (.Tuple es k pos) (gTup X.K n t) := ⟨pg_tup hc h.out hn hst⟩
end
section
variable {X : Cx} {pos : Pos}
end
section
variable {X : Cx} {pos : Pos}
theorem zps_asg {tg e : Expr} {te : TE} {g : TG} (he : SPE X e te) (hg : SPG X tg g) (hs : swapsWithSole [tg] e pos.line X.env = pure false := by rfl) (hw : swappedStores [tg] e X.env = pure none := by rfl) (h1 : (assignEach [tg] X.env).map (·.2) = [assign tg X.env] := by rfl) : SPS X (.Assign [tg] e pos) (tAsg te g) := ⟨ps_asg he.out hg.out hs hw h1⟩
end
section
variable {X : Cx} {pos : Pos}
theorem zps_set {i : Nat} {x : Str} {e : Expr} {te : TE} {pos' : Pos} (hN : X.N.Nodup) (hi : X.N[i]? = some x) (hx : Loc X.env.scope x) (he : SPE X e te) (hs : swapsWith e (some (.Name x pos')) pos.line X.env = pure false := by rfl) (hf : X.fn x = true ∨ X.env.scope.names.lookup x = some .local := by first | exact .inl rfl | exact .inr rfl | assumption) : SPS X (.Assign [.Name x pos'] e pos) (tAsg te (gName i)) := ⟨ps_set hN hi hx he.out hs hf⟩
end
section
variable {X : Cx} {pos : Pos}
theorem zps_par {i j : Nat} {x y : Str} {a b : Expr} {ta : TA} {px py pt : Pos} {kt k2 pt2} (hc : X.calm = true) (hN : X.N.Nodup) (hi : X.N[i]? = some x) (hj : X.N[j]? = some y) (hij : i ≠ j) (hx : X.env.scope.names.lookup x = some .local) (hy : X.env.scope.names.lookup y = some .local) (ha : SPA X [a, b] ta) (hw : swappedStores [.Tuple [.Name x px, .Name y py] kt pt] (.Tuple [a, b] k2 pt2) X.env = pure (some [x, y])) (hs : swapsWithSole [.Tuple [.Name x px, .Name y py] kt pt] (.Tuple [a, b] k2 pt2) pos.line X.env = pure false := by rfl) : SPS X (.Assign [.Tuple [.Name x px, .Name y py] kt pt] (.Tuple [a, b] k2 pt2) pos) (tPar i j ta) := ⟨ps_par hc hN hi hj hij hx hy ha.out hw hs⟩
end
section
variable {X : Cx} {pos : Pos}
end
section
variable {X : Cx} {pos : Pos}
theorem zps_while {c : Expr} {body : List Stmt} {tc : TT} {tb : TS} (hp : PassesOwn (model X.prog X.w) X.A X.env X.xe) (hc : SPT X c tc) (hb : SPSs X body tb) : SPS X (.While c body [] pos) (tWhile tc tb) := ⟨ps_while hp hc.out hb.out⟩
end
section
variable {X : Cx} {tg : Expr}
theorem zpi_list {l : Expr} {tl : TE} (hl : SPE X l tl) : SPI X tg l (iList X.K tl) := ⟨pi_list hl.out⟩
end
section
variable {X : Cx} {tg : Expr}
end
section
variable {X : Cx} {tg : Expr}
theorem zpi_range1 {a : Expr} {ta : TA} {p pos : Pos} (hg : Gl X "range") (hm : X.mg "range" = none) (ha : SPA X [a] ta) (hs : starEach [a] X.env = [(false, eval a X.env)] := by rfl) : SPI X tg (.Call (.Name "range" p) [a] [] pos) (iRng1 ta) := ⟨pi_range1 hg hm ha.out hs⟩
end
section
variable {X : Cx} {tg : Expr}
theorem zpi_range2 {a b : Expr} {ta : TA} {p pos : Pos} (hg : Gl X "range") (hm : X.mg "range" = none) (ha : SPA X [a, b] ta) (hs : starEach [a, b] X.env = [(false, eval a X.env), (false, eval b X.env)] := by rfl) (hs2 : starEach [b] X.env = [(false, eval b X.env)] := by rfl) : SPI X tg (.Call (.Name "range" p) [a, b] [] pos) (iRng2 ta) := ⟨pi_range2 hg hm ha.out hs hs2⟩
end
section
variable {X : Cx} {es : List Expr} {tk : Nat} {tpos : Pos}
end
section
variable {X : Cx} {tg : Expr}
theorem zps_for {iter : Expr} {body : List Stmt} {wi : TI} {g : TG} {tb : TS} {pos : Pos} (hp : PassesOwn (model X.prog X.w) X.A X.env X.xe) (hc : X.calm = true) (hi : SPI X tg iter wi) (hg : SPG X tg g) (hb : SPSs X body tb) (hs : ∀ x, foldedSetIterable iter X.env x = pure x := by intro _; rfl) : SPS X (.For tg iter body [] pos) (tFor wi g tb) := ⟨ps_for hp hc hi.out hg.out hb.out hs⟩
end
section
variable {X : Cx} {a b c : Expr} {ta tb tc : TE} {pos : Pos}
theorem zpe_op {op : Operator} {r : R2} (ho : OpR X (binaryOp op) r) (ha : SPE X a ta) (hb : SPE X b tb) : SPE X (.BinOp a op b pos) (tOp r ta tb) := ⟨pe_op ho ha.out hb.out⟩
end
section
variable {X : Cx} {a b c : Expr} {ta tb tc : TE} {pos : Pos}
theorem zpe_un {op : UnaryOp} {r : V → Hp → VK → Prop} (ho : UnR X (unaryOp op) r) (ha : SPE X a ta) : SPE X (.UnaryOp op a pos) (tUn r ta) := ⟨pe_un ho ha.out⟩
end
section
variable {X : Cx} {a b c : Expr} {ta tb tc : TE} {pos : Pos}
theorem zpe_cmpR {op : CmpOp} {r : R2} (ho : OpR X (compareOp op) r) (ha : SPE X a ta) (hb : SPE X b tb) (hm : behindInMarks op b = false) : SPE X (.Compare a [op] [b] pos) (tOp r ta tb) := ⟨pe_cmpR ho ha.out hb.out hm⟩
end
section
variable {X : Cx} {a b c : Expr} {ta tb tc : TE} {pos : Pos}
theorem zpt_cmpR {op : CmpOp} {r : R2} (ho : OpR X (compareOp op) r) (ha : SPE X a ta) (hb : SPE X b tb) (hm : behindInMarks op b = false) : SPT X (.Compare a [op] [b] pos) (tTest (tOp r ta tb)) := ⟨pt_cmpR ho ha.out hb.out hm⟩
end
section
variable {X : Cx} {a b c : Expr} {ta tb tc : TE} {pos : Pos}
end
section
variable {X : Cx} {a b c : Expr} {ta tb tc : TE} {pos : Pos}
end
section
variable {X : Cx} {a b c : Expr} {ta tb tc : TE} {pos : Pos}
end
section
variable {X : Cx} {e : Expr} {es : List Expr} {te : TE} {t : TA} {pos : Pos}
theorem zpe_tup {x1} (h : SPA X es t) : SPE X (.Tuple es x1 pos) (tTup t) := ⟨pe_tup h.out⟩
end
section
variable {X : Cx} {e : Expr} {es : List Expr} {te : TE} {t : TA} {pos : Pos}
theorem zpe_lst (h : SPA X es t) : SPE X (.List es pos) (tLst t) := ⟨pe_lst h.out⟩
end
section
variable {X : Cx} {CX : CXT} {k : Nat} {f C : Addr} {fd : FuncData} {ps : List Str} {sp : Sp} {dvs : List V} {ds : List Value} {E : XK} {x m : Str} {p pos apos : Pos} {e o : Expr} {es : List Expr} {ta : TE} {t : TA}
theorem zpe_call (F : FnOk X.prog X.w X.K X.mg X.base CX k f fd ps sp) (hr : Room k X.A) (hg : Gl X x) (hm : X.mg x = some (.ref f)) (hk : PySem.W.keepIn X.K (.ref f) = true) (hb : Binds X.K fd ps ds) (hd : Vals dvs ds) (hx : Passes CX X E) (ha : SPA X (e :: es) t) (hdb : (x == ("__debug__" : Str)) = false := by decide) (he : starEach (e :: es) X.env = (false, eval e X.env) :: starEach es X.env := by rfl) (hpl : (backTo pos (starEach es X.env)).any (·.1) = false := by rfl) : SPE X (.Call (.Name x p) (e :: es) [] pos) (tCall sp dvs E t) := ⟨pe_call F hr hg hm hk hb hd hx ha.out hdb he hpl⟩
end
section
variable {X : Cx} {CX : CXT} {k : Nat} {f C : Addr} {fd : FuncData} {ps : List Str} {sp : Sp} {dvs : List V} {ds : List Value} {E : XK} {x m : Str} {p pos apos : Pos} {e o : Expr} {es : List Expr} {ta : TE} {t : TA}
end
section
variable {X : Cx} {x : Str} {p pos : Pos} {e : Expr} {es : List Expr} {t : TA} {id T : String} {r : List V → Hp → VK → Prop}
theorem zpe_callB (hc : CallR X (.builtin id) r) (hg : Gl X x) (hm : X.mg x = none) (hv : bootBuiltins x = some (.builtin id)) (ha : SPA X (e :: es) t) (hn : x ≠ "__name__" := by decide) (hdb : (x == ("__debug__" : Str)) = false := by decide) (he : starEach (e :: es) X.env = (false, eval e X.env) :: starEach es X.env := by rfl) (hpl : (backTo pos (starEach es X.env)).any (·.1) = false := by rfl) : SPE X (.Call (.Name x p) (e :: es) [] pos) (tCB r t) := ⟨pe_callB hc hg hm hv ha.out hn hdb he hpl⟩
end
section
variable {X : Cx} {x : Str} {p pos : Pos} {e : Expr} {es : List Expr} {t : TA} {id T : String} {r : List V → Hp → VK → Prop}
theorem zpe_callTy (hc : CallR X (.type T) r) (hg : Gl X x) (hm : X.mg x = none) (hv : bootBuiltins x = some (.type T)) (ha : SPA X (e :: es) t) (hn : x ≠ "__name__" := by decide) (hdb : (x == ("__debug__" : Str)) = false := by decide) (he : starEach (e :: es) X.env = (false, eval e X.env) :: starEach es X.env := by rfl) (hpl : (backTo pos (starEach es X.env)).any (·.1) = false := by rfl) : SPE X (.Call (.Name x p) (e :: es) [] pos) (tCB r t) := ⟨pe_callTy hc hg hm hv ha.out hn hdb he hpl⟩
end
section
variable {X : Cx} {x : Str} {p pos : Pos} {e : Expr} {es : List Expr} {t : TA} {id T : String} {r : List V → Hp → VK → Prop}
theorem zpe_callTy0 (hc : CallR X (.type T) r) (hg : Gl X x) (hm : X.mg x = none) (hv : bootBuiltins x = some (.type T)) (hn : x ≠ "__name__" := by decide) (hdb : (x == ("__debug__" : Str)) = false := by decide) : SPE X (.Call (.Name x p) [] [] pos) (tCB r tNil) := ⟨pe_callTy0 hc hg hm hv hn hdb⟩
end
section
variable {X : Cx} {e : Expr} {te : TE} {lo hi : Option Expr} {tl th : TO} {pos p2 : Pos}
theorem zpe_slice {r : V → Option Int → Option Int → Hp → VK → Prop} (hr : SlR X r) (he : SPE X e te) (hl : SPO X lo tl) (hu : SPO X hi th) : SPE X (.Subscript e (.Slice lo hi none p2) pos) (tSl r te tl th) := ⟨pe_slice hr he.out hl.out hu.out⟩
end
section
variable {X : Cx} {e : Expr} {te : TE} {lo hi : Option Expr} {tl th : TO} {pos p2 : Pos}
theorem zpo_none  : SPO X none tNoPart := ⟨po_none ⟩
end
section
variable {X : Cx} {e : Expr} {te : TE} {lo hi : Option Expr} {tl th : TO} {pos p2 : Pos}
theorem zpo_some (h : SPE X e te) : SPO X (some e) (tPart te) := ⟨po_some h.out⟩
end
section
variable {X : Cx} {a b : Expr} {ta tb : TE} {pos : Pos}
theorem zpe_ix {r : R2} (hr : IxR X r) (ha : SPE X a ta) (hb : SPE X b tb) (hs : PlainIx b) : SPE X (.Subscript a b pos) (tOp r ta tb) := ⟨pe_ix hr ha.out hb.out hs⟩
end
section
variable {X : Cx} {a b : Expr} {ta tb : TE} {pos : Pos} {o e : Expr} {es : List Expr} {to : TE} {t : TA} {name : Str} {apos cpos : Pos} {T id : String} {r : V → List V → Hp → VK → Prop}
theorem zpe_bm0 (pa : PlainAttrs T) (slot : Slot T name id) (hty : typeOf (.builtin id) = pure (.type "method_descriptor")) (hm : MtR X id r) (ho : SPE X o to) (hbase : attributeBase o name X.env (eval o X.env) = eval o X.env := by rfl) (hline : (apos.endLine == cpos.line) = true := by rfl) : SPE X (.Call (.Attribute o name apos) [] [] cpos) (tBM0 X.K T r to) := ⟨pe_bm0 pa slot hty hm ho.out hbase hline⟩
end
section
variable {X : Cx} {a b : Expr} {ta tb : TE} {pos : Pos} {o e : Expr} {es : List Expr} {to : TE} {t : TA} {name : Str} {apos cpos : Pos} {T id : String} {r : V → List V → Hp → VK → Prop}
theorem zpe_bm (pa : PlainAttrs T) (slot : Slot T name id) (hty : typeOf (.builtin id) = pure (.type "method_descriptor")) (hm : MtR X id r) (ho : SPE X o to) (ha : SPA X (e :: es) t) (hbase : attributeBase o name X.env (eval o X.env) = eval o X.env := by rfl) (hfew : ((backTo cpos (starEach (e :: es) X.env)).all (fun x => !x.1) && (backToKw cpos (keywordEach [] X.env)).all (fun x => x.1.isSome)
      && decide ((e :: es).length + ([] : List Keyword).length + (if ([] : List Keyword).isEmpty then 0 else 1) < 30)) = true := by rfl) (hline : (apos.endLine == cpos.line) = true := by rfl) (hs : starEach (e :: es) X.env = (false, eval e X.env) :: starEach es X.env := by rfl) (hplain : (backTo cpos (starEach es X.env)).any (·.1) = false := by rfl) : SPE X (.Call (.Attribute o name apos) (e :: es) [] cpos) (tBM X.K T r to t) := ⟨pe_bm pa slot hty hm ho.out ha.out hbase hfew hline hs hplain⟩
end
section
variable {X : Cx} {e : Expr} {es : List Expr} {te : TE} {t : TA} {pos : Pos}
theorem zpa_nil  : SPA X [] tNil := ⟨pa_nil ⟩
end
section
variable {X : Cx} {e : Expr} {es : List Expr} {te : TE} {t : TA} {pos : Pos}
end
section
theorem zpe_dict0 {X : Cx} {pos : Pos} : SPE X (.Dict [] [] pos) tDict0 := ⟨pe_dict0 ⟩
end
section
end
section
variable {X : Cx} {k : Nat} {f : Addr} {fd : FuncData} {ps : List Str} {sp : Sp} {dvs : List V} {ds : List Value} {x : Str} {p pos : Pos} {e : Expr} {es : List Expr} {t : TA}
end
section
variable {X : Cx} {k : Nat} {f : Addr} {fd : FuncData} {ps : List Str} {sp : Sp} {dvs : List V} {ds : List Value} {x : Str} {p pos : Pos} {e : Expr} {es : List Expr} {t : TA}
end
section
variable {X : Cx} {k : Nat} {f : Addr} {fd : FuncData} {ps : List Str} {sp : Sp} {dvs : List V} {ds : List Value} {x : Str} {p pos : Pos} {e : Expr} {es : List Expr} {t : TA}
end
section
variable {X : Cx} {k : Nat} {f : Addr} {fd : FuncData} {ps : List Str} {sp : Sp} {dvs : List V} {ds : List Value} {x : Str} {p pos : Pos} {e : Expr} {es : List Expr} {t : TA}
end
section
variable {X : Cx} {k : Nat} {f : Addr} {fd : FuncData} {ps : List Str} {sp : Sp} {dvs : List V} {ds : List Value} {x : Str} {p pos : Pos} {e : Expr} {es : List Expr} {t : TA}
end
section
theorem zps_cut {X : Cx} {st : Stmt} {t : TS} (h : SPS X st t) : SPS X st (tCut t) := ⟨ps_cut h.out⟩
end
section
variable {X : Cx} {es : List Expr} {t : TA} {te : TE} {pos : Pos} {l r : List Expr} {k : Nat} {o : Operator} {a b : Expr} {cst : Const} {x : Str} {u : UnaryOp} {kw : List Keyword} {f : Expr}
theorem zpac_c (ha : SPE X (.Constant cst k pos) te) (hr : SPA X es t) : SPA X (.Constant cst k pos :: es) (tCons te t) := ⟨pac_c ha.out hr.out⟩
end
section
variable {X : Cx} {es : List Expr} {t : TA} {te : TE} {pos : Pos} {l r : List Expr} {k : Nat} {o : Operator} {a b : Expr} {cst : Const} {x : Str} {u : UnaryOp} {kw : List Keyword} {f : Expr}
theorem zpac_n (ha : SPE X (.Name x pos) te) (hr : SPA X es t) : SPA X (.Name x pos :: es) (tCons te t) := ⟨pac_n ha.out hr.out⟩
end
section
variable {X : Cx} {es : List Expr} {t : TA} {te : TE} {pos : Pos} {l r : List Expr} {k : Nat} {o : Operator} {a b : Expr} {cst : Const} {x : Str} {u : UnaryOp} {kw : List Keyword} {f : Expr}
theorem zpac_l (ha : SPE X (.List l pos) te) (hr : SPA X es t) : SPA X (.List l pos :: es) (tCons te t) := ⟨pac_l ha.out hr.out⟩
end
section
variable {X : Cx} {es : List Expr} {t : TA} {te : TE} {pos : Pos} {l r : List Expr} {k : Nat} {o : Operator} {a b : Expr} {cst : Const} {x : Str} {u : UnaryOp} {kw : List Keyword} {f : Expr}
theorem zpac_t (ha : SPE X (.Tuple l k pos) te) (hr : SPA X es t) : SPA X (.Tuple l k pos :: es) (tCons te t) := ⟨pac_t ha.out hr.out⟩
end
section
variable {X : Cx} {es : List Expr} {t : TA} {te : TE} {pos : Pos} {l r : List Expr} {k : Nat} {o : Operator} {a b : Expr} {cst : Const} {x : Str} {u : UnaryOp} {kw : List Keyword} {f : Expr}
end
section
variable {X : Cx} {es : List Expr} {t : TA} {te : TE} {pos : Pos} {l r : List Expr} {k : Nat} {o : Operator} {a b : Expr} {cst : Const} {x : Str} {u : UnaryOp} {kw : List Keyword} {f : Expr}
theorem zpac_b (ha : SPE X (.BinOp a o b pos) te) (hr : SPA X es t) : SPA X (.BinOp a o b pos :: es) (tCons te t) := ⟨pac_b ha.out hr.out⟩
end
section
variable {X : Cx} {es : List Expr} {t : TA} {te : TE} {pos : Pos} {l r : List Expr} {k : Nat} {o : Operator} {a b : Expr} {cst : Const} {x : Str} {u : UnaryOp} {kw : List Keyword} {f : Expr}
end
section
variable {X : Cx} {es : List Expr} {t : TA} {te : TE} {pos : Pos} {l r : List Expr} {k : Nat} {o : Operator} {a b : Expr} {cst : Const} {x : Str} {u : UnaryOp} {kw : List Keyword} {f : Expr}
theorem zpac_f (ha : SPE X (.Call f l kw pos) te) (hr : SPA X es t) : SPA X (.Call f l kw pos :: es) (tCons te t) := ⟨pac_f ha.out hr.out⟩
end
section
variable {X : Cx} {es : List Expr} {t : TA} {te : TE} {pos : Pos} {l r : List Expr} {k : Nat} {o : Operator} {a b : Expr} {cst : Const} {x : Str} {u : UnaryOp} {kw : List Keyword} {f : Expr}
theorem zpac_s (ha : SPE X (.Subscript a b pos) te) (hr : SPA X es t) : SPA X (.Subscript a b pos :: es) (tCons te t) := ⟨pac_s ha.out hr.out⟩
end
structure SPTs (X : Cx) (ifs : List Expr) (t : TT) : Prop where
  out : PTs X ifs t
theorem zpts_nil {X : Cx} : SPTs X [] (fun _ H Q => Q true H) := ⟨pts_nil⟩
theorem zpts_one {X : Cx} {e : Expr} {t : TT} (h : SPT X e t) : SPTs X [e] t := ⟨pts_one h.out⟩
section
variable {X : Cx} {tg iter elt : Expr} {ifs : List Expr} {scope esc : Scope} {pos gpos p : Pos} {N os : List Str} {fi : List Nat} {wi : TI} {g : TG} {tt : TT} {te : TE} {c P : Addr} {k : Nat}
theorem zpi_str {l : Expr} {tl : TE} (hl : SPE X l tl) : SPI X tg l (iStr tl) := ⟨pi_str hl.out⟩
theorem zpe_comp (N os : List Str) (fi : List Nat) (esc : Scope) (hc : X.calm = true) (hN : X.N = N) (he : X.env.scope = esc) (B : BlkOk esc scope N fi) (hi : SPI X tg iter wi)
    (hg : ∀ s H fp, SPG (blk X scope (nB N os fi) s H fp) tg g) (ht : ∀ s H fp, SPTs (blk X scope (nB N os fi) s H fp) ifs tt) (hel : ∀ s H fp, SPE (blk X scope (nB N os fi) s H fp) elt te)
    (hs : ∀ x, foldedSetIterable iter X.env x = pure x := by intro _; rfl) : SPE X (.ListComp elt [⟨tg, iter, ifs, 0⟩] scope pos) (tLC os fi wi g tt te) :=
  ⟨pe_comp hc hN he B hi.out (fun s H fp => (hg s H fp).out) (fun s H fp => (ht s H fp).out) (fun s H fp => (hel s H fp).out) hs⟩
theorem zpe_all (N os : List Str) (fi : List Nat) (esc : Scope) (hc : X.calm = true) (hr : Room k X.A) (hgl : Gl X "all") (hm : X.mg "all" = none) (hcd : X.env.code = .ref c) (CK : CodeK X.K c P) (BM : BmK X) (hN : X.N = N) (he : X.env.scope = esc) (B : BlkOk esc scope N fi) (hco : scope.isCoroutine = false) (h0 : scope.names.lookup (".0" : Str) = some NameKind.local) (hi : SPI X tg iter wi)
    (hg : ∀ code s H fp, SPG (gblk X scope (nB N os fi) code s H fp) tg g) (hel : ∀ code s H fp, SPE (gblk X scope (nB N os fi) code s H fp) elt te)
    (hs : ∀ x, genFold iter X.env x = pure x := by intro _; rfl) : SPE X (.Call (.Name "all" p) [.GeneratorExp elt [⟨tg, iter, [], 0⟩] scope gpos] [] pos) (tAll P os fi wi g te) :=
  ⟨pe_all hc hr hgl hm hcd CK BM hN he B hco h0 hi.out (fun code s H fp => (hg code s H fp).out) (fun code s H fp => (hel code s H fp).out) hs⟩
end
section
variable {X : Cx} {elt tg iter tg2 iter2 : Expr} {ifs ifs2 : List Expr} {scope esc : Scope} {pos p : Pos} {N os : List Str} {fi : List Nat} {wi wi2 : TI} {g g2 : TG} {tt tt2 : TT} {te : TE}
theorem zpe_comp2 (N os : List Str) (fi : List Nat) (esc : Scope) (hc : X.calm = true) (hN : X.N = N) (he : X.env.scope = esc) (B : BlkOk esc scope N fi) (hi : SPI X tg iter wi)
    (hg : ∀ s H fp, SPG (blk X scope (nB N os fi) s H fp) tg g) (ht : ∀ s H fp, SPTs (blk X scope (nB N os fi) s H fp) ifs tt)
    (hi2 : ∀ s H fp, SPI (blk X scope (nB N os fi) s H fp) tg2 iter2 wi2) (hg2 : ∀ s H fp, SPG (blk X scope (nB N os fi) s H fp) tg2 g2) (ht2 : ∀ s H fp, SPTs (blk X scope (nB N os fi) s H fp) ifs2 tt2)
    (hel : ∀ s H fp, SPE (blk X scope (nB N os fi) s H fp) elt te)
    (hs : ∀ x, foldedSetIterable iter X.env x = pure x := by intro _; rfl) (hs2 : ∀ env x, foldedSetIterable iter2 env x = pure x := by intro _ _; rfl) :
    SPE X (.ListComp elt [⟨tg, iter, ifs, 0⟩, ⟨tg2, iter2, ifs2, 0⟩] scope pos) (tCG (fun _ => .lst []) os fi wi g tt fun D => tIn wi2 g2 tt2 (tEmL D te)) :=
  ⟨pe_comp2 hc hN he B hi.out (fun s H fp => (hg s H fp).out) (fun s H fp => (ht s H fp).out) (fun s H fp => (hi2 s H fp).out) (fun s H fp => (hg2 s H fp).out) (fun s H fp => (ht2 s H fp).out) (fun s H fp => (hel s H fp).out) hs hs2⟩
theorem zpe_setcomp (N os : List Str) (fi : List Nat) (esc : Scope) (hc : X.calm = true) (hN : X.N = N) (he : X.env.scope = esc) (B : BlkOk esc scope N fi) (hi : SPI X tg iter wi)
    (hg : ∀ s H fp, SPG (blk X scope (nB N os fi) s H fp) tg g) (ht : ∀ s H fp, SPTs (blk X scope (nB N os fi) s H fp) ifs tt)
    (hel : ∀ s H fp, SPE (blk X scope (nB N os fi) s H fp) elt te)
    (hs : ∀ x, foldedSetIterable iter X.env x = pure x := by intro _; rfl) :
    SPE X (.SetComp elt [⟨tg, iter, ifs, 0⟩] scope pos) (tCG (fun a => SetT X.prog X.w a []) os fi wi g tt fun D => tEmS X.prog X.w D te) :=
  ⟨pe_setcomp hc hN he B hi.out (fun s H fp => (hg s H fp).out) (fun s H fp => (ht s H fp).out) (fun s H fp => (hel s H fp).out) hs⟩
theorem zpe_setadd {o e : Expr} {to : TE} {t : TA} {apos cpos : Pos} (ho : SPE X o to) (ha : SPA X [e] t)
    (hbase : attributeBase o "add" X.env (eval o X.env) = eval o X.env := by rfl)
    (hfew : ((backTo cpos (starEach [e] X.env)).all (fun x => !x.1) && (backToKw cpos (keywordEach [] X.env)).all (fun x => x.1.isSome)
      && decide ([e].length + ([] : List Keyword).length + (if ([] : List Keyword).isEmpty then 0 else 1) < 30)) = true := by rfl)
    (hline : (apos.endLine == cpos.line) = true := by rfl) (hs : starEach [e] X.env = (false, eval e X.env) :: starEach [] X.env := by rfl) (hplain : (backTo cpos (starEach [] X.env)).any (·.1) = false := by rfl) :
    SPE X (.Call (.Attribute o "add" apos) [e] [] cpos) (tAddS X.prog X.w to t) := ⟨pe_setadd ho.out ha.out hbase hfew hline hs hplain⟩
theorem zpss_never {sts : List Stmt} : SPSs X sts tNever := ⟨pss_never⟩
theorem pac_x {e : Expr} {te : TE} {es : List Expr} {t : TA} (ha : PE X e te) (hr : PA X es t) (hs : starEach (e :: es) X.env = (false, eval e X.env) :: starEach es X.env := by rfl) : PA X (e :: es) (tCons te t) := pa_cons ha hr hs
theorem zpac_x {e : Expr} {te : TE} {es : List Expr} {t : TA} (ha : SPE X e te) (hr : SPA X es t) (hs : starEach (e :: es) X.env = (false, eval e X.env) :: starEach es X.env := by rfl) : SPA X (e :: es) (tCons te t) := ⟨pac_x ha.out hr.out hs⟩
end
theorem zpg_tupK {X : Cx} {es : List Expr} {k : Nat} {pos : Pos} {t : TGs} (K : PySem.W.Frag) (n : Nat) (hK : X.K = K) (hc : X.calm = true) (h : SPGs X es t) (hn : (assignEach es X.env).length = n := by rfl) (hst : (assignEach es X.env).findIdx? (·.1) = none := by rfl) : SPG X (.Tuple es k pos) (gTup K n t) := hK ▸ zpg_tup hc h hn hst
section
variable {X : Cx} {kx vx tg iter : Expr} {ifs : List Expr} {scope esc : Scope} {pos p : Pos} {N os : List Str} {fi : List Nat} {wi : TI} {g : TG} {tt : TT} {tk tv : TE}
theorem zpe_dictcomp (N os : List Str) (fi : List Nat) (esc : Scope) (hc : X.calm = true) (hN : X.N = N) (he : X.env.scope = esc) (B : BlkOk esc scope N fi) (hi : SPI X tg iter wi)
    (hg : ∀ s H fp, SPG (blk X scope (nB N os fi) s H fp) tg g) (ht : ∀ s H fp, SPTs (blk X scope (nB N os fi) s H fp) ifs tt)
    (hk : ∀ s H fp, SPE (blk X scope (nB N os fi) s H fp) kx tk) (hv : ∀ s H fp, SPE (blk X scope (nB N os fi) s H fp) vx tv)
    (hs : ∀ x, foldedSetIterable iter X.env x = pure x := by intro _; rfl) :
    SPE X (.DictComp kx vx [⟨tg, iter, ifs, 0⟩] scope pos) (tCG (fun _ => .dK []) os fi wi g tt fun D => tEmD D tk tv) :=
  ⟨pe_dictcomp hc hN he B hi.out (fun s H fp => (hg s H fp).out) (fun s H fp => (ht s H fp).out) (fun s H fp => (hk s H fp).out) (fun s H fp => (hv s H fp).out) hs⟩
theorem zpe_dget {o i : Expr} {td ty : TE} (hu : X.A.units + 1 < cLine) (ho : SPE X o td) (hi : SPE X i ty) (hs : NoSl i) : SPE X (.Subscript o i pos) (tDGet td ty) := ⟨pe_dget hu ho.out hi.out hs⟩
end
theorem Room.units1 {k : Nat} {A : Around} (r : Room k A) : A.units + 1 < cLine := by have := r.un; omega
theorem zpa_star {X : Cx} {e : Expr} {es : List Expr} {te : TE} {t : TA} {p : Pos} (ha : SPE X e te) (hr : SPA X es t) : SPA X (.Starred e p :: es) (tStar te t) := ⟨pa_star ha.out hr.out⟩
section
variable {X : Cx} {elt kx vx tg iter tg2 iter2 : Expr} {ifs ifs2 : List Expr} {scope esc : Scope} {pos p : Pos} {N os : List Str} {fi : List Nat} {wi wi2 : TI} {g g2 : TG} {tt tt2 : TT} {te tk tv : TE}
theorem zpe_compL (N os : List Str) (fi : List Nat) (esc : Scope) (hc : X.calm = true) (hN : X.N = N) (he : X.env.scope = esc) (B : BlkOk esc scope N fi) (hi : SPI X tg iter wi)
    (hg : ∀ s H fp, SPG (blk X scope (nB N os fi) s H fp) tg g) (ht : ∀ s H fp, SPTs (blk X scope (nB N os fi) s H fp) ifs tt) (hel : ∀ s H fp, SPE (blk X scope (nB N os fi) s H fp) elt te)
    (hs : ∀ x, foldedSetIterable iter X.env x = pure x := by intro _; rfl) : SPE X (.ListComp elt [⟨tg, iter, ifs, 0⟩] scope pos) (tCG (fun _ => .lst []) os fi wi g tt fun D => tEmL D te) :=
  ⟨pe_compL hc hN he B hi.out (fun s H fp => (hg s H fp).out) (fun s H fp => (ht s H fp).out) (fun s H fp => (hel s H fp).out) hs⟩
theorem zpe_compC (N os : List Str) (fi : List Nat) (esc : Scope) (hc : X.calm = true) (hN : X.N = N) (he : X.env.scope = esc) (B : BlkC esc scope N fi) (hi : SPI X tg iter wi)
    (hg : ∀ s H fp, SPG (blkC X scope (nB N os fi) s H fp) tg g) (ht : ∀ s H fp, SPTs (blkC X scope (nB N os fi) s H fp) ifs tt) (hel : ∀ s H fp, SPE (blkC X scope (nB N os fi) s H fp) elt te)
    (hs : ∀ x, foldedSetIterable iter X.env x = pure x := by intro _; rfl) : SPE X (.ListComp elt [⟨tg, iter, ifs, 0⟩] scope pos) (tCG (fun _ => .lst []) os fi wi g tt fun D => tEmL D te) :=
  ⟨pe_compC hc hN he B hi.out (fun s H fp => (hg s H fp).out) (fun s H fp => (ht s H fp).out) (fun s H fp => (hel s H fp).out) hs⟩
theorem zpe_dictcompC (N os : List Str) (fi : List Nat) (esc : Scope) (hc : X.calm = true) (hN : X.N = N) (he : X.env.scope = esc) (B : BlkC esc scope N fi) (hi : SPI X tg iter wi)
    (hg : ∀ s H fp, SPG (blkC X scope (nB N os fi) s H fp) tg g) (ht : ∀ s H fp, SPTs (blkC X scope (nB N os fi) s H fp) ifs tt) (hk : ∀ s H fp, SPE (blkC X scope (nB N os fi) s H fp) kx tk) (hv : ∀ s H fp, SPE (blkC X scope (nB N os fi) s H fp) vx tv)
    (hs : ∀ x, foldedSetIterable iter X.env x = pure x := by intro _; rfl) : SPE X (.DictComp kx vx [⟨tg, iter, ifs, 0⟩] scope pos) (tCG (fun _ => .dK []) os fi wi g tt fun D => tEmD D tk tv) :=
  ⟨pe_dictcompC hc hN he B hi.out (fun s H fp => (hg s H fp).out) (fun s H fp => (ht s H fp).out) (fun s H fp => (hk s H fp).out) (fun s H fp => (hv s H fp).out) hs⟩
theorem zps_compL (N os : List Str) (fi : List Nat) (esc : Scope) {i : Nat} {y : Str} {py spos : Pos} (hc : X.calm = true) (hN : X.N = N) (he : X.env.scope = esc) (B : BlkOk esc scope N fi) (hnd : X.N.Nodup) (hy : X.N[i]? = some y) (hl : Loc X.env.scope y) (hi : SPI X tg iter wi)
    (hg : ∀ s H fp, SPG (blk X scope (nB N os fi) s H fp) tg g) (ht : ∀ s H fp, SPTs (blk X scope (nB N os fi) s H fp) ifs tt) (hel : ∀ s H fp, SPE (blk X scope (nB N os fi) s H fp) elt te)
    (hsw : swapsWith (.ListComp elt [⟨tg, iter, ifs, 0⟩] scope pos) (some (.Name y py)) spos.line X.env = pure true := by rfl)
    (hfn : X.fn y = true ∨ X.env.scope.names.lookup y = some .local := by first | exact .inl rfl | exact .inr rfl | assumption)
    (hs : ∀ x, foldedSetIterable iter X.env x = pure x := by intro _; rfl) : SPS X (.Assign [.Name y py] (.ListComp elt [⟨tg, iter, ifs, 0⟩] scope pos) spos) (fun D σ H => tCG (fun _ => .lst []) os fi wi g tt (fun D => tEmL D te) σ H fun v H' => D.nx (σ.set i (some v)) H') :=
  ⟨ps_compL hc hN he B hnd hy hl hi.out (fun s H fp => (hg s H fp).out) (fun s H fp => (ht s H fp).out) (fun s H fp => (hel s H fp).out) hsw hfn hs⟩
theorem zps_dictcomp (N os : List Str) (fi : List Nat) (esc : Scope) {i : Nat} {y : Str} {py spos : Pos} (hc : X.calm = true) (hN : X.N = N) (he : X.env.scope = esc) (B : BlkOk esc scope N fi) (hnd : X.N.Nodup) (hy : X.N[i]? = some y) (hl : Loc X.env.scope y) (hi : SPI X tg iter wi)
    (hg : ∀ s H fp, SPG (blk X scope (nB N os fi) s H fp) tg g) (ht : ∀ s H fp, SPTs (blk X scope (nB N os fi) s H fp) ifs tt) (hk : ∀ s H fp, SPE (blk X scope (nB N os fi) s H fp) kx tk) (hv : ∀ s H fp, SPE (blk X scope (nB N os fi) s H fp) vx tv)
    (hsw : swapsWith (.DictComp kx vx [⟨tg, iter, ifs, 0⟩] scope pos) (some (.Name y py)) spos.line X.env = pure true := by rfl)
    (hfn : X.fn y = true ∨ X.env.scope.names.lookup y = some .local := by first | exact .inl rfl | exact .inr rfl | assumption)
    (hs : ∀ x, foldedSetIterable iter X.env x = pure x := by intro _; rfl) : SPS X (.Assign [.Name y py] (.DictComp kx vx [⟨tg, iter, ifs, 0⟩] scope pos) spos) (fun D σ H => tCG (fun _ => .dK []) os fi wi g tt (fun D => tEmD D tk tv) σ H fun v H' => D.nx (σ.set i (some v)) H') :=
  ⟨ps_dictcomp hc hN he B hnd hy hl hi.out (fun s H fp => (hg s H fp).out) (fun s H fp => (ht s H fp).out) (fun s H fp => (hk s H fp).out) (fun s H fp => (hv s H fp).out) hsw hfn hs⟩
theorem zps_comp2 (N os : List Str) (fi : List Nat) (esc : Scope) {i : Nat} {y : Str} {py spos : Pos} (hc : X.calm = true) (hN : X.N = N) (he : X.env.scope = esc) (B : BlkOk esc scope N fi) (hnd : X.N.Nodup) (hy : X.N[i]? = some y) (hl : Loc X.env.scope y) (hi : SPI X tg iter wi)
    (hg : ∀ s H fp, SPG (blk X scope (nB N os fi) s H fp) tg g) (ht : ∀ s H fp, SPTs (blk X scope (nB N os fi) s H fp) ifs tt)
    (hi2 : ∀ s H fp, SPI (blk X scope (nB N os fi) s H fp) tg2 iter2 wi2) (hg2 : ∀ s H fp, SPG (blk X scope (nB N os fi) s H fp) tg2 g2) (ht2 : ∀ s H fp, SPTs (blk X scope (nB N os fi) s H fp) ifs2 tt2)
    (hel : ∀ s H fp, SPE (blk X scope (nB N os fi) s H fp) elt te)
    (hsw : swapsWith (.ListComp elt [⟨tg, iter, ifs, 0⟩, ⟨tg2, iter2, ifs2, 0⟩] scope pos) (some (.Name y py)) spos.line X.env = pure true := by rfl)
    (hfn : X.fn y = true ∨ X.env.scope.names.lookup y = some .local := by first | exact .inl rfl | exact .inr rfl | assumption)
    (hs : ∀ x, foldedSetIterable iter X.env x = pure x := by intro _; rfl) (hs2 : ∀ env x, foldedSetIterable iter2 env x = pure x := by intro _ _; rfl) :
    SPS X (.Assign [.Name y py] (.ListComp elt [⟨tg, iter, ifs, 0⟩, ⟨tg2, iter2, ifs2, 0⟩] scope pos) spos) (fun D σ H => tCG (fun _ => .lst []) os fi wi g tt (fun D => tIn wi2 g2 tt2 (tEmL D te)) σ H fun v H' => D.nx (σ.set i (some v)) H') :=
  ⟨ps_comp2 hc hN he B hnd hy hl hi.out (fun s H fp => (hg s H fp).out) (fun s H fp => (ht s H fp).out) (fun s H fp => (hi2 s H fp).out) (fun s H fp => (hg2 s H fp).out) (fun s H fp => (ht2 s H fp).out) (fun s H fp => (hel s H fp).out) hsw hfn hs hs2⟩
theorem zpi_rev {a : Expr} {ta : TA} (hg : Gl X "reversed") (hm : X.mg "reversed" = none) (ha : SPA X [a] ta) (hs : starEach [a] X.env = [(false, eval a X.env)] := by rfl) : SPI X tg (.Call (.Name "reversed" p) [a] [] pos) (iRev ta) := ⟨pi_rev hg hm ha.out hs⟩
theorem zpe_range1 {a : Expr} {ta : TA} (hg : Gl X "range") (hm : X.mg "range" = none) (ha : SPA X [a] ta) (hs : starEach [a] X.env = [(false, eval a X.env)] := by rfl) : SPE X (.Call (.Name "range" p) [a] [] pos) (tRange ta) := ⟨pe_range1 hg hm ha.out hs⟩
theorem zps_daug {o i value : Expr} {td ty tv : TE} {tpos : Pos} {op : Operator} {rd : V → V → Hp → VK → Prop} (hu : X.A.units + 1 < cLine) (ho : SPE X o td) (hi : SPE X i ty) (hv : SPE X value tv) (hop : InOp X op rd)
    (ha : ∀ ov iv new, augStore i ov iv new = (do holding [new, ov, iv] (setItem ov iv new); release [new, ov, iv] []; pure .next) := by intros; rfl) : SPS X (.AugAssign (.Subscript o i tpos) op value pos) (sDAug td ty tv rd) := ⟨ps_daug hu ho.out hi.out hv.out hop ha⟩
end
end L2
namespace L2
open PySem PySem.Spec PyProof.Rows
section
variable {P : Program} {w : World} {K : PySem.W.Frag} {mg : Str → Option Value} {base : Heap} {x qual : Str} {st : Stmt} {dV : Value} {f : Addr} {fd : FuncData} {N ps : List Str} {k : Nat} {sp : Sp}
theorem FunG.zokN (F : FunG K x qual st dV f fd) (S : FnScope N ps (defScope st)) (len : ∀ vs H Q E, sp vs H Q E → vs.length = ps.length)
    (hbody : ∀ (cdv : Value) (A : Around) (outer : List Env) (s : Shared) (H : Hp) (vs : List V) (Q : VK) (E : XK), Room k (A.deeper (envOfC qual (defScope st) s.heap.objs.size f cdv)) → sp vs H Q E →
      ∃ t, SPSs (cxOf (CXE P w) P w K mg base N qual (defScope st) f cdv A outer s H E).nox (defBody st) t ∧ t { nx := fun _ H' => Q .non H', rt := Q } (start N vs) H) : FnOk P w K mg base (CXE P w) (k + 1) f fd ps sp :=
  F.okN S len fun cdv A outer s H vs Q E hr hsp => by
    obtain ⟨t, h, q⟩ := hbody cdv A outer s H vs Q E hr hsp
    exact ⟨t, h.out, q⟩
end
end L2
namespace L2
open PySem PySem.Spec PyProof.Rows
section
variable {P : Program} {w : World} {K : PySem.W.Frag} {mg : Str → Option Value} {base : Heap} {x qual : Str} {st : Stmt} {dV kV doc pm ct oc : Value} {an od : Option Addr} {osl : Array (Option Value)} {f c : Addr} {N ps : List Str} {k : Nat} {sp : Sp}
theorem okC (lk : K.lookup f = some ⟨oc, od, .func (PySem.W.fnOf x qual (defArgs st) (defBody st) (defScope st) dV kV doc pm an (.ref c) ct), osl⟩) (hcd : PySem.W.codeIn K (.ref c) qual = true) (S : FnScope N ps (defScope st)) (len : ∀ vs H Q E, sp vs H Q E → vs.length = ps.length)
    (hbody : ∀ (A : Around) (outer : List Env) (s : Shared) (H : Hp) (vs : List V) (Q : VK) (E : XK), Room k (A.deeper (envOfC qual (defScope st) s.heap.objs.size f (.ref c))) → sp vs H Q E →
      ∃ t, SPSs (cxOf (CXE P w) P w K mg base N qual (defScope st) f (.ref c) A outer s H E).nox (defBody st) t ∧ t { nx := fun _ H' => Q .non H', rt := Q } (start N vs) H) :
    FnOk P w K mg base (CXE P w) (k + 1) f (PySem.W.fnOf x qual (defArgs st) (defBody st) (defScope st) dV kV doc pm an (.ref c) ct) ps sp :=
  fn_of lk hcd S len fun A outer s H vs Q E hr h => by
    obtain ⟨t, h1, h2⟩ := hbody A outer s H vs Q E hr h
    exact ⟨t, h1.out.nox, h2⟩
end
theorem boot_str : bootBuiltins "str" = some (.type "str") := by decide +kernel
end L2
namespace G1
open PySem L2 GM
def letters : Str := "abcdefghijklmnopqrstuvwxyz"
def occ (c : Nat) : Bool := !(Builtin.Str.occurrences letters ⟨#[c]⟩ 0 letters.length 1).isEmpty
def nameB : V → Bool
  | .str z => decide (z ≠ "") && (decide (z.length ≤ 8) && z.cps.toList.all occ)
  | _ => false
def isS : V → Bool
  | .str _ => true
  | _ => false
section
variable {P : Program} {w : World} {K : PySem.W.Frag} {mg : Str → Option Value} {base : Heap}
theorem ks1 : PySem.W.kitOne K (.type "int") (.type "str") = some false := by kernel_rfl
theorem ks2 : PySem.W.kitOne K (.type "bool") (.type "str") = some false := by kernel_rfl
theorem ks3 : PySem.W.kitOne K (.type "NoneType") (.type "str") = some false := by kernel_rfl
theorem ks4 : PySem.W.kitOne K (.type "str") (.type "str") = some true := by kernel_rfl
theorem ks5 : PySem.W.kitOne K (.type "list") (.type "str") = some false := by kernel_rfl
theorem ks6 : PySem.W.kitOne K (.type "tuple") (.type "str") = some false := by kernel_rfl
theorem ks7 : PySem.W.kitOne K (.type "dict") (.type "str") = some false := by kernel_rfl
theorem _root_.L2.Th.tyS {H : Hp} {x : V} (h : Th H x) : ∃ t, TyX K H x t ∧ PySem.W.kitOne K t (.type "str") = some (isS x) := by
  cases h with
  | non => exact ⟨_, .of .non, ks3⟩
  | bl b => exact ⟨_, .of (.bl b), ks2⟩
  | int i => exact ⟨_, .of (.int i), ks1⟩
  | str x => exact ⟨_, .of (.str x), ks4⟩
  | lst h => exact ⟨_, .of (.lst h), ks5⟩
  | tup h => exact ⟨_, .of (.tup h), ks6⟩
  | dK h => exact ⟨_, .of (.dK h), ks7⟩
def spName (T : Addr) : Sp := fun vs H Q _ => ∃ x ps, vs = [x] ∧ Th H x ∧ (∀ z, x = .str z → z.length ≤ sizeLine) ∧ H T = some (.tbl ps) ∧ TriplesOk ps.toList ∧ ∀ ps', TriplesOk ps'.toList → Q (.bl (nameB x)) (upd H T (.tbl ps'))
theorem scN : FnScope ["thing"] ["thing"] (defScope sName) := ⟨rfl, rfl, rfl, by decide +kernel, rfl, by decide +kernel, by decide +kernel⟩
theorem ok_name {f c T : Addr} {kV doc pm ct oc : Value} {an od : Option Addr} {osl : Array (Option Value)} {t1 t2 : Tok}
    (lk : K.lookup f = some ⟨oc, od, .func (PySem.W.fnOf "is_name" "is_name" (defArgs sName) (defBody sName) (defScope sName) .none kV doc pm an (.ref c) ct), osl⟩) (hcd : PySem.W.codeIn K (.ref c) "is_name" = true)
    (B : Bl mg) (CK : CodeK K c T) (hbm : BmOf mg base) (mL : mg "LETTERS" = some (.str letters t1)) (mM : mg "LONGEST_NAME" = some (.int 8 t2)) :
    FnOk P w K mg base (CXE P w) 2 f (PySem.W.fnOf "is_name" "is_name" (defArgs sName) (defBody sName) (defScope sName) .none kV doc pm an (.ref c) ct) ["thing"] (spName T) := by
  refine okC lk hcd scN (fun vs H Q E h => ?_) (fun A outer s H vs Q E hr h => ?_)
  · obtain ⟨x, ps, rfl, _⟩ := h
    rfl
  · obtain ⟨x, ps, rfl, hx, len, hT, tr, q⟩ := h
    refine ⟨_, zpss_cons (zps_if (zpw_or (zpt_not (zpt_val (zpe_callB call_isi (by rfl) B.isi boot_isi (zpac_n (zpv 0) (zpac_n (zpe_bltn (by rfl) B.str boot_str (v := .ty "str") rfl) zpa_nil)))))
        (zpw_or (zpt_cmpR op_eq (zpv 0) zpe_str (nomark _)) (zpw_or1 (zpt_cmpR op_gt (zpe_callB call_len_str (by rfl) B.len PySem.boot_len (zpac_n (zpv 0) zpa_nil)) (zpe_glob (by rfl) mM (v := .int 8) ⟨_, rfl⟩) (nomark _))))).pt (zpss_one (zps_ret zpe_bl)) zpss_nil)
      (zpss_one (zps_ret (zpe_all ["thing"] ["sign"] [] (defScope sName) rfl hr (by rfl) B.all rfl CK ⟨hbm⟩ rfl rfl ⟨by decide +kernel, by decide +kernel, by decide +kernel, by decide +kernel, by decide +kernel⟩ (by decide +kernel) (by decide +kernel) (zpi_str (zpv 0))
        (fun code s H fp => zpg_name (i := 0) (show List.Nodup [("sign" : Str)] by decide +kernel) rfl (Or.inl rfl)) (fun code s H fp => zpe_cmpR op_in_str (zpv 0) (zpe_glob (by rfl) mL (v := .str letters) ⟨_, rfl⟩) rfl)))), ?_⟩
    obtain ⟨t, ty, e1⟩ := hx.tyS (K := K)
    refine ⟨_, rfl, _, _, t, isS x, rfl, ty, .inl ⟨_, rfl, e1⟩, _, rfl, ?_⟩
    have self : ∀ {b : Bool}, nameB x = b → Q (.bl b) H := fun {b} e => by
      have := q ps tr
      rw [upd_self hT, e] at this
      exact this
    cases x with
    | str z =>
      refine iteF ⟨_, rfl, rfl, _, rfl, ?_⟩
      refine ite2 (fun e => ?_) (fun e => ?_)
      · have e' : V.str z = V.str "" := of_decide_eq_true e
        injection e' with e'
        refine iteT (self ?_)
        simp [nameB, e']
      · have ne : z ≠ "" := fun y => e (decide_eq_true (by rw [y]))
        refine ⟨_, rfl, z, rfl, len z rfl, _, _, rfl, rfl, _, rfl, ?_⟩
        refine ite2 (fun e8 => ?_) (fun e8 => ?_)
        · have g8 : (8 : Int) < (z.length : Int) := of_decide_eq_true e8
          refine self ?_
          have : decide (z.length ≤ 8) = false := decide_eq_false (by omega)
          simp [nameB, this]
        · have l8 : z.length ≤ 8 := by
            have : ¬ (8 : Int) < (z.length : Int) := fun y => e8 (decide_eq_true y)
            omega
          refine ⟨_, rfl, z, rfl, ps, hT, tr, fun ps' tr' => ?_⟩
          refine ⟨fun i m σ2 H2 => H2 = upd H T (.tbl ps') ∧ i ≤ z.cps.size ∧ m = z.cps.size - i ∧ (∃ v, σ2 = [v]) ∧ (∀ j c, j < i → z.cps[j]? = some c → occ c = true), ⟨_, rfl, Nat.zero_le _, rfl, ⟨_, rfl⟩, fun j c hj => absurd hj (Nat.not_lt_zero _)⟩, ?_⟩
          rintro i m σ2 H2 ⟨rfl, hi, rfl, ⟨v, rfl⟩, ok⟩
          by_cases hlt : i < z.cps.size
          · refine .inr ⟨hlt, ?_⟩
            rintro y H3 ⟨rfl, c, hc, rfl⟩
            refine ⟨_, rfl, ⟨#[c]⟩, letters, rfl, rfl, _, rfl, ?_⟩
            cases ho : occ c with
            | true =>
              rw [if_pos (show (!(Builtin.Str.occurrences letters ⟨#[c]⟩ 0 letters.length 1).isEmpty) = true from ho)]
              refine ⟨z.cps.size - (i + 1), by omega, rfl, hlt, rfl, ⟨_, rfl⟩, fun j d hj hd => ?_⟩
              rcases Nat.lt_or_ge j i with h | h
              · exact ok j d h hd
              · have e : j = i := by omega
                subst e
                rw [hc] at hd; cases hd
                exact ho
            | false =>
              rw [if_neg (by rw [show (!(Builtin.Str.occurrences letters ⟨#[c]⟩ 0 letters.length 1).isEmpty) = false from ho]; decide)]
              have e : nameB (.str z) = false := by
                have a : z.cps.toList.all occ = false := by
                  rw [List.all_eq_false]
                  exact ⟨c, by
                    have : z.cps.toList[i]? = some c := by simpa using hc
                    exact List.mem_of_getElem? this, by rw [ho]; decide⟩
                simp [nameB, a]
              rw [← e, ← show (!(Builtin.Str.occurrences letters ⟨#[c]⟩ 0 letters.length 1).isEmpty) = nameB (.str z) from by rw [e]; exact ho]
              have := q ps' tr'
              rw [e] at this
              rw [show (!(Builtin.Str.occurrences letters ⟨#[c]⟩ 0 letters.length 1).isEmpty) = false from ho]
              exact this
          · have e : i = z.cps.size := by omega
            subst e
            refine .inl ⟨rfl, ?_⟩
            have a : z.cps.toList.all occ = true := by
              rw [List.all_eq_true]
              intro c hc
              obtain ⟨j, hj⟩ := List.getElem?_of_mem hc
              have hj' : z.cps[j]? = some c := by simpa using hj
              exact ok j c (Array.getElem?_eq_some_iff.mp hj').1 hj'
            have n1 : nameB (.str z) = true := by
              simp [nameB, ne, l8]
              simpa using a
            have := q ps' tr'
            rw [n1] at this
            exact this
    | _ => exact iteT (self rfl)
end
end G1
namespace G1
open PySem L2 GM
def FrP (H : Hp) (x : V) : Prop := ∃ a n d, x = .ref a ∧ H a = some (.tup [.int n, .int d]) ∧ 0 < d ∧ Nat.gcd n.natAbs d.natAbs = 1
noncomputable def frB (H : Hp) (x : V) : Bool := @decide (FrP H x) (Classical.propDecidable _)
theorem frB_t {H : Hp} {x : V} (h : FrP H x) : frB H x = true := by unfold frB; exact @decide_eq_true _ (Classical.propDecidable _) h
theorem frB_f {H : Hp} {x : V} (h : ¬ FrP H x) : frB H x = false := by unfold frB; exact @decide_eq_false _ (Classical.propDecidable _) h
structure ThD (H : Hp) (x : V) : Prop where
  th : Th H x
  parts : ∀ a xs, x = .ref a → H a = some (.tup xs) → ∀ y ∈ xs, Th H y
  few : ∀ a n d, x = .ref a → H a = some (.tup [.int n, .int d]) → d.natAbs < big
  str : ∀ z, x = .str z → z.length ≤ sizeLine
section
variable {P : Program} {w : World} {K : PySem.W.Frag} {mg : Str → Option Value} {base : Heap}
theorem kq1 : PySem.W.kitOne K (.type "int") (.type "tuple") = some false := by kernel_rfl
theorem kq2 : PySem.W.kitOne K (.type "bool") (.type "tuple") = some false := by kernel_rfl
theorem kq3 : PySem.W.kitOne K (.type "NoneType") (.type "tuple") = some false := by kernel_rfl
theorem kq4 : PySem.W.kitOne K (.type "str") (.type "tuple") = some false := by kernel_rfl
theorem kq5 : PySem.W.kitOne K (.type "list") (.type "tuple") = some false := by kernel_rfl
theorem kq7 : PySem.W.kitOne K (.type "dict") (.type "tuple") = some false := by kernel_rfl
theorem _root_.L2.Th.tyT {H : Hp} {x : V} (h : Th H x) : ∃ t b, TyX K H x t ∧ PySem.W.kitOne K t (.type "tuple") = some b ∧ ((b = true ∧ ∃ a xs, x = .ref a ∧ H a = some (.tup xs)) ∨ (b = false ∧ ∀ a xs, x = .ref a → H a ≠ some (.tup xs))) := by
  cases h with
  | non => exact ⟨_, _, .of .non, kq3, .inr ⟨rfl, nofun⟩⟩
  | bl b => exact ⟨_, _, .of (.bl b), kq2, .inr ⟨rfl, nofun⟩⟩
  | int i => exact ⟨_, _, .of (.int i), kq1, .inr ⟨rfl, nofun⟩⟩
  | str x => exact ⟨_, _, .of (.str x), kq4, .inr ⟨rfl, nofun⟩⟩
  | lst h => exact ⟨_, _, .of (.lst h), kq5, .inr ⟨rfl, fun a xs e z => by cases e; rw [h] at z; cases z⟩⟩
  | tup h => exact ⟨_, _, .of (.tup h), kt1, .inl ⟨rfl, _, _, rfl, h⟩⟩
  | dK h => exact ⟨_, _, .of (.dK h), kq7, .inr ⟨rfl, fun a xs e z => by cases e; rw [h] at z; cases z⟩⟩
def spIsF : Sp := fun vs H Q _ => ∃ x, vs = [x] ∧ ThD H x ∧ Q (.bl (frB H x)) H
theorem scIF : FnScope ["thing", "top", "bottom"] ["thing"] (defScope sIsF) := ⟨rfl, rfl, rfl, by decide +kernel, rfl, by decide +kernel, by decide +kernel⟩
theorem two_of {xs : List V} (h : xs.length = 2) : ∃ y z, xs = [y, z] := by
  match xs, h with
  | [y, z], _ => exact ⟨y, z, rfl⟩
theorem ok_isF {f fW fG : Addr} {fd fdW fdG : FuncData} (F : FunG K "is_fraction" "is_fraction" sIsF .none f fd) (B : Bl mg)
    (GW : FnOk P w K mg base (CXE P w) 1 fW fdW ["thing"] spWhole) (mW : mg "is_whole" = some (.ref fW)) (kW : PySem.W.keepIn K (.ref fW) = true) (bW : Binds K fdW ["thing"] [])
    (GG : FnOk P w K mg base (CXE P w) 1 fG fdG ["one", "other"] spGcd) (mG : mg "common_divisor" = some (.ref fG)) (kG : PySem.W.keepIn K (.ref fG) = true) (bG : Binds K fdG ["one", "other"] []) :
    FnOk P w K mg base (CXE P w) 2 f fd ["thing"] spIsF := by
  refine F.zokN scIF (fun vs H Q E h => ?_) (fun cdv A outer s H vs Q E hr h => ?_)
  · obtain ⟨x, rfl, _⟩ := h
    rfl
  · obtain ⟨x, rfl, hx, q⟩ := h
    refine ⟨_, zpss_cons (zps_if (zpw_or (zpt_not (zpt_val (zpe_callB call_isi (by rfl) B.isi boot_isi (zpac_n (zpv 0) (zpac_n (zpe_bltn (by rfl) B.tuple boot_tuple (v := .ty "tuple") rfl) zpa_nil)))))
        (zpw_or1 (zpt_cmpR op_ne (zpe_callB call_len_seq (by rfl) B.len PySem.boot_len (zpac_n (zpv 0) zpa_nil)) zpe_int (nomark _)))).pt (zpss_one (zps_ret zpe_bl)) zpss_nil)
      (zpss_cons (zps_asg (zpv 0) (zpg_tup rfl (zpgs_cons (zpg_name (i := 1) scIF.nd rfl (Or.inl rfl)) (zpgs_cons (zpg_name (i := 2) scIF.nd rfl (Or.inl rfl)) zpgs_nil))))
      (zpss_cons (zps_if (zpw_or (zpt_not (zpt_val (zpe_call GW hr (by rfl) mW kW bW .nil passE0 (zpac_n (zpv 1) zpa_nil)))) (zpw_or (zpt_not (zpt_val (zpe_call GW hr (by rfl) mW kW bW .nil passE0 (zpac_n (zpv 2) zpa_nil))))
        (zpw_or1 (zpt_cmpR op_lt (zpv 2) zpe_int (nomark _))))).pt (zpss_one (zps_ret zpe_bl)) zpss_nil)
      (zpss_one (zps_ret (zpe_cmpR op_eq (zpe_call GG hr (by rfl) mG kG bG .nil passE0 (zpac_n (zpv 1) (zpac_n (zpv 2) zpa_nil))) zpe_int (nomark _)))))), ?_⟩
    obtain ⟨t, b, ty, e1, hb⟩ := hx.th.tyT (K := K)
    refine ⟨_, rfl, _, _, t, b, rfl, ty, .inl ⟨_, rfl, e1⟩, _, rfl, ?_⟩
    rcases hb with ⟨rfl, a, xs, rfl, ha⟩ | ⟨rfl, no⟩
    · refine iteF ⟨_, rfl, a, xs, rfl, .inr (SqT.of ha), rfl, _, rfl, ?_⟩
      refine ite2 (fun e => ?_) (fun e => ?_)
      · rw [frB_f (by
          rintro ⟨a', n, d, e', h', _⟩
          cases e'
          rw [ha] at h'; cases h'
          simp at e)] at q
        exact q
      · have l2 : xs.length = 2 := by
          by_cases z : xs.length = 2
          · exact z
          · exfalso
            apply e
            simp
            omega
        obtain ⟨y, z, rfl⟩ := two_of l2
        have ty := hx.parts a _ rfl ha y (by simp)
        have tz := hx.parts a _ rfl ha z (by simp)
        refine ⟨_, rfl, a, _, rfl, SqT.of ha, rfl, _, _, rfl, _, _, rfl, rfl, ?_⟩
        refine ⟨_, rfl, y, rfl, ty, _, rfl, ?_⟩
        cases hy : isW y with
        | false =>
          refine iteT (iteT ?_)
          rw [frB_f (by
            rintro ⟨a', n, d, e', h', _⟩
            cases e'
            rw [ha] at h'; cases h'
            cases hy)] at q
          exact q
        | true =>
          refine iteF ⟨_, rfl, z, rfl, tz, _, rfl, ?_⟩
          cases hz : isW z with
          | false =>
            refine iteT (iteT ?_)
            rw [frB_f (by
              rintro ⟨a', n, d, e', h', _⟩
              cases e'
              rw [ha] at h'; cases h'
              cases hz)] at q
            exact q
          | true =>
            obtain ⟨n, rfl⟩ : ∃ n, y = .int n := by cases y <;> first | exact ⟨_, rfl⟩ | cases hy
            obtain ⟨d, rfl⟩ : ∃ d, z = .int d := by cases z <;> first | exact ⟨_, rfl⟩ | cases hz
            refine iteF ⟨_, rfl, _, _, rfl, rfl, _, rfl, ?_⟩
            refine ite2 (fun e1 => ?_) (fun e1 => ?_)
            · have d1 : d < 1 := of_decide_eq_true e1
              rw [frB_f (by
                rintro ⟨a', n', d', e', h', p, _⟩
                cases e'
                rw [ha] at h'; cases h'
                omega)] at q
              exact q
            · have d1 : ¬ d < 1 := fun z => e1 (decide_eq_true z)
              refine ⟨_, rfl, _, rfl, n, d, rfl, rfl, ?_⟩
              by_cases g1 : Nat.gcd n.natAbs d.natAbs = 1
              · rw [frB_t ⟨a, n, d, rfl, ha, by omega, g1⟩] at q
                rw [show decide (V.int (gd n d) = V.int 1) = true from decide_eq_true (by unfold gd; rw [g1]; rfl)]
                exact q
              · rw [frB_f (by
                  rintro ⟨a', n', d', e', h', p, g⟩
                  cases e'
                  rw [ha] at h'; cases h'
                  exact g1 g)] at q
                rw [show decide (V.int (gd n d) = V.int 1) = false from decide_eq_false (by
                  unfold gd
                  intro z
                  injection z with z
                  omega)]
                exact q
    · refine iteT (iteT ?_)
      rw [frB_f (by
        rintro ⟨a, n, d, e, h, _⟩
        exact no a _ e h)] at q
      exact q
end
end G1
namespace G1
open PySem L2 GM
def Kp (H H' : Hp) : Prop := ∀ b o, H b = some o → (∀ ps, o ≠ .tbl ps) → H' b = some o
theorem Kp.refl {H : Hp} : Kp H H := fun _ _ h _ => h
theorem Kp.trans {H H1 H2 : Hp} (a : Kp H H1) (b : Kp H1 H2) : Kp H H2 := fun c o h n => b c o (a c o h n) n
theorem Kp.same {H H' : Hp} (s : Same H H') : Kp H H' := fun b o h _ => s b o h
theorem Kp.new {H : Hp} {p : Addr} {o : HO} (h : H p = none) : Kp H (upd H p o) := Kp.same (same_upd h)
theorem Kp.lst {H H' : Hp} {a : Addr} {xs : List V} (k : Kp H H') (h : H a = some (.lst xs)) : H' a = some (.lst xs) := k a _ h nofun
theorem Kp.tup {H H' : Hp} {a : Addr} {xs : List V} (k : Kp H H') (h : H a = some (.tup xs)) : H' a = some (.tup xs) := k a _ h nofun
def Tab (T : Addr) (H : Hp) : Prop := ∃ ps, H T = some (.tbl ps) ∧ TriplesOk ps.toList
theorem Kp.tab {H : Hp} {T : Addr} {ps' : Array Value} (h : Tab T H) : Kp H (upd H T (.tbl ps')) := fun b o e n => by
  obtain ⟨ps, hp, _⟩ := h
  rw [upd_ne (fun z => by rw [z, hp] at e; cases e; exact n _ rfl)]; exact e
theorem Tab.new {H : Hp} {T p : Addr} {o : HO} (h : Tab T H) (n : H p = none) : Tab T (upd H p o) := by
  obtain ⟨ps, hp, t⟩ := h
  exact ⟨ps, by rw [upd_ne (ne_of_none hp n)]; exact hp, t⟩
theorem Tab.put {H : Hp} {T T' : Addr} {ps' : Array Value} (h : Tab T H) (t : TriplesOk ps'.toList) : Tab T (upd H T' (.tbl ps')) := by
  obtain ⟨ps, hp, t0⟩ := h
  by_cases e : T = T'
  · subst e; exact ⟨ps', upd_same, t⟩
  · exact ⟨ps, by rw [upd_ne e]; exact hp, t0⟩
theorem Tab.set {H : Hp} {T p : Addr} {o o' : HO} (h : Tab T H) (n : H p = some o') (no : ∀ ps, o' ≠ .tbl ps) : Tab T (upd H p o) := by
  obtain ⟨ps, hp, t⟩ := h
  exact ⟨ps, by rw [upd_ne (fun z => by rw [z, n] at hp; cases hp; exact no _ rfl)]; exact hp, t⟩
theorem Tab.same {H H' : Hp} {T : Addr} (h : Tab T H) (s : Same H H') : Tab T H' := by
  obtain ⟨ps, hp, t⟩ := h
  exact ⟨ps, s _ _ hp, t⟩
structure TabL (T : Addr) (Ts : List Addr) (H : Hp) : Prop where
  h : Tab T H
  all : ∀ U ∈ Ts, Tab U H
section
variable {T : Addr} {Ts : List Addr} {H H' : Hp}
theorem TabL.new {p : Addr} {o : HO} (x : TabL T Ts H) (n : H p = none) : TabL T Ts (upd H p o) := ⟨x.h.new n, fun U hU => (x.all U hU).new n⟩
theorem TabL.put {T' : Addr} {ps' : Array Value} (x : TabL T Ts H) (t : TriplesOk ps'.toList) : TabL T Ts (upd H T' (.tbl ps')) := ⟨x.h.put t, fun U hU => (x.all U hU).put t⟩
theorem TabL.set {p : Addr} {o o' : HO} (x : TabL T Ts H) (n : H p = some o') (no : ∀ ps, o' ≠ .tbl ps) : TabL T Ts (upd H p o) := ⟨x.h.set n no, fun U hU => (x.all U hU).set n no⟩
theorem TabL.same (x : TabL T Ts H) (s : Same H H') : TabL T Ts H' := ⟨x.h.same s, fun U hU => (x.all U hU).same s⟩
end
structure PrA (H : Hp) (x : V) : Prop where
  ex : ∃ a n d, x = .ref a ∧ H a = some (.tup [.int n, .int d]) ∧ 0 < n ∧ 0 < d ∧ Nat.gcd n.natAbs d.natAbs = 1 ∧ n ≤ 1000000000 ∧ d ≤ 1000000000
theorem PrA.kp {H H' : Hp} {x : V} (h : PrA H x) (k : Kp H H') : PrA H' x := by
  obtain ⟨a, n, d, e, ha, r⟩ := h.ex
  exact ⟨a, n, d, e, k.tup ha, r⟩
theorem PrA.ext {H H' : Hp} {p : Addr} {x : V} (h : PrA H x) (hp : ∃ xs, H p = some (.lst xs)) (k : Ext p H H') : PrA H' x := by
  obtain ⟨a, n, d, e, ha, r⟩ := h.ex
  obtain ⟨xs, hp⟩ := hp
  exact ⟨a, n, d, e, k _ _ (fun z => by rw [z, hp] at ha; cases ha) ha, r⟩
theorem small_big {d : Int} (h0 : 0 < d) (h : d ≤ 1000000000) : d.natAbs < big := Nat.lt_of_le_of_lt (show d.natAbs ≤ 1000000000 by omega) (by decide +kernel)
theorem PrA.thd {H : Hp} {x : V} (h : PrA H x) : ThD H x := by
  obtain ⟨a, n, d, rfl, ha, n0, d0, g, n1, d1⟩ := h.ex
  refine ⟨.tup ha, fun b xs e hb y hy => ?_, fun b n' d' e hb => ?_, nofun⟩
  · cases e
    rw [ha] at hb; cases hb
    rcases List.mem_cons.mp hy with rfl | hy
    · exact .int _
    · rw [List.mem_singleton.mp hy]; exact .int _
  · cases e
    rw [ha] at hb; cases hb
    exact small_big d0 d1
theorem PrA.fr {H : Hp} {x : V} (h : PrA H x) : frB H x = true := by
  obtain ⟨a, n, d, rfl, ha, n0, d0, g, _⟩ := h.ex
  exact frB_t ⟨a, n, d, rfl, ha, d0, g⟩
section
variable {P : Program} {w : World} {K : PySem.W.Frag} {mg : Str → Option Value} {base : Heap}
def inB : V → Int → Int → Bool
  | .int i, lo, hi => decide (lo ≤ i) && decide (i ≤ hi)
  | _, _, _ => false
def spWithin : Sp := fun vs H Q _ => ∃ (x : V) (lo hi : Int), vs = [x, .int lo, .int hi] ∧ Th H x ∧ Q (.bl (inB x lo hi)) H
theorem scWi : FnScope ["thing", "least", "most"] ["thing", "least", "most"] (defScope sWithin) := ⟨rfl, rfl, rfl, by decide +kernel, rfl, by decide +kernel, by decide +kernel⟩
theorem ok_within {f fW : Addr} {fd fdW : FuncData} (F : FunG K "is_whole_within" "is_whole_within" sWithin .none f fd)
    (GW : FnOk P w K mg base (CXE P w) 1 fW fdW ["thing"] spWhole) (mW : mg "is_whole" = some (.ref fW)) (kW : PySem.W.keepIn K (.ref fW) = true) (bW : Binds K fdW ["thing"] []) :
    FnOk P w K mg base (CXE P w) 2 f fd ["thing", "least", "most"] spWithin := by
  refine F.zokN scWi (fun vs H Q E h => ?_) (fun cdv A outer s H vs Q E hr h => ?_)
  · obtain ⟨x, lo, hi, rfl, _⟩ := h
    rfl
  · obtain ⟨x, lo, hi, rfl, hx, q⟩ := h
    refine ⟨_, zpss_one (zps_ret (zpe_and (zpe_call GW hr (by rfl) mW kW bW .nil passE0 (zpac_n (zpv 0) zpa_nil)) (zpe_and (zpe_cmpR op_le (zpv 1) (zpv 0) (nomark _)) (zpe_one (zpe_cmpR op_le (zpv 0) (zpv 2) (nomark _)))))), ?_⟩
    refine ⟨_, rfl, x, rfl, hx, _, rfl, ?_⟩
    cases x with
    | int i =>
      refine iteT ⟨_, rfl, _, rfl, _, _, rfl, rfl, _, rfl, ?_⟩
      refine ite2 (fun e => ?_) (fun e => ?_)
      · refine ⟨_, rfl, _, rfl, _, _, rfl, rfl, ?_⟩
        have : inB (.int i) lo hi = decide (i ≤ hi) := by simp [inB, of_decide_eq_true e]
        rw [this] at q
        exact q
      · have : inB (.int i) lo hi = false := by
          have : decide (lo ≤ i) = false := by simpa using e
          simp [inB, this]
        rw [this] at q
        exact q
    | _ => exact iteF q
def spAbove : Sp := fun vs H Q _ => ∃ x, vs = [x] ∧ PrA H x ∧ Q (.bl true) H
theorem scAb : FnScope ["thing"] ["thing"] (defScope sAbove) := ⟨rfl, rfl, rfl, by decide +kernel, rfl, by decide +kernel, by decide +kernel⟩
theorem ok_above {f fF : Addr} {fd fdF : FuncData} (F : FunG K "is_above_nought" "is_above_nought" sAbove .none f fd)
    (GF : FnOk P w K mg base (CXE P w) 2 fF fdF ["thing"] spIsF) (mF : mg "is_fraction" = some (.ref fF)) (kF : PySem.W.keepIn K (.ref fF) = true) (bF : Binds K fdF ["thing"] []) :
    FnOk P w K mg base (CXE P w) 3 f fd ["thing"] spAbove := by
  refine F.zokN scAb (fun vs H Q E h => ?_) (fun cdv A outer s H vs Q E hr h => ?_)
  · obtain ⟨x, rfl, _⟩ := h
    rfl
  · obtain ⟨x, rfl, hx, q⟩ := h
    refine ⟨_, zpss_one (zps_ret (zpe_and (zpe_call GF hr (by rfl) mF kF bF .nil passE0 (zpac_n (zpv 0) zpa_nil)) (zpe_one (zpe_cmpR op_gt (zpe_ix ix_tup (zpv 0) zpe_int (fun _ _ => rfl)) zpe_int (nomark _))))), ?_⟩
    refine ⟨_, rfl, x, rfl, hx.thd, _, rfl, ?_⟩
    rw [hx.fr]
    obtain ⟨a, n, d, rfl, ha, n0, d0, g, n1, d1⟩ := hx.ex
    refine iteT ⟨_, rfl, a, _, _, _, rfl, rfl, SqT.of ha, rfl, _, _, rfl, rfl, ?_⟩
    have : decide ((0 : Int) < n) = true := decide_eq_true (by omega)
    show Q (V.bl (decide ((0 : Int) < n))) H
    rw [this]
    exact q
def sg1 (c : Nat) : Str := ⟨#[c]⟩
structure Row (H : Hp) (x : V) (c : Nat) : Prop where
  ex : ∃ a p l, x = .ref a ∧ H a = some (.tup [.str (sg1 c), p, l]) ∧ PrA H p ∧ (l = .non ∨ PrA H l)
  oc : occ c = true
theorem Row.kp {H H' : Hp} {x : V} {c : Nat} (h : Row H x c) (k : Kp H H') : Row H' x c := by
  obtain ⟨a, p, l, e, ha, hp, hl⟩ := h.ex
  exact ⟨⟨a, p, l, e, k.tup ha, hp.kp k, hl.imp id fun z => z.kp k⟩, h.oc⟩
theorem name1 {c : Nat} (h : occ c = true) : nameB (.str (sg1 c)) = true := by
  have : sg1 c ≠ "" := fun z => by
    have : (sg1 c).length = ("" : Str).length := by rw [z]
    exact absurd this (by show (1 : Nat) ≠ 0; decide)
  have l : (sg1 c).length ≤ 8 := by show (1 : Nat) ≤ 8; decide
  have a : (sg1 c).cps.toList.all occ = true := by
    show [c].all occ = true
    simp [h]
  simp only [nameB, decide_eq_true this, decide_eq_true l, a, Bool.and_self]
def spLetter (T : Addr) : Sp := fun vs H Q _ => ∃ c, vs = [.str (sg1 c)] ∧ occ c = true ∧ Tab T H ∧ ∀ ps', TriplesOk ps'.toList → Q (.bl true) (upd H T (.tbl ps'))
theorem scLe : FnScope ["thing"] ["thing"] (defScope sLetter) := ⟨rfl, rfl, rfl, by decide +kernel, rfl, by decide +kernel, by decide +kernel⟩
theorem ok_letter {T f fN : Addr} {fd fdN : FuncData} (F : FunG K "is_letter" "is_letter" sLetter .none f fd) (B : Bl mg)
    (GN : FnOk P w K mg base (CXE P w) 2 fN fdN ["thing"] (spName T)) (mN : mg "is_name" = some (.ref fN)) (kN : PySem.W.keepIn K (.ref fN) = true) (bN : Binds K fdN ["thing"] []) :
    FnOk P w K mg base (CXE P w) 3 f fd ["thing"] (spLetter T) := by
  refine F.zokN scLe (fun vs H Q E h => ?_) (fun cdv A outer s H vs Q E hr h => ?_)
  · obtain ⟨c, rfl, _⟩ := h
    rfl
  · obtain ⟨c, rfl, hc, ht, q⟩ := h
    refine ⟨_, zpss_one (zps_ret (zpe_and (zpe_call GN hr (by rfl) mN kN bN .nil passE0 (zpac_n (zpv 0) zpa_nil)) (zpe_one (zpe_cmpR op_eq (zpe_callB call_len_str (by rfl) B.len PySem.boot_len (zpac_n (zpv 0) zpa_nil)) zpe_int (nomark _))))), ?_⟩
    obtain ⟨ps, hT, tr⟩ := id ht
    have len1 : (sg1 c).length = 1 := rfl
    refine ⟨_, rfl, _, ps, rfl, .str _, fun z e => by injection e with e; rw [← e, len1]; decide, hT, tr, fun ps' tr' => ⟨_, rfl, ?_⟩⟩
    rw [name1 hc]
    refine iteT ⟨_, rfl, sg1 c, rfl, by rw [len1]; decide, rfl, ?_⟩
    exact q ps' tr'
def spRow (T : Addr) : Sp := fun vs H Q _ => ∃ x c, vs = [x] ∧ Row H x c ∧ Tab T H ∧ ∀ ps', TriplesOk ps'.toList → Q (.bl true) (upd H T (.tbl ps'))
theorem scRo : FnScope ["thing", "sign", "price", "last"] ["thing"] (defScope sRow) := ⟨rfl, rfl, rfl, by decide +kernel, rfl, by decide +kernel, by decide +kernel⟩
theorem ok_row {T f fL fA : Addr} {fd fdL fdA : FuncData} (F : FunG K "is_sign_row" "is_sign_row" sRow .none f fd) (B : Bl mg)
    (GL : FnOk P w K mg base (CXE P w) 3 fL fdL ["thing"] (spLetter T)) (mL : mg "is_letter" = some (.ref fL)) (kL : PySem.W.keepIn K (.ref fL) = true) (bL : Binds K fdL ["thing"] [])
    (GA : FnOk P w K mg base (CXE P w) 3 fA fdA ["thing"] spAbove) (mA : mg "is_above_nought" = some (.ref fA)) (kA : PySem.W.keepIn K (.ref fA) = true) (bA : Binds K fdA ["thing"] []) :
    FnOk P w K mg base (CXE P w) 4 f fd ["thing"] (spRow T) := by
  refine F.zokN scRo (fun vs H Q E h => ?_) (fun cdv A outer s H vs Q E hr h => ?_)
  · obtain ⟨x, c, rfl, _⟩ := h
    rfl
  · obtain ⟨x, c, rfl, hx, ht, q⟩ := h
    refine ⟨_, zpss_cons (zps_if (zpw_or (zpt_not (zpt_val (zpe_callB call_isi (by rfl) B.isi boot_isi (zpac_n (zpv 0) (zpac_n (zpe_bltn (by rfl) B.tuple boot_tuple (v := .ty "tuple") rfl) zpa_nil)))))
        (zpw_or1 (zpt_cmpR op_ne (zpe_callB call_len_seq (by rfl) B.len PySem.boot_len (zpac_n (zpv 0) zpa_nil)) zpe_int (nomark _)))).pt zpss_never zpss_nil)
      (zpss_cons (zps_asg (zpv 0) (zpg_tup rfl (zpgs_cons (zpg_name (i := 1) scRo.nd rfl (Or.inl rfl)) (zpgs_cons (zpg_name (i := 2) scRo.nd rfl (Or.inl rfl)) (zpgs_cons (zpg_name (i := 3) scRo.nd rfl (Or.inl rfl)) zpgs_nil)))))
      (zpss_one (zps_ret (zpe_and (zpe_call GL hr (by rfl) mL kL bL .nil passE0 (zpac_n (zpv 1) zpa_nil)) (zpe_and (zpe_call GA hr (by rfl) mA kA bA .nil passE0 (zpac_n (zpv 2) zpa_nil)) (zpe_one (zpe_or (zpe_cmpR op_isN (zpv 3) zpe_non (nomark _)) (zpe_one (zpe_call GA hr (by rfl) mA kA bA .nil passE0 (zpac_n (zpv 3) zpa_nil)))))))))), ?_⟩
    obtain ⟨a, p, l, rfl, ha, hp, hl⟩ := hx.ex
    refine ⟨_, rfl, _, _, _, true, rfl, .of (.tup ha), .inl ⟨_, rfl, kt1⟩, _, rfl, iteF ?_⟩
    refine ⟨_, rfl, a, _, rfl, .inr (SqT.of ha), rfl, _, rfl, iteF ?_⟩
    refine ⟨_, rfl, a, _, rfl, SqT.of ha, rfl, _, _, rfl, _, _, rfl, _, _, rfl, rfl, ?_⟩
    refine ⟨_, rfl, c, rfl, hx.oc, ht, fun ps' tr' => ⟨_, rfl, iteT ?_⟩⟩
    have k : Kp H (upd H T (.tbl ps')) := Kp.tab ht
    refine ⟨_, rfl, _, rfl, hp.kp k, _, rfl, iteT ⟨_, rfl, rfl, _, rfl, ?_⟩⟩
    rcases hl with rfl | hl
    · exact iteT (q ps' tr')
    · have ne : l ≠ .non := fun z => by
        obtain ⟨_, _, _, e, _⟩ := hl.ex
        rw [z] at e; cases e
      rw [decide_eq_false ne]
      exact iteF ⟨_, rfl, _, rfl, hl.kp k, q ps' tr'⟩
end
end G1
namespace L2
open PySem
theorem boot_list : bootBuiltins "list" = some (.type "list") := by decide +kernel
theorem kl1 {K : PySem.W.Frag} : PySem.W.kitOne K (.type "list") (.type "list") = some true := by kernel_rfl
theorem kst1 {K : PySem.W.Frag} : PySem.W.kitOne K (.type "str") (.type "str") = some true := by kernel_rfl
theorem ix_tupK {X : Cx} (K : PySem.W.Frag) (h : X.K = K) : IxR X (rIxT K) := h ▸ ix_tup
end L2
namespace G1
open PySem L2 GM
theorem Kp.upd_new {H H1 H2 : Hp} {l : Addr} {o : HO} (k1 : Kp H H1) (n : H1 l = none) (k2 : Kp H H2) : Kp H (upd H2 l o) := fun b u h hn => by
  rw [upd_ne (ne_of_none (k1 b u h hn) n)]; exact k2 b u h hn
structure Rows (H : Hp) (xs : List V) (cs : List Nat) : Prop where
  len : xs.length = cs.length
  row : ∀ (i : Nat) (x : V) (c : Nat), xs[i]? = some x → cs[i]? = some c → Row H x c
theorem Rows.kp {H H' : Hp} {xs : List V} {cs : List Nat} (h : Rows H xs cs) (k : Kp H H') : Rows H' xs cs := ⟨h.len, fun i x c e1 e2 => (h.row i x c e1 e2).kp k⟩
theorem Rows.at {H : Hp} {xs : List V} {cs : List Nat} {i : Nat} {x : V} (h : Rows H xs cs) (e : xs[i]? = some x) : ∃ c, cs[i]? = some c ∧ Row H x c := by
  have hi : i < cs.length := by rw [← h.len]; exact (List.getElem?_eq_some_iff.mp e).1
  exact ⟨cs[i], List.getElem?_eq_getElem hi, h.row i x _ e (List.getElem?_eq_getElem hi)⟩
theorem sg1_inj {a b : Nat} (h : sg1 a = sg1 b) : a = b := by
  unfold sg1 at h
  injection h with h
  injection h with h
  injection h
theorem take_fresh {cs : List Nat} (h : cs.Nodup) {i c : Nat} (e : cs[i]? = some c) : sg1 c ∉ (cs.take i).map sg1 := fun m => by
  obtain ⟨d, hd, z⟩ := List.mem_map.mp m
  have := sg1_inj z
  subst this
  obtain ⟨j, hj⟩ := List.getElem?_of_mem hd
  have hj' : j < i := by
    have := (List.getElem?_eq_some_iff.mp hj).1
    rw [List.length_take] at this; omega
  rw [List.getElem?_take_of_lt hj'] at hj
  obtain ⟨hi1, hi2⟩ := List.getElem?_eq_some_iff.mp e
  obtain ⟨hj1, hj2⟩ := List.getElem?_eq_some_iff.mp hj
  have := (List.getElem_inj (h₀ := hj1) (h₁ := hi1) h).mp (by rw [hi2, hj2])
  omega
section
variable {P : Program} {w : World} {K : PySem.W.Frag} {mg : Str → Option Value} {base : Heap}
def spSigns (T1 T2 : Addr) (Ts : List Addr) : Sp := fun vs H Q _ => ∃ (L : Addr) (xs : List V) (cs : List Nat), vs = [.ref L] ∧ H L = some (.lst xs) ∧ Rows H xs cs ∧ cs.Nodup ∧ 2 ≤ cs.length ∧ cs.length ≤ 6 ∧ Tab T1 H ∧ TabL T2 Ts H ∧ ∀ H', Kp H H' → Tab T1 H' → TabL T2 Ts H' → Q (.bl true) H'
theorem scSi : FnScope ["thing"] ["thing"] (defScope sSigns) := ⟨rfl, rfl, rfl, by decide +kernel, rfl, by decide +kernel, by decide +kernel⟩
theorem ok_signs {T1 T2 f c fR : Addr} {Ts : List Addr} {fdR : FuncData} {kV doc pm ct oc : Value} {an od : Option Addr} {osl : Array (Option Value)} {t1 t2 : Tok}
    (lk : K.lookup f = some ⟨oc, od, .func (PySem.W.fnOf "are_signs" "are_signs" (defArgs sSigns) (defBody sSigns) (defScope sSigns) .none kV doc pm an (.ref c) ct), osl⟩) (hcd : PySem.W.codeIn K (.ref c) "are_signs" = true)
    (B : Bl mg) (CK : CodeK K c T2) (hbm : BmOf mg base) (mF : mg "FEWEST_SIGNS" = some (.int 2 t1)) (mM : mg "MOST_SIGNS" = some (.int 6 t2))
    (GR : FnOk P w K mg base (CXE P w) 4 fR fdR ["thing"] (spRow T1)) (mR : mg "is_sign_row" = some (.ref fR)) (kR : PySem.W.keepIn K (.ref fR) = true) (bR : Binds K fdR ["thing"] []) :
    FnOk P w K mg base (CXE P w) 6 f (PySem.W.fnOf "are_signs" "are_signs" (defArgs sSigns) (defBody sSigns) (defScope sSigns) .none kV doc pm an (.ref c) ct) ["thing"] (spSigns T1 T2 Ts) := by
  refine okC lk hcd scSi (fun vs H Q E h => ?_) (fun A outer s H vs Q E hr h => ?_)
  · obtain ⟨L, xs, cs, rfl, _⟩ := h
    rfl
  · obtain ⟨L, xs, cs, rfl, hL, rows, nd, c2, c6, ht1, ht2, q⟩ := h
    refine ⟨_, zpss_cons (zps_if (zpw_or (zpt_not (zpt_val (zpe_callB call_isi (by rfl) B.isi boot_isi (zpac_n (zpv 0) (zpac_n (zpe_bltn (by rfl) B.list boot_list (v := .ty "list") rfl) zpa_nil)))))
        (zpw_or (zpt_cmpR op_lt (zpe_callB call_len_seq (by rfl) B.len PySem.boot_len (zpac_n (zpv 0) zpa_nil)) (zpe_glob (by rfl) mF (v := .int 2) ⟨_, rfl⟩) (nomark _))
        (zpw_or1 (zpt_cmpR op_gt (zpe_callB call_len_seq (by rfl) B.len PySem.boot_len (zpac_n (zpv 0) zpa_nil)) (zpe_glob (by rfl) mM (v := .int 6) ⟨_, rfl⟩) (nomark _))))).pt zpss_never zpss_nil)
      (zpss_cons (zps_if (zpt_not (zpt_val (zpe_all ["thing"] ["row"] [] (defScope sSigns) rfl hr (by rfl) B.all rfl CK ⟨hbm⟩ rfl rfl ⟨by decide +kernel, by decide +kernel, by decide +kernel, by decide +kernel, by decide +kernel⟩ (by decide +kernel) (by decide +kernel) (zpi_list (zpv 0))
          (fun code s H fp => zpg_name (i := 0) (show List.Nodup [("row" : Str)] by decide +kernel) rfl (Or.inl rfl)) (fun code s H fp => zpe_call GR hr.gen (by rfl) mR kR bR .nil passE0 (zpac_n (zpv 0) zpa_nil))))) zpss_never zpss_nil)
      (zpss_one (zps_ret (zpe_cmpR op_eq (zpe_callB call_len_setT (by rfl) B.len PySem.boot_len (zpac_x (zpe_setcomp ["thing"] ["row"] [] (defScope sSigns) rfl rfl rfl ⟨by decide +kernel, by decide +kernel, by decide +kernel, by decide +kernel, by decide +kernel⟩ (zpi_list (zpv 0))
          (fun s H fp => zpg_name (i := 0) (show List.Nodup [("row" : Str)] by decide +kernel) rfl (Or.inl rfl)) (fun s H fp => zpts_nil) (fun s H fp => zpe_ix (ix_tupK K rfl) (zpv 0) zpe_int (fun _ _ => rfl))) zpa_nil))
        (zpe_callB call_len_seq (by rfl) B.len PySem.boot_len (zpac_n (zpv 0) zpa_nil)) (nomark _))))), ?_⟩
    have ln : xs.length = cs.length := rows.len
    refine ⟨_, rfl, _, _, _, true, rfl, .of (.lst hL), .inl ⟨_, rfl, kl1⟩, _, rfl, iteF ?_⟩
    refine ⟨_, rfl, L, _, rfl, .inl (SqL.of hL), _, _, rfl, rfl, _, rfl, ?_⟩
    refine ite2 (fun e => absurd (of_decide_eq_true e) (by omega)) (fun _ => ?_)
    refine ⟨_, rfl, L, _, rfl, .inl (SqL.of hL), _, _, rfl, rfl, _, rfl, ?_⟩
    refine ite2 (fun e => absurd (of_decide_eq_true e) (by omega)) (fun _ => ?_)
    obtain ⟨ps2, hT2, tr2⟩ := id ht2.h
    refine ⟨_, rfl, L, rfl, ⟨_, SqL.of hL⟩, ps2, hT2, tr2, fun ps' tr' => ?_⟩
    refine ⟨fun i m σ2 H2 => i ≤ cs.length ∧ m = cs.length - i ∧ (∃ v, σ2 = [v]) ∧ Kp H H2 ∧ Tab T1 H2 ∧ TabL T2 Ts H2, ⟨_, Nat.zero_le _, rfl, ⟨_, rfl⟩, Kp.tab ht2.h, ht1.put tr', ht2.put tr'⟩, ?_⟩
    rintro i m σ2 H2 ⟨hi, rfl, ⟨v, rfl⟩, k2, a2, b2⟩
    by_cases hlt : i < cs.length
    · refine .inr ⟨⟨_, _, SqL.of (k2.lst hL), List.getElem?_eq_getElem (show i < xs.length by omega)⟩, ?_⟩
      rintro x H3 ⟨rfl, hx⟩
      obtain ⟨cc, hc, row⟩ := rows.at (hx _ (SqL.of (k2.lst hL)))
      refine ⟨_, rfl, x, cc, rfl, row.kp k2, a2, fun ps'' tr'' => ⟨_, rfl, iteT ⟨cs.length - (i + 1), by omega, hlt, rfl, ⟨_, rfl⟩, k2.trans (Kp.tab a2), a2.put tr'', b2.put tr''⟩⟩⟩
    · refine .inl ⟨⟨_, SqL.of (k2.lst hL), by omega⟩, _, rfl, iteF ?_⟩
      clear hlt
      have hL2 := k2.lst hL
      refine ⟨_, rfl, L, rfl, ⟨_, SqL.of hL2⟩, fun l hl => ?_⟩
      refine ⟨fun i m σ3 H3 => i ≤ cs.length ∧ m = cs.length - i ∧ (∃ v, σ3 = [v]) ∧ H3 l = some (SetT P w l ((cs.take i).map sg1)) ∧ Kp H H3 ∧ Tab T1 H3 ∧ TabL T2 Ts H3,
        ⟨_, Nat.zero_le _, rfl, ⟨_, rfl⟩, upd_same, k2.trans (Kp.new hl), a2.new hl, b2.new hl⟩, ?_⟩
      rintro j m σ3 H3 ⟨hj, rfl, ⟨v, rfl⟩, hs3, k3, a3, b3⟩
      have hL3 := k3.lst hL
      by_cases hlt : j < cs.length
      · refine .inr ⟨⟨_, _, SqL.of hL3, List.getElem?_eq_getElem (show j < xs.length by omega)⟩, ?_⟩
        rintro x H4 ⟨rfl, hx⟩
        obtain ⟨cc, hc, row⟩ := rows.at (hx _ (SqL.of hL3))
        obtain ⟨a, p, la, rfl, ha, _⟩ := (row.kp k3).ex
        dsimp only [gName]
        rw [if_pos rfl]
        refine ⟨_, rfl, a, _, _, _, rfl, rfl, SqT.of ha, rfl, sg1 cc, _, rfl, hs3, ?_, ?_⟩
        · rw [List.length_map, List.length_take]; omega
        have ins : insT (sg1 cc) ((cs.take j).map sg1) = (cs.take (j + 1)).map sg1 := by
          unfold insT
          rw [if_neg (take_fresh nd hc), List.take_add_one, hc, List.map_append]
          rfl
        have no : ∀ q, SetT P w l ((cs.take j).map sg1) ≠ .tbl q := nofun
        refine ⟨cs.length - (j + 1), by omega, hlt, rfl, ⟨_, rfl⟩, by rw [ins]; exact upd_same, k2.upd_new hl k3, a3.set hs3 no, b3.set hs3 no⟩
      · have e : j = cs.length := by omega
        subst e
        refine .inl ⟨⟨_, SqL.of hL3, by omega⟩, l, _, rfl, hs3, _, rfl, L, _, rfl, .inl (SqL.of hL3), rfl, ?_⟩
        have e1 : (V.int ((List.map sg1 (List.take cs.length cs)).length : Nat)) = V.int (xs.length : Nat) := by rw [List.length_map, List.take_length, ln]
        rw [e1, decide_eq_true rfl]
        exact q _ k3 a3 b3
end
end G1
namespace G1
open PySem L2 GM
def txs (ts : List Str) : List V := ts.map V.str
theorem txs_flat (ts : List Str) : (txs ts).all flatV = true := by
  unfold txs
  rw [List.all_map]
  exact List.all_eq_true.mpr fun _ _ => rfl
theorem inV_txs (t : Str) (ts : List Str) : inV (.str t) (txs ts) = decide (t ∈ ts) := by
  unfold inV txs
  rw [List.any_map, Bool.eq_iff_iff, List.any_eq_true, decide_eq_true_iff]
  constructor
  · rintro ⟨y, hy, e⟩
    have : (y == t) = true := e
    rw [← eq_of_beq this]; exact hy
  · intro h
    exact ⟨t, h, by show (t == t) = true; exact beq_self_eq_true t⟩
def sgs (cs : List Nat) : List Str := cs.map sg1
section
variable {P : Program} {w : World} {K : PySem.W.Frag} {mg : Str → Option Value} {base : Heap}
def spSignsOf (K : PySem.W.Frag) : Sp := fun vs H Q _ => ∃ (t S : Addr) (f p lg : V) (xs : List V) (cs : List Nat), vs = [.ref t] ∧ SqT K H t [.ref S, f, p, lg] ∧ H S = some (.lst xs) ∧ Rows H xs cs ∧ cs.length ≤ 6 ∧ ∀ l H', H l = none → Same H H' → H' l = some (.lst (txs (sgs cs))) → Q (.ref l) H'
theorem scSo : FnScope ["tongue"] ["tongue"] (defScope sSignsOf) := ⟨rfl, rfl, rfl, by decide +kernel, rfl, by decide +kernel, by decide +kernel⟩
theorem ok_signsOf {f : Addr} {fd : FuncData} (F : FunG K "signs_of" "signs_of" sSignsOf .none f fd) : FnOk P w K mg base (CXE P w) 1 f fd ["tongue"] (spSignsOf K) := by
  refine F.zokN scSo (fun vs H Q E h => ?_) (fun cdv A outer s H vs Q E hr h => ?_)
  · obtain ⟨t, S, f, p, lg, xs, cs, rfl, _⟩ := h
    rfl
  · obtain ⟨t, S, f, p, lg, xs, cs, rfl, ht, hS, rows, c6, q⟩ := h
    refine ⟨_, zpss_one (zps_ret (zpe_comp ["tongue"] ["row"] [] (defScope sSignsOf) rfl rfl rfl ⟨by decide +kernel, by decide +kernel, by decide +kernel, by decide +kernel, by decide +kernel⟩ (zpi_list (zpe_ix ix_tup (zpv 0) zpe_int (fun _ _ => rfl)))
        (fun s H fp => zpg_name (i := 0) (show List.Nodup [("row" : Str)] by decide +kernel) rfl (Or.inl rfl)) (fun s H fp => zpts_nil) (fun s H fp => zpe_ix (ix_tupK K rfl) (zpv 0) zpe_int (fun _ _ => rfl)))), ?_⟩
    refine ⟨_, rfl, t, _, _, _, rfl, rfl, ht, rfl, S, rfl, ⟨_, SqL.of hS⟩, fun l hl => ?_⟩
    refine ⟨fun i m σ2 H2 => i ≤ cs.length ∧ m = cs.length - i ∧ (∃ v, σ2 = [v]) ∧ H2 l = some (.lst (txs (sgs (cs.take i)))) ∧ Same H H2, ⟨_, Nat.zero_le _, rfl, ⟨_, rfl⟩, upd_same, same_upd hl⟩, ?_⟩
    rintro i m σ2 H2 ⟨hi, rfl, ⟨v, rfl⟩, hl2, s2⟩
    have hS2 := s2 _ _ hS
    by_cases hlt : i < cs.length
    · refine .inr ⟨⟨_, _, SqL.of hS2, List.getElem?_eq_getElem (show i < xs.length by rw [rows.len]; exact hlt)⟩, ?_⟩
      rintro x H3 ⟨rfl, hx⟩
      obtain ⟨cc, hc, row⟩ := rows.at (hx _ (SqL.of hS2))
      obtain ⟨a, p, la, rfl, ha, _⟩ := (row.kp (Kp.same s2)).ex
      dsimp only [gName]
      rw [if_pos rfl]
      refine ⟨_, rfl, a, _, _, _, rfl, rfl, SqT.of ha, rfl, _, hl2, ?_, cs.length - (i + 1), by omega, hlt, rfl, ⟨_, rfl⟩, ?_, ?_⟩
      · unfold txs sgs
        rw [List.length_map, List.length_map, List.length_take]
        exact Nat.lt_of_le_of_lt (show min i cs.length ≤ 6 by omega) (by decide)
      · have : txs (sgs (cs.take i)) ++ [V.str (sg1 cc)] = txs (sgs (cs.take (i + 1))) := by
          unfold txs sgs
          rw [List.take_add_one, hc, List.map_append, List.map_append]; rfl
        rw [← this]; exact upd_same
      · intro b o hb
        rw [upd_ne (ne_of_none hb hl)]; exact s2 b o hb
    · have e : i = cs.length := by omega
      subst e
      rw [List.take_length] at hl2
      exact .inl ⟨⟨_, SqL.of hS2, by rw [rows.len]; exact Nat.le_refl _⟩, q l H2 hl s2 hl2⟩
def spUnlike (K : PySem.W.Frag) : Sp := fun vs H Q _ => ∃ (C L : Addr) (ks ts : List Str), vs = [.ref C, .ref L] ∧ H C = some (.lst (txs ks)) ∧ H L = some (.lst (txs ts)) ∧ ts.Nodup ∧ (∀ t ∈ ts, t ∈ ks) ∧ ts.length ≤ 100 ∧ ∀ H', Same H H' → Q (.bl true) H'
theorem scUl : FnScope ["choices", "thing", "seen", "text"] ["choices", "thing"] (defScope sUnlike) := ⟨rfl, rfl, rfl, by decide +kernel, rfl, by decide +kernel, by decide +kernel⟩
theorem take_freshT {ts : List Str} (h : ts.Nodup) {i : Nat} {t : Str} (e : ts[i]? = some t) : t ∉ ts.take i := fun m => by
  obtain ⟨j, hj⟩ := List.getElem?_of_mem m
  have hj' : j < i := by
    have := (List.getElem?_eq_some_iff.mp hj).1
    rw [List.length_take] at this; omega
  rw [List.getElem?_take_of_lt hj'] at hj
  obtain ⟨hi1, hi2⟩ := List.getElem?_eq_some_iff.mp e
  obtain ⟨hj1, hj2⟩ := List.getElem?_eq_some_iff.mp hj
  have := (List.getElem_inj (h₀ := hj1) (h₁ := hi1) h).mp (by rw [hi2, hj2])
  omega
theorem ok_unlike {f : Addr} {fd : FuncData} (F : FunG K "are_unlike_texts_of" "are_unlike_texts_of" sUnlike .none f fd) (B : Bl mg) : FnOk P w K mg base (CXE P w) 1 f fd ["choices", "thing"] (spUnlike K) := by
  refine F.zokN scUl (fun vs H Q E h => ?_) (fun cdv A outer s H vs Q E hr h => ?_)
  · obtain ⟨C, L, ks, ts, rfl, _⟩ := h
    rfl
  · obtain ⟨C, L, ks, ts, rfl, hC, hL, nd, sub, len, q⟩ := h
    refine ⟨_, zpss_cons (zps_if (zpt_not (zpt_val (zpe_callB call_isi (by rfl) B.isi boot_isi (zpac_n (zpv 1) (zpac_n (zpe_bltn (by rfl) B.list boot_list (v := .ty "list") rfl) zpa_nil))))) zpss_never zpss_nil)
      (zpss_cons (zps_set (i := 2) scUl.nd rfl (Or.inl rfl) (zpe_callTy0 call_set0 (by rfl) B.set boot_set))
      (zpss_cons (zps_for PassesOwn.never rfl (zpi_list (zpv 1)) (zpg_name (i := 3) scUl.nd rfl (Or.inl rfl))
        (zpss_cons (zps_if (zpw_or (zpt_not (zpt_val (zpe_callB call_isi (by rfl) B.isi boot_isi (zpac_n (zpv 3) (zpac_n (zpe_bltn (by rfl) B.str boot_str (v := .ty "str") rfl) zpa_nil)))))
            (zpw_or (zpt_cmpR op_notIn_seq (zpv 3) (zpv 0) rfl) (zpw_or1 (zpt_cmpR op_in_set (zpv 3) (zpv 2) rfl)))).pt zpss_never zpss_nil)
        (zpss_one (zps_expr (zpe_setadd (zpv 2) (zpac_n (zpv 3) zpa_nil))))))
      (zpss_one (zps_ret zpe_bl)))), ?_⟩
    refine ⟨_, rfl, _, _, _, true, rfl, .of (.lst hL), .inl ⟨_, rfl, kl1⟩, _, rfl, iteF ?_⟩
    refine ⟨rfl, fun p hp => ?_⟩
    refine ⟨_, rfl, L, rfl, ⟨_, SqL.of (same_upd hp _ _ hL)⟩, for_list (K := K) (a := L) (xs := txs ts)
      (fun i σ H2 => (∃ v, σ = [some (.ref C), some (.ref L), some (.ref p), v]) ∧ H2 p = some (SetT P w p (ts.take i)) ∧ Same H H2) ⟨⟨_, rfl⟩, upd_same, same_upd hp⟩ ?_ ?_ ?_⟩
    · rintro i σ H2 _ ⟨_, _, s2⟩
      exact SqL.of (s2 _ _ hL)
    · rintro i x σ H2 hx ⟨⟨v, rfl⟩, hp2, s2⟩
      obtain ⟨t, ht, rfl⟩ : ∃ t, ts[i]? = some t ∧ x = .str t := by
        unfold txs at hx
        rw [List.getElem?_map] at hx
        obtain ⟨t, h1, h2⟩ := Option.map_eq_some_iff.mp hx
        exact ⟨t, h1, h2.symm⟩
      have ilt := (List.getElem?_eq_some_iff.mp ht).1
      refine ⟨_, rfl, _, _, _, true, rfl, .of (.str t), .inl ⟨_, rfl, kst1⟩, _, rfl, iteF ?_⟩
      refine ⟨_, rfl, _, rfl, C, _, rfl, .inl (SqL.of (s2 _ _ hC)), rfl, txs_flat ks, _, rfl, ?_⟩
      have m1 : inV (.str t) (txs ks) = true := by rw [inV_txs]; exact decide_eq_true (sub t (List.mem_of_getElem? ht))
      refine ite2 (fun e => absurd e (by
        show ¬ ((!inV (.str t) (txs ks)) = true)
        rw [m1]; decide)) (fun _ => ?_)
      refine ⟨_, rfl, _, rfl, t, p, _, rfl, rfl, hp2, _, rfl, ?_⟩
      have fr := take_freshT nd ht
      refine ite2 (fun e => absurd e (by
        show ¬ (decide (t ∈ ts.take i) = true)
        rw [decide_eq_false fr]; decide)) (fun _ => ?_)
      refine ⟨_, rfl, ⟨p, _, rfl, hp2⟩, _, rfl, p, t, _, rfl, rfl, hp2, ?_, ?_⟩
      · rw [List.length_take]; omega
      refine ⟨⟨_, rfl⟩, ?_, fun b o hb => ?_⟩
      · have : insT t (ts.take i) = ts.take (i + 1) := by
          unfold insT
          rw [if_neg fr, List.take_add_one, ht]; rfl
        rw [this]; exact upd_same
      · rw [upd_ne (ne_of_none hb hp)]; exact s2 b o hb
    · rintro σ H2 ⟨⟨v, rfl⟩, _, s2⟩
      exact q H2 s2
end
end G1
namespace L2
theorem zpi_listK {X : Cx} {tg l : PySem.Expr} {tl : TE} (K : PySem.W.Frag) (h : X.K = K) (hl : SPE X l tl) : SPI X tg l (iList K tl) := h ▸ zpi_list hl
end L2
namespace G1
open PySem L2 GM
def prs (ks : List Str) : List Str := ks.flatMap fun a => ks.map fun b => a ++ b
structure Tg (H : Hp) (t : Addr) (cs : List Nat) (fs ps : List Str) (lg : Int) : Prop where
  ex : ∃ S F Pp xs, H t = some (.tup [.ref S, .ref F, .ref Pp, .int lg]) ∧ H S = some (.lst xs) ∧ Rows H xs cs ∧ H F = some (.lst (txs fs)) ∧ H Pp = some (.lst (txs ps))
  nd : cs.Nodup
  c2 : 2 ≤ cs.length
  c6 : cs.length ≤ 6
  fnd : fs.Nodup
  fsub : ∀ f ∈ fs, f ∈ sgs cs
  pnd : ps.Nodup
  psub : ∀ p ∈ ps, p ∈ prs (sgs cs)
  l1 : 1 ≤ lg
  l8 : lg ≤ 8
theorem Tg.kp {H H' : Hp} {t : Addr} {cs : List Nat} {fs ps : List Str} {lg : Int} (h : Tg H t cs fs ps lg) (k : Kp H H') : Tg H' t cs fs ps lg := by
  obtain ⟨S, F, Pp, xs, h1, h2, h3, h4, h5⟩ := h.ex
  exact { h with ex := ⟨S, F, Pp, xs, k.tup h1, k.lst h2, h3.kp k, k.lst h4, k.lst h5⟩ }
theorem nodup_le : ∀ {fs ks : List Str}, fs.Nodup → (∀ f ∈ fs, f ∈ ks) → fs.length ≤ ks.length
  | [], _, _, _ => Nat.zero_le _
  | f :: fs, ks, h, s => by
    have hf := s f List.mem_cons_self
    obtain ⟨a, b, rfl⟩ := List.append_of_mem hf
    have := nodup_le (fs := fs) (ks := a ++ b) (List.nodup_cons.mp h).2 fun g hg => by
      have := s g (List.mem_cons_of_mem _ hg)
      rcases List.mem_append.mp this with z | z
      · exact List.mem_append_left _ z
      · rcases List.mem_cons.mp z with rfl | z
        · exact absurd hg (List.nodup_cons.mp h).1
        · exact List.mem_append_right _ z
    simp only [List.length_append, List.length_cons] at this ⊢
    omega
theorem flat_len (ks : List Str) (f : Str → List Str) (n : Nat) (h : ∀ a, (f a).length = n) : (ks.flatMap f).length = ks.length * n := by
  induction ks with
  | nil => simp
  | cons k ks ih => rw [List.flatMap_cons, List.length_append, ih, h, List.length_cons, Nat.succ_mul, Nat.add_comm]
theorem prs_len (ks : List Str) : (prs ks).length = ks.length * ks.length := flat_len ks _ _ fun a => by rw [List.length_map]
theorem Tg.flen {H : Hp} {t : Addr} {cs : List Nat} {fs ps : List Str} {lg : Int} (h : Tg H t cs fs ps lg) : fs.length ≤ 6 := by
  have := nodup_le h.fnd h.fsub
  have := h.c6
  unfold sgs at *
  rw [List.length_map] at *
  omega
theorem Tg.plen {H : Hp} {t : Addr} {cs : List Nat} {fs ps : List Str} {lg : Int} (h : Tg H t cs fs ps lg) : ps.length ≤ 36 := by
  have e := nodup_le h.pnd h.psub
  have c6 := h.c6
  rw [prs_len] at e
  have : (sgs cs).length = cs.length := List.length_map ..
  rw [this] at e
  exact Nat.le_trans e (Nat.mul_le_mul c6 c6)
theorem prs_snoc {ks : List Str} {i : Nat} {a : Str} (e : ks[i]? = some a) : (ks.take (i + 1)).flatMap (fun a => ks.map fun b => a ++ b) = (ks.take i).flatMap (fun a => ks.map fun b => a ++ b) ++ ks.map fun b => a ++ b := by
  rw [List.take_add_one, e, List.flatMap_append]
  simp
section
variable {P : Program} {w : World} {K : PySem.W.Frag} {mg : Str → Option Value} {base : Heap}
def spLook (T1 T2 : Addr) (Ts : List Addr) : Sp := fun vs H Q _ => ∃ (t : Addr) (cs : List Nat) (fs ps : List Str) (lg : Int), vs = [.ref t] ∧ Tg H t cs fs ps lg ∧ Tab T1 H ∧ TabL T2 Ts H ∧ ∀ H', Kp H H' → Tab T1 H' → TabL T2 Ts H' → Q .non H'
theorem scLk : FnScope ["thing", "signs", "firsts", "pairs", "longest", "letters"] ["thing"] (defScope sLook) := ⟨rfl, rfl, rfl, by decide +kernel, rfl, by decide +kernel, by decide +kernel⟩
theorem ok_look {T1 T2 f fS fO fU fI : Addr} {Ts : List Addr} {fd fdS fdO fdU fdI : FuncData} {tk : Tok} (F : FunG K "look_at_tongue" "look_at_tongue" sLook .none f fd) (B : Bl mg) (mM : mg "LONGEST_WORD" = some (.int 8 tk))
    (GS : FnOk P w K mg base (CXE P w) 6 fS fdS ["thing"] (spSigns T1 T2 Ts)) (mS : mg "are_signs" = some (.ref fS)) (kS : PySem.W.keepIn K (.ref fS) = true) (bS : Binds K fdS ["thing"] [])
    (GO : FnOk P w K mg base (CXE P w) 1 fO fdO ["tongue"] (spSignsOf K)) (mO : mg "signs_of" = some (.ref fO)) (kO : PySem.W.keepIn K (.ref fO) = true) (bO : Binds K fdO ["tongue"] [])
    (GU : FnOk P w K mg base (CXE P w) 1 fU fdU ["choices", "thing"] (spUnlike K)) (mU : mg "are_unlike_texts_of" = some (.ref fU)) (kU : PySem.W.keepIn K (.ref fU) = true) (bU : Binds K fdU ["choices", "thing"] [])
    (GI : FnOk P w K mg base (CXE P w) 2 fI fdI ["thing", "least", "most"] spWithin) (mI : mg "is_whole_within" = some (.ref fI)) (kI : PySem.W.keepIn K (.ref fI) = true) (bI : Binds K fdI ["thing", "least", "most"] []) :
    FnOk P w K mg base (CXE P w) 7 f fd ["thing"] (spLook T1 T2 Ts) := by
  refine F.zokN scLk (fun vs H Q E h => ?_) (fun cdv A outer s H vs Q E hr h => ?_)
  · obtain ⟨t, cs, fs, ps, lg, rfl, _⟩ := h
    rfl
  · obtain ⟨t, cs, fs, ps, lg, rfl, hg, ht1, ht2, q⟩ := h
    have hr1 : Room 1 _ := hr.mono (by decide)
    have hr2 : Room 2 _ := hr.mono (by decide)
    refine ⟨_, zpss_cons (zps_if (zpw_or (zpt_not (zpt_val (zpe_callB call_isi (by rfl) B.isi boot_isi (zpac_n (zpv 0) (zpac_n (zpe_bltn (by rfl) B.tuple boot_tuple (v := .ty "tuple") rfl) zpa_nil)))))
        (zpw_or1 (zpt_cmpR op_ne (zpe_callB call_len_seq (by rfl) B.len PySem.boot_len (zpac_n (zpv 0) zpa_nil)) zpe_int (nomark _)))).pt zpss_never zpss_nil)
      (zpss_cons (zps_asg (zpv 0) (zpg_tup rfl (zpgs_cons (zpg_name (i := 1) scLk.nd rfl (Or.inl rfl)) (zpgs_cons (zpg_name (i := 2) scLk.nd rfl (Or.inl rfl)) (zpgs_cons (zpg_name (i := 3) scLk.nd rfl (Or.inl rfl)) (zpgs_cons (zpg_name (i := 4) scLk.nd rfl (Or.inl rfl)) zpgs_nil))))))
      (zpss_cons (zps_if (zpt_not (zpt_val (zpe_call GS hr (by rfl) mS kS bS .nil passE0 (zpac_n (zpv 1) zpa_nil)))) zpss_never zpss_nil)
      (zpss_cons (zps_set (i := 5) scLk.nd rfl (Or.inr rfl) (zpe_call GO hr1 (by rfl) mO kO bO .nil passE0 (zpac_n (zpv 0) zpa_nil)))
      (zpss_cons (zps_if (zpt_not (zpt_val (zpe_call GU hr1 (by rfl) mU kU bU .nil passE0 (zpac_n (zpv 5) (zpac_n (zpv 2) zpa_nil))))) zpss_never zpss_nil)
      (zpss_cons (zps_if (zpt_not (zpt_val (zpe_call GU hr1 (by rfl) mU kU bU .nil passE0 (zpac_x (zpe_comp2 ["thing", "signs", "firsts", "pairs", "longest", "letters"] ["one", "other"] [5] (defScope sLook) rfl rfl rfl ⟨by decide +kernel, by decide +kernel, by decide +kernel, by decide +kernel, by decide +kernel⟩ (zpi_list (zpv 5))
            (fun s H fp => zpg_name (i := 0) (show List.Nodup [("one" : Str), "other", "letters"] by decide +kernel) rfl (Or.inl rfl)) (fun s H fp => zpts_nil)
            (fun s H fp => zpi_listK K rfl (zpv 2)) (fun s H fp => zpg_name (i := 1) (show List.Nodup [("one" : Str), "other", "letters"] by decide +kernel) rfl (Or.inl rfl)) (fun s H fp => zpts_nil)
            (fun s H fp => zpe_op op_add_str (zpv 0) (zpv 1))) (zpac_n (zpv 3) zpa_nil))))) zpss_never zpss_nil)
      (zpss_one (zps_if (zpt_not (zpt_val (zpe_call GI hr2 (by rfl) mI kI bI .nil passE0 (zpac_n (zpv 4) (zpac_c zpe_int (zpac_n (zpe_glob (by rfl) mM (v := .int 8) ⟨_, rfl⟩) zpa_nil)))))) zpss_never zpss_nil))))))), ?_⟩
    obtain ⟨S, F', Pp, xs, g1, g2, g3, g4, g5⟩ := hg.ex
    refine ⟨_, rfl, _, _, _, true, rfl, .of (.tup g1), .inl ⟨_, rfl, kt1⟩, _, rfl, iteF ?_⟩
    refine ⟨_, rfl, t, _, rfl, .inr (SqT.of g1), rfl, _, rfl, iteF ?_⟩
    refine ⟨_, rfl, t, _, rfl, SqT.of g1, rfl, _, _, rfl, _, _, rfl, _, _, rfl, _, _, rfl, rfl, ?_⟩
    refine ⟨_, rfl, S, xs, cs, rfl, g2, g3, hg.nd, hg.c2, hg.c6, ht1, ht2, fun H1 k1 a1 b1 => ⟨_, rfl, iteF ?_⟩⟩
    refine ⟨_, rfl, t, S, _, _, _, xs, cs, rfl, SqT.of (k1.tup g1), k1.lst g2, g3.kp k1, hg.c6, fun l H2 hl s2 hl2 => ?_⟩
    have k2 : Kp H H2 := k1.trans (Kp.same s2)
    refine ⟨_, rfl, _, rfl, l, F', sgs cs, fs, rfl, hl2, k2.lst g4, hg.fnd, hg.fsub, Nat.le_trans hg.flen (by decide), fun H3 s3 => ⟨_, rfl, iteF ?_⟩⟩
    have k3 := k2.trans (Kp.same s3)
    have hl3 := s3 _ _ hl2
    refine ⟨_, rfl, l, rfl, ⟨_, SqL.of hl3⟩, fun p hp => ?_⟩
    have kl : (sgs cs).length ≤ 6 := by unfold sgs; rw [List.length_map]; exact hg.c6
    refine ⟨fun i m σ2 H4 => i ≤ (sgs cs).length ∧ m = (sgs cs).length - i ∧ (∃ v1 v2, σ2 = [v1, v2, some (.ref l)]) ∧ H4 p = some (.lst (txs (((sgs cs).take i).flatMap fun a => (sgs cs).map fun b => a ++ b))) ∧ Same H3 H4,
      ⟨_, Nat.zero_le _, rfl, ⟨_, _, rfl⟩, upd_same, same_upd hp⟩, ?_⟩
    rintro i m σ2 H4 ⟨hi, rfl, ⟨v1, v2, rfl⟩, hp4, s4⟩
    have hl4 := s4 _ _ hl3
    have len : (txs (sgs cs)).length = (sgs cs).length := List.length_map ..
    by_cases hlt : i < (sgs cs).length
    · refine .inr ⟨⟨_, _, SqL.of hl4, List.getElem?_eq_getElem (show i < (txs (sgs cs)).length by rw [len]; exact hlt)⟩, ?_⟩
      rintro x H5 ⟨rfl, hx⟩
      obtain ⟨a, ha, rfl⟩ : ∃ a, (sgs cs)[i]? = some a ∧ x = .str a := by
        have hx := hx _ (SqL.of hl4)
        unfold txs at hx
        rw [List.getElem?_map] at hx
        obtain ⟨t, h1, h2⟩ := Option.map_eq_some_iff.mp hx
        exact ⟨t, h1, h2.symm⟩
      dsimp only [gName]
      rw [if_pos rfl]
      refine ⟨_, rfl, l, rfl, ⟨_, SqL.of hl4⟩, ?_⟩
      refine ⟨fun j m σ3 H6 => j ≤ (sgs cs).length ∧ m = (sgs cs).length - j ∧ (∃ v2, σ3 = [some (.str a), v2, some (.ref l)]) ∧ H6 p = some (.lst (txs (((sgs cs).take i).flatMap (fun a => (sgs cs).map fun b => a ++ b) ++ ((sgs cs).take j).map fun b => a ++ b))) ∧ Same H3 H6,
        ⟨_, Nat.zero_le _, rfl, ⟨_, rfl⟩, by simpa using hp4, s4⟩, ?_⟩
      rintro j m σ3 H6 ⟨hj, rfl, ⟨v2, rfl⟩, hp6, s6⟩
      have hl6 := s6 _ _ hl3
      by_cases hjt : j < (sgs cs).length
      · refine .inr ⟨⟨_, _, SqL.of hl6, List.getElem?_eq_getElem (show j < (txs (sgs cs)).length by rw [len]; exact hjt)⟩, ?_⟩
        rintro y H7 ⟨rfl, hy⟩
        obtain ⟨b, hb, rfl⟩ : ∃ b, (sgs cs)[j]? = some b ∧ y = .str b := by
          have hy := hy _ (SqL.of hl6)
          unfold txs at hy
          rw [List.getElem?_map] at hy
          obtain ⟨t, h1, h2⟩ := Option.map_eq_some_iff.mp hy
          exact ⟨t, h1, h2.symm⟩
        have one : ∀ z ∈ sgs cs, z.length = 1 := fun z hz => by
          obtain ⟨c, _, rfl⟩ := List.mem_map.mp hz
          rfl
        dsimp only [gName]
        rw [if_pos rfl]
        refine ⟨_, rfl, _, rfl, a, b, rfl, rfl, ?_, _, hp6, ?_, (sgs cs).length - (j + 1), by omega, hjt, rfl, ⟨_, rfl⟩, ?_, ?_⟩
        · rw [one a (List.mem_of_getElem? ha), one b (List.mem_of_getElem? hb)]; decide
        · unfold txs
          rw [List.length_map, List.length_append, flat_len _ _ (sgs cs).length (fun a => by rw [List.length_map]), List.length_map, List.length_take, List.length_take]
          have : min i (sgs cs).length * (sgs cs).length ≤ 6 * 6 := Nat.mul_le_mul (by omega) kl
          exact Nat.lt_of_le_of_lt (show _ ≤ 42 by omega) (by decide)
        · have : ((sgs cs).take i).flatMap (fun a => (sgs cs).map fun b => a ++ b) ++ ((sgs cs).take (j + 1)).map (fun b => a ++ b) = (((sgs cs).take i).flatMap (fun a => (sgs cs).map fun b => a ++ b) ++ ((sgs cs).take j).map fun b => a ++ b) ++ [a ++ b] := by
            rw [List.take_add_one, hb, List.map_append, List.append_assoc]; rfl
          rw [this]
          unfold txs
          rw [List.map_append (l₂ := [a ++ b])]
          exact upd_same
        · intro c o hc
          rw [upd_ne (ne_of_none hc hp)]; exact s6 c o hc
      · have e : j = (sgs cs).length := by omega
        subst e
        refine .inl ⟨⟨_, SqL.of hl6, by rw [len]; exact Nat.le_refl _⟩, (sgs cs).length - (i + 1), by omega, hlt, rfl, ⟨_, _, rfl⟩, ?_, s6⟩
        rw [prs_snoc ha]
        rw [List.take_length] at hp6
        exact hp6
    · have e : i = (sgs cs).length := by omega
      subst e
      refine .inl ⟨⟨_, SqL.of hl4, by rw [len]; exact Nat.le_refl _⟩, ?_⟩
      rw [List.take_length] at hp4
      have k4 := k3.trans (Kp.same s4)
      refine ⟨_, rfl, p, Pp, prs (sgs cs), ps, rfl, hp4, k4.lst g5, hg.pnd, hg.psub, Nat.le_trans hg.plen (by decide), fun H5 s5 => ⟨_, rfl, iteF ?_⟩⟩
      have k5 := k4.trans (Kp.same s5)
      refine ⟨_, rfl, .int lg, 1, 8, rfl, .int lg, _, rfl, ?_⟩
      have : inB (.int lg) 1 8 = true := by
        show (decide (1 ≤ lg) && decide (lg ≤ 8)) = true
        rw [decide_eq_true hg.l1, decide_eq_true hg.l8]; rfl
      rw [this]
      have sT : Same H1 H5 := ((s2.trans s3).trans s4).trans s5
      exact iteF (q H5 k5 (a1.same sT) (b1.same sT))
end
end G1
namespace L2
open PySem PySem.Spec PyProof.Rows
section
variable {X : Cx}
end
end L2
namespace L2
open PySem PySem.Spec PyProof.Rows
section
variable {X : Cx} {e tg iter : Expr} {ifs : List Expr} {scope esc : Scope} {pos : Pos} {N os : List Str} {fi : List Nat} {wi : TI} {g : TG} {tt : TT} {tb : Addr → TB} {body : Addr → Env → Sem Fi → Sem Fi} {o0 : Addr → HO} {mk : Sem Value} {p : Pos} {elt : Expr} {te : TE}
end
end L2
namespace L2
open PySem PySem.Spec PyProof.Rows
section
variable {X : Cx} {o e f i value : Expr} {td ty tx tv : TE} {p pos apos cpos tpos : Pos}
theorem zpe_dget1 (hu : X.A.units + 1 < cLine) (ho : SPE X o td) (he : SPE X e ty) (m1 : attributeBase o "get" X.env (eval o X.env) = eval o X.env := by rfl)
    (m2 : ((backTo cpos (starEach [e] X.env)).all (fun x => !x.1) && (backToKw cpos (keywordEach [] X.env)).all (fun x => x.1.isSome) && decide (([e] : List Expr).length + ([] : List Keyword).length + (if ([] : List Keyword).isEmpty then 0 else 1) < 30)) = true := by rfl)
    (m3 : (apos.endLine == cpos.line) = true := by rfl) (m4 : backTo cpos (starEach [e] X.env) = [(false, eval e X.env)] := by rfl) : SPE X (.Call (.Attribute o "get" apos) [e] [] cpos) (tDGet1 td ty) := ⟨pe_dget1 hu ho.out he.out ⟨m1, m2, m3, m4⟩⟩
theorem zpe_dget2 (hu : X.A.units + 1 < cLine) (ho : SPE X o td) (he : SPE X e ty) (hf : SPE X f tx) (m1 : attributeBase o "get" X.env (eval o X.env) = eval o X.env := by rfl)
    (m2 : ((backTo cpos (starEach [e, f] X.env)).all (fun x => !x.1) && (backToKw cpos (keywordEach [] X.env)).all (fun x => x.1.isSome) && decide (([e, f] : List Expr).length + ([] : List Keyword).length + (if ([] : List Keyword).isEmpty then 0 else 1) < 30)) = true := by rfl)
    (m3 : (apos.endLine == cpos.line) = true := by rfl) (m4 : backTo cpos (starEach [e, f] X.env) = [(false, eval e X.env), (false, eval f X.env)] := by rfl) : SPE X (.Call (.Attribute o "get" apos) [e, f] [] cpos) (tDGet2 td ty tx) := ⟨pe_dget2 hu ho.out he.out hf.out ⟨m1, m2, m3, m4⟩⟩
theorem zpc_din (hu : X.A.units + 1 < cLine) (hi : SPE X i ty) (ho : SPE X o td) : SPC X .In i o (tDIn ty td) := ⟨pc_din hu hi.out ho.out⟩
theorem zpc_dnotin (hu : X.A.units + 1 < cLine) (hi : SPE X i ty) (ho : SPE X o td) : SPC X .NotIn i o (tDNotIn ty td) := ⟨pc_dnotin hu hi.out ho.out⟩
theorem zps_dput (hu : X.A.units + 1 < cLine) (ho : SPE X o td) (hi : SPE X i ty) (hv : SPE X value tv) (hs : swapsWith value (some (.Subscript o i tpos)) pos.line X.env = pure false := by rfl) : SPS X (.Assign [.Subscript o i tpos] value pos) (sDPut td ty tv) := ⟨ps_dput hu ho.out hi.out hv.out hs⟩
theorem zpe_litems (hc : X.calm = true) (hg : Gl X "list") (hm : X.mg "list" = none) (ho : SPE X o td)
    (hbase : attributeBase o "items" X.env (eval o X.env) = eval o X.env := by rfl) (hline : (apos.endLine == cpos.line) = true := by rfl)
    (he : starEach [.Call (.Attribute o "items" apos) [] [] cpos] X.env = (false, eval (.Call (.Attribute o "items" apos) [] [] cpos) X.env) :: starEach [] X.env := by rfl) :
    SPE X (.Call (.Name "list" p) [.Call (.Attribute o "items" apos) [] [] cpos] [] pos) (tLItems td) := ⟨pe_litems hc hg hm ho.out hbase hline he⟩
end
end L2
namespace G1
open PySem L2 GM
theorem Src.lst {H : Hp} {p : Addr} (s : Src H p) : ∃ xs, H p = some (.lst xs) := by
  obtain ⟨n, d, e, _⟩ := s.ex
  exact ⟨_, e⟩
theorem Src.same {H H' : Hp} {p : Addr} (h : Src H p) (s : Same H H') : Src H' p := by
  obtain ⟨n, d, e, r⟩ := h.ex
  exact ⟨n, d, s _ _ e, r⟩
theorem PrA.same {H H' : Hp} {x : V} (h : PrA H x) (s : Same H H') : PrA H' x := h.kp (Kp.same s)
theorem PrA.src {H H' : Hp} {p : Addr} {x : V} (h : PrA H x) (sr : Src H p) (k : Ext p H H') : PrA H' x := h.ext sr.lst k
theorem Row.src {H H' : Hp} {p : Addr} {x : V} {c : Nat} (h : Row H x c) (sr : Src H p) (k : Ext p H H') : Row H' x c := by
  obtain ⟨a, q, l, e, ha, hq, hl⟩ := h.ex
  obtain ⟨xs, hp⟩ := sr.lst
  exact ⟨⟨a, q, l, e, k _ _ (fun z => by rw [z, hp] at ha; cases ha) ha, hq.src sr k, hl.imp id fun z => z.src sr k⟩, h.oc⟩
theorem Rows.src {H H' : Hp} {p : Addr} {xs : List V} {cs : List Nat} (h : Rows H xs cs) (sr : Src H p) (k : Ext p H H') : Rows H' xs cs := ⟨h.len, fun i x c e1 e2 => (h.row i x c e1 e2).src sr k⟩
theorem Rows.same {H H' : Hp} {xs : List V} {cs : List Nat} (h : Rows H xs cs) (s : Same H H') : Rows H' xs cs := h.kp (Kp.same s)
theorem Row.put {H : Hp} {L : Addr} {x : V} {c : Nat} {ys zs : List V} (h : Row H x c) (hL : H L = some (.lst ys)) : Row (upd H L (.lst zs)) x c := by
  have k : ∀ {a : Addr} {us : List V}, H a = some (.tup us) → upd H L (.lst zs) a = some (.tup us) := fun {a us} e => by
    rw [upd_ne (fun z => by rw [z, hL] at e; cases e)]; exact e
  have pr : ∀ {x : V}, PrA H x → PrA (upd H L (.lst zs)) x := fun {x} h => by
    obtain ⟨a, n, d, e, ha, r⟩ := h.ex
    exact ⟨a, n, d, e, k ha, r⟩
  obtain ⟨a, q, l, e, ha, hq, hl⟩ := h.ex
  exact ⟨⟨a, q, l, e, k ha, pr hq, hl.imp id pr⟩, h.oc⟩
theorem Rows.put {H : Hp} {L : Addr} {xs : List V} {cs : List Nat} {ys zs : List V} (h : Rows H xs cs) (hL : H L = some (.lst ys)) : Rows (upd H L (.lst zs)) xs cs := ⟨h.len, fun i x c e1 e2 => (h.row i x c e1 e2).put hL⟩
theorem Rows.snoc {H : Hp} {xs : List V} {cs : List Nat} {x : V} {c : Nat} (h : Rows H xs cs) (r : Row H x c) : Rows H (xs ++ [x]) (cs ++ [c]) := by
  refine ⟨by rw [List.length_append, List.length_append, h.len]; rfl, fun i y d e1 e2 => ?_⟩
  by_cases hi : i < xs.length
  · rw [List.getElem?_append_left hi] at e1
    rw [List.getElem?_append_left (by rw [← h.len]; exact hi)] at e2
    exact h.row i y d e1 e2
  · rw [List.getElem?_append_right (by omega)] at e1
    rw [List.getElem?_append_right (by rw [← h.len]; omega), ← h.len] at e2
    have z : i - xs.length = 0 := by
      have := (List.getElem?_eq_some_iff.mp e1).1
      simp at this; omega
    rw [z] at e1 e2
    cases e1
    cases e2
    exact r
def cod (st sp : Int) (j : Nat) : Nat := 97 + ((st + sp * j) % 26).toNat
def cods (st sp : Int) (k : Nat) : List Nat := (List.range k).map (cod st sp)
theorem cods_succ (st sp : Int) (k : Nat) : cods st sp (k + 1) = cods st sp k ++ [cod st sp k] := by
  unfold cods
  rw [List.range_succ, List.map_append]; rfl
theorem cods_len (st sp : Int) (k : Nat) : (cods st sp k).length = k := by unfold cods; simp
theorem cod_inj {st sp : Int} (hs : sp = 1 ∨ sp = 3 ∨ sp = 7 ∨ sp = 25) {i j : Nat} (hi : i < 6) (hj : j < 6) (h : cod st sp i = cod st sp j) : i = j := by
  unfold cod at h
  have e : (st + sp * i) % 26 = (st + sp * j) % 26 := by
    have a := Int.emod_nonneg (st + sp * i) (show (26 : Int) ≠ 0 by decide)
    have b := Int.emod_nonneg (st + sp * j) (show (26 : Int) ≠ 0 by decide)
    omega
  rcases hs with rfl | rfl | rfl | rfl <;> omega
theorem cods_nd {st sp : Int} (hs : sp = 1 ∨ sp = 3 ∨ sp = 7 ∨ sp = 25) {k : Nat} (hk : k ≤ 6) : (cods st sp k).Nodup := by
  unfold cods
  unfold List.Nodup
  rw [List.pairwise_map]
  refine List.Pairwise.imp_of_mem (fun {a b} ha hb ne e => ?_) (List.nodup_range (n := k))
  have ha' := List.mem_range.mp ha
  have hb' := List.mem_range.mp hb
  exact ne (cod_inj hs (by omega) (by omega) e)
theorem letters_at : ∀ n : Nat, n < 26 → letters.cps.toList[n]? = some (97 + n) := by decide +kernel
theorem letters_occ : ∀ n : Nat, n < 26 → occ (97 + n) = true := by decide +kernel
theorem same_ext {H H2 H3 : Hp} {p : Addr} (s : Same H H2) (e : Ext p H2 H3) (n : H p = none) : Same H H3 := fun b o h => e b o (ne_of_none h n) (s b o h)
structure Md (H H2 : Hp) (q : Addr) : Prop where
  src : Src H2 q
  ext : Ext q H H2
theorem Md.put {H H2 : Hp} {q l : Addr} {o : HO} (h : Md H H2 q) (n : H l = none) (ne : l ≠ q) : Md H (upd H2 l o) q := by
  refine ⟨?_, fun b u nb hb => by rw [upd_ne (ne_of_none hb n)]; exact h.ext b u nb hb⟩
  obtain ⟨n', d, e, r⟩ := h.src.ex
  exact ⟨n', d, by rw [upd_ne ne.symm]; exact e, r⟩
theorem Md.fresh {H H2 : Hp} {q l : Addr} (h : Md H H2 q) (n : H2 l = none) : H l = none ∧ l ≠ q := by
  have ne := h.src.ne n
  refine ⟨?_, ne⟩
  cases e : H l with
  | none => rfl
  | some o =>
    have := h.ext l o ne e
    rw [n] at this; cases this
theorem Md.draw {H H2 H3 : Hp} {q : Addr} (h : Md H H2 q) (s : Src H3 q) (x : ∀ b, b ≠ q → H3 b = H2 b) : Md H H3 q := ⟨s, h.ext.trans (.of_eq x)⟩
theorem sg2_inj {a b c d : Nat} (h : sg1 a ++ sg1 b = sg1 c ++ sg1 d) : a = c ∧ b = d := by
  have h2 : (sg1 a ++ sg1 b : Str).cps = (sg1 c ++ sg1 d : Str).cps := by rw [h]
  have e : ∀ x y : Nat, (sg1 x ++ sg1 y : Str).cps = #[x, y] := fun x y => rfl
  rw [e, e] at h2
  simpa using h2
theorem sgs_nd {cs : List Nat} (h : cs.Nodup) : (sgs cs).Nodup := by
  unfold sgs List.Nodup
  rw [List.pairwise_map]
  exact List.Pairwise.imp (fun {a b} ne e => ne (sg1_inj e)) h
theorem prs_nd {cs : List Nat} (h : cs.Nodup) : (prs (sgs cs)).Nodup := by
  unfold prs List.Nodup
  rw [List.pairwise_flatMap]
  constructor
  · intro a ha
    obtain ⟨c, _, rfl⟩ := List.mem_map.mp ha
    rw [List.pairwise_map]
    unfold sgs
    rw [List.pairwise_map]
    exact List.Pairwise.imp (fun {x y} ne e => ne (sg2_inj e).2) h
  · unfold sgs
    rw [List.pairwise_map]
    refine List.Pairwise.imp (fun {x y} ne u hu v hv e => ?_) h
    obtain ⟨b, hb, rfl⟩ := List.mem_map.mp hu
    obtain ⟨d, hd, rfl⟩ := List.mem_map.mp hv
    obtain ⟨b', _, rfl⟩ := List.mem_map.mp hb
    obtain ⟨d', _, rfl⟩ := List.mem_map.mp hd
    exact ne (sg2_inj e).1
theorem txs_at {ts : List Str} {i : Nat} {x : V} (h : (txs ts)[i]? = some x) : ∃ a, ts[i]? = some a ∧ x = .str a := by
  unfold txs at h
  rw [List.getElem?_map] at h
  obtain ⟨t, h1, h2⟩ := Option.map_eq_some_iff.mp h
  exact ⟨t, h1, h2.symm⟩
theorem txs_snoc (ts : List Str) (a : Str) : txs ts ++ [V.str a] = txs (ts ++ [a]) := by unfold txs; rw [List.map_append]; rfl
theorem sub_snoc {fs ks : List Str} {i : Nat} {a : Str} (h : fs.Sublist (ks.take i)) (e : ks[i]? = some a) : (fs ++ [a]).Sublist (ks.take (i + 1)) := by
  rw [List.take_add_one, e]
  exact List.Sublist.append h (List.Sublist.refl _)
theorem sub_skip {fs ks : List Str} {i : Nat} (h : fs.Sublist (ks.take i)) : fs.Sublist (ks.take (i + 1)) := by
  refine h.trans ?_
  rw [List.take_add_one]
  exact List.sublist_append_left _ _
def comeB (fs ps : List Str) (a s : Str) : Bool := if a = "" then !decide (s ∈ fs) else !decide (a ++ s ∈ ps)
def prv (z : Str) (i : Nat) : Str := match i with
  | 0 => ""
  | j + 1 => match z.cps[j]? with
    | some c => sg1 c
    | none => ""
def lastV (H : Hp) : V → V
  | .ref a => match H a with
    | some (.tup [_, _, l]) => l
    | _ => .non
  | _ => .non
theorem Row.last {H : Hp} {x : V} {c : Nat} (h : Row H x c) : ∃ a p, x = .ref a ∧ H a = some (.tup [.str (sg1 c), p, lastV H x]) ∧ (lastV H x = .non ∨ PrA H (lastV H x)) := by
  obtain ⟨a, p, l, rfl, ha, hp, hl⟩ := h.ex
  have e : lastV H (.ref a) = l := by
    show (match H a with | some (.tup [_, _, l]) => l | _ => .non) = l
    rw [ha]
  exact ⟨a, p, rfl, by rw [e]; exact ha, by rw [e]; exact hl⟩
theorem Row.last_kp {H H' : Hp} {x : V} {c : Nat} (h : Row H x c) (k : Kp H H') : lastV H' x = lastV H x := by
  obtain ⟨a, p, rfl, ha, _⟩ := h.last
  have h' := k.tup ha
  show (match H' a with | some (.tup [_, _, l]) => l | _ => .non) = _
  rw [h']
noncomputable def endB (H : Hp) (xs : List V) (cs : List Nat) (c : Nat) : Bool := @decide (∃ (i : Nat) (x : V), xs[i]? = some x ∧ cs[i]? = some c ∧ lastV H x ≠ .non) (Classical.propDecidable _)
theorem endB_t {H : Hp} {xs : List V} {cs : List Nat} {c : Nat} (h : ∃ (i : Nat) (x : V), xs[i]? = some x ∧ cs[i]? = some c ∧ lastV H x ≠ .non) : endB H xs cs c = true := by unfold endB; exact @decide_eq_true _ (Classical.propDecidable _) h
theorem endB_f {H : Hp} {xs : List V} {cs : List Nat} {c : Nat} (h : ¬ ∃ (i : Nat) (x : V), xs[i]? = some x ∧ cs[i]? = some c ∧ lastV H x ≠ .non) : endB H xs cs c = false := by unfold endB; exact @decide_eq_false _ (Classical.propDecidable _) h
theorem nd_at {cs : List Nat} (h : cs.Nodup) {i j c : Nat} (e1 : cs[i]? = some c) (e2 : cs[j]? = some c) : i = j := by
  obtain ⟨h1, q1⟩ := List.getElem?_eq_some_iff.mp e1
  obtain ⟨h2, q2⟩ := List.getElem?_eq_some_iff.mp e2
  exact (List.getElem_inj (h₀ := h1) (h₁ := h2) h).mp (by rw [q1, q2])
theorem endB_at {H : Hp} {xs : List V} {cs : List Nat} {c i : Nat} {x : V} (nd : cs.Nodup) (e1 : xs[i]? = some x) (e2 : cs[i]? = some c) : endB H xs cs c = !decide (lastV H x = .non) := by
  by_cases h : lastV H x = .non
  · rw [decide_eq_true h]
    refine endB_f ?_
    rintro ⟨j, y, f1, f2, ne⟩
    have := nd_at nd e2 f2
    subst this
    rw [e1] at f1; cases f1
    exact ne h
  · rw [decide_eq_false h]
    exact endB_t ⟨i, x, e1, e2, h⟩
theorem endB_kp {H H' : Hp} {xs : List V} {cs : List Nat} {c : Nat} (r : Rows H xs cs) (k : Kp H H') : endB H' xs cs c = endB H xs cs c := by
  by_cases h : ∃ (i : Nat) (x : V), xs[i]? = some x ∧ cs[i]? = some c ∧ lastV H x ≠ .non
  · rw [endB_t h]
    obtain ⟨i, x, e1, e2, ne⟩ := h
    exact endB_t ⟨i, x, e1, e2, by rw [(r.row i x c e1 e2).last_kp k]; exact ne⟩
  · rw [endB_f h]
    refine endB_f ?_
    rintro ⟨i, x, e1, e2, ne⟩
    exact h ⟨i, x, e1, e2, by rw [← (r.row i x c e1 e2).last_kp k]; exact ne⟩
theorem prv_succ {z : Str} {i c : Nat} (h : z.cps[i]? = some c) : prv z (i + 1) = sg1 c := by
  show (match z.cps[i]? with | some c => sg1 c | none => "") = sg1 c
  rw [h]
section
variable {P : Program} {w : World} {K : PySem.W.Frag} {mg : Str → Option Value} {base : Heap}
def spFollows : Sp := fun vs H Q _ => ∃ (t : Addr) (cs : List Nat) (fs ps : List Str) (lg : Int) (a s : Str), vs = [.ref t, .str a, .str s] ∧ Tg H t cs fs ps lg ∧ a.length ≤ 100 ∧ s.length ≤ 100 ∧ Q (.bl (comeB fs ps a s)) H
theorem come_at {H : Hp} {t : Addr} {cs : List Nat} {fs ps : List Str} {lg : Int} (hg : Tg H t cs fs ps lg) : ∃ S F Pp, H t = some (.tup [.ref S, .ref F, .ref Pp, .int lg]) ∧ H F = some (.lst (txs fs)) ∧ H Pp = some (.lst (txs ps)) := by
  obtain ⟨S, F, Pp, xs, h1, _, _, h4, h5⟩ := hg.ex
  exact ⟨S, F, Pp, h1, h4, h5⟩
theorem scFo : FnScope ["tongue", "ahead", "sign"] ["tongue", "ahead", "sign"] (defScope sFollows) := ⟨rfl, rfl, rfl, by decide +kernel, rfl, by decide +kernel, by decide +kernel⟩
theorem ok_follows {f : Addr} {fd : FuncData} (F : FunG K "follows" "follows" sFollows .none f fd) : FnOk P w K mg base (CXE P w) 1 f fd ["tongue", "ahead", "sign"] spFollows := by
  refine F.zokN scFo (fun vs H Q E h => ?_) (fun cdv A outer s H vs Q E hr h => ?_)
  · obtain ⟨t, cs, fs, ps, lg, a, s, rfl, _⟩ := h
    rfl
  · obtain ⟨t, cs, fs, ps, lg, a, s', rfl, hg, la, ls, q⟩ := h
    refine ⟨_, (zpss_cons (zps_if (zpt_cmpR op_eq (zpv 1) zpe_str (nomark _)) (zpss_one (zps_ret (zpe_cmpR op_notIn_seq (zpv 2) (zpe_ix ix_tup (zpv 0) zpe_int (fun _ _ => rfl)) rfl))) zpss_nil)
      (zpss_one (zps_ret (zpe_cmpR op_notIn_seq (zpe_op op_add_str (zpv 1) (zpv 2)) (zpe_ix ix_tup (zpv 0) zpe_int (fun _ _ => rfl)) rfl)))), ?_⟩
    obtain ⟨S, F', Pp, h1, h4, h5⟩ := come_at hg
    refine ⟨_, rfl, rfl, _, rfl, ite2 (fun e => ?_) (fun e => ?_)⟩
    · have e' : V.str a = V.str "" := of_decide_eq_true e
      injection e' with e'
      refine ⟨_, rfl, _, rfl, t, _, _, _, rfl, rfl, SqT.of h1, rfl, F', _, rfl, .inl (SqL.of h4), rfl, txs_flat _, ?_⟩
      have : comeB fs ps a s' = !inV (.str s') (txs fs) := by rw [inV_txs]; unfold comeB; rw [if_pos e']
      rw [this] at q
      exact q
    · have ne : a ≠ "" := fun z => e (decide_eq_true (by rw [z]))
      refine ⟨_, rfl, _, rfl, a, s', rfl, rfl, Nat.le_trans (show _ ≤ 200 by omega) (by decide), _, rfl, t, _, _, _, rfl, rfl, SqT.of h1, rfl, Pp, _, rfl, .inl (SqL.of h5), rfl, txs_flat _, ?_⟩
      have : comeB fs ps a s' = !inV (.str (a ++ s')) (txs ps) := by rw [inV_txs]; unfold comeB; rw [if_neg ne]
      rw [this] at q
      exact q
theorem scCo : FnScope ["_law_tongue_here", "_law_ahead", "_law_sign"] ["_law_tongue_here", "_law_ahead", "_law_sign"] (defScope sComes) := ⟨rfl, rfl, rfl, by decide +kernel, rfl, by decide +kernel, by decide +kernel⟩
theorem ok_comes {f : Addr} {fd : FuncData} (F : FunG K "_law_may_come" "_law_may_come" sComes .none f fd) : FnOk P w K mg base (CXE P w) 1 f fd ["_law_tongue_here", "_law_ahead", "_law_sign"] spFollows := by
  refine F.zokN scCo (fun vs H Q E h => ?_) (fun cdv A outer s H vs Q E hr h => ?_)
  · obtain ⟨t, cs, fs, ps, lg, a, s, rfl, _⟩ := h
    rfl
  · obtain ⟨t, cs, fs, ps, lg, a, s', rfl, hg, la, ls, q⟩ := h
    refine ⟨_, (zpss_cons (zps_if (zpt_cmpR op_eq (zpv 1) zpe_str (nomark _)) (zpss_one (zps_ret (zpe_cmpR op_notIn_seq (zpv 2) (zpe_ix ix_tup (zpv 0) zpe_int (fun _ _ => rfl)) rfl))) zpss_nil)
      (zpss_one (zps_ret (zpe_cmpR op_notIn_seq (zpe_op op_add_str (zpv 1) (zpv 2)) (zpe_ix ix_tup (zpv 0) zpe_int (fun _ _ => rfl)) rfl)))), ?_⟩
    obtain ⟨S, F', Pp, h1, h4, h5⟩ := come_at hg
    refine ⟨_, rfl, rfl, _, rfl, ite2 (fun e => ?_) (fun e => ?_)⟩
    · have e' : V.str a = V.str "" := of_decide_eq_true e
      injection e' with e'
      refine ⟨_, rfl, _, rfl, t, _, _, _, rfl, rfl, SqT.of h1, rfl, F', _, rfl, .inl (SqL.of h4), rfl, txs_flat _, ?_⟩
      have : comeB fs ps a s' = !inV (.str s') (txs fs) := by rw [inV_txs]; unfold comeB; rw [if_pos e']
      rw [this] at q
      exact q
    · have ne : a ≠ "" := fun z => e (decide_eq_true (by rw [z]))
      refine ⟨_, rfl, _, rfl, a, s', rfl, rfl, Nat.le_trans (show _ ≤ 200 by omega) (by decide), _, rfl, t, _, _, _, rfl, rfl, SqT.of h1, rfl, Pp, _, rfl, .inl (SqL.of h5), rfl, txs_flat _, ?_⟩
      have : comeB fs ps a s' = !inV (.str (a ++ s')) (txs ps) := by rw [inV_txs]; unfold comeB; rw [if_neg ne]
      rw [this] at q
      exact q
end
structure TgX (H : Hp) (t : Addr) (xs : List V) (cs : List Nat) : Prop where
  ex : ∃ S F Pp lg, H t = some (.tup [.ref S, F, Pp, lg]) ∧ H S = some (.lst xs)
  rows : Rows H xs cs
theorem TgX.kp {H H' : Hp} {t : Addr} {xs : List V} {cs : List Nat} (h : TgX H t xs cs) (k : Kp H H') : TgX H' t xs cs := by
  obtain ⟨S, F, Pp, lg, h1, h2⟩ := h.ex
  exact ⟨⟨S, F, Pp, lg, k.tup h1, k.lst h2⟩, h.rows.kp k⟩
theorem at_last {z : Str} (h : 0 < z.cps.size) : ∃ c, z.cps[z.cps.size - 1]? = some c ∧ atI z.cps.toList (-1) = some c := by
  have h1 : z.cps.size - 1 < z.cps.size := by omega
  refine ⟨z.cps[z.cps.size - 1], Array.getElem?_eq_getElem h1, ?_⟩
  unfold atI ixN
  have e : z.cps.toList.length = z.cps.size := by simp
  rw [e, if_neg (by decide), if_pos (by omega)]
  simp only [Option.bind_some]
  have : (-1 + (z.cps.size : Int)).toNat = z.cps.size - 1 := by omega
  simp [this, h1]
theorem prv_cut {z : Str} {k : Nat} (hk : k ≤ z.cps.size) : cutS (cutS z none (some (k : Int))) (some (-1)) none = prv z k := by
  have l1 : cutS z none (some (k : Int)) = ⟨(z.cps.toList.take k).toArray⟩ := by
    unfold cutS
    have : HT.sIx z.length z.length (some (k : Int)) = k := by
      rw [HT.sIx_nat]
      have : z.length = z.cps.size := rfl
      omega
    rw [this]
    show (⟨((z.cps.toList.drop 0).take (k - 0)).toArray⟩ : Str) = _
    simp
  rw [l1]
  cases k with
  | zero => rfl
  | succ j =>
    have hj : j < z.cps.size := by omega
    have e : z.cps[j]? = some z.cps[j] := Array.getElem?_eq_getElem hj
    have n : (⟨(z.cps.toList.take (j + 1)).toArray⟩ : Str).length = j + 1 := by
      unfold Str.length
      simp
      omega
    unfold cutS
    rw [n]
    have a : HT.sIx (j + 1) 0 (some (-1)) = j := by
      show (if (-1 : Int) < 0 then ((-1 : Int) + ((j + 1 : Nat) : Int)).toNat else min (-1 : Int).toNat (j + 1)) = j
      rw [if_pos (by decide)]
      omega
    rw [a]
    show (⟨(((z.cps.toList.take (j + 1)).toArray.toList.drop j).take (j + 1 - j)).toArray⟩ : Str) = (match z.cps[j]? with | some c => sg1 c | none => "")
    rw [e]
    have : ((z.cps.toList.take (j + 1)).toArray.toList.drop j).take (j + 1 - j) = [z.cps[j]] := by
      simp only [List.toList_toArray]
      rw [List.take_add_one]
      have : z.cps.toList[j]? = some z.cps[j] := by simp [hj]
      rw [this]
      have len : (z.cps.toList.take j).length = j := by simp; omega
      rw [List.drop_append, len]
      have d0 : (z.cps.toList.take j).drop j = [] := List.drop_eq_nil_of_le (by omega)
      rw [d0]
      simp
    rw [this]
    rfl
theorem Ext.same {H H' : Hp} {p : Addr} (s : Same H H') : Ext p H H' := fun b o _ e => s b o e
theorem cps_app (a b : Str) : (a ++ b : Str).cps = a.cps ++ b.cps := rfl
theorem at_ofS {es : List Str} {d : Int} (h0 : 0 ≤ d) (h1 : d < es.length) : ∃ e ∈ es, atI (txs es) d = some (.str e) := by
  obtain ⟨n, rfl⟩ := Int.eq_ofNat_of_zero_le h0
  have hn : n < es.length := by omega
  exact ⟨es[n], List.getElem_mem hn, atI_nat (by unfold txs; simp [hn])⟩
end G1
namespace G1
open PySem L2 GM
def lastS (t : Str) : Str := cutS t (some (-1)) none
def lastC (t : Str) : Nat := (t.cps[t.cps.size - 1]?).getD 0
theorem cut_all (z : Str) : cutS z none (some (z.cps.size : Int)) = z := by
  unfold cutS
  have : HT.sIx z.length z.length (some (z.cps.size : Int)) = z.cps.size := by
    rw [HT.sIx_nat]
    have : z.length = z.cps.size := rfl
    omega
  rw [this]
  show (⟨((z.cps.toList.drop 0).take (z.cps.size - 0)).toArray⟩ : Str) = _
  rw [List.drop_zero, Nat.sub_zero, List.take_of_length_le (by simp)]
theorem lastS_prv (z : Str) : lastS z = prv z z.cps.size := by
  have := prv_cut (z := z) (k := z.cps.size) (Nat.le_refl _)
  rw [cut_all] at this
  exact this
theorem lastS_nil : lastS "" = "" := by rw [lastS_prv]; rfl
theorem snoc_size (t : Str) (c : Nat) : (t ++ sg1 c : Str).cps.size = t.cps.size + 1 := by rw [cps_app, Array.size_append]; rfl
theorem snoc_at (t : Str) (c : Nat) : (t ++ sg1 c : Str).cps[t.cps.size]? = some c := by
  rw [cps_app, Array.getElem?_append_right (Nat.le_refl _), Nat.sub_self]; rfl
theorem lastS_snoc (t : Str) (c : Nat) : lastS (t ++ sg1 c) = sg1 c := by rw [lastS_prv, snoc_size, prv_succ (snoc_at t c)]
theorem lastC_snoc (t : Str) (c : Nat) : lastC (t ++ sg1 c) = c := by
  unfold lastC
  rw [snoc_size, Nat.add_sub_cancel, snoc_at]; rfl
section
variable (cs : List Nat) (cm : Str → Nat → Bool)
def nextC (t : Str) : List Nat := cs.filter (cm (lastS t))
def stepL (ts : List Str) : List Str := ts.flatMap fun t => (nextC cs cm t).map fun c => t ++ sg1 c
def lvl : Nat → List Str
  | 0 => [""]
  | k + 1 => stepL cs cm (lvl k)
variable {cs cm}
theorem mem_step {ts : List Str} {z : Str} (h : z ∈ stepL cs cm ts) : ∃ t ∈ ts, ∃ c ∈ cs, cm (lastS t) c = true ∧ z = t ++ sg1 c := by
  obtain ⟨t, ht, hz⟩ := List.mem_flatMap.mp h
  obtain ⟨c, hc, rfl⟩ := List.mem_map.mp hz
  obtain ⟨c1, c2⟩ := List.mem_filter.mp hc
  exact ⟨t, ht, c, c1, c2, rfl⟩
theorem lvl_size : ∀ {k : Nat} {z : Str}, z ∈ lvl cs cm k → z.cps.size = k
  | 0, z, h => by rw [List.mem_singleton.mp h]; rfl
  | k + 1, z, h => by
    obtain ⟨t, ht, c, _, _, rfl⟩ := mem_step h
    rw [snoc_size, lvl_size ht]
theorem lvl_last {k : Nat} {z : Str} (h : z ∈ lvl cs cm (k + 1)) : lastC z ∈ cs ∧ lastS z = sg1 (lastC z) ∧ z.cps[z.cps.size - 1]? = some (lastC z) := by
  obtain ⟨t, ht, c, hc, _, rfl⟩ := mem_step h
  rw [lastC_snoc, lastS_snoc]
  exact ⟨hc, rfl, by rw [snoc_size, Nat.add_sub_cancel, snoc_at]⟩
theorem lvl_len {m : Nat} (h : cs.length ≤ m) : ∀ k, (lvl cs cm k).length ≤ m ^ k
  | 0 => by simp [lvl]
  | k + 1 => by
    have ih := lvl_len h k
    have : (stepL cs cm (lvl cs cm k)).length ≤ (lvl cs cm k).length * m := by
      unfold stepL
      generalize lvl cs cm k = L
      induction L with
      | nil => simp
      | cons t L ih =>
        rw [List.flatMap_cons, List.length_append, List.length_map, List.length_cons, Nat.succ_mul]
        have : (nextC cs cm t).length ≤ m := Nat.le_trans (List.length_filter_le _ _) h
        omega
    show (stepL cs cm (lvl cs cm k)).length ≤ _
    rw [Nat.pow_succ]
    exact Nat.le_trans this (Nat.mul_le_mul_right _ ih)
def endK (en : Nat → Bool) : Nat → Nat → Bool
  | 0, c => en c
  | k + 1, c => (nextC cs cm (sg1 c)).any (endK en k)
theorem flat_filter {α β : Type} (p : α → Bool) (f : α → List β) : ∀ l : List α, (∀ t ∈ l, p t = false → f t = []) → (l.filter p).flatMap f = l.flatMap f
  | [], _ => rfl
  | t :: l, h => by
    have ih := flat_filter p f l fun t ht => h t (List.mem_cons_of_mem _ ht)
    cases e : p t with
    | true => rw [List.filter_cons_of_pos e, List.flatMap_cons, List.flatMap_cons, ih]
    | false => rw [List.filter_cons_of_neg (by rw [e]; decide), List.flatMap_cons, ih, h t List.mem_cons_self e]; rfl
theorem lastS_sg (c : Nat) : lastS (sg1 c) = sg1 c := by
  have := lastS_snoc "" c
  have e : (("" : Str) ++ sg1 c : Str) = sg1 c := rfl
  rw [e] at this
  exact this
def stepP (en : Nat → Bool) (k : Nat) (ts : List Str) : List Str := ts.flatMap fun t => ((nextC cs cm t).filter (endK (cs := cs) (cm := cm) en k)).map fun c => t ++ sg1 c
def prn (en : Nat → Bool) (n : Nat) : Nat → List Str
  | 0 => [""]
  | j + 1 => stepP (cs := cs) (cm := cm) en (n - 1 - j) (prn en n j)
theorem prn_eq (en : Nat → Bool) (n : Nat) : ∀ j, j ≤ n → prn (cs := cs) (cm := cm) en n j = (lvl cs cm j).filter fun t => decide (j = 0) || endK (cs := cs) (cm := cm) en (n - j) (lastC t)
  | 0, _ => rfl
  | j + 1, h => by
    have ih := prn_eq en n j (by omega)
    show stepP en (n - 1 - j) (prn en n j) = _
    rw [ih]
    unfold stepP
    rw [flat_filter]
    · show _ = (stepL cs cm (lvl cs cm j)).filter _
      unfold stepL
      rw [List.filter_flatMap]
      congr 1
      funext t
      rw [List.filter_map]
      congr 1
      apply List.filter_congr
      intro c _
      show endK en (n - 1 - j) c = (decide (j + 1 = 0) || endK en (n - (j + 1)) (lastC (t ++ sg1 c)))
      rw [lastC_snoc, show n - (j + 1) = n - 1 - j by omega]
      simp
    · intro t ht hf
      cases j with
      | zero => simp at hf
      | succ i =>
        have e : endK (cs := cs) (cm := cm) en (n - (i + 1)) (lastC t) = false := by simpa using hf
        obtain ⟨_, l2, _⟩ := lvl_last ht
        rw [show n - (i + 1) = (n - 1 - (i + 1)) + 1 by omega] at e
        have e2 : (nextC cs cm (sg1 (lastC t))).any (endK (cs := cs) (cm := cm) en (n - 1 - (i + 1))) = false := e
        have e3 : nextC cs cm (sg1 (lastC t)) = nextC cs cm t := by
          unfold nextC
          rw [lastS_sg, l2]
        rw [e3] at e2
        have : (nextC cs cm t).filter (endK (cs := cs) (cm := cm) en (n - 1 - (i + 1))) = [] := by
          rw [List.filter_eq_nil_iff]
          intro c hc hh
          rw [List.any_eq_false] at e2
          exact e2 c hc hh
        rw [this]; rfl
theorem prn_words (en : Nat → Bool) {n : Nat} (h : 0 < n) : prn (cs := cs) (cm := cm) en n n = (lvl cs cm n).filter fun t => en (lastC t) := by
  rw [prn_eq en n n (Nat.le_refl _)]
  apply List.filter_congr
  intro t _
  rw [Nat.sub_self]
  show (decide (n = 0) || en (lastC t)) = en (lastC t)
  have : decide (n = 0) = false := decide_eq_false (by omega)
  rw [this, Bool.false_or]
def cntC (L : List Str) (c : Nat) : Nat := (L.filter fun t => lastC t == c).length
theorem one_of {cs : List Nat} (nd : cs.Nodup) {d : Nat} (hd : d ∈ cs) (p : Nat → Bool) : (cs.map fun c => if p c && (d == c) then 1 else 0).sum = if p d then 1 else 0 := by
  induction cs with
  | nil => cases hd
  | cons c cs ih =>
    obtain ⟨n1, n2⟩ := List.nodup_cons.mp nd
    rw [List.map_cons, List.sum_cons]
    rcases List.mem_cons.mp hd with e | e
    · subst e
      have z : (cs.map fun c => if p c && (d == c) then 1 else 0).sum = 0 := by
        have : ∀ l : List Nat, d ∉ l → (l.map fun c => if p c && (d == c) then 1 else 0).sum = 0 := by
          intro l
          induction l with
          | nil => intro _; rfl
          | cons x l ih =>
            intro hx
            rw [List.map_cons, List.sum_cons, ih fun z => hx (List.mem_cons_of_mem _ z)]
            have : (d == x) = false := by
              simpa using fun z : d = x => hx (by rw [z]; exact List.mem_cons_self)
            rw [this]; simp
        exact this cs n1
      rw [z]
      simp
    · have : (d == c) = false := by
        simpa using fun z : d = c => n1 (by rw [← z]; exact e)
      rw [ih n2 e, this]
      simp
theorem sum_add {α : Type} (f g : α → Nat) : ∀ l : List α, (l.map fun x => f x + g x).sum = (l.map f).sum + (l.map g).sum
  | [] => rfl
  | x :: l => by
    rw [List.map_cons, List.map_cons, List.map_cons, List.sum_cons, List.sum_cons, List.sum_cons, sum_add f g l]
    omega
theorem cnt_sum {cs : List Nat} (nd : cs.Nodup) (p : Nat → Bool) : ∀ L : List Str, (∀ t ∈ L, lastC t ∈ cs) → (cs.map fun c => if p c then cntC L c else 0).sum = (L.filter fun t => p (lastC t)).length
  | [], _ => by
    have : ∀ l : List Nat, (l.map fun c => if p c then cntC [] c else 0).sum = 0 := by
      intro l
      induction l with
      | nil => rfl
      | cons c l ih =>
        rw [List.map_cons, List.sum_cons, ih]
        show (if p c then 0 else 0) + 0 = 0
        split <;> rfl
    exact this cs
  | t :: L, h => by
    have ih := cnt_sum nd p L fun t ht => h t (List.mem_cons_of_mem _ ht)
    have e1 : (cs.map fun c => if p c then cntC (t :: L) c else 0) = cs.map fun c => (if p c && (lastC t == c) then 1 else 0) + (if p c then cntC L c else 0) := by
      apply List.map_congr_left
      intro c _
      unfold cntC
      cases hp : p c with
      | false => simp
      | true =>
        cases hc : lastC t == c with
        | true => rw [List.filter_cons_of_pos (by exact hc)]; simp; omega
        | false => rw [List.filter_cons_of_neg (by rw [hc]; decide)]; simp
    rw [e1, sum_add, one_of nd (h t List.mem_cons_self) p, ih]
    cases hp : p (lastC t) with
    | true => rw [List.filter_cons_of_pos (by exact hp)]; simp; omega
    | false => rw [List.filter_cons_of_neg (by rw [hp]; decide)]; simp
theorem cnt_all {cs : List Nat} (nd : cs.Nodup) (L : List Str) (h : ∀ t ∈ L, lastC t ∈ cs) : (cs.map fun c => cntC L c).sum = L.length := by
  have := cnt_sum nd (fun _ => true) L h
  have e : (L.filter fun _ => true) = L := List.filter_eq_self.mpr fun _ _ => rfl
  rw [e] at this
  simpa using this
theorem filter_one {cs : List Nat} (nd : cs.Nodup) {c : Nat} (hc : c ∈ cs) (q : Nat → Bool) : ((cs.filter q).filter fun d => d == c).length = if q c then 1 else 0 := by
  induction cs with
  | nil => cases hc
  | cons d cs ih =>
    obtain ⟨n1, n2⟩ := List.nodup_cons.mp nd
    have none : c ∉ cs → ((cs.filter q).filter fun d => d == c) = [] := fun hn => by
      rw [List.filter_eq_nil_iff]
      intro x hx hh
      have : x = c := by simpa using hh
      subst this
      exact hn (List.mem_filter.mp hx).1
    rcases List.mem_cons.mp hc with e | e
    · subst e
      cases hq : q c with
      | true => rw [List.filter_cons_of_pos hq, List.filter_cons_of_pos (by simp), none n1]; simp
      | false => rw [List.filter_cons_of_neg (by rw [hq]; decide), none n1]; simp
    · have ne : d ≠ c := fun z => n1 (by rw [z]; exact e)
      cases hq : q d with
      | true => rw [List.filter_cons_of_pos hq, List.filter_cons_of_neg (by simpa using ne), ih n2 e]
      | false => rw [List.filter_cons_of_neg (by rw [hq]; decide), ih n2 e]
theorem cnt_step (nd : cs.Nodup) {c : Nat} (hc : c ∈ cs) : ∀ L : List Str, cntC (stepL cs cm L) c = (L.filter fun t => cm (lastS t) c).length
  | [] => rfl
  | t :: L => by
    have ih := cnt_step nd hc L
    unfold cntC stepL at *
    rw [List.flatMap_cons, List.filter_append, List.length_append, ih]
    have e : (((nextC cs cm t).map fun d => t ++ sg1 d).filter fun z => lastC z == c).length = if cm (lastS t) c then 1 else 0 := by
      rw [List.filter_map, List.length_map]
      have : (nextC cs cm t).filter ((fun z => lastC z == c) ∘ fun d => t ++ sg1 d) = (nextC cs cm t).filter fun d => d == c := by
        apply List.filter_congr
        intro d _
        show (lastC (t ++ sg1 d) == c) = (d == c)
        rw [lastC_snoc]
      rw [this]
      exact filter_one nd hc _
    rw [e]
    cases hp : cm (lastS t) c with
    | true => rw [List.filter_cons_of_pos (by exact hp)]; simp; omega
    | false => rw [List.filter_cons_of_neg (by rw [hp]; decide)]; simp
def cntL (cs : List Nat) (cm : Str → Nat → Bool) (k c : Nat) : Nat := cntC (lvl cs cm (k + 1)) c
theorem cntL_zero (nd : cs.Nodup) {c : Nat} (hc : c ∈ cs) : cntL cs cm 0 c = if cm "" c then 1 else 0 := by
  unfold cntL
  show cntC (stepL cs cm [""]) c = _
  rw [cnt_step nd hc]
  cases h : cm "" c with
  | true => rw [List.filter_cons_of_pos (by rw [lastS_nil]; exact h)]; simp
  | false => rw [List.filter_cons_of_neg (by rw [lastS_nil, h]; decide)]; simp
theorem cntL_succ (nd : cs.Nodup) {c k : Nat} (hc : c ∈ cs) : cntL cs cm (k + 1) c = (cs.map fun a => if cm (sg1 a) c then cntL cs cm k a else 0).sum := by
  unfold cntL
  show cntC (stepL cs cm (lvl cs cm (k + 1))) c = _
  rw [cnt_step nd hc, cnt_sum nd (fun a => cm (sg1 a) c) _ fun t ht => (lvl_last ht).1]
  congr 1
  apply List.filter_congr
  intro t ht
  rw [(lvl_last ht).2.1]
end
end G1
namespace G1
open PySem L2 GM
def relS (scope esc : Scope) : Scope := { scope with names := scope.names.map fun (n, k) => if (k == NameKind.free && esc.kind == .function && esc.names.lookup n == some .cell) then (n, NameKind.cell) else (n, k) }
def scopeE : PySem.Expr → Scope
  | .DictComp _ _ _ sc _ => sc
  | .ListComp _ _ sc _ => sc
  | _ => default
def scopeR : Stmt → Scope
  | .Return (some e) _ => scopeE e
  | _ => default
def stAt (st : Stmt) (i : Nat) : Stmt := (defBody st).getD i (.Pass ⟨0, 0, 0, 0⟩)
abbrev cmT (fs ps : List Str) : Str → Nat → Bool := fun a c => comeB fs ps a (sg1 c)
structure Cmr (H : Hp) (C : Addr) (cs : List Nat) (cm : Str → Nat → Bool) : Prop where
  ex : ∃ kvs, H C = some (.dK kvs) ∧ ∀ a ∈ ("" :: sgs cs : List Str), ∃ l, valV kvs (Sum.inr a : Key) = some (.ref l) ∧ H l = some (.lst (txs (sgs (cs.filter (cm a)))))
theorem Cmr.same {H H' : Hp} {C : Addr} {cs : List Nat} {cm : Str → Nat → Bool} (h : Cmr H C cs cm) (s : Same H H') : Cmr H' C cs cm := by
  obtain ⟨kvs, h1, h2⟩ := h.ex
  exact ⟨kvs, s _ _ h1, fun a ha => by obtain ⟨l, e1, e2⟩ := h2 a ha; exact ⟨l, e1, s _ _ e2⟩⟩
theorem sgs_len (cs : List Nat) : (sgs cs).length = cs.length := List.length_map ..
theorem txs_len (ts : List Str) : (txs ts).length = ts.length := List.length_map ..
section
variable {P : Program} {w : World} {K : PySem.W.Frag} {mg : Str → Option Value} {base : Heap}
def spComers : Sp := fun vs H Q _ => ∃ (t : Addr) (cs : List Nat) (fs ps : List Str) (lg : Int), vs = [.ref t] ∧ Tg H t cs fs ps lg ∧ ∀ C H', Same H H' → Cmr H' C cs (cmT fs ps) → Q (.ref C) H'
theorem scCm : FnScope ["tongue", "signs"] ["tongue"] (defScope sComers) := ⟨rfl, rfl, rfl, by decide +kernel, rfl, by decide +kernel, by decide +kernel⟩
def escCm : Scope := relS (scopeR (stAt sComers 1)) (defScope sComers)
theorem ok_comers {f fO fF : Addr} {fd fdO fdF : FuncData} (F : FunG K "comers_behind" "comers_behind" sComers .none f fd)
    (GO : FnOk P w K mg base (CXE P w) 1 fO fdO ["tongue"] (spSignsOf K)) (mO : mg "signs_of" = some (.ref fO)) (kO : PySem.W.keepIn K (.ref fO) = true) (bO : Binds K fdO ["tongue"] [])
    (GF : FnOk P w K mg base (CXE P w) 1 fF fdF ["tongue", "ahead", "sign"] spFollows) (mF : mg "follows" = some (.ref fF)) (kF : PySem.W.keepIn K (.ref fF) = true) (bF : Binds K fdF ["tongue", "ahead", "sign"] []) :
    FnOk P w K mg base (CXE P w) 2 f fd ["tongue"] spComers := by
  refine F.zokN scCm (fun vs H Q E h => ?_) (fun cdv A outer s H vs Q E hr h => ?_)
  · obtain ⟨t, cs, fs, ps, lg, rfl, _⟩ := h
    rfl
  · obtain ⟨t, cs, fs, ps, lg, rfl, tg, q⟩ := h
    refine ⟨_, (zpss_cons (zps_set (i := 1) scCm.nd rfl (Or.inr rfl) (zpe_call GO hr (by rfl) mO kO bO .nil passE0 (zpac_n (zpv 0) zpa_nil)))
      (zpss_one (zps_ret (zpe_dictcompC ["tongue", "signs"] ["ahead"] [0, 1] (defScope sComers) rfl rfl rfl ⟨by decide +kernel, by decide +kernel, by decide +kernel, by decide +kernel, by decide +kernel, by decide +kernel⟩
          (zpi_list (zpe_lst (zpac_c zpe_str (zpa_star (zpv 1) zpa_nil))))
          (fun s H fp => zpg_name (i := 0) (show List.Nodup [("ahead" : Str), "tongue", "signs"] by decide +kernel) rfl (Or.inr rfl)) (fun s H fp => zpts_nil) (fun s H fp => zpv 0)
          (fun s H fp => zpe_compL ["ahead", "tongue", "signs"] ["sign"] [0, 1] escCm rfl rfl rfl ⟨by decide +kernel, by decide +kernel, by decide +kernel, by decide +kernel, by decide +kernel⟩ (zpi_listK K rfl (zpv 2))
            (fun s H fp => zpg_name (i := 0) (show List.Nodup [("sign" : Str), "ahead", "tongue"] by decide +kernel) rfl (Or.inl rfl))
            (fun s H fp => zpts_one (zpt_val (zpe_call GF hr (by rfl) mF kF bF .nil passE0 (zpac_n (zpv 2) (zpac_n (zpv 1) (zpac_n (zpv 0) zpa_nil)))))) (fun s H fp => zpv 0)))))), ?_⟩
    obtain ⟨S, Fr, Pp, xs, h1, h2, rows, h4, h5⟩ := tg.ex
    refine ⟨_, rfl, t, S, _, _, _, xs, cs, rfl, SqT.of h1, h2, rows, tg.c6, fun l H1 hl s1 hl1 => ?_⟩
    have c6 := tg.c6
    have tg1 := tg.kp (Kp.same s1)
    refine ⟨_, rfl, l, _, rfl, hl1, ?_, fun A1 hA => ?_⟩
    · refine Nat.le_trans (m := 7) ?_ (by decide)
      simp [txs, sgs]
      omega
    have s2 := same_upd (o := .lst (txs ("" :: sgs cs))) hA
    have hA2 : (upd H1 A1 (.lst (txs ("" :: sgs cs)))) A1 = some (.lst (txs ("" :: sgs cs))) := upd_same
    have e0 : (V.str "" :: (txs (sgs cs) ++ [])) = txs ("" :: sgs cs) := by rw [List.append_nil]; rfl
    show ∃ a, _
    refine ⟨A1, rfl, ?_⟩
    rw [e0]
    have hl2 := s2 _ _ hl1
    have tg2 := tg1.kp (Kp.same s2)
    have S2 := s1.trans s2
    generalize upd H1 A1 (.lst (txs ("" :: sgs cs))) = H2 at s2 hA2 hl2 tg2 S2 ⊢
    refine ⟨⟨_, SqL.of hA2⟩, fun D hD => ?_⟩
    refine lr_list (xs := txs ("" :: sgs cs)) (fun i σ H3 => (∃ v, σ = [v, some (.ref t), some (.ref l)]) ∧ Same H2 H3 ∧ ∃ kvs : List (Key × V), H3 D = some (.dK kvs) ∧ kvs.length ≤ i ∧ ∀ (j : Nat) (a : Str), j < i → ("" :: sgs cs : List Str)[j]? = some a → ∃ l', valV kvs (Sum.inr a : Key) = some (.ref l') ∧ H3 l' = some (.lst (txs (sgs (cs.filter (cmT fs ps a))))))
      ⟨⟨_, rfl⟩, same_upd hD, [], upd_same, Nat.le_refl _, fun j _ hj => absurd hj (Nat.not_lt_zero _)⟩ (fun i σ H3 p => SqL.of (p.2.1 _ _ hA2)) ?_ ?_
    · rintro i x σ H3 C hx ⟨⟨v, rfl⟩, s3, kvs, hD3, kl, ok⟩ hC
      obtain ⟨a, ha, rfl⟩ := txs_at hx
      have hi : i < 7 := by
        have z := (List.getElem?_eq_some_iff.mp ha).1
        rw [List.length_cons, sgs_len] at z
        omega
      have la : a.length ≤ 1 := by
        cases i with
        | zero => cases ha; exact Nat.zero_le _
        | succ j =>
          have : a ∈ sgs cs := List.mem_of_getElem? (show (sgs cs)[j]? = some a from ha)
          obtain ⟨c, _, rfl⟩ := List.mem_map.mp this
          exact Nat.le_refl _
      dsimp only [gName]
      rw [if_pos rfl]
      have hl3 := s3 _ _ hl2
      have tg3 := tg2.kp (Kp.same s3)
      refine ⟨_, rfl, _, rfl, l, rfl, ⟨_, SqL.of hl3⟩, fun l' hl' => ?_⟩
      have nD : D ≠ l' := ne_of_none hD3 hl'
      refine lr_list (xs := txs (sgs cs)) (fun k σ H4 => (∃ v, σ = [v, some (.str a), some (.ref t)]) ∧ Same H3 H4 ∧ H4 l' = some (.lst (txs (sgs ((cs.take k).filter (cmT fs ps a)))))) ⟨⟨_, rfl⟩, same_upd hl', upd_same⟩ (fun k σ H4 p => SqL.of (p.2.1 _ _ hl3)) ?_ ?_
      · rintro k y σ H4 C' hy ⟨⟨v, rfl⟩, s4, hl4⟩ hC'
        obtain ⟨b, hb, rfl⟩ := txs_at hy
        obtain ⟨c, hc, rfl⟩ : ∃ c, cs[k]? = some c ∧ sg1 c = b := by
          have : (sgs cs)[k]? = some b := hb
          unfold sgs at this
          rw [List.getElem?_map] at this
          cases e : cs[k]? with
          | none => rw [e] at this; cases this
          | some c => rw [e] at this; exact ⟨c, rfl, Option.some.inj this⟩
        dsimp only [gName]
        refine ⟨_, rfl, _, rfl, _, rfl, t, cs, fs, ps, lg, a, sg1 c, rfl, tg3.kp (Kp.same s4), by omega, by show (1 : Nat) ≤ 100; decide, _, rfl, ?_⟩
        have tk : cs.take (k + 1) = cs.take k ++ [c] := by rw [List.take_add_one, hc]; rfl
        cases hcm : comeB fs ps a (sg1 c) with
        | true =>
          refine iteT ⟨_, rfl, _, hl4, ?_, hC' _ _ ⟨⟨_, rfl⟩, fun b o e => by rw [upd_ne (ne_of_none e hl')]; exact s4 b o e, ?_⟩⟩
          · rw [txs_len, sgs_len]
            refine Nat.lt_of_le_of_lt (List.length_filter_le _ _) ?_
            rw [List.length_take]
            exact Nat.lt_of_le_of_lt (show min k cs.length ≤ 6 by omega) (by decide)
          · rw [upd_same]
            congr 2
            rw [tk, List.filter_append, List.filter_cons_of_pos (show cmT fs ps a c = true from hcm)]
            unfold txs sgs
            rw [List.map_append, List.map_append]; rfl
        | false =>
          refine iteF (hC' _ _ ⟨⟨_, rfl⟩, s4, ?_⟩)
          rw [hl4, tk, List.filter_append, List.filter_cons_of_neg (by rw [show cmT fs ps a c = false from hcm]; decide)]
          simp
      · rintro σ H4 ⟨⟨v2, rfl⟩, s4, hl4⟩
        have el : (txs (sgs cs)).length = cs.length := by rw [txs_len, sgs_len]
        rw [el, List.take_length] at hl4
        have hD4 := s4 _ _ hD3
        refine ⟨Sum.inr a, kvs, rfl, hD4, Nat.lt_of_le_of_lt (show kvs.length ≤ 7 by omega) (by decide), hC _ _ ⟨⟨_, rfl⟩, ?_, _, upd_same, ?_, ?_⟩⟩
        · intro b o e
          rw [upd_ne (fun z => by rw [z, hD] at e; cases e)]
          exact s4 _ _ (s3 _ _ e)
        · have := length_putK kvs (Sum.inr a : Key) (.ref l')
          omega
        · intro j b hj hb
          have ne : D ≠ l' := nD
          rw [valV_put]
          by_cases hba : b = a
          · subst hba
            rw [if_pos rfl]
            exact ⟨l', rfl, by rw [upd_ne ne.symm]; exact hl4⟩
          · rw [if_neg (fun z => hba (by injection z))]
            have hji : j < i := by
              rcases Nat.lt_or_ge j i with h | h
              · exact h
              · have : j = i := by omega
                subst this
                rw [ha] at hb; cases hb
                exact absurd rfl hba
            obtain ⟨l2, e1, e2⟩ := ok j b hji hb
            have nl2 : l2 ≠ D := fun z => by rw [z, hD3] at e2; cases e2
            exact ⟨l2, e1, by rw [upd_ne nl2]; exact s4 _ _ e2⟩
    · rintro σ H3 ⟨⟨v, rfl⟩, s3, kvs, hD3, kl, ok⟩
      refine q D H3 (S2.trans s3) ⟨kvs, hD3, fun a ha => ?_⟩
      obtain ⟨j, hj⟩ := List.getElem?_of_mem ha
      have hl := (List.getElem?_eq_some_iff.mp hj).1
      exact ok j a (by rw [txs_len]; exact hl) hj
end
end G1
namespace G1
open PySem L2 GM
def dct (cs : List Nat) (val : Nat → V) : List (Key × V) := cs.map fun c => ((Sum.inr (sg1 c) : Key), val c)
theorem dct_len (cs : List Nat) (val : Nat → V) : (dct cs val).length = cs.length := List.length_map ..
theorem dct_at {cs : List Nat} {val : Nat → V} {c : Nat} (h : c ∈ cs) : valV (dct cs val) (Sum.inr (sg1 c) : Key) = some (val c) := by
  unfold dct
  induction cs with
  | nil => cases h
  | cons d cs ih =>
    rw [List.map_cons]
    by_cases e : d = c
    · subst e; exact valV_pos rfl
    · rw [valV_neg (fun z => e (sg1_inj (by injection z)))]
      rcases List.mem_cons.mp h with z | z
      · exact absurd z.symm e
      · exact ih z
theorem dct_none {cs : List Nat} {val : Nat → V} {c : Nat} (h : c ∉ cs) : valV (dct cs val) (Sum.inr (sg1 c) : Key) = none := by
  unfold dct
  induction cs with
  | nil => rfl
  | cons d cs ih =>
    rw [List.map_cons, valV_neg (fun z => h (by rw [← sg1_inj (show sg1 d = sg1 c by injection z)]; exact List.mem_cons_self))]
    exact ih fun z => h (List.mem_cons_of_mem _ z)
theorem dct_snoc {cs : List Nat} {val : Nat → V} {c : Nat} (h : c ∉ cs) : putK (dct cs val) (Sum.inr (sg1 c) : Key) (val c) = dct (cs ++ [c]) val := by
  rw [putK_new _ (dct_none h)]
  unfold dct
  rw [List.map_append]; rfl
theorem dct_put {cs : List Nat} {val : Nat → V} {c : Nat} {v : V} (h : c ∈ cs) : putK (dct cs val) (Sum.inr (sg1 c) : Key) v = dct cs fun d => if d = c then v else val d := by
  unfold putK
  have a : ((dct cs val).any fun kv => decide (kv.1 = (Sum.inr (sg1 c) : Key))) = true := by rw [valV_any, dct_at h]; rfl
  rw [if_pos a]
  unfold dct
  rw [List.map_map]
  apply List.map_congr_left
  intro d _
  show (if (Sum.inr (sg1 d) : Key) = Sum.inr (sg1 c) then ((Sum.inr (sg1 d) : Key), v) else (Sum.inr (sg1 d), val d)) = _
  by_cases e : d = c
  · subst e
    rw [if_pos rfl]
    simp
  · rw [if_neg (fun z => e (sg1_inj (by injection z)))]
    simp [e]
theorem dct_congr {cs : List Nat} {f g : Nat → V} (h : ∀ c ∈ cs, f c = g c) : dct cs f = dct cs g := by
  unfold dct
  apply List.map_congr_left
  intro c hc
  rw [h c hc]
structure DRows (H : Hp) (R : Addr) (cs : List Nat) (n : Nat) (val : Nat → Nat → V) : Prop where
  ex : ∃ as : List Addr, as.length = n ∧ H R = some (.lst (as.map V.ref)) ∧ ∀ (k : Nat) (a : Addr), as[k]? = some a → H a = some (.dK (dct cs (val k)))
theorem DRows.same {H H' : Hp} {R : Addr} {cs : List Nat} {n : Nat} {val : Nat → Nat → V} (h : DRows H R cs n val) (s : Same H H') : DRows H' R cs n val := by
  obtain ⟨as, h1, h2, h3⟩ := h.ex
  exact ⟨as, h1, s _ _ h2, fun k a e => s _ _ (h3 k a e)⟩
theorem DRows.push {H : Hp} {R a : Addr} {cs : List Nat} {n : Nat} {val : Nat → Nat → V} {as : List Addr} (h1 : as.length = n) (h3 : ∀ (k : Nat) (a : Addr), as[k]? = some a → H a = some (.dK (dct cs (val k)))) (hR : ∃ ys, H R = some (.lst ys)) (ha : H a = some (.dK (dct cs (val n)))) :
    DRows (upd H R (.lst ((as ++ [a]).map V.ref))) R cs (n + 1) val := by
  refine ⟨as ++ [a], by rw [List.length_append, h1]; rfl, upd_same, fun k b e => ?_⟩
  obtain ⟨ys, hR⟩ := hR
  have ne : ∀ b kv, H b = some (.dK kv) → b ≠ R := fun b kv e z => by rw [z, hR] at e; cases e
  rcases Nat.lt_or_ge k as.length with hk | hk
  · rw [List.getElem?_append_left hk] at e
    rw [upd_ne (ne _ _ (h3 k b e))]; exact h3 k b e
  · rw [List.getElem?_append_right hk] at e
    have k0 : k - as.length = 0 := by
      have := (List.getElem?_eq_some_iff.mp e).1
      simp at this; omega
    rw [k0] at e
    cases e
    have : k = n := by omega
    subst this
    rw [upd_ne (ne _ _ ha)]; exact ha
def scopeX : PySem.Expr → Scope
  | .Call _ (a :: _) _ _ => scopeE a
  | .List (a :: _) _ => scopeE a
  | e => scopeE e
def scopeS : Stmt → Scope
  | .Return (some e) _ => scopeX e
  | .Expr e _ => scopeX e
  | .Assign _ e _ => scopeX e
  | _ => default
def bodyW : Stmt → List Stmt
  | .While _ b _ _ => b
  | _ => []
def inW (st : Stmt) (i : Nat) : Stmt := (bodyW st).getD i (.Pass ⟨0, 0, 0, 0⟩)
section
variable {P : Program} {w : World} {K : PySem.W.Frag} {mg : Str → Option Value} {base : Heap}
theorem ix_listK {X : Cx} (K : PySem.W.Frag) (h : X.K = K) : IxR X (rIxL K) := h ▸ ix_list
theorem at_neg1 {α : Type} {xs : List α} {y : α} : atI (xs ++ [y]) (-1) = some y := by
  unfold atI ixN
  rw [if_neg (by decide), if_pos (by rw [List.length_append]; simp; omega)]
  simp only [Option.bind_some]
  have : (-1 + ((xs ++ [y]).length : Int)).toNat = xs.length := by rw [List.length_append]; simp; omega
  rw [this]
  simp
theorem dc_signs {l D : Addr} {cs : List Nat} {val : Nat → V} {rest : St} {tv : TE} {H : Hp} {N : St → Hp → Prop} {v0 : Option V} (hl : H l = some (.lst (txs (sgs cs)))) (hD : H D = none) (nd : cs.Nodup) (c6 : cs.length ≤ 6)
    (hv : ∀ (c : Nat) (H3 : Hp) (C : VK), c ∈ cs → Same H H3 → (∀ H4, Same H3 H4 → C (val c) H4) → tv (some (.str (sg1 c)) :: rest) H3 C)
    (fin : ∀ (v : Option V) (H' : Hp), Same H H' → H' D = some (.dK (dct cs val)) → N (v :: rest) H') :
    LR (Itl K l) (gName 0) (fun _ H Q => Q true H) (tEmD D (tVar 0) tv) (v0 :: rest) (upd H D (.dK [])) N := by
  refine lr_list (xs := txs (sgs cs)) (fun i σ H3 => (∃ v, σ = v :: rest) ∧ Same H H3 ∧ H3 D = some (.dK (dct (cs.take i) val))) ⟨⟨_, rfl⟩, same_upd hD, upd_same⟩ (fun i σ H3 p => SqL.of (p.2.1 _ _ hl)) ?_ ?_
  · rintro i x σ H3 C hx ⟨⟨v, rfl⟩, s3, hD3⟩ hC
    obtain ⟨b, hb, rfl⟩ := txs_at hx
    obtain ⟨c, hc, rfl⟩ : ∃ c, cs[i]? = some c ∧ sg1 c = b := by
      have : (sgs cs)[i]? = some b := hb
      unfold sgs at this
      rw [List.getElem?_map] at this
      cases e : cs[i]? with
      | none => rw [e] at this; cases this
      | some c => rw [e] at this; exact ⟨c, rfl, Option.some.inj this⟩
    dsimp only [gName]
    rw [if_pos rfl]
    refine ⟨_, rfl, ?_⟩
    refine hv c H3 _ (List.mem_of_getElem? hc) s3 fun H4 s4 => ?_
    have hD4 := s4 _ _ hD3
    have tk : cs.take (i + 1) = cs.take i ++ [c] := by rw [List.take_add_one, hc]; rfl
    have nc : c ∉ cs.take i := fun z => by
      obtain ⟨j, hj⟩ := List.getElem?_of_mem z
      have hji : j < i := by
        have := (List.getElem?_eq_some_iff.mp hj).1
        rw [List.length_take] at this; omega
      rw [List.getElem?_take_of_lt hji] at hj
      have := nd_at nd hj hc
      omega
    refine ⟨Sum.inr (sg1 c), _, rfl, hD4, ?_, hC _ _ ⟨⟨_, rfl⟩, fun b o e => ?_, ?_⟩⟩
    · rw [dct_len, List.length_take]
      exact Nat.lt_of_le_of_lt (show min i cs.length ≤ 6 by omega) (by decide)
    · rw [upd_ne (fun z => by rw [z, hD] at e; cases e)]
      exact s4 _ _ (s3 _ _ e)
    · rw [upd_same, dct_snoc nc, tk]
  · rintro σ H3 ⟨⟨v, rfl⟩, s3, hD3⟩
    rw [txs_len, sgs_len, List.take_length] at hD3
    exact fin v H3 s3 hD3
def spEnds : Sp := fun vs H Q _ => ∃ (t : Addr) (cs : List Nat) (fs ps : List Str) (lg : Int) (xs : List V), vs = [.ref t] ∧ Tg H t cs fs ps lg ∧ TgX H t xs cs ∧ ∀ R H', Same H H' → DRows H' R cs lg.toNat (fun k c => .bl (endK (cs := cs) (cm := cmT fs ps) (endB H xs cs) k c)) → Q (.ref R) H'
def nmE : List Str := ["tongue", "signs", "comers", "rows", "ends"]
theorem scEn : FnScope nmE ["tongue"] (defScope sEnds) := ⟨rfl, rfl, rfl, by decide +kernel, rfl, by decide +kernel, by decide +kernel⟩
def escEn : Scope := relS (scopeS (inW (stAt sEnds 3) 1)) (defScope sEnds)
theorem nd3 : List.Nodup [("sign" : Str), "price", "last"] := by decide +kernel
theorem ok_ends {f fO fC : Addr} {fd fdO fdC : FuncData} (F : FunG K "ends_behind" "ends_behind" sEnds .none f fd) (B : Bl mg)
    (GO : FnOk P w K mg base (CXE P w) 1 fO fdO ["tongue"] (spSignsOf K)) (mO : mg "signs_of" = some (.ref fO)) (kO : PySem.W.keepIn K (.ref fO) = true) (bO : Binds K fdO ["tongue"] [])
    (GC : FnOk P w K mg base (CXE P w) 2 fC fdC ["tongue"] spComers) (mC : mg "comers_behind" = some (.ref fC)) (kC : PySem.W.keepIn K (.ref fC) = true) (bC : Binds K fdC ["tongue"] []) :
    FnOk P w K mg base (CXE P w) 3 f fd ["tongue"] spEnds := by
  refine F.zokN scEn (fun vs H Q E h => ?_) (fun cdv A outer s H vs Q E hr h => ?_)
  · obtain ⟨t, cs, fs, ps, lg, xs, rfl, _⟩ := h
    rfl
  · obtain ⟨t, cs, fs, ps, lg, xs, rfl, tg, tx, q⟩ := h
    have hr1 : Room 1 _ := hr.mono (by decide)
    have hu := hr.units1
    refine ⟨_, (zpss_cons (zps_set (i := 1) scEn.nd rfl (Or.inl rfl) (zpe_call GO hr1 (by rfl) mO kO bO .nil passE0 (zpac_n (zpv 0) zpa_nil)))
      (zpss_cons (zps_set (i := 2) scEn.nd rfl (Or.inr rfl) (zpe_call GC hr (by rfl) mC kC bC .nil passE0 (zpac_n (zpv 0) zpa_nil)))
      (zpss_cons (zps_set (i := 3) scEn.nd rfl (Or.inl rfl) (zpe_lst (zpac_x (zpe_dictcomp nmE ["sign", "price", "last"] [] (defScope sEnds) rfl rfl rfl ⟨by decide +kernel, by decide +kernel, by decide +kernel, by decide +kernel, by decide +kernel⟩ (zpi_list (zpe_ix ix_tup (zpv 0) zpe_int (fun _ _ => rfl)))
          (fun s H fp => zpg_tupK K 3 rfl rfl (zpgs_cons (zpg_name (i := 0) nd3 rfl (Or.inl rfl)) (zpgs_cons (zpg_name (i := 1) nd3 rfl (Or.inl rfl)) (zpgs_cons (zpg_name (i := 2) nd3 rfl (Or.inl rfl)) zpgs_nil))))
          (fun s H fp => zpts_nil) (fun s H fp => zpv 0) (fun s H fp => zpe_cmpR op_notN (zpv 2) zpe_non (nomark _))) zpa_nil)))
      (zpss_cons (zps_while PassesOwn.never (zpt_cmpR op_lt (zpe_callB call_len_seq (by rfl) B.len PySem.boot_len (zpac_n (zpv 3) zpa_nil)) (zpe_ix ix_tup (zpv 0) zpe_int (fun _ _ => rfl)) (nomark _))
          (zpss_cons (zps_set (i := 4) scEn.nd rfl (Or.inr rfl) (zpe_ix ix_list (zpv 3) (zpe_un un_neg zpe_int) (fun _ _ => rfl)))
      (zpss_one (zps_expr (zpe_bm PySem.F.plainAttrs_list PySem.F.slot_list_append PySem.F.type_list_append mt_append (zpv 3)
              (zpac_x (zpe_dictcomp nmE ["sign"] [2, 4] (defScope sEnds) rfl rfl rfl ⟨by decide +kernel, by decide +kernel, by decide +kernel, by decide +kernel, by decide +kernel⟩ (zpi_list (zpv 1))
                (fun s H fp => zpg_name (i := 0) (show List.Nodup [("sign" : Str), "comers", "ends"] by decide +kernel) rfl (Or.inl rfl)) (fun s H fp => zpts_nil) (fun s H fp => zpv 0)
                (fun s H fp => zpe_callB (call_anyL rfl) (by rfl) B.any boot_any (zpac_x (zpe_compL ["sign", "comers", "ends"] ["comer"] [2] escEn rfl rfl rfl ⟨by decide +kernel, by decide +kernel, by decide +kernel, by decide +kernel, by decide +kernel⟩ (zpi_listK K rfl (zpe_dget hu (zpv 1) (zpv 0) (fun _ _ => rfl)))
                  (fun s H fp => zpg_name (i := 0) (show List.Nodup [("comer" : Str), "ends"] by decide +kernel) rfl (Or.inl rfl)) (fun s H fp => zpts_nil) (fun s H fp => zpe_dget hu (zpv 1) (zpv 0) (fun _ _ => rfl))) zpa_nil))) zpa_nil))))))
      (zpss_one (zps_ret (zpv 3))))))), ?_⟩
    obtain ⟨S, Fr, Pp, xs', h1, h2, rows, h4, h5⟩ := tg.ex
    have c6 := tg.c6
    obtain ⟨S', F', Pp', lg', g1, g2⟩ := tx.ex
    rw [h1] at g1
    cases g1
    rw [h2] at g2
    cases g2
    refine ⟨_, rfl, t, S, _, _, _, xs, cs, rfl, SqT.of h1, h2, rows, c6, fun l H1 hl0 s1 hl1 => ?_⟩
    refine ⟨_, rfl, t, cs, fs, ps, lg, rfl, tg.kp (Kp.same s1), fun C H2 s2 cm2 => ?_⟩
    have S2 := s1.trans s2
    refine ⟨_, rfl, t, _, _, _, rfl, rfl, SqT.of (S2 _ _ h1), rfl, S, rfl, ⟨_, SqL.of (S2 _ _ h2)⟩, fun D hD => ?_⟩
    have hS2 := S2 _ _ h2
    refine lr_list (xs := xs) (fun i σ H3 => (∃ v1 v2 v3, σ = [v1, v2, v3]) ∧ Same H2 H3 ∧ H3 D = some (.dK (dct (cs.take i) fun c => .bl (endB H xs cs c)))) ⟨⟨_, _, _, rfl⟩, same_upd hD, upd_same⟩ (fun i σ H3 p => SqL.of (p.2.1 _ _ hS2)) ?_ ?_
    · rintro i x σ H3 C' hx ⟨⟨v1, v2, v3, rfl⟩, s3, hD3⟩ hC
      obtain ⟨c, hc, row⟩ := rows.at hx
      obtain ⟨a, p, rfl, ha, _⟩ := row.last
      refine ⟨a, _, rfl, SqT.of (s3 _ _ (S2 _ _ ha)), rfl, _, _, rfl, _, _, rfl, _, _, rfl, rfl, ?_⟩
      dsimp only
      rw [if_pos rfl]
      have tk : cs.take (i + 1) = cs.take i ++ [c] := by rw [List.take_add_one, hc]; rfl
      have nc : c ∉ cs.take i := fun z => by
        obtain ⟨j, hj⟩ := List.getElem?_of_mem z
        have hji : j < i := by
          have := (List.getElem?_eq_some_iff.mp hj).1
          rw [List.length_take] at this; omega
        rw [List.getElem?_take_of_lt hji] at hj
        have := nd_at tg.nd hj hc
        omega
      refine ⟨_, rfl, _, rfl, rfl, Sum.inr (sg1 c), _, rfl, hD3, ?_, hC _ _ ⟨⟨_, _, _, rfl⟩, fun b o e => ?_, ?_⟩⟩
      · rw [dct_len, List.length_take]
        exact Nat.lt_of_le_of_lt (show min i cs.length ≤ 6 by omega) (by decide)
      · rw [upd_ne (fun z => by rw [z, hD] at e; cases e)]
        exact s3 _ _ e
      · rw [upd_same, tk, ← dct_snoc nc, endB_at tg.nd hx hc]
    rintro σ H3 ⟨⟨v1, v2, v3, rfl⟩, s3, hD3⟩
    rw [rows.len, List.take_length] at hD3
    refine ⟨by show 1 ≤ sizeLine; decide, fun R hR => ?_⟩
    have s4 := same_upd (o := .lst [.ref D]) hR
    have dr : DRows (upd H3 R (.lst [.ref D])) R cs 1 (fun k c => .bl (endK (cs := cs) (cm := cmT fs ps) (endB H xs cs) k c)) :=
      ⟨[D], rfl, upd_same, fun k a e => by
        cases k with
        | zero => cases e; exact s4 _ _ hD3
        | succ k => cases e⟩
    have l1 := tg.l1
    refine while_by (fun σ H5 => (∃ v4, σ = [some (.ref t), some (.ref l), some (.ref C), some (.ref R), v4]) ∧ Same H3 H5 ∧ ∃ n : Nat, 1 ≤ n ∧ (n : Int) ≤ lg ∧ DRows H5 R cs n (fun k c => .bl (endK (cs := cs) (cm := cmT fs ps) (endB H xs cs) k c)))
      (fun σ H5 => lg.toNat - (match H5 R with | some (.lst ys) => ys.length | _ => 0)) ⟨⟨_, rfl⟩, s4, 1, Nat.le_refl _, by omega, dr⟩ ?_ ?_
    · rintro σ H5 ⟨⟨v4, rfl⟩, s35, n, n1, nl, dr5⟩
      have s5 : Same H H5 := (S2.trans s3).trans s35
      have cm5 : Cmr H5 C cs (cmT fs ps) := (cm2.same s3).same s35
      have hl5 : H5 l = some (.lst (txs (sgs cs))) := s35 _ _ (s3 _ _ (s2 _ _ hl1))
      obtain ⟨as, as1, as2, as3⟩ := dr5.ex
      have al : (as.map V.ref).length = n := by rw [List.length_map, as1]
      refine ⟨_, rfl, R, _, rfl, .inl (SqL.of as2), _, rfl, t, _, _, _, rfl, rfl, SqT.of (s5 _ _ h1), rfl, _, _, rfl, rfl, _, rfl, ?_⟩
      rw [al]
      refine ite2 (fun e => ?_) (fun e => ?_)
      · have lt : (n : Int) < lg := of_decide_eq_true e
        obtain ⟨as', a, rfl⟩ : ∃ as' a, as = as' ++ [a] := by
          have : as ≠ [] := fun z => by rw [z] at as1; simp at as1; omega
          exact ⟨as.dropLast, as.getLast this, (List.dropLast_concat_getLast this).symm⟩
        have e1 : (as' ++ [a]).map V.ref = as'.map V.ref ++ [V.ref a] := by rw [List.map_append]; rfl
        have ka : (as' ++ [a])[as'.length]? = some a := by simp
        have ha := as3 _ _ ka
        have n' : as'.length + 1 = n := by rw [List.length_append] at as1; exact as1
        rw [e1] at as2
        refine ⟨_, rfl, _, rfl, R, _, _, _, rfl, rfl, SqL.of as2, at_neg1, ?_⟩
        refine ⟨_, rfl, .inl ⟨rfl, _, SqL.of as2⟩, _, rfl, l, rfl, ⟨_, SqL.of hl5⟩, fun D2 hD2 => ?_⟩
        refine dc_signs (rest := [some (.ref C), some (.ref a)]) (val := fun c => .bl (endK (cs := cs) (cm := cmT fs ps) (endB H xs cs) n c)) hl5 hD2 tg.nd c6 (fun c H6 C6 hc s6 h6 => ?_) fun v H6 s6 hD6 => ?_
        · obtain ⟨kvs, k1, k2⟩ := (cm5.same s6).ex
          obtain ⟨l', k3, k4⟩ := k2 (sg1 c) (List.mem_cons_of_mem _ (List.mem_map.mpr ⟨c, hc, rfl⟩))
          have dg : DGet H6 C (.str (sg1 c)) (some (.ref l')) := by
            have := DGet.k (k := (Sum.inr (sg1 c) : Key)) k1
            rw [k3] at this
            exact this
          refine ⟨_, rfl, _, rfl, C, _, rfl, dg, l', rfl, ⟨_, SqL.of k4⟩, fun m hm => ?_⟩
          have ha6 := s6 _ _ ha
          refine lr_list (xs := txs (sgs (cs.filter (cmT fs ps (sg1 c))))) (fun i σ H7 => (∃ v, σ = [v, some (.ref a)]) ∧ Same H6 H7 ∧ H7 m = some (.lst (((cs.filter (cmT fs ps (sg1 c))).take i).map fun d => V.bl (endK (cs := cs) (cm := cmT fs ps) (endB H xs cs) as'.length d)))) ⟨⟨_, rfl⟩, same_upd hm, upd_same⟩ (fun i σ H7 p => SqL.of (p.2.1 _ _ k4)) ?_ ?_
          · rintro i x σ H7 C7 hx ⟨⟨v, rfl⟩, s7, hm7⟩ h7
            obtain ⟨b, hb, rfl⟩ := txs_at hx
            obtain ⟨d, hd, rfl⟩ : ∃ d, (cs.filter (cmT fs ps (sg1 c)))[i]? = some d ∧ sg1 d = b := by
              have : (sgs (cs.filter (cmT fs ps (sg1 c))))[i]? = some b := hb
              unfold sgs at this
              rw [List.getElem?_map] at this
              cases e : (cs.filter (cmT fs ps (sg1 c)))[i]? with
              | none => rw [e] at this; cases this
              | some d => rw [e] at this; exact ⟨d, rfl, Option.some.inj this⟩
            have hdc : d ∈ cs := (List.mem_filter.mp (List.mem_of_getElem? hd)).1
            have dg2 : DGet H7 a (.str (sg1 d)) (some (.bl (endK (cs := cs) (cm := cmT fs ps) (endB H xs cs) as'.length d))) := by
              have := DGet.k (k := (Sum.inr (sg1 d) : Key)) (s7 _ _ ha6)
              rw [dct_at hdc] at this
              exact this
            dsimp only [gName]
            rw [if_pos rfl]
            refine ⟨_, rfl, _, rfl, a, _, rfl, dg2, _, hm7, ?_, h7 _ _ ⟨⟨_, rfl⟩, fun b o e => ?_, ?_⟩⟩
            · rw [List.length_map, List.length_take]
              have := List.length_filter_le (cmT fs ps (sg1 c)) cs
              exact Nat.lt_of_le_of_lt (show min i _ ≤ 6 by omega) (by decide)
            · rw [upd_ne (ne_of_none e hm)]; exact s7 _ _ e
            · rw [upd_same, List.take_add_one, hd, List.map_append]; rfl
          · rintro σ H7 ⟨⟨v, rfl⟩, s7, hm7⟩
            rw [txs_len, sgs_len, List.take_length] at hm7
            refine ⟨m, (cs.filter (cmT fs ps (sg1 c))).map (endK (cs := cs) (cm := cmT fs ps) (endB H xs cs) as'.length), rfl, ?_, ?_⟩
            · rw [hm7, List.map_map]; rfl
            · have e2 : ((cs.filter (cmT fs ps (sg1 c))).map (endK (cs := cs) (cm := cmT fs ps) (endB H xs cs) as'.length)).any id = endK (cs := cs) (cm := cmT fs ps) (endB H xs cs) n c := by
                rw [← n', List.any_map]
                show _ = (nextC cs (cmT fs ps) (sg1 c)).any _
                unfold nextC
                rw [lastS_sg]
                rfl
              rw [e2]
              exact h6 H7 s7
        · have hR6 := s6 _ _ as2
          refine ⟨R, _, _, rfl, rfl, hR6, ?_, ?_⟩
          · rw [List.length_append, List.length_map]
            exact Nat.lt_of_le_of_lt (show as'.length + 1 ≤ 8 by have := tg.l8; omega) (by decide)
          have dr7 := DRows.push (a := D2) (val := fun k c => .bl (endK (cs := cs) (cm := cmT fs ps) (endB H xs cs) k c)) as1 (fun k b e => s6 _ _ (as3 k b e)) ⟨_, hR6⟩ hD6
          have e3 : (as'.map V.ref ++ [V.ref a]) ++ [V.ref D2] = ((as' ++ [a]) ++ [D2]).map V.ref := by rw [List.map_append, List.map_append]; rfl
          show (_ ∧ _) ∧ _
          rw [e3]
          refine ⟨⟨⟨_, rfl⟩, fun b o e => by rw [upd_ne (ne_of_none e hR)]; exact s6 _ _ (s35 _ _ e), n + 1, by omega, by omega, dr7⟩, ?_⟩
          rw [upd_same, as2]
          show lg.toNat - (List.map V.ref (as' ++ [a] ++ [D2])).length < lg.toNat - (List.map V.ref as' ++ [V.ref a]).length
          rw [List.length_map, List.length_append, as1, List.length_append, List.length_map]
          show lg.toNat - (n + 1) < lg.toNat - (as'.length + 1)
          omega
      · have : ¬ (n : Int) < lg := fun z => e (decide_eq_true z)
        refine ⟨_, rfl, q R H5 s5 ?_⟩
        have : lg.toNat = n := by omega
        rw [this]; exact dr5
    · rintro σ H' Q1 Q2 h ⟨a1, a2, a3, a4, a5, a6, a7, a8, a9, b1, b2, b3, b4, b5, b6, b7, c1, c2, c3, c4, c5, c6', z⟩
      exact ⟨a1, a2, a3, a4, a5, a6, a7, a8, a9, b1, b2, b3, b4, b5, b6, b7, c1, c2, c3, c4, c5, c6', h _ _ z⟩
end
end G1
namespace G1
open PySem L2 GM
section
variable {P : Program} {w : World} {K : PySem.W.Frag} {mg : Str → Option Value} {base : Heap}
theorem op_in_seqK {X : Cx} (K : PySem.W.Frag) (h : X.K = K) : OpR X (compareOp .In) (rIn K false) := h ▸ op_in_seq
theorem sgs_at {cs : List Nat} {i : Nat} {b : Str} (h : (sgs cs)[i]? = some b) : ∃ c, cs[i]? = some c ∧ b = sg1 c := by
  unfold sgs at h
  rw [List.getElem?_map] at h
  cases e : cs[i]? with
  | none => rw [e] at h; cases h
  | some c => rw [e] at h; exact ⟨c, rfl, (Option.some.inj h).symm⟩
theorem sg_mem {cs : List Nat} {c : Nat} : sg1 c ∈ sgs cs ↔ c ∈ cs := by
  constructor
  · intro h
    obtain ⟨d, hd, e⟩ := List.mem_map.mp h
    rw [← sg1_inj e]; exact hd
  · exact fun h => List.mem_map.mpr ⟨c, h, rfl⟩
theorem same_refl {H : Hp} : Same H H := fun _ _ e => e
theorem Cmr.get {H : Hp} {C : Addr} {cs : List Nat} {cm : Str → Nat → Bool} {a : Str} (h : Cmr H C cs cm) (ha : a ∈ ("" :: sgs cs : List Str)) : ∃ l, DGet H C (.str a) (some (.ref l)) ∧ H l = some (.lst (txs (sgs (cs.filter (cm a))))) := by
  obtain ⟨kvs, k1, k2⟩ := h.ex
  obtain ⟨l, k3, k4⟩ := k2 a ha
  refine ⟨l, ?_, k4⟩
  have := DGet.k (k := (Sum.inr a : Key)) k1
  rw [k3] at this
  exact this
theorem dct_get {H : Hp} {a : Addr} {cs : List Nat} {val : Nat → V} {c : Nat} (h : H a = some (.dK (dct cs val))) (hc : c ∈ cs) : DGet H a (.str (sg1 c)) (some (val c)) := by
  have := DGet.k (k := (Sum.inr (sg1 c) : Key)) h
  rw [dct_at hc] at this
  exact this
theorem in_next {cs : List Nat} {p : Nat → Bool} {c : Nat} (hc : c ∈ cs) : inV (.str (sg1 c)) (txs (sgs (cs.filter p))) = p c := by
  rw [inV_txs]
  by_cases h : p c = true
  · rw [h]
    exact decide_eq_true (sg_mem.mpr (List.mem_filter.mpr ⟨hc, h⟩))
  · have e : p c = false := by simpa using h
    rw [e]
    refine decide_eq_false fun z => ?_
    exact h (List.mem_filter.mp (sg_mem.mp z)).2
def cntV (cs : List Nat) (cm : Str → Nat → Bool) (k c : Nat) : V := .int (cntL cs cm k c : Nat)
def spCounts : Sp := fun vs H Q _ => ∃ (t : Addr) (cs : List Nat) (fs ps : List Str) (lg : Int), vs = [.ref t] ∧ Tg H t cs fs ps lg ∧ ∀ R H', Same H H' → DRows H' R cs lg.toNat (cntV cs (cmT fs ps)) → Q (.ref R) H'
def nmC : List Str := ["tongue", "signs", "comers", "rows", "shorter", "counts", "ahead", "sign"]
theorem scCo2 : FnScope nmC ["tongue"] (defScope sCounts) := ⟨rfl, rfl, rfl, by decide +kernel, rfl, by decide +kernel, by decide +kernel⟩
theorem ok_counts {f fO fC : Addr} {fd fdO fdC : FuncData} (F : FunG K "counts_by_last_sign" "counts_by_last_sign" sCounts .none f fd) (B : Bl mg)
    (GO : FnOk P w K mg base (CXE P w) 1 fO fdO ["tongue"] (spSignsOf K)) (mO : mg "signs_of" = some (.ref fO)) (kO : PySem.W.keepIn K (.ref fO) = true) (bO : Binds K fdO ["tongue"] [])
    (GC : FnOk P w K mg base (CXE P w) 2 fC fdC ["tongue"] spComers) (mC : mg "comers_behind" = some (.ref fC)) (kC : PySem.W.keepIn K (.ref fC) = true) (bC : Binds K fdC ["tongue"] []) :
    FnOk P w K mg base (CXE P w) 3 f fd ["tongue"] spCounts := by
  refine F.zokN scCo2 (fun vs H Q E h => ?_) (fun cdv A outer s H vs Q E hr h => ?_)
  · obtain ⟨t, cs, fs, ps, lg, rfl, _⟩ := h
    rfl
  · obtain ⟨t, cs, fs, ps, lg, rfl, tg, q⟩ := h
    have hr1 : Room 1 _ := hr.mono (by decide)
    have hu := hr.units1
    refine ⟨_, (zpss_cons (zps_set (i := 1) scCo2.nd rfl (Or.inl rfl) (zpe_call GO hr1 (by rfl) mO kO bO .nil passE0 (zpac_n (zpv 0) zpa_nil)))
      (zpss_cons (zps_set (i := 2) scCo2.nd rfl (Or.inr rfl) (zpe_call GC hr (by rfl) mC kC bC .nil passE0 (zpac_n (zpv 0) zpa_nil)))
      (zpss_cons (zps_set (i := 3) scCo2.nd rfl (Or.inl rfl) (zpe_lst (zpac_x (zpe_dictcomp nmC ["sign"] [2] (defScope sCounts) rfl rfl rfl ⟨by decide +kernel, by decide +kernel, by decide +kernel, by decide +kernel, by decide +kernel⟩ (zpi_list (zpv 1))
          (fun s H fp => zpg_name (i := 0) (show List.Nodup [("sign" : Str), "comers"] by decide +kernel) rfl (Or.inl rfl)) (fun s H fp => zpts_nil) (fun s H fp => zpv 0)
          (fun s H fp => zpe_ifExp (zpt_cmpR (op_in_seqK K rfl) (zpv 0) (zpe_dget hu (zpv 1) zpe_str (fun _ _ => rfl)) rfl) zpe_int zpe_int)) zpa_nil)))
      (zpss_cons (zps_while PassesOwn.never (zpt_cmpR op_lt (zpe_callB call_len_seq (by rfl) B.len PySem.boot_len (zpac_n (zpv 3) zpa_nil)) (zpe_ix ix_tup (zpv 0) zpe_int (fun _ _ => rfl)) (nomark _))
          (zpss_cons (zps_set (i := 4) scCo2.nd rfl (Or.inl rfl) (zpe_ix ix_list (zpv 3) (zpe_un un_neg zpe_int) (fun _ _ => rfl)))
      (zpss_cons (zps_dictcomp (i := 5) nmC ["sign"] [] (defScope sCounts) rfl rfl rfl ⟨by decide +kernel, by decide +kernel, by decide +kernel, by decide +kernel, by decide +kernel⟩ scCo2.nd rfl (Or.inl rfl) (zpi_list (zpv 1))
              (fun s H fp => zpg_name (i := 0) (show List.Nodup [("sign" : Str)] by decide +kernel) rfl (Or.inl rfl)) (fun s H fp => zpts_nil) (fun s H fp => zpv 0) (fun s H fp => zpe_int))
      (zpss_cons (zps_for PassesOwn.never rfl (zpi_list (zpv 1)) (zpg_name (i := 6) scCo2.nd rfl (Or.inl rfl))
              (zpss_one (zps_for PassesOwn.never rfl (zpi_list (zpe_dget hu (zpv 2) (zpv 6) (fun _ _ => rfl))) (zpg_name (i := 7) scCo2.nd rfl (Or.inl rfl))
                  (zpss_one (zps_daug hu (zpv 5) (zpv 7) (zpe_dget hu (zpv 4) (zpv 6) (fun _ _ => rfl)) in_add)))))
      (zpss_one (zps_expr (zpe_bm PySem.F.plainAttrs_list PySem.F.slot_list_append PySem.F.type_list_append mt_append (zpv 3) (zpac_n (zpv 5) zpa_nil))))))))
      (zpss_one (zps_ret (zpv 3))))))), ?_⟩
    obtain ⟨S, Fr, Pp, xs, h1, h2, rows, h4, h5⟩ := tg.ex
    have c6 := tg.c6
    have nd := tg.nd
    refine ⟨_, rfl, t, S, _, _, _, xs, cs, rfl, SqT.of h1, h2, rows, c6, fun l H1 hl0 s1 hl1 => ?_⟩
    refine ⟨_, rfl, t, cs, fs, ps, lg, rfl, tg.kp (Kp.same s1), fun C H2 s2 cm2 => ?_⟩
    have S2 := s1.trans s2
    have hl2 := s2 _ _ hl1
    refine ⟨_, rfl, l, rfl, ⟨_, SqL.of hl2⟩, fun D hD => ?_⟩
    refine dc_signs (rest := [some (.ref C)]) (val := cntV cs (cmT fs ps) 0) hl2 hD nd c6 (fun c H6 C6 hc s6 h6 => ?_) fun v H3 s3 hD3 => ?_
    · obtain ⟨l', dg, k4⟩ := (cm2.same s6).get (a := "") List.mem_cons_self
      refine ⟨_, rfl, _, rfl, C, _, rfl, dg, l', _, rfl, .inl (SqL.of k4), rfl, txs_flat _, _, rfl, ?_⟩
      have e1 : inV (.str (sg1 c)) (txs (sgs (cs.filter (cmT fs ps "")))) = cmT fs ps "" c := by
        exact in_next hc
      have e2 : cntV cs (cmT fs ps) 0 c = .int (if cmT fs ps "" c = true then 1 else 0) := by
        unfold cntV
        rw [cntL_zero nd hc]
        split <;> rfl
      have q6 := h6 H6 same_refl
      rw [e2] at q6
      show if inV (.str (sg1 c)) (txs (sgs (cs.filter (cmT fs ps "")))) = true then _ else _
      rw [e1]
      by_cases hcm : cmT fs ps "" c = true
      · rw [if_pos hcm] at q6 ⊢; exact q6
      · rw [if_neg hcm] at q6 ⊢; exact q6
    refine ⟨by show 1 ≤ sizeLine; decide, fun R hR => ?_⟩
    have s4 := same_upd (o := .lst [.ref D]) hR
    have dr : DRows (upd H3 R (.lst [.ref D])) R cs 1 (cntV cs (cmT fs ps)) :=
      ⟨[D], rfl, upd_same, fun k a e => by
        cases k with
        | zero => cases e; exact s4 _ _ hD3
        | succ k => cases e⟩
    have l1 := tg.l1
    refine while_by (fun σ H5 => (∃ v4 v5 v6 v7, σ = [some (.ref t), some (.ref l), some (.ref C), some (.ref R), v4, v5, v6, v7]) ∧ Same H3 H5 ∧ ∃ n : Nat, 1 ≤ n ∧ (n : Int) ≤ lg ∧ DRows H5 R cs n (cntV cs (cmT fs ps)))
      (fun σ H5 => lg.toNat - (match H5 R with | some (.lst ys) => ys.length | _ => 0)) ⟨⟨_, _, _, _, rfl⟩, s4, 1, Nat.le_refl _, by omega, dr⟩ ?_ ?_
    · rintro σ H5 ⟨⟨v4, v5, v6, v7, rfl⟩, s35, n, n1, nl, dr5⟩
      have s5 : Same H H5 := (S2.trans s3).trans s35
      have cm5 : Cmr H5 C cs (cmT fs ps) := (cm2.same s3).same s35
      have hl5 : H5 l = some (.lst (txs (sgs cs))) := s35 _ _ (s3 _ _ hl2)
      obtain ⟨as, as1, as2, as3⟩ := dr5.ex
      have al : (as.map V.ref).length = n := by rw [List.length_map, as1]
      refine ⟨_, rfl, R, _, rfl, .inl (SqL.of as2), _, rfl, t, _, _, _, rfl, rfl, SqT.of (s5 _ _ h1), rfl, _, _, rfl, rfl, _, rfl, ?_⟩
      rw [al]
      refine ite2 (fun e => ?_) (fun e => ?_)
      · have lt : (n : Int) < lg := of_decide_eq_true e
        obtain ⟨as', a, rfl⟩ : ∃ as' a, as = as' ++ [a] := by
          have : as ≠ [] := fun z => by rw [z] at as1; simp at as1; omega
          exact ⟨as.dropLast, as.getLast this, (List.dropLast_concat_getLast this).symm⟩
        have e1 : (as' ++ [a]).map V.ref = as'.map V.ref ++ [V.ref a] := by rw [List.map_append]; rfl
        have ka : (as' ++ [a])[as'.length]? = some a := by simp
        have ha := as3 _ _ ka
        have n' : as'.length + 1 = n := by rw [List.length_append] at as1; exact as1
        rw [e1] at as2
        refine ⟨_, rfl, _, rfl, R, _, _, _, rfl, rfl, SqL.of as2, at_neg1, ?_⟩
        refine ⟨_, rfl, l, rfl, ⟨_, SqL.of hl5⟩, fun D2 hD2 => ?_⟩
        refine dc_signs (rest := []) (val := fun _ => .int 0) hl5 hD2 nd c6 (fun c H6 C6 hc s6 h6 => h6 H6 same_refl) fun v H6 s6 hD6 => ?_
        have hl6 := s6 _ _ hl5
        have ha6 := s6 _ _ ha
        have aD : a ≠ D2 := ne_of_none ha hD2
        have lD : l ≠ D2 := ne_of_none hl5 hD2
        let ps' : Nat → Nat → Nat := fun i c => ((cs.take i).map fun b => if cmT fs ps (sg1 b) c = true then cntL cs (cmT fs ps) as'.length b else 0).sum
        have st0 : H6 = upd H6 D2 (.dK (dct cs fun c => .int (ps' 0 c : Nat))) := by
          rw [upd_self (by rw [hD6]; rfl)]
        refine ⟨_, rfl, l, rfl, ⟨_, SqL.of hl6⟩, for_list (K := K) (a := l) (xs := txs (sgs cs)) (fun i σ H7 => (∃ v6 v7, σ = [some (.ref t), some (.ref l), some (.ref C), some (.ref R), some (.ref a), some (.ref D2), v6, v7]) ∧ H7 = upd H6 D2 (.dK (dct cs fun c => .int (ps' i c : Nat)))) ⟨⟨_, _, rfl⟩, st0⟩ (fun i σ H7 _ p => by rw [p.2]; exact SqL.of (by rw [upd_ne lD]; exact hl6)) ?_ ?_⟩
        · rintro i x σ H7 hx ⟨⟨v6, v7, rfl⟩, rfl⟩
          obtain ⟨b', hb', rfl⟩ := txs_at hx
          obtain ⟨b, hb, rfl⟩ := sgs_at hb'
          have hbc : b ∈ cs := List.mem_of_getElem? hb
          have sU : ∀ o, Same H5 (upd H6 D2 o) := fun o c u e => by rw [upd_ne (ne_of_none e hD2)]; exact s6 _ _ e
          obtain ⟨l', dg, k4⟩ := (cm5.same (sU (.dK (dct cs fun c => .int (ps' i c : Nat))))).get (a := sg1 b) (List.mem_cons_of_mem _ (sg_mem.mpr hbc))
          have l'D : l' ≠ D2 := fun z => by rw [z, upd_same] at k4; cases k4
          rw [upd_ne l'D] at k4
          let fl : List Nat := cs.filter (cmT fs ps (sg1 b))
          have fnd : fl.Nodup := nd.sublist (List.filter_sublist ..)
          let in' : Nat → Nat → Nat := fun k c => ps' i c + (if c ∈ fl.take k then cntL cs (cmT fs ps) as'.length b else 0)
          have st1 : upd H6 D2 (.dK (dct cs fun c => .int (ps' i c : Nat))) = upd H6 D2 (.dK (dct cs fun c => .int (in' 0 c : Nat))) := by
            congr 2
          refine ⟨_, rfl, _, rfl, C, _, rfl, dg, l', rfl, ⟨_, SqL.of (by rw [upd_ne l'D]; exact k4)⟩, ?_⟩
          rw [st1]
          refine for_list (K := K) (a := l') (xs := txs (sgs fl)) (fun k σ H7 => (∃ v7, σ = [some (.ref t), some (.ref l), some (.ref C), some (.ref R), some (.ref a), some (.ref D2), some (.str (sg1 b)), v7]) ∧ H7 = upd H6 D2 (.dK (dct cs fun c => .int (in' k c : Nat)))) ⟨⟨_, rfl⟩, rfl⟩ (fun k σ H7 _ p => by rw [p.2]; exact SqL.of (by rw [upd_ne l'D]; exact k4)) ?_ ?_
          · rintro k y σ H7 hy ⟨⟨v7', rfl⟩, rfl⟩
            obtain ⟨d', hd', rfl⟩ := txs_at hy
            obtain ⟨d, hd, rfl⟩ := sgs_at hd'
            have hdc : d ∈ cs := (List.mem_filter.mp (List.mem_of_getElem? hd)).1
            have tk : fl.take (k + 1) = fl.take k ++ [d] := by rw [List.take_add_one, hd]; rfl
            have ndk : d ∉ fl.take k := fun z => by
              obtain ⟨j, hj⟩ := List.getElem?_of_mem z
              have hjk : j < k := by
                have := (List.getElem?_eq_some_iff.mp hj).1
                rw [List.length_take] at this; omega
              rw [List.getElem?_take_of_lt hjk] at hj
              have := nd_at fnd hj hd
              omega
            have gD := dct_get (H := upd H6 D2 (.dK (dct cs fun c => .int (in' k c : Nat)))) (a := D2) upd_same hdc
            have gA := dct_get (H := upd H6 D2 (.dK (dct cs fun c => .int (in' k c : Nat)))) (a := a) (by rw [upd_ne aD]; exact ha6) hbc
            refine ⟨_, rfl, _, rfl, D2, _, rfl, gD, _, rfl, _, rfl, a, _, rfl, gA, _, _, rfl, rfl, _, DPut.k (k := (Sum.inr (sg1 d) : Key)) upd_same ?_, ⟨_, rfl⟩, ?_⟩
            · rw [dct_len]
              exact Nat.lt_of_le_of_lt c6 (by decide)
            · rw [upd_upd, dct_put hdc]
              congr 2
              apply dct_congr
              intro c hc
              by_cases e : c = d
              · subst e
                rw [if_pos rfl]
                have z1 : in' k c = ps' i c := by
                  show ps' i c + (if c ∈ fl.take k then _ else 0) = _
                  rw [if_neg ndk]; rfl
                have z2 : in' (k + 1) c = ps' i c + cntL cs (cmT fs ps) as'.length b := by
                  show ps' i c + (if c ∈ fl.take (k + 1) then _ else 0) = _
                  rw [if_pos (by rw [tk]; simp)]
                rw [z1, z2, Int.natCast_add]
              · rw [if_neg e]
                have z1 : in' (k + 1) c = in' k c := by
                  show ps' i c + (if c ∈ fl.take (k + 1) then _ else 0) = ps' i c + (if c ∈ fl.take k then _ else 0)
                  have : (c ∈ fl.take (k + 1)) ↔ (c ∈ fl.take k) := by rw [tk]; simp [e]
                  by_cases m : c ∈ fl.take k
                  · rw [if_pos m, if_pos (this.mpr m)]
                  · rw [if_neg m, if_neg (fun z => m (this.mp z))]
                rw [z1]
          · rintro σ H7 ⟨⟨v7', rfl⟩, rfl⟩
            refine ⟨⟨_, _, rfl⟩, ?_⟩
            congr 2
            apply dct_congr
            intro c hc
            have tb : cs.take (i + 1) = cs.take i ++ [b] := by rw [List.take_add_one, hb]; rfl
            have z1 : in' (txs (sgs fl)).length c = ps' (i + 1) c := by
              show ps' i c + (if c ∈ fl.take (txs (sgs fl)).length then _ else 0) = ((cs.take (i + 1)).map fun b => if cmT fs ps (sg1 b) c = true then cntL cs (cmT fs ps) as'.length b else 0).sum
              rw [tb, List.map_append, List.sum_append, txs_len, sgs_len, List.take_length]
              show ps' i c + _ = ps' i c + _
              congr 1
              by_cases m : cmT fs ps (sg1 b) c = true
              · rw [if_pos (List.mem_filter.mpr ⟨hc, m⟩)]
                simp [m]
              · rw [if_neg (fun z => m (List.mem_filter.mp z).2)]
                simp [m]
            rw [z1]
        · rintro σ H7 ⟨⟨v6', v7', rfl⟩, rfl⟩
          have hR6 := s6 _ _ as2
          have RD : R ≠ D2 := ne_of_none as2 hD2
          have hR7 : ∀ o, (upd H6 D2 o) R = some (.lst (as'.map V.ref ++ [V.ref a])) := fun o => by rw [upd_ne RD]; exact hR6
          refine ⟨_, rfl, .inl ⟨rfl, _, SqL.of (hR7 _)⟩, _, rfl, R, _, _, rfl, rfl, hR7 _, ?_, ?_⟩
          · rw [List.length_append, List.length_map]
            exact Nat.lt_of_le_of_lt (show as'.length + 1 ≤ 8 by have := tg.l8; omega) (by decide)
          have fin : dct cs (fun c => .int (ps' (txs (sgs cs)).length c : Nat)) = dct cs (cntV cs (cmT fs ps) n) := by
            apply dct_congr
            intro c hc
            unfold cntV
            rw [← n', cntL_succ nd hc]
            show V.int ((((cs.take (txs (sgs cs)).length).map _).sum : Nat) : Int) = _
            rw [txs_len, sgs_len, List.take_length]
          rw [fin]
          have dr7 := DRows.push (H := upd H6 D2 (.dK (dct cs (cntV cs (cmT fs ps) n)))) (a := D2) (val := cntV cs (cmT fs ps)) as1 (fun k b e => by rw [upd_ne (ne_of_none (as3 k b e) hD2)]; exact s6 _ _ (as3 k b e)) ⟨_, hR7 _⟩ upd_same
          have e3 : (as'.map V.ref ++ [V.ref a]) ++ [V.ref D2] = ((as' ++ [a]) ++ [D2]).map V.ref := by rw [List.map_append, List.map_append]; rfl
          show (_ ∧ _) ∧ _
          rw [e3]
          refine ⟨⟨⟨_, _, _, _, rfl⟩, fun b o e => ?_, n + 1, by omega, by omega, dr7⟩, ?_⟩
          · rw [upd_ne (ne_of_none e hR), upd_ne (ne_of_none (s35 _ _ e) hD2)]
            exact s6 _ _ (s35 _ _ e)
          rw [upd_same, as2]
          show lg.toNat - (List.map V.ref (as' ++ [a] ++ [D2])).length < lg.toNat - (List.map V.ref as' ++ [V.ref a]).length
          rw [List.length_map, List.length_append, as1, List.length_append, List.length_map]
          show lg.toNat - (n + 1) < lg.toNat - (as'.length + 1)
          omega
      · have : ¬ (n : Int) < lg := fun z => e (decide_eq_true z)
        refine ⟨_, rfl, q R H5 s5 ?_⟩
        have : lg.toNat = n := by omega
        rw [this]; exact dr5
    · rintro σ H' Q1 Q2 h ⟨a1, a2, a3, a4, a5, a6, a7, a8, a9, b1, b2, b3, b4, b5, b6, b7, c1, c2, c3, c4, c5, c6', z⟩
      exact ⟨a1, a2, a3, a4, a5, a6, a7, a8, a9, b1, b2, b3, b4, b5, b6, b7, c1, c2, c3, c4, c5, c6', h _ _ z⟩
end
end G1
namespace G1
open PySem L2 GM
abbrev wds (cs : List Nat) (cm : Str → Nat → Bool) (en : Nat → Bool) (k : Nat) : List Str := (lvl cs cm (k + 1)).filter fun t => en (lastC t)
def intsV (n : Nat) (f : Nat → Nat) : List V := (List.range n).map fun k => V.int (f k : Nat)
theorem intsV_len (n : Nat) (f : Nat → Nat) : (intsV n f).length = n := by unfold intsV; rw [List.length_map, List.length_range]
theorem intsV_snoc (n : Nat) (f : Nat → Nat) : intsV (n + 1) f = intsV n f ++ [V.int (f n : Nat)] := by
  unfold intsV
  rw [List.range_succ, List.map_append]; rfl
theorem big8 {cs : List Nat} {cm : Str → Nat → Bool} (h : cs.length ≤ 6) {k : Nat} (hk : k ≤ 8) : (lvl cs cm k).length < sizeLine :=
  Nat.lt_of_le_of_lt (lvl_len h k) (Nat.lt_of_le_of_lt (Nat.pow_le_pow_right (by decide) hk) (by decide))
theorem sum_cast (f : Nat → Nat) : ∀ l : List Nat, (l.map fun c => ((f c : Nat) : Int)).sum = (((l.map f).sum : Nat) : Int)
  | [] => rfl
  | x :: l => by
    rw [List.map_cons, List.map_cons, List.sum_cons, List.sum_cons, sum_cast f l, Int.natCast_add]
theorem sum_filter (p : Nat → Bool) (f : Nat → Nat) : ∀ l : List Nat, ((l.filter p).map f).sum = (l.map fun c => if p c = true then f c else 0).sum
  | [] => rfl
  | x :: l => by
    rw [List.map_cons, List.sum_cons, ← sum_filter p f l]
    by_cases h : p x = true
    · rw [List.filter_cons_of_pos h, if_pos h, List.map_cons, List.sum_cons]
    · rw [List.filter_cons_of_neg h, if_neg h, Nat.zero_add]
section
variable {P : Program} {w : World} {K : PySem.W.Frag} {mg : Str → Option Value} {base : Heap}
theorem zpe_bm0K {X : Cx} {o : PySem.Expr} {to : TE} {name : Str} {apos cpos : Pos} {T id : String} {r : V → List V → Hp → VK → Prop} (K : PySem.W.Frag) (hK : X.K = K) (pa : PlainAttrs T) (slot : Slot T name id) (hty : typeOf (.builtin id) = pure (.type "method_descriptor")) (hm : MtR X id r) (ho : SPE X o to)
    (hbase : attributeBase o name X.env (eval o X.env) = eval o X.env := by rfl) (hline : (apos.endLine == cpos.line) = true := by rfl) : SPE X (.Call (.Attribute o name apos) [] [] cpos) (tBM0 K T r to) := hK ▸ zpe_bm0 pa slot hty hm ho hbase hline
def Fs (H : Hp) (R : Addr) : Prop := ∀ o, H R = some o → ∃ ps, o = .tbl ps
theorem Fs.of {H H' : Hp} {R : Addr} (k : Kp H H') (h : H' R = none) : Fs H R := fun o e => by
  by_cases t : ∃ ps, o = .tbl ps
  · exact t
  · have := k R o e fun ps z => t ⟨ps, z⟩
    rw [h] at this; cases this
def spWCounts (T1 T2 : Addr) (Ts : List Addr) : Sp := fun vs H Q _ => ∃ (t : Addr) (cs : List Nat) (fs ps : List Str) (lg : Int) (xs : List V), vs = [.ref t] ∧ Tg H t cs fs ps lg ∧ TgX H t xs cs ∧ Tab T1 H ∧ TabL T2 Ts H ∧ ∀ R H', Kp H H' → Tab T1 H' → TabL T2 Ts H' → Fs H R → H' R = some (.lst (intsV lg.toNat fun k => (wds cs (cmT fs ps) (endB H xs cs) k).length)) → Q (.ref R) H'
theorem scWc : FnScope ["tongue", "enders"] ["tongue"] (defScope sWCounts) := ⟨rfl, rfl, rfl, by decide +kernel, rfl, by decide +kernel, by decide +kernel⟩
def escWc : Scope := relS (scopeS (stAt sWCounts 2)) (defScope sWCounts)
theorem ok_wcounts {Ts : List Addr} {T1 T2 f fL fC : Addr} {fd fdL fdC : FuncData} (F : FunG K "word_counts" "word_counts" sWCounts .none f fd) (B : Bl mg)
    (GL : FnOk P w K mg base (CXE P w) 7 fL fdL ["thing"] (spLook T1 T2 Ts)) (mL : mg "look_at_tongue" = some (.ref fL)) (kL : PySem.W.keepIn K (.ref fL) = true) (bL : Binds K fdL ["thing"] [])
    (GC : FnOk P w K mg base (CXE P w) 3 fC fdC ["tongue"] spCounts) (mC : mg "counts_by_last_sign" = some (.ref fC)) (kC : PySem.W.keepIn K (.ref fC) = true) (bC : Binds K fdC ["tongue"] []) :
    FnOk P w K mg base (CXE P w) 8 f fd ["tongue"] (spWCounts T1 T2 Ts) := by
  refine F.zokN scWc (fun vs H Q E h => ?_) (fun cdv A outer s H vs Q E hr h => ?_)
  · obtain ⟨t, cs, fs, ps, lg, xs, rfl, _⟩ := h
    rfl
  · obtain ⟨t, cs, fs, ps, lg, xs, rfl, tg, tx, t1, t2, q⟩ := h
    have hr3 : Room 3 _ := hr.mono (by decide)
    have hu := hr.units1
    refine ⟨_, (zpss_cons (zps_expr (zpe_call GL hr (by rfl) mL kL bL .nil passE0 (zpac_n (zpv 0) zpa_nil)))
      (zpss_cons (zps_set (i := 1) scWc.nd rfl (Or.inr rfl) (zpe_compL ["tongue", "enders"] ["sign", "price", "last"] [] (defScope sWCounts) rfl rfl rfl ⟨by decide +kernel, by decide +kernel, by decide +kernel, by decide +kernel, by decide +kernel⟩ (zpi_list (zpe_ix ix_tup (zpv 0) zpe_int (fun _ _ => rfl)))
          (fun s H fp => zpg_tupK K 3 rfl rfl (zpgs_cons (zpg_name (i := 0) nd3 rfl (Or.inl rfl)) (zpgs_cons (zpg_name (i := 1) nd3 rfl (Or.inl rfl)) (zpgs_cons (zpg_name (i := 2) nd3 rfl (Or.inl rfl)) zpgs_nil))))
          (fun s H fp => zpts_one (zpt_cmpR op_notN (zpv 2) zpe_non (nomark _))) (fun s H fp => zpv 0)))
      (zpss_one (zps_ret (zpe_compC ["tongue", "enders"] ["counts"] [1] (defScope sWCounts) rfl rfl rfl ⟨by decide +kernel, by decide +kernel, by decide +kernel, by decide +kernel, by decide +kernel, by decide +kernel⟩ (zpi_list (zpe_call GC hr3 (by rfl) mC kC bC .nil passE0 (zpac_n (zpv 0) zpa_nil)))
          (fun s H fp => zpg_name (i := 0) (show List.Nodup [("counts" : Str), "enders"] by decide +kernel) rfl (Or.inr rfl)) (fun s H fp => zpts_nil)
          (fun s H fp => zpe_callB (call_sumL rfl) (by rfl) B.sum boot_sum (zpac_x (zpe_compL ["counts", "enders"] ["sign"] [0] escWc rfl rfl rfl ⟨by decide +kernel, by decide +kernel, by decide +kernel, by decide +kernel, by decide +kernel⟩ (zpi_listK K rfl (zpv 1))
            (fun s H fp => zpg_name (i := 0) (show List.Nodup [("sign" : Str), "counts"] by decide +kernel) rfl (Or.inl rfl)) (fun s H fp => zpts_nil) (fun s H fp => zpe_dget hu (zpv 1) (zpv 0) (fun _ _ => rfl))) zpa_nil))))))), ?_⟩
    refine ⟨_, rfl, t, cs, fs, ps, lg, rfl, tg, t1, t2, fun H1 k1 a1 b1 => ?_⟩
    have tg1 := tg.kp k1
    have tx1 := tx.kp k1
    obtain ⟨S, Fr, Pp, xs', h1, h2, rows, h4, h5⟩ := tg1.ex
    have c6 := tg.c6
    have nd := tg.nd
    have l8 := tg.l8
    obtain ⟨S', F', Pp', lg', g1, g2⟩ := tx1.ex
    rw [h1] at g1
    cases g1
    rw [h2] at g2
    cases g2
    refine ⟨_, rfl, t, _, _, _, rfl, rfl, SqT.of h1, rfl, S, rfl, ⟨_, SqL.of h2⟩, fun el hel => ?_⟩
    refine lr_list (xs := xs) (fun i σ H3 => (∃ v1 v2 v3, σ = [v1, v2, v3]) ∧ Same H1 H3 ∧ H3 el = some (.lst (txs (sgs ((cs.take i).filter (endB H xs cs)))))) ⟨⟨_, _, _, rfl⟩, same_upd hel, upd_same⟩ (fun i σ H3 p => SqL.of (p.2.1 _ _ h2)) ?_ ?_
    · rintro i x σ H3 C' hx ⟨⟨v1, v2, v3, rfl⟩, s3, hel3⟩ hC
      obtain ⟨c, hc, row⟩ := rows.at hx
      obtain ⟨a, p, rfl, ha, _⟩ := row.last
      have en : endB H xs cs c = !decide (lastV H1 (.ref a) = .non) := by
        rw [← endB_kp tx.rows k1, endB_at nd hx hc]
      have tk : cs.take (i + 1) = cs.take i ++ [c] := by rw [List.take_add_one, hc]; rfl
      refine ⟨a, _, rfl, SqT.of (s3 _ _ ha), rfl, _, _, rfl, _, _, rfl, _, _, rfl, rfl, ?_⟩
      refine ⟨_, rfl, rfl, _, rfl, ?_⟩
      cases hen : endB H xs cs c with
      | true =>
        rw [← en, hen]
        refine iteT ⟨_, rfl, _, hel3, ?_, hC _ _ ⟨⟨_, _, _, rfl⟩, fun b o e => by rw [upd_ne (ne_of_none e hel)]; exact s3 _ _ e, ?_⟩⟩
        · rw [txs_len, sgs_len]
          refine Nat.lt_of_le_of_lt (List.length_filter_le _ _) ?_
          rw [List.length_take]
          exact Nat.lt_of_le_of_lt (show min i cs.length ≤ 6 by omega) (by decide)
        · rw [upd_same, tk, List.filter_append, List.filter_cons_of_pos hen]
          unfold txs sgs
          rw [List.map_append, List.map_append]; rfl
      | false =>
        rw [← en, hen]
        refine iteF (hC _ _ ⟨⟨_, _, _, rfl⟩, s3, ?_⟩)
        rw [hel3, tk, List.filter_append, List.filter_cons_of_neg (by rw [hen]; decide)]
        simp
    rintro σ H2 ⟨⟨v1, v2, v3, rfl⟩, s2, hel2⟩
    rw [rows.len, List.take_length] at hel2
    refine ⟨_, rfl, t, cs, fs, ps, lg, rfl, tg1.kp (Kp.same s2), fun R0 H3 s3 dr => ?_⟩
    obtain ⟨as, as1, as2, as3⟩ := dr.ex
    refine ⟨R0, rfl, ⟨_, SqL.of as2⟩, fun R hR => ?_⟩
    refine lr_list (xs := as.map V.ref) (fun i σ H4 => (∃ v, σ = [v, some (.ref el)]) ∧ Same H3 H4 ∧ H4 R = some (.lst (intsV i fun k => (wds cs (cmT fs ps) (endB H xs cs) k).length))) ⟨⟨_, rfl⟩, same_upd hR, upd_same⟩ (fun i σ H4 p => SqL.of (p.2.1 _ _ as2)) ?_ ?_
    · rintro i x σ H4 C hx ⟨⟨v, rfl⟩, s4, hR4⟩ hC
      obtain ⟨a, ha, rfl⟩ : ∃ a, as[i]? = some a ∧ V.ref a = x := by
        rw [List.getElem?_map] at hx
        cases e : as[i]? with
        | none => rw [e] at hx; cases hx
        | some a => rw [e] at hx; exact ⟨a, rfl, Option.some.inj hx⟩
      have hd := s4 _ _ (as3 i a ha)
      have hel4 := s4 _ _ (s3 _ _ hel2)
      have il : i < lg.toNat := by rw [← as1]; exact (List.getElem?_eq_some_iff.mp ha).1
      dsimp only [gName]
      rw [if_pos rfl]
      refine ⟨_, rfl, el, rfl, ⟨_, SqL.of hel4⟩, fun m hm => ?_⟩
      refine lr_list (xs := txs (sgs (cs.filter (endB H xs cs)))) (fun k σ H5 => (∃ v, σ = [v, some (.ref a)]) ∧ Same H4 H5 ∧ H5 m = some (.lst ((((cs.filter (endB H xs cs)).take k).map fun c => ((cntL cs (cmT fs ps) i c : Nat) : Int)).map V.int))) ⟨⟨_, rfl⟩, same_upd hm, upd_same⟩ (fun k σ H5 p => SqL.of (p.2.1 _ _ hel4)) ?_ ?_
      · rintro k y σ H5 C5 hy ⟨⟨v, rfl⟩, s5, hm5⟩ h5'
        obtain ⟨b, hb, rfl⟩ := txs_at hy
        obtain ⟨d, hdd, rfl⟩ := sgs_at hb
        have hdc : d ∈ cs := (List.mem_filter.mp (List.mem_of_getElem? hdd)).1
        dsimp only [gName]
        rw [if_pos rfl]
        refine ⟨_, rfl, _, rfl, a, _, rfl, dct_get (s5 _ _ hd) hdc, _, hm5, ?_, h5' _ _ ⟨⟨_, rfl⟩, fun b o e => by rw [upd_ne (ne_of_none e hm)]; exact s5 _ _ e, ?_⟩⟩
        · rw [List.length_map, List.length_map, List.length_take]
          have := List.length_filter_le (endB H xs cs) cs
          exact Nat.lt_of_le_of_lt (show min k _ ≤ 6 by omega) (by decide)
        · rw [upd_same, List.take_add_one, hdd, List.map_append, List.map_append]; rfl
      · rintro σ H5 ⟨⟨v, rfl⟩, s5, hm5⟩
        rw [txs_len, sgs_len, List.take_length] at hm5
        refine ⟨m, _, rfl, hm5, ?_⟩
        have e1 : ((cs.filter (endB H xs cs)).map fun c => ((cntL cs (cmT fs ps) i c : Nat) : Int)).sum = ((wds cs (cmT fs ps) (endB H xs cs) i).length : Nat) := by
          rw [sum_cast, ← cnt_sum nd (endB H xs cs) (lvl cs (cmT fs ps) (i + 1)) fun t ht => (lvl_last ht).1]
          rw [sum_filter]
          rfl
        rw [e1]
        refine ⟨_, s5 _ _ hR4, ?_, hC _ _ ⟨⟨_, rfl⟩, fun b o e => by rw [upd_ne (ne_of_none e hR)]; exact s5 _ _ (s4 _ _ e), ?_⟩⟩
        · rw [intsV_len]
          exact Nat.lt_of_lt_of_le (show i < 8 by omega) (by decide)
        · rw [upd_same, intsV_snoc]
    · rintro σ H4 ⟨⟨v, rfl⟩, s4, hR4⟩
      rw [List.length_map, as1] at hR4
      have S4 := (s2.trans s3).trans s4
      exact q R H4 (k1.trans (Kp.same S4)) (a1.same S4) (b1.same S4) (Fs.of (k1.trans (Kp.same (s2.trans s3))) hR) hR4
def spTCounts (T1 T2 : Addr) (Ts : List Addr) : Sp := fun vs H Q _ => ∃ (t : Addr) (cs : List Nat) (fs ps : List Str) (lg : Int), vs = [.ref t] ∧ Tg H t cs fs ps lg ∧ Tab T1 H ∧ TabL T2 Ts H ∧ ∀ R H', Kp H H' → Tab T1 H' → TabL T2 Ts H' → Fs H R → H' R = some (.lst (intsV lg.toNat fun k => (lvl cs (cmT fs ps) (k + 1)).length)) → Q (.ref R) H'
theorem scTc : FnScope ["tongue"] ["tongue"] (defScope sTCounts) := ⟨rfl, rfl, rfl, by decide +kernel, rfl, by decide +kernel, by decide +kernel⟩
theorem ok_tcounts {Ts : List Addr} {T1 T2 f fL fC : Addr} {fd fdL fdC : FuncData} (F : FunG K "text_counts" "text_counts" sTCounts .none f fd) (B : Bl mg)
    (GL : FnOk P w K mg base (CXE P w) 7 fL fdL ["thing"] (spLook T1 T2 Ts)) (mL : mg "look_at_tongue" = some (.ref fL)) (kL : PySem.W.keepIn K (.ref fL) = true) (bL : Binds K fdL ["thing"] [])
    (GC : FnOk P w K mg base (CXE P w) 3 fC fdC ["tongue"] spCounts) (mC : mg "counts_by_last_sign" = some (.ref fC)) (kC : PySem.W.keepIn K (.ref fC) = true) (bC : Binds K fdC ["tongue"] []) :
    FnOk P w K mg base (CXE P w) 8 f fd ["tongue"] (spTCounts T1 T2 Ts) := by
  refine F.zokN scTc (fun vs H Q E h => ?_) (fun cdv A outer s H vs Q E hr h => ?_)
  · obtain ⟨t, cs, fs, ps, lg, rfl, _⟩ := h
    rfl
  · obtain ⟨t, cs, fs, ps, lg, rfl, tg, t1, t2, q⟩ := h
    have hr3 : Room 3 _ := hr.mono (by decide)
    refine ⟨_, (zpss_cons (zps_expr (zpe_call GL hr (by rfl) mL kL bL .nil passE0 (zpac_n (zpv 0) zpa_nil)))
      (zpss_one (zps_ret (zpe_compL ["tongue"] ["counts"] [] (defScope sTCounts) rfl rfl rfl ⟨by decide +kernel, by decide +kernel, by decide +kernel, by decide +kernel, by decide +kernel⟩ (zpi_list (zpe_call GC hr3 (by rfl) mC kC bC .nil passE0 (zpac_n (zpv 0) zpa_nil)))
          (fun s H fp => zpg_name (i := 0) (show List.Nodup [("counts" : Str)] by decide +kernel) rfl (Or.inl rfl)) (fun s H fp => zpts_nil)
          (fun s H fp => zpe_callB (call_sumV rfl) (by rfl) B.sum boot_sum (zpac_f (zpe_bm0K K rfl PySem.F.plainAttrs_dict PySem.F.slot_dict_values PySem.F.type_dict_values mt_values (zpv 0)) zpa_nil)))))), ?_⟩
    refine ⟨_, rfl, t, cs, fs, ps, lg, rfl, tg, t1, t2, fun H1 k1 a1 b1 => ?_⟩
    refine ⟨_, rfl, t, cs, fs, ps, lg, rfl, tg.kp k1, fun R0 H2 s2 dr => ?_⟩
    obtain ⟨as, as1, as2, as3⟩ := dr.ex
    refine ⟨R0, rfl, ⟨_, SqL.of as2⟩, fun R hR => ?_⟩
    have l8 := tg.l8
    have nd := tg.nd
    refine lr_list (xs := as.map V.ref) (fun i σ H3 => (∃ v, σ = [v]) ∧ Same H2 H3 ∧ H3 R = some (.lst (intsV i fun k => (lvl cs (cmT fs ps) (k + 1)).length))) ⟨⟨_, rfl⟩, same_upd hR, upd_same⟩ (fun i σ H3 p => SqL.of (p.2.1 _ _ as2)) ?_ ?_
    · rintro i x σ H3 C hx ⟨⟨v, rfl⟩, s3, hR3⟩ hC
      obtain ⟨a, ha, rfl⟩ : ∃ a, as[i]? = some a ∧ V.ref a = x := by
        rw [List.getElem?_map] at hx
        cases e : as[i]? with
        | none => rw [e] at hx; cases hx
        | some a => rw [e] at hx; exact ⟨a, rfl, Option.some.inj hx⟩
      have hd := s3 _ _ (as3 i a ha)
      have il : i < lg.toNat := by rw [← as1]; exact (List.getElem?_eq_some_iff.mp ha).1
      dsimp only [gName]
      rw [if_pos rfl]
      refine ⟨_, rfl, .inr (.inr (.inl ⟨rfl, .inl ⟨_, hd⟩⟩)), a, _, rfl, rfl, hd, fun v hv => ?_⟩
      have s4 := same_upd (o := ValsO a v) hv
      refine ⟨v, a, _, cs.map fun c => ((cntL cs (cmT fs ps) i c : Nat) : Int), rfl, upd_same, s4 _ _ hd, ?_, ?_⟩
      · unfold dct
        rw [List.map_map, List.map_map]; rfl
      have e1 : (cs.map fun c => ((cntL cs (cmT fs ps) i c : Nat) : Int)).sum = ((lvl cs (cmT fs ps) (i + 1)).length : Nat) := by
        rw [← cnt_all nd (lvl cs (cmT fs ps) (i + 1)) fun t ht => (lvl_last ht).1]
        exact sum_cast _ _
      rw [e1]
      refine ⟨_, s4 _ _ hR3, ?_, hC _ _ ⟨⟨_, rfl⟩, fun b o e => ?_, ?_⟩⟩
      · rw [intsV_len]
        exact Nat.lt_of_lt_of_le (show i < 8 by omega) (by decide)
      · rw [upd_ne (ne_of_none e hR)]; exact s4 _ _ (s3 _ _ e)
      · rw [upd_same, intsV_snoc]
    · rintro σ H3 ⟨⟨v, rfl⟩, s3, hR3⟩
      rw [List.length_map, as1] at hR3
      have s23 := s2.trans s3
      exact q R H3 (k1.trans (Kp.same s23)) (a1.same s23) (b1.same s23) (Fs.of (k1.trans (Kp.same s2)) hR) hR3
end
end G1
namespace G1
open PySem L2 GM
theorem stepP_len {cs : List Nat} {cm : Str → Nat → Bool} {en : Nat → Bool} {n j : Nat} (h : cs.length ≤ 6) (hj : j + 1 ≤ n) (hn : n ≤ 8) : (stepP (cs := cs) (cm := cm) en (n - 1 - j) (prn (cs := cs) (cm := cm) en n j)).length < sizeLine := by
  have : stepP (cs := cs) (cm := cm) en (n - 1 - j) (prn (cs := cs) (cm := cm) en n j) = prn en n (j + 1) := rfl
  rw [this, prn_eq en n (j + 1) hj]
  exact Nat.lt_of_le_of_lt (List.length_filter_le _ _) (big8 h (by omega))
theorem DRows.get {H : Hp} {R : Addr} {cs : List Nat} {n : Nat} {val : Nat → Nat → V} (h : DRows H R cs n val) {k : Nat} (hk : k < n) : ∃ (as : List Addr) (a : Addr), H R = some (.lst (as.map V.ref)) ∧ as[k]? = some a ∧ H a = some (.dK (dct cs (val k))) := by
  obtain ⟨as, h1, h2, h3⟩ := h.ex
  have hk' : k < as.length := by omega
  exact ⟨as, as[k], h2, List.getElem?_eq_getElem hk', h3 k _ (List.getElem?_eq_getElem hk')⟩
theorem prn_size {cs : List Nat} {cm : Str → Nat → Bool} {en : Nat → Bool} {n j : Nat} (hj : j ≤ n) {t : Str} (h : t ∈ prn (cs := cs) (cm := cm) en n j) : t ∈ lvl cs cm j := by
  rw [prn_eq en n j hj] at h
  exact (List.mem_filter.mp h).1
theorem last_in {cs : List Nat} {cm : Str → Nat → Bool} {j : Nat} {t : Str} (h : t ∈ lvl cs cm j) : lastS t ∈ ("" :: sgs cs : List Str) := by
  cases j with
  | zero => rw [List.mem_singleton.mp h, lastS_nil]; exact List.mem_cons_self
  | succ j =>
    obtain ⟨l1, l2, _⟩ := lvl_last h
    rw [l2]
    exact List.mem_cons_of_mem _ (sg_mem.mpr l1)
theorem for_rev {n : Nat} {g : TG} {tb : TS} {D : Ends} {σ : St} {H : Hp} (Pv : Nat → St → Hp → Prop) (h0 : Pv 0 σ H)
    (hs : ∀ i σ H, i < n → Pv i σ H → g (.int ((n : Int) - 1 - i)) σ H fun σ2 H2 => tb { D with nx := Pv (i + 1), ct := Pv (i + 1), bk := D.nx } σ2 H2) (hd : ∀ σ H, Pv n σ H → D.nx σ H) :
    ∃ W : Nat → Nat → St → Hp → Prop, (∃ m, W 0 m σ H) ∧ ∀ i m σ H, W i m σ H →
      ((Itd n).stop i H ∧ D.nx σ H) ∨ ((Itd n).go i H ∧ ∃ N : St → Hp → Prop, (∀ σ' H', N σ' H' → ∃ m', m' < m ∧ W (i + 1) m' σ' H') ∧ ∀ x H', (Itd n).yld i H x H' → g x σ H' fun σ2 H2 => tb { D with nx := N, ct := N, bk := D.nx } σ2 H2) := by
  refine ⟨fun i m σ H => m = n - i ∧ i ≤ n ∧ Pv i σ H, ⟨n, by simp, Nat.zero_le _, h0⟩, ?_⟩
  rintro i m σ H ⟨rfl, hi, p⟩
  by_cases hlt : i < n
  · refine .inr ⟨hlt, Pv (i + 1), fun σ' H' p' => ⟨n - (i + 1), by omega, rfl, hlt, p'⟩, fun x H' y => ?_⟩
    obtain ⟨e, y⟩ := y
    subst e y
    exact hs i σ _ hlt p
  · have e : i = n := by omega
    subst e
    exact .inl ⟨Nat.le_refl _, hd σ H p⟩
theorem flat_take_le {α β : Type} (F : α → List β) (P : List α) (i : Nat) : ((P.take i).flatMap F).length ≤ (P.flatMap F).length := by
  have : P.flatMap F = (P.take i).flatMap F ++ (P.drop i).flatMap F := by rw [← List.flatMap_append, List.take_append_drop]
  rw [this, List.length_append]
  omega
section
variable {P : Program} {w : World} {K : PySem.W.Frag} {mg : Str → Option Value} {base : Heap}
def spOfLen : Sp := fun vs H Q _ => ∃ (C R : Addr) (cs : List Nat) (cm : Str → Nat → Bool) (en : Nat → Bool) (n m : Nat), vs = [.int n, .ref C, .ref R] ∧ Cmr H C cs cm ∧ DRows H R cs m (fun k c => .bl (endK (cs := cs) (cm := cm) en k c)) ∧ cs.length ≤ 6 ∧ n ≤ m ∧ n ≤ 8 ∧
  ∀ L H', Same H H' → H L = none → H' L = some (.lst (txs (prn (cs := cs) (cm := cm) en n n))) → Q (.ref L) H'
def nmO : List Str := ["length", "comers", "ends", "texts", "left"]
theorem scOl : FnScope nmO ["length", "comers", "ends"] (defScope sOfLen) := ⟨rfl, rfl, rfl, by decide +kernel, rfl, by decide +kernel, by decide +kernel⟩
theorem nd5 : List.Nodup [("text" : Str), "sign", "comers", "ends", "left"] := by decide +kernel
theorem ok_oflen {f : Addr} {fd : FuncData} (F : FunG K "words_of_length" "words_of_length" sOfLen .none f fd) (B : Bl mg) : FnOk P w K mg base (CXE P w) 2 f fd ["length", "comers", "ends"] spOfLen := by
  refine F.zokN scOl (fun vs H Q E h => ?_) (fun cdv A outer s H vs Q E hr h => ?_)
  · obtain ⟨C, R, cs, cm, en, n, m, rfl, _⟩ := h
    rfl
  · obtain ⟨C, R, cs, cm, en, n, m, rfl, hcm, hdr, c6, nm, n8, q⟩ := h
    have hu := hr.units1
    refine ⟨_, (zpss_cons (zps_set (i := 3) scOl.nd rfl (Or.inl rfl) (zpe_lst (zpac_c zpe_str zpa_nil)))
      (zpss_cons (zps_for PassesOwn.never rfl (zpi_rev (by rfl) B.reversed (zpac_f (zpe_range1 (by rfl) B.range (zpac_n (zpv 0) zpa_nil)) zpa_nil)) (zpg_name (i := 4) scOl.nd rfl (Or.inr rfl))
          (zpss_one (zps_cut (zps_comp2 (i := 3) nmO ["text", "sign"] [1, 2, 4] (defScope sOfLen) rfl rfl rfl ⟨by decide +kernel, by decide +kernel, by decide +kernel, by decide +kernel, by decide +kernel⟩ scOl.nd rfl (Or.inl rfl) (zpi_list (zpv 3))
              (fun s H fp => zpg_name (i := 0) nd5 rfl (Or.inl rfl)) (fun s H fp => zpts_nil)
              (fun s H fp => zpi_listK K rfl (zpe_dget hu (zpv 2) (zpe_slice sl_str (zpv 0) (zpo_some (zpe_un un_neg zpe_int)) zpo_none) (fun _ _ => rfl))) (fun s H fp => zpg_name (i := 1) nd5 rfl (Or.inl rfl))
              (fun s H fp => zpts_one (zpt_val (zpe_dget hu (zpe_ix (ix_listK K rfl) (zpv 3) (zpv 4) (fun _ _ => rfl)) (zpv 1) (fun _ _ => rfl)))) (fun s H fp => zpe_op op_add_str (zpv 0) (zpv 1))))))
      (zpss_one (zps_ret (zpv 3))))), ?_⟩
    refine ⟨by show 1 ≤ sizeLine; decide, fun T0 hT0 => ?_⟩
    have s1 := same_upd (o := .lst [V.str ""]) hT0
    have hT1 : (upd H T0 (.lst [V.str ""])) T0 = some (.lst (txs (prn (cs := cs) (cm := cm) en n 0))) := upd_same
    have lT0 : ∃ L, L = T0 := ⟨_, rfl⟩
    generalize upd H T0 (.lst [V.str ""]) = H1 at s1 hT1 ⊢
    refine ⟨_, rfl, n, rfl, fun r hr0 => ?_⟩
    have s2 := same_upd (o := .rng 0 n) hr0
    refine ⟨r, n, rfl, upd_same, by omega, ?_⟩
    have hT2 := s2 _ _ hT1
    have S2 := s1.trans s2
    generalize upd H1 r (.rng 0 n) = H2 at s2 hT2 S2 ⊢
    have n62 : (n : Int) < 2 ^ 62 := by omega
    refine for_rev (n := n) (fun j σ H3 => ∃ T v4, σ = [some (.int n), some (.ref C), some (.ref R), some (.ref T), v4] ∧ Same H H3 ∧ H T = none ∧ H3 T = some (.lst (txs (prn (cs := cs) (cm := cm) en n j)))) ⟨T0, _, rfl, S2, hT0, hT2⟩ ?_ ?_
    · rintro j σ H3 hj ⟨T, v4, rfl, s3, fT, hT3⟩
      obtain ⟨k, hk⟩ : ∃ k : Nat, k = n - 1 - j := ⟨_, rfl⟩
      have ek : (n : Int) - 1 - j = (k : Int) := by omega
      rw [ek]
      refine ⟨_, ?_, fun _ _ z => z⟩
      refine ⟨_, rfl, T, rfl, ⟨_, SqL.of hT3⟩, fun mm hmm => ?_⟩
      have hcm3 := hcm.same s3
      have hdr3 := hdr.same s3
      obtain ⟨as, a, r1, r2, r3⟩ := hdr3.get (k := k) (by omega)
      let F : Str → List Str := fun t => ((nextC cs cm t).filter (endK (cs := cs) (cm := cm) en k)).map fun c => t ++ sg1 c
      let Pj : List Str := prn (cs := cs) (cm := cm) en n j
      have tot : (Pj.flatMap F).length < sizeLine := by
        have := stepP_len (cm := cm) (en := en) c6 (show j + 1 ≤ n from hj) n8
        rw [← hk] at this
        exact this
      refine lr_list (xs := txs Pj) (fun i σ H4 => (∃ v1 v2, σ = [v1, v2, some (.ref C), some (.ref R), some (.int k)]) ∧ Same H3 H4 ∧ H4 mm = some (.lst (txs ((Pj.take i).flatMap F)))) ⟨⟨_, _, rfl⟩, same_upd hmm, upd_same⟩ (fun i σ H4 p => SqL.of (p.2.1 _ _ hT3)) ?_ ?_
      · rintro i x σ H4 C4 hx ⟨⟨v1, v2, rfl⟩, s4, hm4⟩ h4
        obtain ⟨t, ht, rfl⟩ := txs_at hx
        have htm : t ∈ lvl cs cm j := prn_size (by omega) (List.mem_of_getElem? ht)
        have tsz : t.length ≤ 8 := by
          have : t.length = t.cps.size := rfl
          have := lvl_size htm
          omega
        have tk : Pj.take (i + 1) = Pj.take i ++ [t] := by rw [List.take_add_one, ht]; rfl
        have next : (Pj.take (i + 1)).flatMap F = (Pj.take i).flatMap F ++ F t := by rw [tk, List.flatMap_append]; simp
        obtain ⟨l', dg, k4, l'm⟩ : ∃ l', DGet H4 C (.str (lastS t)) (some (.ref l')) ∧ H4 l' = some (.lst (txs (sgs (nextC cs cm t)))) ∧ l' ≠ mm := by
          obtain ⟨kvs, q1, q2⟩ := hcm3.ex
          obtain ⟨l', q3, q4⟩ := q2 (lastS t) (last_in htm)
          refine ⟨l', ?_, s4 _ _ q4, ne_of_none q4 hmm⟩
          have := DGet.k (k := (Sum.inr (lastS t) : Key)) (s4 _ _ q1)
          rw [q3] at this
          exact this
        dsimp only [gName]
        rw [if_pos rfl]
        refine ⟨_, rfl, _, rfl, _, rfl, _, rfl, t, rfl, Nat.le_trans tsz (by decide), C, _, rfl, dg, l', rfl, ⟨_, SqL.of k4⟩, ?_⟩
        refine lr_list (xs := txs (sgs (nextC cs cm t))) (fun q' σ H5 => (∃ v2, σ = [some (.str t), v2, some (.ref C), some (.ref R), some (.int k)]) ∧ Same H3 H5 ∧ H5 l' = some (.lst (txs (sgs (nextC cs cm t)))) ∧ H5 mm = some (.lst (txs ((Pj.take i).flatMap F ++ (((nextC cs cm t).take q').filter (endK (cs := cs) (cm := cm) en k)).map fun c => t ++ sg1 c)))) ⟨⟨_, rfl⟩, s4, k4, by rw [hm4]; simp⟩ (fun q' σ H5 p => SqL.of p.2.2.1) ?_ ?_
        · rintro q' y σ H5 C5 hy ⟨⟨v2', rfl⟩, s5, hl5, hm5⟩ h5
          obtain ⟨b, hb, rfl⟩ := txs_at hy
          obtain ⟨c, hc, rfl⟩ := sgs_at hb
          have hcc : c ∈ cs := (List.mem_filter.mp (List.mem_of_getElem? hc)).1
          have tq : (nextC cs cm t).take (q' + 1) = (nextC cs cm t).take q' ++ [c] := by rw [List.take_add_one, hc]; rfl
          dsimp only [gName]
          refine ⟨_, rfl, _, rfl, R, _, _, _, rfl, rfl, SqL.of (s5 _ _ r1), atI_nat (v := V.ref a) (by rw [List.getElem?_map, r2]; rfl), _, rfl, a, _, rfl, dct_get (s5 _ _ r3) hcc, _, rfl, ?_⟩
          cases hen : endK (cs := cs) (cm := cm) en k c with
          | true =>
            refine iteT ⟨_, rfl, _, rfl, _, _, rfl, rfl, ?_, _, hm5, ?_, h5 _ _ ⟨⟨_, rfl⟩, fun b o e => by rw [upd_ne (ne_of_none e hmm)]; exact s5 _ _ e, by rw [upd_ne l'm]; exact hl5, ?_⟩⟩
            · have : (sg1 c).length = 1 := rfl
              exact Nat.le_trans (show t.length + (sg1 c).length ≤ 9 by omega) (by decide)
            · refine Nat.lt_of_le_of_lt ?_ tot
              refine Nat.le_trans ?_ (flat_take_le F Pj (i + 1))
              rw [next, txs_len, List.length_append, List.length_append]
              have : ((((nextC cs cm t).take q').filter (endK (cs := cs) (cm := cm) en k)).map fun c => t ++ sg1 c).length ≤ (F t).length := by
                show _ ≤ (((nextC cs cm t).filter (endK (cs := cs) (cm := cm) en k)).map fun c => t ++ sg1 c).length
                rw [List.length_map, List.length_map]
                exact ((List.take_sublist _ _).filter _).length_le
              omega
            · rw [upd_same, tq, List.filter_append, List.filter_cons_of_pos hen]
              unfold txs
              simp
          | false =>
            refine iteF (h5 _ _ ⟨⟨_, rfl⟩, s5, hl5, ?_⟩)
            rw [hm5, tq, List.filter_append, List.filter_cons_of_neg (by rw [hen]; decide)]
            simp
        · rintro σ H5 ⟨⟨v2', rfl⟩, s5, hl5, hm5⟩
          refine h4 _ _ ⟨⟨_, _, rfl⟩, s5, ?_⟩
          rw [txs_len, sgs_len, List.take_length] at hm5
          rw [hm5, next]
      · rintro σ H4 ⟨⟨v1, v2, rfl⟩, s4, hm4⟩
        rw [txs_len, List.take_length] at hm4
        refine ⟨mm, _, rfl, s3.trans s4, s3.free hmm, ?_⟩
        have e : Pj.flatMap F = prn (cs := cs) (cm := cm) en n (j + 1) := by
          show Pj.flatMap F = stepP en (n - 1 - j) (prn en n j)
          rw [← hk]
          rfl
        rw [hm4, e]
    · rintro σ H3 ⟨T, v4, rfl, s3, fT, hT3⟩
      exact ⟨_, rfl, q T H3 s3 fT hT3⟩
def allW (cs : List Nat) (cm : Str → Nat → Bool) (en : Nat → Bool) (n : Nat) : List Str := (List.range n).flatMap (wds cs cm en)
theorem allW_snoc (cs : List Nat) (cm : Str → Nat → Bool) (en : Nat → Bool) (n : Nat) : allW cs cm en (n + 1) = allW cs cm en n ++ wds cs cm en n := by
  unfold allW
  rw [List.range_succ, List.flatMap_append]
  simp
theorem allW_sum (cs : List Nat) (cm : Str → Nat → Bool) (en : Nat → Bool) : ∀ n, ((List.range n).map fun k => ((wds cs cm en k).length : Int)).sum = ((allW cs cm en n).length : Nat)
  | 0 => rfl
  | n + 1 => by
    rw [allW_snoc, List.length_append, List.range_succ, List.map_append, List.sum_append, allW_sum cs cm en n]
    simp
theorem allW_mono (cs : List Nat) (cm : Str → Nat → Bool) (en : Nat → Bool) {i n : Nat} (h : i ≤ n) : (allW cs cm en i).length ≤ (allW cs cm en n).length := by
  induction n with
  | zero =>
    have : i = 0 := by omega
    rw [this]; exact Nat.le_refl _
  | succ n ih =>
    rcases Nat.lt_or_ge n i with z | z
    · have : i = n + 1 := by omega
      rw [this]; exact Nat.le_refl _
    · rw [allW_snoc, List.length_append]
      have := ih z
      omega
def spWords (T1 T2 : Addr) (Ts : List Addr) : Sp := fun vs H Q _ => ∃ (t : Addr) (cs : List Nat) (fs ps : List Str) (lg : Int) (xs : List V), vs = [.ref t] ∧ Tg H t cs fs ps lg ∧ TgX H t xs cs ∧ Tab T1 H ∧ TabL T2 Ts H ∧ (allW cs (cmT fs ps) (endB H xs cs) lg.toNat).length ≤ 5000 ∧
  ∀ L H', Kp H H' → Tab T1 H' → TabL T2 Ts H' → Fs H L → H' L = some (.lst (txs (allW cs (cmT fs ps) (endB H xs cs) lg.toNat))) → Q (.ref L) H'
def nmW : List Str := ["tongue", "comers", "ends", "words", "length"]
theorem scWo : FnScope nmW ["tongue"] (defScope sWords) := ⟨rfl, rfl, rfl, by decide +kernel, rfl, by decide +kernel, by decide +kernel⟩
theorem ok_words {Ts : List Addr} {T1 T2 f fL fW fC fE fO : Addr} {fd fdL fdW fdC fdE fdO : FuncData} {tk : Tok} (F : FunG K "words_of" "words_of" sWords .none f fd) (B : Bl mg) (mM : mg "MOST_WORDS_words" = some (.int 5000 tk))
    (GL : FnOk P w K mg base (CXE P w) 7 fL fdL ["thing"] (spLook T1 T2 Ts)) (mL : mg "look_at_tongue" = some (.ref fL)) (kL : PySem.W.keepIn K (.ref fL) = true) (bL : Binds K fdL ["thing"] [])
    (GW : FnOk P w K mg base (CXE P w) 8 fW fdW ["tongue"] (spWCounts T1 T2 Ts)) (mW : mg "word_counts" = some (.ref fW)) (kW : PySem.W.keepIn K (.ref fW) = true) (bW : Binds K fdW ["tongue"] [])
    (GC : FnOk P w K mg base (CXE P w) 2 fC fdC ["tongue"] spComers) (mC : mg "comers_behind" = some (.ref fC)) (kC : PySem.W.keepIn K (.ref fC) = true) (bC : Binds K fdC ["tongue"] [])
    (GE : FnOk P w K mg base (CXE P w) 3 fE fdE ["tongue"] spEnds) (mE : mg "ends_behind" = some (.ref fE)) (kE : PySem.W.keepIn K (.ref fE) = true) (bE : Binds K fdE ["tongue"] [])
    (GO : FnOk P w K mg base (CXE P w) 2 fO fdO ["length", "comers", "ends"] spOfLen) (mO : mg "words_of_length" = some (.ref fO)) (kO : PySem.W.keepIn K (.ref fO) = true) (bO : Binds K fdO ["length", "comers", "ends"] []) :
    FnOk P w K mg base (CXE P w) 9 f fd ["tongue"] (spWords T1 T2 Ts) := by
  refine F.zokN scWo (fun vs H Q E h => ?_) (fun cdv A outer s H vs Q E hr h => ?_)
  · obtain ⟨t, cs, fs, ps, lg, xs, rfl, _⟩ := h
    rfl
  · obtain ⟨t, cs, fs, ps, lg, xs, rfl, tg, tx, t1, t2, few, q⟩ := h
    have hr7 : Room 7 _ := hr.mono (by decide)
    have hr3 : Room 3 _ := hr.mono (by decide)
    have hr2 : Room 2 _ := hr.mono (by decide)
    refine ⟨_, (zpss_cons (zps_expr (zpe_call GL hr7 (by rfl) mL kL bL .nil passE0 (zpac_n (zpv 0) zpa_nil)))
      (zpss_cons (zps_if (zpt_cmpR op_gt (zpe_callB (call_sumL rfl) (by rfl) B.sum boot_sum (zpac_f (zpe_call GW hr (by rfl) mW kW bW .nil passE0 (zpac_n (zpv 0) zpa_nil)) zpa_nil)) (zpe_glob (by rfl) mM (v := .int 5000) ⟨_, rfl⟩) (nomark _)) zpss_never zpss_nil)
      (zpss_cons (zps_set (i := 1) scWo.nd rfl (Or.inl rfl) (zpe_call GC hr2 (by rfl) mC kC bC .nil passE0 (zpac_n (zpv 0) zpa_nil)))
      (zpss_cons (zps_set (i := 2) scWo.nd rfl (Or.inl rfl) (zpe_call GE hr3 (by rfl) mE kE bE .nil passE0 (zpac_n (zpv 0) zpa_nil)))
      (zpss_cons (zps_set (i := 3) scWo.nd rfl (Or.inl rfl) (zpe_lst zpa_nil))
      (zpss_cons (zps_for PassesOwn.never rfl (zpi_range2 (by rfl) B.range (zpac_c zpe_int (zpac_b (zpe_op op_add (zpe_ix ix_tup (zpv 0) zpe_int (fun _ _ => rfl)) zpe_int) zpa_nil))) (zpg_name (i := 4) scWo.nd rfl (Or.inl rfl))
          (zpss_one (zps_expr (zpe_bm PySem.F.plainAttrs_list PySem.F.slot_list_extend PySem.F.type_list_extend mt_extend (zpv 3) (zpac_f (zpe_call GO hr2 (by rfl) mO kO bO .nil passE0 (zpac_n (zpv 4) (zpac_n (zpv 1) (zpac_n (zpv 2) zpa_nil)))) zpa_nil)))))
      (zpss_one (zps_ret (zpv 3))))))))), ?_⟩
    have c6 := tg.c6
    have l1 := tg.l1
    have l8 := tg.l8
    refine ⟨_, rfl, t, cs, fs, ps, lg, rfl, tg, t1, t2, fun H1 k1 a1 b1 => ?_⟩
    refine ⟨_, rfl, t, cs, fs, ps, lg, xs, rfl, tg.kp k1, tx.kp k1, a1, b1, fun R H2 k2 a2 b2 _ hR2 => ?_⟩
    have en1 : endB H1 xs cs = endB H xs cs := funext fun c => endB_kp tx.rows k1
    rw [en1] at hR2
    refine ⟨R, (List.range lg.toNat).map fun k => ((wds cs (cmT fs ps) (endB H xs cs) k).length : Int), rfl, ?_, ?_⟩
    · rw [hR2]
      unfold intsV
      rw [List.map_map]; rfl
    rw [allW_sum]
    refine ⟨_, _, rfl, rfl, _, rfl, ite2 (fun e => ?_) (fun _ => ?_)⟩
    · have : (5000 : Int) < ((allW cs (cmT fs ps) (endB H xs cs) lg.toNat).length : Nat) := of_decide_eq_true e
      omega
    have k12 := k1.trans k2
    have tg2 := tg.kp k12
    refine ⟨_, rfl, t, cs, fs, ps, lg, rfl, tg2, fun C H3 s3 cm3 => ?_⟩
    refine ⟨_, rfl, t, cs, fs, ps, lg, xs, rfl, tg2.kp (Kp.same s3), (tx.kp k12).kp (Kp.same s3), fun R3 H4 s4 dr4 => ?_⟩
    have k13 := k12.trans (Kp.same s3)
    have en3 : endB H3 xs cs = endB H xs cs := funext fun c => endB_kp tx.rows k13
    rw [en3] at dr4
    refine ⟨by show 0 ≤ sizeLine; decide, fun L hL => ?_⟩
    have k14 := k13.trans (Kp.same s4)
    have s5 := same_upd (o := .lst []) hL
    obtain ⟨S, Fr, Pp, xs', h1, _⟩ := tg.ex
    have h1' := k14.tup h1
    have tt1 := h1'
    refine ⟨_, rfl, t, _, _, _, rfl, rfl, SqT.of (s5 _ _ h1'), rfl, _, _, rfl, rfl, 1, lg + 1, rfl, ⟨by omega, by omega, by omega, by omega⟩, ?_⟩
    have cnt : (lg + 1 - 1).toNat = lg.toNat := by omega
    rw [cnt]
    refine for_range (lo := 1) (fun i σ H5 => (∃ v4, σ = [some (.ref t), some (.ref C), some (.ref R3), some (.ref L), v4]) ∧ Same H4 H5 ∧ H5 L = some (.lst (txs (allW cs (cmT fs ps) (endB H xs cs) i)))) ⟨⟨_, rfl⟩, s5, upd_same⟩ ?_ ?_
    · rintro i σ H5 hi ⟨⟨v4, rfl⟩, s45, hL5⟩
      have ei : (1 : Int) + i = ((i + 1 : Nat) : Int) := by omega
      rw [ei]
      refine ⟨_, rfl, .inl ⟨rfl, _, SqL.of hL5⟩, _, rfl, _, rfl, _, rfl, C, R3, cs, cmT fs ps, endB H xs cs, i + 1, lg.toNat, rfl, (cm3.same s4).same s45, dr4.same s45, c6, by omega, by omega, fun W H6 s6 hW0 hW6 => ?_⟩
      rw [prn_words _ (by omega)] at hW6
      have hL6 := s6 _ _ hL5
      refine ⟨L, W, _, _, rfl, rfl, hL6, hW6, ?_, ⟨_, rfl⟩, fun b o e => by rw [upd_ne (ne_of_none e hL)]; exact s6 _ _ (s45 _ _ e), ?_⟩
      · rw [txs_len, txs_len]
        have z := allW_mono cs (cmT fs ps) (endB H xs cs) (show i + 1 ≤ lg.toNat by omega)
        rw [allW_snoc, List.length_append] at z
        exact Nat.le_trans z (Nat.le_trans few (by decide))
      · rw [upd_same, allW_snoc]
        unfold txs
        rw [List.map_append]
    · rintro σ H5 ⟨⟨v4, rfl⟩, s45, hL5⟩
      have S5 := s45
      exact ⟨_, rfl, q L H5 (k14.trans (Kp.same s45)) (((a2.same s3).same s4).same s45) (((b2.same s3).same s4).same s45) (Fs.of k14 hL) hL5⟩
end
end G1
namespace L2
open PySem PySem.Spec PyProof.Rows
theorem gl_list {K : PySem.W.Frag} {S : Addr} {xs : List V} {g : TG} {te : TE} {σ : St} {H : Hp} {Q : VK} (Pv : Nat → St → Hp → Prop) (h0 : Pv 0 σ H) (hS : ∀ i σ H, Pv i σ H → SqL K H S xs)
    (step : ∀ (i : Nat) (x : V) (σ : St) (H : Hp) (C : St → Hp → Prop), xs[i]? = some x → Pv i σ H → (∀ σ' H', Pv (i + 1) σ' H' → C σ' H') → g x σ H fun σ4 H4 => te σ4 H4 fun v H5 => ∃ b, v = .bl b ∧ if b = true then C σ4 H5 else Q (.bl false) H5)
    (fin : ∀ σ H, Pv xs.length σ H → Q (.bl true) H) : GLr (Itl K S) g te σ H Q := by
  refine ⟨fun i m σ H => m = xs.length - i ∧ i ≤ xs.length ∧ Pv i σ H, ⟨_, rfl, Nat.zero_le _, h0⟩, ?_⟩
  rintro i m σ2 H2 ⟨rfl, hi, p⟩
  have sq := hS i σ2 H2 p
  by_cases hlt : i < xs.length
  · refine .inr ⟨⟨xs, _, sq, List.getElem?_eq_getElem hlt⟩, ?_⟩
    rintro x H3 ⟨rfl, hx⟩
    exact step i x σ2 H3 _ (hx _ sq) p fun σ' H' p' => ⟨xs.length - (i + 1), by omega, rfl, hlt, p'⟩
  · have e : i = xs.length := by omega
    subst e
    exact .inl ⟨⟨_, sq, Nat.le_refl _⟩, fin _ _ p⟩
end L2
namespace G1
open PySem L2 GM
theorem eqVs_txs : ∀ (ts : List Str), eqVs (txs ts) (txs ts) = true
  | [] => rfl
  | t :: ts => by
    show (eqV (.str t) (.str t) && eqVs (txs ts) (txs ts)) = true
    rw [eqVs_txs ts]
    simp [eqV]
theorem Kp.updF {H H' : Hp} {R : Addr} {o : HO} (k : Kp H H') (f : Fs H R) : Kp H (upd H' R o) := fun b u e n => by
  rw [upd_ne (fun z => by rw [z] at e; obtain ⟨ps, rfl⟩ := f u e; exact n ps rfl)]
  exact k b u e n
theorem Fs.back {H H' : Hp} {R : Addr} (k : Kp H H') (f : Fs H' R) : Fs H R := fun o e => by
  by_cases t : ∃ ps, o = .tbl ps
  · exact t
  · exact f o (k R o e fun ps z => t ⟨ps, z⟩)
def dS (sd : List (Str × Str)) : List (Key × V) := sd.map fun p => ((Sum.inr p.1 : Key), V.str p.2)
def sayS : List (Str × Str) → Str → Option Str
  | [], _ => none
  | p :: sd, t => if p.1 = t then some p.2 else sayS sd t
theorem dS_get (t : Str) : ∀ sd : List (Str × Str), valV (dS sd) (Sum.inr t : Key) = (sayS sd t).map V.str
  | [] => rfl
  | p :: sd => by
    unfold sayS
    by_cases e : p.1 = t
    · subst e
      rw [if_pos rfl]
      exact valV_pos rfl
    · rw [if_neg e, ← dS_get t sd]
      exact valV_neg (fun z => e (by injection z))
theorem dS_len (sd : List (Str × Str)) : (dS sd).length = sd.length := List.length_map ..
def onB (sd : List (Str × Str)) (t : Str) : Bool := decide (sayS sd t = some "on")
def ctS (z : Str) (i : Nat) : Str := cutS z none (some ((1 : Int) + (i : Int)))
def cuts (z : Str) : List Str := (List.range (z.length - 1)).map (ctS z)
def goB (sd : List (Str × Str)) (z : Str) : Bool := decide ((sayS sd z).getD "ends" = "ends") && (((cuts z).filter fun t => (sayS sd t).isSome).all (onB sd))
def loB (sd : List (Str × Str)) (z : Str) : Bool := decide ((sayS sd z).getD "ends" = "ends") && (((List.range (z.length - 1)).filter fun i => decide ¬ ((sayS sd (ctS z i)).getD "on" = "on")).isEmpty)
theorem go_lo (sd : List (Str × Str)) (z : Str) : goB sd z = loB sd z := by
  unfold goB loB cuts
  congr 1
  rw [Bool.eq_iff_iff, List.all_eq_true, List.isEmpty_iff, List.filter_eq_nil_iff]
  constructor
  · intro h i hi e
    have e := of_decide_eq_true e
    cases c : sayS sd (ctS z i) with
    | none => rw [c] at e; exact e rfl
    | some y =>
      have := h (ctS z i) (List.mem_filter.mpr ⟨List.mem_map.mpr ⟨i, hi, rfl⟩, by rw [c]; rfl⟩)
      have := of_decide_eq_true this
      rw [this] at e
      exact e rfl
  · intro h t ht
    obtain ⟨h1, h2⟩ := List.mem_filter.mp ht
    obtain ⟨i, hi, rfl⟩ := List.mem_map.mp h1
    have := h i hi
    cases c : sayS sd (ctS z i) with
    | none => rw [c] at h2; cases h2
    | some y =>
      rw [c] at this
      unfold onB
      rw [c]
      have e : y = "on" := by
        by_cases e : y = "on"
        · exact e
        · exact absurd (decide_eq_true e) this
      rw [e]
      exact decide_eq_true rfl
structure Tb3 (T1 T2 T3 : Addr) (H : Hp) : Prop where
  a : Tab T1 H
  b : TabL T2 [T3] H
section
variable {T1 T2 T3 : Addr} {H H' : Hp}
theorem Tb3.c (x : Tb3 T1 T2 T3 H) : Tab T3 H := x.b.all _ List.mem_cons_self
theorem Tb3.put {T' : Addr} {ps' : Array Value} (x : Tb3 T1 T2 T3 H) (t : TriplesOk ps'.toList) : Tb3 T1 T2 T3 (upd H T' (.tbl ps')) := ⟨x.a.put t, x.b.put t⟩
theorem Tb3.set {p : Addr} {o o' : HO} (x : Tb3 T1 T2 T3 H) (n : H p = some o') (no : ∀ ps, o' ≠ .tbl ps) : Tb3 T1 T2 T3 (upd H p o) := ⟨x.a.set n no, x.b.set n no⟩
theorem Tb3.same (x : Tb3 T1 T2 T3 H) (s : Same H H') : Tb3 T1 T2 T3 H' := ⟨x.a.same s, x.b.same s⟩
end
section
variable {P : Program} {w : World} {K : PySem.W.Frag} {mg : Str → Option Value} {base : Heap}
def spAllOn (T : Addr) : Sp := fun vs H Q _ => ∃ (d l : Addr) (sd : List (Str × Str)) (ts : List Str), vs = [.ref d, .ref l] ∧ H d = some (.dK (dS sd)) ∧ H l = some (.lst (txs ts)) ∧ Tab T H ∧ ∀ ps', TriplesOk ps'.toList → Q (.bl (ts.all (onB sd))) (upd H T (.tbl ps'))
theorem scAo : FnScope ["said", "texts"] ["said", "texts"] (defScope sAllOn) := ⟨rfl, rfl, rfl, by decide +kernel, rfl, by decide +kernel, by decide +kernel⟩
theorem dS_dg {H : Hp} {d : Addr} {sd : List (Str × Str)} (h : H d = some (.dK (dS sd))) (t : Str) : DGet H d (.str t) ((sayS sd t).map V.str) := by
  have := DGet.k (k := (Sum.inr t : Key)) h
  rw [dS_get] at this
  exact this
theorem ok_allon {T f c : Addr} {kV doc pm ct oc : Value} {an od : Option Addr} {osl : Array (Option Value)}
    (lk : K.lookup f = some ⟨oc, od, .func (PySem.W.fnOf "are_all_on" "are_all_on" (defArgs sAllOn) (defBody sAllOn) (defScope sAllOn) .none kV doc pm an (.ref c) ct), osl⟩) (hcd : PySem.W.codeIn K (.ref c) "are_all_on" = true)
    (B : Bl mg) (CK : CodeK K c T) (hbm : BmOf mg base) :
    FnOk P w K mg base (CXE P w) 2 f (PySem.W.fnOf "are_all_on" "are_all_on" (defArgs sAllOn) (defBody sAllOn) (defScope sAllOn) .none kV doc pm an (.ref c) ct) ["said", "texts"] (spAllOn T) := by
  refine okC lk hcd scAo (fun vs H Q E h => ?_) (fun A outer s H vs Q E hr h => ?_)
  · obtain ⟨d, l, sd, ts, rfl, _⟩ := h
    rfl
  · obtain ⟨d, l, sd, ts, rfl, hd, hl, hT, q⟩ := h
    refine ⟨_, (zpss_one (zps_ret (zpe_all ["said", "texts"] ["text"] [0] (defScope sAllOn) rfl hr (by rfl) B.all rfl CK ⟨hbm⟩ rfl rfl ⟨by decide +kernel, by decide +kernel, by decide +kernel, by decide +kernel, by decide +kernel⟩ (by decide +kernel) (by decide +kernel) (zpi_list (zpv 1)) (fun code s H fp => (zpg_name (i := 0) (show List.Nodup [("text" : Str), "said"] by decide +kernel) rfl (Or.inl rfl))) (fun code s H fp => (zpe_cmpR op_eq (zpe_dget1 hr.gen.units1 (zpv 1) (zpv 0)) zpe_str (nomark _)))))), ?_⟩
    obtain ⟨ps, hT1, tr⟩ := id hT
    refine ⟨_, rfl, l, rfl, ⟨_, SqL.of hl⟩, ps, hT1, tr, fun ps' tr' => ?_⟩
    have hl2 : (upd H T (.tbl ps')) l = some (.lst (txs ts)) := by rw [upd_ne (fun z => by rw [z, hT1] at hl; cases hl)]; exact hl
    have hd2 : (upd H T (.tbl ps')) d = some (.dK (dS sd)) := by rw [upd_ne (fun z => by rw [z, hT1] at hd; cases hd)]; exact hd
    refine gl_list (K := K) (S := l) (xs := txs ts) (fun i σ H2 => (∃ v, σ = [v, some (.ref d)]) ∧ H2 = upd H T (.tbl ps') ∧ ∀ j z, j < i → ts[j]? = some z → onB sd z = true) ⟨⟨_, rfl⟩, rfl, fun j _ hj => absurd hj (Nat.not_lt_zero _)⟩ ?_ ?_ ?_
    · rintro i σ H2 ⟨_, rfl, _⟩
      exact SqL.of hl2
    · rintro i y σ H2 C hi ⟨⟨v, rfl⟩, rfl, ok⟩ nx
      obtain ⟨z, hz, rfl⟩ := txs_at hi
      refine ⟨_, rfl, d, rfl, .inl ⟨_, .inl hd2⟩, _, rfl, _, dS_dg hd2 z, ?_⟩
      cases c : sayS sd z with
      | none =>
        refine ⟨rfl, _, rfl, iteF ?_⟩
        have e : ts.all (onB sd) = false := by
          rw [List.all_eq_false]
          exact ⟨z, List.mem_of_getElem? hz, by unfold onB; rw [c]; decide⟩
        have := e ▸ q ps' tr'
        exact this
      | some x =>
        refine ⟨rfl, _, rfl, ite2 (fun e => ?_) (fun e => ?_)⟩
        · refine nx _ _ ⟨⟨_, rfl⟩, rfl, fun j u hj hu => ?_⟩
          by_cases ej : j = i
          · subst ej
            rw [hz] at hu
            cases hu
            unfold onB
            rw [c]
            have e3 : x = "on" := by
              have : V.str x = V.str "on" := of_decide_eq_true e
              injection this
            exact decide_eq_true (congrArg some e3)
          · exact ok j u (by omega) hu
        · have e2 : ts.all (onB sd) = false := by
            rw [List.all_eq_false]
            refine ⟨z, List.mem_of_getElem? hz, fun y => e ?_⟩
            unfold onB at y
            rw [c] at y
            have e3 : x = "on" := by
              have : some x = some ("on" : Str) := of_decide_eq_true y
              injection this
            exact decide_eq_true (congrArg V.str e3)
          have := e2 ▸ q ps' tr'
          exact this
    · rintro σ H2 ⟨_, rfl, ok⟩
      have e : ts.all (onB sd) = true := by
        rw [List.all_eq_true]
        intro z hz
        obtain ⟨j, hj⟩ := List.getElem?_of_mem hz
        exact ok j z (by rw [txs_len]; exact (List.getElem?_eq_some_iff.mp hj).1) hj
      have := e ▸ q ps' tr'
      exact this
def spGoes (T1 T2 T3 : Addr) : Sp := fun vs H Q _ => ∃ (d : Addr) (sd : List (Str × Str)) (z : Str), vs = [.ref d, .str z] ∧ H d = some (.dK (dS sd)) ∧ z.length ≤ 100 ∧ Tb3 T1 T2 T3 H ∧ ∀ H', Kp H H' → Tb3 T1 T2 T3 H' → Q (.bl (goB sd z)) H'
theorem scGo : FnScope ["said", "word"] ["said", "word"] (defScope sGoes) := ⟨rfl, rfl, rfl, by decide +kernel, rfl, by decide +kernel, by decide +kernel⟩
theorem ok_goes {T1 T2 T3 : Addr} {f fN : Addr} {fd fdN : FuncData} (F : FunG K "goes_with" "goes_with" sGoes .none f fd) (B : Bl mg)
    (GN : FnOk P w K mg base (CXE P w) 2 fN fdN ["said", "texts"] (spAllOn T3)) (mN : mg "are_all_on" = some (.ref fN)) (kN : PySem.W.keepIn K (.ref fN) = true) (bN : Binds K fdN ["said", "texts"] []) : FnOk P w K mg base (CXE P w) 3 f fd ["said", "word"] (spGoes T1 T2 T3) := by
  refine F.zokN scGo (fun vs H Q E h => ?_) (fun cdv A outer s H vs Q E hr h => ?_)
  · obtain ⟨d, sd, z, rfl, _⟩ := h
    rfl
  · obtain ⟨d, sd, z, rfl, hd, lz, tb, q⟩ := h
    refine ⟨_, (zpss_cons (zps_if (zpt_cmpR op_ne (zpe_dget2 hr.units1 (zpv 0) (zpv 1) zpe_str) zpe_str (nomark _)) (zpss_one (zps_ret zpe_bl)) zpss_nil)
      (zpss_one (zps_ret (zpe_call GN hr (by rfl) mN kN bN .nil passE0 (zpac_n (zpv 0) (zpac_x (zpe_compL ["said", "word"] ["deep"] [0, 1] (defScope sGoes) rfl rfl rfl ⟨by decide +kernel, by decide +kernel, by decide +kernel, by decide +kernel, by decide +kernel⟩ (zpi_range2 (by rfl) B.range (zpac_c zpe_int (zpac_f (zpe_callB call_len_str (by rfl) B.len PySem.boot_len (zpac_n (zpv 1) zpa_nil)) zpa_nil))) (fun s H fp => (zpg_name (i := 0) (show List.Nodup [("deep" : Str), "said", "word"] by decide +kernel) rfl (Or.inl rfl))) (fun s H fp => (zpts_one (zpt_cmp (zpc_din hr.units1 (zpe_slice sl_str (zpv 2) zpo_none (zpo_some (zpv 0))) (zpv 1))))) (fun s H fp => (zpe_slice sl_str (zpv 2) zpo_none (zpo_some (zpv 0))))) zpa_nil)))))), ?_⟩
    refine ⟨_, rfl, d, rfl, .inl ⟨_, .inl hd⟩, _, rfl, _, dS_dg hd z, ?_⟩
    have e0 : ((sayS sd z).map V.str).getD (.str "ends") = .str ((sayS sd z).getD "ends") := by cases sayS sd z <;> rfl
    rw [e0]
    refine ⟨rfl, _, rfl, ite2 (fun e => ?_) (fun e => ?_)⟩
    · have e1 : goB sd z = false := by
        unfold goB
        have : ¬ ((sayS sd z).getD "ends" = "ends") := fun y => by
          rw [y] at e
          simp at e
        rw [decide_eq_false this]; rfl
      have := e1 ▸ q H Kp.refl tb
      exact this
    have e1 : (sayS sd z).getD "ends" = "ends" := by
      by_cases y : (sayS sd z).getD "ends" = "ends"
      · exact y
      · exfalso
        apply e
        have : ¬ (V.str ((sayS sd z).getD "ends") = V.str "ends") := fun u => y (by injection u)
        rw [decide_eq_false this]; rfl
    refine ⟨_, rfl, _, rfl, z, rfl, Nat.le_trans lz (by decide), 1, (z.length : Int), rfl, ⟨by omega, by omega, by omega, by omega⟩, fun m hm => ?_⟩
    have cnt : ((z.length : Int) - 1).toNat = z.length - 1 := by omega
    rw [cnt]
    have hdm := same_upd (o := .lst []) hm
    refine lr_range (Pv := fun i σ H2 => (∃ v, σ = [v, some (.ref d), some (.str z)]) ∧ Same H H2 ∧ H2 m = some (.lst (txs (((List.range i).map (ctS z)).filter fun t => (sayS sd t).isSome)))) ⟨⟨_, rfl⟩, hdm, upd_same⟩ ?_ ?_
    · rintro i σ H2 C hi ⟨⟨v, rfl⟩, s2, hm2⟩ nx
      dsimp only [gName]
      have hd2 := s2 _ _ hd
      have nxt : (List.range (i + 1)).map (ctS z) = (List.range i).map (ctS z) ++ [ctS z i] := by rw [List.range_succ, List.map_append]; rfl
      refine ⟨_, rfl, _, rfl, _, rfl, z, rfl, Nat.le_trans lz (by decide), _, rfl, d, _, rfl, dS_dg hd2 (ctS z i), _, rfl, ?_⟩
      have es : ((sayS sd (ctS z i)).map V.str).isSome = (sayS sd (ctS z i)).isSome := by cases sayS sd (ctS z i) <;> rfl
      rw [es]
      refine ite2 (fun e => ?_) (fun e => ?_)
      · refine ⟨_, rfl, _, rfl, _, rfl, z, rfl, Nat.le_trans lz (by decide), _, hm2, ?_, nx _ _ ⟨⟨_, rfl⟩, fun b o h => by rw [upd_ne (ne_of_none h hm)]; exact s2 _ _ h, ?_⟩⟩
        · rw [txs_len]
          refine Nat.lt_of_le_of_lt (List.length_filter_le _ _) ?_
          rw [List.length_map, List.length_range]
          exact Nat.lt_of_lt_of_le (show i < 100 by omega) (by decide)
        · rw [upd_same, nxt, List.filter_append, List.filter_cons_of_pos (p := fun t => (sayS sd t).isSome) (a := ctS z i) e]
          unfold txs
          rw [List.map_append]; rfl
      · refine nx _ _ ⟨⟨_, rfl⟩, s2, ?_⟩
        rw [nxt, List.filter_append, List.filter_cons_of_neg (p := fun t => (sayS sd t).isSome) (a := ctS z i) e, List.filter_nil, List.append_nil]
        exact hm2
    · rintro σ H2 ⟨⟨v, rfl⟩, s2, hm2⟩
      refine ⟨d, m, sd, _, rfl, s2 _ _ hd, hm2, tb.c.same s2, fun ps' tr' => ?_⟩
      have e2 : goB sd z = (((cuts z).filter fun t => (sayS sd t).isSome).all (onB sd)) := by
        unfold goB
        rw [e1, decide_eq_true rfl]; rfl
      have := q (upd H2 T3 (.tbl ps')) ((Kp.same s2).trans (Kp.tab (tb.c.same s2))) ((tb.same s2).put tr')
      rw [e2] at this
      exact this
def spAmong (T1 T2 T3 : Addr) : Sp := fun vs H Q _ => ∃ (l d : Addr) (sd : List (Str × Str)) (ts : List Str), vs = [.ref l, .ref d] ∧ H l = some (.lst (txs ts)) ∧ H d = some (.dK (dS sd)) ∧ (∀ z ∈ ts, z.length ≤ 100) ∧ ts.length ≤ 1000 ∧ Tb3 T1 T2 T3 H ∧ ∀ L H', Kp H H' → Tb3 T1 T2 T3 H' → Fs H L → H' L = some (.lst (txs (ts.filter (goB sd)))) → Q (.ref L) H'
theorem scAm : FnScope ["words", "said"] ["words", "said"] (defScope sAmong) := ⟨rfl, rfl, rfl, by decide +kernel, rfl, by decide +kernel, by decide +kernel⟩
theorem ok_among {T1 T2 T3 : Addr} {f fG : Addr} {fd fdG : FuncData} (F : FunG K "candidates_among" "candidates_among" sAmong .none f fd) (B : Bl mg)
    (GG : FnOk P w K mg base (CXE P w) 3 fG fdG ["said", "word"] (spGoes T1 T2 T3)) (mG : mg "goes_with" = some (.ref fG)) (kG : PySem.W.keepIn K (.ref fG) = true) (bG : Binds K fdG ["said", "word"] []) : FnOk P w K mg base (CXE P w) 4 f fd ["words", "said"] (spAmong T1 T2 T3) := by
  refine F.zokN scAm (fun vs H Q E h => ?_) (fun cdv A outer s H vs Q E hr h => ?_)
  · obtain ⟨l, d, sd, ts, rfl, _⟩ := h
    rfl
  · obtain ⟨l, d, sd, ts, rfl, hl, hd, lz, tl, tb, q⟩ := h
    refine ⟨_, (zpss_one (zps_ret (zpe_compL ["words", "said"] ["word"] [1] (defScope sAmong) rfl rfl rfl ⟨by decide +kernel, by decide +kernel, by decide +kernel, by decide +kernel, by decide +kernel⟩ (zpi_list (zpv 0)) (fun s H fp => (zpg_name (i := 0) (show List.Nodup [("word" : Str), "said"] by decide +kernel) rfl (Or.inl rfl))) (fun s H fp => (zpts_one (zpt_val (zpe_call GG hr (by rfl) mG kG bG .nil passE0 (zpac_n (zpv 1) (zpac_n (zpv 0) zpa_nil)))))) (fun s H fp => (zpv 0))))), ?_⟩
    refine ⟨_, rfl, l, rfl, ⟨_, SqL.of hl⟩, fun m hm => ?_⟩
    have hdm := same_upd (o := .lst []) hm
    have fm : Fs H m := Fs.of Kp.refl hm
    refine lr_list (xs := txs ts) (fun i σ H2 => (∃ v, σ = [v, some (.ref d)]) ∧ Kp H H2 ∧ Tb3 T1 T2 T3 H2 ∧ H2 m = some (.lst (txs ((ts.take i).filter (goB sd))))) ⟨⟨_, rfl⟩, Kp.same hdm, tb.same hdm, upd_same⟩ (fun i σ H2 p => SqL.of (p.2.1.lst hl)) ?_ ?_
    · rintro i x σ H2 C hi ⟨⟨v, rfl⟩, k2, tb2, hm2⟩ nx
      obtain ⟨z, hz, rfl⟩ := txs_at hi
      have il := (List.getElem?_eq_some_iff.mp hz).1
      dsimp only [gName]
      have nxt : ts.take (i + 1) = ts.take i ++ [z] := by rw [List.take_add_one, hz]; rfl
      refine ⟨_, rfl, _, rfl, d, sd, z, rfl, k2 _ _ hd nofun, lz z (List.mem_of_getElem? hz), tb2, fun H3 k3 tb3 => ⟨_, rfl, ?_⟩⟩
      have hm3 := k3.lst hm2
      refine ite2 (fun e => ?_) (fun e => ?_)
      · refine ⟨_, rfl, _, hm3, ?_, nx _ _ ⟨⟨_, rfl⟩, (k2.trans k3).updF fm, tb3.set hm3 nofun, ?_⟩⟩
        · rw [txs_len]
          refine Nat.lt_of_le_of_lt (List.length_filter_le _ _) ?_
          rw [List.length_take]
          exact Nat.lt_of_le_of_lt (show min i ts.length ≤ 1000 by omega) (by decide)
        · rw [upd_same, nxt, List.filter_append, List.filter_cons_of_pos e]
          unfold txs
          rw [List.map_append]; rfl
      · refine nx _ _ ⟨⟨_, rfl⟩, k2.trans k3, tb3, ?_⟩
        rw [nxt, List.filter_append, List.filter_cons_of_neg e, List.filter_nil, List.append_nil]
        exact hm3
    · rintro σ H2 ⟨⟨v, rfl⟩, k2, tb2, hm2⟩
      rw [txs_len, List.take_length] at hm2
      exact q m H2 k2 tb2 fm hm2
def spFew (T1 T2 T3 : Addr) : Sp := fun vs H Q _ => ∃ (t : Addr) (cs : List Nat) (fs ps : List Str) (lg : Int) (xs : List V), vs = [.ref t] ∧ Tg H t cs fs ps lg ∧ TgX H t xs cs ∧ Tb3 T1 T2 T3 H ∧ (allW cs (cmT fs ps) (endB H xs cs) lg.toNat).length ≤ 400 ∧
  (((List.range lg.toNat).map fun k => (lvl cs (cmT fs ps) (k + 1)).length).sum ≤ 1000) ∧ ∀ H', Kp H H' → Tb3 T1 T2 T3 H' → Q .non H'
theorem scFw : FnScope ["tongue"] ["tongue"] (defScope sFew) := ⟨rfl, rfl, rfl, by decide +kernel, rfl, by decide +kernel, by decide +kernel⟩
theorem ok_few {T1 T2 T3 : Addr} {k1 k2 : Tok} {f fC fX : Addr} {fd fdC fdX : FuncData} (F : FunG K "look_at_few_texts" "look_at_few_texts" sFew .none f fd) (B : Bl mg) (mM : mg "MOST_WORDS_parts" = some (.int 400 k1)) (mN : mg "MOST_TEXTS" = some (.int 1000 k2))
    (GC : FnOk P w K mg base (CXE P w) 8 fC fdC ["tongue"] (spWCounts T1 T2 [T3])) (mC : mg "word_counts" = some (.ref fC)) (kC : PySem.W.keepIn K (.ref fC) = true) (bC : Binds K fdC ["tongue"] [])
    (GX : FnOk P w K mg base (CXE P w) 8 fX fdX ["tongue"] (spTCounts T1 T2 [T3])) (mX : mg "text_counts" = some (.ref fX)) (kX : PySem.W.keepIn K (.ref fX) = true) (bX : Binds K fdX ["tongue"] []) : FnOk P w K mg base (CXE P w) 9 f fd ["tongue"] (spFew T1 T2 T3) := by
  refine F.zokN scFw (fun vs H Q E h => ?_) (fun cdv A outer s H vs Q E hr h => ?_)
  · obtain ⟨t, cs, fs, ps, lg, xs, rfl, _⟩ := h
    rfl
  · obtain ⟨t, cs, fs, ps, lg, xs, rfl, tg, tx, tb, few, fewT, q⟩ := h
    refine ⟨_, (zpss_cons (zps_if (zpt_cmpR op_gt (zpe_callB (call_sumL rfl) (by rfl) B.sum boot_sum (zpac_f (zpe_call GC hr (by rfl) mC kC bC .nil passE0 (zpac_n (zpv 0) zpa_nil)) zpa_nil)) (zpe_glob (by rfl) mM (v := .int 400) ⟨_, rfl⟩) (nomark _)) zpss_never zpss_nil)
      (zpss_one (zps_if (zpt_cmpR op_gt (zpe_callB (call_sumL rfl) (by rfl) B.sum boot_sum (zpac_f (zpe_call GX hr (by rfl) mX kX bX .nil passE0 (zpac_n (zpv 0) zpa_nil)) zpa_nil)) (zpe_glob (by rfl) mN (v := .int 1000) ⟨_, rfl⟩) (nomark _)) zpss_never zpss_nil))), ?_⟩
    refine ⟨_, rfl, t, cs, fs, ps, lg, xs, rfl, tg, tx, tb.a, tb.b, fun R H2 k2 a2 b2 _ hR2 => ?_⟩
    refine ⟨R, (List.range lg.toNat).map fun k => ((wds cs (cmT fs ps) (endB H xs cs) k).length : Int), rfl, ?_, ?_⟩
    · rw [hR2]
      unfold intsV
      rw [List.map_map]; rfl
    rw [allW_sum]
    refine ⟨_, _, rfl, rfl, _, rfl, ite2 (fun e => ?_) (fun _ => ?_)⟩
    · have : (400 : Int) < ((allW cs (cmT fs ps) (endB H xs cs) lg.toNat).length : Nat) := of_decide_eq_true e
      omega
    refine ⟨_, rfl, t, cs, fs, ps, lg, rfl, tg.kp k2, a2, b2, fun R3 H3 k3 a3 b3 _ hR3 => ?_⟩
    refine ⟨R3, (List.range lg.toNat).map fun k => ((lvl cs (cmT fs ps) (k + 1)).length : Int), rfl, ?_, ?_⟩
    · rw [hR3]
      unfold intsV
      rw [List.map_map]; rfl
    rw [sum_cast]
    refine ⟨_, _, rfl, rfl, _, rfl, ite2 (fun e => ?_) (fun _ => ?_)⟩
    · have : (1000 : Int) < ((((List.range lg.toNat).map fun k => (lvl cs (cmT fs ps) (k + 1)).length).sum : Nat) : Int) := of_decide_eq_true e
      omega
    exact q H3 (k2.trans k3) ⟨a3, b3⟩
end
end G1
namespace G1
open PySem L2 GM
structure PartL (H : Hp) (p : Addr) (sd : List (Str × Str)) : Prop where
  ex : ∃ ts : List Addr, H p = some (.lst (ts.map V.ref)) ∧ ts.length = sd.length ∧ ∀ (j : Nat) (t : Addr) (a : Str × Str), ts[j]? = some t → sd[j]? = some a → H t = some (.tup [.str a.1, .str a.2])
theorem PartL.kp {H H' : Hp} {p : Addr} {sd : List (Str × Str)} (h : PartL H p sd) (k : Kp H H') : PartL H' p sd := by
  obtain ⟨ts, h1, h2, h3⟩ := h.ex
  exact ⟨ts, k.lst h1, h2, fun j t a e1 e2 => k.tup (h3 j t a e1 e2)⟩
theorem sayS_none {t : Str} : ∀ {sd : List (Str × Str)}, t ∉ sd.map (·.1) → sayS sd t = none
  | [], _ => rfl
  | p :: sd, h => by
    unfold sayS
    rw [if_neg (fun e => h (by rw [← e]; exact List.mem_cons_self)), sayS_none fun z => h (List.mem_cons_of_mem _ z)]
theorem sayS_not {t : Str} : ∀ {sd : List (Str × Str)}, sayS sd t = none → t ∉ sd.map (·.1)
  | [], _ => List.not_mem_nil
  | p :: sd, h => by
    unfold sayS at h
    by_cases e : p.1 = t
    · rw [if_pos e] at h; cases h
    · rw [if_neg e] at h
      intro z
      rcases List.mem_cons.mp z with y | y
      · exact e y.symm
      · exact sayS_not h y
theorem dS_put {sd : List (Str × Str)} {a b : Str} (h : a ∉ sd.map (·.1)) : putK (dS sd) (Sum.inr a : Key) (.str b) = dS (sd ++ [(a, b)]) := by
  rw [putK_new _ (by rw [dS_get, sayS_none h]; rfl)]
  unfold dS
  rw [List.map_append]; rfl
theorem nd_take {sd : List (Str × Str)} (nd : (sd.map (·.1)).Nodup) {i : Nat} {a : Str × Str} (h : sd[i]? = some a) : a.1 ∉ (sd.take i).map (·.1) := by
  intro z
  obtain ⟨q, hq, e⟩ := List.mem_map.mp z
  obtain ⟨j, hj⟩ := List.getElem?_of_mem hq
  have ji : j < i := by
    have := (List.getElem?_eq_some_iff.mp hj).1
    rw [List.length_take] at this; omega
  rw [List.getElem?_take_of_lt ji] at hj
  have h1 : (sd.map (·.1))[i]? = some a.1 := by rw [List.getElem?_map, h]; rfl
  have h2 : (sd.map (·.1))[j]? = some a.1 := by rw [List.getElem?_map, hj, ← e]; rfl
  have := nodup_ix nd h1 h2
  omega
theorem allW_len8 {cs : List Nat} {cm : Str → Nat → Bool} {en : Nat → Bool} {n : Nat} (hn : n ≤ 8) : ∀ z ∈ allW cs cm en n, z.length ≤ 8 := fun z hz => by
  unfold allW at hz
  obtain ⟨k, hk, hz⟩ := List.mem_flatMap.mp hz
  have kl := List.mem_range.mp hk
  unfold wds at hz
  have := lvl_size (List.mem_filter.mp hz).1
  show z.cps.size ≤ 8
  omega
section
variable {P : Program} {w : World} {K : PySem.W.Frag} {mg : Str → Option Value} {base : Heap}
def spCandOf (T1 T2 T3 : Addr) : Sp := fun vs H Q _ => ∃ (t p : Addr) (cs : List Nat) (fs ps : List Str) (lg : Int) (xs : List V) (sd : List (Str × Str)), vs = [.ref t, .ref p] ∧ Tg H t cs fs ps lg ∧ TgX H t xs cs ∧ Tb3 T1 T2 T3 H ∧ (allW cs (cmT fs ps) (endB H xs cs) lg.toNat).length ≤ 400 ∧
  (((List.range lg.toNat).map fun k => (lvl cs (cmT fs ps) (k + 1)).length).sum ≤ 1000) ∧ PartL H p sd ∧ (sd.map (·.1)).Nodup ∧ sd.length ≤ 100 ∧
  ∀ L H', Kp H H' → Tb3 T1 T2 T3 H' → Fs H L → H' L = some (.lst (txs ((allW cs (cmT fs ps) (endB H xs cs) lg.toNat).filter (goB sd)))) → Q (.ref L) H'
theorem scCf : FnScope ["tongue", "part"] ["tongue", "part"] (defScope sCandOf) := ⟨rfl, rfl, rfl, by decide +kernel, rfl, by decide +kernel, by decide +kernel⟩
theorem ok_candof {T1 T2 T3 : Addr} {f fL fW fA fF : Addr} {fd fdL fdW fdA fdF : FuncData} (F : FunG K "candidates_of" "candidates_of" sCandOf .none f fd) (B : Bl mg)
    (GL : FnOk P w K mg base (CXE P w) 7 fL fdL ["thing"] (spLook T1 T2 [T3])) (mL : mg "look_at_tongue" = some (.ref fL)) (kL : PySem.W.keepIn K (.ref fL) = true) (bL : Binds K fdL ["thing"] [])
    (GW : FnOk P w K mg base (CXE P w) 9 fW fdW ["tongue"] (spWords T1 T2 [T3])) (mW : mg "words_of" = some (.ref fW)) (kW : PySem.W.keepIn K (.ref fW) = true) (bW : Binds K fdW ["tongue"] [])
    (GA : FnOk P w K mg base (CXE P w) 4 fA fdA ["words", "said"] (spAmong T1 T2 T3)) (mA : mg "candidates_among" = some (.ref fA)) (kA : PySem.W.keepIn K (.ref fA) = true) (bA : Binds K fdA ["words", "said"] [])
    (GF : FnOk P w K mg base (CXE P w) 9 fF fdF ["tongue"] (spFew T1 T2 T3)) (mF : mg "look_at_few_texts" = some (.ref fF)) (kF : PySem.W.keepIn K (.ref fF) = true) (bF : Binds K fdF ["tongue"] []) : FnOk P w K mg base (CXE P w) 10 f fd ["tongue", "part"] (spCandOf T1 T2 T3) := by
  refine F.zokN scCf (fun vs H Q E h => ?_) (fun cdv A outer s H vs Q E hr h => ?_)
  · obtain ⟨t, p, cs, fs, ps, lg, xs, sd, rfl, _⟩ := h
    rfl
  · obtain ⟨t, p, cs, fs, ps, lg, xs, sd, rfl, tg, tx, tb, few, fewT, pl, nd, sl, q⟩ := h
    refine ⟨_, (zpss_cons (zps_expr (zpe_call GL (hr.mono (by decide)) (by rfl) mL kL bL .nil passE0 (zpac_n (zpv 0) zpa_nil)))
      (zpss_cons (zps_expr (zpe_call GF hr (by rfl) mF kF bF .nil passE0 (zpac_n (zpv 0) zpa_nil)))
      (zpss_one (zps_ret (zpe_call GA (hr.mono (by decide)) (by rfl) mA kA bA .nil passE0 (zpac_f (zpe_call GW hr (by rfl) mW kW bW .nil passE0 (zpac_n (zpv 0) zpa_nil)) (zpac_x (zpe_dictcomp ["tongue", "part"] ["text", "word"] [] (defScope sCandOf) rfl rfl rfl ⟨by decide +kernel, by decide +kernel, by decide +kernel, by decide +kernel, by decide +kernel⟩ (zpi_list (zpv 1)) (fun s H fp => (zpg_tupK K 2 rfl rfl (zpgs_cons (zpg_name (i := 0) (show List.Nodup [("text" : Str), "word"] by decide +kernel) rfl (Or.inl rfl)) (zpgs_cons (zpg_name (i := 1) (show List.Nodup [("text" : Str), "word"] by decide +kernel) rfl (Or.inl rfl)) zpgs_nil)))) (fun s H fp => zpts_nil) (fun s H fp => (zpv 0)) (fun s H fp => (zpv 1))) zpa_nil))))))), ?_⟩
    have l8 := tg.l8
    have en : ∀ {H1 : Hp}, Kp H H1 → endB H1 xs cs = endB H xs cs := fun {H1} k => funext fun c => endB_kp tx.rows k
    refine ⟨_, rfl, t, cs, fs, ps, lg, rfl, tg, tb.a, tb.b, fun H1 k1 a1 b1 => ?_⟩
    have tb1 : Tb3 T1 T2 T3 H1 := ⟨a1, b1⟩
    refine ⟨_, rfl, t, cs, fs, ps, lg, xs, rfl, tg.kp k1, tx.kp k1, tb1, by rw [en k1]; exact few, fewT, fun H2 k2 tb2 => ?_⟩
    have K2 := k1.trans k2
    refine ⟨_, rfl, t, cs, fs, ps, lg, xs, rfl, tg.kp K2, tx.kp K2, tb2.a, tb2.b, by rw [en K2]; exact Nat.le_trans few (by decide), fun L H3 k3 a3 b3 fL hL => ?_⟩
    rw [en K2] at hL
    have K3 := K2.trans k3
    have tb3 : Tb3 T1 T2 T3 H3 := ⟨a3, b3⟩
    obtain ⟨ts, p1, p2, p3⟩ := (pl.kp K3).ex
    refine ⟨_, rfl, p, rfl, ⟨_, SqL.of p1⟩, fun D hD => ?_⟩
    have sD := same_upd (o := .dK []) hD
    refine lr_list (xs := ts.map V.ref) (fun i σ H4 => (∃ v1 v2, σ = [v1, v2]) ∧ Same H3 H4 ∧ H4 D = some (.dK (dS (sd.take i)))) ⟨⟨_, _, rfl⟩, sD, upd_same⟩ (fun i σ H4 p => SqL.of (p.2.1 _ _ p1)) ?_ ?_
    · rintro i x σ H4 C hx ⟨⟨v1, v2, rfl⟩, s4, hD4⟩ nx
      rw [List.getElem?_map] at hx
      obtain ⟨t', ht', rfl⟩ := Option.map_eq_some_iff.mp hx
      have il := (List.getElem?_eq_some_iff.mp ht').1
      obtain ⟨a, ha⟩ : ∃ a, sd[i]? = some a := ⟨_, List.getElem?_eq_getElem (by omega)⟩
      have tup := s4 _ _ (p3 i t' a ht' ha)
      refine ⟨t', _, rfl, SqT.of tup, rfl, _, _, rfl, _, _, rfl, rfl, ?_⟩
      dsimp only
      rw [if_pos rfl]
      have nxt : sd.take (i + 1) = sd.take i ++ [a] := by rw [List.take_add_one, ha]; rfl
      refine ⟨_, rfl, _, rfl, Sum.inr a.1, _, rfl, hD4, ?_, nx _ _ ⟨⟨_, _, rfl⟩, fun b o h => by rw [upd_ne (ne_of_none h hD)]; exact s4 _ _ h, ?_⟩⟩
      · rw [dS_len, List.length_take]
        exact Nat.lt_of_le_of_lt (show min i sd.length ≤ 100 by omega) (by decide)
      · rw [upd_same, nxt, dS_put (nd_take nd ha)]
    · rintro σ H4 ⟨⟨v1, v2, rfl⟩, s4, hD4⟩
      rw [List.length_map, p2, List.take_length] at hD4
      have L4 := s4 _ _ hL
      have K4 := K3.trans (Kp.same s4)
      refine ⟨L, D, sd, _, rfl, L4, hD4, fun z hz => Nat.le_trans (allW_len8 (by omega) z hz) (by decide), Nat.le_trans few (by decide), tb3.same s4, fun L5 H5 k5 tb5 f5 h5 => ?_⟩
      exact q L5 H5 (K4.trans k5) tb5 (Fs.back K4 f5) h5
end
end G1
namespace G1
open PySem L2 GM
theorem sm2001 : ∀ k : Nat, k ≤ 2001 → k < big := fun k hk => Nat.lt_of_le_of_lt hk (by decide +kernel)
section
variable {P : Program} {w : World} {K : PySem.W.Frag} {mg : Str → Option Value} {base : Heap}
def spCell (K : PySem.W.Frag) : Sp := fun vs H Q _ => ∃ (a : Addr) (ns : List Int) (k : Int), vs = [.ref a, .int k] ∧ SqL K H a (ns.map V.int) ∧ 0 ≤ k ∧ ∀ z : Int, Q (.int z) H
theorem scCe : FnScope ["_law_script", "_law_k"] ["_law_script", "_law_k"] (defScope sCell) := ⟨rfl, rfl, rfl, by decide +kernel, rfl, by decide +kernel, by decide +kernel⟩
theorem ok_cell {f : Addr} {fd : FuncData} (F : FunG K "_law_cell_at" "_law_cell_at" sCell .none f fd) (B : Bl mg) : FnOk P w K mg base (CXE P w) 1 f fd ["_law_script", "_law_k"] (spCell K) := by
  refine F.zokN scCe (fun vs H Q E h => ?_) (fun cdv A outer s H vs Q E hr h => ?_)
  · obtain ⟨a, ns, k, rfl, _⟩ := h
    rfl
  · obtain ⟨a, ns, k, rfl, ha, k0, q⟩ := h
    refine ⟨_, zpss_cons (zps_if (zpt_cmpR op_lt (zpv 1) (zpe_callB call_len_seq (by rfl) B.len PySem.boot_len (zpac_n (zpv 0) zpa_nil)) (nomark _)) (zpss_one (zps_ret (zpe_ix ix_list (zpv 0) (zpv 1) (fun _ _ => rfl)))) zpss_nil)
      (zpss_one (zps_ret zpe_int)), ?_⟩
    refine ⟨_, rfl, _, rfl, a, _, rfl, .inl ha, _, _, rfl, rfl, _, rfl, ?_⟩
    refine ite2 (fun e => ?_) (fun _ => q 0)
    have lt := of_decide_eq_true e
    obtain ⟨n, rfl⟩ := Int.eq_ofNat_of_zero_le k0
    rw [List.length_map] at lt
    have hn : n < ns.length := by omega
    refine ⟨_, rfl, _, rfl, a, _, _, _, rfl, rfl, ha, atI_nat (v := .int ns[n]) (by simp [hn]), q _⟩
def spLow : Sp := fun vs H Q _ => ∃ a b : Int, vs = [.int a, .int b] ∧ 0 ≤ a ∧ 0 < b ∧ b.natAbs < big ∧ ∀ p c d, H p = none → FracOf a b c d → 0 ≤ c → Q (.ref p) (upd H p (.tup [.int c, .int d]))
theorem scLo : FnScope ["_law_top", "_law_bottom", "_law_one", "_law_other"] ["_law_top", "_law_bottom"] (defScope sLow) := ⟨rfl, rfl, rfl, by decide +kernel, rfl, by decide +kernel, by decide +kernel⟩
theorem ok_low {f : Addr} {fd : FuncData} (F : FunG K "_law_low" "_law_low" sLow .none f fd) (B : Bl mg) : FnOk P w K mg base (CXE P w) 1 f fd ["_law_top", "_law_bottom"] spLow := by
  refine F.zokN scLo (fun vs H Q E h => ?_) (fun cdv A outer s H vs Q E hr h => ?_)
  · obtain ⟨a, b, rfl, _⟩ := h
    rfl
  · obtain ⟨a, b, rfl, a0, hb, hbb, q⟩ := h
    refine ⟨_, (zpss_cons (zps_set (i := 2) scLo.nd rfl (Or.inl rfl) (zpe_callB call_abs (by rfl) B.abs boot_abs (zpac_n (zpv 0) zpa_nil)))
      (zpss_cons (zps_set (i := 3) scLo.nd rfl (Or.inl rfl) (zpv 1))
      (zpss_cons (zps_while PassesOwn.never (zpt_cmpR op_gt (zpv 3) zpe_int (nomark _)) (zpss_one (zps_par (i := 2) (j := 3) rfl scLo.nd rfl rfl (by decide) rfl rfl (zpac_n (zpv 3) (zpac_b (zpe_op op_mod (zpv 2) (zpv 3)) zpa_nil)) rfl)))
      (zpss_one (zps_ret (zpe_tup (zpac_b (zpe_op op_fdivB (zpv 0) (zpv 2)) (zpac_b (zpe_op op_fdivB (zpv 1) (zpv 2)) zpa_nil)))))))), ?_⟩
    refine ⟨_, rfl, a, rfl, ?_⟩
    rw [abs_nat]
    refine ⟨_, rfl, ?_⟩
    refine while_by (fun σ H' => H' = H ∧ ∃ m n : Nat, σ = [some (.int a), some (.int b), some (.int m), some (.int n)] ∧ Nat.gcd m n = Nat.gcd a.natAbs b.natAbs) (fun σ _ => match σ with | [_, _, _, some (.int n)] => n.toNat | _ => 0)
      ⟨rfl, a.natAbs, b.natAbs, ?_, rfl⟩ ?_ ?_
    · rw [show ((b.natAbs : Nat) : Int) = b by omega]; rfl
    · rintro σ H' ⟨rfl, m, n, rfl, hg⟩
      refine ⟨_, rfl, _, _, rfl, rfl, _, rfl, ?_⟩
      by_cases n0 : n = 0
      · rw [show decide ((n : Int) > 0) = false by rw [n0]; rfl]
        refine iteF ?_
        rw [n0, Nat.gcd_zero_right] at hg
        have mg : (m : Int) = gd a b := by unfold gd; rw [hg]
        have nb : b ≠ 0 := by omega
        have gp := gd_pos (a := a) nb
        have gl := gd_le (a := a) nb
        obtain ⟨c, d, e1, e2, e3, e4, dp, gg, la, lb⟩ := parted (a := a) (b := b) (g := (m : Int)) nb (.inl mg) (by omega)
        have g0 : (m : Int) ≠ 0 := by omega
        have gb : (m : Int).natAbs < big := Nat.lt_of_le_of_lt (by omega) hbb
        refine ⟨_, rfl, _, rfl, _, _, rfl, rfl, ⟨g0, gb⟩, _, rfl, _, rfl, _, _, rfl, rfl, ⟨g0, gb⟩, by show 2 ≤ sizeLine; decide, fun p hp => ?_⟩
        show Q (V.ref p) (upd H' p (HO.tup [V.int (a.fdiv m), V.int (b.fdiv m)]))
        rw [e1, e2]
        refine q p c d hp ⟨⟨m, g0, e3, e4⟩, dp, gg, la, lb⟩ ?_
        have gpos : (0 : Int) < m := by omega
        rcases Int.lt_or_le c 0 with z | z
        · have := Int.mul_neg_of_pos_of_neg gpos z
          omega
        · exact z
      · rw [show decide ((n : Int) > 0) = true from decide_eq_true (by omega)]
        have hn' : (0 : Int) < n := by omega
        refine iteT ⟨_, rfl, _, rfl, _, rfl, _, _, rfl, rfl, hn', _, _, rfl, ⟨rfl, n, m % n, ?_, ?_⟩, ?_⟩
        · show [some (V.int a), some (V.int b), some (V.int n), some (V.int ((m : Int) % n))] = _
          rw [← Int.natCast_emod]
        · rw [gcd_step]; exact hg
        · show ((m : Int) % n).toNat < (n : Int).toNat
          have := Int.emod_lt_of_pos (m : Int) hn'
          have := Int.emod_nonneg (m : Int) (show (n : Int) ≠ 0 by omega)
          omega
    · rintro σ H' Q1 Q2 h ⟨v, e, i, i2, e1, e2, x, e3, z⟩
      exact ⟨v, e, i, i2, e1, e2, x, e3, h _ _ z⟩
def spPrice : Sp := fun vs H Q _ => ∃ p : Addr, vs = [.ref p] ∧ Src H p ∧ ∀ x H', PrA H' x → Src H' p → Ext p H H' → Q x H'
theorem scPr : FnScope ["_law_source_here", "_law_way"] ["_law_source_here"] (defScope sPrice) := ⟨rfl, rfl, rfl, by decide +kernel, rfl, by decide +kernel, by decide +kernel⟩
theorem ok_price {f fD fL : Addr} {fd fdD fdL : FuncData} (F : FunG K "_law_price" "_law_price" sPrice .none f fd)
    (GD : FnOk P w K mg base (CXE P w) 1 fD fdD ["_law_source_here", "_law_many"] spDraw) (mD : mg "_law_draw" = some (.ref fD)) (kD : PySem.W.keepIn K (.ref fD) = true) (bD : Binds K fdD ["_law_source_here", "_law_many"] [])
    (GL : FnOk P w K mg base (CXE P w) 1 fL fdL ["_law_top", "_law_bottom"] spLow) (mL : mg "_law_low" = some (.ref fL)) (kL : PySem.W.keepIn K (.ref fL) = true) (bL : Binds K fdL ["_law_top", "_law_bottom"] []) : FnOk P w K mg base (CXE P w) 2 f fd ["_law_source_here"] spPrice := by
  refine F.zokN scPr (fun vs H Q E h => ?_) (fun cdv A outer s H vs Q E hr h => ?_)
  · obtain ⟨p, rfl, _⟩ := h
    rfl
  · obtain ⟨p, rfl, hs, q⟩ := h
    refine ⟨_, (zpss_cons (zps_set (i := 1) scPr.nd rfl (Or.inl rfl) (zpe_call GD hr (by rfl) mD kD bD .nil passE0 (zpac_n (zpv 0) (zpac_c zpe_int zpa_nil))))
      (zpss_cons (zps_if (zpt_cmpR op_eq (zpv 1) zpe_int (nomark _)) (zpss_one (zps_ret (zpe_tup (zpac_b (zpe_op op_add zpe_int (zpe_call GD hr (by rfl) mD kD bD .nil passE0 (zpac_n (zpv 0) (zpac_c zpe_int zpa_nil)))) (zpac_c zpe_int zpa_nil))))) zpss_nil)
      (zpss_cons (zps_if (zpt_cmpR op_eq (zpv 1) zpe_int (nomark _)) (zpss_one (zps_ret (zpe_call GL hr (by rfl) mL kL bL .nil passE0 (zpac_b (zpe_op op_add zpe_int (zpe_call GD hr (by rfl) mD kD bD .nil passE0 (zpac_n (zpv 0) (zpac_c zpe_int zpa_nil)))) (zpac_b (zpe_op op_add zpe_int (zpe_call GD hr (by rfl) mD kD bD .nil passE0 (zpac_n (zpv 0) (zpac_c zpe_int zpa_nil)))) zpa_nil))))) zpss_nil)
      (zpss_cons (zps_if (zpt_cmpR op_eq (zpv 1) zpe_int (nomark _)) (zpss_one (zps_ret (zpe_call GL hr (by rfl) mL kL bL .nil passE0 (zpac_b (zpe_op op_add zpe_int (zpe_call GD hr (by rfl) mD kD bD .nil passE0 (zpac_n (zpv 0) (zpac_c zpe_int zpa_nil)))) (zpac_b (zpe_op op_add zpe_int (zpe_call GD hr (by rfl) mD kD bD .nil passE0 (zpac_n (zpv 0) (zpac_c zpe_int zpa_nil)))) zpa_nil))))) zpss_nil)
      (zpss_one (zps_ret (zpe_tup (zpac_c zpe_int (zpac_c zpe_int zpa_nil))))))))), ?_⟩
    have lt : ∀ {m : Int}, 0 < m → m ≤ 999999999 → m.natAbs < big := fun h0 h1 => Nat.lt_of_le_of_lt (show _ ≤ 999999999 by omega) (by decide +kernel)
    have fin : ∀ (x y : Int) (H1 : Hp), 1 ≤ x → x ≤ 999999999 → 1 ≤ y → y ≤ 999999999 → Src H1 p → Ext p H H1 → spLow [.int x, .int y] H1 Q E := fun x y H1 x0 x1 y0 y1 s1 k1 =>
      ⟨x, y, rfl, by omega, by omega, lt (by omega) (by omega), fun o c d ho fr c0 => by
        have c1 := fr.top
        have d1 := fr.bot
        have d2 := fr.pos
        refine q _ _ ⟨o, c, d, rfl, upd_same, ?_, d2, fr.low, by omega, by omega⟩ (s1.new ho) (k1.trans (Ext.new ho))
        obtain ⟨g, g0, ga, _⟩ := fr.g
        by_cases z : c = 0
        · rw [z, Int.mul_zero] at ga; omega
        · omega⟩
    refine ⟨_, rfl, p, _, rfl, hs, by decide, by decide, fun d H1 d0 d1 s1 k1 => ?_⟩
    have E1 : Ext p H H1 := Ext.of_eq k1
    refine ⟨_, rfl, rfl, _, rfl, ite2 (fun _ => ?_) (fun _ => ?_)⟩
    · refine ⟨_, rfl, p, _, rfl, s1, by decide, by decide, fun t H2 t0 t1 s2 k2 => ⟨_, _, rfl, rfl, by show 2 ≤ sizeLine; decide, fun o ho => ?_⟩⟩
      exact q _ _ ⟨o, 1 + t, 1, rfl, upd_same, by omega, by decide, by simp, by omega, by decide⟩ (s2.new ho) ((E1.trans (.of_eq k2)).trans (Ext.new ho))
    refine ⟨_, rfl, rfl, _, rfl, ite2 (fun _ => ?_) (fun _ => ?_)⟩
    · refine ⟨_, rfl, p, _, rfl, s1, by decide, by decide, fun t H2 t0 t1 s2 k2 => ⟨_, _, rfl, rfl, _, rfl, p, _, rfl, s2, by decide, by decide, fun u H3 u0 u1 s3 k3 => ⟨_, _, rfl, rfl, ?_⟩⟩⟩
      exact fin _ _ _ (by omega) (by omega) (by omega) (by omega) s3 ((E1.trans (.of_eq k2)).trans (.of_eq k3))
    refine ⟨_, rfl, rfl, _, rfl, ite2 (fun _ => ?_) (fun _ => ?_)⟩
    · refine ⟨_, rfl, p, _, rfl, s1, by decide, lt (by decide) (by decide), fun t H2 t0 t1 s2 k2 => ⟨_, _, rfl, rfl, _, rfl, p, _, rfl, s2, by decide, by decide, fun u H3 u0 u1 s3 k3 => ⟨_, _, rfl, rfl, ?_⟩⟩⟩
      exact fin _ _ _ (by omega) (by omega) (by omega) (by omega) s3 ((E1.trans (.of_eq k2)).trans (.of_eq k3))
    refine ⟨by show 2 ≤ sizeLine; decide, fun o ho => ?_⟩
    exact q _ _ ⟨o, 1, 1, rfl, upd_same, by decide, by decide, by decide, by decide, by decide⟩ (s1.new ho) (E1.trans (Ext.new ho))
end
end G1
namespace G1
open PySem L2 GM
def allT (cs : List Nat) (cm : Str → Nat → Bool) (n : Nat) : List Str := (List.range n).flatMap fun k => lvl cs cm (k + 1)
theorem allT_succ (cs : List Nat) (cm : Str → Nat → Bool) (n : Nat) : allT cs cm (n + 1) = allT cs cm n ++ lvl cs cm (n + 1) := by
  unfold allT
  rw [List.range_succ, List.flatMap_append]
  simp
theorem lvl_1024 {cs : List Nat} {cm : Str → Nat → Bool} (h : cs.length ≤ 4) {k : Nat} (hk : k ≤ 5) : (lvl cs cm k).length ≤ 1024 :=
  Nat.le_trans (lvl_len h k) (Nat.le_trans (Nat.pow_le_pow_right (by decide) hk) (by decide))
theorem allT_len {cs : List Nat} {cm : Str → Nat → Bool} (h : cs.length ≤ 4) : ∀ {n : Nat}, n ≤ 5 → (allT cs cm n).length ≤ n * 1024
  | 0, _ => Nat.zero_le _
  | n + 1, hn => by
    rw [allT_succ, List.length_append]
    have := allT_len (cm := cm) h (n := n) (by omega)
    have := lvl_1024 (cm := cm) h hn
    omega
theorem allT_size {cs : List Nat} {cm : Str → Nat → Bool} {n : Nat} (hn : n ≤ 8) : ∀ z ∈ allT cs cm n, z.length ≤ 8 ∧ 1 ≤ z.cps.size ∧ lastC z ∈ cs ∧ z.cps[z.cps.size - 1]? = some (lastC z) := fun z hz => by
  unfold allT at hz
  obtain ⟨k, hk, hz⟩ := List.mem_flatMap.mp hz
  have kl := List.mem_range.mp hk
  have := lvl_size hz
  obtain ⟨a, b, c⟩ := lvl_last hz
  exact ⟨by show z.cps.size ≤ 8; omega, by omega, a, c⟩
theorem allT_words (cs : List Nat) (cm : Str → Nat → Bool) (en : Nat → Bool) (n : Nat) : (allT cs cm n).filter (fun t => en (lastC t)) = allW cs cm en n := by
  unfold allT allW wds
  induction n with
  | zero => rfl
  | succ n ih =>
    rw [List.range_succ, List.flatMap_append, List.flatMap_append, List.filter_append, ih]
    simp
section
variable {P : Program} {w : World} {K : PySem.W.Frag} {mg : Str → Option Value} {base : Heap}
def spTexts : Sp := fun vs H Q _ => ∃ (t : Addr) (cs : List Nat) (fs ps : List Str) (lg : Int), vs = [.ref t] ∧ Tg H t cs fs ps lg ∧ cs.length ≤ 4 ∧ lg ≤ 5 ∧ ∀ L H', Same H H' → H L = none → H' L = some (.lst (txs (allT cs (cmT fs ps) lg.toNat))) → Q (.ref L) H'
theorem scTs : FnScope ["_law_tongue_here", "_law_found", "_law_ahead", "_law_length", "_law_longer", "_law_text", "_law_sign", "_law_price_here", "_law_last"] ["_law_tongue_here"] (defScope sTexts) := ⟨rfl, rfl, rfl, by decide +kernel, rfl, by decide +kernel, by decide +kernel⟩
theorem ok_texts {f fM : Addr} {fd fdM : FuncData} (F : FunG K "_law_texts" "_law_texts" sTexts .none f fd) (B : Bl mg)
    (GM : FnOk P w K mg base (CXE P w) 1 fM fdM ["_law_tongue_here", "_law_ahead", "_law_sign"] spFollows) (mM : mg "_law_may_come" = some (.ref fM)) (kM : PySem.W.keepIn K (.ref fM) = true) (bM : Binds K fdM ["_law_tongue_here", "_law_ahead", "_law_sign"] []) : FnOk P w K mg base (CXE P w) 2 f fd ["_law_tongue_here"] spTexts := by
  refine F.zokN scTs (fun vs H Q E h => ?_) (fun cdv A outer s H vs Q E hr h => ?_)
  · obtain ⟨t, cs, fs, ps, lg, rfl, _⟩ := h
    rfl
  · obtain ⟨t, cs, fs, ps, lg, rfl, tg, c4, l5, q⟩ := h
    refine ⟨_, (zpss_cons (zps_set (i := 1) scTs.nd rfl (Or.inl rfl) (zpe_lst zpa_nil))
      (zpss_cons (zps_set (i := 2) scTs.nd rfl (Or.inl rfl) (zpe_lst (zpac_c zpe_str zpa_nil)))
      (zpss_cons (zps_for PassesOwn.never rfl (zpi_range1 (by rfl) B.range (zpac_s (zpe_ix ix_tup (zpv 0) zpe_int (fun _ _ => rfl)) zpa_nil)) (zpg_name (i := 3) scTs.nd rfl (Or.inl rfl))
          (zpss_cons (zps_set (i := 4) scTs.nd rfl (Or.inl rfl) (zpe_lst zpa_nil))
      (zpss_cons (zps_for PassesOwn.never rfl (zpi_list (zpv 2)) (zpg_name (i := 5) scTs.nd rfl (Or.inl rfl))
              (zpss_one (zps_for PassesOwn.never rfl (zpi_list (zpe_ix ix_tup (zpv 0) zpe_int (fun _ _ => rfl))) (zpg_tup rfl (zpgs_cons (zpg_name (i := 6) scTs.nd rfl (Or.inl rfl)) (zpgs_cons (zpg_name (i := 7) scTs.nd rfl (Or.inl rfl)) (zpgs_cons (zpg_name (i := 8) scTs.nd rfl (Or.inl rfl)) zpgs_nil))))
              (zpss_one (zps_if (zpt_val (zpe_call GM hr (by rfl) mM kM bM .nil passE0 (zpac_n (zpv 0) (zpac_s (zpe_slice sl_str (zpv 5) (zpo_some (zpe_un un_neg zpe_int)) zpo_none) (zpac_n (zpv 6) zpa_nil))))) (zpss_one (zps_expr (zpe_bm PySem.F.plainAttrs_list PySem.F.slot_list_append PySem.F.type_list_append mt_append (zpv 4) (zpac_b (zpe_op op_add_str (zpv 5) (zpv 6)) zpa_nil)))) zpss_nil)))))
      (zpss_cons (zps_set (i := 1) scTs.nd rfl (Or.inl rfl) (zpe_op op_cat (zpv 1) (zpv 4)))
      (zpss_one (zps_set (i := 2) scTs.nd rfl (Or.inl rfl) (zpv 4)))))))
      (zpss_one (zps_ret (zpv 1)))))), ?_⟩
    obtain ⟨S, Fr, Pp, xs, h1, h2, rows, h4, h5⟩ := tg.ex
    have l1 := tg.l1
    refine ⟨by show 0 ≤ sizeLine; decide, fun Fd hFd => ?_⟩
    have s1 := same_upd (o := .lst []) hFd
    have hF1 : (upd H Fd (.lst [])) Fd = some (.lst (txs (allT cs (cmT fs ps) 0))) := upd_same
    generalize upd H Fd (.lst []) = H1 at s1 hF1 ⊢
    refine ⟨by show 1 ≤ sizeLine; decide, fun A0 hA0 => ?_⟩
    have s2 := same_upd (o := .lst [V.str ""]) hA0
    have hA2 : (upd H1 A0 (.lst [V.str ""])) A0 = some (.lst (txs (lvl cs (cmT fs ps) 0))) := upd_same
    have hF2 := s2 _ _ hF1
    have S2 := s1.trans s2
    generalize upd H1 A0 (.lst [V.str ""]) = H2 at s2 hA2 hF2 S2 ⊢
    refine ⟨_, rfl, t, _, _, _, rfl, rfl, SqT.of (S2 _ _ h1), rfl, lg, rfl, by omega, by omega, ?_⟩
    refine for_range (lo := 0) (n := lg.toNat) (fun k σ H3 => ∃ Fk Lv v3 v4 v5 v6 v7 v8, σ = [some (.ref t), some (.ref Fk), some (.ref Lv), v3, v4, v5, v6, v7, v8] ∧ Same H H3 ∧ H Fk = none ∧ H3 Lv = some (.lst (txs (lvl cs (cmT fs ps) k))) ∧ H3 Fk = some (.lst (txs (allT cs (cmT fs ps) k))))
      ⟨Fd, A0, _, _, _, _, _, _, rfl, S2, hFd, hA2, hF2⟩ ?_ ?_
    · rintro k σ H3 hk ⟨Fk, Lv, v3, v4, v5, v6, v7, v8, rfl, s3, fFk, hL3, hF3⟩
      refine ⟨by show 0 ≤ sizeLine; decide, fun Lo hLo => ?_⟩
      have s4 := same_upd (o := .lst []) hLo
      have hLo4 : (upd H3 Lo (.lst [])) Lo = some (.lst (txs (stepL cs (cmT fs ps) []))) := upd_same
      have hL4 := s4 _ _ hL3
      have hF4 := s4 _ _ hF3
      have S4 := s3.trans s4
      have fLo := s3.free hLo
      have nLo : Lv ≠ Lo := ne_of_none hL3 hLo
      have nFo : Fk ≠ Lo := ne_of_none hF3 hLo
      generalize upd H3 Lo (.lst []) = H4 at s4 hLo4 hL4 hF4 S4 ⊢
      have stepB : (stepL cs (cmT fs ps) (lvl cs (cmT fs ps) k)).length ≤ 1024 := lvl_1024 (cm := cmT fs ps) c4 (k := k + 1) (by omega)
      refine ⟨_, rfl, Lv, rfl, ⟨_, SqL.of hL4⟩, for_list (K := K) (a := Lv) (xs := txs (lvl cs (cmT fs ps) k)) (fun i σ H5 => (∃ v5 v6 v7 v8, σ = [some (.ref t), some (.ref Fk), some (.ref Lv), some (.int (0 + (k : Int))), some (.ref Lo), v5, v6, v7, v8]) ∧ Same H H5 ∧ H5 Lv = some (.lst (txs (lvl cs (cmT fs ps) k))) ∧ H5 Fk = some (.lst (txs (allT cs (cmT fs ps) k))) ∧ H5 Lo = some (.lst (txs (stepL cs (cmT fs ps) ((lvl cs (cmT fs ps) k).take i)))))
        ⟨⟨_, _, _, _, rfl⟩, S4, hL4, hF4, hLo4⟩ ?_ ?_ ?_⟩
      · rintro i σ H5 _ ⟨_, _, h, _⟩
        exact SqL.of h
      · rintro i x σ H5 hx ⟨⟨v5, v6, v7, v8, rfl⟩, s5, hL5, hF5, hLo5⟩
        obtain ⟨z, hz, rfl⟩ := txs_at hx
        have zm : z ∈ lvl cs (cmT fs ps) k := List.mem_of_getElem? hz
        have zl : z.length ≤ 8 := by
          have : z.length = z.cps.size := rfl
          have := lvl_size zm
          omega
        have tk : (lvl cs (cmT fs ps) k).take (i + 1) = (lvl cs (cmT fs ps) k).take i ++ [z] := by rw [List.take_add_one, hz]; rfl
        have nx : stepL cs (cmT fs ps) ((lvl cs (cmT fs ps) k).take (i + 1)) = stepL cs (cmT fs ps) ((lvl cs (cmT fs ps) k).take i) ++ (nextC cs (cmT fs ps) z).map fun c => z ++ sg1 c := by
          rw [tk]
          unfold stepL
          rw [List.flatMap_append]
          simp
        have hz1 : (stepL cs (cmT fs ps) ((lvl cs (cmT fs ps) k).take (i + 1))).length ≤ 1024 := Nat.le_trans (flat_take_le _ _ _) stepB
        rw [nx, List.length_append, List.length_map] at hz1
        refine ⟨_, rfl, t, _, _, _, rfl, rfl, SqT.of (s5 _ _ h1), rfl, S, rfl, ⟨_, SqL.of (s5 _ _ h2)⟩, for_list (K := K) (a := S) (xs := xs) (fun j σ H6 => (∃ v6 v7 v8, σ = [some (.ref t), some (.ref Fk), some (.ref Lv), some (.int (0 + (k : Int))), some (.ref Lo), some (.str z), v6, v7, v8]) ∧ Same H H6 ∧ H6 Lv = some (.lst (txs (lvl cs (cmT fs ps) k))) ∧ H6 Fk = some (.lst (txs (allT cs (cmT fs ps) k))) ∧ H6 Lo = some (.lst (txs (stepL cs (cmT fs ps) ((lvl cs (cmT fs ps) k).take i) ++ ((cs.take j).filter (cmT fs ps (lastS z))).map fun c => z ++ sg1 c))))
          ⟨⟨_, _, _, rfl⟩, s5, hL5, hF5, by rw [List.take_zero, List.filter_nil, List.map_nil, List.append_nil]; exact hLo5⟩ ?_ ?_ ?_⟩
        · rintro j σ H6 _ ⟨_, h, _⟩
          exact SqL.of (h _ _ h2)
        · rintro j y σ H6 hy ⟨⟨v6, v7, v8, rfl⟩, s6, hL6, hF6, hLo6⟩
          obtain ⟨c, hc, row⟩ := rows.at hy
          obtain ⟨a, p', la, rfl, ha, _⟩ := row.ex
          have ha6 := s6 _ _ ha
          have tc : cs.take (j + 1) = cs.take j ++ [c] := by rw [List.take_add_one, hc]; rfl
          refine ⟨a, _, rfl, SqT.of ha6, rfl, _, _, rfl, _, _, rfl, _, _, rfl, rfl, ?_⟩
          refine ⟨_, rfl, _, rfl, _, rfl, _, rfl, z, rfl, Nat.le_trans zl (by decide), _, rfl, t, cs, fs, ps, lg, lastS z, sg1 c, rfl, tg.kp (Kp.same s6), ?_, by show (1 : Nat) ≤ 100; decide, _, rfl, ?_⟩
          · have := cutS_len z (some (-1)) none
            exact Nat.le_trans this (by omega)
          cases hcm : comeB fs ps (lastS z) (sg1 c) with
          | true =>
            refine iteT ⟨_, rfl, .inl ⟨rfl, _, SqL.of hLo6⟩, _, rfl, _, rfl, _, _, rfl, rfl, ?_, Lo, _, _, rfl, rfl, hLo6, ?_, ⟨_, _, _, rfl⟩, fun b o e => by rw [upd_ne (ne_of_none e fLo)]; exact s6 _ _ e, by rw [upd_ne nLo]; exact hL6, by rw [upd_ne nFo]; exact hF6, ?_⟩
            · have : (sg1 c).length = 1 := rfl
              exact Nat.le_trans (show z.length + (sg1 c).length ≤ 9 by omega) (by decide)
            · rw [txs_len, List.length_append, List.length_map]
              have q1 : ((cs.take j).filter (cmT fs ps (lastS z))).length ≤ 4 := Nat.le_trans (List.length_filter_le _ _) (by rw [List.length_take]; omega)
              exact Nat.lt_of_le_of_lt (show _ ≤ 2000 by omega) (by decide)
            · rw [upd_same, tc, List.filter_append, List.filter_cons_of_pos (show cmT fs ps (lastS z) c = true from hcm)]
              unfold txs
              simp
          | false =>
            refine iteF ⟨⟨_, _, _, rfl⟩, s6, hL6, hF6, ?_⟩
            rw [hLo6, tc, List.filter_append, List.filter_cons_of_neg (by rw [show cmT fs ps (lastS z) c = false from hcm]; decide)]
            simp
        · rintro σ H6 ⟨⟨v6, v7, v8, rfl⟩, s6, hL6, hF6, hLo6⟩
          rw [rows.len, List.take_length] at hLo6
          exact ⟨⟨_, _, _, _, rfl⟩, s6, hL6, hF6, by rw [nx]; exact hLo6⟩
      · rintro σ H5 ⟨⟨v5, v6, v7, v8, rfl⟩, s5, hL5, hF5, hLo5⟩
        rw [txs_len, List.take_length] at hLo5
        have hLo5' : H5 Lo = some (.lst (txs (lvl cs (cmT fs ps) (k + 1)))) := hLo5
        have b1 := allT_len (cm := cmT fs ps) c4 (n := k) (by omega)
        refine ⟨_, rfl, _, rfl, Fk, Lo, _, _, rfl, rfl, hF5, hLo5', ?_, fun Fn hFn => ?_⟩
        · rw [txs_len, txs_len]
          exact Nat.le_trans (show _ ≤ 10000 by have : (lvl cs (cmT fs ps) (k + 1)).length ≤ 1024 := stepB; omega) (by decide)
        have s6 := same_upd (o := .lst (txs (allT cs (cmT fs ps) k) ++ txs (lvl cs (cmT fs ps) (k + 1)))) hFn
        refine ⟨_, rfl, Fn, Lo, _, _, _, _, _, _, rfl, s5.trans s6, s5.free hFn, s6 _ _ hLo5', ?_⟩
        rw [upd_same, allT_succ]
        unfold txs
        rw [List.map_append]
    · rintro σ H3 ⟨Fk, Lv, v3, v4, v5, v6, v7, v8, rfl, s3, fFk, hL3, hF3⟩
      exact ⟨_, rfl, q Fk H3 s3 fFk hF3⟩
end
theorem put_dct (val : Nat → V) : ∀ (cs pre : List Nat), (pre ++ cs).Nodup → (dct cs val).foldl (fun m p => putK m p.1 p.2) (dct pre val) = dct (pre ++ cs) val
  | [], pre, _ => by rw [List.append_nil]; rfl
  | c :: cs, pre, nd => by
    have nc : c ∉ pre := fun z => (List.nodup_append.mp nd).2.2 c z c List.mem_cons_self rfl
    show (dct cs val).foldl _ (putK (dct pre val) (Sum.inr (sg1 c) : Key) (val c)) = _
    rw [dct_snoc nc, put_dct val cs (pre ++ [c]) (by rw [List.append_assoc]; exact nd), List.append_assoc]; rfl
theorem putAll_dct (val : Nat → V) {cs : List Nat} (nd : cs.Nodup) : putAll (dct cs val) = dct cs val := put_dct val cs [] nd
section
variable {P : Program} {w : World} {K : PySem.W.Frag} {mg : Str → Option Value} {base : Heap}
def spLWords : Sp := fun vs H Q _ => ∃ (t : Addr) (cs : List Nat) (fs ps : List Str) (lg : Int) (xs : List V), vs = [.ref t] ∧ Tg H t cs fs ps lg ∧ TgX H t xs cs ∧ cs.length ≤ 4 ∧ lg ≤ 5 ∧ ∀ L H', Same H H' → H L = none → H' L = some (.lst (txs (allW cs (cmT fs ps) (endB H xs cs) lg.toNat))) → Q (.ref L) H'
theorem scLW : FnScope ["_law_tongue_here", "_law_lasts"] ["_law_tongue_here"] (defScope sLWords) := ⟨rfl, rfl, rfl, by decide +kernel, rfl, by decide +kernel, by decide +kernel⟩
theorem ok_lwords {f fT : Addr} {fd fdT : FuncData} (F : FunG K "_law_words" "_law_words" sLWords .none f fd) (B : Bl mg)
    (GT : FnOk P w K mg base (CXE P w) 2 fT fdT ["_law_tongue_here"] spTexts) (mT : mg "_law_texts" = some (.ref fT)) (kT : PySem.W.keepIn K (.ref fT) = true) (bT : Binds K fdT ["_law_tongue_here"] []) : FnOk P w K mg base (CXE P w) 3 f fd ["_law_tongue_here"] spLWords := by
  refine F.zokN scLW (fun vs H Q E h => ?_) (fun cdv A outer s H vs Q E hr h => ?_)
  · obtain ⟨t, cs, fs, ps, lg, xs, rfl, _⟩ := h
    rfl
  · obtain ⟨t, cs, fs, ps, lg, xs, rfl, tg, tx, c4, l5, q⟩ := h
    have mdict := B.dict
    refine ⟨_, (zpss_cons (zps_set (i := 1) scLW.nd rfl (Or.inr rfl) (zpe_callTy (call_dictP rfl) (by rfl) mdict boot_dict (zpac_x (zpe_compL ["_law_tongue_here", "_law_lasts"] ["_law_sign", "_law_price_here", "_law_last"] [] (defScope sLWords) rfl rfl rfl ⟨by decide +kernel, by decide +kernel, by decide +kernel, by decide +kernel, by decide +kernel⟩ (zpi_list (zpe_ix ix_tup (zpv 0) zpe_int (fun _ _ => rfl))) (fun s H fp => (zpg_tupK K 3 rfl rfl (zpgs_cons (zpg_name (i := 0) (show List.Nodup [("_law_sign" : Str), "_law_price_here", "_law_last"] by decide +kernel) rfl (Or.inl rfl)) (zpgs_cons (zpg_name (i := 1) (show List.Nodup [("_law_sign" : Str), "_law_price_here", "_law_last"] by decide +kernel) rfl (Or.inl rfl)) (zpgs_cons (zpg_name (i := 2) (show List.Nodup [("_law_sign" : Str), "_law_price_here", "_law_last"] by decide +kernel) rfl (Or.inl rfl)) zpgs_nil))))) (fun s H fp => zpts_nil) (fun s H fp => (zpe_tup (zpac_n (zpv 0) (zpac_n (zpv 2) zpa_nil))))) zpa_nil)))
      (zpss_one (zps_ret (zpe_compL ["_law_tongue_here", "_law_lasts"] ["_law_text"] [1] (defScope sLWords) rfl rfl rfl ⟨by decide +kernel, by decide +kernel, by decide +kernel, by decide +kernel, by decide +kernel⟩ (zpi_list (zpe_call GT hr (by rfl) mT kT bT .nil passE0 (zpac_n (zpv 0) zpa_nil))) (fun s H fp => (zpg_name (i := 0) (show List.Nodup [("_law_text" : Str), "_law_lasts"] by decide +kernel) rfl (Or.inl rfl))) (fun s H fp => (zpts_one (zpt_cmp (zpc_notN (zpe_dget hr.units1 (zpv 1) (zpe_ix ix_str (zpv 0) (zpe_un un_neg zpe_int) (fun _ _ => rfl)) (fun _ _ => rfl)))))) (fun s H fp => (zpv 0)))))), ?_⟩
    obtain ⟨S, Fr, Pp, xs', h1, h2, rows, h4, h5⟩ := tg.ex
    obtain ⟨S', F', Pp', lg', g1, g2⟩ := tx.ex
    rw [h1] at g1
    cases g1
    rw [h2] at g2
    cases g2
    refine ⟨_, rfl, t, _, _, _, rfl, rfl, SqT.of h1, rfl, S, rfl, ⟨_, SqL.of h2⟩, fun m hm => ?_⟩
    have sm := same_upd (o := .lst []) hm
    have nd := tg.nd
    have l1 := tg.l1
    refine lr_list (xs := xs) (fun i σ H3 => (∃ v1 v2 v3, σ = [v1, v2, v3]) ∧ Same H H3 ∧ ∃ ts : List Addr, H3 m = some (.lst (ts.map V.ref)) ∧ ts.length = i ∧ ∀ (j : Nat) (a : Addr) (c : Nat) (x : V), ts[j]? = some a → cs[j]? = some c → xs[j]? = some x → H3 a = some (.tup [.str (sg1 c), lastV H x]))
      ⟨⟨_, _, _, rfl⟩, sm, [], upd_same, rfl, fun j a c x e => by simp at e⟩ (fun i σ H3 p => SqL.of (p.2.1 _ _ h2)) ?_ ?_
    · rintro i x σ H3 C hx ⟨⟨v1, v2, v3, rfl⟩, s3, ts, hm3, tl, all⟩ nx
      obtain ⟨c, hc, row⟩ := rows.at hx
      obtain ⟨a, p, rfl, ha, _⟩ := row.last
      have il := (List.getElem?_eq_some_iff.mp hx).1
      have c6 := rows.len
      refine ⟨a, _, rfl, SqT.of (s3 _ _ ha), rfl, _, _, rfl, _, _, rfl, _, _, rfl, rfl, ?_⟩
      dsimp only
      rw [if_pos rfl]
      refine ⟨_, rfl, _, rfl, by show 2 ≤ sizeLine; decide, fun b hb => ?_⟩
      have s4 := same_upd (o := .tup [.str (sg1 c), lastV H (.ref a)]) hb
      have nbm : m ≠ b := ne_of_none hm3 hb
      refine ⟨_, s4 _ _ hm3, ?_, nx _ _ ⟨⟨_, _, _, rfl⟩, fun u o h => by rw [upd_ne (ne_of_none h hm)]; exact s4 _ _ (s3 _ _ h), ts ++ [b], ?_, ?_, ?_⟩⟩
      · rw [List.length_map, tl]
        exact Nat.lt_of_lt_of_le (show i < 10 by omega) (by decide)
      · rw [upd_same, List.map_append]; rfl
      · rw [List.length_append, tl]; rfl
      · intro j u d y e1 e2 e3
        by_cases hj : j < ts.length
        · rw [List.getElem?_append_left hj] at e1
          have := all j u d y e1 e2 e3
          rw [upd_ne (fun z => by rw [z, hm3] at this; cases this)]
          exact s4 _ _ this
        · rw [List.getElem?_append_right (by omega)] at e1
          have jl := (List.getElem?_eq_some_iff.mp e1).1
          have j0 : j - ts.length = 0 := by
            simp at jl; omega
          rw [j0] at e1
          cases e1
          have ji : j = i := by omega
          subst ji
          rw [hx] at e3
          rw [hc] at e2
          cases e3
          cases e2
          rw [upd_ne nbm.symm]
          exact upd_same
    rintro σ H3 ⟨⟨v1, v2, v3, rfl⟩, s3, ts, hm3, tl, all⟩
    let val : Nat → V := fun c => ((xs[cs.idxOf c]?).map (lastV H)).getD .non
    have hval : ∀ (j c : Nat) (x : V), cs[j]? = some c → xs[j]? = some x → val c = lastV H x := fun j c x e1 e2 => by
      have mc := List.mem_of_getElem? e1
      have e3 : cs[cs.idxOf c]? = some c := by rw [List.getElem?_eq_getElem (List.idxOf_lt_length_of_mem mc), List.getElem_idxOf]
      have e4 := nd_at nd e3 e1
      show ((xs[cs.idxOf c]?).map (lastV H)).getD .non = _
      rw [e4, e2]; rfl
    refine ⟨m, ts, dct cs val, rfl, hm3, by rw [tl, dct_len, rows.len], fun j a k v e1 e2 => ?_, fun D hD => ?_⟩
    · unfold dct at e2
      rw [List.getElem?_map] at e2
      obtain ⟨c, hc, e⟩ := Option.map_eq_some_iff.mp e2
      cases e
      have jl : j < xs.length := by
        have := (List.getElem?_eq_some_iff.mp e1).1
        omega
      have hx : xs[j]? = some xs[j] := List.getElem?_eq_getElem jl
      have := all j a c _ e1 hc hx
      rw [← hval j c _ hc hx] at this
      exact this
    rw [putAll_dct val nd]
    have sD := same_upd (o := .dK (dct cs val)) hD
    have hDD : (upd H3 D (.dK (dct cs val))) D = some (.dK (dct cs val)) := upd_same
    have S4 := s3.trans sD
    generalize upd H3 D (.dK (dct cs val)) = H4 at sD hDD S4 ⊢
    refine ⟨_, rfl, t, cs, fs, ps, lg, rfl, tg.kp (Kp.same S4), c4, l5, fun T H5 s5 fT hT5 => ?_⟩
    refine ⟨T, rfl, ⟨_, SqL.of hT5⟩, fun n hn => ?_⟩
    have S5 := S4.trans s5
    have hD5 := s5 _ _ hDD
    have fn := S5.free hn
    have sn := same_upd (o := .lst []) hn
    have tb := allT_len (cm := cmT fs ps) c4 (n := lg.toNat) (by omega)
    refine lr_list (xs := txs (allT cs (cmT fs ps) lg.toNat)) (fun i σ H6 => (∃ v, σ = [v, some (.ref D)]) ∧ Same H5 H6 ∧ H6 n = some (.lst (txs (((allT cs (cmT fs ps) lg.toNat).take i).filter fun z => endB H xs cs (lastC z)))))
      ⟨⟨_, rfl⟩, sn, upd_same⟩ (fun i σ H6 p => SqL.of (p.2.1 _ _ hT5)) ?_ ?_
    · rintro i x σ H6 C hx ⟨⟨v, rfl⟩, s6, hn6⟩ nx
      obtain ⟨z, hz, rfl⟩ := txs_at hx
      have il := (List.getElem?_eq_some_iff.mp hz).1
      obtain ⟨z8, z1, lc, lcat⟩ := allT_size (cm := cmT fs ps) (n := lg.toNat) (by omega) z (List.mem_of_getElem? hz)
      dsimp only [gName]
      have tz : (allT cs (cmT fs ps) lg.toNat).take (i + 1) = (allT cs (cmT fs ps) lg.toNat).take i ++ [z] := by rw [List.take_add_one, hz]; rfl
      have hat : atI z.cps.toList (-1) = some (lastC z) := by
        obtain ⟨c, e1, e2⟩ := at_last (z := z) (by omega)
        rw [lcat] at e1
        cases e1
        exact e2
      have hD6 := s6 _ _ hD5
      have dg : DGet H6 D (.str (sg1 (lastC z))) (some (val (lastC z))) := dct_get hD6 lc
      refine ⟨_, rfl, _, rfl, _, rfl, z, _, lastC z, rfl, rfl, Nat.le_trans z8 (by decide), hat, D, _, rfl, dg, _, rfl, ?_⟩
      obtain ⟨j, hj⟩ := List.getElem?_of_mem lc
      have jx : j < xs.length := by
        have := (List.getElem?_eq_some_iff.mp hj).1
        rw [rows.len]; exact this
      have hxj : xs[j]? = some xs[j] := List.getElem?_eq_getElem jx
      have en : (!decide (val (lastC z) = .non)) = endB H xs cs (lastC z) := by
        rw [hval j _ _ hj hxj, endB_at nd hxj hj]
      rw [en]
      refine ite2 (fun e => ?_) (fun e => ?_)
      · refine ⟨_, rfl, _, hn6, ?_, nx _ _ ⟨⟨_, rfl⟩, fun u o h => by rw [upd_ne (ne_of_none h hn)]; exact s6 _ _ h, ?_⟩⟩
        · rw [txs_len]
          refine Nat.lt_of_le_of_lt (List.length_filter_le _ _) ?_
          rw [List.length_take]
          exact Nat.lt_of_le_of_lt (show min i _ ≤ 10000 by omega) (by decide)
        · rw [upd_same, tz, List.filter_append, List.filter_cons_of_pos (p := fun z => endB H xs cs (lastC z)) (a := z) e]
          unfold txs
          rw [List.map_append]; rfl
      · refine nx _ _ ⟨⟨_, rfl⟩, s6, ?_⟩
        rw [tz, List.filter_append, List.filter_cons_of_neg (p := fun z => endB H xs cs (lastC z)) (a := z) e, List.filter_nil, List.append_nil]
        exact hn6
    · rintro σ H6 ⟨⟨v, rfl⟩, s6, hn6⟩
      rw [txs_len, List.take_length, allT_words] at hn6
      exact q n H6 (S5.trans s6) fn hn6
end
end G1
namespace G1
open PySem L2 GM
def shO (sd : List (Str × Str)) (z : Str) : List Nat := (List.range (z.length - 1)).filter fun i => !decide (((sayS sd (ctS z i)).map V.str).getD .non = .str "on")
def opB (sd : List (Str × Str)) (z : Str) : Bool := !(sayS sd z).isSome && (shO sd z).isEmpty
def atsV (l : List Nat) : List V := l.map fun (i : Nat) => V.int ((1 : Int) + (i : Int))
theorem ats_flat (l : List Nat) : (atsV l).all flatV = true := by
  rw [List.all_eq_true]
  intro x hx
  obtain ⟨i, _, rfl⟩ := List.mem_map.mp hx
  rfl
theorem ats_nil (l : List Nat) : eqVs (atsV l) [] = l.isEmpty := by
  cases l with
  | nil => rfl
  | cons a l => rfl
section
variable {P : Program} {w : World} {K : PySem.W.Frag} {mg : Str → Option Value} {base : Heap}
def spOpen : Sp := fun vs H Q _ => ∃ (d l : Addr) (sd : List (Str × Str)) (ts : List Str), vs = [.ref d, .ref l] ∧ H d = some (.dK (dS sd)) ∧ H l = some (.lst (txs ts)) ∧ (∀ z ∈ ts, z.length ≤ 8) ∧ ts.length ≤ 10000 ∧ ∀ L H', Same H H' → H L = none → H' L = some (.lst (txs (ts.filter (opB sd)))) → Q (.ref L) H'
theorem scOp : FnScope ["_law_said", "_law_texts_here", "_law_found", "_law_text", "_law_shut"] ["_law_said", "_law_texts_here"] (defScope sOpen) := ⟨rfl, rfl, rfl, by decide +kernel, rfl, by decide +kernel, by decide +kernel⟩
theorem ok_open {f : Addr} {fd : FuncData} (F : FunG K "_law_open" "_law_open" sOpen .none f fd) (B : Bl mg) : FnOk P w K mg base (CXE P w) 1 f fd ["_law_said", "_law_texts_here"] spOpen := by
  refine F.zokN scOp (fun vs H Q E h => ?_) (fun cdv A outer s H vs Q E hr h => ?_)
  · obtain ⟨d, l, sd, ts, rfl, _⟩ := h
    rfl
  · obtain ⟨d, l, sd, ts, rfl, hd, hl, z8, tl, q⟩ := h
    have hu := Nat.lt_of_succ_lt hr.units1
    refine ⟨_, (zpss_cons (zps_set (i := 2) scOp.nd rfl (Or.inl rfl) (zpe_lst zpa_nil))
      (zpss_cons (zps_for PassesOwn.never rfl (zpi_list (zpv 1)) (zpg_name (i := 3) scOp.nd rfl (Or.inr rfl))
          (zpss_cons (zps_compL (i := 4) ["_law_said", "_law_texts_here", "_law_found", "_law_text", "_law_shut"] ["_law_at"] [0, 3] (defScope sOpen) rfl rfl rfl ⟨by decide +kernel, by decide +kernel, by decide +kernel, by decide +kernel, by decide +kernel⟩ scOp.nd rfl (Or.inl rfl) (zpi_range2 (by rfl) B.range (zpac_c zpe_int (zpac_f (zpe_callB call_len_str (by rfl) B.len PySem.boot_len (zpac_n (zpv 3) zpa_nil)) zpa_nil))) (fun s H fp => (zpg_name (i := 0) (show List.Nodup [("_law_at" : Str), "_law_said", "_law_text"] by decide +kernel) rfl (Or.inl rfl))) (fun s H fp => (zpts_one (zpt_cmpR op_ne (zpe_dget1 hr.units1 (zpv 1) (zpe_slice sl_str (zpv 2) zpo_none (zpo_some (zpv 0)))) zpe_str (nomark _)))) (fun s H fp => (zpv 0)))
      (zpss_one (zps_if (SPW.pt (zpw_and (zpt_cmp (zpc_dnotin hr.units1 (zpv 3) (zpv 0))) (zpw_and1 (zpt_cmpR (op_eqL hu) (zpv 4) (zpe_lst zpa_nil) (nomark _))))) (zpss_one (zps_expr (zpe_bm PySem.F.plainAttrs_list PySem.F.slot_list_append PySem.F.type_list_append mt_append (zpv 2) (zpac_n (zpv 3) zpa_nil)))) zpss_nil))))
      (zpss_one (zps_ret (zpv 2))))), ?_⟩
    refine ⟨by show 0 ≤ sizeLine; decide, fun Fd hFd => ?_⟩
    have s1 := same_upd (o := .lst []) hFd
    refine ⟨_, rfl, l, rfl, ⟨_, SqL.of (s1 _ _ hl)⟩, for_list (K := K) (a := l) (xs := txs ts) (fun i σ H2 => (∃ v3 v4, σ = [some (.ref d), some (.ref l), some (.ref Fd), v3, v4]) ∧ Same H H2 ∧ H2 Fd = some (.lst (txs ((ts.take i).filter (opB sd))))) ⟨⟨_, _, rfl⟩, s1, upd_same⟩ ?_ ?_ ?_⟩
    · rintro i σ H2 _ ⟨_, s2, _⟩
      exact SqL.of (s2 _ _ hl)
    · rintro i x σ H2 hx ⟨⟨v3, v4, rfl⟩, s2, hF2⟩
      obtain ⟨z, hz, rfl⟩ := txs_at hx
      have lz := z8 z (List.mem_of_getElem? hz)
      have il := (List.getElem?_eq_some_iff.mp hz).1
      have nxt : ts.take (i + 1) = ts.take i ++ [z] := by rw [List.take_add_one, hz]; rfl
      refine ⟨_, rfl, z, rfl, Nat.le_trans lz (by decide), 1, (z.length : Int), rfl, ⟨by omega, by omega, by omega, by omega⟩, fun m hm => ?_⟩
      have cnt : ((z.length : Int) - 1).toNat = z.length - 1 := by omega
      rw [cnt]
      have sm := same_upd (o := .lst []) hm
      refine lr_range (Pv := fun j σ H3 => (∃ v, σ = [v, some (.ref d), some (.str z)]) ∧ Same H2 H3 ∧ H3 m = some (.lst (atsV ((List.range j).filter fun i => !decide (((sayS sd (ctS z i)).map V.str).getD .non = .str "on"))))) ⟨⟨_, rfl⟩, sm, upd_same⟩ ?_ ?_
      · rintro j σ H3 C hj ⟨⟨v, rfl⟩, s3, hm3⟩ nx
        dsimp only [gName]
        have hd3 := s3 _ _ (s2 _ _ hd)
        have nxj : List.range (j + 1) = List.range j ++ [j] := List.range_succ
        refine ⟨_, rfl, d, rfl, .inl ⟨_, .inl hd3⟩, _, rfl, _, rfl, _, rfl, z, rfl, Nat.le_trans lz (by decide), _, dS_dg hd3 (ctS z j), ?_⟩
        refine ⟨?_, _, rfl, ite2 (fun e => ?_) (fun e => ?_)⟩
        · cases sayS sd (ctS z j) <;> rfl
        · refine ⟨_, rfl, _, hm3, ?_, nx _ _ ⟨⟨_, rfl⟩, fun b o h => by rw [upd_ne (ne_of_none h hm)]; exact s3 _ _ h, ?_⟩⟩
          · unfold atsV
            rw [List.length_map]
            refine Nat.lt_of_le_of_lt (List.length_filter_le _ _) ?_
            rw [List.length_range]
            exact Nat.lt_of_lt_of_le (show j < 10 by omega) (by decide)
          · rw [upd_same, nxj, List.filter_append, List.filter_cons_of_pos (a := j) e]
            unfold atsV
            rw [List.map_append]; rfl
        · refine nx _ _ ⟨⟨_, rfl⟩, s3, ?_⟩
          rw [nxj, List.filter_append, List.filter_cons_of_neg (a := j) e, List.filter_nil, List.append_nil]
          exact hm3
      · rintro σ H3 ⟨⟨v, rfl⟩, s3, hm3⟩
        have hm3' : H3 m = some (.lst (atsV (shO sd z))) := hm3
        have hF3 := s3 _ _ hF2
        have S3 := s2.trans s3
        refine ⟨_, rfl, _, rfl, d, _, rfl, dS_dg (S3 _ _ hd) z, _, rfl, ?_⟩
        have es : ((sayS sd z).map V.str).isSome = (sayS sd z).isSome := by cases sayS sd z <;> rfl
        rw [es]
        refine ite2 (fun e => ?_) (fun e => ?_)
        · refine ⟨_, rfl, by show 0 ≤ sizeLine; decide, fun n hn => ?_⟩
          have s4 := same_upd (o := .lst []) hn
          refine ⟨m, n, _, _, rfl, rfl, SqL.of (s4 _ _ hm3'), SqL.of upd_same, ats_flat _, rfl, _, rfl, ?_⟩
          have hF4 := s4 _ _ hF3
          have S4 := S3.trans s4
          have e1 : (if false = true then !eqVs (atsV (shO sd z)) [] else eqVs (atsV (shO sd z)) []) = (shO sd z).isEmpty := ats_nil _
          refine ite2 (fun e2 => ?_) (fun e2 => ?_)
          · have ok : opB sd z = true := by
              unfold opB
              rw [e, ← ats_nil]
              simpa using e2
            refine ⟨_, rfl, .inl ⟨rfl, _, SqL.of hF4⟩, _, rfl, Fd, _, _, rfl, rfl, hF4, ?_, ⟨_, _, rfl⟩, fun b o h => by rw [upd_ne (ne_of_none h hFd)]; exact S4 _ _ h, ?_⟩
            · rw [txs_len]
              refine Nat.lt_of_le_of_lt (List.length_filter_le _ _) ?_
              rw [List.length_take]
              exact Nat.lt_of_le_of_lt (show min i _ ≤ 10000 by omega) (by decide)
            · rw [upd_same, nxt, List.filter_append, List.filter_cons_of_pos ok]
              unfold txs
              rw [List.map_append]; rfl
          · have ok : opB sd z = false := by
              unfold opB
              rw [e, ← ats_nil]
              simpa using e2
            refine ⟨⟨_, _, rfl⟩, S4, ?_⟩
            rw [nxt, List.filter_append, List.filter_cons_of_neg (by rw [ok]; decide), List.filter_nil, List.append_nil]
            exact hF4
        · have ok : opB sd z = false := by
            unfold opB
            have : (!(sayS sd z).isSome) = false := Bool.eq_false_iff.mpr e
            rw [this]; rfl
          refine iteF ⟨⟨_, _, rfl⟩, S3, ?_⟩
          rw [nxt, List.filter_append, List.filter_cons_of_neg (by rw [ok]; decide), List.filter_nil, List.append_nil]
          exact hF3
    · rintro σ H2 ⟨⟨v3, v4, rfl⟩, s2, hF2⟩
      rw [txs_len, List.take_length] at hF2
      exact ⟨_, rfl, q Fd H2 s2 hFd hF2⟩
def shC (sd : List (Str × Str)) (z : Str) : List Nat := (List.range (z.length - 1)).filter fun i => !decide (((sayS sd (ctS z i)).map V.str).getD (.str "on") = .str "on")
theorem dec_str (a b : Str) : decide (V.str a = V.str b) = decide (a = b) := by
  by_cases e : a = b
  · subst e
    rw [decide_eq_true rfl, decide_eq_true rfl]
  · rw [decide_eq_false e, decide_eq_false fun z => e (by injection z)]
theorem lo_sh (sd : List (Str × Str)) (z : Str) : loB sd z = (decide ((sayS sd z).getD "ends" = "ends") && (shC sd z).isEmpty) := by
  unfold loB shC
  congr 3
  funext i
  have : ((sayS sd (ctS z i)).map V.str).getD (.str "on") = .str ((sayS sd (ctS z i)).getD "on") := by cases sayS sd (ctS z i) <;> rfl
  rw [this, dec_str, decide_not]
def spCand : Sp := fun vs H Q _ => ∃ (d l : Addr) (sd : List (Str × Str)) (ts : List Str), vs = [.ref l, .ref d] ∧ H d = some (.dK (dS sd)) ∧ H l = some (.lst (txs ts)) ∧ (∀ z ∈ ts, z.length ≤ 8) ∧ ts.length ≤ 10000 ∧ ∀ L H', Same H H' → H L = none → H' L = some (.lst (txs (ts.filter (loB sd)))) → Q (.ref L) H'
theorem scCd : FnScope ["_law_words_here", "_law_said", "_law_found", "_law_word", "_law_shut"] ["_law_words_here", "_law_said"] (defScope sCand) := ⟨rfl, rfl, rfl, by decide +kernel, rfl, by decide +kernel, by decide +kernel⟩
theorem ok_cand {f : Addr} {fd : FuncData} (F : FunG K "_law_candidates" "_law_candidates" sCand .none f fd) (B : Bl mg) : FnOk P w K mg base (CXE P w) 1 f fd ["_law_words_here", "_law_said"] spCand := by
  refine F.zokN scCd (fun vs H Q E h => ?_) (fun cdv A outer s H vs Q E hr h => ?_)
  · obtain ⟨d, l, sd, ts, rfl, _⟩ := h
    rfl
  · obtain ⟨d, l, sd, ts, rfl, hd, hl, z8, tl, q⟩ := h
    have hu := Nat.lt_of_succ_lt hr.units1
    refine ⟨_, (zpss_cons (zps_set (i := 2) scCd.nd rfl (Or.inl rfl) (zpe_lst zpa_nil))
      (zpss_cons (zps_for PassesOwn.never rfl (zpi_list (zpv 0)) (zpg_name (i := 3) scCd.nd rfl (Or.inr rfl))
          (zpss_cons (zps_compL (i := 4) ["_law_words_here", "_law_said", "_law_found", "_law_word", "_law_shut"] ["_law_at"] [1, 3] (defScope sCand) rfl rfl rfl ⟨by decide +kernel, by decide +kernel, by decide +kernel, by decide +kernel, by decide +kernel⟩ scCd.nd rfl (Or.inl rfl) (zpi_range2 (by rfl) B.range (zpac_c zpe_int (zpac_f (zpe_callB call_len_str (by rfl) B.len PySem.boot_len (zpac_n (zpv 3) zpa_nil)) zpa_nil))) (fun s H fp => (zpg_name (i := 0) (show List.Nodup [("_law_at" : Str), "_law_said", "_law_word"] by decide +kernel) rfl (Or.inl rfl))) (fun s H fp => (zpts_one (zpt_cmpR op_ne (zpe_dget2 hr.units1 (zpv 1) (zpe_slice sl_str (zpv 2) zpo_none (zpo_some (zpv 0))) zpe_str) zpe_str (nomark _)))) (fun s H fp => (zpv 0)))
      (zpss_one (zps_if (SPW.pt (zpw_and (zpt_cmpR op_eq (zpe_dget2 hr.units1 (zpv 1) (zpv 3) zpe_str) zpe_str (nomark _)) (zpw_and1 (zpt_cmpR (op_eqL hu) (zpv 4) (zpe_lst zpa_nil) (nomark _))))) (zpss_one (zps_expr (zpe_bm PySem.F.plainAttrs_list PySem.F.slot_list_append PySem.F.type_list_append mt_append (zpv 2) (zpac_n (zpv 3) zpa_nil)))) zpss_nil))))
      (zpss_one (zps_ret (zpv 2))))), ?_⟩
    refine ⟨by show 0 ≤ sizeLine; decide, fun Fd hFd => ?_⟩
    have s1 := same_upd (o := .lst []) hFd
    refine ⟨_, rfl, l, rfl, ⟨_, SqL.of (s1 _ _ hl)⟩, for_list (K := K) (a := l) (xs := txs ts) (fun i σ H2 => (∃ v3 v4, σ = [some (.ref l), some (.ref d), some (.ref Fd), v3, v4]) ∧ Same H H2 ∧ H2 Fd = some (.lst (txs ((ts.take i).filter (loB sd))))) ⟨⟨_, _, rfl⟩, s1, upd_same⟩ ?_ ?_ ?_⟩
    · rintro i σ H2 _ ⟨_, s2, _⟩
      exact SqL.of (s2 _ _ hl)
    · rintro i x σ H2 hx ⟨⟨v3, v4, rfl⟩, s2, hF2⟩
      obtain ⟨z, hz, rfl⟩ := txs_at hx
      have lz := z8 z (List.mem_of_getElem? hz)
      have il := (List.getElem?_eq_some_iff.mp hz).1
      have nxt : ts.take (i + 1) = ts.take i ++ [z] := by rw [List.take_add_one, hz]; rfl
      refine ⟨_, rfl, z, rfl, Nat.le_trans lz (by decide), 1, (z.length : Int), rfl, ⟨by omega, by omega, by omega, by omega⟩, fun m hm => ?_⟩
      have cnt : ((z.length : Int) - 1).toNat = z.length - 1 := by omega
      rw [cnt]
      have sm := same_upd (o := .lst []) hm
      refine lr_range (Pv := fun j σ H3 => (∃ v, σ = [v, some (.ref d), some (.str z)]) ∧ Same H2 H3 ∧ H3 m = some (.lst (atsV ((List.range j).filter fun i => !decide (((sayS sd (ctS z i)).map V.str).getD (.str "on") = .str "on"))))) ⟨⟨_, rfl⟩, sm, upd_same⟩ ?_ ?_
      · rintro j σ H3 C hj ⟨⟨v, rfl⟩, s3, hm3⟩ nx
        dsimp only [gName]
        have hd3 := s3 _ _ (s2 _ _ hd)
        have nxj : List.range (j + 1) = List.range j ++ [j] := List.range_succ
        refine ⟨_, rfl, d, rfl, .inl ⟨_, .inl hd3⟩, _, rfl, _, rfl, _, rfl, z, rfl, Nat.le_trans lz (by decide), _, dS_dg hd3 (ctS z j), ?_⟩
        refine ⟨?_, _, rfl, ite2 (fun e => ?_) (fun e => ?_)⟩
        · cases sayS sd (ctS z j) <;> rfl
        · refine ⟨_, rfl, _, hm3, ?_, nx _ _ ⟨⟨_, rfl⟩, fun b o h => by rw [upd_ne (ne_of_none h hm)]; exact s3 _ _ h, ?_⟩⟩
          · unfold atsV
            rw [List.length_map]
            refine Nat.lt_of_le_of_lt (List.length_filter_le _ _) ?_
            rw [List.length_range]
            exact Nat.lt_of_lt_of_le (show j < 10 by omega) (by decide)
          · rw [upd_same, nxj, List.filter_append, List.filter_cons_of_pos (a := j) e]
            unfold atsV
            rw [List.map_append]; rfl
        · refine nx _ _ ⟨⟨_, rfl⟩, s3, ?_⟩
          rw [nxj, List.filter_append, List.filter_cons_of_neg (a := j) e, List.filter_nil, List.append_nil]
          exact hm3
      · rintro σ H3 ⟨⟨v, rfl⟩, s3, hm3⟩
        have hm3' : H3 m = some (.lst (atsV (shC sd z))) := hm3
        have hF3 := s3 _ _ hF2
        have S3 := s2.trans s3
        refine ⟨_, rfl, d, rfl, .inl ⟨_, .inl (S3 _ _ hd)⟩, _, rfl, _, dS_dg (S3 _ _ hd) z, ?_⟩
        have es : ((sayS sd z).map V.str).getD (.str "ends") = .str ((sayS sd z).getD "ends") := by cases sayS sd z <;> rfl
        rw [es]
        refine ⟨rfl, _, rfl, ?_⟩
        rw [dec_str]
        refine ite2 (fun e => ?_) (fun e => ?_)
        · refine ⟨_, rfl, by show 0 ≤ sizeLine; decide, fun n hn => ?_⟩
          have s4 := same_upd (o := .lst []) hn
          refine ⟨m, n, _, _, rfl, rfl, SqL.of (s4 _ _ hm3'), SqL.of upd_same, ats_flat _, rfl, _, rfl, ?_⟩
          have hF4 := s4 _ _ hF3
          have S4 := S3.trans s4
          have e1 : (if false = true then !eqVs (atsV (shC sd z)) [] else eqVs (atsV (shC sd z)) []) = (shC sd z).isEmpty := ats_nil _
          refine ite2 (fun e2 => ?_) (fun e2 => ?_)
          · have ok : loB sd z = true := by
              rw [lo_sh, e, ← ats_nil]
              simpa using e2
            refine ⟨_, rfl, .inl ⟨rfl, _, SqL.of hF4⟩, _, rfl, Fd, _, _, rfl, rfl, hF4, ?_, ⟨_, _, rfl⟩, fun b o h => by rw [upd_ne (ne_of_none h hFd)]; exact S4 _ _ h, ?_⟩
            · rw [txs_len]
              refine Nat.lt_of_le_of_lt (List.length_filter_le _ _) ?_
              rw [List.length_take]
              exact Nat.lt_of_le_of_lt (show min i _ ≤ 10000 by omega) (by decide)
            · rw [upd_same, nxt, List.filter_append, List.filter_cons_of_pos ok]
              unfold txs
              rw [List.map_append]; rfl
          · have ok : loB sd z = false := by
              rw [lo_sh, e, ← ats_nil]
              simpa using e2
            refine ⟨⟨_, _, rfl⟩, S4, ?_⟩
            rw [nxt, List.filter_append, List.filter_cons_of_neg (by rw [ok]; decide), List.filter_nil, List.append_nil]
            exact hF4
        · have ok : loB sd z = false := by
            rw [lo_sh, Bool.eq_false_iff.mpr e]; rfl
          refine iteF ⟨⟨_, _, rfl⟩, S3, ?_⟩
          rw [nxt, List.filter_append, List.filter_cons_of_neg (by rw [ok]; decide), List.filter_nil, List.append_nil]
          exact hF3
    · rintro σ H2 ⟨⟨v3, v4, rfl⟩, s2, hF2⟩
      rw [txs_len, List.take_length] at hF2
      exact ⟨_, rfl, q Fd H2 s2 hFd hF2⟩
end
end G1
namespace G1
open PySem L2 GM
section
variable {P : Program} {w : World} {K : PySem.W.Frag} {mg : Str → Option Value} {base : Heap}
def spPart : Sp := fun vs H Q _ => ∃ (p l : Addr) (ts : List Str) (n : Nat), vs = [.ref p, .ref l, .int n] ∧ Src H p ∧ H l = some (.lst (txs ts)) ∧ (∀ z ∈ ts, z.length ≤ 8) ∧ ts.length ≤ 10000 ∧ n ≤ 9 ∧
  ∀ L sd H', Ext p H H' → Src H' p → PartL H' L sd → (sd.map (·.1)).Nodup → sd.length ≤ 9 → Q (.ref L) H'
theorem scPt : FnScope ["_law_source_here", "_law_texts_here", "_law_many", "_law_said", "_law_k", "_law_some"] ["_law_source_here", "_law_texts_here", "_law_many"] (defScope sPart) := ⟨rfl, rfl, rfl, by decide +kernel, rfl, by decide +kernel, by decide +kernel⟩
theorem ok_part {f fO fD : Addr} {fd fdO fdD : FuncData} (F : FunG K "_law_part" "_law_part" sPart .none f fd) (B : Bl mg)
    (GO : FnOk P w K mg base (CXE P w) 1 fO fdO ["_law_said", "_law_texts_here"] spOpen) (mO : mg "_law_open" = some (.ref fO)) (kO : PySem.W.keepIn K (.ref fO) = true) (bO : Binds K fdO ["_law_said", "_law_texts_here"] [])
    (GD : FnOk P w K mg base (CXE P w) 1 fD fdD ["_law_source_here", "_law_many"] spDraw) (mD : mg "_law_draw" = some (.ref fD)) (kD : PySem.W.keepIn K (.ref fD) = true) (bD : Binds K fdD ["_law_source_here", "_law_many"] []) : FnOk P w K mg base (CXE P w) 2 f fd ["_law_source_here", "_law_texts_here", "_law_many"] spPart := by
  refine F.zokN scPt (fun vs H Q E h => ?_) (fun cdv A outer s H vs Q E hr h => ?_)
  · obtain ⟨p, l, ts, n, rfl, _⟩ := h
    rfl
  · obtain ⟨p, l, ts, n, rfl, sr, hl, z8, tl, n9, q⟩ := h
    have hu := Nat.lt_of_succ_lt hr.units1
    refine ⟨_, (zpss_cons (zps_set (i := 3) scPt.nd rfl (Or.inl rfl) zpe_dict0)
      (zpss_cons (zps_for PassesOwn.never rfl (zpi_range1 (by rfl) B.range (zpac_n (zpv 2) zpa_nil)) (zpg_name (i := 4) scPt.nd rfl (Or.inl rfl))
          (zpss_cons (zps_set (i := 5) scPt.nd rfl (Or.inl rfl) (zpe_call GO hr (by rfl) mO kO bO .nil passE0 (zpac_n (zpv 3) (zpac_n (zpv 1) zpa_nil))))
      (zpss_one (zps_if (zpt_cmpR (op_neV hu) (zpv 5) (zpe_lst zpa_nil) (nomark _)) (zpss_one (zps_dput hr.units1 (zpv 3) (zpe_ix ix_list (zpv 5) (zpe_call GD hr (by rfl) mD kD bD .nil passE0 (zpac_n (zpv 0) (zpac_f (zpe_callB call_len_seq (by rfl) B.len PySem.boot_len (zpac_n (zpv 5) zpa_nil)) zpa_nil))) (fun _ _ => rfl)) (zpe_ix ix_list (zpe_lst (zpac_c zpe_str (zpac_c zpe_str (zpac_c zpe_str (zpac_c zpe_str zpa_nil))))) (zpe_call GD hr (by rfl) mD kD bD .nil passE0 (zpac_n (zpv 0) (zpac_c zpe_int zpa_nil))) (fun _ _ => rfl)))) zpss_nil))))
      (zpss_one (zps_ret (zpe_litems rfl (by rfl) B.list (zpv 3)))))), ?_⟩
    intro D hD
    have sD := same_upd (o := .dK []) hD
    have neD : D ≠ p := sr.ne hD
    have lp : l ≠ p := fun z => by
      obtain ⟨n', d, e, _⟩ := sr.ex
      rw [z, e] at hl
      injection hl with hl
      injection hl with hl
      cases ts with
      | nil => cases hl
      | cons a as =>
        have : V.int n' = V.str a := (List.cons.inj hl).1
        cases this
    refine ⟨_, rfl, n, rfl, by omega, by omega, ?_⟩
    refine for_range (lo := 0) (n := ((n : Nat) : Int).toNat) (fun k σ H2 => ∃ v4 v5 sd, σ = [some (.ref p), some (.ref l), some (.int n), some (.ref D), v4, v5] ∧ Src H2 p ∧ Ext p H H2 ∧ H2 D = some (.dK (dS sd)) ∧ (sd.map (·.1)).Nodup ∧ sd.length ≤ k)
      ⟨_, _, [], rfl, sr.new hD, Ext.new hD, upd_same, List.nodup_nil, Nat.le_refl _⟩ ?_ ?_
    · rintro k σ H2 hk ⟨v4, v5, sd, rfl, sr2, x2, hD2, nd, sl⟩
      have hl2 := x2 _ _ lp hl
      refine ⟨_, rfl, _, rfl, D, l, sd, ts, rfl, hD2, hl2, z8, tl, fun L H3 s3 fL hL3 => ?_⟩
      have sr3 := sr2.same s3
      have x3 : Ext p H H3 := x2.trans (Ext.same s3)
      have hD3 := s3 _ _ hD2
      have LD : D ≠ L := ne_of_none hD2 fL
      have Lp : L ≠ p := sr2.ne fL
      refine ⟨_, rfl, by show 0 ≤ sizeLine; decide, fun e0 he0 => ?_⟩
      have s4 := same_upd (o := .lst []) he0
      have hL4 := s4 _ _ hL3
      have hD4 := s4 _ _ hD3
      have sr4 := sr3.same s4
      have x4 : Ext p H (upd H3 e0 (.lst [])) := x3.trans (Ext.same s4)
      have he4 : (upd H3 e0 (.lst [])) e0 = some (.lst []) := upd_same
      generalize upd H3 e0 (.lst []) = H4 at s4 hL4 hD4 sr4 x4 he4 ⊢
      refine ⟨L, e0, _, _, rfl, rfl, SqL.of hL4, SqL.of he4, txs_flat _, rfl, _, rfl, ?_⟩
      refine ite2 (fun e => ?_) (fun e => ?_)
      · have ne : 0 < (ts.filter (opB sd)).length := by
          rcases Nat.eq_zero_or_pos (ts.filter (opB sd)).length with z | z
          · rw [List.length_eq_zero_iff.mp z] at e
            cases e
          · exact z
        have le : (ts.filter (opB sd)).length ≤ 10000 := Nat.le_trans (List.length_filter_le _ _) tl
        refine ⟨by show 4 ≤ sizeLine; decide, fun w4 hw4 => ?_⟩
        have s5 := same_upd (o := .lst [V.str "ends", .str "on", .str "on", .str "unused"]) hw4
        have wp : w4 ≠ p := sr4.ne hw4
        have hw5 : (upd H4 w4 (.lst [V.str "ends", .str "on", .str "on", .str "unused"])) w4 = some (.lst [V.str "ends", .str "on", .str "on", .str "unused"]) := upd_same
        have hL5 := s5 _ _ hL4
        have hD5 := s5 _ _ hD4
        have sr5 := sr4.same s5
        have x5 : Ext p H (upd H4 w4 (.lst [V.str "ends", .str "on", .str "on", .str "unused"])) := x4.trans (Ext.same s5)
        generalize upd H4 w4 (.lst [V.str "ends", .str "on", .str "on", .str "unused"]) = H5 at s5 hw5 hL5 hD5 sr5 x5 ⊢
        refine ⟨_, rfl, p, 4, rfl, sr5, by decide, sm2001 4 (by decide), fun d H6 d0 d1 sr6 y6 => ?_⟩
        have hw6 := (y6 w4 wp).trans hw5
        have hL6 := (y6 L Lp).trans hL5
        have hD6 := (y6 D neD).trans hD5
        have x6 := x5.trans (.of_eq y6)
        obtain ⟨b, hb⟩ : ∃ b : Str, atI [V.str "ends", .str "on", .str "on", .str "unused"] d = some (.str b) := by
          have four : d = 0 ∨ d = 1 ∨ d = 2 ∨ d = 3 := by omega
          rcases four with rfl | rfl | rfl | rfl
          · exact ⟨_, rfl⟩
          · exact ⟨_, rfl⟩
          · exact ⟨_, rfl⟩
          · exact ⟨_, rfl⟩
        refine ⟨w4, _, _, _, rfl, rfl, SqL.of hw6, hb, ?_⟩
        refine ⟨_, rfl, _, rfl, _, rfl, _, rfl, L, _, rfl, .inl (SqL.of hL6), p, ((txs (ts.filter (opB sd))).length : Nat), rfl, sr6, by rw [txs_len]; omega, by rw [txs_len]; exact Nat.lt_of_le_of_lt (show _ ≤ 10000 by omega) (by decide +kernel), fun g H7 g0 g1 sr7 y7 => ?_⟩
        have hL7 := (y7 L Lp).trans hL6
        have hD7 := (y7 D neD).trans hD6
        have x7 := x6.trans (.of_eq y7)
        rw [txs_len] at g1
        obtain ⟨a, ha, hat⟩ := at_ofS (es := ts.filter (opB sd)) (d := g) g0 g1
        have hna : a ∉ sd.map (·.1) := by
          have := (List.mem_filter.mp ha).2
          unfold opB at this
          have h1 : (sayS sd a).isSome = false := by
            cases c : (sayS sd a).isSome with
            | false => rfl
            | true => rw [c] at this; cases this
          exact sayS_not (by
            cases c : sayS sd a with
            | none => rfl
            | some _ => rw [c] at h1; cases h1)
        refine ⟨L, _, _, _, rfl, rfl, SqL.of hL7, hat, D, _, rfl, DPut.k (k := (Sum.inr a : Key)) hD7 ?_, ?_⟩
        · rw [dS_len]
          exact Nat.lt_of_le_of_lt (show sd.length ≤ 9 by omega) (by decide)
        refine ⟨_, _, sd ++ [(a, b)], rfl, ?_, ?_, ?_, ?_, ?_⟩
        · obtain ⟨n', d', e', r⟩ := sr7.ex
          exact ⟨n', d', by rw [upd_ne neD.symm]; exact e', r⟩
        · exact fun u o nu h => by rw [upd_ne (ne_of_none h hD)]; exact x7 u o nu h
        · rw [upd_same, dS_put hna]
        · rw [List.map_append]
          exact List.nodup_append.mpr ⟨nd, List.nodup_cons.mpr ⟨List.not_mem_nil, List.nodup_nil⟩, fun u hu v hv => by
            have : v = a := by simpa using hv
            subst this
            exact fun z => hna (z ▸ hu)⟩
        · rw [List.length_append]
          show sd.length + 1 ≤ k + 1
          omega
      · exact ⟨_, _, sd, rfl, sr4, x4, hD4, nd, by omega⟩
    · rintro σ H2 ⟨v4, v5, sd, rfl, sr2, x2, hD2, nd, sl⟩
      refine ⟨_, rfl, D, _, rfl, hD2, fun L us H3 fL s3 hL3 ul tups => ?_⟩
      refine q L sd H3 (x2.trans fun b o _ h => s3 b o h) (sr2.same s3) ⟨us, hL3, by rw [ul, dS_len], fun j t a e1 e2 => ?_⟩ nd (by omega)
      exact (tups j t (Sum.inr a.1) (.str a.2) e1 (by unfold dS; rw [List.getElem?_map, e2]; rfl)).1
end
end G1
namespace G1
open PySem L2 GM
section
variable {P : Program} {w : World} {K : PySem.W.Frag} {mg : Str → Option Value} {base : Heap}
def spTongue : Sp := fun vs H Q _ => ∃ p : Addr, vs = [.ref p, .int 4, .int 40] ∧ Src H p ∧ ∀ t cs fs ps lg H', Tg H' t cs fs ps lg → cs.length ≤ 4 → lg ≤ 5 → (allT cs (cmT fs ps) lg.toNat).length ≤ 40 → Ext p H H' → Q (.ref t) H'
theorem scTg : FnScope ["_law_source_here", "_law_most_signs", "_law_most_texts", "_law_letters", "_law_first", "_law_names", "_law_signs", "_law_name", "_law_price_here", "_law_last", "_law_firsts", "_law_pairs", "_law_longest"] ["_law_source_here", "_law_most_signs", "_law_most_texts"] (defScope sTongue) := ⟨rfl, rfl, rfl, by decide +kernel, rfl, by decide +kernel, by decide +kernel⟩
theorem ok_tongue {f fD fP fT : Addr} {fd fdD fdP fdT : FuncData} (F : FunG K "_law_tongue" "_law_tongue" sTongue .none f fd) (B : Bl mg)
    (GD : FnOk P w K mg base (CXE P w) 1 fD fdD ["_law_source_here", "_law_many"] spDraw) (mD : mg "_law_draw" = some (.ref fD)) (kD : PySem.W.keepIn K (.ref fD) = true) (bD : Binds K fdD ["_law_source_here", "_law_many"] [])
    (GP : FnOk P w K mg base (CXE P w) 2 fP fdP ["_law_source_here"] spPrice) (mP : mg "_law_price" = some (.ref fP)) (kP : PySem.W.keepIn K (.ref fP) = true) (bP : Binds K fdP ["_law_source_here"] [])
    (GT : FnOk P w K mg base (CXE P w) 2 fT fdT ["_law_tongue_here"] spTexts) (mT : mg "_law_texts" = some (.ref fT)) (kT : PySem.W.keepIn K (.ref fT) = true) (bT : Binds K fdT ["_law_tongue_here"] []) : FnOk P w K mg base (CXE P w) 3 f fd ["_law_source_here", "_law_most_signs", "_law_most_texts"] spTongue := by
  refine F.zokN scTg (fun vs H Q E h => ?_) (fun cdv A outer s H vs Q E hr h => ?_)
  · obtain ⟨p, rfl, _⟩ := h
    rfl
  · obtain ⟨p, rfl, sr, q⟩ := h
    refine ⟨_, (zpss_cons (zps_set (i := 3) scTg.nd rfl (Or.inr rfl) zpe_str)
      (zpss_cons (zps_set (i := 4) scTg.nd rfl (Or.inr rfl) (zpe_call GD (hr.mono (by decide)) (by rfl) mD kD bD .nil passE0 (zpac_n (zpv 0) (zpac_c zpe_int zpa_nil))))
      (zpss_cons (zps_compL (i := 5) ["_law_source_here", "_law_most_signs", "_law_most_texts", "_law_letters", "_law_first", "_law_names", "_law_signs", "_law_name", "_law_price_here", "_law_last", "_law_firsts", "_law_pairs", "_law_longest"] ["_law_k"] [3, 4] (defScope sTongue) rfl rfl rfl ⟨by decide +kernel, by decide +kernel, by decide +kernel, by decide +kernel, by decide +kernel⟩ scTg.nd rfl (Or.inl rfl) (zpi_range1 (by rfl) B.range (zpac_b (zpe_op op_add zpe_int (zpe_call GD (hr.mono (by decide)) (by rfl) mD kD bD .nil passE0 (zpac_n (zpv 0) (zpac_b (zpe_op op_sub (zpv 1) zpe_int) zpa_nil)))) zpa_nil)) (fun s H fp => (zpg_name (i := 0) (show List.Nodup [("_law_k" : Str), "_law_letters", "_law_first"] by decide +kernel) rfl (Or.inl rfl))) (fun s H fp => zpts_nil) (fun s H fp => (zpe_ix ix_str (zpv 1) (zpe_op op_mod (zpe_op op_add (zpv 2) (zpe_op op_mul zpe_int (zpv 0))) zpe_int) (fun _ _ => rfl))))
      (zpss_cons (zps_set (i := 6) scTg.nd rfl (Or.inl rfl) (zpe_lst zpa_nil))
      (zpss_cons (zps_for PassesOwn.never rfl (zpi_list (zpv 5)) (zpg_name (i := 7) scTg.nd rfl (Or.inr rfl))
          (zpss_cons (zps_set (i := 8) scTg.nd rfl (Or.inl rfl) (zpe_call GP hr (by rfl) mP kP bP .nil passE0 (zpac_n (zpv 0) zpa_nil)))
      (zpss_cons (zps_set (i := 9) scTg.nd rfl (Or.inl rfl) (zpe_call GP hr (by rfl) mP kP bP .nil passE0 (zpac_n (zpv 0) zpa_nil)))
      (zpss_one (zps_expr (zpe_bm PySem.F.plainAttrs_list PySem.F.slot_list_append PySem.F.type_list_append mt_append (zpv 6) (zpac_t (zpe_tup (zpac_n (zpv 7) (zpac_n (zpv 8) (zpac_s (zpe_ix ix_list (zpe_lst (zpac_c zpe_non (zpac_n (zpv 8) (zpac_n (zpv 8) (zpac_n (zpv 9) (zpac_t (zpe_tup (zpac_c zpe_int (zpac_c zpe_int zpa_nil))) (zpac_n (zpv 9) zpa_nil))))))) (zpe_call GD (hr.mono (by decide)) (by rfl) mD kD bD .nil passE0 (zpac_n (zpv 0) (zpac_c zpe_int zpa_nil))) (fun _ _ => rfl)) zpa_nil)))) zpa_nil)))))))
      (zpss_cons (zps_compL (i := 10) ["_law_source_here", "_law_most_signs", "_law_most_texts", "_law_letters", "_law_first", "_law_names", "_law_signs", "_law_name", "_law_price_here", "_law_last", "_law_firsts", "_law_pairs", "_law_longest"] ["_law_name"] [0] (defScope sTongue) rfl rfl rfl ⟨by decide +kernel, by decide +kernel, by decide +kernel, by decide +kernel, by decide +kernel⟩ scTg.nd rfl (Or.inl rfl) (zpi_list (zpv 5)) (fun s H fp => (zpg_name (i := 0) (show List.Nodup [("_law_name" : Str), "_law_source_here"] by decide +kernel) rfl (Or.inl rfl))) (fun s H fp => (zpts_one (zpt_cmpR op_eq (zpe_call GD (hr.mono (by decide)) (by rfl) mD kD bD .nil passE0 (zpac_n (zpv 1) (zpac_c zpe_int zpa_nil))) zpe_int (nomark _)))) (fun s H fp => (zpv 0)))
      (zpss_cons (zps_set (i := 11) scTg.nd rfl (Or.inl rfl) (zpe_lst zpa_nil))
      (zpss_cons (zps_for PassesOwn.never rfl (zpi_list (zpv 5)) (zpg_name (i := 7) scTg.nd rfl (Or.inr rfl))
          (zpss_one (zps_set (i := 11) scTg.nd rfl (Or.inl rfl) (zpe_op op_cat (zpv 11) (zpe_compL ["_law_source_here", "_law_most_signs", "_law_most_texts", "_law_letters", "_law_first", "_law_names", "_law_signs", "_law_name", "_law_price_here", "_law_last", "_law_firsts", "_law_pairs", "_law_longest"] ["_law_other"] [0, 7] (defScope sTongue) rfl rfl rfl ⟨by decide +kernel, by decide +kernel, by decide +kernel, by decide +kernel, by decide +kernel⟩ (zpi_list (zpv 5)) (fun s H fp => (zpg_name (i := 0) (show List.Nodup [("_law_other" : Str), "_law_source_here", "_law_name"] by decide +kernel) rfl (Or.inl rfl))) (fun s H fp => (zpts_one (zpt_cmpR op_eq (zpe_call GD (hr.mono (by decide)) (by rfl) mD kD bD .nil passE0 (zpac_n (zpv 1) (zpac_c zpe_int zpa_nil))) zpe_int (nomark _)))) (fun s H fp => (zpe_op op_add_str (zpv 2) (zpv 0))))))))
      (zpss_cons (zps_set (i := 12) scTg.nd rfl (Or.inl rfl) (zpe_op op_add zpe_int (zpe_call GD (hr.mono (by decide)) (by rfl) mD kD bD .nil passE0 (zpac_n (zpv 0) (zpac_c zpe_int zpa_nil)))))
      (zpss_cons (zps_cut (zps_while PassesOwn.never (SPW.pt (zpw_and (zpt_cmpR op_gt (zpv 12) zpe_int (nomark _)) (zpw_and1 (zpt_cmpR op_gt (zpe_callB call_len_seq (by rfl) B.len PySem.boot_len (zpac_f (zpe_call GT hr (by rfl) mT kT bT .nil passE0 (zpac_t (zpe_tup (zpac_n (zpv 6) (zpac_n (zpv 10) (zpac_n (zpv 11) (zpac_n (zpv 12) zpa_nil))))) zpa_nil)) zpa_nil)) (zpv 2) (nomark _))))) (zpss_one (zps_set (i := 12) scTg.nd rfl (Or.inl rfl) (zpe_op op_sub (zpv 12) zpe_int)))))
      (zpss_one (zps_ret (zpe_tup (zpac_n (zpv 6) (zpac_n (zpv 10) (zpac_n (zpv 11) (zpac_n (zpv 12) zpa_nil))))))))))))))))), ?_⟩
    refine ⟨_, rfl, p, 26, rfl, sr, by decide, sm2001 26 (by decide), fun st H1 st0 st1 sr1 x1 => ?_⟩
    refine ⟨_, rfl, _, rfl, _, _, rfl, rfl, p, 3, rfl, sr1, by decide, sm2001 3 (by decide), fun d H2 d0 d1 sr2 x2 => ⟨_, _, rfl, rfl, ?_⟩⟩
    have E2 : Ext p H H2 := (Ext.of_eq x1).trans (.of_eq x2)
    refine ⟨2 + d, rfl, by omega, by omega, fun nl hnl => ?_⟩
    obtain ⟨n, hn⟩ : ∃ n : Nat, (2 + d : Int) = n := ⟨(2 + d).toNat, by omega⟩
    have n24 : 2 ≤ n ∧ n ≤ 4 := by omega
    have cnt : (2 + d : Int).toNat = n := by omega
    have nlp : nl ≠ p := sr2.ne hnl
    have s3 := same_upd (o := .lst []) hnl
    refine lr_range (Pv := fun k σ H3 => (∃ v, σ = [v, some (.str letters), some (.int st)]) ∧ Same H2 H3 ∧ H3 nl = some (.lst (txs (sgs (cods st 7 k))))) ⟨⟨_, rfl⟩, s3, upd_same⟩ ?_ ?_
    · rintro k σ H3 C hk ⟨⟨v, rfl⟩, s3, hn3⟩ nx
      have hk' : k < n := by omega
      dsimp only [gName]
      rw [if_pos rfl]
      have m0 : 0 ≤ (st + 7 * (0 + (k : Int))) % 26 := Int.emod_nonneg _ (by decide)
      have m1 : (st + 7 * (0 + (k : Int))) % 26 < 26 := Int.emod_lt_of_pos _ (by decide)
      have cc : cod st 7 k = 97 + ((st + 7 * (0 + (k : Int))) % 26).toNat := by unfold cod; rw [Int.zero_add]
      have hn' : ((st + 7 * (0 + (k : Int))) % 26).toNat < 26 := by omega
      have hat : atI letters.cps.toList ((st + 7 * (0 + (k : Int))) % 26) = some (cod st 7 k) := by
        have : (st + 7 * (0 + (k : Int))) % 26 = (((st + 7 * (0 + (k : Int))) % 26).toNat : Int) := by omega
        rw [this, cc]
        exact atI_nat (letters_at _ hn')
      refine ⟨_, rfl, _, rfl, _, rfl, _, _, rfl, rfl, .inl ⟨by omega, by omega⟩, _, _, rfl, rfl, _, _, rfl, rfl, (by show (0 : Int) < 26; decide), ?_⟩
      refine ⟨letters, _, cod st 7 k, rfl, rfl, by decide +kernel, hat, ?_⟩
      refine ⟨_, hn3, ?_, nx _ _ ⟨⟨_, rfl⟩, fun b o h => by rw [upd_ne (ne_of_none h hnl)]; exact s3 _ _ h, ?_⟩⟩
      · rw [txs_len, sgs_len, cods_len]
        exact Nat.lt_of_lt_of_le (show k < 10 by omega) (by decide)
      · rw [upd_same, cods_succ]
        unfold txs sgs
        rw [List.map_append, List.map_append]; rfl
    rintro σ H3 ⟨⟨v, rfl⟩, s3, hn3⟩
    rw [cnt] at hn3
    have nd : (cods st 7 n).Nodup := cods_nd (by simp) (by omega)
    have clen : (cods st 7 n).length = n := cods_len _ _ _
    have sr3 := sr2.same s3
    have E3 : Ext p H H3 := E2.trans (Ext.same s3)
    refine ⟨by show 0 ≤ sizeLine; decide, fun L hL => ?_⟩
    have Lp : L ≠ p := sr3.ne hL
    have LH : H L = none := by
      cases e : H L with
      | none => rfl
      | some o =>
        have := E3 L o Lp e
        rw [hL] at this; cases this
    have nlL : nl ≠ L := ne_of_none hn3 hL
    refine ⟨_, rfl, nl, rfl, ⟨_, SqL.of ((same_upd (o := .lst []) hL) _ _ hn3)⟩, for_list (K := K) (a := nl) (xs := txs (sgs (cods st 7 n)))
      (fun k σ H4 => ∃ v7 v8 v9 xs, σ = [some (.ref p), some (.int 4), some (.int 40), some (.str letters), some (.int st), some (.ref nl), some (.ref L), v7, v8, v9, none, none, none] ∧ H4 L = some (.lst xs) ∧ Rows H4 xs (cods st 7 k) ∧ Src H4 p ∧ Ext p H H4 ∧ H4 nl = some (.lst (txs (sgs (cods st 7 n)))))
      ⟨_, _, _, [], rfl, upd_same, ⟨rfl, fun i x c e => by simp at e⟩, sr3.new hL, E3.trans (Ext.new hL), (same_upd (o := .lst []) hL) _ _ hn3⟩ ?_ ?_ ?_⟩
    · rintro k σ H4 _ ⟨_, _, _, _, _, _, _, _, _, h⟩
      exact SqL.of h
    · rintro k x σ H4 hx ⟨v7, v8, v9, xs, rfl, hL4, rows4, sr4, E4, hn4⟩
      obtain ⟨z, hz, rfl⟩ := txs_at hx
      have kl : k < n := by
        have := (List.getElem?_eq_some_iff.mp hz).1
        rw [sgs_len, clen] at this; exact this
      have ez : z = sg1 (cod st 7 k) := by
        unfold sgs cods at hz
        rw [List.getElem?_map, List.getElem?_map, List.getElem?_range kl] at hz
        exact (Option.some.inj hz).symm
      subst ez
      have lx : xs.length = k := by rw [rows4.len, cods_len]
      refine ⟨_, rfl, p, rfl, sr4, fun x H5 px sr5 X5 => ?_⟩
      refine ⟨_, rfl, p, rfl, sr5, fun y H6 py sr6 X6 => ?_⟩
      have px6 := px.src sr5 X6
      have hL6 := X6 _ _ Lp (X5 _ _ Lp hL4)
      have hn6 := X6 _ _ nlp (X5 _ _ nlp hn4)
      have rows6 := (rows4.src sr4 X5).src sr5 X6
      have E6 := (E4.trans X5).trans X6
      refine ⟨_, rfl, .inl ⟨rfl, _, SqL.of hL6⟩, _, rfl, _, rfl, _, rfl, _, rfl, _, rfl, by show 2 ≤ sizeLine; decide, fun t7 h7 => ?_⟩
      have s7 := same_upd (o := .tup [.int 7, .int 2]) h7
      have p7 : PrA (upd H6 t7 (.tup [.int 7, .int 2])) (.ref t7) := ⟨t7, 7, 2, rfl, upd_same, by decide, by decide, by decide, by decide, by decide⟩
      have px7 := px6.same s7
      have py7 := py.same s7
      have sr7 := sr6.same s7
      have hL7 := s7 _ _ hL6
      have hn7 := s7 _ _ hn6
      have rows7 := rows6.same s7
      have E7 : Ext p H (upd H6 t7 (.tup [.int 7, .int 2])) := E6.trans (Ext.same s7)
      generalize upd H6 t7 (.tup [.int 7, .int 2]) = H7 at s7 p7 px7 py7 sr7 hL7 hn7 rows7 E7 ⊢
      refine ⟨_, rfl, by show 6 ≤ sizeLine; decide, fun l6 h6 => ?_⟩
      have s8 := same_upd (o := .lst [.non, x, x, y, .ref t7, y]) h6
      have p8 := p7.same s8
      have px8 := px7.same s8
      have py8 := py7.same s8
      have sr8 := sr7.same s8
      have hL8 := s8 _ _ hL7
      have hn8 := s8 _ _ hn7
      have rows8 := rows7.same s8
      have E8 : Ext p H (upd H7 l6 (.lst [.non, x, x, y, .ref t7, y])) := E7.trans (Ext.same s8)
      have hl8 : (upd H7 l6 (.lst [.non, x, x, y, .ref t7, y])) l6 = some (.lst [.non, x, x, y, .ref t7, y]) := upd_same
      have l6p : l6 ≠ p := sr7.ne h6
      generalize upd H7 l6 (.lst [.non, x, x, y, .ref t7, y]) = H8 at s8 p8 px8 py8 sr8 hL8 hn8 rows8 E8 hl8 ⊢
      refine ⟨_, rfl, p, 6, rfl, sr8, by decide, sm2001 6 (by decide), fun g H9 g0 g1 sr9 x9 => ?_⟩
      have X9 : Ext p H8 H9 := .of_eq x9
      have p9 := p8.src sr8 X9
      have px9 := px8.src sr8 X9
      have py9 := py8.src sr8 X9
      have hL9 := X9 _ _ Lp hL8
      have hn9 := X9 _ _ nlp hn8
      have rows9 := rows8.src sr8 X9
      have E9 := E8.trans X9
      have hl9 := (x9 l6 l6p).trans hl8
      obtain ⟨la, hla, pl9⟩ : ∃ la, atI [V.non, x, x, y, .ref t7, y] g = some la ∧ (la = .non ∨ PrA H9 la) := by
        have six : g = 0 ∨ g = 1 ∨ g = 2 ∨ g = 3 ∨ g = 4 ∨ g = 5 := by omega
        rcases six with rfl | rfl | rfl | rfl | rfl | rfl
        · exact ⟨_, rfl, .inl rfl⟩
        · exact ⟨_, rfl, .inr px9⟩
        · exact ⟨_, rfl, .inr px9⟩
        · exact ⟨_, rfl, .inr py9⟩
        · exact ⟨_, rfl, .inr p9⟩
        · exact ⟨_, rfl, .inr py9⟩
      refine ⟨l6, _, _, _, rfl, rfl, SqL.of hl9, hla, by show 3 ≤ sizeLine; decide, fun t ht => ?_⟩
      have s10 := same_upd (o := .tup [.str (sg1 (cod st 7 k)), x, la]) ht
      have hL10 := s10 _ _ hL9
      have cc : cod st 7 k = 97 + ((st + 7 * (k : Int)) % 26).toNat := rfl
      have row : Row (upd H9 t (.tup [.str (sg1 (cod st 7 k)), x, la])) (.ref t) (cod st 7 k) :=
        ⟨⟨t, x, la, rfl, upd_same, px9.same s10, pl9.imp id fun z => z.same s10⟩, by rw [cc]; exact letters_occ _ (by omega)⟩
      refine ⟨L, _, _, rfl, rfl, hL10, ?_, ?_⟩
      · rw [lx]
        exact Nat.lt_of_lt_of_le (show k < 6 by omega) (by decide)
      refine ⟨_, _, _, xs ++ [.ref t], rfl, upd_same, ?_, ?_, ?_, ?_⟩
      · rw [cods_succ]
        exact ((rows9.same s10).snoc row).put hL10
      · obtain ⟨n, d, e, r⟩ := (sr9.same s10).ex
        exact ⟨n, d, by rw [upd_ne Lp.symm]; exact e, r⟩
      · intro b o nb hb
        rw [upd_ne (ne_of_none hb LH)]
        exact s10 _ _ (E9 b o nb hb)
      · rw [upd_ne nlL]
        exact s10 _ _ hn9
    rintro σ H5 ⟨v7, v8, v9, xs, rfl, hL5, rows5, sr5, E5, hn5⟩
    rw [txs_len, sgs_len, clen] at rows5
    generalize hcs : cods st 7 n = cs at nd clen rows5 hn5 hn3 ⊢
    have slen : (sgs cs).length = cs.length := sgs_len cs
    have tlen : (txs (sgs cs)).length = cs.length := (txs_len _).trans slen
    have M5 : Md H5 H5 p := ⟨sr5, fun _ _ _ h => h⟩
    refine ⟨_, rfl, nl, rfl, ⟨_, SqL.of hn5⟩, fun fl hfl => ?_⟩
    obtain ⟨f6, ne6⟩ := M5.fresh hfl
    refine lr_list (xs := txs (sgs cs)) (fun i σ2 H6 => (∃ v, σ2 = [v, some (.ref p)]) ∧ (∃ fs : List Str, H6 fl = some (.lst (txs fs)) ∧ fs.Sublist ((sgs cs).take i)) ∧ Md H5 H6 p) ⟨⟨_, rfl⟩, ⟨[], upd_same, List.nil_sublist _⟩, M5.put f6 ne6⟩ (fun i σ2 H6 p => SqL.of (p.2.2.ext _ _ nlp hn5)) ?_ ?_
    · rintro i x σ2 H6 C hx ⟨⟨v, rfl⟩, ⟨fs, hf6, sub6⟩, M6⟩ nx
      obtain ⟨t, ht, rfl⟩ := txs_at hx
      dsimp only [gName]
      refine ⟨_, rfl, p, 6, rfl, M6.src, by decide, sm2001 6 (by decide), fun e H7 e0 e1 sr7 x7 => ⟨rfl, _, rfl, ?_⟩⟩
      have M7 := M6.draw sr7 x7
      have hf7 := (x7 fl ne6).trans hf6
      refine ite2 (fun _ => ?_) (fun _ => nx _ _ ⟨⟨_, rfl⟩, ⟨fs, hf7, sub_skip sub6⟩, M7⟩)
      refine ⟨_, rfl, _, hf7, ?_, nx _ _ ⟨⟨_, rfl⟩, ⟨fs ++ [t], by rw [← txs_snoc]; exact upd_same, sub_snoc sub6 ht⟩, M7.put f6 ne6⟩⟩
      have := sub6.length_le
      rw [txs_len]
      rw [List.length_take] at this
      exact Nat.lt_of_le_of_lt (show fs.length ≤ 6 by omega) (by decide)
    rintro σ2 H6 ⟨⟨v, rfl⟩, ⟨fs, hf6, sub6⟩, M6⟩
    have sub6' : fs.Sublist (sgs cs) := sub6.trans (List.take_sublist _ _)
    clear sub6
    refine ⟨by show 0 ≤ sizeLine; decide, fun pl0 hpl0 => ?_⟩
    obtain ⟨f7, ne7⟩ := M6.fresh hpl0
    have M7 := M6.put (o := .lst []) f7 ne7
    have hf7 : (upd H6 pl0 (.lst [])) fl = some (.lst (txs fs)) := by rw [upd_ne (ne_of_none hf6 hpl0)]; exact hf6
    have hp7 : (upd H6 pl0 (.lst [])) pl0 = some (.lst (txs [])) := upd_same
    generalize upd H6 pl0 (.lst []) = H7 at M7 hf7 hp7 ⊢
    refine ⟨_, rfl, nl, rfl, ⟨_, SqL.of (M7.ext _ _ nlp hn5)⟩, for_list (K := K) (a := nl) (xs := txs (sgs cs))
      (fun i σ H8 => ∃ v7 v8 v9 pl ps, σ = [some (.ref p), some (.int 4), some (.int 40), some (.str letters), some (.int st), some (.ref nl), some (.ref L), v7, v8, v9, some (.ref fl), some (.ref pl), none] ∧
        H8 pl = some (.lst (txs ps)) ∧ pl ≠ p ∧ ps.Sublist (((sgs cs).take i).flatMap fun a => (sgs cs).map fun b => a ++ b) ∧ H8 fl = some (.lst (txs fs)) ∧ Md H5 H8 p)
      ⟨_, _, _, pl0, [], rfl, hp7, ne7, List.nil_sublist _, hf7, M7⟩ ?_ ?_ ?_⟩
    · rintro i σ H8 _ ⟨_, _, _, _, _, _, _, _, _, _, M8⟩
      exact SqL.of (M8.ext _ _ nlp hn5)
    · rintro i x σ H8 hx ⟨v7, v8, v9, pl, ps, rfl, hp8, np8, sub8, hf8, M8⟩
      obtain ⟨t, ht, rfl⟩ := txs_at hx
      have il : i < cs.length := by rw [← slen]; exact (List.getElem?_eq_some_iff.mp ht).1
      have hn8 := M8.ext _ _ nlp hn5
      have one : ∀ z ∈ sgs cs, z.length = 1 := fun z hz => by
        obtain ⟨c, _, rfl⟩ := List.mem_map.mp hz
        rfl
      refine ⟨_, rfl, _, rfl, nl, rfl, ⟨_, SqL.of hn8⟩, fun zl hzl => ?_⟩
      obtain ⟨f9, ne9⟩ := M8.fresh hzl
      have zp : pl ≠ zl := ne_of_none hp8 hzl
      have zf : fl ≠ zl := ne_of_none hf8 hzl
      refine lr_list (xs := txs (sgs cs)) (fun j σ2 H9 => (∃ v, σ2 = [v, some (.ref p), some (.str t)]) ∧ (∃ zs : List Str, H9 zl = some (.lst (txs zs)) ∧ zs.Sublist (((sgs cs).take j).map fun b => t ++ b)) ∧ H9 pl = some (.lst (txs ps)) ∧ H9 fl = some (.lst (txs fs)) ∧ Md H5 H9 p)
        ⟨⟨_, rfl⟩, ⟨[], upd_same, List.nil_sublist _⟩, by rw [upd_ne zp]; exact hp8, by rw [upd_ne zf]; exact hf8, M8.put f9 ne9⟩ (fun j σ2 H9 p => SqL.of (p.2.2.2.2.ext _ _ nlp hn5)) ?_ ?_
      · rintro j y σ2 H9 C hy ⟨⟨v, rfl⟩, ⟨zs, hz9, sub9⟩, hp9, hf9, M9⟩ nx
        obtain ⟨u, hu, rfl⟩ := txs_at hy
        dsimp only [gName]
        refine ⟨_, rfl, p, 6, rfl, M9.src, by decide, sm2001 6 (by decide), fun e H10 e0 e1 sr10 x10 => ⟨rfl, _, rfl, ?_⟩⟩
        have M10 := M9.draw sr10 x10
        have hz10 := (x10 zl ne9).trans hz9
        have hp10 := (x10 pl np8).trans hp9
        have hf10 := (x10 fl ne6).trans hf9
        have step : ((sgs cs).take (j + 1)).map (fun b => t ++ b) = ((sgs cs).take j).map (fun b => t ++ b) ++ [t ++ u] := by
          rw [List.take_add_one, hu, List.map_append]; rfl
        refine ite2 (fun _ => ?_) (fun _ => nx _ _ ⟨⟨_, rfl⟩, ⟨zs, hz10, sub9.trans (by rw [step]; exact List.sublist_append_left _ _)⟩, hp10, hf10, M10⟩)
        refine ⟨_, rfl, _, rfl, t, u, rfl, rfl, ?_, _, hz10, ?_, nx _ _ ⟨⟨_, rfl⟩, ⟨zs ++ [t ++ u], by rw [← txs_snoc]; exact upd_same, by rw [step]; exact List.Sublist.append sub9 (List.Sublist.refl _)⟩, by rw [upd_ne zp]; exact hp10, by rw [upd_ne zf]; exact hf10, M10.put f9 ne9⟩⟩
        · rw [one t (List.mem_of_getElem? ht), one u (List.mem_of_getElem? hu)]; decide
        · have := sub9.length_le
          rw [txs_len]
          rw [List.length_map, List.length_take] at this
          exact Nat.lt_of_le_of_lt (show zs.length ≤ 6 by omega) (by decide)
      rintro σ2 H9 ⟨⟨v, rfl⟩, ⟨zs, hz9, sub9⟩, hp9, hf9, M9⟩
      refine ⟨pl, zl, _, _, rfl, rfl, hp9, hz9, ?_, fun np hnp => ?_⟩
      · have l1 := sub8.length_le
        have l2 := sub9.length_le
        rw [flat_len _ _ (sgs cs).length (fun a => by rw [List.length_map]), List.length_take] at l1
        rw [List.length_map, List.length_take] at l2
        have : min i (sgs cs).length * (sgs cs).length ≤ 6 * 6 := Nat.mul_le_mul (by omega) (by omega)
        rw [txs_len, txs_len]
        exact Nat.le_trans (show _ ≤ 42 by omega) (by decide)
      obtain ⟨f10, ne10⟩ := M9.fresh hnp
      refine ⟨_, _, _, np, ps ++ zs, rfl, ?_, ne10, ?_, by rw [upd_ne (ne_of_none hf9 hnp)]; exact hf9, M9.put f10 ne10⟩
      · have : txs ps ++ txs zs = txs (ps ++ zs) := by unfold txs; rw [List.map_append]
        rw [this]; exact upd_same
      · rw [prs_snoc ht]
        exact List.Sublist.append sub8 (sub9.trans (List.Sublist.map _ (List.take_sublist _ _)))
    rintro σ H8 ⟨v7, v8, v9, pl, ps, rfl, hp8, np8, sub8, hf8, M8⟩
    rw [tlen, ← slen, List.take_length] at sub8
    have fn : fs.Nodup := (sgs_nd nd).sublist sub6'
    have fm : ∀ f ∈ fs, f ∈ sgs cs := fun f hf => sub6'.subset hf
    have pn : ps.Nodup := (prs_nd nd).sublist sub8
    have pm : ∀ p ∈ ps, p ∈ prs (sgs cs) := fun p hp => sub8.subset hp
    refine ⟨_, rfl, p, 5, rfl, M8.src, by decide, sm2001 5 (by decide), fun e H9 e0 e1 sr9 x9 => ⟨_, _, rfl, rfl, ?_⟩⟩
    have M9 := M8.draw sr9 x9
    have hp9 := (x9 pl np8).trans hp8
    have hf9 := (x9 fl ne6).trans hf8
    have hL9 := M9.ext _ _ Lp hL5
    have rows9 : Rows H9 xs cs := rows5.src sr5 M9.ext
    have E9 : Ext p H H9 := E5.trans M9.ext
    have mk : ∀ (lg : Int) (H' : Hp) (t : Addr), 1 ≤ lg → lg ≤ 5 → Same H9 H' → H' t = some (.tup [.ref L, .ref fl, .ref pl, .int lg]) → Tg H' t cs fs ps lg := fun lg H' t a b s h =>
      ⟨⟨L, fl, pl, xs, h, s _ _ hL9, rows9.same s, s _ _ hf9, s _ _ hp9⟩, nd, by omega, by omega, fn, fm, pn, pm, a, by omega⟩
    refine ⟨fun σ' H' => ∃ lg : Int, σ' = [some (.ref p), some (.int 4), some (.int 40), some (.str letters), some (.int st), some (.ref nl), some (.ref L), v7, v8, v9, some (.ref fl), some (.ref pl), some (.int lg)] ∧ 1 ≤ lg ∧ lg ≤ 5 ∧ Same H9 H' ∧ (allT cs (cmT fs ps) lg.toNat).length ≤ 40, ?_, ?_⟩
    · refine while_by (fun σ' H' => ∃ lg : Int, σ' = [some (.ref p), some (.int 4), some (.int 40), some (.str letters), some (.int st), some (.ref nl), some (.ref L), v7, v8, v9, some (.ref fl), some (.ref pl), some (.int lg)] ∧ 1 ≤ lg ∧ lg ≤ 5 ∧ Same H9 H')
        (fun σ' _ => match σ' with | [_, _, _, _, _, _, _, _, _, _, _, _, some (.int n)] => n.toNat | _ => 0) ⟨1 + e, rfl, by omega, by omega, fun _ _ h => h⟩ ?_ ?_
      · rintro σ' H' ⟨lg, rfl, l1, l5, s10⟩
        refine ⟨_, rfl, _, _, rfl, rfl, _, rfl, ite2 (fun g => ?_) (fun g => ?_)⟩
        · have g1 : (1 : Int) < lg := of_decide_eq_true g
          refine ⟨_, rfl, _, rfl, _, rfl, _, rfl, by show 4 ≤ sizeLine; decide, fun t ht => ?_⟩
          have s11 := same_upd (o := .tup [.ref L, .ref fl, .ref pl, .int lg]) ht
          have S11 := s10.trans s11
          have tg := mk lg _ t l1 l5 S11 upd_same
          refine ⟨t, cs, fs, ps, lg, rfl, tg, by omega, l5, fun T H12 s12 fT hT => ?_⟩
          refine ⟨T, _, rfl, .inl (SqL.of hT), _, rfl, _, _, rfl, rfl, _, rfl, ite2 (fun g2 => ?_) (fun g2 => ?_)⟩
          · refine ⟨_, rfl, _, _, rfl, rfl, ⟨lg - 1, rfl, by omega, by omega, S11.trans s12⟩, ?_⟩
            show (lg - 1).toNat < lg.toNat
            omega
          · refine ⟨lg, rfl, l1, l5, S11.trans s12, ?_⟩
            have : ¬ ((40 : Int) < ((txs (allT cs (cmT fs ps) lg.toNat)).length : Nat)) := fun z => g2 (decide_eq_true z)
            rw [txs_len] at this
            omega
        · have g1 : ¬ ((1 : Int) < lg) := fun z => g (decide_eq_true z)
          have e1 : lg = 1 := by omega
          subst e1
          refine ⟨1, rfl, l1, l5, s10, ?_⟩
          have : (allT cs (cmT fs ps) 1).length ≤ 4 := by
            have e : allT cs (cmT fs ps) 1 = lvl cs (cmT fs ps) 1 := by rw [allT_succ]; rfl
            rw [e]
            exact Nat.le_trans (lvl_len (m := 4) (by omega) 1) (by decide)
          exact Nat.le_trans this (by decide)
      · rintro σ' H' Q1 Q2 h ⟨v, a1, i, j, a2, a3, c, a4, z⟩
        refine ⟨v, a1, i, j, a2, a3, c, a4, ?_⟩
        cases c with
        | false => exact h _ _ z
        | true =>
          obtain ⟨u1, b1, u2, b2, u3, b3, u4, b4, sz, f⟩ := z
          refine ⟨u1, b1, u2, b2, u3, b3, u4, b4, sz, fun t ht => ?_⟩
          obtain ⟨t', cs', fs', ps', lg', e1, tg, c4, l5, g⟩ := f t ht
          refine ⟨t', cs', fs', ps', lg', e1, tg, c4, l5, fun L' H1 s1 fL hL => ?_⟩
          obtain ⟨p', ys, e2, sq, w2, b5, i2, j2, e3, e4, c2, e5, z⟩ := g L' H1 s1 fL hL
          exact ⟨p', ys, e2, sq, w2, b5, i2, j2, e3, e4, c2, e5, h _ _ z⟩
    rintro σ1 H10 ⟨lg, rfl, l1, l5, s10, few⟩
    refine ⟨_, rfl, _, rfl, _, rfl, _, rfl, by show 4 ≤ sizeLine; decide, fun t ht => ?_⟩
    have s11 := same_upd (o := .tup [.ref L, .ref fl, .ref pl, .int lg]) ht
    exact q t cs fs ps lg _ (mk lg _ t l1 l5 (s10.trans s11) upd_same) (by omega) l5 few (E9.trans (Ext.same (s10.trans s11)))
end
end G1
namespace L2
open PySem
theorem boot_max : bootBuiltins "max" = some (.builtin "max") := by decide +kernel
theorem boot_min : bootBuiltins "min" = some (.builtin "min") := by decide +kernel
theorem all_true (n : Nat) : ((List.range n).all fun _ => true) = true := List.all_eq_true.2 fun _ _ => rfl
end L2
namespace G1
open PySem L2 GM
theorem Kp.seq {K : PySem.W.Frag} {H H' : Hp} {a : Addr} {xs : List V} (k : Kp H H') (h : SqL K H a xs) : SqL K H' a xs := by
  rcases h with (h | ⟨o, h⟩) | h
  · exact .inl (.inl (k _ _ h nofun))
  · exact .inl (.inr ⟨o, k _ _ h nofun⟩)
  · exact .inr h
def plainV (x : V) : Prop := flatV x = true ∨ ∃ a, x = .ref a
theorem eqd_self {K : PySem.W.Frag} {H : Hp} {x : V} (h : plainV x) : EqD K H 0 x x true := by
  rcases h with h | ⟨a, rfl⟩
  · refine .inl ⟨h, h, ?_⟩
    cases x with
    | non => rfl
    | bl b => show true = (b == b); simp
    | int i => show true = (i == i); simp
    | str z => show true = (z == z); simp
    | _ => cases h
  · exact .inr ⟨a, rfl, rfl, rfl⟩
theorem eqd_lists {K : PySem.W.Frag} {H : Hp} {a c : Addr} {xs : List V} (ha : SqL K H a xs) (hc : SqL K H c xs) (ne : a ≠ c) (hp : ∀ x ∈ xs, plainV x) : EqD K H 1 (.ref a) (.ref c) true := by
  refine .inr ⟨a, c, rfl, rfl, ne, ?_⟩
  have z := TopR.lsts (K := K) (H := H) (R := EqD K H 0) (fun _ => true) ha hc rfl fun j x y h1 h2 => by
    rw [h1] at h2; cases h2
    exact eqd_self (hp x (List.mem_of_getElem? h1))
  rw [all_true] at z
  exact z
theorem Rows.plain {H : Hp} {xs : List V} {cs : List Nat} (h : Rows H xs cs) : ∀ x ∈ xs, plainV x := fun x hx => by
  obtain ⟨i, hi⟩ := List.getElem?_of_mem hx
  obtain ⟨c, _, row⟩ := h.at hi
  obtain ⟨a, _, _, e, _⟩ := row.ex
  exact .inr ⟨a, e⟩
theorem txs_plain (ts : List Str) : ∀ x ∈ txs ts, plainV x := fun x hx => by
  obtain ⟨t, _, rfl⟩ := List.mem_map.mp hx
  exact .inl rfl
theorem put_dS : ∀ (sd pre : List (Str × Str)), ((pre ++ sd).map (·.1)).Nodup → (dS sd).foldl (fun m p => putK m p.1 p.2) (dS pre) = dS (pre ++ sd)
  | [], pre, _ => by rw [List.append_nil]; rfl
  | p :: sd, pre, nd => by
    have nc : p.1 ∉ pre.map (·.1) := fun z => by
      rw [List.map_append] at nd
      exact (List.nodup_append.mp nd).2.2 p.1 z p.1 (List.mem_map.mpr ⟨p, List.mem_cons_self, rfl⟩) rfl
    show (dS sd).foldl _ (putK (dS pre) (Sum.inr p.1 : Key) (.str p.2)) = _
    rw [dS_put nc, put_dS sd (pre ++ [p]) (by rw [List.append_assoc]; exact nd), List.append_assoc]; rfl
theorem putAll_dS {sd : List (Str × Str)} (nd : (sd.map (·.1)).Nodup) : putAll (dS sd) = dS sd := put_dS sd [] nd
theorem go_nil (z : Str) : goB [] z = true := by
  unfold goB
  have e : (cuts z).filter (fun t => (sayS [] t).isSome) = [] := List.filter_eq_nil_iff.mpr fun _ _ h => by cases h
  rw [e]; rfl
theorem sum_len {α β : Type} (f : α → List β) : ∀ l : List α, (l.map fun k => (f k).length).sum = (l.flatMap f).length
  | [] => rfl
  | a :: l => by rw [List.map_cons, List.sum_cons, List.flatMap_cons, List.length_append, sum_len f l]
section
variable {P : Program} {w : World} {K : PySem.W.Frag} {mg : Str → Option Value} {base : Heap}
def spLaw (T1 T2 T3 : Addr) (K : PySem.W.Frag) : Sp := fun vs H Q _ => ∃ (a : Addr) (ns : List Int), vs = [.ref a] ∧ SqL K H a (ns.map V.int) ∧ ns.length ≤ 63 ∧ Tab T1 H ∧ Tab T2 H ∧ Tab T3 H ∧ ∀ H', Q (.bl true) H'
theorem scLa : FnScope ["_law_script", "_law_tongue_here", "_law_kept", "_law_texts_here", "_law_words_here", "_law_ahead", "_law_k", "_law_source_here", "_law_part_here", "_law_due", "_law_handed", "_law_found"] ["_law_script"] (defScope sLaw) := ⟨rfl, rfl, rfl, by decide +kernel, rfl, by decide +kernel, by decide +kernel⟩
theorem ok_law {T1 T2 T3 : Addr} {f fZ fS fD fT fX fW fP fC fO : Addr} {fd fdZ fdS fdD fdT fdX fdW fdP fdC fdO : FuncData} (F : FunG K "law" "law" sLaw .none f fd) (B : Bl mg)
    (GZ : FnOk P w K mg base (CXE P w) 1 fZ fdZ ["_law_script", "_law_k"] (spCell K)) (mZ : mg "_law_cell_at" = some (.ref fZ)) (kZ : PySem.W.keepIn K (.ref fZ) = true) (bZ : Binds K fdZ ["_law_script", "_law_k"] [])
    (GS : FnOk P w K mg base (CXE P w) 1 fS fdS ["_law_cell", "_law_k"] spSource) (mS : mg "_law_source" = some (.ref fS)) (kS : PySem.W.keepIn K (.ref fS) = true) (bS : Binds K fdS ["_law_cell", "_law_k"] [])
    (GD : FnOk P w K mg base (CXE P w) 1 fD fdD ["_law_source_here", "_law_many"] spDraw) (mD : mg "_law_draw" = some (.ref fD)) (kD : PySem.W.keepIn K (.ref fD) = true) (bD : Binds K fdD ["_law_source_here", "_law_many"] [])
    (GT : FnOk P w K mg base (CXE P w) 3 fT fdT ["_law_source_here", "_law_most_signs", "_law_most_texts"] spTongue) (mT : mg "_law_tongue" = some (.ref fT)) (kT : PySem.W.keepIn K (.ref fT) = true) (bT : Binds K fdT ["_law_source_here", "_law_most_signs", "_law_most_texts"] [])
    (GX : FnOk P w K mg base (CXE P w) 2 fX fdX ["_law_tongue_here"] spTexts) (mX : mg "_law_texts" = some (.ref fX)) (kX : PySem.W.keepIn K (.ref fX) = true) (bX : Binds K fdX ["_law_tongue_here"] [])
    (GW : FnOk P w K mg base (CXE P w) 3 fW fdW ["_law_tongue_here"] spLWords) (mW : mg "_law_words" = some (.ref fW)) (kW : PySem.W.keepIn K (.ref fW) = true) (bW : Binds K fdW ["_law_tongue_here"] [])
    (GP : FnOk P w K mg base (CXE P w) 2 fP fdP ["_law_source_here", "_law_texts_here", "_law_many"] spPart) (mP : mg "_law_part" = some (.ref fP)) (kP : PySem.W.keepIn K (.ref fP) = true) (bP : Binds K fdP ["_law_source_here", "_law_texts_here", "_law_many"] [])
    (GC : FnOk P w K mg base (CXE P w) 1 fC fdC ["_law_words_here", "_law_said"] spCand) (mC : mg "_law_candidates" = some (.ref fC)) (kC : PySem.W.keepIn K (.ref fC) = true) (bC : Binds K fdC ["_law_words_here", "_law_said"] [])
    (GO : FnOk P w K mg base (CXE P w) 10 fO fdO ["tongue", "part"] (spCandOf T1 T2 T3)) (mO : mg "candidates_of" = some (.ref fO)) (kO : PySem.W.keepIn K (.ref fO) = true) (bO : Binds K fdO ["tongue", "part"] []) : FnOk P w K mg base (CXE P w) 11 f fd ["_law_script"] (spLaw T1 T2 T3 K) := by
  refine F.zokN scLa (fun vs H Q E h => ?_) (fun cdv A outer s H vs Q E hr h => ?_)
  · obtain ⟨a, ns, rfl, _⟩ := h
    rfl
  · obtain ⟨a, ns, rfl, ha, hlen, t1, t2, t3, q⟩ := h
    have tb : Tb3 T1 T2 T3 H := ⟨t1, t2, fun U hU => by
      cases List.mem_singleton.mp hU
      exact t3⟩
    have hu := Nat.lt_of_succ_lt hr.units1
    have mdict := B.dict
    refine ⟨_, (zpss_cons (zps_set (i := 1) scLa.nd rfl (Or.inl rfl) (zpe_call GT (hr.mono (by decide)) (by rfl) mT kT bT .nil passE0 (zpac_f (zpe_call GS (hr.mono (by decide)) (by rfl) mS kS bS .nil passE0 (zpac_f (zpe_call GZ (hr.mono (by decide)) (by rfl) mZ kZ bZ .nil passE0 (zpac_n (zpv 0) (zpac_c zpe_int zpa_nil))) (zpac_c zpe_int zpa_nil))) (zpac_c zpe_int (zpac_c zpe_int zpa_nil)))))
      (zpss_cons (zps_set (i := 2) scLa.nd rfl (Or.inl rfl) (zpe_tup (zpac_f (zpe_callTy call_list_of (by rfl) B.list boot_list (zpac_s (zpe_ix ix_tup (zpv 1) zpe_int (fun _ _ => rfl)) zpa_nil)) (zpac_f (zpe_callTy call_list_of (by rfl) B.list boot_list (zpac_s (zpe_ix ix_tup (zpv 1) zpe_int (fun _ _ => rfl)) zpa_nil)) (zpac_f (zpe_callTy call_list_of (by rfl) B.list boot_list (zpac_s (zpe_ix ix_tup (zpv 1) zpe_int (fun _ _ => rfl)) zpa_nil)) (zpac_s (zpe_ix ix_tup (zpv 1) zpe_int (fun _ _ => rfl)) zpa_nil))))))
      (zpss_cons (zps_set (i := 3) scLa.nd rfl (Or.inl rfl) (zpe_call GX (hr.mono (by decide)) (by rfl) mX kX bX .nil passE0 (zpac_n (zpv 1) zpa_nil)))
      (zpss_cons (zps_set (i := 4) scLa.nd rfl (Or.inl rfl) (zpe_call GW (hr.mono (by decide)) (by rfl) mW kW bW .nil passE0 (zpac_n (zpv 1) zpa_nil)))
      (zpss_cons (zps_set (i := 5) scLa.nd rfl (Or.inl rfl) (zpe_lst (zpac_l (zpe_lst zpa_nil) (zpac_n (zpv 4) zpa_nil))))
      (zpss_cons (zps_for PassesOwn.never rfl (zpi_range2 (by rfl) B.range (zpac_c zpe_int (zpac_f (zpe_callB (call_max2 rfl) (by rfl) B.max boot_max (zpac_c zpe_int (zpac_f (zpe_callB (call_min2 rfl) (by rfl) B.min boot_min (zpac_f (zpe_callB call_len_seq (by rfl) B.len PySem.boot_len (zpac_n (zpv 0) zpa_nil)) (zpac_c zpe_int zpa_nil))) zpa_nil))) zpa_nil))) (zpg_name (i := 6) scLa.nd rfl (Or.inl rfl))
          (zpss_cons (zps_set (i := 7) scLa.nd rfl (Or.inl rfl) (zpe_call GS (hr.mono (by decide)) (by rfl) mS kS bS .nil passE0 (zpac_f (zpe_call GZ (hr.mono (by decide)) (by rfl) mZ kZ bZ .nil passE0 (zpac_n (zpv 0) (zpac_n (zpv 6) zpa_nil))) (zpac_n (zpv 6) zpa_nil))))
      (zpss_cons (zps_set (i := 8) scLa.nd rfl (Or.inl rfl) (zpe_call GP (hr.mono (by decide)) (by rfl) mP kP bP .nil passE0 (zpac_n (zpv 7) (zpac_n (zpv 3) (zpac_f (zpe_call GD (hr.mono (by decide)) (by rfl) mD kD bD .nil passE0 (zpac_n (zpv 7) (zpac_c zpe_int zpa_nil))) zpa_nil)))))
      (zpss_cons (zps_set (i := 9) scLa.nd rfl (Or.inl rfl) (zpe_call GC (hr.mono (by decide)) (by rfl) mC kC bC .nil passE0 (zpac_n (zpv 4) (zpac_f (zpe_callTy (call_dictP rfl) (by rfl) mdict boot_dict (zpac_n (zpv 8) zpa_nil)) zpa_nil))))
      (zpss_cons (zps_set (i := 10) scLa.nd rfl (Or.inl rfl) (zpe_callTy call_list_of (by rfl) B.list boot_list (zpac_n (zpv 8) zpa_nil)))
      (zpss_cons (zps_set (i := 11) scLa.nd rfl (Or.inl rfl) (zpe_call GO hr (by rfl) mO kO bO .nil passE0 (zpac_n (zpv 1) (zpac_n (zpv 10) zpa_nil))))
      (zpss_cons (zps_if (SPW.pt (zpw_or (zpt_not (zpt_val (zpe_callB call_isi (by rfl) B.isi boot_isi (zpac_n (zpv 11) (zpac_n (zpe_bltn (by rfl) B.list boot_list (v := .ty "list") rfl) zpa_nil))))) (zpw_or (zpt_cmpR (op_neV hu) (zpv 11) (zpv 9) (nomark _)) (zpw_or1 (zpt_cmpR (op_neD hr.units60) (zpv 10) (zpv 8) (nomark _)))))) (zpss_one (zps_ret zpe_bl)) zpss_nil)
      (zpss_cons (zps_expr (zpe_bm0 PySem.F.plainAttrs_list PySem.F.slot_list_clear PySem.F.type_list_clear mt_clear (zpv 11)))
      (zpss_cons (zps_if (SPW.pt (zpw_or (zpt_cmpR (op_neV hu) (zpe_call GO hr (by rfl) mO kO bO .nil passE0 (zpac_n (zpv 1) (zpac_s (zpe_ix ix_list (zpv 5) zpe_int (fun _ _ => rfl)) zpa_nil))) (zpe_ix ix_list (zpv 5) zpe_int (fun _ _ => rfl)) (nomark _)) (zpw_or1 (zpt_cmpR (op_neV hu) (zpe_call GO hr (by rfl) mO kO bO .nil passE0 (zpac_n (zpv 1) (zpac_n (zpv 10) zpa_nil))) (zpv 9) (nomark _))))) (zpss_one (zps_ret zpe_bl)) zpss_nil)
      (zpss_one (zps_set (i := 5) scLa.nd rfl (Or.inl rfl) (zpe_lst (zpac_n (zpv 8) (zpac_n (zpv 9) zpa_nil))))))))))))))
      (zpss_one (zps_ret (zpe_cmpR (op_eqD hr.units60) (zpv 1) (zpv 2) (nomark _)))))))))), ?_⟩
    refine ⟨_, rfl, a, ns, 0, rfl, ha, by decide, fun z => ⟨z, 0, rfl, by decide, by decide, fun p H1 hp sr1 x1 => ?_⟩⟩
    have s1 : Same H H1 := fun c o e => (x1 c (ne_of_none e hp)).trans e
    refine ⟨p, rfl, sr1, fun t cs fs ps lg H2 tg c4 l5 few E2 => ?_⟩
    have s2 : Same H H2 := same_ext s1 E2 hp
    have ha2 := s2.seq ha
    have tb2 := tb.same s2
    obtain ⟨S, Fr, Pp, xs, h1, h2, rows, h4, h5⟩ := tg.ex
    have tx : TgX H2 t xs cs := ⟨⟨S, _, _, _, h1, h2⟩, rows⟩
    clear s2 E2 x1 s1 sr1
    refine ⟨_, rfl, t, _, _, _, rfl, rfl, SqT.of h1, rfl, S, _, rfl, .inl (SqL.of h2), fun l1 n1 => ?_⟩
    have s3 := same_upd (o := .lst xs) n1
    have c1 : (upd H2 l1 (.lst xs)) l1 = some (.lst xs) := upd_same
    generalize upd H2 l1 (.lst xs) = H3 at s3 c1 ⊢
    refine ⟨_, rfl, t, _, _, _, rfl, rfl, SqT.of (s3 _ _ h1), rfl, Fr, _, rfl, .inl (SqL.of (s3 _ _ h4)), fun l2 n2 => ?_⟩
    have s4 := same_upd (o := .lst (txs fs)) n2
    have c2 : (upd H3 l2 (.lst (txs fs))) l2 = some (.lst (txs fs)) := upd_same
    have S4 := s3.trans s4
    have nF := ne_of_none (s3 _ _ h4) n2
    generalize upd H3 l2 (.lst (txs fs)) = H4 at s4 c2 S4 ⊢
    refine ⟨_, rfl, t, _, _, _, rfl, rfl, SqT.of (S4 _ _ h1), rfl, Pp, _, rfl, .inl (SqL.of (S4 _ _ h5)), fun l3 n3 => ?_⟩
    have s5 := same_upd (o := .lst (txs ps)) n3
    have c3 : (upd H4 l3 (.lst (txs ps))) l3 = some (.lst (txs ps)) := upd_same
    have S5 := S4.trans s5
    have nP := ne_of_none (S4 _ _ h5) n3
    generalize upd H4 l3 (.lst (txs ps)) = H5 at s5 c3 S5 ⊢
    refine ⟨_, rfl, t, _, _, _, rfl, rfl, SqT.of (S5 _ _ h1), rfl, by show 4 ≤ sizeLine; decide, fun u nu => ?_⟩
    have s6 := same_upd (o := .tup [.ref l1, .ref l2, .ref l3, .int lg]) nu
    have hu6 : (upd H5 u (.tup [.ref l1, .ref l2, .ref l3, .int lg])) u = some (.tup [.ref l1, .ref l2, .ref l3, .int lg]) := upd_same
    have S6 := S5.trans s6
    have k1 := s6 _ _ (s5 _ _ (s4 _ _ c1))
    have k2 := s6 _ _ (s5 _ _ c2)
    have k3 := s6 _ _ c3
    have nS := ne_of_none h2 n1
    generalize upd H5 u (.tup [.ref l1, .ref l2, .ref l3, .int lg]) = H6 at s6 hu6 S6 k1 k2 k3 ⊢
    refine ⟨_, rfl, t, cs, fs, ps, lg, rfl, tg.kp (Kp.same S6), c4, l5, fun T H7 s7 fT hT => ?_⟩
    have S7 := S6.trans s7
    refine ⟨_, rfl, t, cs, fs, ps, lg, xs, rfl, tg.kp (Kp.same S7), tx.kp (Kp.same S7), c4, l5, fun W H8 s8 fW hW => ?_⟩
    have S8 := S7.trans s8
    have en : ∀ {G : Hp}, Kp H2 G → endB G xs cs = endB H2 xs cs := fun {G} k => funext fun c => endB_kp tx.rows k
    rw [en (Kp.same S7)] at hW
    refine ⟨by show 0 ≤ sizeLine; decide, fun e0 he0 => ⟨_, rfl, by show 2 ≤ sizeLine; decide, fun A hA => ?_⟩⟩
    have s9 := same_upd (o := .lst []) he0
    have he9 : (upd H8 e0 (.lst [])) e0 = some (.lst []) := upd_same
    have S9 := S8.trans s9
    generalize upd H8 e0 (.lst []) = H9 at s9 he9 S9 hA ⊢
    have s10 := same_upd (o := .lst [.ref e0, .ref W]) hA
    have hA10 : (upd H9 A (.lst [.ref e0, .ref W])) A = some (.lst [.ref e0, .ref W]) := upd_same
    have S10 := S9.trans s10
    have he10 := s10 _ _ he9
    have hW10 := s10 _ _ (s9 _ _ hW)
    have hT10 := s10 _ _ (s9 _ _ (s8 _ _ hT))
    have hu10 := s10 _ _ (s9 _ _ (s8 _ _ (s7 _ _ hu6)))
    have k1' := s10 _ _ (s9 _ _ (s8 _ _ (s7 _ _ k1)))
    have k2' := s10 _ _ (s9 _ _ (s8 _ _ (s7 _ _ k2)))
    have k3' := s10 _ _ (s9 _ _ (s8 _ _ (s7 _ _ k3)))
    have ha10 := S10.seq ha2
    have tb10 := tb2.same S10
    have tg10 := tg.kp (Kp.same S10)
    have tx10 := tx.kp (Kp.same S10)
    have en10 := en (Kp.same S10)
    have g1 := S10 _ _ h1
    have g2 := S10 _ _ h2
    have g4 := S10 _ _ h4
    have g5 := S10 _ _ h5
    have rows10 := rows.same S10
    generalize upd H9 A (.lst [.ref e0, .ref W]) = H10 at s10 hA10 S10 he10 hW10 hT10 hu10 k1' k2' k3' ha10 tb10 tg10 tx10 en10 g1 g2 g4 g5 rows10 ⊢
    rw [← en10] at hW10
    clear en en10 s10 S10 s9 S9 he9 hA s8 S8 hW s7 S7 hT s6 S6 s5 S5 s4 S4 s3 hu6 k1 k2 k3 c1 c2 c3 tg tx tb2 ha2 rows h1 h2 h4 h5 tb ha
    refine ⟨_, rfl, a, _, rfl, .inl ha10, _, _, rfl, _, _, rfl, 1, _, rfl, ?_, ?_⟩
    · rw [List.length_map]
      split <;> split <;> omega
    have aw : (allW cs (cmT fs ps) (endB H10 xs cs) lg.toNat).length ≤ 40 := by
      rw [← allT_words]
      exact Nat.le_trans (List.length_filter_le _ _) few
    have asum : ((List.range lg.toNat).map fun k => (lvl cs (cmT fs ps) (k + 1)).length).sum ≤ 1000 := by
      rw [sum_len]
      exact Nat.le_trans few (by decide)
    have tz8 : ∀ z ∈ allT cs (cmT fs ps) lg.toNat, z.length ≤ 8 := fun z hz => (allT_size (by omega) z hz).1
    have wz8 : ∀ z ∈ allW cs (cmT fs ps) (endB H10 xs cs) lg.toNat, z.length ≤ 8 := allW_len8 (by omega)
    have en : ∀ {G : Hp}, Kp H10 G → endB G xs cs = endB H10 xs cs := fun {G} k => funext fun c => endB_kp tx10.rows k
    refine for_range (lo := 1) (fun i σ G => ∃ v6 v7 v8 v9 v10 v11 A P Du sd, σ = [some (.ref a), some (.ref t), some (.ref u), some (.ref T), some (.ref W), some (.ref A), v6, v7, v8, v9, v10, v11] ∧ Kp H10 G ∧ Tb3 T1 T2 T3 G ∧ G A = some (.lst [.ref P, .ref Du]) ∧ PartL G P sd ∧ (sd.map (·.1)).Nodup ∧ sd.length ≤ 100 ∧
        G Du = some (.lst (txs ((allW cs (cmT fs ps) (endB H10 xs cs) lg.toNat).filter (goB sd)))))
      ⟨_, _, _, _, _, _, A, e0, W, [], rfl, Kp.refl, tb10, hA10, ⟨[], he10, rfl, fun j t a e => by simp at e⟩, List.nodup_nil, Nat.zero_le _, by rw [List.filter_eq_self.mpr fun z _ => go_nil z]; exact hW10⟩ ?_ ?_
    · rintro i σ G hi ⟨v6, v7, v8, v9, v10, v11, A, P, Du, sd, rfl, kG, tbG, hA, pl, nd, sl, hDu⟩
      have i25 : i ≤ 24 := by
        rw [List.length_map] at hi
        split at hi <;> split at hi <;> omega
      refine ⟨_, rfl, _, rfl, a, ns, 1 + (i : Int), rfl, kG.seq ha10, by omega, fun z => ⟨_, rfl, z, 1 + (i : Int), rfl, by omega, by omega, fun p G1 hp sr1 x1 => ?_⟩⟩
      have s1 : Same G G1 := fun c o e => (x1 c (ne_of_none e hp)).trans e
      refine ⟨_, rfl, _, rfl, _, rfl, p, 10, rfl, sr1, by decide, sm2001 10 (by decide), fun d G2 d0 d1 sr2 x2 => ?_⟩
      have s2 : Same G G2 := same_ext s1 (.of_eq x2) hp
      obtain ⟨n, rfl⟩ := Int.eq_ofNat_of_zero_le d0
      refine ⟨p, T, allT cs (cmT fs ps) lg.toNat, n, rfl, sr2, s2 _ _ (kG.lst hT10), tz8, Nat.le_trans few (by decide), by omega, fun L sd2 G3 E3 sr3 pl3 nd3 sl3 => ?_⟩
      have s3 : Same G G3 := same_ext s2 E3 hp
      clear sr1 x1 s1 sr2 x2 s2 E3 sr3
      obtain ⟨us, p1, p2, p3⟩ := id pl3.ex
      refine ⟨_, rfl, _, rfl, L, us, dS sd2, rfl, p1, by rw [p2, dS_len], fun j t' k v e1 e2 => ?_, fun D hD => ?_⟩
      · unfold dS at e2
        rw [List.getElem?_map] at e2
        obtain ⟨b, hb, e⟩ := Option.map_eq_some_iff.mp e2
        cases e
        exact p3 j t' b e1 hb
      rw [putAll_dS nd3]
      have s4 := same_upd (o := .dK (dS sd2)) hD
      have hD4 : (upd G3 D (.dK (dS sd2))) D = some (.dK (dS sd2)) := upd_same
      generalize upd G3 D (.dK (dS sd2)) = G4 at s4 hD4 ⊢
      have S4 := s3.trans s4
      refine ⟨D, W, sd2, _, rfl, hD4, S4 _ _ (kG.lst hW10), wz8, Nat.le_trans aw (by decide), fun Dn G5 s5 fDn hDn => ?_⟩
      have S5 := S4.trans s5
      have p15 := s5 _ _ (s4 _ _ p1)
      have pl5 := pl3.kp ((Kp.same s4).trans (Kp.same s5))
      rw [show (allW cs (cmT fs ps) (endB H10 xs cs) lg.toNat).filter (loB sd2) = (allW cs (cmT fs ps) (endB H10 xs cs) lg.toNat).filter (goB sd2) from congrArg (fun f => List.filter f _) (funext fun z => (go_lo sd2 z).symm)] at hDn
      clear s3 s4 S4 hD hD4 s5 pl3 p1
      refine ⟨_, rfl, L, _, rfl, .inl (SqL.of p15), fun Ha hHa => ?_⟩
      have s6 := same_upd (o := .lst (us.map V.ref)) hHa
      have hHa6 : (upd G5 Ha (.lst (us.map V.ref))) Ha = some (.lst (us.map V.ref)) := upd_same
      have LHa : L ≠ Ha := ne_of_none p15 hHa
      have pl6 := pl5.kp (Kp.same s6)
      have p16 := s6 _ _ p15
      have hDn6 := s6 _ _ hDn
      have S6 := S5.trans s6
      have ph6 : PartL (upd G5 Ha (.lst (us.map V.ref))) Ha sd2 := ⟨us, hHa6, p2, fun j t b e1 e2 => by
        obtain ⟨us', q1, q2, q3⟩ := pl6.ex
        rw [p16] at q1
        have e : us = us' := by
          injection q1 with q1
          injection q1 with q1
          exact List.map_inj_right (fun _ _ h => by injection h) |>.mp q1
        subst e
        exact q3 j t b e1 e2⟩
      generalize upd G5 Ha (.lst (us.map V.ref)) = G6 at s6 hHa6 pl6 p16 hDn6 S6 ph6 ⊢
      clear S5 s6 pl5 p15 hDn
      have k6 : Kp H10 G6 := kG.trans (Kp.same S6)
      have tb6 := tbG.same S6
      refine ⟨_, rfl, _, rfl, t, Ha, cs, fs, ps, lg, xs, sd2, rfl, tg10.kp k6, tx10.kp k6, tb6, by rw [en k6]; exact Nat.le_trans aw (by decide), asum, ph6, nd3, by omega, fun Fo G7 k7 tb7 f7 hF7 => ?_⟩
      rw [en k6] at hF7
      have k67 := k6.trans k7
      have f6 : Fs H10 Fo := Fs.back k6 f7
      refine ⟨_, rfl, _, _, _, true, rfl, .of (.lst hF7), .inl ⟨_, rfl, kl1⟩, _, rfl, iteF ?_⟩
      refine ⟨_, rfl, _, rfl, Fo, Dn, _, _, rfl, rfl, SqL.of hF7, SqL.of (k7.lst hDn6), txs_flat _, txs_flat _, _, rfl, ?_⟩
      have ne1 : ∀ l : List Str, (if true = true then !eqVs (txs l) (txs l) else eqVs (txs l) (txs l)) = false := fun l => by rw [eqVs_txs]; rfl
      rw [ne1]
      refine iteF ?_
      have zz := TopR.lsts (K := K) (H := G7) (R := EqD K G7 0) (fun _ => true) (SqL.of (k7.lst hHa6)) (SqL.of (k7.lst p16)) rfl fun j x y h1 h2 => by
        rw [h1] at h2; cases h2
        rw [List.getElem?_map] at h1
        obtain ⟨b, _, rfl⟩ := Option.map_eq_some_iff.mp h1
        exact eqd_self (.inr ⟨b, rfl⟩)
      rw [all_true] at zz
      refine ⟨_, rfl, _, rfl, 0, _, by decide, zz, _, rfl, iteF ?_⟩
      refine ⟨_, rfl, .inl ⟨rfl, _, SqL.of hF7⟩, Fo, _, rfl, rfl, hF7, ?_⟩
      have k8 : Kp G6 (upd G7 Fo (.lst [])) := k7.updF f7
      have tb8 : Tb3 T1 T2 T3 (upd G7 Fo (.lst [])) := tb7.set hF7 nofun
      generalize upd G7 Fo (.lst []) = G8 at k8 tb8 ⊢
      have K8 := k6.trans k8
      have hA8 := k8.lst (S6 _ _ hA)
      have hDu8 := k8.lst (S6 _ _ hDu)
      have plP8 := (pl.kp (Kp.same S6)).kp k8
      refine ⟨_, rfl, _, rfl, A, _, _, _, rfl, rfl, SqL.of hA8, rfl, ?_⟩
      refine ⟨t, P, cs, fs, ps, lg, xs, sd, rfl, tg10.kp K8, tx10.kp K8, tb8, by rw [en K8]; exact Nat.le_trans aw (by decide), asum, plP8, nd, sl, fun F9 G9 k9 tb9 f9 h9 => ?_⟩
      rw [en K8] at h9
      have K9 := K8.trans k9
      refine ⟨_, rfl, A, _, _, _, rfl, rfl, SqL.of (k9.lst hA8), rfl, F9, Du, _, _, rfl, rfl, SqL.of h9, SqL.of (k9.lst hDu8), txs_flat _, txs_flat _, _, rfl, ?_⟩
      rw [ne1]
      refine iteF ?_
      have ph9 := (ph6.kp k8).kp k9
      refine ⟨_, rfl, _, rfl, t, Ha, cs, fs, ps, lg, xs, sd2, rfl, tg10.kp K9, tx10.kp K9, tb9, by rw [en K9]; exact Nat.le_trans aw (by decide), asum, ph9, nd3, by omega, fun F10 G10 k10 tb10' f10 h10 => ?_⟩
      rw [en K9] at h10
      have K10 := K9.trans k10
      have hDn10 := k10.lst (k9.lst (k8.lst hDn6))
      refine ⟨_, rfl, F10, Dn, _, _, rfl, rfl, SqL.of h10, SqL.of hDn10, txs_flat _, txs_flat _, _, rfl, ?_⟩
      rw [ne1]
      refine iteF ?_
      refine ⟨_, rfl, _, rfl, by show 2 ≤ sizeLine; decide, fun An hAn => ?_⟩
      have s11 := same_upd (o := .lst [.ref L, .ref Dn]) hAn
      exact ⟨_, _, _, _, _, _, An, L, Dn, sd2, rfl, K10.trans (Kp.same s11), tb10'.same s11, upd_same, ((((pl6.kp k8).kp k9).kp k10).kp (Kp.same s11)), nd3, by omega, s11 _ _ hDn10⟩
    · rintro σ G ⟨v6, v7, v8, v9, v10, v11, A, P, Du, sd, rfl, kG, tbG, hA, pl, nd, sl, hDu⟩
      have z := TopR.tups (K := K) (H := G) (R := EqD K G 1) (fun _ => true) (SqT.of (kG.tup g1)) (SqT.of (kG.tup hu10)) fun j x y h1 h2 => by
        match j, h1, h2 with
        | 0, h1, h2 =>
          cases h1; cases h2
          exact eqd_lists (SqL.of (kG.lst g2)) (SqL.of (kG.lst k1')) nS rows10.plain
        | 1, h1, h2 =>
          cases h1; cases h2
          exact eqd_lists (SqL.of (kG.lst g4)) (SqL.of (kG.lst k2')) nF (txs_plain fs)
        | 2, h1, h2 =>
          cases h1; cases h2
          exact eqd_lists (SqL.of (kG.lst g5)) (SqL.of (kG.lst k3')) nP (txs_plain ps)
        | 3, h1, h2 =>
          cases h1; cases h2
          exact .inl (.inl ⟨rfl, rfl, by show true = (lg == lg); simp⟩)
        | _ + 4, h1, h2 => cases h1
      have := q G
      exact ⟨_, rfl, _, rfl, 1, _, by decide, z, this⟩
end
end G1
namespace L2
open PySem PySem.Spec PyProof.Rows PySem.W PySem.W.X
def keepP (p : Addr × Obj) : Bool := match p.2.data with | .fields vs => !vs.isEmpty | _ => true
def filt (K : Frag) : Frag := K.filter keepP
theorem filt_look {a : Addr} {o : Obj} : ∀ {K : Frag}, K.lookup a = some o → keepP (a, o) = true → (filt K).lookup a = some o
  | [], e, _ => nomatch e
  | (b, u) :: K, e, k => by
    by_cases q : a = b
    · subst q
      have e' : some u = some o := by rw [List.lookup_cons, beq_self_eq_true] at e; exact e
      cases e'
      have z : filt ((a, o) :: K) = (a, o) :: filt K := List.filter_cons_of_pos k
      rw [z, List.lookup_cons, beq_self_eq_true]
    · have f : (a == b) = false := beq_eq_false_iff_ne.mpr q
      have e' : K.lookup a = some o := by rw [List.lookup_cons, f] at e; exact e
      have r := filt_look e' k
      cases hk : keepP (b, u) with
      | true =>
        have z : filt ((b, u) :: K) = (b, u) :: filt K := List.filter_cons_of_pos hk
        rw [z, List.lookup_cons, f]; exact r
      | false =>
        have z : filt ((b, u) :: K) = filt K := List.filter_cons_of_neg (by rw [hk]; exact Bool.false_ne_true)
        rw [z]; exact r
theorem filt_ns {K : Frag} {ns : Addr} {x : Str} {v : Option Value} (e : nsIn K ns x = some v) : nsIn (filt K) ns x = some v := by
  unfold nsIn at e ⊢
  split at e
  next cls d es ep sl l => rw [filt_look l rfl]; exact e
  next => cases e
theorem filt_code {K : Frag} {cd : Value} {q : Str} (e : codeIn K cd q = true) : codeIn (filt K) cd q = true := by
  unfold codeIn at e ⊢
  split at e
  next c =>
    split at e
    next cls d vs sl l =>
      rw [filt_look l (by
        show (!vs.isEmpty) = true
        cases hv : vs.isEmpty with
        | false => rfl
        | true =>
          rw [Array.isEmpty_iff] at hv
          subst hv
          exact e)]
      exact e
    next => cases e
  next => cases e
theorem filt_mem {a : Addr} {o : Obj} : ∀ {K : Frag}, (filt K).lookup a = some o → (a, o) ∈ K
  | [], e => nomatch e
  | (b, u) :: K, e => by
    cases hk : keepP (b, u) with
    | true =>
      have z : filt ((b, u) :: K) = (b, u) :: filt K := List.filter_cons_of_pos hk
      rw [z, List.lookup_cons] at e
      by_cases q : a = b
      · subst q
        rw [beq_self_eq_true] at e
        cases e
        exact List.mem_cons_self ..
      · rw [beq_eq_false_iff_ne.mpr q] at e
        exact List.mem_cons_of_mem _ (filt_mem e)
    | false =>
      have z : filt ((b, u) :: K) = filt K := List.filter_cons_of_neg (by rw [hk]; exact Bool.false_ne_true)
      rw [z] at e
      exact List.mem_cons_of_mem _ (filt_mem e)
theorem allIn_mem {h : Heap} : ∀ {K : Frag} {p : Addr × Obj}, AllIn h K → p ∈ K → h.get? p.1 = some p.2
  | [], _, _, m => nomatch m
  | q :: K, p, A, m => by
    rcases List.mem_cons.mp m with rfl | m
    · exact A.1
    · exact allIn_mem A.2 m
theorem walkX_of {q : Program} {loose : List Str} {XP : (Str → Option Value) → Heap → Prop} {K : Params → Frag} {as : List Addr} {n t : Nat} {r : RowW} {d : DefRec} {kwd : List (Str × PySem.Expr)} {run : Value → List Value → Sem Value}
    (e : ∀ P, as = (K P).map (·.1)) (h : WalkO q loose XP (fun w h => (filt (K w.params)).In h) r d kwd run) : WalkX q loose XP (obsZ as) (valZ K n t) r d kwd run :=
  fun w s₀ s₁ mg mb G Y a o pm cd doc dV kV ho hd hcd hD hmg hg args vals as L hpre hlay hrd hwl hlo =>
    h w s₀ s₁ mg mb G (fun b u l => L.keeps _ _ (allIn_mem (z_facts e Y).1 (filt_mem l))) a o pm cd doc dV kV ho hd hcd hD hmg hg args vals as hpre hlay hrd hwl hlo
end L2
namespace L2
open PySem PySem.Spec PyProof.Rows PySem.W PySem.W.X
end L2
namespace G1
open PySem PySem.Spec PyProof.Rows L2 GM
theorem keep_of {K : PySem.W.Frag} {f : Addr} {oc : Value} {od : Option Addr} {fd : FuncData} {sl : Array (Option Value)} (l : K.lookup f = some ⟨oc, od, .func fd, sl⟩) : PySem.W.keepIn K (.ref f) = true := by
  unfold PySem.W.keepIn
  simp only [l]
theorem cd_of {K : PySem.W.Frag} {n x q : Str} {f c T : Addr} {fd : FuncData} {oc : Value} {od : Option Addr} {sl : Array (Option Value)} {ar : Arguments} {bo : List Stmt} {sc : Scope} {dV kV dc pm cd ct : Value} {an : Option Addr} (C : CodeN K n f c T fd) (l : K.lookup f = some ⟨oc, od, .func (PySem.W.fnOf x q ar bo sc dV kV dc pm an cd ct), sl⟩) : cd = .ref c := by
  obtain ⟨oc', od', sl', l'⟩ := C.l
  rw [l] at l'
  injection l' with l'; injection l' with _ _ l' _; injection l' with l'
  rw [← C.hc, ← l']
theorem len1 {us : List Value} (h : us.length = 1) : ∃ a0, us = [a0] := by
  match us, h with
  | [a0], _ => exact ⟨a0, rfl⟩
theorem len2 {us : List Value} (h : us.length = 2) : ∃ a0 a1, us = [a0, a1] := by
  match us, h with
  | [a0, a1], _ => exact ⟨a0, a1, rfl⟩
theorem len3 {us : List Value} (h : us.length = 3) : ∃ a0 a1 a2, us = [a0, a1, a2] := by
  match us, h with
  | [a0, a1, a2], _ => exact ⟨a0, a1, a2, rfl⟩
theorem all_mk {l : PySem.W.OpenLaw} {w : World} {K : PySem.W.Frag} {h : Heap} {mg : Str → Option Value} {fa : Addr} (X : K.In h) (G : h.Ns mainGlobals mg) (hfa : mg "law" = some (.ref fa))
    {f0 : Addr} {od0 an0 : Option Addr} {sl0 : Array (Option Value)} {oc0 kV0 dc0 pm0 cd0 ct0 : Value}
    {f1 : Addr} {od1 an1 : Option Addr} {sl1 : Array (Option Value)} {oc1 kV1 dc1 pm1 cd1 ct1 : Value}
    {f2 : Addr} {od2 an2 : Option Addr} {sl2 : Array (Option Value)} {oc2 kV2 dc2 pm2 cd2 ct2 : Value}
    {f3 : Addr} {od3 an3 : Option Addr} {sl3 : Array (Option Value)} {oc3 kV3 dc3 pm3 cd3 ct3 : Value}
    {f4 : Addr} {od4 an4 : Option Addr} {sl4 : Array (Option Value)} {oc4 kV4 dc4 pm4 cd4 ct4 : Value}
    {cc4 T4 : Addr} {fdT4 : FuncData}
    {f5 : Addr} {od5 an5 : Option Addr} {sl5 : Array (Option Value)} {oc5 kV5 dc5 pm5 cd5 ct5 : Value}
    {f6 : Addr} {od6 an6 : Option Addr} {sl6 : Array (Option Value)} {oc6 kV6 dc6 pm6 cd6 ct6 : Value}
    {f7 : Addr} {od7 an7 : Option Addr} {sl7 : Array (Option Value)} {oc7 kV7 dc7 pm7 cd7 ct7 : Value}
    {f8 : Addr} {od8 an8 : Option Addr} {sl8 : Array (Option Value)} {oc8 kV8 dc8 pm8 cd8 ct8 : Value}
    {cc8 T8 : Addr} {fdT8 : FuncData}
    {f9 : Addr} {od9 an9 : Option Addr} {sl9 : Array (Option Value)} {oc9 kV9 dc9 pm9 cd9 ct9 : Value}
    {f10 : Addr} {od10 an10 : Option Addr} {sl10 : Array (Option Value)} {oc10 kV10 dc10 pm10 cd10 ct10 : Value}
    {f11 : Addr} {od11 an11 : Option Addr} {sl11 : Array (Option Value)} {oc11 kV11 dc11 pm11 cd11 ct11 : Value}
    {f12 : Addr} {od12 an12 : Option Addr} {sl12 : Array (Option Value)} {oc12 kV12 dc12 pm12 cd12 ct12 : Value}
    {f13 : Addr} {od13 an13 : Option Addr} {sl13 : Array (Option Value)} {oc13 kV13 dc13 pm13 cd13 ct13 : Value}
    {f14 : Addr} {od14 an14 : Option Addr} {sl14 : Array (Option Value)} {oc14 kV14 dc14 pm14 cd14 ct14 : Value}
    {f15 : Addr} {od15 an15 : Option Addr} {sl15 : Array (Option Value)} {oc15 kV15 dc15 pm15 cd15 ct15 : Value}
    {f16 : Addr} {od16 an16 : Option Addr} {sl16 : Array (Option Value)} {oc16 kV16 dc16 pm16 cd16 ct16 : Value}
    {f17 : Addr} {od17 an17 : Option Addr} {sl17 : Array (Option Value)} {oc17 kV17 dc17 pm17 cd17 ct17 : Value}
    {f18 : Addr} {od18 an18 : Option Addr} {sl18 : Array (Option Value)} {oc18 kV18 dc18 pm18 cd18 ct18 : Value}
    {f19 : Addr} {od19 an19 : Option Addr} {sl19 : Array (Option Value)} {oc19 kV19 dc19 pm19 cd19 ct19 : Value}
    {f20 : Addr} {od20 an20 : Option Addr} {sl20 : Array (Option Value)} {oc20 kV20 dc20 pm20 cd20 ct20 : Value}
    {f21 : Addr} {od21 an21 : Option Addr} {sl21 : Array (Option Value)} {oc21 kV21 dc21 pm21 cd21 ct21 : Value}
    {f22 : Addr} {od22 an22 : Option Addr} {sl22 : Array (Option Value)} {oc22 kV22 dc22 pm22 cd22 ct22 : Value}
    {f23 : Addr} {od23 an23 : Option Addr} {sl23 : Array (Option Value)} {oc23 kV23 dc23 pm23 cd23 ct23 : Value}
    {f24 : Addr} {od24 an24 : Option Addr} {sl24 : Array (Option Value)} {oc24 kV24 dc24 pm24 cd24 ct24 : Value}
    {f25 : Addr} {od25 an25 : Option Addr} {sl25 : Array (Option Value)} {oc25 kV25 dc25 pm25 cd25 ct25 : Value}
    {f26 : Addr} {od26 an26 : Option Addr} {sl26 : Array (Option Value)} {oc26 kV26 dc26 pm26 cd26 ct26 : Value}
    {f27 : Addr} {od27 an27 : Option Addr} {sl27 : Array (Option Value)} {oc27 kV27 dc27 pm27 cd27 ct27 : Value}
    {f28 : Addr} {od28 an28 : Option Addr} {sl28 : Array (Option Value)} {oc28 kV28 dc28 pm28 cd28 ct28 : Value}
    {f29 : Addr} {od29 an29 : Option Addr} {sl29 : Array (Option Value)} {oc29 kV29 dc29 pm29 cd29 ct29 : Value}
    {f30 : Addr} {od30 an30 : Option Addr} {sl30 : Array (Option Value)} {oc30 kV30 dc30 pm30 cd30 ct30 : Value}
    {f31 : Addr} {od31 an31 : Option Addr} {sl31 : Array (Option Value)} {oc31 kV31 dc31 pm31 cd31 ct31 : Value}
    {f32 : Addr} {od32 an32 : Option Addr} {sl32 : Array (Option Value)} {oc32 kV32 dc32 pm32 cd32 ct32 : Value}
    {f33 : Addr} {od33 an33 : Option Addr} {sl33 : Array (Option Value)} {oc33 kV33 dc33 pm33 cd33 ct33 : Value}
    {f34 : Addr} {od34 an34 : Option Addr} {sl34 : Array (Option Value)} {oc34 kV34 dc34 pm34 cd34 ct34 : Value}
    {f35 : Addr} {od35 an35 : Option Addr} {sl35 : Array (Option Value)} {oc35 kV35 dc35 pm35 cd35 ct35 : Value}
    {f36 : Addr} {od36 an36 : Option Addr} {sl36 : Array (Option Value)} {oc36 kV36 dc36 pm36 cd36 ct36 : Value}
    {cc36 T36 : Addr} {fdT36 : FuncData}
    {f37 : Addr} {od37 an37 : Option Addr} {sl37 : Array (Option Value)} {oc37 kV37 dc37 pm37 cd37 ct37 : Value}
    {tkA tkB tkC tkD tkE tkF tkG tkH : Tok}
    (CN4 : CodeN K "is_name" f4 cc4 T4 fdT4)
    (CN8 : CodeN K "are_signs" f8 cc8 T8 fdT8)
    (CN36 : CodeN K "are_all_on" f36 cc36 T36 fdT36)
    (a0 : PySem.W.nsIn K mainGlobals "is_whole" = some (some (.ref f0)))
    (l0 : K.lookup f0 = some ⟨oc0, od0, .func (PySem.W.fnOf "is_whole" "is_whole" (defArgs sWhole) (defBody sWhole) (defScope sWhole) .none kV0 dc0 pm0 an0 cd0 ct0), sl0⟩)
    (c0 : PySem.W.codeIn K cd0 "is_whole" = true)
    (a1 : PySem.W.nsIn K mainGlobals "is_whole_within" = some (some (.ref f1)))
    (l1 : K.lookup f1 = some ⟨oc1, od1, .func (PySem.W.fnOf "is_whole_within" "is_whole_within" (defArgs sWithin) (defBody sWithin) (defScope sWithin) .none kV1 dc1 pm1 an1 cd1 ct1), sl1⟩)
    (c1 : PySem.W.codeIn K cd1 "is_whole_within" = true)
    (a2 : PySem.W.nsIn K mainGlobals "is_fraction" = some (some (.ref f2)))
    (l2 : K.lookup f2 = some ⟨oc2, od2, .func (PySem.W.fnOf "is_fraction" "is_fraction" (defArgs sIsF) (defBody sIsF) (defScope sIsF) .none kV2 dc2 pm2 an2 cd2 ct2), sl2⟩)
    (c2 : PySem.W.codeIn K cd2 "is_fraction" = true)
    (a3 : PySem.W.nsIn K mainGlobals "is_above_nought" = some (some (.ref f3)))
    (l3 : K.lookup f3 = some ⟨oc3, od3, .func (PySem.W.fnOf "is_above_nought" "is_above_nought" (defArgs sAbove) (defBody sAbove) (defScope sAbove) .none kV3 dc3 pm3 an3 cd3 ct3), sl3⟩)
    (c3 : PySem.W.codeIn K cd3 "is_above_nought" = true)
    (a4 : PySem.W.nsIn K mainGlobals "is_name" = some (some (.ref f4)))
    (l4 : K.lookup f4 = some ⟨oc4, od4, .func (PySem.W.fnOf "is_name" "is_name" (defArgs sName) (defBody sName) (defScope sName) .none kV4 dc4 pm4 an4 cd4 ct4), sl4⟩)
    (c4 : PySem.W.codeIn K cd4 "is_name" = true)
    (a5 : PySem.W.nsIn K mainGlobals "is_letter" = some (some (.ref f5)))
    (l5 : K.lookup f5 = some ⟨oc5, od5, .func (PySem.W.fnOf "is_letter" "is_letter" (defArgs sLetter) (defBody sLetter) (defScope sLetter) .none kV5 dc5 pm5 an5 cd5 ct5), sl5⟩)
    (c5 : PySem.W.codeIn K cd5 "is_letter" = true)
    (a6 : PySem.W.nsIn K mainGlobals "common_divisor" = some (some (.ref f6)))
    (l6 : K.lookup f6 = some ⟨oc6, od6, .func (PySem.W.fnOf "common_divisor" "common_divisor" (defArgs sGcd) (defBody sGcd) (defScope sGcd) .none kV6 dc6 pm6 an6 cd6 ct6), sl6⟩)
    (c6 : PySem.W.codeIn K cd6 "common_divisor" = true)
    (a7 : PySem.W.nsIn K mainGlobals "look_at_tongue" = some (some (.ref f7)))
    (l7 : K.lookup f7 = some ⟨oc7, od7, .func (PySem.W.fnOf "look_at_tongue" "look_at_tongue" (defArgs sLook) (defBody sLook) (defScope sLook) .none kV7 dc7 pm7 an7 cd7 ct7), sl7⟩)
    (c7 : PySem.W.codeIn K cd7 "look_at_tongue" = true)
    (a8 : PySem.W.nsIn K mainGlobals "are_signs" = some (some (.ref f8)))
    (l8 : K.lookup f8 = some ⟨oc8, od8, .func (PySem.W.fnOf "are_signs" "are_signs" (defArgs sSigns) (defBody sSigns) (defScope sSigns) .none kV8 dc8 pm8 an8 cd8 ct8), sl8⟩)
    (c8 : PySem.W.codeIn K cd8 "are_signs" = true)
    (a9 : PySem.W.nsIn K mainGlobals "is_sign_row" = some (some (.ref f9)))
    (l9 : K.lookup f9 = some ⟨oc9, od9, .func (PySem.W.fnOf "is_sign_row" "is_sign_row" (defArgs sRow) (defBody sRow) (defScope sRow) .none kV9 dc9 pm9 an9 cd9 ct9), sl9⟩)
    (c9 : PySem.W.codeIn K cd9 "is_sign_row" = true)
    (a10 : PySem.W.nsIn K mainGlobals "are_unlike_texts_of" = some (some (.ref f10)))
    (l10 : K.lookup f10 = some ⟨oc10, od10, .func (PySem.W.fnOf "are_unlike_texts_of" "are_unlike_texts_of" (defArgs sUnlike) (defBody sUnlike) (defScope sUnlike) .none kV10 dc10 pm10 an10 cd10 ct10), sl10⟩)
    (c10 : PySem.W.codeIn K cd10 "are_unlike_texts_of" = true)
    (a11 : PySem.W.nsIn K mainGlobals "signs_of" = some (some (.ref f11)))
    (l11 : K.lookup f11 = some ⟨oc11, od11, .func (PySem.W.fnOf "signs_of" "signs_of" (defArgs sSignsOf) (defBody sSignsOf) (defScope sSignsOf) .none kV11 dc11 pm11 an11 cd11 ct11), sl11⟩)
    (c11 : PySem.W.codeIn K cd11 "signs_of" = true)
    (a12 : PySem.W.nsIn K mainGlobals "_law_cell_at" = some (some (.ref f12)))
    (l12 : K.lookup f12 = some ⟨oc12, od12, .func (PySem.W.fnOf "_law_cell_at" "_law_cell_at" (defArgs sCell) (defBody sCell) (defScope sCell) .none kV12 dc12 pm12 an12 cd12 ct12), sl12⟩)
    (c12 : PySem.W.codeIn K cd12 "_law_cell_at" = true)
    (a13 : PySem.W.nsIn K mainGlobals "_law_source" = some (some (.ref f13)))
    (l13 : K.lookup f13 = some ⟨oc13, od13, .func (PySem.W.fnOf "_law_source" "_law_source" (defArgs sSource) (defBody sSource) (defScope sSource) .none kV13 dc13 pm13 an13 cd13 ct13), sl13⟩)
    (c13 : PySem.W.codeIn K cd13 "_law_source" = true)
    (a14 : PySem.W.nsIn K mainGlobals "_law_draw" = some (some (.ref f14)))
    (l14 : K.lookup f14 = some ⟨oc14, od14, .func (PySem.W.fnOf "_law_draw" "_law_draw" (defArgs sDraw) (defBody sDraw) (defScope sDraw) .none kV14 dc14 pm14 an14 cd14 ct14), sl14⟩)
    (c14 : PySem.W.codeIn K cd14 "_law_draw" = true)
    (a15 : PySem.W.nsIn K mainGlobals "_law_low" = some (some (.ref f15)))
    (l15 : K.lookup f15 = some ⟨oc15, od15, .func (PySem.W.fnOf "_law_low" "_law_low" (defArgs sLow) (defBody sLow) (defScope sLow) .none kV15 dc15 pm15 an15 cd15 ct15), sl15⟩)
    (c15 : PySem.W.codeIn K cd15 "_law_low" = true)
    (a16 : PySem.W.nsIn K mainGlobals "_law_price" = some (some (.ref f16)))
    (l16 : K.lookup f16 = some ⟨oc16, od16, .func (PySem.W.fnOf "_law_price" "_law_price" (defArgs sPrice) (defBody sPrice) (defScope sPrice) .none kV16 dc16 pm16 an16 cd16 ct16), sl16⟩)
    (c16 : PySem.W.codeIn K cd16 "_law_price" = true)
    (a17 : PySem.W.nsIn K mainGlobals "_law_tongue" = some (some (.ref f17)))
    (l17 : K.lookup f17 = some ⟨oc17, od17, .func (PySem.W.fnOf "_law_tongue" "_law_tongue" (defArgs sTongue) (defBody sTongue) (defScope sTongue) .none kV17 dc17 pm17 an17 cd17 ct17), sl17⟩)
    (c17 : PySem.W.codeIn K cd17 "_law_tongue" = true)
    (a18 : PySem.W.nsIn K mainGlobals "words_of" = some (some (.ref f18)))
    (l18 : K.lookup f18 = some ⟨oc18, od18, .func (PySem.W.fnOf "words_of" "words_of" (defArgs sWords) (defBody sWords) (defScope sWords) .none kV18 dc18 pm18 an18 cd18 ct18), sl18⟩)
    (c18 : PySem.W.codeIn K cd18 "words_of" = true)
    (a19 : PySem.W.nsIn K mainGlobals "word_counts" = some (some (.ref f19)))
    (l19 : K.lookup f19 = some ⟨oc19, od19, .func (PySem.W.fnOf "word_counts" "word_counts" (defArgs sWCounts) (defBody sWCounts) (defScope sWCounts) .none kV19 dc19 pm19 an19 cd19 ct19), sl19⟩)
    (c19 : PySem.W.codeIn K cd19 "word_counts" = true)
    (a20 : PySem.W.nsIn K mainGlobals "text_counts" = some (some (.ref f20)))
    (l20 : K.lookup f20 = some ⟨oc20, od20, .func (PySem.W.fnOf "text_counts" "text_counts" (defArgs sTCounts) (defBody sTCounts) (defScope sTCounts) .none kV20 dc20 pm20 an20 cd20 ct20), sl20⟩)
    (c20 : PySem.W.codeIn K cd20 "text_counts" = true)
    (a21 : PySem.W.nsIn K mainGlobals "follows" = some (some (.ref f21)))
    (l21 : K.lookup f21 = some ⟨oc21, od21, .func (PySem.W.fnOf "follows" "follows" (defArgs sFollows) (defBody sFollows) (defScope sFollows) .none kV21 dc21 pm21 an21 cd21 ct21), sl21⟩)
    (c21 : PySem.W.codeIn K cd21 "follows" = true)
    (a22 : PySem.W.nsIn K mainGlobals "comers_behind" = some (some (.ref f22)))
    (l22 : K.lookup f22 = some ⟨oc22, od22, .func (PySem.W.fnOf "comers_behind" "comers_behind" (defArgs sComers) (defBody sComers) (defScope sComers) .none kV22 dc22 pm22 an22 cd22 ct22), sl22⟩)
    (c22 : PySem.W.codeIn K cd22 "comers_behind" = true)
    (a23 : PySem.W.nsIn K mainGlobals "counts_by_last_sign" = some (some (.ref f23)))
    (l23 : K.lookup f23 = some ⟨oc23, od23, .func (PySem.W.fnOf "counts_by_last_sign" "counts_by_last_sign" (defArgs sCounts) (defBody sCounts) (defScope sCounts) .none kV23 dc23 pm23 an23 cd23 ct23), sl23⟩)
    (c23 : PySem.W.codeIn K cd23 "counts_by_last_sign" = true)
    (a24 : PySem.W.nsIn K mainGlobals "ends_behind" = some (some (.ref f24)))
    (l24 : K.lookup f24 = some ⟨oc24, od24, .func (PySem.W.fnOf "ends_behind" "ends_behind" (defArgs sEnds) (defBody sEnds) (defScope sEnds) .none kV24 dc24 pm24 an24 cd24 ct24), sl24⟩)
    (c24 : PySem.W.codeIn K cd24 "ends_behind" = true)
    (a25 : PySem.W.nsIn K mainGlobals "words_of_length" = some (some (.ref f25)))
    (l25 : K.lookup f25 = some ⟨oc25, od25, .func (PySem.W.fnOf "words_of_length" "words_of_length" (defArgs sOfLen) (defBody sOfLen) (defScope sOfLen) .none kV25 dc25 pm25 an25 cd25 ct25), sl25⟩)
    (c25 : PySem.W.codeIn K cd25 "words_of_length" = true)
    (a26 : PySem.W.nsIn K mainGlobals "_law_may_come" = some (some (.ref f26)))
    (l26 : K.lookup f26 = some ⟨oc26, od26, .func (PySem.W.fnOf "_law_may_come" "_law_may_come" (defArgs sComes) (defBody sComes) (defScope sComes) .none kV26 dc26 pm26 an26 cd26 ct26), sl26⟩)
    (c26 : PySem.W.codeIn K cd26 "_law_may_come" = true)
    (a27 : PySem.W.nsIn K mainGlobals "_law_texts" = some (some (.ref f27)))
    (l27 : K.lookup f27 = some ⟨oc27, od27, .func (PySem.W.fnOf "_law_texts" "_law_texts" (defArgs sTexts) (defBody sTexts) (defScope sTexts) .none kV27 dc27 pm27 an27 cd27 ct27), sl27⟩)
    (c27 : PySem.W.codeIn K cd27 "_law_texts" = true)
    (a28 : PySem.W.nsIn K mainGlobals "_law_words" = some (some (.ref f28)))
    (l28 : K.lookup f28 = some ⟨oc28, od28, .func (PySem.W.fnOf "_law_words" "_law_words" (defArgs sLWords) (defBody sLWords) (defScope sLWords) .none kV28 dc28 pm28 an28 cd28 ct28), sl28⟩)
    (c28 : PySem.W.codeIn K cd28 "_law_words" = true)
    (a29 : PySem.W.nsIn K mainGlobals "_law_open" = some (some (.ref f29)))
    (l29 : K.lookup f29 = some ⟨oc29, od29, .func (PySem.W.fnOf "_law_open" "_law_open" (defArgs sOpen) (defBody sOpen) (defScope sOpen) .none kV29 dc29 pm29 an29 cd29 ct29), sl29⟩)
    (c29 : PySem.W.codeIn K cd29 "_law_open" = true)
    (a30 : PySem.W.nsIn K mainGlobals "_law_part" = some (some (.ref f30)))
    (l30 : K.lookup f30 = some ⟨oc30, od30, .func (PySem.W.fnOf "_law_part" "_law_part" (defArgs sPart) (defBody sPart) (defScope sPart) .none kV30 dc30 pm30 an30 cd30 ct30), sl30⟩)
    (c30 : PySem.W.codeIn K cd30 "_law_part" = true)
    (a31 : PySem.W.nsIn K mainGlobals "_law_candidates" = some (some (.ref f31)))
    (l31 : K.lookup f31 = some ⟨oc31, od31, .func (PySem.W.fnOf "_law_candidates" "_law_candidates" (defArgs sCand) (defBody sCand) (defScope sCand) .none kV31 dc31 pm31 an31 cd31 ct31), sl31⟩)
    (c31 : PySem.W.codeIn K cd31 "_law_candidates" = true)
    (a32 : PySem.W.nsIn K mainGlobals "candidates_of" = some (some (.ref f32)))
    (l32 : K.lookup f32 = some ⟨oc32, od32, .func (PySem.W.fnOf "candidates_of" "candidates_of" (defArgs sCandOf) (defBody sCandOf) (defScope sCandOf) .none kV32 dc32 pm32 an32 cd32 ct32), sl32⟩)
    (c32 : PySem.W.codeIn K cd32 "candidates_of" = true)
    (a33 : PySem.W.nsIn K mainGlobals "look_at_few_texts" = some (some (.ref f33)))
    (l33 : K.lookup f33 = some ⟨oc33, od33, .func (PySem.W.fnOf "look_at_few_texts" "look_at_few_texts" (defArgs sFew) (defBody sFew) (defScope sFew) .none kV33 dc33 pm33 an33 cd33 ct33), sl33⟩)
    (c33 : PySem.W.codeIn K cd33 "look_at_few_texts" = true)
    (a34 : PySem.W.nsIn K mainGlobals "candidates_among" = some (some (.ref f34)))
    (l34 : K.lookup f34 = some ⟨oc34, od34, .func (PySem.W.fnOf "candidates_among" "candidates_among" (defArgs sAmong) (defBody sAmong) (defScope sAmong) .none kV34 dc34 pm34 an34 cd34 ct34), sl34⟩)
    (c34 : PySem.W.codeIn K cd34 "candidates_among" = true)
    (a35 : PySem.W.nsIn K mainGlobals "goes_with" = some (some (.ref f35)))
    (l35 : K.lookup f35 = some ⟨oc35, od35, .func (PySem.W.fnOf "goes_with" "goes_with" (defArgs sGoes) (defBody sGoes) (defScope sGoes) .none kV35 dc35 pm35 an35 cd35 ct35), sl35⟩)
    (c35 : PySem.W.codeIn K cd35 "goes_with" = true)
    (a36 : PySem.W.nsIn K mainGlobals "are_all_on" = some (some (.ref f36)))
    (l36 : K.lookup f36 = some ⟨oc36, od36, .func (PySem.W.fnOf "are_all_on" "are_all_on" (defArgs sAllOn) (defBody sAllOn) (defScope sAllOn) .none kV36 dc36 pm36 an36 cd36 ct36), sl36⟩)
    (c36 : PySem.W.codeIn K cd36 "are_all_on" = true)
    (a37 : PySem.W.nsIn K mainGlobals "law" = some (some (.ref f37)))
    (l37 : K.lookup f37 = some ⟨oc37, od37, .func (PySem.W.fnOf "law" "law" (defArgs sLaw) (defBody sLaw) (defScope sLaw) .none kV37 dc37 pm37 an37 cd37 ct37), sl37⟩)
    (c37 : PySem.W.codeIn K cd37 "law" = true)
    (aLe : PySem.W.nsIn K mainGlobals "LETTERS" = some (some (.str letters tkA)))
    (aLo : PySem.W.nsIn K mainGlobals "LONGEST_NAME" = some (some (.int 8 tkB)))
    (aFe : PySem.W.nsIn K mainGlobals "FEWEST_SIGNS" = some (some (.int 2 tkC)))
    (aMo : PySem.W.nsIn K mainGlobals "MOST_SIGNS" = some (some (.int 6 tkD)))
    (aLw : PySem.W.nsIn K mainGlobals "LONGEST_WORD" = some (some (.int 8 tkE)))
    (aMw : PySem.W.nsIn K mainGlobals "MOST_WORDS_words" = some (some (.int 5000 tkF)))
    (aMp : PySem.W.nsIn K mainGlobals "MOST_WORDS_parts" = some (some (.int 400 tkG)))
    (aMt : PySem.W.nsIn K mainGlobals "MOST_TEXTS" = some (some (.int 1000 tkH)))
    (z_isi : PySem.W.nsIn K mainGlobals "isinstance" = some none)
    (z_int : PySem.W.nsIn K mainGlobals "int" = some none)
    (z_bool : PySem.W.nsIn K mainGlobals "bool" = some none)
    (z_tuple : PySem.W.nsIn K mainGlobals "tuple" = some none)
    (z_abs : PySem.W.nsIn K mainGlobals "abs" = some none)
    (z_len : PySem.W.nsIn K mainGlobals "len" = some none)
    (z_enum : PySem.W.nsIn K mainGlobals "enumerate" = some none)
    (z_str : PySem.W.nsIn K mainGlobals "str" = some none)
    (z_range : PySem.W.nsIn K mainGlobals "range" = some none)
    (z_max : PySem.W.nsIn K mainGlobals "max" = some none)
    (z_all : PySem.W.nsIn K mainGlobals "all" = some none)
    (z_set : PySem.W.nsIn K mainGlobals "set" = some none)
    (z_list : PySem.W.nsIn K mainGlobals "list" = some none)
    (z_min : PySem.W.nsIn K mainGlobals "min" = some none)
    (z_sum : PySem.W.nsIn K mainGlobals "sum" = some none)
    (z_dict : PySem.W.nsIn K mainGlobals "dict" = some none)
    (z_any : PySem.W.nsIn K mainGlobals "any" = some none)
    (z_reversed : PySem.W.nsIn K mainGlobals "reversed" = some none) :
    ∃ fd : FuncData, (∀ (s : Shared) (v : Value), BindsTo s fd ⟨[v], []⟩ [("_law_script", v)]) ∧ ∀ base : Heap, K.In base → base.Ns mainGlobals mg → BmOf mg base → FnOk l.prog w K mg base (CXE l.prog w) 11 fa fd ["_law_script"] (spLaw (tbOf K "is_name") (tbOf K "are_signs") (tbOf K "are_all_on") K) := by
  have e := hfa.symm.trans (PySem.W.mg_of X G a37)
  cases e
  have B : Bl mg := ⟨PySem.W.mg_none_of X G z_isi, PySem.W.mg_none_of X G z_int, PySem.W.mg_none_of X G z_bool, PySem.W.mg_none_of X G z_tuple, PySem.W.mg_none_of X G z_abs, PySem.W.mg_none_of X G z_len, PySem.W.mg_none_of X G z_enum, PySem.W.mg_none_of X G z_str, PySem.W.mg_none_of X G z_range, PySem.W.mg_none_of X G z_max, PySem.W.mg_none_of X G z_all, PySem.W.mg_none_of X G z_set, PySem.W.mg_none_of X G z_list, PySem.W.mg_none_of X G z_min, PySem.W.mg_none_of X G z_sum, PySem.W.mg_none_of X G z_dict, PySem.W.mg_none_of X G z_any, PySem.W.mg_none_of X G z_reversed⟩
  have hcd4 := cd_of CN4 l4
  subst hcd4
  rw [CN4.tb]
  have hcd8 := cd_of CN8 l8
  subst hcd8
  rw [CN8.tb]
  have hcd36 := cd_of CN36 l36
  subst hcd36
  rw [CN36.tb]
  have k0 := keep_of l0
  have F0 := fung_mk (st := sWhole) l0 c0 k0
  have k1 := keep_of l1
  have F1 := fung_mk (st := sWithin) l1 c1 k1
  have k2 := keep_of l2
  have F2 := fung_mk (st := sIsF) l2 c2 k2
  have k3 := keep_of l3
  have F3 := fung_mk (st := sAbove) l3 c3 k3
  have k4 := keep_of l4
  have F4 := fung_mk (st := sName) l4 c4 k4
  have k5 := keep_of l5
  have F5 := fung_mk (st := sLetter) l5 c5 k5
  have k6 := keep_of l6
  have F6 := fung_mk (st := sGcd) l6 c6 k6
  have k7 := keep_of l7
  have F7 := fung_mk (st := sLook) l7 c7 k7
  have k8 := keep_of l8
  have F8 := fung_mk (st := sSigns) l8 c8 k8
  have k9 := keep_of l9
  have F9 := fung_mk (st := sRow) l9 c9 k9
  have k10 := keep_of l10
  have F10 := fung_mk (st := sUnlike) l10 c10 k10
  have k11 := keep_of l11
  have F11 := fung_mk (st := sSignsOf) l11 c11 k11
  have k12 := keep_of l12
  have F12 := fung_mk (st := sCell) l12 c12 k12
  have k13 := keep_of l13
  have F13 := fung_mk (st := sSource) l13 c13 k13
  have k14 := keep_of l14
  have F14 := fung_mk (st := sDraw) l14 c14 k14
  have k15 := keep_of l15
  have F15 := fung_mk (st := sLow) l15 c15 k15
  have k16 := keep_of l16
  have F16 := fung_mk (st := sPrice) l16 c16 k16
  have k17 := keep_of l17
  have F17 := fung_mk (st := sTongue) l17 c17 k17
  have k18 := keep_of l18
  have F18 := fung_mk (st := sWords) l18 c18 k18
  have k19 := keep_of l19
  have F19 := fung_mk (st := sWCounts) l19 c19 k19
  have k20 := keep_of l20
  have F20 := fung_mk (st := sTCounts) l20 c20 k20
  have k21 := keep_of l21
  have F21 := fung_mk (st := sFollows) l21 c21 k21
  have k22 := keep_of l22
  have F22 := fung_mk (st := sComers) l22 c22 k22
  have k23 := keep_of l23
  have F23 := fung_mk (st := sCounts) l23 c23 k23
  have k24 := keep_of l24
  have F24 := fung_mk (st := sEnds) l24 c24 k24
  have k25 := keep_of l25
  have F25 := fung_mk (st := sOfLen) l25 c25 k25
  have k26 := keep_of l26
  have F26 := fung_mk (st := sComes) l26 c26 k26
  have k27 := keep_of l27
  have F27 := fung_mk (st := sTexts) l27 c27 k27
  have k28 := keep_of l28
  have F28 := fung_mk (st := sLWords) l28 c28 k28
  have k29 := keep_of l29
  have F29 := fung_mk (st := sOpen) l29 c29 k29
  have k30 := keep_of l30
  have F30 := fung_mk (st := sPart) l30 c30 k30
  have k31 := keep_of l31
  have F31 := fung_mk (st := sCand) l31 c31 k31
  have k32 := keep_of l32
  have F32 := fung_mk (st := sCandOf) l32 c32 k32
  have k33 := keep_of l33
  have F33 := fung_mk (st := sFew) l33 c33 k33
  have k34 := keep_of l34
  have F34 := fung_mk (st := sAmong) l34 c34 k34
  have k35 := keep_of l35
  have F35 := fung_mk (st := sGoes) l35 c35 k35
  have k36 := keep_of l36
  have F36 := fung_mk (st := sAllOn) l36 c36 k36
  have k37 := keep_of l37
  have F37 := fung_mk (st := sLaw) l37 c37 k37
  have b0 := F0.binds (ps := ["thing"]) fun _ _ _ _ _ _ us hl => by obtain ⟨_, rfl⟩ := len1 hl; rfl
  have b1 := F1.binds (ps := ["thing", "least", "most"]) fun _ _ _ _ _ _ us hl => by obtain ⟨_, _, _, rfl⟩ := len3 hl; rfl
  have b2 := F2.binds (ps := ["thing"]) fun _ _ _ _ _ _ us hl => by obtain ⟨_, rfl⟩ := len1 hl; rfl
  have b3 := F3.binds (ps := ["thing"]) fun _ _ _ _ _ _ us hl => by obtain ⟨_, rfl⟩ := len1 hl; rfl
  have b4 := F4.binds (ps := ["thing"]) fun _ _ _ _ _ _ us hl => by obtain ⟨_, rfl⟩ := len1 hl; rfl
  have b5 := F5.binds (ps := ["thing"]) fun _ _ _ _ _ _ us hl => by obtain ⟨_, rfl⟩ := len1 hl; rfl
  have b6 := F6.binds (ps := ["one", "other"]) fun _ _ _ _ _ _ us hl => by obtain ⟨_, _, rfl⟩ := len2 hl; rfl
  have b7 := F7.binds (ps := ["thing"]) fun _ _ _ _ _ _ us hl => by obtain ⟨_, rfl⟩ := len1 hl; rfl
  have b8 := F8.binds (ps := ["thing"]) fun _ _ _ _ _ _ us hl => by obtain ⟨_, rfl⟩ := len1 hl; rfl
  have b9 := F9.binds (ps := ["thing"]) fun _ _ _ _ _ _ us hl => by obtain ⟨_, rfl⟩ := len1 hl; rfl
  have b10 := F10.binds (ps := ["choices", "thing"]) fun _ _ _ _ _ _ us hl => by obtain ⟨_, _, rfl⟩ := len2 hl; rfl
  have b11 := F11.binds (ps := ["tongue"]) fun _ _ _ _ _ _ us hl => by obtain ⟨_, rfl⟩ := len1 hl; rfl
  have b12 := F12.binds (ps := ["_law_script", "_law_k"]) fun _ _ _ _ _ _ us hl => by obtain ⟨_, _, rfl⟩ := len2 hl; rfl
  have b13 := F13.binds (ps := ["_law_cell", "_law_k"]) fun _ _ _ _ _ _ us hl => by obtain ⟨_, _, rfl⟩ := len2 hl; rfl
  have b14 := F14.binds (ps := ["_law_source_here", "_law_many"]) fun _ _ _ _ _ _ us hl => by obtain ⟨_, _, rfl⟩ := len2 hl; rfl
  have b15 := F15.binds (ps := ["_law_top", "_law_bottom"]) fun _ _ _ _ _ _ us hl => by obtain ⟨_, _, rfl⟩ := len2 hl; rfl
  have b16 := F16.binds (ps := ["_law_source_here"]) fun _ _ _ _ _ _ us hl => by obtain ⟨_, rfl⟩ := len1 hl; rfl
  have b17 := F17.binds (ps := ["_law_source_here", "_law_most_signs", "_law_most_texts"]) fun _ _ _ _ _ _ us hl => by obtain ⟨_, _, _, rfl⟩ := len3 hl; rfl
  have b18 := F18.binds (ps := ["tongue"]) fun _ _ _ _ _ _ us hl => by obtain ⟨_, rfl⟩ := len1 hl; rfl
  have b19 := F19.binds (ps := ["tongue"]) fun _ _ _ _ _ _ us hl => by obtain ⟨_, rfl⟩ := len1 hl; rfl
  have b20 := F20.binds (ps := ["tongue"]) fun _ _ _ _ _ _ us hl => by obtain ⟨_, rfl⟩ := len1 hl; rfl
  have b21 := F21.binds (ps := ["tongue", "ahead", "sign"]) fun _ _ _ _ _ _ us hl => by obtain ⟨_, _, _, rfl⟩ := len3 hl; rfl
  have b22 := F22.binds (ps := ["tongue"]) fun _ _ _ _ _ _ us hl => by obtain ⟨_, rfl⟩ := len1 hl; rfl
  have b23 := F23.binds (ps := ["tongue"]) fun _ _ _ _ _ _ us hl => by obtain ⟨_, rfl⟩ := len1 hl; rfl
  have b24 := F24.binds (ps := ["tongue"]) fun _ _ _ _ _ _ us hl => by obtain ⟨_, rfl⟩ := len1 hl; rfl
  have b25 := F25.binds (ps := ["length", "comers", "ends"]) fun _ _ _ _ _ _ us hl => by obtain ⟨_, _, _, rfl⟩ := len3 hl; rfl
  have b26 := F26.binds (ps := ["_law_tongue_here", "_law_ahead", "_law_sign"]) fun _ _ _ _ _ _ us hl => by obtain ⟨_, _, _, rfl⟩ := len3 hl; rfl
  have b27 := F27.binds (ps := ["_law_tongue_here"]) fun _ _ _ _ _ _ us hl => by obtain ⟨_, rfl⟩ := len1 hl; rfl
  have b28 := F28.binds (ps := ["_law_tongue_here"]) fun _ _ _ _ _ _ us hl => by obtain ⟨_, rfl⟩ := len1 hl; rfl
  have b29 := F29.binds (ps := ["_law_said", "_law_texts_here"]) fun _ _ _ _ _ _ us hl => by obtain ⟨_, _, rfl⟩ := len2 hl; rfl
  have b30 := F30.binds (ps := ["_law_source_here", "_law_texts_here", "_law_many"]) fun _ _ _ _ _ _ us hl => by obtain ⟨_, _, _, rfl⟩ := len3 hl; rfl
  have b31 := F31.binds (ps := ["_law_words_here", "_law_said"]) fun _ _ _ _ _ _ us hl => by obtain ⟨_, _, rfl⟩ := len2 hl; rfl
  have b32 := F32.binds (ps := ["tongue", "part"]) fun _ _ _ _ _ _ us hl => by obtain ⟨_, _, rfl⟩ := len2 hl; rfl
  have b33 := F33.binds (ps := ["tongue"]) fun _ _ _ _ _ _ us hl => by obtain ⟨_, rfl⟩ := len1 hl; rfl
  have b34 := F34.binds (ps := ["words", "said"]) fun _ _ _ _ _ _ us hl => by obtain ⟨_, _, rfl⟩ := len2 hl; rfl
  have b35 := F35.binds (ps := ["said", "word"]) fun _ _ _ _ _ _ us hl => by obtain ⟨_, _, rfl⟩ := len2 hl; rfl
  have b36 := F36.binds (ps := ["said", "texts"]) fun _ _ _ _ _ _ us hl => by obtain ⟨_, _, rfl⟩ := len2 hl; rfl
  refine ⟨PySem.W.fnOf "law" "law" (defArgs sLaw) (defBody sLaw) (defScope sLaw) .none kV37 dc37 pm37 an37 cd37 ct37, fun s v => .of_eq rfl, fun base _ _ BM => ?_⟩
  have GW := ok_whole (P := l.prog) (w := w) (mg := mg) (base := base) F0 B
  have GI := ok_within (P := l.prog) (w := w) (mg := mg) (base := base) F1 GW (PySem.W.mg_of X G a0) k0 b0
  have GG := ok_gcd (P := l.prog) (w := w) (mg := mg) (base := base) F6 B
  have GF := ok_isF (P := l.prog) (w := w) (mg := mg) (base := base) F2 B GW (PySem.W.mg_of X G a0) k0 b0 GG (PySem.W.mg_of X G a6) k6 b6
  have GN := ok_name (P := l.prog) (w := w) (mg := mg) (base := base) l4 c4 B CN4.ck BM (PySem.W.mg_of X G aLe) (PySem.W.mg_of X G aLo)
  have GL := ok_letter (P := l.prog) (w := w) (mg := mg) (base := base) F5 B GN (PySem.W.mg_of X G a4) k4 b4
  have GA := ok_above (P := l.prog) (w := w) (mg := mg) (base := base) F3 GF (PySem.W.mg_of X G a2) k2 b2
  have GR := ok_row (P := l.prog) (w := w) (mg := mg) (base := base) F9 B GL (PySem.W.mg_of X G a5) k5 b5 GA (PySem.W.mg_of X G a3) k3 b3
  have GSi := ok_signs (P := l.prog) (w := w) (mg := mg) (base := base) (Ts := [T36]) l8 c8 B CN8.ck BM (PySem.W.mg_of X G aFe) (PySem.W.mg_of X G aMo) GR (PySem.W.mg_of X G a9) k9 b9
  have GSo := ok_signsOf (P := l.prog) (w := w) (mg := mg) (base := base) F11
  have GUl := ok_unlike (P := l.prog) (w := w) (mg := mg) (base := base) F10 B
  have GLk := ok_look (P := l.prog) (w := w) (mg := mg) (base := base) (Ts := [T36]) F7 B (PySem.W.mg_of X G aLw) GSi (PySem.W.mg_of X G a8) k8 b8 GSo (PySem.W.mg_of X G a11) k11 b11 GUl (PySem.W.mg_of X G a10) k10 b10 GI (PySem.W.mg_of X G a1) k1 b1
  have GFo := ok_follows (P := l.prog) (w := w) (mg := mg) (base := base) F21
  have GCb := ok_comers (P := l.prog) (w := w) (mg := mg) (base := base) F22 GSo (PySem.W.mg_of X G a11) k11 b11 GFo (PySem.W.mg_of X G a21) k21 b21
  have GEn := ok_ends (P := l.prog) (w := w) (mg := mg) (base := base) F24 B GSo (PySem.W.mg_of X G a11) k11 b11 GCb (PySem.W.mg_of X G a22) k22 b22
  have GCt := ok_counts (P := l.prog) (w := w) (mg := mg) (base := base) F23 B GSo (PySem.W.mg_of X G a11) k11 b11 GCb (PySem.W.mg_of X G a22) k22 b22
  have GWc := ok_wcounts (P := l.prog) (w := w) (mg := mg) (base := base) (Ts := [T36]) F19 B GLk (PySem.W.mg_of X G a7) k7 b7 GCt (PySem.W.mg_of X G a23) k23 b23
  have GTc := ok_tcounts (P := l.prog) (w := w) (mg := mg) (base := base) (Ts := [T36]) F20 B GLk (PySem.W.mg_of X G a7) k7 b7 GCt (PySem.W.mg_of X G a23) k23 b23
  have GOl := ok_oflen (P := l.prog) (w := w) (mg := mg) (base := base) F25 B
  have GWo := ok_words (P := l.prog) (w := w) (mg := mg) (base := base) (Ts := [T36]) F18 B (PySem.W.mg_of X G aMw) GLk (PySem.W.mg_of X G a7) k7 b7 GWc (PySem.W.mg_of X G a19) k19 b19 GCb (PySem.W.mg_of X G a22) k22 b22 GEn (PySem.W.mg_of X G a24) k24 b24 GOl (PySem.W.mg_of X G a25) k25 b25
  have GAo := ok_allon (P := l.prog) (w := w) (mg := mg) (base := base) l36 c36 B CN36.ck BM
  have GGo := ok_goes (P := l.prog) (w := w) (mg := mg) (base := base) (T1 := T4) (T2 := T8) (T3 := T36) F35 B GAo (PySem.W.mg_of X G a36) k36 b36
  have GAm := ok_among (P := l.prog) (w := w) (mg := mg) (base := base) (T1 := T4) (T2 := T8) (T3 := T36) F34 B GGo (PySem.W.mg_of X G a35) k35 b35
  have GFe := ok_few (P := l.prog) (w := w) (mg := mg) (base := base) (T1 := T4) (T2 := T8) (T3 := T36) F33 B (PySem.W.mg_of X G aMp) (PySem.W.mg_of X G aMt) GWc (PySem.W.mg_of X G a19) k19 b19 GTc (PySem.W.mg_of X G a20) k20 b20
  have GCf := ok_candof (P := l.prog) (w := w) (mg := mg) (base := base) (T1 := T4) (T2 := T8) (T3 := T36) F32 B GLk (PySem.W.mg_of X G a7) k7 b7 GWo (PySem.W.mg_of X G a18) k18 b18 GAm (PySem.W.mg_of X G a34) k34 b34 GFe (PySem.W.mg_of X G a33) k33 b33
  have GCe := ok_cell (P := l.prog) (w := w) (mg := mg) (base := base) F12 B
  have GSr := ok_source (P := l.prog) (w := w) (mg := mg) (base := base) F13 B
  have GD := ok_draw (P := l.prog) (w := w) (mg := mg) (base := base) F14
  have GLo := ok_low (P := l.prog) (w := w) (mg := mg) (base := base) F15 B
  have GPr := ok_price (P := l.prog) (w := w) (mg := mg) (base := base) F16 GD (PySem.W.mg_of X G a14) k14 b14 GLo (PySem.W.mg_of X G a15) k15 b15
  have GMc := ok_comes (P := l.prog) (w := w) (mg := mg) (base := base) F26
  have GTx := ok_texts (P := l.prog) (w := w) (mg := mg) (base := base) F27 B GMc (PySem.W.mg_of X G a26) k26 b26
  have GTo := ok_tongue (P := l.prog) (w := w) (mg := mg) (base := base) F17 B GD (PySem.W.mg_of X G a14) k14 b14 GPr (PySem.W.mg_of X G a16) k16 b16 GTx (PySem.W.mg_of X G a27) k27 b27
  have GLw := ok_lwords (P := l.prog) (w := w) (mg := mg) (base := base) F28 B GTx (PySem.W.mg_of X G a27) k27 b27
  have GOp := ok_open (P := l.prog) (w := w) (mg := mg) (base := base) F29 B
  have GPa := ok_part (P := l.prog) (w := w) (mg := mg) (base := base) F30 B GOp (PySem.W.mg_of X G a29) k29 b29 GD (PySem.W.mg_of X G a14) k14 b14
  have GCd := ok_cand (P := l.prog) (w := w) (mg := mg) (base := base) F31 B
  exact ok_law (T1 := T4) (T2 := T8) (T3 := T36) F37 B GCe (PySem.W.mg_of X G a12) k12 b12 GSr (PySem.W.mg_of X G a13) k13 b13 GD (PySem.W.mg_of X G a14) k14 b14 GTo (PySem.W.mg_of X G a17) k17 b17 GTx (PySem.W.mg_of X G a27) k27 b27 GLw (PySem.W.mg_of X G a28) k28 b28 GPa (PySem.W.mg_of X G a30) k30 b30 GCd (PySem.W.mg_of X G a31) k31 b31 GCf (PySem.W.mg_of X G a32) k32 b32
theorem walk {l : PySem.W.OpenLaw} {q : Program} {loose : List Str} {XP : (Str → Option Value) → Heap → Prop} {YP : World → Heap → Prop} {d : DefRec} {K : Params → PySem.W.Frag} (hn : l.most = some 63) (hdf : d.params.defaults = [])
    (hY : ∀ (w : World) (h : Heap), YP w h → (K w.params).In h) (hf : HF q ["is_name", "are_signs", "are_all_on"]) (hC : ∀ w : World, HC (K w.params) ["is_name", "are_signs", "are_all_on"]) (hKT : ∀ w : World, HT0 (K w.params) ["is_name", "are_signs", "are_all_on"])
    (F : ∀ (w : World) (mg : Str → Option Value) (fa : Addr) (h : Heap), (K w.params).In h → h.Ns mainGlobals mg → mg d.name = some (.ref fa) →
      ∃ fd : FuncData, (∀ (s : Shared) (u : Value), BindsTo s fd ⟨[u], []⟩ [("_law_script", u)]) ∧ ∀ base : Heap, (K w.params).In base → base.Ns mainGlobals mg → BmOf mg base → FnOk l.prog w (K w.params) mg base (CXE l.prog w) 11 fa fd ["_law_script"] (spLaw (tbOf (K w.params) "is_name") (tbOf (K w.params) "are_signs") (tbOf (K w.params) "are_all_on") (K w.params))) :
    PySem.W.WalkO q loose XP YP l.row.toRowW d [] (fun f vs => PySem.call f vs) := by
  refine L2.walk_ofN ["is_name", "are_signs", "are_all_on"] (n := 63) (k := 11) (x := "_law_script") (CX := fun w => CXE l.prog w) (sp := fun w => spLaw (tbOf (K w.params) "is_name") (tbOf (K w.params) "are_signs") (tbOf (K w.params) "are_all_on") (K w.params)) hn (by decide) hdf ⟨rfl, by decide, by decide⟩ hY hf hC hKT F ?_ fun _ _ _ _ _ z => ?_
  · intro w H a ns hl hT hS
    exact ⟨a, ns, rfl, hS, hl, ⟨#[], hT "is_name" (by simp), trivial⟩, ⟨#[], hT "are_signs" (by simp), trivial⟩, ⟨#[], hT "are_all_on" (by simp), trivial⟩, fun _ => rfl⟩
  · obtain ⟨_, _, _, _, _, _, _, _, _, _, _, _, z⟩ := z
    exact z
theorem walkF {l : PySem.W.OpenLaw} {q : Program} {loose : List Str} {XP : (Str → Option Value) → Heap → Prop} {d : DefRec} {K : Params → PySem.W.Frag} (hn : l.most = some 63) (hdf : d.params.defaults = [])
    (hf : HF q ["is_name", "are_signs", "are_all_on"]) (hC : ∀ w : World, HC (filt (K w.params)) ["is_name", "are_signs", "are_all_on"]) (hKT : ∀ w : World, HT0 (filt (K w.params)) ["is_name", "are_signs", "are_all_on"])
    (F : ∀ (w : World) (mg : Str → Option Value) (fa : Addr) (h : Heap), (filt (K w.params)).In h → h.Ns mainGlobals mg → mg d.name = some (.ref fa) →
      ∃ fd : FuncData, (∀ (s : Shared) (u : Value), BindsTo s fd ⟨[u], []⟩ [("_law_script", u)]) ∧ ∀ base : Heap, (filt (K w.params)).In base → base.Ns mainGlobals mg → BmOf mg base → FnOk l.prog w (filt (K w.params)) mg base (CXE l.prog w) 11 fa fd ["_law_script"] (spLaw (tbOf (filt (K w.params)) "is_name") (tbOf (filt (K w.params)) "are_signs") (tbOf (filt (K w.params)) "are_all_on") (filt (K w.params)))) :
    PySem.W.WalkO q loose XP (fun w h => (filt (K w.params)).In h) l.row.toRowW d [] (fun f vs => PySem.call f vs) :=
  walk (K := fun P => filt (K P)) hn hdf (fun w h Y => Y) hf hC hKT F
end G1
open PySem PySem.W PyProof.Rows
local macro_rules | `(tactic| refine $t) => `(tactic| (refine' $t; try (case hl => exact HD.left_cut HP.e1 (by kernel_rfl) HP.e2 HP.pre HP.blk HP.body HP.chain (by kernel_rfl) HP.look1 (fun w => by kernel_rfl) (fun w => by kernel_rfl))))
set_option maxRecDepth 100000 in
set_option maxHeartbeats 0 in
theorem PySem.Challenge.cw_dearsigns_k38_candidates_of_parts_holds : PySem.Challenge.rw_dearsigns_k38_candidates_of_parts.Holds := by
  w_on; o_law; z_head; (case hw => w_witness2)
  k_fill
  refine L2.walkX_of (fun _ => by kernel_rfl) (G1.walkF (l := PySem.Challenge.rw_dearsigns_k38_candidates_of_parts) rfl rfl ⟨⟨_, rfl⟩, ⟨_, rfl⟩, ⟨_, rfl⟩, trivial⟩ ?C ?KT ?F)
  case C =>
    intro w
    refine' ⟨⟨_, _, _, _, L2.codeN_mk ?x0_a ?x0_l ?x0_hc ?x0_lc ?x0_h11 ?x0_h18 ?x0_h7 ?x0_h9 ?x0_h10 ?x0_ne⟩, ⟨_, _, _, _, L2.codeN_mk ?x1_a ?x1_l ?x1_hc ?x1_lc ?x1_h11 ?x1_h18 ?x1_h7 ?x1_h9 ?x1_h10 ?x1_ne⟩, ⟨_, _, _, _, L2.codeN_mk ?x2_a ?x2_l ?x2_hc ?x2_lc ?x2_h11 ?x2_h18 ?x2_h7 ?x2_h9 ?x2_h10 ?x2_ne⟩, trivial⟩
    (case x0_a => refine L2.filt_ns ?_; k_is)
    (case x0_l => refine L2.filt_look ?zz1 ?zz2; (case zz1 => k_is); (case zz2 => rfl))
    (case x0_hc => rfl)
    (case x0_lc => refine L2.filt_look ?zz1 ?zz2; (case zz1 => k_is); (case zz2 => rfl))
    (case x0_h11 => rfl)
    (case x0_h18 => rfl)
    (case x0_h7 => rfl)
    (case x0_h9 => rfl)
    (case x0_h10 => rfl)
    (case x0_ne => decide)
    (case x1_a => refine L2.filt_ns ?_; k_is)
    (case x1_l => refine L2.filt_look ?zz1 ?zz2; (case zz1 => k_is); (case zz2 => rfl))
    (case x1_hc => rfl)
    (case x1_lc => refine L2.filt_look ?zz1 ?zz2; (case zz1 => k_is); (case zz2 => rfl))
    (case x1_h11 => rfl)
    (case x1_h18 => rfl)
    (case x1_h7 => rfl)
    (case x1_h9 => rfl)
    (case x1_h10 => rfl)
    (case x1_ne => decide)
    (case x2_a => refine L2.filt_ns ?_; k_is)
    (case x2_l => refine L2.filt_look ?zz1 ?zz2; (case zz1 => k_is); (case zz2 => rfl))
    (case x2_hc => rfl)
    (case x2_lc => refine L2.filt_look ?zz1 ?zz2; (case zz1 => k_is); (case zz2 => rfl))
    (case x2_h11 => rfl)
    (case x2_h18 => rfl)
    (case x2_h7 => rfl)
    (case x2_h9 => rfl)
    (case x2_h10 => rfl)
    (case x2_ne => decide)
  case KT =>
    intro w
    exact ⟨by kernel_rfl, by kernel_rfl, by kernel_rfl, trivial⟩
  case F =>
    intro w mg fa h KX G hmg
    refine' G1.all_mk KX G hmg (L2.codeN_mk ?y0_a ?y0_l ?y0_hc ?y0_lc ?y0_h11 ?y0_h18 ?y0_h7 ?y0_h9 ?y0_h10 ?y0_ne) (L2.codeN_mk ?y1_a ?y1_l ?y1_hc ?y1_lc ?y1_h11 ?y1_h18 ?y1_h7 ?y1_h9 ?y1_h10 ?y1_ne) (L2.codeN_mk ?y2_a ?y2_l ?y2_hc ?y2_lc ?y2_h11 ?y2_h18 ?y2_h7 ?y2_h9 ?y2_h10 ?y2_ne) ?a0 ?l0 ?c0 ?a1 ?l1 ?c1 ?a2 ?l2 ?c2 ?a3 ?l3 ?c3 ?a4 ?l4 ?c4 ?a5 ?l5 ?c5 ?a6 ?l6 ?c6 ?a7 ?l7 ?c7 ?a8 ?l8 ?c8 ?a9 ?l9 ?c9 ?a10 ?l10 ?c10 ?a11 ?l11 ?c11 ?a12 ?l12 ?c12 ?a13 ?l13 ?c13 ?a14 ?l14 ?c14 ?a15 ?l15 ?c15 ?a16 ?l16 ?c16 ?a17 ?l17 ?c17 ?a18 ?l18 ?c18 ?a19 ?l19 ?c19 ?a20 ?l20 ?c20 ?a21 ?l21 ?c21 ?a22 ?l22 ?c22 ?a23 ?l23 ?c23 ?a24 ?l24 ?c24 ?a25 ?l25 ?c25 ?a26 ?l26 ?c26 ?a27 ?l27 ?c27 ?a28 ?l28 ?c28 ?a29 ?l29 ?c29 ?a30 ?l30 ?c30 ?a31 ?l31 ?c31 ?a32 ?l32 ?c32 ?a33 ?l33 ?c33 ?a34 ?l34 ?c34 ?a35 ?l35 ?c35 ?a36 ?l36 ?c36 ?a37 ?l37 ?c37 ?aLe ?aLo ?aFe ?aMo ?aLw ?aMw ?aMp ?aMt ?z_isi ?z_int ?z_bool ?z_tuple ?z_abs ?z_len ?z_enum ?z_str ?z_range ?z_max ?z_all ?z_set ?z_list ?z_min ?z_sum ?z_dict ?z_any ?z_reversed
    (case y0_a => refine L2.filt_ns ?_; k_is)
    (case y0_l => refine L2.filt_look ?zz1 ?zz2; (case zz1 => k_is); (case zz2 => rfl))
    (case y0_hc => rfl)
    (case y0_lc => refine L2.filt_look ?zz1 ?zz2; (case zz1 => k_is); (case zz2 => rfl))
    (case y0_h11 => rfl)
    (case y0_h18 => rfl)
    (case y0_h7 => rfl)
    (case y0_h9 => rfl)
    (case y0_h10 => rfl)
    (case y0_ne => decide)
    (case y1_a => refine L2.filt_ns ?_; k_is)
    (case y1_l => refine L2.filt_look ?zz1 ?zz2; (case zz1 => k_is); (case zz2 => rfl))
    (case y1_hc => rfl)
    (case y1_lc => refine L2.filt_look ?zz1 ?zz2; (case zz1 => k_is); (case zz2 => rfl))
    (case y1_h11 => rfl)
    (case y1_h18 => rfl)
    (case y1_h7 => rfl)
    (case y1_h9 => rfl)
    (case y1_h10 => rfl)
    (case y1_ne => decide)
    (case y2_a => refine L2.filt_ns ?_; k_is)
    (case y2_l => refine L2.filt_look ?zz1 ?zz2; (case zz1 => k_is); (case zz2 => rfl))
    (case y2_hc => rfl)
    (case y2_lc => refine L2.filt_look ?zz1 ?zz2; (case zz1 => k_is); (case zz2 => rfl))
    (case y2_h11 => rfl)
    (case y2_h18 => rfl)
    (case y2_h7 => rfl)
    (case y2_h9 => rfl)
    (case y2_h10 => rfl)
    (case y2_ne => decide)
    (case a0 => refine L2.filt_ns ?_; k_is)
    (case l0 => refine L2.filt_look ?zz1 ?zz2; (case zz1 => k_is); (case zz2 => rfl))
    (case c0 => refine L2.filt_code ?_; k_is)
    (case a1 => refine L2.filt_ns ?_; k_is)
    (case l1 => refine L2.filt_look ?zz1 ?zz2; (case zz1 => k_is); (case zz2 => rfl))
    (case c1 => refine L2.filt_code ?_; k_is)
    (case a2 => refine L2.filt_ns ?_; k_is)
    (case l2 => refine L2.filt_look ?zz1 ?zz2; (case zz1 => k_is); (case zz2 => rfl))
    (case c2 => refine L2.filt_code ?_; k_is)
    (case a3 => refine L2.filt_ns ?_; k_is)
    (case l3 => refine L2.filt_look ?zz1 ?zz2; (case zz1 => k_is); (case zz2 => rfl))
    (case c3 => refine L2.filt_code ?_; k_is)
    (case a4 => refine L2.filt_ns ?_; k_is)
    (case l4 => refine L2.filt_look ?zz1 ?zz2; (case zz1 => k_is); (case zz2 => rfl))
    (case c4 => refine L2.filt_code ?_; k_is)
    (case a5 => refine L2.filt_ns ?_; k_is)
    (case l5 => refine L2.filt_look ?zz1 ?zz2; (case zz1 => k_is); (case zz2 => rfl))
    (case c5 => refine L2.filt_code ?_; k_is)
    (case a6 => refine L2.filt_ns ?_; k_is)
    (case l6 => refine L2.filt_look ?zz1 ?zz2; (case zz1 => k_is); (case zz2 => rfl))
    (case c6 => refine L2.filt_code ?_; k_is)
    (case a7 => refine L2.filt_ns ?_; k_is)
    (case l7 => refine L2.filt_look ?zz1 ?zz2; (case zz1 => k_is); (case zz2 => rfl))
    (case c7 => refine L2.filt_code ?_; k_is)
    (case a8 => refine L2.filt_ns ?_; k_is)
    (case l8 => refine L2.filt_look ?zz1 ?zz2; (case zz1 => k_is); (case zz2 => rfl))
    (case c8 => refine L2.filt_code ?_; k_is)
    (case a9 => refine L2.filt_ns ?_; k_is)
    (case l9 => refine L2.filt_look ?zz1 ?zz2; (case zz1 => k_is); (case zz2 => rfl))
    (case c9 => refine L2.filt_code ?_; k_is)
    (case a10 => refine L2.filt_ns ?_; k_is)
    (case l10 => refine L2.filt_look ?zz1 ?zz2; (case zz1 => k_is); (case zz2 => rfl))
    (case c10 => refine L2.filt_code ?_; k_is)
    (case a11 => refine L2.filt_ns ?_; k_is)
    (case l11 => refine L2.filt_look ?zz1 ?zz2; (case zz1 => k_is); (case zz2 => rfl))
    (case c11 => refine L2.filt_code ?_; k_is)
    (case a12 => refine L2.filt_ns ?_; k_is)
    (case l12 => refine L2.filt_look ?zz1 ?zz2; (case zz1 => k_is); (case zz2 => rfl))
    (case c12 => refine L2.filt_code ?_; k_is)
    (case a13 => refine L2.filt_ns ?_; k_is)
    (case l13 => refine L2.filt_look ?zz1 ?zz2; (case zz1 => k_is); (case zz2 => rfl))
    (case c13 => refine L2.filt_code ?_; k_is)
    (case a14 => refine L2.filt_ns ?_; k_is)
    (case l14 => refine L2.filt_look ?zz1 ?zz2; (case zz1 => k_is); (case zz2 => rfl))
    (case c14 => refine L2.filt_code ?_; k_is)
    (case a15 => refine L2.filt_ns ?_; k_is)
    (case l15 => refine L2.filt_look ?zz1 ?zz2; (case zz1 => k_is); (case zz2 => rfl))
    (case c15 => refine L2.filt_code ?_; k_is)
    (case a16 => refine L2.filt_ns ?_; k_is)
    (case l16 => refine L2.filt_look ?zz1 ?zz2; (case zz1 => k_is); (case zz2 => rfl))
    (case c16 => refine L2.filt_code ?_; k_is)
    (case a17 => refine L2.filt_ns ?_; k_is)
    (case l17 => refine L2.filt_look ?zz1 ?zz2; (case zz1 => k_is); (case zz2 => rfl))
    (case c17 => refine L2.filt_code ?_; k_is)
    (case a18 => refine L2.filt_ns ?_; k_is)
    (case l18 => refine L2.filt_look ?zz1 ?zz2; (case zz1 => k_is); (case zz2 => rfl))
    (case c18 => refine L2.filt_code ?_; k_is)
    (case a19 => refine L2.filt_ns ?_; k_is)
    (case l19 => refine L2.filt_look ?zz1 ?zz2; (case zz1 => k_is); (case zz2 => rfl))
    (case c19 => refine L2.filt_code ?_; k_is)
    (case a20 => refine L2.filt_ns ?_; k_is)
    (case l20 => refine L2.filt_look ?zz1 ?zz2; (case zz1 => k_is); (case zz2 => rfl))
    (case c20 => refine L2.filt_code ?_; k_is)
    (case a21 => refine L2.filt_ns ?_; k_is)
    (case l21 => refine L2.filt_look ?zz1 ?zz2; (case zz1 => k_is); (case zz2 => rfl))
    (case c21 => refine L2.filt_code ?_; k_is)
    (case a22 => refine L2.filt_ns ?_; k_is)
    (case l22 => refine L2.filt_look ?zz1 ?zz2; (case zz1 => k_is); (case zz2 => rfl))
    (case c22 => refine L2.filt_code ?_; k_is)
    (case a23 => refine L2.filt_ns ?_; k_is)
    (case l23 => refine L2.filt_look ?zz1 ?zz2; (case zz1 => k_is); (case zz2 => rfl))
    (case c23 => refine L2.filt_code ?_; k_is)
    (case a24 => refine L2.filt_ns ?_; k_is)
    (case l24 => refine L2.filt_look ?zz1 ?zz2; (case zz1 => k_is); (case zz2 => rfl))
    (case c24 => refine L2.filt_code ?_; k_is)
    (case a25 => refine L2.filt_ns ?_; k_is)
    (case l25 => refine L2.filt_look ?zz1 ?zz2; (case zz1 => k_is); (case zz2 => rfl))
    (case c25 => refine L2.filt_code ?_; k_is)
    (case a26 => refine L2.filt_ns ?_; k_is)
    (case l26 => refine L2.filt_look ?zz1 ?zz2; (case zz1 => k_is); (case zz2 => rfl))
    (case c26 => refine L2.filt_code ?_; k_is)
    (case a27 => refine L2.filt_ns ?_; k_is)
    (case l27 => refine L2.filt_look ?zz1 ?zz2; (case zz1 => k_is); (case zz2 => rfl))
    (case c27 => refine L2.filt_code ?_; k_is)
    (case a28 => refine L2.filt_ns ?_; k_is)
    (case l28 => refine L2.filt_look ?zz1 ?zz2; (case zz1 => k_is); (case zz2 => rfl))
    (case c28 => refine L2.filt_code ?_; k_is)
    (case a29 => refine L2.filt_ns ?_; k_is)
    (case l29 => refine L2.filt_look ?zz1 ?zz2; (case zz1 => k_is); (case zz2 => rfl))
    (case c29 => refine L2.filt_code ?_; k_is)
    (case a30 => refine L2.filt_ns ?_; k_is)
    (case l30 => refine L2.filt_look ?zz1 ?zz2; (case zz1 => k_is); (case zz2 => rfl))
    (case c30 => refine L2.filt_code ?_; k_is)
    (case a31 => refine L2.filt_ns ?_; k_is)
    (case l31 => refine L2.filt_look ?zz1 ?zz2; (case zz1 => k_is); (case zz2 => rfl))
    (case c31 => refine L2.filt_code ?_; k_is)
    (case a32 => refine L2.filt_ns ?_; k_is)
    (case l32 => refine L2.filt_look ?zz1 ?zz2; (case zz1 => k_is); (case zz2 => rfl))
    (case c32 => refine L2.filt_code ?_; k_is)
    (case a33 => refine L2.filt_ns ?_; k_is)
    (case l33 => refine L2.filt_look ?zz1 ?zz2; (case zz1 => k_is); (case zz2 => rfl))
    (case c33 => refine L2.filt_code ?_; k_is)
    (case a34 => refine L2.filt_ns ?_; k_is)
    (case l34 => refine L2.filt_look ?zz1 ?zz2; (case zz1 => k_is); (case zz2 => rfl))
    (case c34 => refine L2.filt_code ?_; k_is)
    (case a35 => refine L2.filt_ns ?_; k_is)
    (case l35 => refine L2.filt_look ?zz1 ?zz2; (case zz1 => k_is); (case zz2 => rfl))
    (case c35 => refine L2.filt_code ?_; k_is)
    (case a36 => refine L2.filt_ns ?_; k_is)
    (case l36 => refine L2.filt_look ?zz1 ?zz2; (case zz1 => k_is); (case zz2 => rfl))
    (case c36 => refine L2.filt_code ?_; k_is)
    (case a37 => refine L2.filt_ns ?_; k_is)
    (case l37 => refine L2.filt_look ?zz1 ?zz2; (case zz1 => k_is); (case zz2 => rfl))
    (case c37 => refine L2.filt_code ?_; k_is)
    (case aLe => refine L2.filt_ns ?_; k_is)
    (case aLo => refine L2.filt_ns ?_; k_is)
    (case aFe => refine L2.filt_ns ?_; k_is)
    (case aMo => refine L2.filt_ns ?_; k_is)
    (case aLw => refine L2.filt_ns ?_; k_is)
    (case aMw => refine L2.filt_ns ?_; k_is)
    (case aMp => refine L2.filt_ns ?_; k_is)
    (case aMt => refine L2.filt_ns ?_; k_is)
    (case z_isi => refine L2.filt_ns ?_; k_is)
    (case z_int => refine L2.filt_ns ?_; k_is)
    (case z_bool => refine L2.filt_ns ?_; k_is)
    (case z_tuple => refine L2.filt_ns ?_; k_is)
    (case z_abs => refine L2.filt_ns ?_; k_is)
    (case z_len => refine L2.filt_ns ?_; k_is)
    (case z_enum => refine L2.filt_ns ?_; k_is)
    (case z_str => refine L2.filt_ns ?_; k_is)
    (case z_range => refine L2.filt_ns ?_; k_is)
    (case z_max => refine L2.filt_ns ?_; k_is)
    (case z_all => refine L2.filt_ns ?_; k_is)
    (case z_set => refine L2.filt_ns ?_; k_is)
    (case z_list => refine L2.filt_ns ?_; k_is)
    (case z_min => refine L2.filt_ns ?_; k_is)
    (case z_sum => refine L2.filt_ns ?_; k_is)
    (case z_dict => refine L2.filt_ns ?_; k_is)
    (case z_any => refine L2.filt_ns ?_; k_is)
    (case z_reversed => refine L2.filt_ns ?_; k_is)
