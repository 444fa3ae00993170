import PyProof.Rows.All
import Wide.All
import OpenK.AllK
import Wide.FinOn
import Lean
import PyProof.EqAt
import PyProof.EqKinds
import PyProof.NeKinds
import PyProof.TupleCall
import PyProof.SetRoads
import PyProof.SetNew
import PyProof.Rows.Range3
import KE.KRevSl
import PyProof.SliceStr2
import PyProof.ListStr
import PyProof.TupleOfStr
import PyProof.StrCalls
import KE.KDictOf
import PyProof.AttrMissHeap
import PyProof.Rows.SumAny
import PyProof.ConsumeWalk
import PyProof.SeqI3
import KE.KStar
import PyProof.SumWalkG
import PyProof.DictValues
import PyProof.ZipIter
import PyProof.Draws
import PyProof.DictIter
import PyProof.Rows.SortWalk
import PyProof.StrOps2
import PySem.Challenge.RW_dearsigns_k13_costs
set_option Elab.async false
set_option linter.all false
set_option maxRecDepth 100000
set_option maxHeartbeats 4000000
set_option exponentiation.threshold 5000
namespace HD
open PySem PySem.W PySem.Calls PyProof.Rows
noncomputable def bootT (P:Params):BT:=.node (boot_o_0 P) (.node (boot_o_1 P) (.node (boot_o_3 P) (.node (boot_o_7 P) .nil .nil) .nil) (.node (boot_o_5 P) (.node (boot_o_9 P) .nil .nil) .nil)) (.node (boot_o_2 P) (.node (boot_o_4 P) (.node (boot_o_8 P) .nil .nil) .nil) (.node (boot_o_6 P) (.node (boot_o_10 P) .nil .nil) .nil))
theorem size_boot (P:Params):((boot_heap P).isNs mainGlobals,(boot_heap P).objs.size,(boot_heap P).nsMap mainGlobals "__annotations__")=(true,11,some (.ref 6)):=by kernel_rfl
structure SM where
 T:BT
 n:Nat
 k:Nat
 D:List DictEntry
 pl:List Value
 nm:Value
noncomputable def key (P:Params) (x:Str) (t:Nat) (v:Value):DictEntry:=⟨PyData.keyHash P x,.str x t,v⟩
noncomputable def SM.put (s:SM) (o:Obj):SM:={s with T:=s.T.ins s.n o,n:=s.n + 1}
noncomputable def SM.puts (s:SM):List Obj→SM
 | []=>s
 | o :: r=>(s.put o).puts r
noncomputable def tup (vs:List Value):Obj:={cls:=.type "tuple",data:=.seq vs.toArray}
noncomputable def txts:List Str→Nat→List Value
 | [],_=>[]
 | x :: r,t=>.str x t :: txts r (t + 1)
noncomputable def theFile:Str:="/claim/cut.py"
structure CO where
 objs:List Obj
 k:Nat
 a:Nat
noncomputable def raw (n:Nat):Value:=.int n 0
noncomputable def codeObjs (n k:Nat) (name qual:Str) (line argc flags:Nat) (fn:Bool) (free:List Str) (pls:List Value) (loc:Option (List Str × List Str)) (tm:Option FuncData):CO:=
 let f:=free.length
 let o1:=[tup (txts free (k + 3)),{cls:=.none,data:=.fields pls.toArray}]
 let k1:=k + 3 + f
 let (o2,k2,n2,l,c):=match loc with
  | none=>([],k1,n + 2,Value.none,Value.none)
  | some (ls,cs)=>([tup (txts ls k1),tup (txts cs (k1 + ls.length))],k1 + ls.length + cs.length,n + 4,Value.ref (n + 2),Value.ref (n + 3))
 let (o3,n3,t):=match tm with
  | none=>([],n2,Value.none)
  | some fd=>([({cls:=.none,data:=.func fd}:Obj)],n2 + 1,Value.ref n2)
 {objs:=o1 ++ o2 ++ o3 ++ [{cls:=.type "code",data:=.fields #[.str name k,.str qual (k + 1),.str theFile (k + 2),raw line,raw argc,raw 0,raw 0,raw flags,.ref n,.bool fn,raw 181,.ref (n + 1),.none,l,c,t,raw k2,raw line,.str theFile (k2 + 1)]}]
  k:=k2 + 2
  a:=n3}
noncomputable def SM.store (P:Params) (s:SM) (x:Str) (v:Value):SM:=
 match s.D with
 | e :: r=>match Fast.sEq x "__name__" with
  | true=>{s with D:=⟨e.hash,e.key,v⟩ :: r,k:=s.k + 1,nm:=v}
  | false=>{s with D:=e :: r ++ [key P x s.k v],k:=s.k + 1}
 | []=>s
noncomputable def constVals:List Expr→Nat→List Value × Nat
 | .Constant (.int i) _ _ :: r,k=>let (vs,k'):=constVals r (k + 1); (.int i k :: vs,k')
 | .Constant (.str i) _ _ :: r,k=>let (vs,k'):=constVals r (k + 1); (.str i k :: vs,k')
 | .Constant (.bool b) _ _ :: r,k=>let (vs,k'):=constVals r k; (.bool b :: vs,k')
 | _ :: r,k=>let (vs,k'):=constVals r k; (.none :: vs,k')
 | [],k=>([],k)
noncomputable def templ (name qual:Str) (args:Arguments) (body:List Stmt) (scope:Scope):FuncData:=
 {name,qualname:=qual,params:=args,body:=.stmts body,scope,globals:=builtinsNs,closure:=[],defaults:=.none,kwdefaults:=.none}
noncomputable def simFn (P:Params) (s:SM) (name:Str) (args:Arguments) (body:List Stmt) (scope:Scope) (pos:Pos):SM:=
 let (dv,s):=match args.defaults with
  | []=>(Value.none,s)
  | d :: ds=>let (vs,k'):=constVals (d :: ds) s.k; (Value.ref s.n,({s with k:=k'}:SM).put (tup vs))
 let c:=codeObjs s.n s.k name name pos.line args.args.length 3 true [] [] (localNames args scope (.stmts body)) (some (templ name name args body scope))
 let s1:=s.puts c.objs
 let s2:SM:={s1 with k:=c.k,pl:=s1.pl ++ [raw pos.line,raw pos.col,.ref c.a]}
 let f:=s2.n
 let s3:=s2.put {cls:=.type "function",data:=.func {templ name name args body scope with globals:=mainNs,defaults:=dv,pyModule:=s.nm,code:=.ref c.a}}
 s3.store P name (.ref f)
noncomputable def findD (x:Str):List DictEntry→Value
 | []=>.none
 | e :: r=>match e.key with
  | .str y _=>match Fast.sEq x y with
   | true=>e.val
   | false=>findD x r
  | _=>findD x r
noncomputable def addSub (v:Value) (o:Obj):Obj:=match o.data with
 | .cls c=>{o with data:=.cls {c with subclasses:=c.subclasses ++ [v]}}
 | _=>o
structure IOb where
 objs:List Obj
 pls:List Value
 es:List DictEntry
 k:Nat
noncomputable def simInit (P:Params) (cell n k:Nat) (cn:Str) (nm:Value):List Stmt→IOb
 | .FunctionDef name args body _ _ _ scope _ _ pos :: _=>
  let qual:Str:=cn ++ "." ++ name
  let c:=codeObjs (n + 1) k name qual pos.line args.args.length 3 true ["__class__"] [] (localNames args scope (.stmts body)) (some (templ name qual args body scope))
  let f:=c.a + 1
  {objs:=tup [.ref cell] :: c.objs ++ [{cls:=.type "function",data:=.func {templ name qual args body scope with globals:=mainNs,closure:=[("__class__",cell)],pyModule:=nm,code:=.ref c.a,closureTuple:=.ref n}}]
   pls:=[raw pos.line,raw pos.col,.ref c.a]
   es:=[key P name c.k (.ref f)]
   k:=c.k + 1}
 | _=>⟨[],[],[],k⟩
noncomputable def excTypes:List Value:=[.type "ValueError",.type "Exception",.type "BaseException",.type "object"]
noncomputable def simCls (P:Params) (s:SM) (name base:Str) (body:List Stmt) (statics:List Str) (pos:Pos):SM:=
  let root:=Fast.sEq base "ValueError"
  let bv:Value:=match root with | true=>.type "ValueError" | false=>findD base s.D
  let own:=match body with | .FunctionDef .. :: _=>true | _=>false
  let (n,k):=(s.n,s.k)
  let nsA:=n + 2
  let c0:=match own with | true=>n + 4 | false=>n + 3
  let fr:=c0 + 3
  let i:=simInit P (n + 3) (fr + 1) (k + 12) name s.nm body
  let cc:=codeObjs c0 (k + 2) name name pos.line 0 0 false [] i.pls none none
  let a:=fr + 1 + i.objs.length
  let st:=i.k + statics.length
  let ns2:=a + 1
  let cls:=a + 2
  let e1:=key P "__module__" (k + 7) s.nm
  let e3:=key P "__firstlineno__" (k + 11) (.int pos.line (k + 10))
  let e5:=key P "__static_attributes__" st (.ref a)
  let (k5,cellE,cellO):=match own with
    | true=>(st + 2,[key P "__classcell__" (st + 1) (.ref (n + 3))],[({cls:=.type "cell",data:=.cell (some (.ref cls))}:Obj)])
    | false=>(st + 1,[],[])
  let (k6,weakE,weakO):=match root with
    | true=>(k5 + 2,[key P "__weakref__" (k5 + 1) (.ref (cls + 1))],[({cls:=.type "getset_descriptor",data:=.fields #[.str "__weakref__" k5,.ref cls,.builtin "ExceptionGroup.__weakref__",.none]}:Obj)])
    | false=>(k5,[],[])
  let nsE:=[e1,key P "__qualname__" (k + 9) (.str name (k + 8)),e3] ++ i.es ++ [e5] ++ cellE
  let ns2E:=[e1,e3] ++ i.es ++ [e5] ++ weakE ++ [key P "__doc__" k6 .none]
  let mro:=match root with | true=>Value.ref cls :: excTypes | false=>Value.ref cls :: bv :: excTypes
  let objs:List Obj:=[tup [bv],{cls:=.type "builtin_function_or_method",data:=.fields #[.builtin "type.__prepare__",.type "type"]},{cls:=.type "dict",data:=.dict nsE.toArray nsE.length}] ++ cellO ++ cc.objs ++
    [{cls:=.type "frame",slots:=#[some (.ref (c0 + 2)),some (.ref mainNs),some (.ref nsA),none,some s.nm,none,some (.ref builtinsNs)]}] ++ i.objs ++
    [tup (txts statics i.k),{cls:=.type "dict",data:=.dict ns2E.toArray (ns2E.length - 2)},
     {cls:=.type "type",data:=.cls {name,bases:=[bv],mro,ns:=ns2,qualname:=name},slots:=#[some (.ref n),none,some (.str name k),some (.str name (k + 8)),some (.builtin "ValueError.__new__"),some (.bool true)]}] ++ weakO ++
    [{cls:=.type "super",data:=.fields #[.ref cls,.ref cls,.ref cls]},{cls:=.type "builtin_function_or_method",data:=.fields #[.builtin "object.__init_subclass__",.ref cls]}]
  let s1:=s.puts objs
  let s2:SM:={s1 with k:=k6 + 2,pl:=s1.pl ++ [raw pos.line,raw pos.col,.ref (c0 + 2)],T:=match bv with | .ref b=>s1.T.set b (addSub (.ref cls)) | _=>s1.T}
  s2.store P name (.ref cls)
noncomputable def simOne (P:Params) (s:SM):Stmt→SM
 | .Assign (.Name x _ :: _) (.Constant (.str v) _ _) _=>({s with k:=s.k + 1}:SM).store P x (.str v s.k)
 | .Assign (.Name x _ :: _) (.Constant (.int v) _ _) _=>({s with k:=s.k + 1}:SM).store P x (.int v s.k)
 | .Assign (.Name x _ :: _) (.BinOp (.Constant (.int a) _ _) _ (.Constant (.int b) _ _) _) _=>({s with k:=s.k + 3}:SM).store P x (.int (a ^ b.toNat) (s.k + 2))
 | .Assign (.Name x _ :: _) (.Tuple es _ _) _=>let (vs,k'):=constVals es s.k; (({s with k:=k'}:SM).put (tup vs)).store P x (.ref s.n)
 | .FunctionDef name args body _ _ _ scope _ _ pos=>simFn P s name args body scope pos
 | .ClassDef name (.Name b _ :: _) _ body _ _ _ _ _ statics pos=>simCls P s name b body statics pos
 | _=>s
noncomputable def simAll (P:Params) (s:SM):List Stmt→SM
 | []=>s
 | x :: r=>simAll P (simOne P s x) r
noncomputable def endPos (p:Pos):Stmt→Pos
 | .Assign (.Name _ q :: _) _ _=>q
 | .FunctionDef _ _ _ _ _ _ _ _ _ q=>q
 | .ClassDef _ _ _ _ _ _ _ _ _ _ q=>q
 | _=>p
noncomputable def endPoses (p:Pos):List Stmt→Pos
 | []=>p
 | x :: r=>endPoses (endPos p x) r
noncomputable def sim0 (P:Params):SM:=
 SM.puts ⟨bootT P,11,187,[key P "__name__" 165 (.str "__main__" 164),key P "__doc__" 166 .none,key P "__package__" 167 .none,key P "__loader__" 168 (.builtin "__main__.__loader__#opaque"),key P "__spec__" 169 .none,key P "__annotations__" 170 (.ref 6),
  key P "__builtins__" 171 (.ref 4),key P "__file__" 173 (.str theFile 172),key P "__cached__" 174 .none],[],.str "__main__" 164⟩
  ((codeObjs 11 182 "<module>" "<module>" 1 0 0 false [] [] none none).objs ++ [{cls:=.type "frame",slots:=#[some (.ref 13),some (.ref mainNs),some (.ref mainNs),none,some (.str "__main__" 164),none,some (.ref builtinsNs)]}])
structure St where
 sim:Params→SM
 pos:Pos
noncomputable def SM.tree (s:SM):BT:=(s.T.set mainNs fun _=>{cls:=.type "dict",data:=.dict s.D.toArray s.D.length}).set 12 fun _=>{cls:=.none,data:=.fields s.pl.toArray}
noncomputable def St.at (S:St) (P:Params) (os:OsState):SharedT:=⟨(S.sim P).tree,(S.sim P).n,{},Array.mk [],boot_drawn,(S.sim P).k,os⟩
noncomputable def St.step (S:St) (l:List Stmt):St:=⟨fun P=>simAll P (S.sim P) l,endPoses S.pos l⟩
noncomputable def St0:St:=⟨sim0,⟨0,0,0,0⟩⟩
abbrev pos0:Pos:=⟨0,0,0,0⟩
noncomputable def envOf (p:Program):Env:={scope:=p.main.scope,locals:=mainNs,globals:=mainNs,cells:=[],code:=.ref 13,frame:=some 14}
noncomputable def cOf (p:Program):Code:=.body (behindTheImports p) (envOf p)
abbrev annO:Option Value:=some (.ref 6)
abbrev Piece (p:Program) (l:List Stmt) (m:Nat) (A B:St):Prop:=
 ∀w:World,(fun os=>segRunT treeTable p w 11 annO 1 m (A.at w.params os) (piecesOf l (envOf p) (cOf p) A.pos [topFrame pos0]))=fun os=>some (.next,B.at w.params os,cOf p,B.pos)
inductive Chain (p:Program):List Stmt→Nat→St→St→Prop
 | nil (S:St):Chain p [] 0 S S
 | cons {l r:List Stmt} {m n:Nat} {A B C:St} (h:Piece p l m A B) (t:Chain p r n B C):Chain p (l ++ r) (m + n) A C
theorem fin_run {tb:String→Option Builtin} {p:Program} {w:World} {n₀:Nat} {ann:Option Value} {c:Code} {pos q:Pos} (s:Shared):topRun tb p w n₀ ann 2 s ⟨doneF .next,c,pos,[topFrame q]⟩=some s:=by
 obtain ⟨a,b,d,e,f⟩:=s
 rfl
theorem chain_run {p:Program} {w:World} {os:OsState} {b:List Stmt} {n:Nat} {A C:St} (h:Chain p b n A C) :
  topRun treeTable p w 11 annO (n + 2) (A.at w.params os).abs (restOf b (envOf p) (cOf p) A.pos [topFrame pos0])=some (C.at w.params os).abs:=by
 induction h with
 | nil S=>exact piece_nil (fin_run _)
 | cons h _ ih=>
  have e:=segRun_of (congrFun (h w) os)
  rw [Nat.add_assoc]
  exact piece_app e ih
abbrev Pre (p:Program):Prop:=∀w:World,(fun os=>topGo treeTable p w 11 annO 12 ⟨boot_heap w.params,Array.mk [],boot_drawn,boot_toks,os⟩ (topStub p))=fun os=>some ((St0.at w.params os).abs,⟨denote treeTable (cOf p),cOf p,pos0,[topFrame pos0]⟩)
abbrev Blk (p:Program):Prop:=∀(w:World) (hp:Heap) (gs:Array GenState) (d:Drawn) (k:Nat) (os:OsState),
 segRun treeTable p w 11 annO 1 1 ⟨hp,gs,d,k,os⟩ (blockOf (behindTheImports p) (envOf p) (cOf p) pos0 [topFrame pos0])=some (.next,⟨hp,gs,d,k,os⟩,cOf p,pos0)
abbrev Look1 (p:Program) (C:St):Prop:=∀w:World,(fun os=>staticsOk (importedModules p.main.body) (boot_heap w.params) (C.at w.params os).abs.heap && namesBound p (C.at w.params os).abs.heap && gensDone (C.at w.params os).abs && laidKept (boot_heap w.params) (C.at w.params os).abs.heap)=fun _=>true
theorem left_cut {p q:Program} {loose:List Str} {Xt:Shared→Bool} {α:Type} {Yf:Shared→α} {Ya:World→α} {N n:Nat} {g0:Bool} {b:List Stmt} {C:St}
  (e:opening p=plainProg p.main.scope.names) (hN:Nat.ble 600 N=true) (f:∀s,fenceModules? p s=some s)
  (pre:Pre p) (blk:Blk p) (hb:behindTheImports p=b) (ch:Chain p b n St0 C) (le:Nat.ble (12 + (1 + (n + 2))) N=true)
  (k1:Look1 p C) (k2:∀w:World,(fun os=>openSeen q loose (importedModules p.main.body) Xt g0 (C.at w.params os).abs)=fun _=>openGood q loose) (k3:∀w:World,(fun os=>Yf (C.at w.params os).abs)=fun _=>Ya w) :
  LeftO p q loose Xt Yf Ya N g0:=fun w=>by
 obtain ⟨⟨hp,gs,d,k,os⟩,a,a'⟩:=Option.map_eq_some_iff.mp (boot_open e hN f w)
 obtain ⟨rfl,rfl,rfl,rfl⟩:hp=boot_heap w.params∧gs = #[]∧d=boot_drawn∧k=boot_toks:=by simpa using a'
 obtain ⟨z1,z2,z3⟩:_∧_∧_:=by simpa only [Prod.mk.injEq] using size_boot w.params
 have r1:=chain_run (w:=w) (os:=os) ch
 rw [← hb] at r1
 have r2:=piece_block (blk w _ _ _ _ _) r1
 have r3:=go_top (congrFun (pre w) os) r2
 have r':=topRun_mono (N - (12 + (1 + (n + 2)))) _ _ _ _ r3
 rw [show 12 + (1 + (n + 2)) + (N - (12 + (1 + (n + 2))))=N by have:=Nat.le_of_ble_eq_true le; omega] at r'
 have l1:=congrFun (k1 w) os
 have t:topFrom treeTable p w N ⟨boot_heap w.params,#[],boot_drawn,boot_toks,os⟩=some (C.at w.params os).abs:=by
  unfold topFrom
  dsimp only
  rw [z1,z2,z3,r']
  show (match staticsOk (importedModules p.main.body) (boot_heap w.params) (C.at w.params os).abs.heap && namesBound p (C.at w.params os).abs.heap && gensDone (C.at w.params os).abs && laidKept (boot_heap w.params) (C.at w.params os).abs.heap with | true=>_ | false=>_)=_
  rw [l1]
 unfold openEnds
 rw [a]
 show (topFrom treeTable p w N _).map _=_
 rw [t]
 exact congrArg some (Prod.ext (congrFun (k2 w) os) (congrFun (k3 w) os))
end HD
namespace HP
open PySem PySem.W HD
noncomputable def pq:Program:=PySem.Challenge.pw_dearsigns_k13_costs
theorem e1:opening pq=plainProg pq.main.scope.names:=by kernel_rfl
theorem e2 (s):fenceModules? pq s=some s:=by kernel_rfl
theorem pre:Pre pq:=fun w=>by kernel_rfl
theorem blk:Blk pq:=fun w _ _ _ _ _=>by kernel_rfl
noncomputable def b0:List Stmt:=behindTheImports pq
noncomputable def S0:St:=St0
noncomputable def l0:List Stmt:=b0.take 10
noncomputable def b1:List Stmt:=b0.drop 10
noncomputable def S1:St:=S0.step l0
theorem q0:Piece pq l0 999 S0 S1:=fun w=>by kernel_rfl
noncomputable def l1:List Stmt:=b1.take 40
noncomputable def b2:List Stmt:=b1.drop 40
noncomputable def S2:St:=S1.step l1
theorem q1:Piece pq l1 993 S1 S2:=fun w=>by kernel_rfl
noncomputable def l2:List Stmt:=b2.take 8
noncomputable def S3:St:=S2.step l2
theorem q2:Piece pq l2 219 S2 S3:=fun w=>by kernel_rfl
theorem chain:Chain pq (l0 ++ (l1 ++ (l2 ++ []))) (999 + (993 + (219 + (0)))) S0 S3:=.cons q0 (.cons q1 (.cons q2 (Chain.nil S3)))
theorem body:behindTheImports pq=l0 ++ (l1 ++ (l2 ++ [])):=by kernel_rfl
theorem look1:Look1 pq S3:=fun w=>by kernel_rfl
end HP
namespace L2
open PySem PySem.Spec PyProof.Rows
abbrev Key:=Sum Int Str
def keyIs:Key→Value→Bool
 | .inl k,v=>Value.isInt k v
 | .inr x,v=>Value.isStrOf x v
def keyH (w:World):Key→Int
 | .inl k=>hashInt k
 | .inr x=>hashStr w x
theorem keyIs_shape:∀{k:Key} {v:Value},keyIs k v=true→(∃i t,k=Sum.inl i∧v=Value.int i t)∨(∃x t,k=Sum.inr x∧v=Value.str x t)
 | .inl i,v,h=>by
  obtain ⟨t,e⟩:=Value.isInt_shape (k:=i) (v:=v) h
  exact .inl ⟨i,t,rfl,e⟩
 | .inr x,v,h=>by
  obtain ⟨t,e⟩:=Value.isStrOf_shape (x:=x) (v:=v) h
  exact .inr ⟨x,t,rfl,e⟩
theorem keyIs_int (i:Int) (t:Tok):keyIs (.inl i) (.int i t)=true:=by simp [keyIs,Value.isInt]
theorem keyIs_str (x:Str) (t:Tok):keyIs (.inr x) (.str x t)=true:=by simp [keyIs,Value.isStrOf]
theorem key_ll (a b:Int):decide ((Sum.inl a:Key)=Sum.inl b)=(a == b):=by
 by_cases e:a=b
 ·subst e; simp
 ·have h:¬(Sum.inl a:Key)=Sum.inl b:=fun q=>e (Sum.inl.inj q)
  rw [decide_eq_false h]
  exact (beq_eq_false_iff_ne.mpr e).symm
theorem key_rr (a b:Str):decide ((Sum.inr a:Key)=Sum.inr b)=decide (a=b):=by
 by_cases e:a=b
 ·subst e; simp
 ·have h:¬(Sum.inr a:Key)=Sum.inr b:=fun q=>e (Sum.inr.inj q)
  rw [decide_eq_false h,decide_eq_false e]
theorem key_lr (a:Int) (b:Str):decide ((Sum.inl a:Key)=Sum.inr b)=false:=decide_eq_false (fun q=>nomatch q)
theorem key_rl (a:Str) (b:Int):decide ((Sum.inr a:Key)=Sum.inl b)=false:=decide_eq_false (fun q=>nomatch q)
def mixKind (prog:Program) (w:World):PySem.KeyKind prog w Key where
 is:=keyIs
 hash:=keyH w
 inj:=fun v a b ha hb=>by
  rcases keyIs_shape ha with ⟨i,t,rfl,rfl⟩ | ⟨x,t,rfl,rfl⟩
  ·rcases keyIs_shape hb with ⟨j,u,rfl,e⟩ | ⟨y,u,rfl,e⟩
   ·injection e with e1 _; rw [e1]
   ·exact nomatch e
  ·rcases keyIs_shape hb with ⟨j,u,rfl,e⟩ | ⟨y,u,rfl,e⟩
   ·exact nomatch e
   ·injection e with e1 _; rw [e1]
 byValue:=fun k v h=>by
  rcases keyIs_shape h with ⟨i,t,rfl,rfl⟩ | ⟨x,t,rfl,rfl⟩ <;> rfl
 pyHash:=fun hv h=>by
  rcases keyIs_shape hv with ⟨i,t,rfl,rfl⟩ | ⟨x,t,rfl,rfl⟩
  ·exact wpAny_pyHash_int h
  ·exact wpAny_pyHash_str h
 eqBool:=fun hu hv h=>by
  rcases keyIs_shape hu with ⟨i,t,rfl,rfl⟩ | ⟨x,t,rfl,rfl⟩
  ·rcases keyIs_shape hv with ⟨j,u,rfl,rfl⟩ | ⟨y,u,rfl,rfl⟩
   ·rw [key_ll] at h; exact wpAny_eqBool_int h
   ·rw [key_lr] at h; exact SeqAt.EqAt.int_str i t y u _ _ _ _ h
  ·rcases keyIs_shape hv with ⟨j,u,rfl,rfl⟩ | ⟨y,u,rfl,rfl⟩
   ·rw [key_rl] at h; exact SeqAt.EqAt.str_int x t j u _ _ _ _ h
   ·rw [key_rr] at h; exact wpAny_eqBool_str h
 «strs»:=fun k x t v h=>by
  rcases keyIs_shape h with ⟨i,u,rfl,e⟩ | ⟨y,u,rfl,e⟩
  ·exact nomatch e
  ·injection e with e1 _
   subst e1
   cases v <;> rfl
theorem mixKind_int (prog:Program) (w:World) (i:Int) (t:Tok):(mixKind prog w).is (.inl i) (.int i t)=true:=keyIs_int i t
theorem mixKind_str (prog:Program) (w:World) (x:Str) (t:Tok):(mixKind prog w).is (.inr x) (.str x t)=true:=keyIs_str x t
inductive V where
 | non | bl (b:Bool) | int (i:Int) | str (x:Str) | byt (b:Array UInt8) | flt (b:UInt64) | ref (a:Addr) | ty (n:String)
 deriving DecidableEq
def RelV:V→Value→Prop
 | .non,u=>u=Value.none
 | .bl b,u=>u=Value.bool b
 | .int i,u=>∃t,u=Value.int i t
 | .str x,u=>∃t,u=Value.str x t
 | .byt b,u=>∃t,u=Value.bytes b t
 | .flt b,u=>∃t,u=Value.float b t
 | .ref a,u=>u=Value.ref a
 | .ty n,u=>u=Value.type n
abbrev Vals:List V→List Value→Prop:=Paired RelV
theorem Vals.length {xs:List V} {us:List Value} (r:Vals xs us):xs.length=us.length:=Paired.length r
theorem Vals.get:∀{xs:List V} {us:List Value} {i:Nat} {x:V},Vals xs us→xs[i]? = some x→∃u,us[i]? = some u∧RelV x u
 | _,_,_,_,.nil,e=>by simp at e
 | _,_,0,_,.cons r _,e=>by simp at e; subst e; exact ⟨_,rfl,r⟩
 | _,_,i + 1,x,.cons _ t,e=>by
  obtain ⟨u,h1,h2⟩:=Vals.get (i:=i) (x:=x) t (by simpa using e)
  exact ⟨u,by simpa using h1,h2⟩
theorem Vals.set {x:V} {u:Value} (r:RelV x u):∀{xs:List V} {us:List Value} (i:Nat),Vals xs us→Vals (xs.set i x) (us.set i u)
 | _,_,_,.nil=>.nil
 | _,_,0,.cons _ t=>.cons r t
 | _,_,i + 1,.cons q t=>.cons q (Vals.set r i t)
theorem Vals.append:∀{xs ys:List V} {us ws:List Value},Vals xs us→Vals ys ws→Vals (xs ++ ys) (us ++ ws)
 | _,_,_,_,.nil,s=>s
 | _,_,_,_,.cons r t,s=>.cons r (Vals.append t s)
theorem Vals.take:∀{xs:List V} {us:List Value} (n:Nat),Vals xs us→Vals (xs.take n) (us.take n)
 | _,_,0,_=>.nil
 | _,_,_ + 1,.nil=>.nil
 | _,_,n + 1,.cons r t=>.cons r (Vals.take n t)
theorem Vals.drop:∀{xs:List V} {us:List Value} (n:Nat),Vals xs us→Vals (xs.drop n) (us.drop n)
 | _,_,0,r=>r
 | _,_,_ + 1,.nil=>.nil
 | _,_,n + 1,.cons _ t=>Vals.drop n t
def RelO:Option V→Option Value→Prop
 | some v,some u=>RelV v u
 | none,none=>True
 | _,_=>False
def KV {κ:Type}:List (κ × V)→List (κ × Value)→Prop:=Paired fun (p:κ × V) (q:κ × Value)=>p.1=q.1∧RelV p.2 q.2
def kV:Key→V
 | .inl i=>.int i
 | .inr x=>.str x
inductive HO where
  | lst (xs:List V)
  | tup (xs:List V)
  | dK (kvs:List (Key × V)) | dT (kvs:List (List Key × V))
  | set (S:Int→Bool) (n:Nat)
  | ins (C dx:Addr) (fs:List (Str × V))
  | own (x:Addr)
  | xd (fs:List (Str × V))
  | met (f x:Addr)
  | rng (lo hi:Int)
  | frz (o:Obj) (u:HO)
  | tbl (ps:Array Value)
  | ext (φ:Heap→Prop)
abbrev Hp:=Addr→Option HO
def upd (H:Hp) (a:Addr) (o:HO):Hp:=fun b=>if b=a then some o else H b
theorem upd_same {H:Hp} {a:Addr} {o:HO}:upd H a o a=some o:=by unfold upd; rw [if_pos rfl]
theorem upd_ne {H:Hp} {a b:Addr} {o:HO} (h:b≠a):upd H a o b=H b:=by unfold upd; rw [if_neg h]
theorem ne_of_none {H:Hp} {a b:Addr} {o:HO} (h:H a=some o) (h':H b=none):a≠b:=by
 intro e; subst e; rw [h] at h'; cases h'
section
variable (P:Program) (w:World)
def ObjOk (H:Hp) (h:Heap) (a:Addr):HO→Prop
 | .lst xs=>xs.length≤sizeLine∧∃(its:List Value) (n:Nat),Vals xs its∧h.get? a=some {cls:=.type "list",data:=.seq its.toArray n}
 | .tup xs=>xs.length≤sizeLine∧∃its:List Value,Vals xs its∧IsTup h a its.toArray
 | .dK kvs=>kvs.length≤sizeLine∧(a == sysModules)=false∧∃vs,KV kvs vs∧h.DictOf (mixKind P w) a vs
 | .dT kvs=>kvs.length≤sizeLine∧(a == sysModules)=false∧∃xs:List (List Key × Addr × Value),
   Paired (fun (p:List Key × V) (q:List Key × Addr × Value)=>p.1=q.1∧H q.2.1=some (.tup (p.1.map kV))∧RelV p.2 q.2.2) kvs xs∧
   ∃o es ep,h.get? a=some o∧o.ExactDict∧o.data = .dict es ep∧es.toList=xs.map (entryOfKey (tupleKind (mixKind P w)))∧(xs.map (·.1)).Nodup
 | .set S n=>h.SetOf (intKind P w) a S n
 | .ins C dx fs=>H dx=some (.own a)∧fs.length≤1000∧dx≠a∧h.get? a=some (PySem.W.instObj C dx)∧
   ∃mA,h.Ns1 dx mA∧(∀f,RelO (fs.lookup f) (mA f))∧PySem.Within mA (fs.map (·.1))
 | .own _=>∃o,h.get? a=some o
 | .xd fs=>∃mA,h.Ns1 a mA∧∀f,RelO (fs.lookup f) (mA f)
 | .rng lo hi=>∃t u v,h.get? a=some {cls:=.type "range",data:=.fields #[.int lo t,.int hi u,.int 1 v]}
 | .frz o u=>h.get? a=some o∧ObjOk H h a u
 | .tbl ps=>h.get? a=some {cls:=.none,data:=.fields ps}
 | .met f x=>h.get? a=some (PySem.W.methodObj (.ref f) (.ref x))
 | .ext φ=>φ h∧(∃o,h.get? a=some o)∧∀h1 h2:Heap,φ h1→(∀o,h1.get? a=some o→h2.get? a=some o)→φ h2
def HOk (H:Hp) (h:Heap):Prop:=∀a o,H a=some o→ObjOk P w H h a o
end
section
variable {P:Program} {w:World} {H H':Hp} {h h':Heap} {a:Addr} {o:HO}
theorem ObjOk.lt (x:ObjOk P w H h a o):a < h.objs.size:=by
 cases o with
 | lst xs=>obtain ⟨_,_,_,_,e⟩:=x; exact Heap.lt_size e
 | tup xs=>obtain ⟨_,_,_,p⟩:=x; exact p.lt
 | dK kvs=>obtain ⟨_,_,_,_,o,_,_,e,_⟩:=x; exact Heap.lt_size e
 | dT kvs=>obtain ⟨_,_,_,_,o,_,_,e,_⟩:=x; exact Heap.lt_size e
 | set S n=>obtain ⟨o,_,_,_,e,_⟩:=x; exact Heap.lt_size e
 | ins C dx fs=>obtain ⟨_,_,_,e,_⟩:=x; exact Heap.lt_size e
 | own y=>obtain ⟨_,e⟩:=x; exact Heap.lt_size e
 | xd fs=>obtain ⟨_,⟨_,_,_,e,_⟩,_⟩:=x; exact Heap.lt_size e
 | rng lo hi=>obtain ⟨_,_,_,e⟩:=x; exact Heap.lt_size e
 | frz ob u=>obtain ⟨e,_⟩:=x; exact Heap.lt_size e
 | tbl ps=>exact Heap.lt_size (show h.get? a=some _ from x)
 | met f y=>exact Heap.lt_size (show h.get? a=some _ from x)
 | ext φ=>obtain ⟨_,⟨_,e⟩,_⟩:=x; exact Heap.lt_size e
theorem Paired.mapP {α β:Type} {F G:α→β→Prop}:∀{l₁:List α} {l₂:List β},Paired F l₁ l₂→(∀a b,F a b→G a b)→Paired G l₁ l₂
 | _,_,.nil,_=>.nil
 | _,_,.cons r t,f=>.cons (f _ _ r) (Paired.mapP t f)
theorem ObjOk.stay (x:ObjOk P w H h a o) (k:∀b u,(b=a∨H b=some (.own a))→h.get? b=some u→h'.get? b=some u)
  (ho:∀b,H b=some (.own a)→H' b=some (.own a)) (ht:∀b xs,H b=some (.tup xs)→H' b=some (.tup xs)):ObjOk P w H' h' a o:=by
 induction o with
 | lst xs=>obtain ⟨z,its,n,r,e⟩:=x; exact ⟨z,its,n,r,k _ _ (.inl rfl) e⟩
 | tup xs=>obtain ⟨z,its,r,ob,e,c⟩:=x; exact ⟨z,its,r,ob,k _ _ (.inl rfl) e,c⟩
 | dK kvs=>obtain ⟨z,y,vs,r,ob,es,ep,e,c⟩:=x; exact ⟨z,y,vs,r,ob,es,ep,k _ _ (.inl rfl) e,c⟩
 | dT kvs=>
  obtain ⟨z,y,xs,r,ob,es,ep,e,c⟩:=x
  exact ⟨z,y,xs,Paired.mapP r fun p q z=>⟨z.1,ht _ _ z.2.1,z.2.2⟩,ob,es,ep,k _ _ (.inl rfl) e,c⟩
 | set S n=>obtain ⟨ob,es,ep,t,e,c⟩:=x; exact ⟨ob,es,ep,t,k _ _ (.inl rfl) e,c⟩
 | ins C dx fs=>
  obtain ⟨d,z,ne,e,mA,⟨od,es,ep,e2,c⟩,r⟩:=x
  exact ⟨ho _ d,z,ne,k _ _ (.inl rfl) e,mA,⟨od,es,ep,k _ _ (.inr d) e2,c⟩,r⟩
 | own y=>obtain ⟨ob,e⟩:=x; exact ⟨ob,k _ _ (.inl rfl) e⟩
 | xd fs=>obtain ⟨mA,⟨od,es,ep,e,c⟩,r⟩:=x; exact ⟨mA,⟨od,es,ep,k _ _ (.inl rfl) e,c⟩,r⟩
 | rng lo hi=>obtain ⟨t,u,v,e⟩:=x; exact ⟨t,u,v,k _ _ (.inl rfl) e⟩
 | frz ob u ih=>obtain ⟨e,q⟩:=x; exact ⟨k _ _ (.inl rfl) e,ih q⟩
 | tbl ps=>
  have e:h.get? a=some {cls:=.none,data:=.fields ps}:=x
  show h'.get? a=some {cls:=.none,data:=.fields ps}
  exact k a _ (.inl rfl) e
 | met f y=>
  have e:h.get? a=some (PySem.W.methodObj (.ref f) (.ref y)):=x
  show h'.get? a=some (PySem.W.methodObj (.ref f) (.ref y))
  exact k a _ (.inl rfl) e
 | ext φ=>obtain ⟨p,⟨o,e⟩,st⟩:=x; exact ⟨st _ _ p fun o q=>k _ _ (.inl rfl) q,⟨o,k _ _ (.inl rfl) e⟩,st⟩
theorem HOk.lt (x:HOk P w H h) (e:H a=some o):a < h.objs.size:=(x a o e).lt
theorem HOk.fresh (x:HOk P w H h) (e:h.objs.size≤a):H a=none:=by
 cases q:H a with
 | none=>rfl
 | some u=>exact absurd (Nat.lt_of_lt_of_le (x.lt q) e) (Nat.lt_irrefl _)
theorem HOk.kept (x:HOk P w H h) (k:∀b u,h.get? b=some u→h'.get? b=some u):HOk P w H h':=fun a o e=>
 (x a o e).stay (fun b u _ q=>k b u q) (fun _ q=>q) fun _ _ q=>q
theorem HOk.laid (x:HOk P w H h) (k:∀b u,h.get? b=some u→h'.get? b=some u) (hp:h.objs.size≤a) (new:ObjOk P w (upd H a o) h' a o):HOk P w (upd H a o) h':=fun b u e=>by
 have hn:=x.fresh hp
 by_cases hb:b=a
 ·subst hb; rw [upd_same] at e; cases e; exact new
 ·rw [upd_ne hb] at e
  exact (x b u e).stay (fun c v _ q=>k c v q) (fun c q=>by rw [upd_ne (ne_of_none q hn)]; exact q) fun c xs q=>by rw [upd_ne (ne_of_none q hn)]; exact q
end
def Rd (H:Hp) (a:Addr) (u:HO):Prop:=H a=some u∨∃o,H a=some (.frz o u)
theorem Rd.ok {P:Program} {w:World} {H:Hp} {h:Heap} {a:Addr} {u:HO} (r:Rd H a u) (x:HOk P w H h):ObjOk P w H h a u:=by
 rcases r with r | ⟨o,r⟩
 ·exact x a u r
 ·obtain ⟨_,q⟩:=x a _ r
  exact q
def Mut:Option HO→Prop
 | some (.lst _)=>True
 | some (.dK _)=>True
 | some (.dT _)=>True
 | some (.set _ _)=>True
 | some (.ins _ _ _)=>True
 | some (.ext _)=>True
 | _=>False
section
variable {P:Program} {w:World} {H:Hp} {h h':Heap} {x e:Addr} {o':HO}
theorem HOk.write (ok:HOk P w H h) (mu:Mut (H x)) (he:e=x∨H e=some (.own x)) (k:∀b u,b≠e→h.get? b=some u→h'.get? b=some u) (heo:∃u,h'.get? e=some u)
  (new:ObjOk P w (upd H x o') h' x o'):HOk P w (upd H x o') h':=fun b u q=>by
 have nown:∀c y,H c=some (.own y)→c≠x:=fun c y r z=>by subst z; rw [r] at mu; exact mu
 have ntup:∀c xs,H c=some (.tup xs)→c≠x:=fun c xs r z=>by subst z; rw [r] at mu; exact mu
 by_cases hb:b=x
 ·subst hb; rw [upd_same] at q; cases q; exact new
 ·rw [upd_ne hb] at q
  by_cases hbe:b=e
  ·have q':H b=some (.own x):=by
    rcases he with z | z
    ·exact absurd (hbe.trans z) hb
    ·rw [hbe]; exact z
   rw [q] at q'; cases q'
   obtain ⟨v,hv⟩:=heo
   exact ⟨v,by rw [hbe]; exact hv⟩
  ·refine (ok b u q).stay (fun c v hc r=>k c v ?_ r) (fun c r=>by rw [upd_ne (nown c b r)]; exact r) fun c xs r=>by rw [upd_ne (ntup c xs r)]; exact r
   rcases hc with rfl | hc
   ·exact hbe
   ·rintro rfl
    rcases he with z | z
    ·exact nown c b hc z
    ·rw [hc] at z; cases z; exact hb rfl
end
structure Un (fs ex:List Addr) (H H':Hp) (h h':Heap):Prop where
 keep:∀b o,h.get? b=some o→H b=none→b∉fs→b∉ex→h'.get? b=some o
 slot:∀b o,h.get? b=some o→H b=none→b∈fs→b∉ex→∃sl,h'.get? b=some {o with slots:=sl}
 free:∀b o,h.get? b=some o→H b=none→b∉ex→H' b=none
 there:∀b o,h.get? b=some o→b∉ex→∃o',h'.get? b=some o'
 tups:∀b xs,H b=some (.tup xs)→H' b=some (.tup xs)
 frzs:∀b o u,H b=some (.frz o u)→H' b=some (.frz o u)
 tbls:∀b ps,H b=some (.tbl ps)→∃more,H' b=some (.tbl (ps ++ more))
section
variable {fs fs' ex ex':List Addr} {H H1 H2:Hp} {h h1 h2 h':Heap} {a x e:Addr} {o:HO}
theorem Un.any (u:Un fs ex H H1 h h1) {b:Addr} {ob:Obj} (q:h.get? b=some ob) (n:H b=none) (hx:b∉ex):∃sl,h1.get? b=some {ob with slots:=sl}:=by
 by_cases hb:b∈fs
 ·exact u.slot b ob q n hb hx
 ·exact ⟨ob.slots,u.keep b ob q n hb hx⟩
theorem Un.trans (a:Un fs ex H H1 h h1) (b:Un fs ex H1 H2 h1 h2):Un fs ex H H2 h h2 where
 keep:=fun c ob q n hc hx=>b.keep c ob (a.keep c ob q n hc hx) (a.free c ob q n hx) hc hx
 slot:=fun c ob q n hc hx=>by
  obtain ⟨sl,e1⟩:=a.slot c ob q n hc hx
  obtain ⟨sl',e2⟩:=b.slot c _ e1 (a.free c ob q n hx) hc hx
  exact ⟨sl',e2⟩
 free:=fun c ob q n hx=>by
  obtain ⟨o',e1⟩:=a.there c ob q hx
  exact b.free c o' e1 (a.free c ob q n hx) hx
 there:=fun c ob q hx=>by
  obtain ⟨o',e1⟩:=a.there c ob q hx
  exact b.there c o' e1 hx
 tups:=fun c xs q=>b.tups c xs (a.tups c xs q)
 frzs:=fun c ob xs q=>b.frzs c ob xs (a.frzs c ob xs q)
 tbls:=fun c ps q=>by
  obtain ⟨m1,e1⟩:=a.tbls c ps q
  obtain ⟨m2,e2⟩:=b.tbls c _ e1
  exact ⟨m1 ++ m2,by rw [e2,Array.append_assoc]⟩
theorem Un.kept (k:∀b u,h.get? b=some u→h'.get? b=some u):Un fs ex H H h h':=
 ⟨fun b ob q _ _ _=>k b ob q,fun b ob q _ _ _=>⟨ob.slots,k b ob q⟩,fun _ _ _ n _=>n,fun b ob q _=>⟨ob,k b ob q⟩,fun _ _ q=>q,fun _ _ _ q=>q,fun _ ps q=>⟨#[],by rw [q]; simp⟩⟩
theorem Un.refl:Un fs ex H H h h:=Un.kept fun _ _ q=>q
theorem Un.laid (k:∀b u,h.get? b=some u→h'.get? b=some u) (hp:h.objs.size≤a) (hn:H a=none):Un fs ex H (upd H a o) h h' where
 keep:=fun b u q _ _ _=>k b u q
 slot:=fun b u q _ _ _=>⟨u.slots,k b u q⟩
 free:=fun b u q n _=>by rw [upd_ne (Nat.ne_of_lt (Nat.lt_of_lt_of_le (Heap.lt_size q) hp))]; exact n
 there:=fun b u q _=>⟨u,k b u q⟩
 tups:=fun b xs q=>by rw [upd_ne (ne_of_none q hn)]; exact q
 frzs:=fun b u xs q=>by rw [upd_ne (ne_of_none q hn)]; exact q
 tbls:=fun b ps q=>⟨#[],by rw [upd_ne (ne_of_none q hn),q]; simp⟩
theorem Un.write (mu:Mut (H x)) (he:e=x∨H e=some (.own x)) (k:∀b u,b≠e→h.get? b=some u→h'.get? b=some u) (heo:∃u,h'.get? e=some u):Un fs ex H (upd H x o) h h':=by
 have hx:∀b,H b=none→b≠x:=fun b n z=>by subst z; rw [n] at mu; exact mu
 have hb:∀b,H b=none→b≠e:=fun b n z=>by
  subst z
  rcases he with r | r
  ·exact hx b n r
  ·rw [n] at r; cases r
 have hm:∀b u,H b=some u→¬Mut (some u)→b≠x:=fun b u q nm z=>by subst z; rw [q] at mu; exact nm mu
 refine ⟨fun b u q n _ _=>k b u (hb b n) q,fun b u q n _ _=>⟨u.slots,k b u (hb b n) q⟩,fun b u q n _=>by rw [upd_ne (hx b n)]; exact n,fun b u q _=>?_,
  fun b xs q=>by rw [upd_ne (hm b _ q fun z=>z)]; exact q,fun b u xs q=>by rw [upd_ne (hm b _ q fun z=>z)]; exact q,fun b ps q=>⟨#[],by rw [upd_ne (hm b _ q fun z=>z),q]; simp⟩⟩
 by_cases hbe:b=e
 ·subst hbe; exact heo
 ·exact ⟨u,k b u hbe q⟩
theorem Un.mono (u:Un fs ex H H1 h h1) (hs:∀b∈fs,b∈fs') (hx:∀b∈ex,b∈ex'):Un fs' ex' H H1 h h1:=
 ⟨fun b ob q n hb he=>u.keep b ob q n (fun z=>hb (hs b z)) fun z=>he (hx b z),fun _ _ q n _ he=>u.any q n fun z=>he (hx _ z),fun b ob q n he=>u.free b ob q n fun z=>he (hx b z),fun b ob q he=>u.there b ob q fun z=>he (hx b z),u.tups,u.frzs,u.tbls⟩
end
def trk (h:Heap) (H:Hp):List Addr:=(List.range h.objs.size).filter fun a=>(H a).isSome
def hidT (h:Heap) (H:Hp):Heap:=PySem.W.hideAll h (trk h H)
theorem hidT_size (h:Heap) (H:Hp):(hidT h H).objs.size=h.objs.size:=PySem.W.hideAll_size _ _
theorem hidT_get {h:Heap} {H:Hp} {b:Addr} {o:Obj} (e:h.get? b=some o) (n:H b=none):(hidT h H).get? b=some o:=
 PySem.W.hideAll_get _ e fun hm=>by
  have q:(H b).isSome=true:=(List.mem_filter.mp hm).2
  rw [n] at q; simp at q
theorem of_hidT {h:Heap} {H:Hp} {b:Addr} {o:Obj} (e:(hidT h H).get? b=some o):h.get? b=some o∧H b=none:=by
 have e':h.get? b=some o:=PySem.W.of_hideAll (trk h H) e
 refine ⟨e',?_⟩
 cases q:H b with
 | none=>rfl
 | some x=>
  have hm:b∈trk h H:=List.mem_filter.mpr ⟨List.mem_range.mpr (Heap.lt_size e'),by simp [q]⟩
  have z:(hidT h H).get? b=none:=PySem.W.hideAll_none (trk h H) hm
  rw [z] at e; cases e
structure Mod (K:PySem.W.Frag) (mg:Str→Option Value) (base:Heap):Prop where
 kin:K.In base
 glob:base.Ns mainGlobals mg
 blt:∃mb,base.Ns builtinsNs mb∧∀x:Str,x≠"__name__"→mb x=bootBuiltins x
 nolimit:base.NoLimit
structure Cx where
 prog:Program
 w:World
 K:PySem.W.Frag
 mg:Str→Option Value
 base:Heap
 A:Around
 N:List Str
 s₀:Shared
 H₀:Hp
 env:Env
 outer:List Env
 stack:List Env
 ex:List Addr
 fn:Str→Bool
 calm:Bool
 pn:List (Addr × Obj)
 xe:Value→Shared→Prop
def frs (l:List Env):List Addr:=l.filterMap (·.frame)
abbrev Cx.fs (X:Cx):List Addr:=frs X.outer
def Vis (sc:Scope) (x:Str):Prop:=sc.names.lookup x=some .local∨sc.names.lookup x=some .cell∨sc.names.lookup x=some .free
def Loc (sc:Scope) (x:Str):Prop:=sc.names.lookup x=some .local∨sc.names.lookup x=some .cell
def Look (env:Env) (h:Heap) (m:Str→Option Value) (x:Str) (u:Value):Prop:=
 (env.kindOf x=some .local∧m x=some u)∨((env.kindOf x=some .cell∨env.kindOf x=some .free)∧∃c,env.cells.lookup x=some c∧h.IsCell c (some u))
structure Cx.Ok (X:Cx):Prop where
 mod:Mod X.K X.mg X.base
 kind:X.env.scope.kind = .function
 glob:X.env.globals=mainGlobals
 blt:X.env.builtins=builtinsNs
 above:X.s₀.heap.objs.size≤X.env.locals
 inj:∀x y c,X.env.cells.lookup x=some c→X.env.cells.lookup y=some c→x=y
 has:∀x,(X.env.kindOf x=some .cell∨X.env.kindOf x=some .free)→∃c,X.env.cells.lookup x=some c
 cab:∀x c,X.fn x=true→X.env.cells.lookup x=some c→X.s₀.heap.objs.size≤c
 hd:X.calm=true→X.A.handled=none
 frames:X.A.frames=some X.stack
 stk:X.stack=X.outer∨(X.stack=X.env :: X.outer∧X.env.frame=some X.env.locals)
 exf:∀b∈X.ex,b≠X.env.locals∧∀x c,X.env.cells.lookup x=some c→c≠b
 bs:∀b o,X.base.get? b=some o→X.s₀.heap.get? b=some o∧X.H₀ b=none
 bsz:X.base.objs.size≤X.s₀.heap.objs.size
 noex:∀b o,X.base.get? b=some o→b∉X.ex
 exfs:∀b∈X.ex,b∉X.fs
 funs:X.s₀.heap.FunFrames X.base X.outer
 frf:∀b∈X.fs,X.H₀ b=none
structure Inv (X:Cx) (pins:List (Addr × Obj)) (σ:List (Option V)) (H:Hp) (s:Shared):Prop where
 ok:X.Ok
 os:s.os=X.s₀.os
 bare:AllBare s.gens
 base:Un X.fs X.ex X.H₀ H X.s₀.heap s.heap
 loc:∃m,s.heap.Ns X.env.locals m∧∀(i:Nat) (x:Str) (v:V),X.N[i]? = some x→σ[i]? = some (some v)→Vis X.env.scope x→∃u,RelV v u∧Look X.env s.heap m x u
 cell:∀x c,X.env.cells.lookup x=some c→∃v,s.heap.IsCell c v
 free:H X.env.locals=none
 freeC:∀x c,X.env.cells.lookup x=some c→H c=none
 pin:∀p∈X.pn ++ pins,s.heap.get? p.1=some p.2∧H p.1=none∧p.1≠X.env.locals∧p.1∉X.fs∧∀v,p.2.data≠.cell v
 hok:HOk X.prog X.w H s.heap
 len:σ.length=X.N.length
section
variable {X:Cx} {pins:List (Addr × Obj)} {σ:List (Option V)} {H H':Hp} {s:Shared} {h':Heap}
theorem Cx.Ok.nofr (ok:X.Ok) {b:Addr} {o:Obj} (e:X.base.get? b=some o):b∉X.fs:=fun hb=>by
 have:=(ok.funs.mem hb).1
 rw [e] at this; cases this
theorem Inv.bs (I:Inv X pins σ H s):∀b o,X.base.get? b=some o→s.heap.get? b=some o∧H b=none:=fun b o e=>
 ⟨I.base.keep b o (I.ok.bs b o e).1 (I.ok.bs b o e).2 (I.ok.nofr e) (I.ok.noex b o e),I.base.free b o (I.ok.bs b o e).1 (I.ok.bs b o e).2 (I.ok.noex b o e)⟩
theorem Inv.bk (I:Inv X pins σ H s):∀b o,X.base.get? b=some o→s.heap.get? b=some o:=fun b o e=>(I.bs b o e).1
theorem Inv.mod (I:Inv X pins σ H s):Mod X.K X.mg X.base:=I.ok.mod
theorem Inv.kIn (I:Inv X pins σ H s):X.K.In s.heap:=I.ok.mod.kin.keeps I.bk
theorem Inv.nolimit (I:Inv X pins σ H s):s.heap.NoLimit:=I.ok.mod.nolimit.keeps I.bk
theorem Inv.lt (I:Inv X pins σ H s):X.env.locals < s.heap.objs.size:=let ⟨_,hn,_⟩:=I.loc; hn.lt
theorem Inv.sz (I:Inv X pins σ H s):X.s₀.heap.objs.size≤s.heap.objs.size:=Nat.le_trans I.ok.above (Nat.le_of_lt I.lt)
theorem Inv.nofs (I:Inv X pins σ H s) {a:Addr} (h:s.heap.objs.size≤a):a∉X.fs:=fun hb=>by
 obtain ⟨_,o,ho,_⟩:=I.ok.funs.mem hb
 exact absurd (Nat.lt_of_lt_of_le (Heap.lt_size ho) (Nat.le_trans I.sz h)) (Nat.lt_irrefl _)
theorem Inv.cne (I:Inv X pins σ H s):∀x c,X.env.cells.lookup x=some c→c≠X.env.locals:=fun x c e z=>by
 obtain ⟨v,o,ho,hd⟩:=I.cell x c e
 obtain ⟨m,⟨o',es,ep,ho',hd',_⟩,_⟩:=I.loc
 rw [z,ho'] at ho; cases ho; rw [hd'] at hd; cases hd
theorem Inv.funs (I:Inv X pins σ H s):s.heap.FunFrames X.base X.outer:=by
 have all:∀(l:List Env),(∀b∈frs l,b∈X.fs)→X.s₀.heap.FunFrames X.base l→s.heap.FunFrames X.base l:=by
  intro l
  induction l with
  | nil=>intro _ _; trivial
  | cons env r ih=>
   intro hs hl
   obtain ⟨hk,⟨L,o,hf,hn,ho,hd⟩,hr⟩:=hl
   have hL:L∈X.fs:=hs L (by unfold frs; rw [List.filterMap_cons,hf]; exact List.mem_cons_self)
   obtain ⟨sl,e⟩:=I.base.slot L o ho (I.ok.frf L hL) hL fun z=>I.ok.exfs L z hL
   exact ⟨hk,⟨L,_,hf,hn,e,hd⟩,ih (fun b hb=>hs b (by unfold frs; rw [List.filterMap_cons,hf]; exact List.mem_cons_of_mem _ hb)) hr⟩
 exact all X.outer (fun _ hb=>hb) I.ok.funs
theorem Inv.stack (I:Inv X pins σ H s):s.heap.FunFrames X.base X.stack:=by
 rcases I.ok.stk with e | ⟨e,hf⟩
 ·rw [e]; exact I.funs
 ·rw [e]
  obtain ⟨m,hn,_⟩:=I.loc
  refine .cons (by rw [I.ok.kind]; decide) hf hn ?_ I.funs
  exact Heap.get?_none_of_le (Nat.le_trans I.ok.bsz I.ok.above)
theorem Inv.stkSub (I:Inv X pins σ H s):∀b∈frs X.stack,b∈X.env.locals :: X.fs:=fun b hb=>by
 rcases I.ok.stk with e | ⟨e,hf⟩
 ·rw [e] at hb; exact List.mem_cons_of_mem _ hb
 ·rw [e] at hb
  unfold frs at hb
  rw [List.filterMap_cons,hf] at hb
  exact hb
theorem Inv.stkFree (I:Inv X pins σ H s):∀b∈frs X.stack,H b=none:=fun b hb=>by
 rcases List.mem_cons.mp (I.stkSub b hb) with e | hb
 ·rw [e]; exact I.free
 ·obtain ⟨_,o,ho,_⟩:=I.ok.funs.mem hb
  exact I.base.free b o ho (I.ok.frf b hb) fun z=>I.ok.exfs b z hb
theorem Inv.step {g':Array GenState} {t':Nat} {d':Drawn} {ch:List Addr} (I:Inv X pins σ H s)
  (hch:∀b∈ch,(b∈X.ex∨X.s₀.heap.objs.size≤b)∧b≠X.env.locals∧(∀x c,X.env.cells.lookup x=some c→c≠b)∧∀p∈X.pn ++ pins,p.1≠b)
  (keep:∀b o,b≠X.env.locals→b∉X.fs→b∉ch→s.heap.get? b=some o→H b=none→h'.get? b=some o)
  (slot:∀b o,b≠X.env.locals→b∈X.fs→b∉ch→s.heap.get? b=some o→H b=none→∃sl,h'.get? b=some {o with slots:=sl}) (free:∀b o,b∉ch→s.heap.get? b=some o→H b=none→H' b=none)
  (there:∀b o,b∉ch→s.heap.get? b=some o→∃o',h'.get? b=some o')
  (tups:∀b xs,H b=some (.tup xs)→H' b=some (.tup xs)) (frzs:∀b o u,H b=some (.frz o u)→H' b=some (.frz o u)) (tbls:∀b ps,H b=some (.tbl ps)→∃more,H' b=some (.tbl (ps ++ more)))
  (ns:∀m,s.heap.Ns X.env.locals m→h'.Ns X.env.locals m) (hok:HOk X.prog X.w H' h') (hg:AllBare g') :
  Inv X pins σ H' {s with heap:=h',gens:=g',drawn:=d',toks:=t'}:=by
 have neL:∀b o,X.s₀.heap.get? b=some o→b≠X.env.locals:=fun b o e=>Nat.ne_of_lt (Nat.lt_of_lt_of_le (Heap.lt_size e) I.ok.above)
 have neC:∀b o,X.s₀.heap.get? b=some o→b∉X.ex→b∉ch:=fun b o e hx hb=>by
  rcases (hch b hb).1 with z | z
  ·exact hx z
  ·exact absurd (Nat.lt_of_lt_of_le (Heap.lt_size e) z) (Nat.lt_irrefl _)
 have cellK:∀x c,X.env.cells.lookup x=some c→∀v,s.heap.IsCell c v→h'.IsCell c v:=fun x c e v ⟨o,ho,hd⟩=>by
  have nch:c∉ch:=fun z=>(hch c z).2.2.1 x c e rfl
  by_cases hc:c∈X.fs
  ·obtain ⟨sl,q⟩:=slot c o (I.cne x c e) hc nch ho (I.freeC x c e)
   exact ⟨_,q,hd⟩
  ·exact ⟨o,keep c o (I.cne x c e) hc nch ho (I.freeC x c e),hd⟩
 refine ⟨I.ok,I.os,hg,⟨fun b o e n hb hx=>?_,fun b o e n hb hx=>?_,fun b o e n hx=>?_,fun b o e hx=>?_,fun b xs e=>tups b xs (I.base.tups b xs e),fun b o xs e=>frzs b o xs (I.base.frzs b o xs e),fun b ps e=>?_⟩,?_,fun x c e=>?_,?_,fun x c e=>?_,fun p hp=>?_,hok,I.len⟩
 ·exact keep b o (neL b o e) hb (neC b o e hx) (I.base.keep b o e n hb hx) (I.base.free b o e n hx)
 ·obtain ⟨sl,e1⟩:=I.base.slot b o e n hb hx
  obtain ⟨sl',e2⟩:=slot b _ (neL b o e) hb (neC b o e hx) e1 (I.base.free b o e n hx)
  exact ⟨sl',e2⟩
 ·obtain ⟨o',e1⟩:=I.base.there b o e hx
  exact free b o' (neC b o e hx) e1 (I.base.free b o e n hx)
 ·obtain ⟨o',e1⟩:=I.base.there b o e hx
  exact there b o' (neC b o e hx) e1
 ·obtain ⟨m1,e1⟩:=I.base.tbls b ps e
  obtain ⟨m2,e2⟩:=tbls b _ e1
  exact ⟨m1 ++ m2,by rw [e2,Array.append_assoc]⟩
 ·obtain ⟨m,hn,hl⟩:=I.loc
  refine ⟨m,ns m hn,fun i x v e1 e2 e3=>?_⟩
  obtain ⟨u,r,l⟩:=hl i x v e1 e2 e3
  refine ⟨u,r,?_⟩
  rcases l with l | ⟨k,c,e,z⟩
  ·exact .inl l
  ·exact .inr ⟨k,c,e,cellK x c e _ z⟩
 ·obtain ⟨v,z⟩:=I.cell x c e
  exact ⟨v,cellK x c e v z⟩
 ·obtain ⟨m,⟨o,_,_,ho,_⟩,_⟩:=I.loc
  exact free _ o (fun z=>(hch _ z).2.1 rfl) ho I.free
 ·obtain ⟨v,o,ho,hd⟩:=I.cell x c e
  exact free c o (fun z=>(hch c z).2.2.1 x c e rfl) ho (I.freeC x c e)
 ·obtain ⟨e,n,ne,nf,d⟩:=I.pin p hp
  have nch:p.1∉ch:=fun z=>(hch p.1 z).2.2.2 p hp rfl
  exact ⟨keep p.1 p.2 ne nf nch e n,free p.1 p.2 nch e n,ne,nf,d⟩
theorem Inv.un {t':Nat} (I:Inv X pins σ H s) (u:Un X.fs [] H H' s.heap h') (hok:HOk X.prog X.w H' h'):Inv X pins σ H' {s with heap:=h',toks:=t'}:=by
 obtain ⟨m,⟨o,es,ep,ho,r⟩,_⟩:=id I.loc
 obtain ⟨sl,hL⟩:=u.any ho I.free (by simp)
 exact I.step (g':=s.gens) (d':=s.drawn) (ch:=[]) (fun _ z=>nomatch z) (fun b o _ hb _ e n=>u.keep b o e n hb (by simp)) (fun b o _ hb _ e n=>u.slot b o e n hb (by simp)) (fun b o _ e n=>u.free b o e n (by simp)) (fun b o _ e=>u.there b o e (by simp)) u.tups u.frzs u.tbls (fun m' hm=>by
  obtain ⟨o',es',ep',ho',r'⟩:=hm
  rw [ho] at ho'; cases ho'
  exact ⟨_,es',ep',hL,r'⟩) hok I.bare
theorem Inv.call {g':Array GenState} {t':Nat} {d':Drawn} {ch:List Addr} (I:Inv X pins σ H s) (u:Un (frs X.stack) ch H H' s.heap h') (hok:HOk X.prog X.w H' h') (hg:AllBare g')
  (hch:∀b∈ch,(b∈X.ex∨X.s₀.heap.objs.size≤b)∧b≠X.env.locals∧(∀x c,X.env.cells.lookup x=some c→c≠b)∧∀p∈X.pn ++ pins,p.1≠b) :
  Inv X pins σ H' {s with heap:=h',gens:=g',drawn:=d',toks:=t'}:=by
 obtain ⟨m,⟨o,es,ep,ho,r⟩,_⟩:=id I.loc
 obtain ⟨sl,hL⟩:=u.any ho I.free fun z=>(hch _ z).2.1 rfl
 exact I.step (ch:=ch) hch (fun b o hL hb hc e n=>u.keep b o e n (fun z=>(List.mem_cons.mp (I.stkSub b z)).elim hL hb) hc) (fun b o _ _ hc e n=>u.any e n hc) (fun b o hc e n=>u.free b o e n hc) (fun b o hc e=>u.there b o e hc) u.tups u.frzs u.tbls (fun m' hm=>by
  obtain ⟨o',es',ep',ho',r'⟩:=hm
  rw [ho] at ho'; cases ho'
  exact ⟨_,es',ep',hL,r'⟩) hok hg
theorem Inv.turned {t':Nat} {it:Addr} (I:Inv X pins σ H s) (k:∀b o,b≠it→s.heap.get? b=some o→h'.get? b=some o) (hn:H it=none) (hL:it≠X.env.locals)
  (h1:it∈X.ex∨X.s₀.heap.objs.size≤it) (h2:∀x c,X.env.cells.lookup x=some c→c≠it) (h3:∀p∈X.pn ++ pins,p.1≠it):Inv X pins σ H {s with heap:=h',toks:=t'}:=by
 have nit:∀b u,H b=some u→b≠it:=fun b u e z=>by rw [z,hn] at e; cases e
 refine I.step (g':=s.gens) (d':=s.drawn) (ch:=[it]) (fun b hb=>?_) (fun b o _ _ hc e _=>k b o (fun z=>hc (by simp [z])) e) (fun b o _ _ hc e _=>⟨o.slots,k b o (fun z=>hc (by simp [z])) e⟩) (fun _ _ _ _ n=>n)
  (fun b o hc e=>⟨o,k b o (fun z=>hc (by simp [z])) e⟩) (fun _ _ e=>e) (fun _ _ _ e=>e) (fun b ps e=>⟨#[],by rw [e]; simp⟩) (fun m hm=>?_) (fun b u e=>?_) I.bare
 ·have e:b=it:=by simpa using hb
  subst e
  exact ⟨h1,hL,h2,h3⟩
 ·obtain ⟨o,es,ep,ho,r⟩:=hm
  exact ⟨o,es,ep,k _ o (Ne.symm hL) ho,r⟩
 ·refine (I.hok b u e).stay (fun c v hc q=>k c v ?_ q) (fun _ q=>q) fun _ _ q=>q
  rcases hc with z | z
  ·rw [z]; exact nit b u e
  ·exact nit c _ z
theorem Inv.tok (I:Inv X pins σ H s) (t:Nat):Inv X pins σ H {s with toks:=t}:=I.un (h':=s.heap) (t':=t) Un.refl I.hok
theorem Inv.kept {t':Nat} (I:Inv X pins σ H s) (k:∀b u,s.heap.get? b=some u→h'.get? b=some u):Inv X pins σ H {s with heap:=h',toks:=t'}:=I.un (Un.kept k) (I.hok.kept k)
theorem Inv.laid {a:Addr} {o:HO} {t':Nat} (I:Inv X pins σ H s) (k:∀b u,s.heap.get? b=some u→h'.get? b=some u) (hp:s.heap.objs.size≤a) (new:ObjOk X.prog X.w (upd H a o) h' a o) :
  Inv X pins σ (upd H a o) {s with heap:=h',toks:=t'}:=I.un (Un.laid k hp (I.hok.fresh hp)) (I.hok.laid k hp new)
theorem Inv.write {x e:Addr} {o:HO} {t':Nat} (I:Inv X pins σ H s) (mu:Mut (H x)) (he:e=x∨H e=some (.own x)) (k:∀b u,b≠e→s.heap.get? b=some u→h'.get? b=some u) (heo:∃u,h'.get? e=some u)
  (new:ObjOk X.prog X.w (upd H x o) h' x o):Inv X pins σ (upd H x o) {s with heap:=h',toks:=t'}:=I.un (Un.write mu he k heo) (I.hok.write mu he k heo new)
theorem Inv.pins_of {pins':List (Addr × Obj)} (I:Inv X pins σ H s) (h:∀p∈pins',s.heap.get? p.1=some p.2∧H p.1=none∧p.1≠X.env.locals∧p.1∉X.fs∧∀v,p.2.data≠.cell v):Inv X pins' σ H s:=
 ⟨I.ok,I.os,I.bare,I.base,I.loc,I.cell,I.free,I.freeC,fun p hp=>(List.mem_append.mp hp).elim (fun z=>I.pin p (List.mem_append_left _ z)) (h p),I.hok,I.len⟩
theorem nodup_ix {N:List Str} (hN:N.Nodup) {i j:Nat} {x:Str} (a:N[i]? = some x) (b:N[j]? = some x):i=j:=by
 obtain ⟨h1,e1⟩:=List.getElem?_eq_some_iff.mp a
 obtain ⟨h2,e2⟩:=List.getElem?_eq_some_iff.mp b
 exact (List.getElem_inj hN).mp (e1.trans e2.symm)
theorem store_ok2 {M:Model} {A:Around} {E:Value→Shared→Prop} {i:Nat} {x:Str} {v:V} {u:Value} {Q:Unit→Shared→Prop} (I:Inv X pins σ H s) (hN:X.N.Nodup) (hi:X.N[i]? = some x) (hx:Loc X.env.scope x) (r:RelV v u)
  (h:∀s',Inv X pins (σ.set i (some v)) H s'→(∃a,Heap.SameBut a s.heap s'.heap∧(a=X.env.locals∨X.env.cells.lookup x=some a))→Q () s') (hf:X.fn x=true∨X.env.scope.names.lookup x=some .local:=by first | exact .inl rfl | exact .inr rfl | assumption):wpAny M A (storeName X.env x u) Q E s:=by
 obtain ⟨m,hn,hl⟩:=id I.loc
 have hcls:(X.env.scope.kind == .class || (X.env.scope.kind == .module && X.env.locals != X.env.globals))=false:=by rw [I.ok.kind]; rfl
 have hiσ:i < σ.length:=by rw [I.len]; exact (List.getElem?_eq_some_iff.mp hi).1
 have cne:=I.cne
 have tracked:∀{a:Addr} {h':Heap},(∃o,s.heap.get? a=some o∧H a=none)→Heap.SameBut a s.heap h'→HOk X.prog X.w H h':=fun {a h'} ha hs b ob e=>by
  obtain ⟨_,_,hfree⟩:=ha
  refine (I.hok b ob e).stay (fun c w' hc q=>(hs.2 c ?_).trans q) (fun _ q=>q) fun _ _ q=>q
  rintro rfl
  rcases hc with rfl | hc
  ·rw [hfree] at e; cases e
  ·rw [hfree] at hc; cases hc
 rcases hx with hk | hk
 ·refine wpAny_storeName_local hk hn (fun h' hn' hs=>?_) hcls
  obtain ⟨oL,_,_,hoL,_⟩:=id hn
  refine h _ ⟨I.ok,I.os,I.bare,⟨fun b o e n hb hx=>?_,fun b o e n hb hx=>?_,I.base.free,fun b o e hx=>?_,I.base.tups,I.base.frzs,I.base.tbls⟩,⟨_,hn',fun j y v' e1 e2 e3=>?_⟩,fun y c e=>?_,I.free,I.freeC,fun p hp=>?_,tracked ⟨oL,hoL,I.free⟩ hs,by simpa using I.len⟩ ⟨_,hs,.inl rfl⟩
  ·exact (hs.2 b (Nat.ne_of_lt (Nat.lt_of_lt_of_le (Heap.lt_size e) I.ok.above))).trans (I.base.keep b o e n hb hx)
  ·obtain ⟨sl,e1⟩:=I.base.slot b o e n hb hx
   exact ⟨sl,(hs.2 b (Nat.ne_of_lt (Nat.lt_of_lt_of_le (Heap.lt_size e) I.ok.above))).trans e1⟩
  ·obtain ⟨o',e1⟩:=I.base.there b o e hx
   exact ⟨o',(hs.2 b (Nat.ne_of_lt (Nat.lt_of_lt_of_le (Heap.lt_size e) I.ok.above))).trans e1⟩
  ·by_cases hj:j=i
   ·subst hj
    rw [hi] at e1; cases e1
    rw [List.getElem?_set_self hiσ] at e2
    cases e2
    exact ⟨u,r,.inl ⟨hk,by simp⟩⟩
   ·rw [List.getElem?_set_ne (Ne.symm hj)] at e2
    obtain ⟨u',r',q⟩:=hl j y v' e1 e2 e3
    refine ⟨u',r',?_⟩
    rcases q with ⟨k,e⟩ | ⟨k,c,e,z⟩
    ·refine .inl ⟨k,?_⟩
     have:y≠x:=fun e=>hj (nodup_ix hN e1 (e ▸ hi))
     simp [this,e]
    ·exact .inr ⟨k,c,e,z.sameBut hs (cne y c e)⟩
  ·obtain ⟨w',z⟩:=I.cell y c e
   exact ⟨w',z.sameBut hs (cne y c e)⟩
  ·obtain ⟨e,n,ne,nf,d⟩:=I.pin p hp
   exact ⟨(hs.2 p.1 ne).trans e,n,ne,nf,d⟩
 ·have hfn:X.fn x=true:=by
   rcases hf with z | z
   ·exact z
   ·rw [z] at hk; cases hk
  obtain ⟨c,hc⟩:=I.ok.has x (.inl hk)
  obtain ⟨w',z⟩:=I.cell x c hc
  refine wpAny_storeName_cell I.ok.kind hk hc z (fun h' hc' hs=>?_)
  obtain ⟨oc,hoc,hocd⟩:=id z
  refine h {s with heap:=h'} ⟨I.ok,I.os,I.bare,⟨fun b o e n hb hx=>?_,fun b o e n hb hx=>?_,I.base.free,fun b o e hx=>?_,I.base.tups,I.base.frzs,I.base.tbls⟩,⟨m,hn.sameBut hs (Ne.symm (cne x c hc)),fun j y v' e1 e2 e3=>?_⟩,fun y c' e=>?_,I.free,I.freeC,fun p hp=>?_,tracked ⟨oc,hoc,I.freeC x c hc⟩ hs,by simpa using I.len⟩ ⟨c,hs,.inr hc⟩
  ·exact (hs.2 b (Nat.ne_of_lt (Nat.lt_of_lt_of_le (Heap.lt_size e) (I.ok.cab x c hfn hc)))).trans (I.base.keep b o e n hb hx)
  ·obtain ⟨sl,e1⟩:=I.base.slot b o e n hb hx
   exact ⟨sl,(hs.2 b (Nat.ne_of_lt (Nat.lt_of_lt_of_le (Heap.lt_size e) (I.ok.cab x c hfn hc)))).trans e1⟩
  ·obtain ⟨o',e1⟩:=I.base.there b o e hx
   exact ⟨o',(hs.2 b (Nat.ne_of_lt (Nat.lt_of_lt_of_le (Heap.lt_size e) (I.ok.cab x c hfn hc)))).trans e1⟩
  ·by_cases hj:j=i
   ·subst hj
    rw [hi] at e1; cases e1
    rw [List.getElem?_set_self hiσ] at e2
    cases e2
    exact ⟨u,r,.inr ⟨.inl hk,c,hc,hc'⟩⟩
   ·rw [List.getElem?_set_ne (Ne.symm hj)] at e2
    obtain ⟨u',r',q⟩:=hl j y v' e1 e2 e3
    refine ⟨u',r',?_⟩
    rcases q with q | ⟨k,c',e,z'⟩
    ·exact .inl q
    ·refine .inr ⟨k,c',e,z'.sameBut hs ?_⟩
     rintro rfl
     exact hj (nodup_ix hN e1 (I.ok.inj _ _ _ e hc ▸ hi))
  ·by_cases hcc:c'=c
   ·subst hcc; exact ⟨_,hc'⟩
   ·obtain ⟨w2,z2⟩:=I.cell y c' e
    exact ⟨w2,z2.sameBut hs hcc⟩
  ·obtain ⟨e,n,ne,nf,d⟩:=I.pin p hp
   refine ⟨(hs.2 p.1 ?_).trans e,n,ne,nf,d⟩
   intro q
   rw [q,hoc] at e
   have q':oc=p.2:=Option.some.inj e
   exact d w' (by rw [← q']; exact hocd)
theorem store_ok {M:Model} {A:Around} {E:Value→Shared→Prop} {i:Nat} {x:Str} {v:V} {u:Value} {Q:Unit→Shared→Prop} (I:Inv X pins σ H s) (hN:X.N.Nodup) (hi:X.N[i]? = some x) (hx:Loc X.env.scope x) (r:RelV v u)
  (h:∀s',Inv X pins (σ.set i (some v)) H s'→Q () s') (hf:X.fn x=true∨X.env.scope.names.lookup x=some .local:=by first | exact .inl rfl | exact .inr rfl | assumption):wpAny M A (storeName X.env x u) Q E s:=
 store_ok2 I hN hi hx r (fun s' I' _=>h s' I') hf
theorem Inv.call' {s':Shared} {ch:List Addr} (I:Inv X pins σ H s) (ho:s'.os=s.os) (u:Un (frs X.stack) ch H H' s.heap s'.heap) (hok:HOk X.prog X.w H' s'.heap) (hg:AllBare s'.gens)
  (hch:∀b∈ch,(b∈X.ex∨X.s₀.heap.objs.size≤b)∧b≠X.env.locals∧(∀x c,X.env.cells.lookup x=some c→c≠b)∧∀p∈X.pn ++ pins,p.1≠b):Inv X pins σ H' s':=by
 obtain ⟨h',g',d',t',o'⟩:=s'
 have e:o'=s.os:=ho
 subst e
 exact I.call (g':=g') (t':=t') (d':=d') u hok hg hch
end
abbrev XK:=Value→Option Addr→Hp→Prop
abbrev St:=List (Option V)
abbrev VK:=V→Hp→Prop
abbrev TE:=St→Hp→VK→Prop
abbrev TT:=St→Hp→(Bool→Hp→Prop)→Prop
abbrev TA:=St→Hp→(List V→Hp→Prop)→Prop
structure Ends where
 nx:St→Hp→Prop
 rt:VK
 bk:St→Hp→Prop:=fun _ _=>False
 ct:St→Hp→Prop:=fun _ _=>False
abbrev TS:=Ends→St→Hp→Prop
def EP (X:Cx) (pins:List (Addr × Obj)) (σ:St) (Q:VK) (u:Value) (s':Shared):Prop:=∃v H',Inv X pins σ H' s'∧RelV v u∧Q v H'
def TP (X:Cx) (pins:List (Addr × Obj)) (σ:St) (Q:Bool→Hp→Prop) (b:Bool) (s':Shared):Prop:=∃H',Inv X pins σ H' s'∧Q b H'
def AP (X:Cx) (pins:List (Addr × Obj)) (σ:St) (Q:List V→Hp→Prop) (us:List Value) (s':Shared):Prop:=∃vs H',Inv X pins σ H' s'∧Vals vs us∧Q vs H'
def SP (X:Cx) (pins:List (Addr × Obj)) (D:Ends) (f:Flow) (s':Shared):Prop:=
 match f with
 | .next=>∃σ' H',Inv X pins σ' H' s'∧D.nx σ' H'
 | .brk=>∃σ' H',Inv X pins σ' H' s'∧D.bk σ' H'
 | .cont=>∃σ' H',Inv X pins σ' H' s'∧D.ct σ' H'
 | .ret u=>∃v σ' H',Inv X pins σ' H' s'∧RelV v u∧D.rt v H'
def PE (X:Cx) (e:Expr) (t:TE):Prop:=
 ∀(pins:List (Addr × Obj)) (s:Shared) (σ:St) (H:Hp) (Q:VK),Inv X pins σ H s→t σ H Q→wpAny (model X.prog X.w) X.A (eval e X.env) (EP X pins σ Q) X.xe s
def PT (X:Cx) (e:Expr) (t:TT):Prop:=
 ∀(pins:List (Addr × Obj)) (s:Shared) (σ:St) (H:Hp) (Q:Bool→Hp→Prop),Inv X pins σ H s→t σ H Q→wpAny (model X.prog X.w) X.A (isTrue e X.env (eval e X.env)) (TP X pins σ Q) X.xe s
def PW (X:Cx) (e:Expr) (t:TT):Prop:=
 ∀(whole:Sem Value) (pins:List (Addr × Obj)) (s:Shared) (σ:St) (H:Hp) (Q:Bool→Hp→Prop),Inv X pins σ H s→t σ H Q→wpAny (model X.prog X.w) X.A (isTrue e X.env whole) (TP X pins σ Q) X.xe s
theorem PW.pt {X:Cx} {e:Expr} {t:TT} (h:PW X e t):PT X e t:=h _
def PA (X:Cx) (es:List Expr) (t:TA):Prop:=
 ∀(pos:Pos) (pins:List (Addr × Obj)) (s:Shared) (σ:St) (H:Hp) (Q:List V→Hp→Prop),Inv X pins σ H s→t σ H Q→wpAny (model X.prog X.w) X.A (spliced (backTo pos (starEach es X.env))) (AP X pins σ Q) X.xe s
def PS (X:Cx) (st:Stmt) (t:TS):Prop:=
 ∀(pins:List (Addr × Obj)) (s:Shared) (σ:St) (H:Hp) (D:Ends),Inv X pins σ H s→t D σ H→wpAny (model X.prog X.w) X.A (exec st X.env) (SP X pins D) X.xe s
def PSs (X:Cx) (st:List Stmt) (t:TS):Prop:=
 ∀(pins:List (Addr × Obj)) (s:Shared) (σ:St) (H:Hp) (D:Ends),Inv X pins σ H s→t D σ H→wpAny (model X.prog X.w) X.A (execs st X.env) (SP X pins D) X.xe s
theorem thn {α:Type} {t:Sem α} {Q Q':α→Shared→Prop} {M:Model} {A:Around} {E:Value→Shared→Prop} {s:Shared} (h:wpAny M A t Q E s) (hQ:∀a s,Q a s→Q' a s):wpAny M A t Q' E s:=wpAny_mono h hQ fun _ _ x=>x
section
variable {X:Cx}
def tVar (i:Nat):TE:=fun σ H Q=>∃v,σ[i]? = some (some v)∧Q v H
def tC (v:V):TE:=fun _ H Q=>Q v H
theorem pe_var {i:Nat} {x:Str} {pos:Pos} (hN:X.N[i]? = some x) (hv:Vis X.env.scope x) (hd:(x == ("__debug__" : Str))=false:=by decide) (hcd:(x == ("__classdict__" : Str))=false:=by decide):PE X (.Name x pos) (tVar i):=by
 intro pins s σ H Q I h
 obtain ⟨v,e,h⟩:=h
 obtain ⟨m,hn,hl⟩:=I.loc
 obtain ⟨u,r,l⟩:=hl i x v hN e hv
 have fin:EP X pins σ Q u s:=⟨v,H,I,r,h⟩
 rcases l with ⟨hk,hm⟩ | ⟨hk,c,hc,hcell⟩
 ·exact wpAny_Name (wpAny_loadName_local I.ok.kind hk hn hm fin) hd
 ·rcases hk with hk | hk
  ·exact wpAny_Name (wpAny_loadName_cell I.ok.kind hk hc hcell fin) hd
  ·exact wpAny_Name (wpAny_loadName_free I.ok.kind hk hc hcell fin hcd) hd
theorem pe_int {i j pos}:PE X (.Constant (.int i) j pos) (tC (.int i)):=fun _ _ _ H _ I h=>wpAny_Constant_int ⟨.int i,H,I.tok _,⟨_,rfl⟩,h⟩
theorem pe_bl {b j pos}:PE X (.Constant (.bool b) j pos) (tC (.bl b)):=fun _ _ _ H _ I h=>Constant_bool ⟨.bl b,H,I,rfl,h⟩
theorem pe_non {j pos}:PE X (.Constant .none j pos) (tC .non):=fun _ _ _ H _ I h=>Constant_none ⟨.non,H,I,rfl,h⟩
theorem pe_str {x j pos}:PE X (.Constant (.str x) j pos) (tC (.str x)):=fun _ _ _ H _ I h=>Calls.Constant_str ⟨.str x,H,I.tok _,⟨_,rfl⟩,h⟩
def Gl (X:Cx) (x:Str):Prop:=X.env.kindOf x=some .globalImplicit
theorem ld_glob {E:Value→Shared→Prop} {pins:List (Addr × Obj)} {s:Shared} {σ:St} {H:Hp} {x:Str} {u:Value} {pos:Pos} {Q:Value→Shared→Prop} (I:Inv X pins σ H s) (hg:Gl X x) (hm:X.mg x=some u) (h:Q u s)
  (hd:(x == ("__debug__" : Str))=false:=by decide):wpAny (model X.prog X.w) X.A (eval (.Name x pos) X.env) Q E s:=
 Calls.Name_function_global I.ok.kind hg (Calls.loadGlobal_global (by rw [I.ok.glob]; exact I.mod.glob.keeps I.bk) hm h) hd
theorem ld_blt {E:Value→Shared→Prop} {pins:List (Addr × Obj)} {s:Shared} {σ:St} {H:Hp} {x:Str} {u:Value} {pos:Pos} {Q:Value→Shared→Prop} (I:Inv X pins σ H s) (hg:Gl X x) (hm:X.mg x=none) (hv:bootBuiltins x=some u) (h:Q u s)
  (hn:x≠"__name__":=by decide) (hd:(x == ("__debug__" : Str))=false:=by decide):wpAny (model X.prog X.w) X.A (eval (.Name x pos) X.env) Q E s:=by
 obtain ⟨mb,h1,h2⟩:=I.mod.blt
 exact Calls.Name_function_global I.ok.kind hg (Calls.loadGlobal_builtin (by rw [I.ok.glob]; exact I.mod.glob.keeps I.bk) hm (by rw [I.ok.blt]; exact h1.keeps I.bk) ((h2 x hn).trans hv) h) hd
theorem pe_glob {x:Str} {v:V} {u:Value} {pos:Pos} (hg:Gl X x) (hm:X.mg x=some u) (r:RelV v u) (hd:(x == ("__debug__" : Str))=false:=by decide):PE X (.Name x pos) (tC v):=
 fun _ _ _ H _ I h=>ld_glob I hg hm ⟨v,H,I,r,h⟩ hd
theorem pe_bltn {x:Str} {v:V} {u:Value} {pos:Pos} (hg:Gl X x) (hm:X.mg x=none) (hv:bootBuiltins x=some u) (r:RelV v u) (hn:x≠"__name__":=by decide) (hd:(x == ("__debug__" : Str))=false:=by decide):PE X (.Name x pos) (tC v):=
 fun _ _ _ H _ I h=>ld_blt I hg hm hv ⟨v,H,I,r,h⟩ hn hd
variable {a b:Expr} {ta tb:TE} {pos:Pos}
def PC (X:Cx) (op:CmpOp) (a b:Expr) (t:TE):Prop:=
 ∀(pins:List (Addr × Obj)) (s:Shared) (σ:St) (H:Hp) (Q:VK),Inv X pins σ H s→t σ H Q→
  wpAny (model X.prog X.w) X.A (eval a X.env) (fun v s₁=>wpAny (model X.prog X.w) X.A (eval b X.env) (fun u s₂=>wpAny (model X.prog X.w) X.A (compareOp op v u) (EP X pins σ Q) X.xe s₂) X.xe s₁) X.xe s
theorem nobehind (b:Expr) {op:CmpOp} (h:op≠.In) (h2:op≠.NotIn):behindInMarks op b=false:=by
 have e1:(op == CmpOp.In)=false:=by cases op <;> first | rfl | exact absurd rfl h
 have e2:(op == CmpOp.NotIn)=false:=by cases op <;> first | rfl | exact absurd rfl h2
 cases b <;> simp [behindInMarks,e1,e2]
def tNotN (ta:TE):TE:=fun σ H Q=>ta σ H fun x H1=>Q (.bl (!decide (x = .non))) H1
theorem RelV.none_iff {x:V} {v:Value} (r:RelV x v):(v == Value.none)=decide (x = .non):=by
 cases x with
 | non=>cases r; rfl
 | bl _=>cases r; rfl
 | int _=>obtain ⟨t,rfl⟩:=r; rfl
 | str _=>obtain ⟨t,rfl⟩:=r; rfl
 | byt _=>obtain ⟨t,rfl⟩:=r; rfl
 | flt _=>obtain ⟨t,rfl⟩:=r; rfl
 | ref _=>cases r; rfl
 | ty _=>cases r; rfl
theorem pc_notN {j pos'} (ha:PE X a ta):PC X .IsNot a (.Constant .none j pos') (tNotN ta):=by
 intro pins s σ H Q I h
 refine thn (ha pins s σ H _ I h) fun v s1 ⟨x,H1,I1,r1,q1⟩=>?_
 exact Constant_none (isnot_none_gen ⟨.bl _,H1,I1,by rw [r1.none_iff]; rfl,q1⟩)
def tB (t:TE):TT:=fun σ H Q=>t σ H fun x H1=>∃c,x = .bl c∧Q c H1
theorem pt_cmp {op:CmpOp} {t:TE} (h:PC X op a b t) (h1:behindInMarks op b=false:=by first | exact nobehind _ (by decide) (by decide) | rfl):PT X (.Compare a [op] [b] pos) (tB t):=by
 intro pins s σ H Q I hw
 refine wpAny_isTrue_Compare1 (thn (h pins s σ H _ I hw) fun v s1 h1=>thn h1 fun u s2 h2=>thn h2 fun c s3 ⟨x,H1,I1,r1,q1⟩=>?_) h1
 obtain ⟨d,rfl,q⟩:=q1
 cases r1
 exact wpAny_truthy_bool ⟨H1,I1,q⟩
theorem pt_val {e:Expr} {t:TE} (h:PE X e t) (he:∀whole,isTrue e X.env whole=(do let v ← whole; standAt e.pos; holding [v] (truthy v)):=by intro _; rfl):PT X e (tB t):=by
 intro pins s σ H Q I hw
 refine isTrue_plain (thn (h pins s σ H _ I hw) fun v s1 ⟨x,H1,I1,r1,q1⟩=>?_) (he _)
 obtain ⟨d,rfl,q⟩:=q1
 cases r1
 exact wpAny_truthy_bool ⟨H1,I1,q⟩
variable {tA tB':TT} {rest:List Expr}
def tAnd (t u:TT):TT:=fun σ H Q=>t σ H fun c H1=>if c=true then u σ H1 Q else Q false H1
def tOr (t u:TT):TT:=fun σ H Q=>t σ H fun c H1=>if c=true then Q true H1 else u σ H1 Q
def tNot (t:TT):TT:=fun σ H Q=>t σ H fun c H1=>Q (!c) H1
theorem pw_and1 (ha:PT X a tA):PW X (.BoolOp .And [a] pos) tA:=by
 intro wh pins s σ H Q I h
 refine isTrue_and (thn (ha pins s σ H Q I h) fun c s1 e=>?_)
 cases c with
 | true=>exact isTrue_and_nil e
 | false=>exact e
theorem pw_or1 (ha:PT X a tA):PW X (.BoolOp .Or [a] pos) tA:=by
 intro wh pins s σ H Q I h
 refine isTrue_or (thn (ha pins s σ H Q I h) fun c s1 e=>?_)
 cases c with
 | false=>exact isTrue_or_nil e
 | true=>exact e
theorem pw_and (ha:PT X a tA) (hb:PW X (.BoolOp .And (b :: rest) pos) tB'):PW X (.BoolOp .And (a :: b :: rest) pos) (tAnd tA tB'):=by
 intro wh pins s σ H Q I h
 refine isTrue_and (thn (ha pins s σ H _ I h) fun c s1 ⟨H1,I1,q1⟩=>?_)
 cases c with
 | true=>exact hb wh pins s1 σ H1 Q I1 q1
 | false=>exact ⟨H1,I1,q1⟩
theorem pw_or (ha:PT X a tA) (hb:PW X (.BoolOp .Or (b :: rest) pos) tB'):PW X (.BoolOp .Or (a :: b :: rest) pos) (tOr tA tB'):=by
 intro wh pins s σ H Q I h
 refine isTrue_or (thn (ha pins s σ H _ I h) fun c s1 ⟨H1,I1,q1⟩=>?_)
 cases c with
 | true=>exact ⟨H1,I1,q1⟩
 | false=>exact hb wh pins s1 σ H1 Q I1 q1
theorem pt_not (ha:PT X a tA):PT X (.UnaryOp .Not a pos) (tNot tA):=by
 intro pins s σ H Q I h
 exact isTrue_not (ha pins s σ H (fun c H1=>Q (!c) H1) I h)
def tAndV (ta tb:TE):TE:=fun σ H Q=>ta σ H fun x H1=>∃c,x = .bl c∧if c=true then tb σ H1 Q else Q (.bl false) H1
def tOrV (ta tb:TE):TE:=fun σ H Q=>ta σ H fun x H1=>∃c,x = .bl c∧if c=true then Q (.bl true) H1 else tb σ H1 Q
def tNotV (ta:TE):TE:=fun σ H Q=>ta σ H fun x H1=>∃c,x = .bl c∧Q (.bl (!c)) H1
theorem pe_one {op} {t:TE} (h:PE X a t):PE X (.BoolOp op [a] pos) t:=fun pins s σ H Q I hw=>BoolOp_one (h pins s σ H Q I hw)
theorem pe_and (ha:PE X a ta) (hb:PE X (.BoolOp .And (b :: rest) pos) tb):PE X (.BoolOp .And (a :: b :: rest) pos) (tAndV ta tb):=by
 intro pins s σ H Q I h
 refine BoolOp_and (thn (ha pins s σ H _ I h) fun v s1 ⟨x,H1,I1,r1,q1⟩=>?_)
 obtain ⟨c,rfl,q1⟩:=q1
 cases r1
 refine wpAny_truthy_bool ?_
 cases c with
 | true=>exact hb pins s1 σ H1 Q I1 q1
 | false=>exact ⟨.bl false,H1,I1,rfl,q1⟩
theorem pe_or (ha:PE X a ta) (hb:PE X (.BoolOp .Or (b :: rest) pos) tb):PE X (.BoolOp .Or (a :: b :: rest) pos) (tOrV ta tb):=by
 intro pins s σ H Q I h
 refine BoolOp_or (thn (ha pins s σ H _ I h) fun v s1 ⟨x,H1,I1,r1,q1⟩=>?_)
 obtain ⟨c,rfl,q1⟩:=q1
 cases r1
 refine wpAny_truthy_bool ?_
 cases c with
 | false=>exact hb pins s1 σ H1 Q I1 q1
 | true=>exact ⟨.bl true,H1,I1,rfl,q1⟩
theorem pe_not (ha:PE X a ta):PE X (.UnaryOp .Not a pos) (tNotV ta):=by
 intro pins s σ H Q I h
 refine UnaryOp_ (thn (ha pins s σ H _ I h) fun v s1 ⟨x,H1,I1,r1,q1⟩=>?_)
 obtain ⟨c,rfl,q1⟩:=q1
 cases r1
 exact not_of (wpAny_truthy_bool ⟨.bl (!c),H1,I1,rfl,q1⟩)
end
def SqL (K:PySem.W.Frag) (H:Hp) (a:Addr) (xs:List V):Prop:=
 Rd H a (.lst xs)∨
  ∃(o:Obj) (its:Array Value) (n:Nat),K.lookup a=some o∧o.cls = .type "list"∧o.dict=none∧o.data = .seq its n∧its.size≤sizeLine∧Vals xs its.toList
def SqT (K:PySem.W.Frag) (H:Hp) (a:Addr) (xs:List V):Prop:=
 Rd H a (.tup xs)∨
  ∃(o:Obj) (its:Array Value) (n:Nat),K.lookup a=some o∧o.cls = .type "tuple"∧o.data = .seq its n∧its.size≤sizeLine∧Vals xs its.toList
def absV:Value→Option V
 | .none=>some .non
 | .bool b=>some (.bl b)
 | .int i _=>some (.int i)
 | .str x _=>some (.str x)
 | .bytes b _=>some (.byt b)
 | .float b _=>some (.flt b)
 | .ref a=>some (.ref a)
 | .type n=>some (.ty n)
 | _=>none
theorem RelV.abs {x:V} {u:Value} (r:RelV x u):absV u=some x:=by
 cases x with
 | non=>cases r; rfl
 | bl _=>cases r; rfl
 | int _=>obtain ⟨t,rfl⟩:=r; rfl
 | str _=>obtain ⟨t,rfl⟩:=r; rfl
 | byt _=>obtain ⟨t,rfl⟩:=r; rfl
 | flt _=>obtain ⟨t,rfl⟩:=r; rfl
 | ref _=>cases r; rfl
 | ty _=>cases r; rfl
theorem RelV.inj {x y:V} {u:Value} (r:RelV x u) (q:RelV y u):x=y:=Option.some.inj (r.abs.symm.trans q.abs)
theorem Vals.inj:∀{xs ys:List V} {us:List Value},Vals xs us→Vals ys us→xs=ys
 | _,_,_,.nil,.nil=>rfl
 | _,_,_,.cons r t,.cons r' t'=>by rw [r.inj r',Vals.inj t t']
section
variable {X:Cx} {pins:List (Addr × Obj)} {σ:St} {H:Hp} {s:Shared} {a:Addr} {xs ys:List V}
theorem SqL.of {K:PySem.W.Frag} (h:H a=some (.lst xs)):SqL K H a xs:=.inl (.inl h)
theorem SqT.of {K:PySem.W.Frag} (h:H a=some (.tup xs)):SqT K H a xs:=.inl (.inl h)
theorem Inv.list (I:Inv X pins σ H s) (h:SqL X.K H a xs):∃its:List Value,Vals xs its∧PlainL s.heap a its.toArray∧xs.length≤sizeLine:=by
 rcases h with h | ⟨o,its,n,hk,hc,hd,hs,hz,r⟩
 ·obtain ⟨z,its,n,r,e⟩:=h.ok I.hok
  exact ⟨its,r,⟨_,n,e,rfl,rfl,rfl⟩,z⟩
 ·refine ⟨its.toList,r,⟨o,n,I.kIn a o hk,hc,hd,by simpa using hs⟩,?_⟩
  have e:=r.length
  simp only [Array.length_toList] at e
  omega
theorem Inv.tuple (I:Inv X pins σ H s) (h:SqT X.K H a xs):∃its:List Value,Vals xs its∧IsTup s.heap a its.toArray∧xs.length≤sizeLine:=by
 rcases h with h | ⟨o,its,n,hk,hc,hs,hz,r⟩
 ·obtain ⟨z,its,r,p⟩:=h.ok I.hok
  exact ⟨its,r,p,z⟩
 ·refine ⟨its.toList,r,⟨o,I.kIn a o hk,hc,n,by simpa using hs⟩,?_⟩
  have e:=r.length
  simp only [Array.length_toList] at e
  omega
theorem Inv.list_inj (I:Inv X pins σ H s) (h:SqL X.K H a xs) (h':SqL X.K H a ys):xs=ys:=by
 obtain ⟨its,r,⟨o,n,e,_,_,d⟩,_⟩:=I.list h
 obtain ⟨its',r',⟨o',n',e',_,_,d'⟩,_⟩:=I.list h'
 rw [e] at e'; cases e'
 rw [d] at d'
 injection d' with d1 _
 have:its=its':=by simpa using congrArg Array.toList d1
 subst this
 exact r.inj r'
theorem Inv.tuple_inj (I:Inv X pins σ H s) (h:SqT X.K H a xs) (h':SqT X.K H a ys):xs=ys:=by
 obtain ⟨its,r,⟨o,e,_,n,d⟩,_⟩:=I.tuple h
 obtain ⟨its',r',⟨o',e',_,n',d'⟩,_⟩:=I.tuple h'
 rw [e] at e'; cases e'
 rw [d] at d'
 injection d' with d1 _
 have:its=its':=by simpa using congrArg Array.toList d1
 subst this
 exact r.inj r'
end
abbrev Cx.wish (X:Cx) (E:Value→Shared→Prop):Cx:={X with xe:=E}
abbrev Cx.nox (X:Cx):Cx:=X.wish fun _ _=>False
theorem Cx.Ok.wish {X:Cx} (ok:X.Ok) (E:Value→Shared→Prop):(X.wish E).Ok:=
 ⟨ok.mod,ok.kind,ok.glob,ok.blt,ok.above,ok.inj,ok.has,ok.cab,ok.hd,ok.frames,ok.stk,ok.exf,ok.bs,ok.bsz,ok.noex,ok.exfs,ok.funs,ok.frf⟩
theorem Cx.Ok.unwish {X:Cx} {E:Value→Shared→Prop} (ok:(X.wish E).Ok):X.Ok:=
 ⟨ok.mod,ok.kind,ok.glob,ok.blt,ok.above,ok.inj,ok.has,ok.cab,ok.hd,ok.frames,ok.stk,ok.exf,ok.bs,ok.bsz,ok.noex,ok.exfs,ok.funs,ok.frf⟩
section
variable {X:Cx} {pins:List (Addr × Obj)} {σ:St} {H:Hp} {s:Shared} {E:Value→Shared→Prop}
theorem Inv.wish (I:Inv X pins σ H s) (E:Value→Shared→Prop):Inv (X.wish E) pins σ H s:=⟨I.ok.wish E,I.os,I.bare,I.base,I.loc,I.cell,I.free,I.freeC,I.pin,I.hok,I.len⟩
theorem Inv.unwish (I:Inv (X.wish E) pins σ H s):Inv X pins σ H s:=⟨I.ok.unwish,I.os,I.bare,I.base,I.loc,I.cell,I.free,I.freeC,I.pin,I.hok,I.len⟩
theorem SP.unwish {D:Ends} {f:Flow} {s':Shared} (h:SP (X.wish E) pins D f s'):SP X pins D f s':=by
 cases f with
 | next=>obtain ⟨σ',H',I,q⟩:=h; exact ⟨σ',H',I.unwish,q⟩
 | brk=>obtain ⟨σ',H',I,q⟩:=h; exact ⟨σ',H',I.unwish,q⟩
 | cont=>obtain ⟨σ',H',I,q⟩:=h; exact ⟨σ',H',I.unwish,q⟩
 | ret u=>obtain ⟨v,σ',H',I,r,q⟩:=h; exact ⟨v,σ',H',I.unwish,r,q⟩
theorem PSs.nox {st:List Stmt} {t:TS} (h:PSs X.nox st t):PSs X st t:=fun pins s σ H D I hw=>
 wpAny_mono (h pins s σ H D (I.wish _) hw) (fun _ _ q=>q.unwish) fun _ _ z=>False.elim z
end
section
variable {X:Cx} {st:Stmt} {rest:List Stmt} {t u:TS} {e:Expr} {te:TE} {pos:Pos}
def tNext:TS:=fun D σ H=>D.nx σ H
def tSeq (t u:TS):TS:=fun D σ H=>t {D with nx:=u D} σ H
theorem pss_nil:PSs X [] tNext:=fun _ _ σ H _ I h=>wpAny_execs_nil ⟨σ,H,I,h⟩
theorem pss_cons (h1:PS X st t) (h2:PSs X rest u):PSs X (st :: rest) (tSeq t u):=by
 intro pins s σ H D I h
 refine wpAny_execs_cons (thn (h1 pins s σ H {D with nx:=u D} I h) fun f s1 q=>?_)
 cases f with
 | next=>
  obtain ⟨σ',H',I',q⟩:=q
  exact h2 pins s1 σ' H' D I' q
 | ret v=>exact q
 | brk=>exact q
 | cont=>exact q
theorem pss_one (h1:PS X st t):PSs X [st] t:=by
 intro pins s σ H D I h
 refine wpAny_execs_cons (thn (h1 pins s σ H D I h) fun f s1 q=>?_)
 cases f with
 | next=>exact wpAny_execs_nil q
 | ret v=>exact q
 | brk=>exact q
 | cont=>exact q
theorem Inv.quiet {pins:List (Addr × Obj)} {σ:St} {H:Hp} {s:Shared} (I:Inv X pins σ H s):interactive X.env=false:=by simp [interactive,I.ok.kind]
def tDrop (te:TE):TS:=fun D σ H=>te σ H fun _ H1=>D.nx σ H1
theorem ps_expr (he:PE X e te) (hs:swapsWith e none pos.line X.env=pure false:=by rfl):PS X (.Expr e pos) (tDrop te):=by
 intro pins s σ H D I h
 exact wpAny_Expr_any (thn (he pins s σ H _ I h) fun v s1 ⟨x,H1,I1,r1,q1⟩=>⟨σ,H1,I1,q1⟩) I.quiet hs
def tRet (te:TE):TS:=fun D σ H=>te σ H D.rt
theorem ps_ret (he:PE X e te):PS X (.Return (some e) pos) (tRet te):=by
 intro pins s σ H D I h
 exact wpAny_Return_some (thn (he pins s σ H _ I h) fun v s1 ⟨x,H1,I1,r1,q1⟩=>⟨x,σ,H1,I1,r1,q1⟩)
def tIfS (c:TT) (t u:TS):TS:=fun D σ H=>c σ H fun b H1=>if b=true then t D σ H1 else u D σ H1
theorem ps_if {c:Expr} {a b:List Stmt} {tc:TT} (hc:PT X c tc) (ha:PSs X a t) (hb:PSs X b u):PS X (.If c a b pos) (tIfS tc t u):=by
 intro pins s σ H D I h
 refine wpAny_If (thn (hc pins s σ H _ I h) fun d s1 ⟨H1,I1,q1⟩=>?_)
 cases d with
 | true=>exact ha pins s1 σ H1 D I1 q1
 | false=>exact hb pins s1 σ H1 D I1 q1
def tNever:TS:=fun _ _ _=>False
theorem pss_never {sts:List Stmt}:PSs X sts tNever:=fun _ _ _ _ _ _ h=>h.elim
end
abbrev TG:=V→St→Hp→(St→Hp→Prop)→Prop
abbrev TGs:=List V→St→Hp→(St→Hp→Prop)→Prop
def PG (X:Cx) (target:Expr) (t:TG):Prop:=
 ∀(pins:List (Addr × Obj)) (s:Shared) (σ:St) (H:Hp) (v:V) (u:Value) (Q:St→Hp→Prop),Inv X pins σ H s→RelV v u→t v σ H Q→
  wpAny (model X.prog X.w) X.A (assign target X.env u) (fun _ s'=>∃σ' H',Inv X pins σ' H' s'∧Q σ' H') X.xe s
def PGs (X:Cx) (ts:List Expr) (t:TGs):Prop:=
 ∀(pins:List (Addr × Obj)) (s:Shared) (σ:St) (H:Hp) (vs:List V) (us:List Value) (Q:St→Hp→Prop),Inv X pins σ H s→Vals vs us→t vs σ H Q→
  wpAny (model X.prog X.w) X.A (assignInOrder ((assignEach ts X.env).map (·.2)) us) (fun _ s'=>∃σ' H',Inv X pins σ' H' s'∧Q σ' H') X.xe s
abbrev TSet:=V→V→V→Hp→(Hp→Prop)→Prop
def PSet (X:Cx) (t:TSet):Prop:=
 ∀(pins:List (Addr × Obj)) (s:Shared) (σ:St) (H:Hp) (o i v:V) (ov iv u:Value) (Q:Hp→Prop),Inv X pins σ H s→RelV o ov→RelV i iv→RelV v u→t o i v H Q→
  wpAny (model X.prog X.w) X.A (setItem ov iv u) (fun _ s'=>∃H',Inv X pins σ H' s'∧Q H') X.xe s
section
variable {X:Cx} {pos:Pos}
def gName (i:Nat):TG:=fun v σ H Q=>Q (σ.set i (some v)) H
theorem pg_name {i:Nat} {x:Str} (hN:X.N.Nodup) (hi:X.N[i]? = some x) (hx:Loc X.env.scope x) (hf:X.fn x=true∨X.env.scope.names.lookup x=some .local:=by first | exact .inl rfl | exact .inr rfl | assumption):PG X (.Name x pos) (gName i):=by
 intro pins s σ H v u Q I r h
 exact wpAny_assign_Name (store_ok I hN hi hx r (fun s' I'=>⟨_,H,I',h⟩) hf)
def gNil:TGs:=fun vs σ H Q=>vs=[]∧Q σ H
def gCons (t:TG) (u:TGs):TGs:=fun vs σ H Q=>∃v r,vs=v :: r∧t v σ H fun σ' H'=>u r σ' H' Q
theorem pgs_nil:PGs X [] gNil:=by
 intro pins s σ H vs us Q I r h
 obtain ⟨e,h⟩:=h
 subst e
 cases r
 exact assignInOrder_nil ⟨σ,H,I,h⟩
theorem pgs_cons {e:Expr} {es:List Expr} {t:TG} {u:TGs} (h1:PG X e t) (h2:PGs X es u)
  (hs:(assignEach (e :: es) X.env).map (·.2)=assign e X.env :: (assignEach es X.env).map (·.2):=by rfl):PGs X (e :: es) (gCons t u):=by
 intro pins s σ H vs us Q I r h
 obtain ⟨v,vr,e1,h⟩:=h
 subst e1
 cases r with
 | cons r rr=>
  rw [hs]
  refine assignInOrder_cons (thn (h1 pins s σ H _ _ _ I r h) fun _ s1 ⟨σ1,H1,I1,q1⟩=>?_)
  exact h2 pins s1 σ1 H1 _ _ Q I1 rr q1
def gTup (K:PySem.W.Frag) (n:Nat) (t:TGs):TG:=fun v σ H Q=>∃a xs,v = .ref a∧SqT K H a xs∧xs.length=n∧t xs σ H Q
theorem pg_tup {es:List Expr} {k:Nat} {t:TGs} {n:Nat} (hc:X.calm=true) (h:PGs X es t)
  (hn:(assignEach es X.env).length=n:=by rfl) (hst:(assignEach es X.env).findIdx? (·.1)=none:=by rfl):PG X (.Tuple es k pos) (gTup X.K n t):=by
 intro pins s σ H v u Q I r hw
 obtain ⟨a,xs,e1,hq,hl,hw⟩:=hw
 subst e1
 cases r
 obtain ⟨its,rv,ht,hz⟩:=I.tuple hq
 refine assign_Tuple_tuple (I.ok.hd hc) ht (by simp [hn,← hl,rv.length]) hst fun h' hx=>?_
 have I1:Inv X pins σ H {s with heap:=h'}:=I.kept (t':=s.toks) fun b o e=>hx b o (Nat.ne_of_lt (Heap.lt_size e)) e
 exact h pins _ σ H xs _ Q I1 (by simpa using rv) hw
def gSub (to ti:TE) (t:TSet):TG:=fun v σ H Q=>to σ H fun o H1=>ti σ H1 fun i H2=>t o i v H2 fun H3=>Q σ H3
theorem pg_sub {o i:Expr} {to ti:TE} {t:TSet} (ho:PE X o to) (hi:PE X i ti) (hs:PSet X t)
  (ha:∀v,assign (.Subscript o i pos) X.env v=(do
   let ov ← holding [v] (eval o X.env)
   let iv ← holding [v,ov] (eval i X.env)
   standAt pos
   holding [v,ov,iv] (setItem ov iv v)
   release [v,ov,iv] []):=by intro _; rfl):PG X (.Subscript o i pos) (gSub to ti t):=by
 intro pins s σ H v u Q I r h
 rw [ha]
 refine wpAny_bind (wpAny_holding (thn (ho pins s σ H _ I h) fun ov s1 ⟨x,H1,I1,r1,q1⟩=>?_))
 refine wpAny_bind (wpAny_holding (thn (hi pins s1 σ H1 _ I1 q1) fun iv s2 ⟨y,H2,I2,r2,q2⟩=>?_))
 refine wpAny_bind (wpAny_standAt (wpAny_bind (wpAny_holding (thn (hs pins s2 σ H2 x y v ov iv u _ I2 r1 r2 r q2) fun _ s3 ⟨H3,I3,q3⟩=>?_))))
 exact wpAny_release ⟨σ,H3,I3,q3⟩
def tAsg (te:TE) (g:TG):TS:=fun D σ H=>te σ H fun x H1=>g x σ H1 D.nx
theorem ps_asg {tg e:Expr} {te:TE} {g:TG} (he:PE X e te) (hg:PG X tg g) (hs:swapsWithSole [tg] e pos.line X.env=pure false:=by rfl) (hw:swappedStores [tg] e X.env=pure none:=by rfl)
  (h1:(assignEach [tg] X.env).map (·.2)=[assign tg X.env]:=by rfl):PS X (.Assign [tg] e pos) (tAsg te g):=by
 intro pins s σ H D I h
 refine wpAny_Assign_stores (thn (he pins s σ H _ I h) fun v s1 ⟨x,H1,I1,r1,q1⟩=>?_) hs hw
 rw [h1]
 exact thn (hg pins s1 σ H1 x v _ I1 r1 q1) fun _ s2 q=>q
theorem ps_set {i:Nat} {x:Str} {e:Expr} {te:TE} {pos':Pos} (hN:X.N.Nodup) (hi:X.N[i]? = some x) (hx:Loc X.env.scope x) (he:PE X e te) (hs:swapsWith e (some (.Name x pos')) pos.line X.env=pure false:=by rfl) (hf:X.fn x=true∨X.env.scope.names.lookup x=some .local:=by first | exact .inl rfl | exact .inr rfl | assumption) :
  PS X (.Assign [.Name x pos'] e pos) (tAsg te (gName i)):=by
 intro pins s σ H D I h
 refine wpAny_Assign_Name (thn (he pins s σ H _ I h) fun v s1 ⟨y,H1,I1,r1,q1⟩=>?_) hs
 exact store_ok I1 hN hi hx r1 (fun s2 I2=>⟨_,H1,I2,q1⟩) hf
def tPar (i j:Nat) (ta:TA):TS:=fun D σ H=>ta σ H fun vs H1=>∃v w,vs=[v,w]∧D.nx ((σ.set i (some v)).set j (some w)) H1
theorem ps_par {i j:Nat} {x y:Str} {a b:Expr} {ta:TA} {px py pt:Pos} {kt k2 pt2} (hc:X.calm=true) (hN:X.N.Nodup) (hi:X.N[i]? = some x) (hj:X.N[j]? = some y) (hij:i≠j)
  (hx:X.env.scope.names.lookup x=some .local) (hy:X.env.scope.names.lookup y=some .local) (ha:PA X [a,b] ta)
  (hw:swappedStores [.Tuple [.Name x px,.Name y py] kt pt] (.Tuple [a,b] k2 pt2) X.env=pure (some [x,y]))
  (hs:swapsWithSole [.Tuple [.Name x px,.Name y py] kt pt] (.Tuple [a,b] k2 pt2) pos.line X.env=pure false:=by rfl) :
  PS X (.Assign [.Tuple [.Name x px,.Name y py] kt pt] (.Tuple [a,b] k2 pt2) pos) (tPar i j ta):=by
 intro pins s σ H D I h
 rw [exec_Assign_arm]
 refine wpAny_bind (wpAny_standAt ?_)
 rw [hs]
 refine wpAny_bind (wpAny_pure ?_)
 rw [if_neg (by decide)]
 refine wpAny_bind (Tuple_ (thn (ha _ pins s σ H _ I h) fun us s1 ⟨vs,H1,I1,r1,q1⟩=>?_))
 obtain ⟨v,w,e1,q1⟩:=q1
 subst e1
 obtain ⟨u1,u2,rfl,rv,rw'⟩:∃u1 u2,us=[u1,u2]∧RelV v u1∧RelV w u2:=by
  cases r1 with
  | cons p q=>
   cases q with
   | cons p' q'=>
    cases q'
    exact ⟨_,_,rfl,p,p'⟩
 refine wpAny_newObj_type ?_ (by show 2≤sizeLine; decide)
 have I2:Inv X pins σ H1 {s1 with heap:=s1.heap.push {cls:=.type "tuple",data:=.seq [u1,u2].toArray}}:=I1.kept (t':=s1.toks) fun b o e=>Heap.get?_push_of_some _ e
 rw [hw]
 refine wpAny_bind (wpAny_pure ?_)
 show wpAny (model X.prog X.w) X.A (do rule "assign.swapped-stores"; let items ← unpackItems (.ref s1.heap.objs.size) 2 none; assignInOrder [fun v=>bindName X.env y v,fun v=>bindName X.env x v] items.reverse; pure Flow.next) _ _ _
 refine wpAny_bind (wpAny_rule (wpAny_bind (unpackItems_tuple (items:=#[u1,u2]) (I.ok.hd hc) (IsTup.new s1.heap _) fun h' hx'=>?_)))
 have I3:=I2.kept (h':=h') (t':=s1.toks) fun b o e=>hx' b o (Nat.ne_of_lt (Heap.lt_size e)) e
 show wpAny _ _ (assignInOrder [fun v=>bindName X.env y v,fun v=>bindName X.env x v] [u2,u1] >>= fun _=>pure Flow.next) _ _ _
 refine wpAny_bind (assignInOrder_cons (wpAny_bindName (store_ok I3 hN hj (.inl hy) rw' (fun s2 I4=>?_) (.inr hy))))
 refine assignInOrder_cons (wpAny_bindName (store_ok I4 hN hi (.inl hx) rv (fun s3 I5=>assignInOrder_nil (wpAny_pure ?_)) (.inr hx)))
 rw [List.set_comm _ _ (Ne.symm hij)] at I5
 exact ⟨_,H1,I5,q1⟩
def tWhile (c:TT) (tb:TS):TS:=fun D σ H=>∃W:Nat→St→Hp→Prop,(∃m,W m σ H)∧∀m σ H,W m σ H→
 c σ H fun b H1=>if b=true then ∃N:St→Hp→Prop,(∀σ' H',N σ' H'→∃m',m' < m∧W m' σ' H')∧tb {D with nx:=N,ct:=N,bk:=D.nx} σ H1 else D.nx σ H1
theorem ps_while {c:Expr} {body:List Stmt} {tc:TT} {tb:TS} (hp:PassesOwn (model X.prog X.w) X.A X.env X.xe) (hc:PT X c tc) (hb:PSs X body tb):PS X (.While c body [] pos) (tWhile tc tb):=by
 intro pins s σ H D I h
 obtain ⟨W,⟨m0,w0⟩,turn⟩:=h
 refine wpAny_While (codeAny_whileLoop (fun n s'=>∃σ' H',Inv X pins σ' H' s'∧W n σ' H') ?_ m0 ⟨σ,H,I,w0⟩)
 rintro n s1 ⟨σ1,H1,I1,w1⟩
 refine wpAny_passesOwn hp (thn (hc pins s1 σ1 H1 _ I1 (turn n σ1 H1 w1)) fun b s2 ⟨H2,I2,q2⟩=>?_)
 cases b with
 | true=>
  obtain ⟨N,hN,q2⟩:=q2
  rw [if_pos rfl]
  refine wpAny_passesOwn hp (thn (hb pins s2 σ1 H2 _ I2 q2) fun f s3 q3=>?_)
  cases f with
  | next=>
   obtain ⟨σ3,H3,I3,n3⟩:=q3
   obtain ⟨m',hm,w3⟩:=hN σ3 H3 n3
   exact ⟨m',hm,σ3,H3,I3,w3⟩
  | cont=>
   obtain ⟨σ3,H3,I3,n3⟩:=q3
   obtain ⟨m',hm,w3⟩:=hN σ3 H3 n3
   exact ⟨m',hm,σ3,H3,I3,w3⟩
  | brk=>exact q3
  | ret v=>exact q3
 | false=>
  rw [if_neg Bool.false_ne_true]
  exact wpAny_execs_nil ⟨σ1,H2,I2,q2⟩
end
structure It where
 go:Nat→Hp→Prop
 yld:Nat→Hp→V→Hp→Prop
 stop:Nat→Hp→Prop
def FpOk (X:Cx) (pins:List (Addr × Obj)) (H:Hp) (b:Addr):Prop:=
 H b=none∧b≠X.env.locals∧b∉X.fs∧(b∈X.ex∨X.s₀.heap.objs.size≤b)∧(∀x c,X.env.cells.lookup x=some c→c≠b)∧∀p∈X.pn ++ pins,p.1≠b
theorem Inv.fpOk {X:Cx} {pins:List (Addr × Obj)} {σ:St} {H H':Hp} {s:Shared} {b:Addr} (I:Inv X pins σ H s) (hb:s.heap.objs.size≤b) (hn:H' b=none):FpOk X pins H' b:=by
 refine ⟨hn,Nat.ne_of_gt (Nat.lt_of_lt_of_le I.lt hb),I.nofs hb,.inr (Nat.le_trans I.sz hb),fun x c e z=>?_,fun p hp z=>?_⟩
 ·obtain ⟨v,q⟩:=I.cell x c e
  exact absurd (Nat.lt_of_lt_of_le q.lt (by rw [z]; exact hb)) (Nat.lt_irrefl _)
 ·exact absurd (Nat.lt_of_lt_of_le (Heap.lt_size (I.pin p hp).1) (by rw [z]; exact hb)) (Nat.lt_irrefl _)
structure Turn (P:Program) (w:World) (K:PySem.W.Frag) (tg:Expr) (J:It) (fp:List Addr) (it:Addr) (tn:Nat→Heap→Prop):Prop where
 mem:it∈fp
 obj:∀i h,tn i h→∀b∈fp,∃o,h.get? b=some o∧∀v,o.data≠.cell v
 keep:∀i h h',tn i h→(∀b∈fp,∀o,h.get? b=some o→h'.get? b=some o)→tn i h'
 item:∀(X:Cx),X.prog=P→X.w=w→X.K=K→X.calm=true→∀(i:Nat) (pins:List (Addr × Obj)) (s:Shared) (σ:St) (H:Hp) (E:Value→Shared→Prop),Inv X pins σ H s→(∀b∈fp,FpOk X pins H b)→tn i s.heap→J.go i H→
  wpAny (model P w) X.A (pyNext (.ref it)) (fun r s1=>∃u,r=some u∧
   wpAny (model P w) X.A (letOwnedTupleGo tg (.ref it) u) (fun _ s2=>∃x H',Inv X pins σ H' s2∧RelV x u∧J.yld i H x H'∧tn (i + 1) s2.heap∧∀b∈fp,H' b=none) E s1) E s
 done:∀(X:Cx),X.prog=P→X.w=w→X.K=K→X.calm=true→∀(i:Nat) (pins:List (Addr × Obj)) (s:Shared) (σ:St) (H:Hp) (E:Value→Shared→Prop),Inv X pins σ H s→(∀b∈fp,FpOk X pins H b)→tn i s.heap→J.stop i H→
  wpAny (model P w) X.A (pyNext (.ref it)) (fun r s1=>r=none∧Inv X pins σ H s1) E s
 self:∀(A:Around) (i:Nat) (s:Shared) (Q:Value→Shared→Prop) (E:Value→Shared→Prop),tn i s.heap→Q (.ref it) s→wpAny (model P w) A (pyIter (.ref it)) Q E s
abbrev TI:=St→Hp→(It→Hp→Prop)→Prop
def PIE (X:Cx) (pins:List (Addr × Obj)) (σ:St) (tg:Expr) (R:It→Hp→Prop) (itv:Value) (s2:Shared):Prop:=
 ∃(it:Addr) (fp:List Addr) (tn:Nat→Heap→Prop) (J:It) (H':Hp),itv = .ref it∧Inv X pins σ H' s2∧Turn X.prog X.w X.K tg J fp it tn∧tn 0 s2.heap∧(∀b∈fp,FpOk X pins H' b)∧R J H'
def PI (X:Cx) (tg iter:Expr) (wi:TI):Prop:=
 ∀(pins:List (Addr × Obj)) (s:Shared) (σ:St) (H:Hp) (R:It→Hp→Prop),Inv X pins σ H s→wi σ H R→
  wpAny (model X.prog X.w) X.A (eval iter X.env) (fun v s1=>wpAny (model X.prog X.w) X.A (pyIter v) (PIE X pins σ tg R) X.xe s1) X.xe s
theorem go_of {M:Model} {A:Around} {E:Value→Shared→Prop} {s:Shared} {tg:Expr} {it:Addr} {u:Value} {o:Obj} {n:String} {vs:Array Value} {Q:Unit→Shared→Prop} (ho:s.heap.get? it=some o) (hc:o.cls = .type n) (hd:o.data = .fields vs)
    (hn:["enumerate","zip","dict_itemiterator","dict_reverseitemiterator","odict_iterator","itertools.zip_longest","itertools.pairwise"].contains n=false) (hQ:Q () s):wpAny M A (letOwnedTupleGo tg (.ref it) u) Q E s:=by
  unfold letOwnedTupleGo
  cases tg <;> first
    | exact wpAny_pure hQ
    | (cases u <;> first
        | exact wpAny_pure hQ
        | (refine wpAny_bind (wpAny_load ho ?_)
           rw [hc,hd]
           show wpAny M A (if (["enumerate","zip","dict_itemiterator","dict_reverseitemiterator","odict_iterator","itertools.zip_longest","itertools.pairwise"].contains n && vs[0]? == some (rawInt _))=true then _ else _) Q E s
           rw [if_neg (by intro h; rw [hn,Bool.false_and] at h; cases h)]
           exact wpAny_pure hQ))
def Itl (K:PySem.W.Frag) (a:Addr):It:=
 ⟨fun i H=>∃xs x,SqL K H a xs∧xs[i]? = some x,fun i H x H'=>H'=H∧∀xs,SqL K H a xs→xs[i]? = some x,fun i H=>∃xs,SqL K H a xs∧xs.length≤i⟩
def Itt (K:PySem.W.Frag) (a:Addr):It:=
 ⟨fun i H=>∃xs x,SqT K H a xs∧xs[i]? = some x,fun i H x H'=>H'=H∧∀xs,SqT K H a xs→xs[i]? = some x,fun i H=>∃xs,SqT K H a xs∧xs.length≤i⟩
def Itr (lo:Int) (n:Nat):It:=⟨fun i _=>i < n,fun i H x H'=>H'=H∧x = .int (lo + i),fun i _=>n≤i⟩
theorem turn_list {P:Program} {w:World} {K:PySem.W.Frag} {tg:Expr} (a it:Addr):Turn P w K tg (Itl K a) [it] it (fun i h=>h.IsListIter it a i) where
 mem:=by simp
 obj:=fun i h st b hb=>by
  have e:b=it:=by simpa using hb
  subst e
  obtain ⟨o,e,c,d⟩:=st
  exact ⟨o,e,fun v z=>by rw [d] at z; cases z⟩
 keep:=fun i h h' st k=>st.at fun o e=>k it (by simp) o e
 item:=by
  intro X hP hw hK hc i pins s σ H E I hf st hg
  subst hP hw hK
  obtain ⟨xs,x,hq,hx⟩:=hg
  obtain ⟨its,rv,p,hz⟩:=I.list hq
  obtain ⟨u,hu,ru⟩:=rv.get hx
  obtain ⟨f0,f1,f2,f3,f4,f5⟩:=hf it (by simp)
  refine wpAny_pyNext_list_item st p.isList (x:=u) (by simpa using hu) fun h' st' sb=>?_
  have I1:Inv X pins σ H {s with heap:=h'}:=I.turned (t':=s.toks) (fun b o hb e=>(sb.2 b hb).trans e) f0 f1 f3 f4 f5
  obtain ⟨o,e,c,d⟩:=id st'
  exact ⟨u,rfl,go_of (s:={s with heap:=h'}) e c d (by decide) ⟨x,H,I1,ru,⟨rfl,fun ys hy=>by rw [I.list_inj hy hq]; exact hx⟩,st',fun b hb=>(hf b hb).1⟩⟩
 done:=by
  intro X hP hw hK hc i pins s σ H E I hf st hg
  subst hP hw hK
  obtain ⟨xs,hq,hx⟩:=hg
  obtain ⟨its,rv,p,hz⟩:=I.list hq
  obtain ⟨f0,f1,f2,f3,f4,f5⟩:=hf it (by simp)
  have hl:=rv.length
  exact wpAny_pyNext_list_end (I.ok.hd hc) st p.isList (by simp; omega) fun h' eb=>⟨rfl,I.turned (t':=s.toks) (fun b o hb e=>eb b o hb e) f0 f1 f3 f4 f5⟩
 self:=fun _ _ _ _ _ st h=>wpAny_pyIter_listiter st h
theorem turn_tuple {P:Program} {w:World} {K:PySem.W.Frag} {tg:Expr} (a it:Addr):Turn P w K tg (Itt K a) [it] it (fun i h=>h.IsTupleIter it a i) where
 mem:=by simp
 obj:=fun i h st b hb=>by
  have e:b=it:=by simpa using hb
  subst e
  obtain ⟨o,e,c,d⟩:=st
  exact ⟨o,e,fun v z=>by rw [d] at z; cases z⟩
 keep:=fun i h h' st k=>st.at fun o e=>k it (by simp) o e
 item:=by
  intro X hP hw hK hc i pins s σ H E I hf st hg
  subst hP hw hK
  obtain ⟨xs,x,hq,hx⟩:=hg
  obtain ⟨its,rv,p,hz⟩:=I.tuple hq
  obtain ⟨u,hu,ru⟩:=rv.get hx
  obtain ⟨f0,f1,f2,f3,f4,f5⟩:=hf it (by simp)
  refine wpAny_pyNext_tuple_item st (show s.heap.IsTuple a its.toArray from p) (x:=u) (by simpa using hu) fun h' st' sb=>?_
  have I1:Inv X pins σ H {s with heap:=h'}:=I.turned (t':=s.toks) (fun b o hb e=>(sb.2 b hb).trans e) f0 f1 f3 f4 f5
  obtain ⟨o,e,c,d⟩:=id st'
  exact ⟨u,rfl,go_of (s:={s with heap:=h'}) e c d (by decide) ⟨x,H,I1,ru,⟨rfl,fun ys hy=>by rw [I.tuple_inj hy hq]; exact hx⟩,st',fun b hb=>(hf b hb).1⟩⟩
 done:=by
  intro X hP hw hK hc i pins s σ H E I hf st hg
  subst hP hw hK
  obtain ⟨xs,hq,hx⟩:=hg
  obtain ⟨its,rv,p,hz⟩:=I.tuple hq
  obtain ⟨f0,f1,f2,f3,f4,f5⟩:=hf it (by simp)
  have hl:=rv.length
  exact wpAny_pyNext_tuple_end (I.ok.hd hc) st (show s.heap.IsTuple a its.toArray from p) (by simp; omega) fun h' eb=>⟨rfl,I.turned (t':=s.toks) (fun b o hb e=>eb b o hb e) f0 f1 f3 f4 f5⟩
 self:=fun _ _ _ _ _ st h=>wpAny_pyIter_tupleiter st h
theorem turn_range {P:Program} {w:World} {K:PySem.W.Frag} {tg:Expr} (it:Addr) (lo:Int) (n:Nat):Turn P w K tg (Itr lo n) [it] it (fun i h=>IsRangeIter h it (lo + (i:Nat) * 1) ((n:Int) - (i:Nat)) 1) where
 mem:=by simp
 obj:=fun i h st b hb=>by
  have e:b=it:=by simpa using hb
  subst e
  exact ⟨_,st,fun v z=>by
   have z':Data.fields _=Data.cell v:=z
   cases z'⟩
 keep:=fun i h h' st k=>k it (by simp) _ st
 item:=by
  intro X hP hw hK hc i pins s σ H E I hf st hg
  subst hP hw hK
  obtain ⟨f0,f1,f2,f3,f4,f5⟩:=hf it (by simp)
  have W:=Walks.range (prog:=X.prog) (w:=X.w) (I.ok.hd hc) it lo 1 n
  refine W.item i s _ _ hg st fun v h' tk hv st' kk=>?_
  obtain ⟨t,rfl⟩:=hv
  have I1:Inv X pins σ H {s with heap:=h',toks:=tk}:=I.turned (fun b o hb e=>kk b o (by simpa using hb) e) f0 f1 f3 f4 f5
  refine ⟨_,rfl,go_of (s:={s with heap:=h',toks:=tk}) (n:="range_iterator") st' rfl rfl (by decide) ⟨.int (lo + i),H,I1,⟨t,?_⟩,⟨rfl,rfl⟩,st',fun b hb=>(hf b hb).1⟩⟩
  rw [Int.mul_one]
 done:=by
  intro X hP hw hK hc i pins s σ H E I hf st hg
  subst hP hw hK
  obtain ⟨f0,f1,f2,f3,f4,f5⟩:=hf it (by simp)
  exact wpAny_pyNext_range_end (I.ok.hd hc) st (by have:n≤i:=hg; omega) fun h' eb=>⟨rfl,I.turned (t':=s.toks) (fun b o hb e=>eb b o hb e) f0 f1 f3 f4 f5⟩
 self:=fun _ _ _ _ _ st h=>wpAny_pyIter_rangeiter st h
section
variable {X:Cx} {tg:Expr}
def iList (K:PySem.W.Frag) (tl:TE):TI:=fun σ H R=>tl σ H fun x H1=>∃a,x = .ref a∧(∃xs,SqL K H1 a xs)∧R (Itl K a) H1
def iTup (K:PySem.W.Frag) (tl:TE):TI:=fun σ H R=>tl σ H fun x H1=>∃a,x = .ref a∧(∃xs,SqT K H1 a xs)∧R (Itt K a) H1
theorem pi_list {l:Expr} {tl:TE} (hl:PE X l tl):PI X tg l (iList X.K tl):=by
 intro pins s σ H R I h
 refine thn (hl pins s σ H _ I h) fun v s1 ⟨x,H1,I1,r1,q1⟩=>?_
 obtain ⟨a,e,⟨xs,hq⟩,q⟩:=q1
 subst e
 cases r1
 obtain ⟨its,rv,p,hz⟩:=I1.list hq
 refine wpAny_pyIter_list p.isList ?_
 refine ⟨s1.heap.objs.size,[s1.heap.objs.size],_,_,H1,rfl,I1.kept (t':=s1.toks) fun b o e=>Heap.get?_push_of_some _ e,turn_list a _,⟨_,Heap.get?_push_size _ rfl,rfl,rfl⟩,fun b hb=>?_,q⟩
 have e:b=s1.heap.objs.size:=by simpa using hb
 subst e
 exact I1.fpOk (Nat.le_refl _) (I1.hok.fresh (Nat.le_refl _))
theorem pi_tup {l:Expr} {tl:TE} (hl:PE X l tl):PI X tg l (iTup X.K tl):=by
 intro pins s σ H R I h
 refine thn (hl pins s σ H _ I h) fun v s1 ⟨x,H1,I1,r1,q1⟩=>?_
 obtain ⟨a,e,⟨xs,hq⟩,q⟩:=q1
 subst e
 cases r1
 obtain ⟨its,rv,p,hz⟩:=I1.tuple hq
 refine wpAny_pyIter_tuple (show s1.heap.IsTuple a its.toArray from p) ?_
 refine ⟨s1.heap.objs.size,[s1.heap.objs.size],_,_,H1,rfl,I1.kept (t':=s1.toks) fun b o e=>Heap.get?_push_of_some _ e,turn_tuple a _,⟨_,Heap.get?_push_size _ rfl,rfl,rfl⟩,fun b hb=>?_,q⟩
 have e:b=s1.heap.objs.size:=by simpa using hb
 subst e
 exact I1.fpOk (Nat.le_refl _) (I1.hok.fresh (Nat.le_refl _))
theorem range_it {pins:List (Addr × Obj)} {σ:St} {H:Hp} {s:Shared} {R:It→Hp→Prop} {E:Value→Shared→Prop} {lo hi:Int} {t u v:Tok} {tk:Nat} (I:Inv X pins σ H s) (h1:-(2 ^ 62)≤lo) (h2:lo < 2 ^ 62) (h3:-(2 ^ 62)≤hi) (h4:hi < 2 ^ 62)
  (q:R (Itr lo (hi - lo).toNat) H):wpAny (model X.prog X.w) X.A (pyIter (.ref s.heap.objs.size)) (PIE X pins σ tg R) E {s with heap:=s.heap.push {cls:=.type "range",data:=.fields #[.int lo t,.int hi u,.int 1 v]},toks:=tk}:=by
 refine wpAny_pyIter_range (IsRange.new ..) (small_one h1 h2 h3 h4) ?_
 have I1:Inv X pins σ H {s with heap:=s.heap.push {cls:=.type "range",data:=.fields #[.int lo t,.int hi u,.int 1 v]},toks:=tk}:=I.kept fun b o e=>Heap.get?_push_of_some _ e
 refine ⟨(s.heap.push {cls:=.type "range",data:=.fields #[.int lo t,.int hi u,.int 1 v]}).objs.size,[(s.heap.push {cls:=.type "range",data:=.fields #[.int lo t,.int hi u,.int 1 v]}).objs.size],_,_,H,rfl,
  I1.kept (t':=tk) fun b o e=>Heap.get?_push_of_some _ e,turn_range _ lo (hi - lo).toNat,?_,fun b hb=>?_,q⟩
 ·have e1:lo + ((0:Nat):Int) * 1=lo:=by simp
  have e2:(((hi - lo).toNat:Nat):Int) - ((0:Nat):Int)=Builtin.Range.rangeSize lo hi 1:=by rw [rangeSize_one]; split <;> omega
  show IsRangeIter _ _ (lo + ((0:Nat):Int) * 1) ((((hi - lo).toNat:Nat):Int) - ((0:Nat):Int)) 1
  rw [e1,e2]
  exact Heap.get?_push_size _ rfl
 ·have e:b=(s.heap.push {cls:=.type "range",data:=.fields #[.int lo t,.int hi u,.int 1 v]}).objs.size:=by simpa using hb
  subst e
  exact I1.fpOk (Nat.le_refl _) (I1.hok.fresh (Nat.le_refl _))
def iRng1 (ta:TA):TI:=fun σ H R=>ta σ H fun vs H1=>∃j:Int,vs=[.int j]∧-(2 ^ 62)≤j∧j < 2 ^ 62∧R (Itr 0 j.toNat) H1
def iRng2 (ta:TA):TI:=fun σ H R=>ta σ H fun vs H1=>∃i j:Int,vs=[.int i,.int j]∧(-(2 ^ 62)≤i∧i < 2 ^ 62∧-(2 ^ 62)≤j∧j < 2 ^ 62)∧R (Itr i (j - i).toNat) H1
theorem pi_range1 {a:Expr} {ta:TA} {p pos:Pos} (hg:Gl X "range") (hm:X.mg "range" = none) (ha:PA X [a] ta) (hs:starEach [a] X.env=[(false,eval a X.env)]:=by rfl):PI X tg (.Call (.Name "range" p) [a] [] pos) (iRng1 ta):=by
 intro pins s σ H R I h
 refine Call_ (ld_blt I hg hm boot_range (PyProof.Rows.callWith_type1 (thn (ha pos pins s σ H _ I h) fun us s1 ⟨vs,H1,I1,r1,q1⟩=>?_) hs rfl))
 obtain ⟨j,e,q1,q2,q⟩:=q1
 subst e
 cases r1 with
 | cons r rr=>
  cases rr
  obtain ⟨t,rfl⟩:=r
  exact call_range_1 (range_it I1 (by omega) (by omega) q1 q2 (by simpa using q))
theorem pi_range2 {a b:Expr} {ta:TA} {p pos:Pos} (hg:Gl X "range") (hm:X.mg "range" = none) (ha:PA X [a,b] ta) (hs:starEach [a,b] X.env=[(false,eval a X.env),(false,eval b X.env)]:=by rfl) (hs2:starEach [b] X.env=[(false,eval b X.env)]:=by rfl) :
  PI X tg (.Call (.Name "range" p) [a,b] [] pos) (iRng2 ta):=by
 intro pins s σ H R I h
 refine Call_ (ld_blt I hg hm boot_range (PyProof.Rows.callWith_type1 (thn (ha pos pins s σ H _ I h) fun us s1 ⟨vs,H1,I1,r1,q1⟩=>?_) (by rw [hs,hs2]) (by rw [hs2]; rfl)))
 obtain ⟨i,j,e,⟨q1,q2,q3,q4⟩,q⟩:=q1
 subst e
 cases r1 with
 | cons r rr=>
  cases rr with
  | cons r' rr=>
   cases rr
   obtain ⟨t,rfl⟩:=r
   obtain ⟨t',rfl⟩:=r'
   exact call_range_2 (range_it I1 q1 q2 q3 q4 q)
def tFor (wi:TI) (g:TG) (tb:TS):TS:=fun D σ H=>wi σ H fun J H1=>∃W:Nat→Nat→St→Hp→Prop,(∃m,W 0 m σ H1)∧∀i m σ H,W i m σ H→
 (J.stop i H∧D.nx σ H)∨(J.go i H∧∃N:St→Hp→Prop,(∀σ' H',N σ' H'→∃m',m' < m∧W (i + 1) m' σ' H')∧∀x H',J.yld i H x H'→g x σ H' fun σ2 H2=>tb {D with nx:=N,ct:=N,bk:=D.nx} σ2 H2)
def pinsAt (fp:List Addr) (h:Heap):List (Addr × Obj):=fp.filterMap fun b=>(h.get? b).map fun o=>(b,o)
theorem mem_pinsAt {fp:List Addr} {h:Heap} {b:Addr} {o:Obj} (hb:b∈fp) (e:h.get? b=some o):(b,o)∈pinsAt fp h:=List.mem_filterMap.mpr ⟨b,hb,by rw [e]; rfl⟩
theorem of_pinsAt {fp:List Addr} {h:Heap} {p:Addr × Obj} (hp:p∈pinsAt fp h):p.1∈fp∧h.get? p.1=some p.2:=by
 obtain ⟨b,hb,e⟩:=List.mem_filterMap.mp hp
 cases q:h.get? b with
 | none=>rw [q] at e; cases e
 | some o=>
  rw [q] at e
  have e':(b,o)=p:=Option.some.inj e
  subst e'
  exact ⟨hb,q⟩
theorem Inv.pinned {pins:List (Addr × Obj)} {σ:St} {H:Hp} {s:Shared} {fp:List Addr} (I:Inv X pins σ H s) (hf:∀b∈fp,FpOk X pins H b) (ho:∀b∈fp,∃o,s.heap.get? b=some o∧∀v,o.data≠.cell v):Inv X (pins ++ pinsAt fp s.heap) σ H s:=
 I.pins_of fun p hp=>(List.mem_append.mp hp).elim (fun z=>I.pin p (List.mem_append_right _ z)) fun z=>by
  obtain ⟨hb,e⟩:=of_pinsAt z
  obtain ⟨f0,f1,f2,_⟩:=hf p.1 hb
  obtain ⟨o,e',d⟩:=ho p.1 hb
  rw [e] at e'; cases e'
  exact ⟨e,f0,f1,f2,d⟩
theorem Inv.unpinned {pins pl:List (Addr × Obj)} {σ:St} {H:Hp} {s:Shared} (I:Inv X (pins ++ pl) σ H s):Inv X pins σ H s:=I.pins_of fun p hp=>I.pin p (List.mem_append_right _ (List.mem_append_left _ hp))
theorem ps_for {iter:Expr} {body:List Stmt} {wi:TI} {g:TG} {tb:TS} {pos:Pos} (hp:PassesOwn (model X.prog X.w) X.A X.env X.xe) (hc:X.calm=true) (hi:PI X tg iter wi) (hg:PG X tg g) (hb:PSs X body tb)
  (hs:∀x,foldedSetIterable iter X.env x=pure x:=by intro _; rfl):PS X (.For tg iter body [] pos) (tFor wi g tb):=by
 intro pins s σ H D I h
 refine wpAny_For (thn (hi pins s σ H _ I h) fun v s1 h1=>thn h1 fun itv s2 h2=>?_) hs
 obtain ⟨it,fp,tn,J,H2,e,I2,T,st2,f2,W,⟨m0,w0⟩,turn⟩:=h2
 subst e
 have stat:∀{H':Hp},(∀b∈fp,H' b=none)→∀b∈fp,FpOk X pins H' b:=fun hn b hb=>⟨hn b hb,(f2 b hb).2⟩
 refine codeAny_forLoop_any (fun n s'=>∃i σ' H',Inv X pins σ' H' s'∧tn i s'.heap∧(∀b∈fp,H' b=none)∧W i n σ' H') ?_ m0 ⟨0,σ,H2,I2,st2,fun b hb=>(f2 b hb).1,w0⟩
 rintro n s3 ⟨i,σ3,H3,I3,st3,fr3,w3⟩
 rcases turn i n σ3 H3 w3 with ⟨stop,qn⟩ | ⟨go,N,hN,step⟩
 ·refine wpAny_passesOwn hp (thn (T.done X rfl rfl rfl hc i pins s3 σ3 H3 X.xe I3 (stat fr3) st3 stop) fun r s4 ⟨hr,I4⟩=>?_)
  subst hr
  exact wpAny_execs_nil ⟨σ3,H3,I4,qn⟩
 ·refine wpAny_passesOwn hp (thn (T.item X rfl rfl rfl hc i pins s3 σ3 H3 X.xe I3 (stat fr3) st3 go) fun r s4 ⟨u,hr,h4⟩=>?_)
  subst hr
  refine wpAny_passesOwn hp (thn h4 fun _ s5 ⟨x,H5,I5,r5,y5,st5,fr5⟩=>?_)
  have I5':=I5.pinned (stat fr5) (T.obj _ _ st5)
  refine wpAny_passesOwn hp (thn (hg _ s5 σ3 H5 x u _ I5' r5 (step x H5 y5)) fun _ s6 ⟨σ6,H6,I6,q6⟩=>?_)
  refine wpAny_passesOwn hp (thn (hb _ s6 σ6 H6 _ I6 q6) fun f s7 q7=>?_)
  have again:∀{σ7:St} {H7:Hp},Inv X (pins ++ pinsAt fp s5.heap) σ7 H7 s7→N σ7 H7→∃m,m < n∧∃i σ' H',Inv X pins σ' H' s7∧tn i s7.heap∧(∀b∈fp,H' b=none)∧W i m σ' H':=fun {σ7 H7} I7 n7=>by
   obtain ⟨m',hm,w7⟩:=hN σ7 H7 n7
   refine ⟨m',hm,i + 1,σ7,H7,I7.unpinned,T.keep _ _ _ st5 fun b hb o e=>(I7.pin (b,o) (List.mem_append_right _ (List.mem_append_right _ (mem_pinsAt hb e)))).1,fun b hb=>?_,w7⟩
   obtain ⟨o,e,d⟩:=T.obj _ _ st5 b hb
   exact (I7.pin (b,o) (List.mem_append_right _ (List.mem_append_right _ (mem_pinsAt hb e)))).2.1
  cases f with
  | next=>obtain ⟨σ7,H7,I7,n7⟩:=q7; exact again I7 n7
  | cont=>obtain ⟨σ7,H7,I7,n7⟩:=q7; exact again I7 n7
  | brk=>obtain ⟨σ7,H7,I7,q7⟩:=q7; exact ⟨σ7,H7,I7.unpinned,q7⟩
  | ret v=>obtain ⟨x7,σ7,H7,I7,r7,q7⟩:=q7; exact ⟨x7,σ7,H7,I7.unpinned,r7,q7⟩
end
theorem for_list {K:PySem.W.Frag} {a:Addr} {xs:List V} {g:TG} {tb:TS} {D:Ends} {σ:St} {H:Hp} (Pv:Nat→St→Hp→Prop) (h0:Pv 0 σ H) (hl:∀i σ H,i≤xs.length→Pv i σ H→SqL K H a xs)
  (hs:∀i x σ H,xs[i]? = some x→Pv i σ H→g x σ H fun σ2 H2=>tb {D with nx:=Pv (i + 1),ct:=Pv (i + 1),bk:=D.nx} σ2 H2) (hd:∀σ H,Pv xs.length σ H→D.nx σ H) :
  ∃W:Nat→Nat→St→Hp→Prop,(∃m,W 0 m σ H)∧∀i m σ H,W i m σ H→
   ((Itl K a).stop i H∧D.nx σ H)∨((Itl K a).go i H∧∃N:St→Hp→Prop,(∀σ' H',N σ' H'→∃m',m' < m∧W (i + 1) m' σ' H')∧∀x H',(Itl K a).yld i H x H'→g x σ H' fun σ2 H2=>tb {D with nx:=N,ct:=N,bk:=D.nx} σ2 H2):=by
 refine ⟨fun i m σ H=>m=xs.length - i∧i≤xs.length∧Pv i σ H,⟨xs.length,by simp,Nat.zero_le _,h0⟩,?_⟩
 rintro i m σ H ⟨rfl,hi,p⟩
 have q:=hl i σ H hi p
 by_cases hlt:i < xs.length
 ·refine .inr ⟨⟨xs,xs[i],q,by simp [hlt]⟩,Pv (i + 1),fun σ' H' p'=>⟨xs.length - (i + 1),by omega,rfl,hlt,p'⟩,fun x H' y=>?_⟩
  obtain ⟨e,y⟩:=y
  subst e
  exact hs i x σ _ (y xs q) p
 ·have e:i=xs.length:=by omega
  subst e
  exact .inl ⟨⟨xs,q,Nat.le_refl _⟩,hd σ H p⟩
theorem for_range {lo:Int} {n:Nat} {g:TG} {tb:TS} {D:Ends} {σ:St} {H:Hp} (Pv:Nat→St→Hp→Prop) (h0:Pv 0 σ H)
  (hs:∀i σ H,i < n→Pv i σ H→g (.int (lo + i)) σ H fun σ2 H2=>tb {D with nx:=Pv (i + 1),ct:=Pv (i + 1),bk:=D.nx} σ2 H2) (hd:∀σ H,Pv n σ H→D.nx σ H) :
  ∃W:Nat→Nat→St→Hp→Prop,(∃m,W 0 m σ H)∧∀i m σ H,W i m σ H→
   ((Itr lo n).stop i H∧D.nx σ H)∨((Itr lo n).go i H∧∃N:St→Hp→Prop,(∀σ' H',N σ' H'→∃m',m' < m∧W (i + 1) m' σ' H')∧∀x H',(Itr lo n).yld i H x H'→g x σ H' fun σ2 H2=>tb {D with nx:=N,ct:=N,bk:=D.nx} σ2 H2):=by
 refine ⟨fun i m σ H=>m=n - i∧i≤n∧Pv i σ H,⟨n,by simp,Nat.zero_le _,h0⟩,?_⟩
 rintro i m σ H ⟨rfl,hi,p⟩
 by_cases hlt:i < n
 ·refine .inr ⟨hlt,Pv (i + 1),fun σ' H' p'=>⟨n - (i + 1),by omega,rfl,hlt,p'⟩,fun x H' y=>?_⟩
  obtain ⟨e,y⟩:=y
  subst e y
  exact hs i σ _ hlt p
 ·have e:i=n:=by omega
  subst e
  exact .inl ⟨Nat.le_refl _,hd σ H p⟩
theorem while_by {c:TT} {tb:TS} {D:Ends} {σ:St} {H:Hp} (Pv:St→Hp→Prop) (μ:St→Hp→Nat) (h0:Pv σ H)
  (hs:∀σ H,Pv σ H→c σ H fun b H1=>if b=true then tb {D with nx:=fun σ' H'=>Pv σ' H'∧μ σ' H' < μ σ H,ct:=fun σ' H'=>Pv σ' H'∧μ σ' H' < μ σ H,bk:=D.nx} σ H1 else D.nx σ H1)
  (mono:∀σ H Q Q',(∀b H1,Q b H1→Q' b H1)→c σ H Q→c σ H Q'):tWhile c tb D σ H:=by
 refine ⟨fun m σ H=>m=μ σ H∧Pv σ H,⟨_,rfl,h0⟩,?_⟩
 rintro m σ H ⟨rfl,p⟩
 refine mono σ H _ _ (fun b H1 q=>?_) (hs σ H p)
 cases b with
 | true=>exact ⟨_,fun σ' H' ⟨p',l⟩=>⟨_,l,rfl,p'⟩,q⟩
 | false=>exact q
abbrev R2:=V→V→Hp→VK→Prop
def OpR (X:Cx) (f:Value→Value→Sem Value) (r:R2):Prop:=
 ∀(pins:List (Addr × Obj)) (s:Shared) (σ:St) (H:Hp) (x y:V) (v u:Value) (Q:VK),Inv X pins σ H s→RelV x v→RelV y u→r x y H Q→
  wpAny (model X.prog X.w) X.A (f v u) (EP X pins σ Q) X.xe s
def UnR (X:Cx) (f:Value→Sem Value) (r:V→Hp→VK→Prop):Prop:=
 ∀(pins:List (Addr × Obj)) (s:Shared) (σ:St) (H:Hp) (x:V) (v:Value) (Q:VK),Inv X pins σ H s→RelV x v→r x H Q→
  wpAny (model X.prog X.w) X.A (f v) (EP X pins σ Q) X.xe s
def CallR (X:Cx) (f:Value) (r:List V→Hp→VK→Prop):Prop:=
 ∀(pins:List (Addr × Obj)) (s:Shared) (σ:St) (H:Hp) (xs:List V) (us:List Value) (Q:VK),Inv X pins σ H s→Vals xs us→r xs H Q→
  wpAny (model X.prog X.w) X.A (call f us) (EP X pins σ Q) X.xe s
def tOp (r:R2) (ta tb:TE):TE:=fun σ H Q=>ta σ H fun x H1=>tb σ H1 fun y H2=>r x y H2 Q
def tUn (r:V→Hp→VK→Prop) (ta:TE):TE:=fun σ H Q=>ta σ H fun x H1=>r x H1 Q
def rI (C:Int→Int→Prop) (g:Int→Int→V):R2:=fun x y H Q=>∃i j,x = .int i∧y = .int j∧C i j∧Q (g i j) H
def rI0 (g:Int→Int→V):R2:=fun x y H Q=>∃i j,x = .int i∧y = .int j∧Q (g i j) H
def rU (g:Int→V):V→Hp→VK→Prop:=fun x H Q=>∃i,x = .int i∧Q (g i) H
section
variable {X:Cx} {a b c:Expr} {ta tb tc:TE} {pos:Pos}
theorem binT (ha:PE X a ta) (hb:PE X b tb) {pins:List (Addr × Obj)} {s:Shared} {σ:St} {H:Hp} {R:V→V→Hp→Prop} (I:Inv X pins σ H s)
  (h:ta σ H fun x H1=>tb σ H1 fun y H2=>R x y H2) {Q:Value→Shared→Prop} {f:Value→Value→Sem Value}
  (hf:∀v u s2 x y H2,Inv X pins σ H2 s2→RelV x v→RelV y u→R x y H2→wpAny (model X.prog X.w) X.A (f v u) Q X.xe s2) :
  wpAny (model X.prog X.w) X.A (eval a X.env) (fun v s₁=>wpAny (model X.prog X.w) X.A (eval b X.env) (fun u s₂=>wpAny (model X.prog X.w) X.A (f v u) Q X.xe s₂) X.xe s₁) X.xe s:=by
 refine thn (ha pins s σ H _ I h) fun v s1 ⟨x,H1,I1,r1,q1⟩=>?_
 refine thn (hb pins s1 σ H1 _ I1 q1) fun u s2 ⟨y,H2,I2,r2,q2⟩=>?_
 exact hf v u s2 x y H2 I2 r1 r2 q2
theorem pe_op {op:Operator} {r:R2} (ho:OpR X (binaryOp op) r) (ha:PE X a ta) (hb:PE X b tb):PE X (.BinOp a op b pos) (tOp r ta tb):=by
 intro pins s σ H Q I h
 exact wpAny_BinOp (binT ha hb I h fun v u s2 x y H2 I2 rx ry q=>ho pins s2 σ H2 x y v u Q I2 rx ry q)
theorem pe_un {op:UnaryOp} {r:V→Hp→VK→Prop} (ho:UnR X (unaryOp op) r) (ha:PE X a ta):PE X (.UnaryOp op a pos) (tUn r ta):=by
 intro pins s σ H Q I h
 exact UnaryOp_ (thn (ha pins s σ H _ I h) fun v s1 ⟨x,H1,I1,r1,q1⟩=>ho pins s1 σ H1 x v Q I1 r1 q1)
theorem opI {f:Value→Value→Sem Value} {C:Int→Int→Prop} {g:Int→Int→Int}
  (rule:∀(i j:Int) (t u:Tok) (s:Shared) (Q:Value→Shared→Prop) (E:Value→Shared→Prop),C i j→Q (.int (g i j) s.toks) {s with toks:=s.toks + 1}→wpAny (model X.prog X.w) X.A (f (.int i t) (.int j u)) Q E s) :
  OpR X f (rI C fun i j=>.int (g i j)):=by
 intro pins s σ H x y v u Q I rx ry h
 obtain ⟨i,j,rfl,rfl,hc,q⟩:=h
 obtain ⟨t,rfl⟩:=rx
 obtain ⟨t',rfl⟩:=ry
 exact rule i j t t' s _ _ hc ⟨.int (g i j),H,I.tok _,⟨_,rfl⟩,q⟩
theorem opI0 {f:Value→Value→Sem Value} {g:Int→Int→Int}
  (rule:∀(i j:Int) (t u:Tok) (s:Shared) (Q:Value→Shared→Prop) (E:Value→Shared→Prop),Q (.int (g i j) s.toks) {s with toks:=s.toks + 1}→wpAny (model X.prog X.w) X.A (f (.int i t) (.int j u)) Q E s) :
  OpR X f (rI0 fun i j=>.int (g i j)):=by
 intro pins s σ H x y v u Q I rx ry h
 obtain ⟨i,j,rfl,rfl,q⟩:=h
 obtain ⟨t,rfl⟩:=rx
 obtain ⟨t',rfl⟩:=ry
 exact rule i j t t' s _ _ ⟨.int (g i j),H,I.tok _,⟨_,rfl⟩,q⟩
theorem opB0 {f:Value→Value→Sem Value} {g:Int→Int→Bool}
  (rule:∀(i j:Int) (t u:Tok) (s:Shared) (Q:Value→Shared→Prop) (E:Value→Shared→Prop),Q (.bool (g i j)) s→wpAny (model X.prog X.w) X.A (f (.int i t) (.int j u)) Q E s) :
  OpR X f (rI0 fun i j=>.bl (g i j)):=by
 intro pins s σ H x y v u Q I rx ry h
 obtain ⟨i,j,rfl,rfl,q⟩:=h
 obtain ⟨t,rfl⟩:=rx
 obtain ⟨t',rfl⟩:=ry
 exact rule i j t t' s _ _ ⟨.bl (g i j),H,I,rfl,q⟩
def CDiv (i j:Int):Prop:=0 < j∧j < 1073741824
def CPow (i j:Int):Prop:=0≤j∧j≤1000000∧i.natAbs < 2 ^ 64
def CMul (i j:Int):Prop:=(-(2 ^ 64) < i∧i < 2 ^ 64)∨(-(2 ^ 64) < j∧j < 2 ^ 64)
theorem CMul.ok {i j:Int} (h:CMul i j):IntMulOk i j:=by
 rcases h with ⟨h1,h2⟩ | ⟨h1,h2⟩
 ·exact .of_left (intBits_le_64 h1 h2)
 ·exact .of_right (intBits_le_64 h1 h2)
theorem op_add:OpR X (binaryOp .Add) (rI0 fun i j=>.int (i + j)):=opI0 fun _ _ _ _ _ _ _ q=>add_int q
theorem op_sub:OpR X (binaryOp .Sub) (rI0 fun i j=>.int (i - j)):=opI0 fun _ _ _ _ _ _ _ q=>sub_int q
theorem op_mul:OpR X (binaryOp .Mult) (rI CMul fun i j=>.int (i * j)):=opI fun _ _ _ _ _ _ _ hc q=>mul_int q hc.ok
theorem op_fdiv:OpR X (binaryOp .FloorDiv) (rI CDiv fun i j=>.int (i / j)):=opI fun i j _ _ _ _ _ hc q=>by
 have h1:(0:Int) < j:=hc.1
 have h2:j < 1073741824:=hc.2
 exact floordiv_int (by omega) (by rw [Int.fdiv_eq_ediv_of_nonneg i (by omega)]; exact q) (.inl (PyProof.noPylong_small (by omega)))
theorem op_mod:OpR X (binaryOp .Mod) (rI (fun _ j=>0 < j) fun i j=>.int (i % j)):=opI fun i j _ _ _ _ _ hc q=>by
 have h1:(0:Int) < j:=hc
 exact mod_int' (by omega) (by rw [Int.fmod_eq_emod_of_nonneg i (by omega)]; exact q)
theorem op_pow:OpR X (binaryOp .Pow) (rI CPow fun i j=>.int (i ^ j.toNat)):=opI fun _ _ _ _ _ _ _ hc q=>pow_int_small hc.1 hc.2.1 hc.2.2 q
theorem unI {f:Value→Sem Value} {g:Int→Int}
  (rule:∀(i:Int) (t:Tok) (s:Shared) (Q:Value→Shared→Prop) (E:Value→Shared→Prop),Q (.int (g i) s.toks) {s with toks:=s.toks + 1}→wpAny (model X.prog X.w) X.A (f (.int i t)) Q E s) :
  UnR X f (rU fun i=>.int (g i)):=by
 intro pins s σ H x v Q I rx h
 obtain ⟨i,rfl,q⟩:=h
 obtain ⟨t,rfl⟩:=rx
 exact rule i t s _ _ ⟨.int (g i),H,I.tok _,⟨_,rfl⟩,q⟩
theorem un_neg:UnR X (unaryOp .USub) (rU fun i=>.int (-i)):=unI fun _ _ _ _ _ q=>neg_int q
end
def scal:V→V→Bool
 | .non,.non=>true | .non,.int _=>true | .int _,.non=>true | .non,.bl _=>true | .bl _,.non=>true | .non,.str _=>true | .str _,.non=>true
 | .int _,.int _=>true | .bl _,.bl _=>true | .str _,.str _=>true | .byt _,.byt _=>true
 | .int _,.str _=>true | .str _,.int _=>true | .bl _,.str _=>true | .str _,.bl _=>true
 | _,_=>false
def rEq:R2:=fun x y H Q=>scal x y=true∧Q (.bl (decide (x=y))) H
def rNe:R2:=fun x y H Q=>scal x y=true∧Q (.bl (!decide (x=y))) H
theorem dec_int {i j:Int}:decide (V.int i=V.int j)=(i == j):=by
 rw [Bool.eq_iff_iff]
 simp
theorem dec_bl {i j:Bool}:decide (V.bl i=V.bl j)=(i == j):=by
 rw [Bool.eq_iff_iff]
 simp
theorem dec_str {i j:Str}:decide (V.str i=V.str j)=(i == j):=by
 rw [Bool.eq_iff_iff]
 simp
theorem dec_byt {i j:Array UInt8}:decide (V.byt i=V.byt j)=(i.toList == j.toList):=by
 rw [Bool.eq_iff_iff]
 cases i
 cases j
 simp
section
variable {X:Cx} {a b c:Expr} {ta tb tc:TE} {pos:Pos}
theorem fin_bl {pins:List (Addr × Obj)} {σ:St} {H:Hp} {s:Shared} {Q:VK} {k k':Bool} (I:Inv X pins σ H s) (q:Q (.bl k) H) (e:k=k'):EP X pins σ Q (.bool k') s:=by
 subst e
 exact ⟨.bl k,H,I,rfl,q⟩
theorem op_eq:OpR X (compareOp .Eq) rEq:=by
 intro pins s σ H x y v u Q I rx ry h
 obtain ⟨hs,q⟩:=h
 cases x with
 | non=>
  cases rx
  cases y with
  | non=>cases ry; exact PySem.EqNone.eq_none_none (fin_bl I q (by simp))
  | bl j=>cases ry; exact PySem.EqNone.eq_none_bool (fin_bl I q (by simp))
  | int j=>obtain ⟨t',rfl⟩:=ry; exact PySem.EqNone.eq_none_int (fin_bl I q (by simp))
  | str j=>obtain ⟨t',rfl⟩:=ry; exact PySem.EqNone.eq_none_str (fin_bl I q (by simp))
  | _=>exact absurd (show false=true from hs) Bool.false_ne_true
 | bl i=>
  cases rx
  cases y with
  | non=>cases ry; exact PySem.EqNone.eq_bool_none (fin_bl I q (by simp))
  | bl j=>cases ry; exact eq_bool (fin_bl I q dec_bl)
  | str j=>obtain ⟨t',rfl⟩:=ry; exact PySem.EqMixed.eq_bool_str (fin_bl I q (by simp))
  | _=>exact absurd (show false=true from hs) Bool.false_ne_true
 | int i=>
  obtain ⟨t,rfl⟩:=rx
  cases y with
  | non=>cases ry; exact PySem.EqNone.eq_int_none (fin_bl I q (by simp))
  | int j=>obtain ⟨t',rfl⟩:=ry; exact eq_int (fin_bl I q dec_int)
  | str j=>obtain ⟨t',rfl⟩:=ry; exact PySem.EqMixed.eq_int_str (fin_bl I q (by simp))
  | _=>exact absurd (show false=true from hs) Bool.false_ne_true
 | str i=>
  obtain ⟨t,rfl⟩:=rx
  cases y with
  | non=>cases ry; exact PySem.EqNone.eq_str_none (fin_bl I q (by simp))
  | bl j=>cases ry; exact PySem.EqMixed.eq_str_bool (fin_bl I q (by simp))
  | int j=>obtain ⟨t',rfl⟩:=ry; exact PySem.EqMixed.eq_str_int (fin_bl I q (by simp))
  | str j=>obtain ⟨t',rfl⟩:=ry; exact eq_str (fin_bl I q dec_str)
  | _=>exact absurd (show false=true from hs) Bool.false_ne_true
 | byt i=>
  obtain ⟨t,rfl⟩:=rx
  cases y with
  | byt j=>obtain ⟨t',rfl⟩:=ry; exact PySem.W.eq_bytes (fin_bl I q dec_byt)
  | _=>exact absurd (show false=true from hs) Bool.false_ne_true
 | _=>cases y <;> exact absurd (show false=true from hs) Bool.false_ne_true
theorem op_ne:OpR X (compareOp .NotEq) rNe:=by
 intro pins s σ H x y v u Q I rx ry h
 obtain ⟨hs,q⟩:=h
 cases x with
 | non=>
  cases rx
  cases y with
  | non=>cases ry; exact PySem.EqNone.ne_none_none (fin_bl I q (by simp))
  | bl j=>cases ry; exact PySem.EqNone.ne_none_bool (fin_bl I q (by simp))
  | int j=>obtain ⟨t',rfl⟩:=ry; exact PySem.EqNone.ne_none_int (fin_bl I q (by simp))
  | str j=>obtain ⟨t',rfl⟩:=ry; exact PySem.EqNone.ne_none_str (fin_bl I q (by simp))
  | _=>exact absurd (show false=true from hs) Bool.false_ne_true
 | bl i=>
  cases rx
  cases y with
  | non=>cases ry; exact PySem.EqNone.ne_bool_none (fin_bl I q (by simp))
  | bl j=>cases ry; exact ne_bool (fin_bl I q (congrArg not dec_bl))
  | str j=>obtain ⟨t',rfl⟩:=ry; exact PySem.EqMixed.ne_bool_str (fin_bl I q (by simp))
  | _=>exact absurd (show false=true from hs) Bool.false_ne_true
 | int i=>
  obtain ⟨t,rfl⟩:=rx
  cases y with
  | non=>cases ry; exact PySem.EqNone.ne_int_none (fin_bl I q (by simp))
  | int j=>obtain ⟨t',rfl⟩:=ry; exact ne_int (fin_bl I q (congrArg not dec_int))
  | str j=>obtain ⟨t',rfl⟩:=ry; exact PySem.EqMixed.ne_int_str (fin_bl I q (by simp))
  | _=>exact absurd (show false=true from hs) Bool.false_ne_true
 | str i=>
  obtain ⟨t,rfl⟩:=rx
  cases y with
  | non=>cases ry; exact PySem.EqNone.ne_str_none (fin_bl I q (by simp))
  | bl j=>cases ry; exact PySem.EqMixed.ne_str_bool (fin_bl I q (by simp))
  | int j=>obtain ⟨t',rfl⟩:=ry; exact PySem.EqMixed.ne_str_int (fin_bl I q (by simp))
  | str j=>obtain ⟨t',rfl⟩:=ry; exact ne_str (fin_bl I q (congrArg not dec_str))
  | _=>exact absurd (show false=true from hs) Bool.false_ne_true
 | byt i=>
  obtain ⟨t,rfl⟩:=rx
  cases y with
  | byt j=>obtain ⟨t',rfl⟩:=ry; exact PySem.W.ne_bytes (fin_bl I q (congrArg not dec_byt))
  | _=>exact absurd (show false=true from hs) Bool.false_ne_true
 | _=>cases y <;> exact absurd (show false=true from hs) Bool.false_ne_true
theorem op_lt:OpR X (compareOp .Lt) (rI0 fun i j=>.bl (decide (i < j))):=opB0 fun _ _ _ _ _ _ _ q=>lt_int q
theorem op_le:OpR X (compareOp .LtE) (rI0 fun i j=>.bl (decide (i≤j))):=opB0 fun _ _ _ _ _ _ _ q=>le_int q
theorem op_gt:OpR X (compareOp .Gt) (rI0 fun i j=>.bl (decide (j < i))):=opB0 fun _ _ _ _ _ _ _ q=>gt_int q
theorem op_in_str:OpR X (compareOp .In) (fun x y H Q=>∃i j,x = .str i∧y = .str j∧Q (.bl (!(Builtin.Str.occurrences j i 0 j.length 1).isEmpty)) H):=by
 intro pins s σ H x y v u Q I rx ry h
 obtain ⟨i,j,rfl,rfl,q⟩:=h
 obtain ⟨t,rfl⟩:=rx
 obtain ⟨t',rfl⟩:=ry
 exact in_str (fin_bl I q rfl)
theorem op_isN:OpR X (compareOp .Is) (fun x y H Q=>y = .non∧Q (.bl (decide (x = .non))) H):=by
 intro pins s σ H x y v u Q I rx ry h
 obtain ⟨rfl,q⟩:=h
 cases ry
 refine is_none_gen (fin_bl I q ?_)
 cases x <;> first
  | (cases rx; rfl)
  | (obtain ⟨t,rfl⟩:=rx; rfl)
theorem nomark (b:Expr) {op:CmpOp} (h:op≠.In:=by decide) (h2:op≠.NotIn:=by decide):behindInMarks op b=false:=by
 have e1:(op == CmpOp.In)=false:=by cases op <;> first | rfl | exact absurd rfl h
 have e2:(op == CmpOp.NotIn)=false:=by cases op <;> first | rfl | exact absurd rfl h2
 cases b <;> simp [behindInMarks,e1,e2]
theorem pe_cmpR {op:CmpOp} {r:R2} (ho:OpR X (compareOp op) r) (ha:PE X a ta) (hb:PE X b tb) (hm:behindInMarks op b=false):PE X (.Compare a [op] [b] pos) (tOp r ta tb):=by
 intro pins s σ H Q I h
 exact wpAny_Compare1 (binT ha hb I h fun v u s2 x y H2 I2 rx ry q=>ho pins s2 σ H2 x y v u Q I2 rx ry q) hm
def tTest (t:TE):TT:=fun σ H Q=>t σ H fun x H'=>∃k,x = .bl k∧Q k H'
theorem pt_cmpR {op:CmpOp} {r:R2} (ho:OpR X (compareOp op) r) (ha:PE X a ta) (hb:PE X b tb) (hm:behindInMarks op b=false):PT X (.Compare a [op] [b] pos) (tTest (tOp r ta tb)):=by
 intro pins s σ H Q I h
 refine wpAny_isTrue_Compare1 (thn (ha pins s σ H _ I h) fun v s1 ⟨x,H1,I1,r1,q1⟩=>thn (hb pins s1 σ H1 _ I1 q1) fun u s2 ⟨y,H2,I2,r2,q2⟩=>
  thn (ho pins s2 σ H2 x y v u _ I2 r1 r2 q2) fun c s3 ⟨z,H3,I3,r3,k,e,q3⟩=>?_) hm
 subst e
 cases r3
 exact wpAny_truthy_bool ⟨H3,I3,q3⟩
theorem line63:(sizeLine:Nat) < 2 ^ 63:=by rw [sizeLine_eq]; decide
theorem op_add_str:OpR X (binaryOp .Add) (fun x y H Q=>∃i j,x = .str i∧y = .str j∧i.length + j.length≤sizeLine∧Q (.str (i ++ j)) H):=by
 intro pins s σ H x y v u Q I rx ry h
 obtain ⟨i,j,rfl,rfl,hz,q⟩:=h
 obtain ⟨t,rfl⟩:=rx
 obtain ⟨t',rfl⟩:=ry
 exact add_str (fun t' tk=>⟨.str (i ++ j),H,I.tok _,⟨_,rfl⟩,q⟩) hz
theorem vals1 {x:V} {us:List Value} (r:Vals [x] us):∃u,us=[u]∧RelV x u:=by
 cases r with
 | cons r1 r2=>cases r2; exact ⟨_,rfl,r1⟩
theorem vals2 {x y:V} {us:List Value} (r:Vals [x,y] us):∃u w',us=[u,w']∧RelV x u∧RelV y w':=by
 cases r with
 | cons r1 r2=>
  cases r2 with
  | cons r3 r4=>cases r4; exact ⟨_,_,rfl,r1,r3⟩
theorem call_abs:CallR X (.builtin "abs") (fun xs H Q=>∃i,xs=[.int i]∧Q (.int (if i < 0 then -i else i)) H):=by
 intro pins s σ H xs us Q I r h
 obtain ⟨i,rfl,q⟩:=h
 obtain ⟨u,rfl,t,rfl⟩:=vals1 r
 exact call_abs_int fun u tk=>⟨.int (if i < 0 then -i else i),H,I.tok _,⟨_,rfl⟩,q⟩
theorem call_max2 (hc:X.calm=true):CallR X (.builtin "max") (fun xs H Q=>∃i j,xs=[.int i,.int j]∧Q (.int (if j > i then j else i)) H):=by
 intro pins s σ H xs us Q I r h
 obtain ⟨i,j,rfl,q⟩:=h
 obtain ⟨u,w',rfl,⟨t,rfl⟩,⟨t',rfl⟩⟩:=vals2 r
 refine max_two_ints (I.ok.hd hc) fun h' tk k=>⟨_,H,I.kept k,?_,q⟩
 by_cases hj:j > i
 ·rw [if_pos hj,if_pos hj]; exact ⟨_,rfl⟩
 ·rw [if_neg hj,if_neg hj]; exact ⟨_,rfl⟩
theorem call_min2 (hc:X.calm=true):CallR X (.builtin "min") (fun xs H Q=>∃i j,xs=[.int i,.int j]∧Q (.int (if j < i then j else i)) H):=by
 intro pins s σ H xs us Q I r h
 obtain ⟨i,j,rfl,q⟩:=h
 obtain ⟨u,w',rfl,⟨t,rfl⟩,⟨t',rfl⟩⟩:=vals2 r
 refine min_two_ints (I.ok.hd hc) fun h' tk k=>⟨_,H,I.kept k,?_,q⟩
 by_cases hj:j < i
 ·rw [if_pos hj,if_pos hj]; exact ⟨_,rfl⟩
 ·rw [if_neg hj,if_neg hj]; exact ⟨_,rfl⟩
end
structure ObjM (h:Heap) (x dx C:Addr) (mA:Str→Option Value):Prop where
 obj:h.get? x=some (PySem.W.instObj C dx)
 ns:h.Ns1 dx mA
 ne:dx≠x
theorem lookIn_ns {h:Heap} {dx:Addr} {mA:Str→Option Value} (n:h.Ns1 dx mA):∃od,h.get? dx=some od∧∀name,PySem.W.lookIn name od=some (mA name):=by
 obtain ⟨o,es,ep,ho,hd,hk,_,hm⟩:=n
 refine ⟨o,ho,fun name=>?_⟩
 have e:=hm name
 unfold nsFind findBy at e
 rw [← Array.find?_toList] at e
 unfold PySem.W.lookIn
 rw [hd]
 dsimp only
 split
 ·rename_i y q
  rw [q] at e
  exact congrArg some e
 ·rename_i q
  rw [q] at e
  have a:es.toList.any (·.refKey)=false:=by
   rw [List.any_eq_false]
   intro y hy
   obtain ⟨z,t,hkey⟩:=hk y (Array.mem_toList_iff.mp hy)
   simp [DictEntry.refKey,hkey]
  have a':¬es.toList.any (·.refKey)=true:=by rw [a]; exact Bool.false_ne_true
  rw [if_neg a']
  exact congrArg some e
theorem ObjM.look {h:Heap} {x dx C:Addr} {mA:Str→Option Value} (I:ObjM h x dx C mA):∃od,PySem.W.InstAt h x (PySem.W.instObj C dx) C (some od)∧∀name,PySem.W.lookIn name od=some (mA name):=
 let ⟨od,ho,hl⟩:=lookIn_ns I.ns
 ⟨od,⟨I.obj,rfl,rfl,ho⟩,hl⟩
section
variable {prog:Program} {w:World} {A:Around} {E:Value→Shared→Prop} {s:Shared} {K:PySem.W.Frag} {x dx C f:Addr} {mA:Str→Option Value} {name:Str} {v:Value}
end
theorem RelO.some_of {v:V} {o:Option Value} (r:RelO (some v) o):∃u,o=some u∧RelV v u:=by
 cases o with
 | none=>exact (show False from r).elim
 | some u=>exact ⟨u,rfl,r⟩
section
variable {P:Program} {w:World} {H H':Hp} {h h':Heap} {a C dx:Addr} {fs fs':List (Str × V)}
theorem ins_get (hok:HOk P w H h) (e:H a=some (.ins C dx fs)):∃mA,ObjM h a dx C mA∧(∀f,RelO (fs.lookup f) (mA f))∧PySem.Within mA (fs.map (·.1))∧fs.length≤1000∧H dx=some (.own a):=by
 obtain ⟨d,z,ne,ob,mA,n,r,q⟩:=(show ObjOk P w H h a (.ins C dx fs) from hok a _ e)
 exact ⟨mA,⟨ob,n,ne⟩,r,q,z,d⟩
end
structure Cls (K:PySem.W.Frag) (C:Addr):Prop where
 pg:PySem.W.plainGet K C Str.empty=true
 hd:PySem.W.hasDictIn K C=true
 po:PySem.W.plainOver K C=true
 sa:PySem.W.findIn K (.ref C) "__setattr__" = some (some (.builtin "object.__setattr__"))
theorem Cls.get {K:PySem.W.Frag} {C:Addr} (c:Cls K C) (f:Str):PySem.W.plainGet K C f=true:=c.pg
section
variable {X:Cx} {pins:List (Addr × Obj)} {σ:St} {H:Hp} {s:Shared} {a C dx:Addr} {fs:List (Str × V)} {f:Str} {v:V} {A:Around} {E:Value→Shared→Prop}
end
section
variable {X:Cx} {o e value:Expr} {f:Str} {pos pos' tpos:Pos} {ta tv:TE}
end
section
variable {X:Cx} {pins:List (Addr × Obj)} {σ:St} {H:Hp} {s:Shared} {A:Around} {E:Value→Shared→Prop} {Q:Value→Shared→Prop} {c:Value} {b:Bool}
inductive TyOf (K:PySem.W.Frag) (H:Hp):V→Value→Prop where
 | non:TyOf K H .non (.type "NoneType")
 | bl (x:Bool):TyOf K H (.bl x) (.type "bool")
 | int (i:Int):TyOf K H (.int i) (.type "int")
 | str (x:Str):TyOf K H (.str x) (.type "str")
 | flt (x:UInt64):TyOf K H (.flt x) (.type "float")
 | lst {a:Addr} {xs:List V} (e:H a=some (.lst xs)):TyOf K H (.ref a) (.type "list")
 | frz {a:Addr} {o:Obj} {xs:List V} (e:H a=some (.frz o (.lst xs))):TyOf K H (.ref a) (.type "list")
 | tup {a:Addr} {xs:List V} (e:H a=some (.tup xs)):TyOf K H (.ref a) (.type "tuple")
 | dK {a:Addr} {kvs:List (Key × V)} (e:H a=some (.dK kvs)):TyOf K H (.ref a) (.type "dict")
 | dT {a:Addr} {kvs:List (List Key × V)} (e:H a=some (.dT kvs)):TyOf K H (.ref a) (.type "dict")
 | ins {a C dx:Addr} {fs:List (Str × V)} (e:H a=some (.ins C dx fs)) (cl:Cls K C) (ha:PySem.W.findIn K (.ref C) "__class__" = some (some (.builtin "object.__class__")))
   (hn:PySem.W.specialIn K (.builtin "object.__class__") "__get__" = some (some (.builtin "getset_descriptor.__get__"))) (htk:PySem.W.takesIn K (.builtin "object.__class__")=some true)
   (hm:PySem.W.mroIn K C (.type "object")=some true):TyOf K H (.ref a) (.ref C)
end
structure Room (k:Nat) (A:Around):Prop where
 hd:A.handled=none
 dp:A.depth + 3 * k + 5 < recursionLimit
 un:A.units + 16 * k + 200 < cLine
theorem Room.mono {j k:Nat} {A:Around} (r:Room k A) (h:j≤k):Room j A:=⟨r.hd,by have:=r.dp; omega,by have:=r.un; omega⟩
theorem Room.deeper {k:Nat} {A:Around} (r:Room (k + 1) A) (env:Env):Room k (A.deeper env):=
 ⟨r.hd,by have:=r.dp; show A.depth + 1 + 3 * k + 5 < _; omega,by have:=r.un; show A.units + 3 + 16 * k + 200 < _; omega⟩
theorem make_depth {A:Around} {C:Addr} {us:List Value} {kw:List (Str × Value)}:(A.under (.builtin "type.__call__" ⟨.ref C :: us,kw⟩)).depth=A.depth + 1:=by
 first | rfl | simp [Around.under,Code.weight,Code.isCreation,Code.isGuard,Code.isCaller,Code.frames,Code.isFrame,guardIds]
theorem make_units {A:Around} {C:Addr} {us:List Value} {kw:List (Str × Value)}:(A.under (.builtin "type.__call__" ⟨.ref C :: us,kw⟩)).units=A.units + 1:=by
 first | rfl | simp [Around.under,Code.cUnits,Code.frames,Code.isFrame]
theorem Room.make {k:Nat} {A:Around} (r:Room (k + 1) A) (C:Addr) (us:List Value) (kw:List (Str × Value)):Room k (A.under (.builtin "type.__call__" ⟨.ref C :: us,kw⟩)):=
 ⟨r.hd,by have:=r.dp; rw [make_depth]; omega,by have:=r.un; rw [make_units]; omega⟩
theorem Room.depth {k:Nat} {A:Around} (r:Room k A):A.depth < recursionLimit:=by have:=r.dp; omega
theorem Room.units0 {k:Nat} {A:Around} (r:Room k A):A.units < cLine:=by have:=r.un; omega
def tNil:TA:=fun _ H Q=>Q [] H
def tCons (ta:TE) (tr:TA):TA:=fun σ H Q=>ta σ H fun x H1=>tr σ H1 fun xs H2=>Q (x :: xs) H2
section
variable {X:Cx} {e:Expr} {es:List Expr} {te:TE} {t:TA} {pos:Pos}
theorem pa_nil:PA X [] tNil:=fun _ _ _ _ H Q I h=>Calls.spliced_nil ⟨[],H,I,.nil,h⟩
theorem pa_cons (ha:PE X e te) (hr:PA X es t) (hs:starEach (e :: es) X.env=(false,eval e X.env) :: starEach es X.env:=by rfl):PA X (e :: es) (tCons te t):=by
 intro pos pins s σ H Q I h
 rw [hs]
 show wpAny _ _ (spliced ((false,eval e X.env) :: backTo pos (starEach es X.env))) _ _ s
 refine Calls.spliced_cons (thn (ha pins s σ H _ I h) fun u s1 ⟨x,H1,I1,r1,q1⟩=>?_)
 exact thn (hr pos pins s1 σ H1 _ I1 q1) fun us s2 ⟨xs,H2,I2,r2,q2⟩=>⟨x :: xs,H2,I2,.cons r1 r2,q2⟩
def tTup (t:TA):TE:=fun σ H Q=>t σ H fun xs H1=>xs.length≤sizeLine∧∀p,H1 p=none→Q (.ref p) (upd H1 p (.tup xs))
def tLst (t:TA):TE:=fun σ H Q=>t σ H fun xs H1=>xs.length≤sizeLine∧∀p,H1 p=none→Q (.ref p) (upd H1 p (.lst xs))
theorem pe_tup {x1} (h:PA X es t):PE X (.Tuple es x1 pos) (tTup t):=by
 intro pins s σ H Q I hq
 refine wpAny_Tuple_spliced (thn (h pos pins s σ H _ I hq) fun us s1 ⟨xs,H1,I1,r,z,q⟩=>⟨by rw [← r.length]; exact z,?_⟩)
 have hf:H1 s1.heap.objs.size=none:=I1.hok.fresh (Nat.le_refl _)
 refine ⟨.ref s1.heap.objs.size,upd H1 s1.heap.objs.size (.tup xs),I1.laid (t':=s1.toks) (fun b u e=>Heap.get?_push_of_some _ e) (Nat.le_refl _) ?_,rfl,q _ hf⟩
 exact ⟨z,us,r,⟨_,Heap.get?_push_size _ rfl,rfl,_,rfl⟩⟩
theorem pe_lst (h:PA X es t):PE X (.List es pos) (tLst t):=by
 intro pins s σ H Q I hq
 refine wpAny_List_spliced (thn (h pos pins s σ H _ I hq) fun us s1 ⟨xs,H1,I1,r,z,q⟩=>⟨by rw [← r.length]; exact z,?_⟩)
 have hf:H1 s1.heap.objs.size=none:=I1.hok.fresh (Nat.le_refl _)
 refine ⟨.ref s1.heap.objs.size,upd H1 s1.heap.objs.size (.lst xs),I1.laid (t':=s1.toks) (fun b u e=>Heap.get?_push_of_some _ e) (Nat.le_refl _) ?_,rfl,q _ hf⟩
 exact ⟨z,us,0,r,Heap.get?_push_size _ rfl⟩
end
abbrev Sp:=List V→Hp→VK→XK→Prop
abbrev CXT:=List Env→Hp→Shared→XK→Value→Shared→Prop
structure Env0 (P:Program) (w:World) (K:PySem.W.Frag) (mg:Str→Option Value) (base:Heap) (A:Around) (outer:List Env) (s:Shared) (H:Hp):Prop where
 frames:A.frames=some outer
 mod:Mod K mg base
 bs:∀b o,base.get? b=some o→s.heap.get? b=some o∧H b=none
 bsz:base.objs.size≤s.heap.objs.size
 funs:s.heap.FunFrames base outer
 frf:∀b∈frs outer,H b=none
 hok:HOk P w H s.heap
 bare:AllBare s.gens
def CE (outer:List Env) (P:Program) (w:World) (H:Hp) (s:Shared) (Q:VK) (u:Value) (s':Shared):Prop:=
 ∃v H',s'.os=s.os∧AllBare s'.gens∧Un (frs outer) [] H H' s.heap s'.heap∧HOk P w H' s'.heap∧RelV v u∧Q v H'
def CR (CX:CXT) (outer:List Env) (P:Program) (w:World) (H:Hp) (s:Shared) (Q:VK) (E:XK) (r:Result) (s':Shared):Prop:=
 match r with
 | .ok (.ret u)=>CE outer P w H s Q u s'
 | .ok _=>False
 | .error e=>CX outer H s E e s'
structure FnOk (P:Program) (w:World) (K:PySem.W.Frag) (mg:Str→Option Value) (base:Heap) (CX:CXT) (k:Nat) (f:Addr) (fd:FuncData) (ps:List Str) (sp:Sp):Prop where
 len:∀vs H Q E,sp vs H Q E→vs.length=ps.length
 run:∀(A:Around) (outer:List Env) (s:Shared) (H:Hp) (args:Args) (us:List Value) (vs:List V) (Q:VK) (E:XK),Room k A→Env0 P w K mg base A outer s H→BindsTo s fd args (ps.zip us)→Vals vs us→sp vs H Q E→
  codeAny (model P w) A (.call (.ref f) args) (CR CX outer P w H s Q E) s
section
variable {X:Cx} {pins:List (Addr × Obj)} {σ:St} {H:Hp} {s s':Shared}
theorem Inv.env0 (I:Inv X pins σ H s):Env0 X.prog X.w X.K X.mg X.base X.A X.stack s H:=
 ⟨I.ok.frames,I.ok.mod,I.bs,Nat.le_trans I.ok.bsz I.sz,I.stack,I.stkFree,I.hok,I.bare⟩
theorem Inv.after {Q:VK} {u:Value} (I:Inv X pins σ H s) (h:CE X.stack X.prog X.w H s Q u s'):EP X pins σ Q u s':=by
 obtain ⟨v,H',os,bare,un,hok,r,q⟩:=h
 obtain ⟨hh,g,d,t,os'⟩:=s'
 obtain rfl:os'=s.os:=os
 exact ⟨v,H',I.call (h':=hh) (g':=g) (d':=d) (t':=t) (ch:=[]) un hok bare (fun b z=>absurd z (by simp)),r,q⟩
end
def tCall (sp:Sp) (dvs:List V) (E:XK) (t:TA):TE:=fun σ H Q=>t σ H fun vs H1=>sp (vs ++ dvs) H1 Q E
def Binds (K:PySem.W.Frag) (fd:FuncData) (ps:List Str) (ds:List Value):Prop:=
 ∀(s:Shared) (us:List Value),K.In s.heap→(us ++ ds).length=ps.length→BindsTo s fd ⟨us,[]⟩ (ps.zip (us ++ ds))
theorem Binds.all {K:PySem.W.Frag} {fd:FuncData} {ps:List Str} (h:∀us:List Value,us.length=ps.length→bindArgs fd ⟨us,[]⟩=pure (ps.zip us)):Binds K fd ps []:=fun s us _ hl=>by
 rw [List.append_nil] at hl ⊢
 exact .of_eq (h us hl)
def Passes (CX:CXT) (X:Cx) (E:XK):Prop:=∀(pins:List (Addr × Obj)) (σ:St) (H:Hp) (s:Shared) (e:Value) (s':Shared),Inv X pins σ H s→CX X.stack H s E e s'→X.xe e s'
section
variable {X:Cx} {CX:CXT} {k:Nat} {f C:Addr} {fd:FuncData} {ps:List Str} {sp:Sp} {dvs:List V} {ds:List Value} {E:XK} {x m:Str} {p pos apos:Pos} {e o:Expr} {es:List Expr} {ta:TE} {t:TA}
theorem run_fn {pins:List (Addr × Obj)} {σ:St} {H:Hp} {s:Shared} {Q:VK} {us:List Value} {vs:List V} (F:FnOk X.prog X.w X.K X.mg X.base CX k f fd ps sp) (hr:Room k X.A) (hb:Binds X.K fd ps ds) (hd:Vals dvs ds) (hx:Passes CX X E)
  (I:Inv X pins σ H s) (r:Vals vs us) (h:sp (vs ++ dvs) H Q E):wpAny (model X.prog X.w) X.A (call (.ref f) us) (EP X pins σ Q) X.xe s:=by
 have r2:Vals (vs ++ dvs) (us ++ ds):=r.append hd
 have hl:(us ++ ds).length=ps.length:=by rw [← r2.length]; exact F.len _ _ _ _ h
 refine wpAny_call (codeAny_mono (F.run X.A X.stack s H ⟨us,[]⟩ (us ++ ds) (vs ++ dvs) Q E hr I.env0 (hb s us I.kIn hl) r2 h) fun r s' hq=>?_)
 cases r with
 | error e=>exact hx pins σ H s e s' I hq
 | ok fl=>
  cases fl with
  | ret u=>exact I.after hq
  | next=>exact False.elim hq
  | brk=>exact False.elim hq
  | cont=>exact False.elim hq
theorem pe_call (F:FnOk X.prog X.w X.K X.mg X.base CX k f fd ps sp) (hr:Room k X.A) (hg:Gl X x) (hm:X.mg x=some (.ref f)) (hk:PySem.W.keepIn X.K (.ref f)=true) (hb:Binds X.K fd ps ds) (hd:Vals dvs ds) (hx:Passes CX X E)
  (ha:PA X (e :: es) t) (hdb:(x == ("__debug__" : Str))=false:=by decide) (he:starEach (e :: es) X.env=(false,eval e X.env) :: starEach es X.env:=by rfl) (hpl:(backTo pos (starEach es X.env)).any (·.1)=false:=by rfl) :
  PE X (.Call (.Name x p) (e :: es) [] pos) (tCall sp dvs E t):=by
 intro pins s σ H Q I h
 refine wpAny_Call_Name_kw (ld_glob I hg hm ?_ hdb)
 refine PySem.W.callWith_K (h₀:=X.base) I.ok.mod.kin hk (thn (ha pos pins s σ H _ I h) fun us s1 ⟨vs,H1,I1,r,q⟩=>⟨I1.kIn,?_⟩) he hpl
 exact run_fn F hr hb hd hx I1 r q
end
section
variable {X:Cx} {CX:CXT} {k:Nat} {f C:Addr} {fd:FuncData} {ps ks:List Str} {sp:Sp} {E:XK} {x m:Str} {p pos apos kpos:Pos} {e o:Expr} {es:List Expr} {kws:List Keyword} {te ta:TE} {t tk:TA} {nm:Option Str}
variable {g:List Value→List Value→List Value} {gV:List V→List V→List V}
end
structure FnScope (N P:List Str) (sc:Scope):Prop where
 kind:sc.kind = .function
 co:sc.isCoroutine=false
 gen:sc.isGenerator=false
 nd:N.Nodup
 pre:N.take P.length=P
 par:∀x∈P,sc.names.lookup x=some .local∨sc.names.lookup x=some .cell
 nofree:∀y∈sc.names,y.2≠.free
theorem bindL_out {kindOf:Str→Option NameKind} {x:Str}:∀{binds:List (Str × Value)} {m:Str→Option Value},(∀v,(x,v)∉binds)→bindL kindOf binds m x=m x
 | [],_,_=>rfl
 | (n,v) :: r,m,h=>by
  unfold bindL
  rw [bindL_out fun w hw=>h w (List.mem_cons_of_mem _ hw)]
  split
  ·have:x≠n:=by rintro rfl; exact h v List.mem_cons_self
   simp [this]
  ·rfl
theorem bindC_out {kindOf:Str→Option NameKind} {x:Str}:∀{binds:List (Str × Value)} {m:Str→Option Value},(∀v,(x,v)∉binds)→bindC kindOf binds m x=m x
 | [],_,_=>rfl
 | (n,v) :: r,m,h=>by
  unfold bindC
  rw [bindC_out fun w hw=>h w (List.mem_cons_of_mem _ hw)]
  split
  ·rfl
  ·have:x≠n:=by rintro rfl; exact h v List.mem_cons_self
   simp [this]
theorem bindL_get {kindOf:Str→Option NameKind} {x:Str} {v:Value}:∀{P:List Str} {vs:List Value} {i:Nat} {m:Str→Option Value},P.Nodup→P[i]? = some x→vs[i]? = some v→kindOf x=some .local→
  bindL kindOf (P.zip vs) m x=some v
 | [],_,_,_,_,h,_,_=>by simp at h
 | _ :: _,[],_,_,_,_,h,_=>by simp at h
 | p :: P,w :: vs,0,m,nd,h1,h2,hk=>by
  simp at h1 h2; subst h1; subst h2
  show bindL kindOf ((p,w) :: P.zip vs) m p=_
  unfold bindL
  rw [bindL_out fun v hv=>(List.nodup_cons.mp nd).1 (List.of_mem_zip hv).1,if_pos hk]
  simp
 | p :: P,w :: vs,i + 1,m,nd,h1,h2,hk=>by
  show bindL kindOf ((p,w) :: P.zip vs) m x=_
  unfold bindL
  exact bindL_get (i:=i) (List.nodup_cons.mp nd).2 (by simpa using h1) (by simpa using h2) hk
theorem bindC_get {kindOf:Str→Option NameKind} {x:Str} {v:Value}:∀{P:List Str} {vs:List Value} {i:Nat} {m:Str→Option Value},P.Nodup→P[i]? = some x→vs[i]? = some v→kindOf x≠some .local→
  bindC kindOf (P.zip vs) m x=some v
 | [],_,_,_,_,h,_,_=>by simp at h
 | _ :: _,[],_,_,_,_,h,_=>by simp at h
 | p :: P,w :: vs,0,m,nd,h1,h2,hk=>by
  simp at h1 h2; subst h1; subst h2
  show bindC kindOf ((p,w) :: P.zip vs) m p=_
  unfold bindC
  rw [bindC_out fun v hv=>(List.nodup_cons.mp nd).1 (List.of_mem_zip hv).1,if_neg hk]
  simp
 | p :: P,w :: vs,i + 1,m,nd,h1,h2,hk=>by
  show bindC kindOf ((p,w) :: P.zip vs) m x=_
  unfold bindC
  exact bindC_get (i:=i) (List.nodup_cons.mp nd).2 (by simpa using h1) (by simpa using h2) hk
def start (N:List Str) (vs:List V):St:=vs.map some ++ List.replicate (N.length - vs.length) none
def cxOf (CX:CXT) (P:Program) (w:World) (K:PySem.W.Frag) (mg:Str→Option Value) (base:Heap) (N:List Str) (qual:Str) (scope:Scope) (f:Addr) (cd:Value) (A:Around) (outer:List Env) (s:Shared) (H:Hp) (E:XK):Cx where
 prog:=P
 w:=w
 K:=K
 mg:=mg
 base:=base
 A:=A.deeper (envOfC qual scope s.heap.objs.size f cd)
 N:=N
 s₀:=s
 H₀:=H
 env:=envOfC qual scope s.heap.objs.size f cd
 outer:=outer
 stack:=envOfC qual scope s.heap.objs.size f cd :: outer
 ex:=[]
 calm:=true
 fn:=fun _=>true
 pn:=[]
 xe:=fun e s'=>wpAny (model P w) (A.deeper (envOfC qual scope s.heap.objs.size f cd)) (leaving (envOfC qual scope s.heap.objs.size f cd) e) (fun _ s''=>CX outer H s E e s'') (fun e' s''=>CX outer H s E e' s'') s'
theorem cell_has {sc:Scope} {n:Nat} {x:Str} (h:sc.names.lookup x=some .cell):∃c,(cellsFrom n sc.names []).lookup x=some c:=by
 have q:=PySem.W.cellsFrom_some sc.names n [] (.inl h)
 exact Option.isSome_iff_exists.mp q
theorem inv_start {CX:CXT} {P:Program} {w:World} {K:PySem.W.Frag} {mg:Str→Option Value} {base:Heap} {N ps:List Str} {qual:Str} {scope:Scope} {f:Addr} {cd:Value} {A:Around} {outer:List Env} {s s1:Shared} {H:Hp} {E:XK} {us:List Value} {vs:List V}
  (S:FnScope N ps scope) (hd:A.handled=none) (e0:Env0 P w K mg base A outer s H) (hl:vs.length=ps.length) (r:Vals vs us)
  (x:InCallC s s.heap.objs.size (bindL (envOfC qual scope s.heap.objs.size f cd).kindOf (ps.zip us) fun _=>none) (cellsFrom (s.heap.objs.size + 1) scope.names []) (bindC (envOfC qual scope s.heap.objs.size f cd).kindOf (ps.zip us) fun _=>none) s1) :
  Inv (cxOf CX P w K mg base N qual scope f cd A outer s H E) [] (start N vs) H s1:=by
 have hpl:ps.length≤N.length:=by have:=congrArg List.length S.pre; rw [List.length_take] at this; omega
 obtain ⟨h1,tk,rfl,hk⟩:=x.done
 have noA:∀b:Addr,b∉(cxOf CX P w K mg base N qual scope f cd A outer s H E).ex:=fun b z=>absurd (show b∈([]:List Addr) from z) (by simp)
 refine ⟨⟨e0.mod,S.kind,rfl,rfl,Nat.le_refl _,fun y z c h1 h2=>?_,fun y hy=>?_,fun y c _ h=>?_,fun _=>hd,Around.frames_deeper e0.frames,.inr ⟨rfl,rfl⟩,fun b z=>absurd z (noA b),e0.bs,e0.bsz,fun b _ _=>noA b,fun b z=>absurd z (noA b),e0.funs,e0.frf⟩,
  rfl,e0.bare,Un.kept hk,⟨_,x.toInCall.ns,fun i y v h1 h2 h3=>?_⟩,fun y c h=>⟨_,x.cell y c h⟩,e0.hok.fresh (Nat.le_refl _),fun y c h=>?_,fun p hp=>absurd (show p∈([]:List (Addr × Obj)) from hp) (by simp),e0.hok.kept hk,?_⟩
 ·exact name_of_addr x.apart (PySem.mem_of_lookup h1) (PySem.mem_of_lookup h2)
 ·have hy:scope.names.lookup y=some .cell∨scope.names.lookup y=some .free:=hy
  rcases hy with hy | hy
  ·exact cell_has hy
  ·exact absurd rfl (S.nofree _ (PySem.mem_of_lookup hy))
 ·exact Nat.le_of_lt (x.above y c (PySem.mem_of_lookup h))
 ·have hi:i < vs.length:=by
   unfold start at h2
   by_cases hi:i < vs.length
   ·exact hi
   ·rw [List.getElem?_append_right (by simpa using hi)] at h2
    rw [List.getElem?_replicate] at h2
    split at h2 <;> cases h2
  have ha:vs[i]? = some v:=by
   unfold start at h2
   rw [List.getElem?_append_left (by simpa using hi),List.getElem?_map] at h2
   cases e:vs[i]? with
   | none=>rw [e] at h2; cases h2
   | some a=>rw [e] at h2; cases h2; rfl
  obtain ⟨u,hu,rv⟩:=r.get ha
  have hp:ps[i]? = some y:=by
   rw [← S.pre,List.getElem?_take_of_lt (by omega)]; exact h1
  have ndP:ps.Nodup:=by rw [← S.pre]; exact S.nd.sublist (List.take_sublist _ _)
  refine ⟨u,rv,?_⟩
  rcases S.par y (List.mem_of_getElem? hp) with k | k
  ·exact .inl ⟨k,bindL_get ndP hp hu k⟩
  ·obtain ⟨c,e⟩:=cell_has (n:=s.heap.objs.size + 1) k
   refine .inr ⟨.inl k,c,e,?_⟩
   have q:=x.cell y c e
   rw [bindC_get ndP hp hu (by show scope.names.lookup y≠_; rw [k]; decide)] at q
   exact q
 ·exact e0.hok.fresh (Nat.le_of_lt (x.above y c (PySem.mem_of_lookup h)))
 ·unfold start
  show _=N.length
  rw [List.length_append,List.length_map,List.length_replicate]
  omega
theorem fn_of {CX:CXT} {P:Program} {w:World} {K:PySem.W.Frag} {mg:Str→Option Value} {base:Heap} {k:Nat} {f:Addr} {name qual:Str} {params:Arguments} {body:List Stmt} {scope:Scope} {dV kV doc pm cdv ct oc:Value} {an od:Option Addr}
  {osl:Array (Option Value)} {N ps:List Str} {sp:Sp} (lk:K.lookup f=some ⟨oc,od,.func (PySem.W.fnOf name qual params body scope dV kV doc pm an cdv ct),osl⟩) (hcd:PySem.W.codeIn K cdv qual=true) (S:FnScope N ps scope)
  (len:∀vs H Q E,sp vs H Q E→vs.length=ps.length)
  (hbody:∀(A:Around) (outer:List Env) (s:Shared) (H:Hp) (vs:List V) (Q:VK) (E:XK),Room k (A.deeper (envOfC qual scope s.heap.objs.size f cdv))→sp vs H Q E→
   ∃t,PSs (cxOf CX P w K mg base N qual scope f cdv A outer s H E) body t∧t {nx:=fun _ H'=>Q .non H',rt:=Q} (start N vs) H) :
  FnOk P w K mg base CX (k + 1) f (PySem.W.fnOf name qual params body scope dV kV doc pm an cdv ct) ps sp:=by
 refine ⟨len,fun A outer s H args us vs Q E hr e0 hb r hsp=>?_⟩
 have hl:=len _ _ _ _ hsp
 have KX:K.In s.heap:=e0.mod.kin.keeps fun b o e=>(e0.bs b o e).1
 have lim:s.heap.NoLimit:=e0.mod.nolimit.keeps fun b o e=>(e0.bs b o e).1
 have hkind:∀y∈ps.zip us,scope.names.lookup y.1=some .local∨(scope.names.lookup y.1=some .cell∧((cellsFrom (s.heap.objs.size + 1) scope.names []).lookup y.1).isSome=true):=fun ⟨n,v⟩ hy=>by
  rcases S.par n (List.of_mem_zip hy).1 with q | q
  ·exact .inl q
  ·exact .inr ⟨q,PySem.W.cellsFrom_some _ _ _ (.inl q)⟩
 refine codeAny_call_function hr.depth (KX _ _ lk) rfl S.co S.gen rfl (PySem.W.codeRec_of KX hcd) (hb _ _ _ _ ?_)
 refine wpAny_newFunctionEnv_cells S.kind hkind fun env he s1 x=>?_
 subst he
 refine ⟨lim.keeps x.toInCall.keep,codeAny_func ?_⟩
 obtain ⟨t,ht,hq⟩:=hbody A outer s H vs Q E (hr.deeper _) hsp
 have I:Inv (cxOf CX P w K mg base N qual scope f cdv A outer s H E) [] (start N vs) H s1:=inv_start S hr.hd e0 hl r x
 refine wpAny_mono (ht [] s1 (start N vs) H _ I hq) (fun fl s' hs=>?_) fun e s' hs=>hs
 have fin:∀{σ':St} {H':Hp} {v:V} {u:Value},Inv (cxOf CX P w K mg base N qual scope f cdv A outer s H E) [] σ' H' s'→RelV v u→Q v H'→CE outer P w H s Q u s':=
  fun {σ' H' v u} J rv q=>⟨v,H',J.os,J.bare,J.base,J.hok,rv,q⟩
 cases fl with
 | ret u=>
  obtain ⟨v,σ',H',J,rv,q⟩:=hs
  exact fin J rv q
 | next=>
  obtain ⟨σ',H',J,q⟩:=hs
  exact fin (v:=V.non) (u:=Value.none) J rfl q
 | brk=>
  obtain ⟨_,_,_,q⟩:=hs
  exact False.elim q
 | cont=>
  obtain ⟨_,_,_,q⟩:=hs
  exact False.elim q
section
variable {X:Cx} {x:Str} {p pos:Pos} {e:Expr} {es:List Expr} {t:TA} {id T:String} {r:List V→Hp→VK→Prop}
def tCB (r:List V→Hp→VK→Prop) (t:TA):TE:=fun σ H Q=>t σ H fun vs H1=>r vs H1 Q
theorem pe_callB (hc:CallR X (.builtin id) r) (hg:Gl X x) (hm:X.mg x=none) (hv:bootBuiltins x=some (.builtin id)) (ha:PA X (e :: es) t) (hn:x≠"__name__":=by decide) (hdb:(x == ("__debug__" : Str))=false:=by decide)
  (he:starEach (e :: es) X.env=(false,eval e X.env) :: starEach es X.env:=by rfl) (hpl:(backTo pos (starEach es X.env)).any (·.1)=false:=by rfl):PE X (.Call (.Name x p) (e :: es) [] pos) (tCB r t):=by
 intro pins s σ H Q I h
 refine wpAny_Call_Name_kw (ld_blt I hg hm hv ?_ hn hdb)
 exact PyProof.Rows.callWith_builtin1 (thn (ha pos pins s σ H _ I h) fun us s1 ⟨vs,H1,I1,r1,q1⟩=>hc pins s1 σ H1 vs us Q I1 r1 q1) he hpl
theorem pe_callTy (hc:CallR X (.type T) r) (hg:Gl X x) (hm:X.mg x=none) (hv:bootBuiltins x=some (.type T)) (ha:PA X (e :: es) t) (hn:x≠"__name__":=by decide) (hdb:(x == ("__debug__" : Str))=false:=by decide)
  (he:starEach (e :: es) X.env=(false,eval e X.env) :: starEach es X.env:=by rfl) (hpl:(backTo pos (starEach es X.env)).any (·.1)=false:=by rfl):PE X (.Call (.Name x p) (e :: es) [] pos) (tCB r t):=by
 intro pins s σ H Q I h
 refine wpAny_Call_Name_kw (ld_blt I hg hm hv ?_ hn hdb)
 exact PyProof.Rows.callWith_type1 (thn (ha pos pins s σ H _ I h) fun us s1 ⟨vs,H1,I1,r1,q1⟩=>hc pins s1 σ H1 vs us Q I1 r1 q1) he hpl
theorem pe_callTy0 (hc:CallR X (.type T) r) (hg:Gl X x) (hm:X.mg x=none) (hv:bootBuiltins x=some (.type T)) (hn:x≠"__name__":=by decide) (hdb:(x == ("__debug__" : Str))=false:=by decide) :
  PE X (.Call (.Name x p) [] [] pos) (tCB r tNil):=by
 intro pins s σ H Q I h
 refine wpAny_Call_Name_kw (ld_blt I hg hm hv ?_ hn hdb)
 exact PyProof.Rows.callWith_type0 (hc pins s σ H [] [] Q I .nil h)
end
end L2
namespace HT
open PySem PyProof.Rows
section
open PySem.SeqAt
open PySem.AutoSeq1 (wpAny_loadPart')
open PySem.MeetsSeq PySem.MeetsSeq2 PySem.MeetsSeq3
end
section
variable {prog:Program} {w:World} {A:Around} {E:Value→Shared→Prop} {s:Shared}
theorem cat_tup {t b:Addr} {vs ws:List Value} {Q:Value→Shared→Prop} (ht:IsTup s.heap t vs.toArray) (hb:IsTup s.heap b ws.toArray) (hv:vs≠[])
  (h1:ws=[]→Q (.ref t) s) (h2:ws≠[]→Q (.ref s.heap.objs.size) {s with heap:=s.heap.push {cls:=.type "tuple",data:=.seq (vs ++ ws).toArray}})
  (hsz:vs.length + ws.length≤sizeLine):wpAny (model prog w) A (binaryOp .Add (.ref t) (.ref b)) Q E s:=by
 obtain ⟨⟨cls,dd,data,sl⟩,ho,hc,n,hd⟩:=id ht
 obtain ⟨⟨cls2,dd2,data2,sl2⟩,ho2,hc2,n2,hd2⟩:=id hb
 simp only at hc hd hc2 hd2
 subst hc hd hc2 hd2
 have e:vs.toArray ++ ws.toArray=(vs ++ ws).toArray:=by simp
 by_cases hw:ws=[]
 ·exact concat_meets ⟨_,ho,rfl⟩ ⟨_,ho2,rfl⟩ noFill_tuple_add seq_tuple_add PySem.F.slot_tuple_add PySem.F.entry_tuple_add (PySem.F.args_tuple_add_2 _ _)
   (tuple_addW1 t b vs.toArray ws.toArray n n2 dd dd2 sl sl2 (by simpa using hv) (by simp [hw])) ⟨ho,ho2,h1 hw⟩
 ·refine concat_meets ⟨_,ho,rfl⟩ ⟨_,ho2,rfl⟩ noFill_tuple_add seq_tuple_add PySem.F.slot_tuple_add PySem.F.entry_tuple_add (PySem.F.args_tuple_add_2 _ _)
   (tuple_addW2 t b vs.toArray ws.toArray n n2 dd dd2 sl sl2 (by simpa using hv) (by simpa using hw) (by rw [List.size_toArray,List.size_toArray]; exact hsz)) ⟨ho,ho2,?_⟩
  rw [e]
  exact h2 hw
def sIx (n d:Nat):Option Int→Nat
 | none=>d
 | some v=>if v < 0 then (v + (n:Int)).toNat else min v.toNat n
theorem sIx_none (n d:Nat):sIx n d none=d:=rfl
theorem sIx_nat (n d k:Nat):sIx n d (some (k:Int))=min k n:=by
 show (if (k:Int) < 0 then ((k:Int) + (n:Int)).toNat else min (k:Int).toNat n)=min k n
 rw [if_neg (by omega),Int.toNat_natCast]
theorem sIx_le (n d:Nat) (hd:d≤n) (o:Option Int):sIx n d o≤n:=by
 cases o with
 | none=>exact hd
 | some v=>
  show (if v < 0 then (v + (n:Int)).toNat else min v.toNat n)≤n
  by_cases hv:v < 0
  ·rw [if_pos hv]; omega
  ·rw [if_neg hv]; exact Nat.min_le_right _ _
theorem clip_eq (v:Int) (n d:Nat):(if v < 0 then max (v + (n:Int)) 0 else min v (n:Int))=((sIx n d (some v):Nat):Int):=by
 show (if v < 0 then max (v + (n:Int)) 0 else min v (n:Int))=(((if v < 0 then (v + (n:Int)).toNat else min v.toNat n):Nat):Int)
 by_cases hv:v < 0
 ·simp only [if_pos hv]; omega
 ·simp only [if_neg hv]; omega
theorem adjust_gen (lo hi:Option Int) (n:Nat):Builtin.Slice.sliceAdjust lo hi 1 (n:Int)=(((sIx n 0 lo:Nat):Int),((sIx n n hi:Nat):Int)):=by
 have h1:¬((1:Int) < 0):=by omega
 unfold Builtin.Slice.sliceAdjust
 simp only [h1,if_false]
 refine Prod.ext ?_ ?_
 ·cases lo with
  | none=>rfl
  | some v=>exact clip_eq v n 0
 ·cases hi with
  | none=>rfl
  | some v=>exact clip_eq v n n
theorem places_gen (i j:Nat):Builtin.Slice.slicePlaces (i:Int) (j:Int) 1=j - i:=by
 unfold Builtin.Slice.slicePlaces
 have h1:(1:Int) > 0:=by omega
 simp only [h1,if_true,Int.ediv_one]
 split <;> omega
theorem slicePart_ {v:Value} {o:Option Int} {Q:Option Int→Shared→Prop} (p:IsPart v o) (h:Q o s):wpAny (model prog w) A (Builtin.Slice.slicePartIndex v) Q E s:=by
 cases p with
 | none=>exact slicePart_none h
 | int i t=>exact slicePart_int h
theorem sliceApplied_gen {sl:Addr} {vl vu:Value} {lo hi:Option Int} {n:Nat} {Q:Int × Int × Nat→Shared→Prop} (hs:s.heap.IsSliceOf sl vl vu .none) (pl:IsPart vl lo) (pu:IsPart vu hi)
  (h:Q (((sIx n 0 lo:Nat):Int),1,sIx n n hi - sIx n 0 lo) s):wpAny (model prog w) A (Builtin.Slice.sliceApplied (.ref sl) (pure (n:Int))) Q E s:=by
 obtain ⟨os,hos,hcs,hds⟩:=id hs
 unfold Builtin.Slice.sliceApplied Builtin.Slice.sliceFields
 refine wpAny_bind (wpAny_bind (wpAny_field hos hds (x:=vl) rfl (wpAny_bind (wpAny_field hos hds (x:=vu) rfl (wpAny_bind (wpAny_field hos hds (x:=.none) rfl (wpAny_pure ?_)))))))
 refine wpAny_bind (slicePart_none ?_)
 show wpAny _ _ (if ((1:Int) == 0)=true then _ else _) _ _ s
 rw [if_neg (by decide)]
 refine wpAny_bind (slicePart_ pl (wpAny_bind (slicePart_ pu (wpAny_bind (wpAny_pure ?_)))))
 show wpAny _ _ (match Builtin.Slice.sliceAdjust lo hi 1 (n:Int) with | (lo,hi)=>pure (lo,(1:Int),Builtin.Slice.slicePlaces lo hi 1)) _ _ s
 rw [adjust_gen lo hi n]
 show wpAny _ _ (pure (((sIx n 0 lo:Nat):Int),(1:Int),Builtin.Slice.slicePlaces ((sIx n 0 lo:Nat):Int) ((sIx n n hi:Nat):Int) 1)) _ _ s
 rw [places_gen]
 exact wpAny_pure h
theorem pick_gen (xs:Array Value) (i k:Nat):((List.range k).filterMap fun (m:Nat)=>xs[((i:Int) + (m:Int) * 1).toNat]?).toArray=((xs.toList.drop i).take k).toArray:=by
 have e:(fun (m:Nat)=>xs[((i:Int) + (m:Int) * 1).toNat]?)=fun m=>xs[i + m]?:=by
  funext m
  have:((i:Int) + (m:Int) * 1).toNat=i + m:=by omega
  rw [this]
 rw [e]
 have:=pick_run xs i k
 rw [List.filterMap_map] at this
 have e2:((fun x=>xs[x]?) ∘ fun x=>i + x)=fun m=>xs[i + m]?:=rfl
 rw [e2] at this
 rw [this]
theorem getItem_tuple_cut {t sl:Addr} {items:Array Value} {vl vu:Value} {lo hi:Option Int} {Q:Value→Shared→Prop} (ht:IsTup s.heap t items) (hs:s.heap.IsSliceOf sl vl vu .none) (pl:IsPart vl lo) (pu:IsPart vu hi)
  (hw:¬(sIx items.size 0 lo=0∧sIx items.size items.size hi=items.size))
  (h:Q (.ref s.heap.objs.size) {s with heap:=s.heap.push {cls:=.type "tuple",data:=.seq ((items.toList.drop (sIx items.size 0 lo)).take (sIx items.size items.size hi - sIx items.size 0 lo)).toArray}})
  (hsz:items.size≤sizeLine):wpAny (model prog w) A (getItem (.ref t) (.ref sl)) Q E s:=by
 have htake:sizeOk (.seq ((items.toList.drop (sIx items.size 0 lo)).take (sIx items.size items.size hi - sIx items.size 0 lo)).toArray):=by
  show ((items.toList.drop (sIx items.size 0 lo)).take (sIx items.size items.size hi - sIx items.size 0 lo)).toArray.size≤sizeLine
  rw [List.size_toArray,List.length_take,List.length_drop,Array.length_toList]
  omega
 have hj:sIx items.size items.size hi≤items.size:=sIx_le _ _ (Nat.le_refl _) hi
 obtain ⟨os,hos,hcs,hds⟩:=id hs
 have hTs:s.TypeIs (.ref sl) "slice":=⟨os,hos,hcs⟩
 unfold getItem
 try with_reducible refine wpAny_holding ?_
 first | refine wpAny_bind (wpAny_pure ?_) | skip
 refine wpAny_bind (wpAny_sequenceKey ht.typeIs (by decide) ?_)
 refine wpAny_bind (wpAny_callSpecial?_slot (name:=Str.ofString "__getitem__") ht.typeIs PyProof.Rows.slot_tuple_getitem
  (wpAny_call_entry PyProof.Rows.slot_tuple_getitem ht.typeIs entry_tuple_getitem ?_ (args_tuple_getitem _ _)))
 show wpAny _ _ (Builtin.Tuple.tupleItemsOf (.ref t) >>= _) _ _ s
 refine wpAny_bind (tupleItemsOf_ ht ?_)
 refine wpAny_bind (wpAny_typeOf hTs ?_)
 rw [if_pos (by decide)]
 refine wpAny_bind (sliceApplied_gen hs pl pu ?_)
 have hno:¬((((sIx items.size 0 lo:Nat):Int) == 0 && (1:Int) == 1 && (sIx items.size items.size hi - sIx items.size 0 lo) == items.size)=true):=by
  intro q
  rw [Bool.and_eq_true,Bool.and_eq_true] at q
  have q1:((sIx items.size 0 lo:Nat):Int)=0:=eq_of_beq q.1.1
  have q2:sIx items.size items.size hi - sIx items.size 0 lo=items.size:=eq_of_beq q.2
  exact hw ⟨by omega,by omega⟩
 show wpAny _ _ (if (((sIx items.size 0 lo:Nat):Int) == 0 && (1:Int) == 1 && (sIx items.size items.size hi - sIx items.size 0 lo) == items.size)=true then _ else _) _ _ s
 rw [if_neg hno,pick_gen]
 first
  | exact wpAny_bind (m:=Builtin.Tuple.tupleExact _) (wpAny_newObj_type (wpAny_pure ⟨_,rfl,wpAny_pure h⟩) htake)
  | exact wpAny_bind (m:=Builtin.Tuple.tupleExact _) (wpAny_newObj_type (wpAny_bind (wpAny_pure (wpAny_pure ⟨_,rfl,wpAny_pure h⟩))) htake)
  | exact wpAny_bind (wpAny_bind (m:=Builtin.Tuple.tupleExact _) (wpAny_newObj_type (wpAny_pure (wpAny_pure ⟨_,rfl,wpAny_pure h⟩)) htake))
  | exact wpAny_bind (wpAny_bind (m:=Builtin.Tuple.tupleExact _) (wpAny_newObj_type (wpAny_pure ⟨_,rfl,wpAny_pure h⟩) htake))
end
end HT
namespace L2
open PySem PySem.Spec PyProof.Rows
abbrev TO:=St→Hp→(Option Int→Hp→Prop)→Prop
def PO (X:Cx) (e:Option Expr) (t:TO):Prop:=
 ∀(pins:List (Addr × Obj)) (s:Shared) (σ:St) (H:Hp) (Q:Option Int→Hp→Prop),Inv X pins σ H s→t σ H Q→
  wpAny (model X.prog X.w) X.A (evalPart e X.env) (fun u s'=>∃o H',Inv X pins σ H' s'∧IsPart u o∧Q o H') X.xe s
def tNoPart:TO:=fun _ H Q=>Q none H
def tPart (t:TE):TO:=fun σ H Q=>t σ H fun x H1=>∃i,x = .int i∧Q (some i) H1
section
variable {X:Cx} {e:Expr} {te:TE} {lo hi:Option Expr} {tl th:TO} {pos p2:Pos}
theorem po_none:PO X none tNoPart:=by
 intro pins s σ H Q I h
 rw [evalPart_none]
 exact wpAny_pure ⟨none,H,I,.none,h⟩
theorem po_some (h:PE X e te):PO X (some e) (tPart te):=by
 intro pins s σ H Q I hw
 rw [evalPart_some]
 refine thn (h pins s σ H _ I hw) fun u s1 ⟨x,H1,I1,r1,q1⟩=>?_
 obtain ⟨i,rfl,q⟩:=q1
 obtain ⟨t,rfl⟩:=r1
 exact ⟨some i,H1,I1,.int i t,q⟩
def SlR (X:Cx) (r:V→Option Int→Option Int→Hp→VK→Prop):Prop:=
 ∀(pins:List (Addr × Obj)) (s:Shared) (σ:St) (H:Hp) (x:V) (v vl vu:Value) (lo hi:Option Int) (sl:Addr) (Q:VK),Inv X pins σ H s→RelV x v→s.heap.IsSliceOf sl vl vu .none→IsPart vl lo→IsPart vu hi→r x lo hi H Q→
  ∃T id,typeLookup (.type T) "__getitem__" = pure (some (.builtin id))∧s.TypeIs v T∧wpAny (model X.prog X.w) X.A (getItem v (.ref sl)) (EP X pins σ Q) X.xe s
def tSl (r:V→Option Int→Option Int→Hp→VK→Prop) (te:TE) (tl th:TO):TE:=fun σ H Q=>te σ H fun x H1=>tl σ H1 fun l H2=>th σ H2 fun u H3=>r x l u H3 Q
theorem pe_slice {r:V→Option Int→Option Int→Hp→VK→Prop} (hr:SlR X r) (he:PE X e te) (hl:PO X lo tl) (hu:PO X hi th):PE X (.Subscript e (.Slice lo hi none p2) pos) (tSl r te tl th):=by
 intro pins s σ H Q I h
 refine Subscript_ (thn (he pins s σ H _ I h) fun v s1 ⟨x,H1,I1,r1,q1⟩=>?_)
 refine wpAny_Slice (thn (hl pins s1 σ H1 _ I1 q1) fun vl s2 ⟨l,H2,I2,pl,q2⟩=>thn (hu pins s2 σ H2 _ I2 q2) fun vu s3 ⟨u,H3,I3,pu,q3⟩=>?_)
 rw [evalPart_none]
 refine wpAny_pure ?_
 have I4:Inv X pins σ H3 {s3 with heap:=s3.heap.push {cls:=.type "slice",data:=.fields #[vl,vu,.none]}}:=I3.kept (t':=s3.toks) fun b ob q=>Heap.get?_push_of_some _ q
 obtain ⟨T,id,hT,ht,hg⟩:=hr pins {s3 with heap:=s3.heap.push {cls:=.type "slice",data:=.fields #[vl,vu,.none]}} σ H3 x v vl vu l u s3.heap.objs.size Q I4 r1 (Heap.IsSliceOf.new ..) pl pu q3
 show wpAny (model X.prog X.w) X.A (subscriptTail e (.Slice lo hi none p2) v (.ref s3.heap.objs.size)) (EP X pins σ Q) X.xe {s3 with heap:=s3.heap.push {cls:=.type "slice",data:=.fields #[vl,vu,.none]}}
 exact tail_any (ops:=[.ref s3.heap.objs.size,v]) ht hT hg (by with_unfolding_all rfl)
def cutV (xs:List V) (lo hi:Option Int):List V:=(xs.drop (HT.sIx xs.length 0 lo)).take (HT.sIx xs.length xs.length hi - HT.sIx xs.length 0 lo)
theorem cutV_length (xs:List V) (lo hi:Option Int):(cutV xs lo hi).length≤xs.length:=by
 unfold cutV
 rw [List.length_take,List.length_drop]
 omega
def rSlT (K:PySem.W.Frag):V→Option Int→Option Int→Hp→VK→Prop:=fun x lo hi H Q=>∃a xs,x = .ref a∧SqT K H a xs∧
 ¬(HT.sIx xs.length 0 lo=0∧HT.sIx xs.length xs.length hi=xs.length)∧∀p,H p=none→Q (.ref p) (upd H p (.tup (cutV xs lo hi)))
theorem sl_tup:SlR X (rSlT X.K):=by
 intro pins s σ H x v vl vu lo hi sl Q I rx hs pl pu h
 obtain ⟨a,xs,rfl,hx,hw,q⟩:=h
 cases rx
 obtain ⟨its,r,ht,hz⟩:=I.tuple hx
 have hlen:its.toArray.size=xs.length:=by rw [List.size_toArray]; exact r.length.symm
 refine ⟨"tuple",_,PyProof.Rows.slot_tuple_getitem.lookup,ht.typeIs,?_⟩
 refine HT.getItem_tuple_cut ht hs pl pu (by rw [hlen]; exact hw) ?_ (by rw [hlen]; exact hz)
 rw [hlen]
 refine ⟨.ref s.heap.objs.size,_,I.laid (t':=s.toks) (o:=.tup (cutV xs lo hi)) (fun b ob q=>Heap.get?_push_of_some _ q) (Nat.le_refl _) ?_,rfl,q _ (I.hok.fresh (Nat.le_refl _))⟩
 exact ⟨Nat.le_trans (cutV_length xs lo hi) hz,_,(r.drop (HT.sIx xs.length 0 lo)).take (HT.sIx xs.length xs.length hi - HT.sIx xs.length 0 lo),IsTup.new _ _⟩
def rCatT (K:PySem.W.Frag):R2:=fun x y H Q=>∃a b xs ys,x = .ref a∧y = .ref b∧SqT K H a xs∧SqT K H b ys∧xs≠[]∧xs.length + ys.length≤sizeLine∧
 (ys=[]→Q (.ref a) H)∧(ys≠[]→∀p,H p=none→Q (.ref p) (upd H p (.tup (xs ++ ys))))
theorem Vals.nil_iff {xs:List V} {us:List Value} (r:Vals xs us):us=[]↔xs=[]:=by
 cases r with
 | nil=>simp
 | cons _ _=>simp
theorem op_catT:OpR X (binaryOp .Add) (rCatT X.K):=by
 intro pins s σ H x y v u Q I rx ry h
 obtain ⟨a,b,xs,ys,rfl,rfl,ha,hb,hx,hz,q1,q2⟩:=h
 cases rx
 cases ry
 obtain ⟨its,r1,p1,_⟩:=I.tuple ha
 obtain ⟨its2,r2,p2,_⟩:=I.tuple hb
 refine HT.cat_tup p1 p2 (fun z=>hx (r1.nil_iff.mp z)) (fun z=>⟨.ref a,H,I,rfl,q1 (r2.nil_iff.mp z)⟩) (fun z=>?_) (by rw [← r1.length,← r2.length]; exact hz)
 refine ⟨.ref s.heap.objs.size,_,I.laid (t':=s.toks) (o:=.tup (xs ++ ys)) (fun b ob q=>Heap.get?_push_of_some _ q) (Nat.le_refl _) ?_,rfl,q2 (fun w=>z (r2.nil_iff.mpr w)) _ (I.hok.fresh (Nat.le_refl _))⟩
 exact ⟨by rw [List.length_append]; exact hz,_,r1.append r2,IsTup.new _ _⟩
end
def ixN (n:Nat) (i:Int):Option Nat:=if 0≤i then (if i < n then some i.toNat else none) else if -(n:Int)≤i then some (i + n).toNat else none
def atI {α:Type} (xs:List α) (i:Int):Option α:=(ixN xs.length i).bind fun j=>xs[j]?
theorem ixN_seq {n:Nat} {i:Int} {j:Nat} (h:ixN n i=some j):seqIndex? i n=some j∧j < n∧-(n:Int)≤i∧i < n:=by
 unfold ixN at h
 by_cases h0:0≤i
 ·rw [if_pos h0] at h
  by_cases h1:i < n
  ·rw [if_pos h1] at h
   have e:i.toNat=j:=Option.some.inj h
   exact ⟨by rw [seqIndex_of h0 h1,e],by omega,by omega,h1⟩
  ·rw [if_neg h1] at h; cases h
 ·rw [if_neg h0] at h
  by_cases h1:-(n:Int)≤i
  ·rw [if_pos h1] at h
   have e:(i + n).toNat=j:=Option.some.inj h
   exact ⟨by rw [seqIndex_neg (by omega) h1,e],by omega,h1,by omega⟩
  ·rw [if_neg h1] at h; cases h
theorem atI_get {α:Type} {xs:List α} {i:Int} {v:α} (h:atI xs i=some v):∃j,seqIndex? i xs.length=some j∧xs[j]? = some v∧j < xs.length∧-(xs.length:Int)≤i∧i < xs.length:=by
 unfold atI at h
 cases e:ixN xs.length i with
 | none=>rw [e] at h; cases h
 | some j=>
  rw [e] at h
  obtain ⟨h1,h2,h3,h4⟩:=ixN_seq e
  exact ⟨j,h1,h,h2,h3,h4⟩
theorem atI_nat {α:Type} {xs:List α} {j:Nat} {v:α} (h:xs[j]? = some v):atI xs (j:Int)=some v:=by
 have hj:j < xs.length:=(List.getElem?_eq_some_iff.mp h).1
 have e:ixN xs.length (j:Int)=some j:=by
  unfold ixN
  rw [if_pos (by omega),if_pos (by omega)]; simp
 unfold atI; rw [e]; exact h
def PlainIx (b:Expr):Prop:=∀o i,subscripted b false o i=operate [o,i] (getItem o i)
def IxR (X:Cx) (r:R2):Prop:=
 ∀(value slice:Expr) (pins:List (Addr × Obj)) (s:Shared) (σ:St) (H:Hp) (x y:V) (v u:Value) (Q:VK),Inv X pins σ H s→RelV x v→RelV y u→r x y H Q→
  subscripted slice false v u=operate [v,u] (getItem v u)→wpAny (model X.prog X.w) X.A (subscriptTail value slice v u) (EP X pins σ Q) X.xe s
def MtR (X:Cx) (id:String) (r:V→List V→Hp→VK→Prop):Prop:=
 ∀(pins:List (Addr × Obj)) (s:Shared) (σ:St) (H:Hp) (x:V) (xs:List V) (v:Value) (us:List Value) (Q:VK),Inv X pins σ H s→RelV x v→Vals xs us→r x xs H Q→
  wpAny (model X.prog X.w) X.A (call (.builtin id) (v :: us)) (EP X pins σ Q) X.xe s
section
variable {X:Cx} {a b:Expr} {ta tb:TE} {pos:Pos}
theorem pe_ix {r:R2} (hr:IxR X r) (ha:PE X a ta) (hb:PE X b tb) (hs:PlainIx b):PE X (.Subscript a b pos) (tOp r ta tb):=by
 intro pins s σ H Q I h
 exact Subscript_ (binT ha hb I h fun v u s2 x y H2 I2 rx ry q=>hr a b pins s2 σ H2 x y v u Q I2 rx ry q (hs _ _))
def rIxL (K:PySem.W.Frag):R2:=fun x y H Q=>∃p xs i v,x = .ref p∧y = .int i∧SqL K H p xs∧atI xs i=some v∧Q v H
def rIxT (K:PySem.W.Frag):R2:=fun x y H Q=>∃p xs i v,x = .ref p∧y = .int i∧SqT K H p xs∧atI xs i=some v∧Q v H
def rIxS:R2:=fun x y H Q=>∃z i c,x = .str z∧y = .int i∧z.length≤sizeLine∧atI z.cps.toList i=some c∧Q (.str ⟨#[c]⟩) H
theorem ix_list:IxR X (rIxL X.K):=by
 intro value slice pins s σ H x y v u Q I rx ry h hs
 obtain ⟨p,xs,i,z,rfl,rfl,hq,he,q⟩:=h
 cases rx
 obtain ⟨t,rfl⟩:=ry
 obtain ⟨its,r,pl,hz⟩:=I.list hq
 obtain ⟨j,h1,h2,h3,h4,h5⟩:=atI_get he
 obtain ⟨w,ew,rw'⟩:=r.get h2
 have hl:=r.length
 have hn:=line63
 have fin:EP X pins σ Q w s:=⟨z,H,I,rw',q⟩
 by_cases h0:0≤i
 ·have hj:i.toNat=j:=by
   rw [seqIndex_of h0 h5] at h1
   exact Option.some.inj h1
  exact item_listR pl.isList h0 (by omega) (by rw [hj]; simpa using ew) fin hs
 ·have hj:(i + (its.toArray.size:Int)).toNat=j:=by
   rw [seqIndex_neg (by omega) h4] at h1
   rw [List.size_toArray,← hl]
   exact Option.some.inj h1
  exact subscriptTail_builtinR (x:=w) pl.isList.typeIs slot_list_getitem.lookup
   (wpAny_getItem_list_neg (Q:=fun r s'=>r=w∧EP X pins σ Q r s') pl.isList (by omega) (by rw [List.size_toArray] <;> omega) (by omega) (by rw [hj]; simpa using ew) ⟨rfl,fin⟩) hs
theorem ix_tup:IxR X (rIxT X.K):=by
 intro value slice pins s σ H x y v u Q I rx ry h hs
 obtain ⟨p,xs,i,z,rfl,rfl,hq,he,q⟩:=h
 cases rx
 obtain ⟨t,rfl⟩:=ry
 obtain ⟨its,r,pl,hz⟩:=I.tuple hq
 obtain ⟨j,h1,h2,h3,h4,h5⟩:=atI_get he
 obtain ⟨w,ew,rw'⟩:=r.get h2
 have hl:=r.length
 have hn:=line63
 have fin:EP X pins σ Q w s:=⟨z,H,I,rw',q⟩
 exact subscriptTail_builtinR (x:=w) pl.typeIs slot_tuple_getitem.lookup
  (getItem_tuple (j:=j) (Q:=fun r s'=>r=w∧EP X pins σ Q r s') pl (by omega) (by omega) (by rw [List.size_toArray,← hl]; exact h1) (by simpa using ew) ⟨rfl,fin⟩) hs
theorem ix_str:IxR X rIxS:=by
 intro value slice pins s σ H x y v u Q I rx ry h hs
 obtain ⟨z,i,c,rfl,rfl,hz,he,q⟩:=h
 obtain ⟨t,rfl⟩:=rx
 obtain ⟨t',rfl⟩:=ry
 obtain ⟨j,h1,h2,h3,h4,h5⟩:=atI_get he
 have hl:z.cps.toList.length=z.length:=by simp [Str.length]
 rw [hl] at h1 h4 h5
 have hn:=line63
 exact tail_any (typeIs_str s z t) slot_str_getitem.lookup (getItem_str (c:=c) (by
  have e1:decide (i < -(2 ^ 63:Int))=false:=decide_eq_false (by omega)
  have e2:decide (i ≥ 2 ^ 63)=false:=decide_eq_false (by omega)
  rw [e1,e2,Bool.or_false]) (by rw [h1]; simpa using h2) ⟨.str ⟨#[c]⟩,H,I.tok _,⟨_,rfl⟩,q⟩) hs
theorem mapSeq_set (its:List Value) (n j:Nat) (u:Value):Obj.mapSeq (·.setIfInBounds j u) {cls:=.type "list",data:=.seq its.toArray n} = {cls:=.type "list",data:=.seq (its.set j u).toArray n}:=by
 simp [Obj.mapSeq]
theorem Inv.lst {pins:List (Addr × Obj)} {σ:St} {H:Hp} {s:Shared} {p:Addr} {xs:List V} (I:Inv X pins σ H s) (h:H p=some (.lst xs)) :
  ∃(its:List Value) (n:Nat),Vals xs its∧s.heap.get? p=some {cls:=.type "list",data:=.seq its.toArray n}∧xs.length≤sizeLine:=by
 obtain ⟨z,its,n,r,e⟩:=I.hok p _ h
 exact ⟨its,n,r,e,z⟩
theorem Inv.lstUpd {pins:List (Addr × Obj)} {σ:St} {H:Hp} {s:Shared} {p:Addr} {xs ys:List V} {its its':List Value} {n n':Nat} {f:Obj→Obj} (I:Inv X pins σ H s) (h:H p=some (.lst xs))
  (ho:s.heap.get? p=some {cls:=.type "list",data:=.seq its.toArray n}) (hf:f {cls:=.type "list",data:=.seq its.toArray n} = {cls:=.type "list",data:=.seq its'.toArray n'}) (r:Vals ys its') (hz:ys.length≤sizeLine) (t:Nat) :
  Inv X pins σ (upd H p (.lst ys)) {s with heap:=s.heap.update p f,toks:=t}:=by
 have e:(s.heap.update p f).get? p=some {cls:=.type "list",data:=.seq its'.toArray n'}:=by
  rw [Heap.get?_update_self f ho (by rw [hf] <;> rfl),hf]
 refine I.write (x:=p) (e:=p) (by rw [h]; trivial) (.inl rfl) (fun b u hb q=>(Heap.get?_update_other _ _ (Ne.symm hb)).trans q) ⟨_,e⟩ ?_
 exact ⟨hz,its',n',r,e⟩
def rSetL:V→V→V→Hp→(Hp→Prop)→Prop:=fun o i v H Q=>∃p xs k j,o = .ref p∧i = .int k∧H p=some (.lst xs)∧ixN xs.length k=some j∧Q (upd H p (.lst (xs.set j v)))
theorem set_list:PSet X rSetL:=by
 intro pins s σ H o i v ov iv u Q I ro ri rv h
 obtain ⟨p,xs,k,j,rfl,rfl,hp,hj,q⟩:=h
 cases ro
 obtain ⟨t,rfl⟩:=ri
 obtain ⟨its,n,r,ho,hz⟩:=I.lst hp
 obtain ⟨h1,h2,h3,h4⟩:=ixN_seq hj
 have hl:=r.length
 have hn:=line63
 have I':Inv X pins σ (upd H p (.lst (xs.set j v))) {s with heap:=s.heap.update p (Obj.mapSeq (·.setIfInBounds j u))}:=
  I.lstUpd hp ho (mapSeq_set its n j u) (r.set rv j) (by rw [List.length_set]; exact hz) s.toks
 by_cases h0:0≤k
 ·have hk:k.toNat=j:=by
   rw [seqIndex_of h0 h4] at h1
   exact Option.some.inj h1
  exact PySem.W.ki_setAt ho h0 (by omega) (by rw [List.size_toArray,← hl]; exact h4) (by rw [hk]; exact ⟨_,I',q⟩)
 ·have hk:(k + (its.toArray.size:Int)).toNat=j:=by
   rw [seqIndex_neg (by omega) h3] at h1
   rw [List.size_toArray,← hl]
   exact Option.some.inj h1
  exact PySem.W.ki_setBack ho (by omega) (by rw [List.size_toArray,← hl]; exact h3) (by omega) (by rw [hk]; exact ⟨_,I',q⟩)
theorem slice_bounds (lo hi:Option Int) (n:Nat):(sliceBounds lo hi none n).1=((HT.sIx n 0 lo:Nat):Int)∧(sliceBounds lo hi none n).2.1=((HT.sIx n n hi:Nat):Int)∧(sliceBounds lo hi none n).2.2=1:=by
 refine ⟨?_,?_,rfl⟩
 ·cases lo with
  | none=>simp [sliceBounds,HT.sIx]
  | some i=>
   simp only [sliceBounds,HT.sIx,Option.getD_none,show (1:Int) > 0 by decide,if_true]
   by_cases h:i < 0
   ·simp only [h,if_true] <;> omega
   ·simp only [h,if_false] <;> omega
 ·cases hi with
  | none=>simp [sliceBounds,HT.sIx]
  | some i=>
   simp only [sliceBounds,HT.sIx,Option.getD_none,show (1:Int) > 0 by decide,if_true]
   by_cases h:i < 0
   ·simp only [h,if_true] <;> omega
   ·simp only [h,if_false] <;> omega
theorem slicePick_cut (its:List Value) (lo hi:Option Int):slicePick its.toArray lo hi none=((its.drop (HT.sIx its.length 0 lo)).take (HT.sIx its.length its.length hi - HT.sIx its.length 0 lo)).toArray:=by
 obtain ⟨h1,h2,h3⟩:=slice_bounds lo hi its.toArray.size
 unfold slicePick
 rw [h1,h2,h3]
 simp only [sliceRange_one,pick_run,List.size_toArray] <;> rfl
def rSlL (K:PySem.W.Frag):V→Option Int→Option Int→Hp→VK→Prop:=fun x lo hi H Q=>∃a xs,x = .ref a∧SqL K H a xs∧∀p,H p=none→Q (.ref p) (upd H p (.lst (cutV xs lo hi)))
theorem sl_list:SlR X (rSlL X.K):=by
 intro pins s σ H x v vl vu lo hi sl Q I rx hs pl pu h
 obtain ⟨a,xs,rfl,hx,q⟩:=h
 cases rx
 obtain ⟨its,r,ht,hz⟩:=I.list hx
 have hlen:=r.length
 refine ⟨"list",_,slot_list_getitem.lookup,ht.isList.typeIs,?_⟩
 refine wpAny_getItem_list_slice ht.isList hs pl pu .none (by simp) ?_ (by rw [List.size_toArray] <;> omega)
 rw [slicePick_cut,← hlen]
 refine ⟨.ref s.heap.objs.size,_,I.laid (t':=s.toks) (o:=.lst (cutV xs lo hi)) (fun b ob q=>Heap.get?_push_of_some _ q) (Nat.le_refl _) ?_,rfl,q _ (I.hok.fresh (Nat.le_refl _))⟩
 exact ⟨Nat.le_trans (cutV_length xs lo hi) hz,_,0,(r.drop (HT.sIx xs.length 0 lo)).take (HT.sIx xs.length xs.length hi - HT.sIx xs.length 0 lo),Heap.get?_push_size _ rfl⟩
def flatV:V→Bool
 | .non=>true
 | .bl _=>true
 | .int _=>true
 | .str _=>true
 | _=>false
def eqV:V→V→Bool
 | .non,.non=>true
 | .bl a,.bl b=>a == b
 | .bl a,.int b=>(if a then 1 else 0) == b
 | .int a,.bl b=>a == (if b then 1 else 0)
 | .int a,.int b=>a == b
 | .str a,.str b=>a == b
 | _,_=>false
theorem eqAt_V {A:Around} {s:Shared} {y x:V} {u v:Value} (ry:RelV y u) (rx:RelV x v) (fy:flatV y=true) (fx:flatV x=true):SeqAt.EqAt A s u v (eqV y x):=by
 cases y with
 | non=>
  cases ry
  cases x with
  | non=>cases rx; exact SeqAt.EqAt.same _
  | bl b=>cases rx; exact SeqAt.EqAt.none_bool b
  | int b=>obtain ⟨t,rfl⟩:=rx; exact SeqAt.EqAt.none_int b t
  | str b=>obtain ⟨t,rfl⟩:=rx; exact SeqAt.EqAt.none_str b t
  | _=>exact absurd (show false=true from fx) Bool.false_ne_true
 | bl a=>
  cases ry
  cases x with
  | non=>cases rx; exact SeqAt.EqAt.bool_none a
  | bl b=>cases rx; exact SeqAt.EqAt.bool_bool a b
  | int b=>obtain ⟨t,rfl⟩:=rx; exact SeqAt.EqAt.bool_int a b t
  | str b=>obtain ⟨t,rfl⟩:=rx; exact SeqAt.EqAt.bool_str a b t
  | _=>exact absurd (show false=true from fx) Bool.false_ne_true
 | int a=>
  obtain ⟨t',rfl⟩:=ry
  cases x with
  | non=>cases rx; exact SeqAt.EqAt.int_none a t'
  | bl b=>cases rx; exact SeqAt.EqAt.int_bool a t' b
  | int b=>obtain ⟨t,rfl⟩:=rx; exact SeqAt.EqAt.int_int a t' b t
  | str b=>obtain ⟨t,rfl⟩:=rx; exact SeqAt.EqAt.int_str a t' b t
  | _=>exact absurd (show false=true from fx) Bool.false_ne_true
 | str a=>
  obtain ⟨t',rfl⟩:=ry
  cases x with
  | non=>cases rx; exact SeqAt.EqAt.str_none a t'
  | bl b=>cases rx; exact SeqAt.EqAt.str_bool a t' b
  | int b=>obtain ⟨t,rfl⟩:=rx; exact SeqAt.EqAt.str_int a t' b t
  | str b=>obtain ⟨t,rfl⟩:=rx; exact SeqAt.EqAt.str_str a t' b t
  | _=>exact absurd (show false=true from fx) Bool.false_ne_true
 | _=>exact absurd (show false=true from fy) Bool.false_ne_true
def eqU (x:V) (u:Value):Bool:=match u with
 | .none=>eqV .non x
 | .bool b=>eqV (.bl b) x
 | .int i _=>eqV (.int i) x
 | .str z _=>eqV (.str z) x
 | _=>false
theorem eqU_of {x y:V} {u:Value} (r:RelV y u) (f:flatV y=true):eqU x u=eqV y x:=by
 cases y with
 | non=>cases r; rfl
 | bl b=>cases r; rfl
 | int i=>obtain ⟨t,rfl⟩:=r; rfl
 | str z=>obtain ⟨t,rfl⟩:=r; rfl
 | _=>exact absurd (show false=true from f) Bool.false_ne_true
theorem any_eqU {x:V}:∀{xs:List V} {us:List Value},Vals xs us→xs.all flatV=true→us.any (eqU x)=xs.any fun y=>eqV y x
 | _,_,.nil,_=>rfl
 | y :: xs,u :: us,.cons r t,f=>by
  rw [List.all_cons,Bool.and_eq_true] at f
  rw [List.any_cons,List.any_cons,eqU_of r f.1,any_eqU t f.2]
theorem mem_eqAt {A:Around} {s:Shared} {x:V} {v:Value} (rx:RelV x v) (fx:flatV x=true):∀{xs:List V} {us:List Value},Vals xs us→xs.all flatV=true→∀u∈us,SeqAt.EqAt A s u v (eqU x u)
 | _,_,.nil,_=>fun u hu=>by cases hu
 | y :: xs,u :: us,.cons r t,f=>fun u' hu=>by
  rw [List.all_cons,Bool.and_eq_true] at f
  rcases List.mem_cons.mp hu with rfl | hu
  ·rw [eqU_of r f.1]; exact eqAt_V r rx f.1 fx
  ·exact mem_eqAt rx fx t f.2 u' hu
def inV (x:V) (xs:List V):Bool:=xs.any fun y=>eqV y x
def rIn (K:PySem.W.Frag) (neg:Bool):R2:=fun x y H Q=>∃p xs,y = .ref p∧(SqL K H p xs∨SqT K H p xs)∧flatV x=true∧xs.all flatV=true∧Q (.bl (if neg then !inV x xs else inV x xs)) H
theorem op_notIn_seq:OpR X (compareOp .NotIn) (rIn X.K true):=by
 intro pins s σ H x y v u Q I rx ry h
 obtain ⟨p,xs,rfl,hq,fx,fs,q⟩:=h
 cases ry
 rcases hq with hq | hq
 ·obtain ⟨its,r,pl,hz⟩:=I.list hq
  refine SeqAt.notIn_listAt (eqU x) pl.isList (fun w hw=>mem_eqAt rx fx r fs w (by simpa using hw)) ⟨.bl _,H,I,rfl,?_⟩
  rw [show its.toArray.any (eqU x)=its.any (eqU x) by simp,any_eqU r fs]
  exact q
 ·obtain ⟨its,r,pl,hz⟩:=I.tuple hq
  refine SeqAt.notIn_tupleAt (eqU x) pl (fun w hw=>mem_eqAt rx fx r fs w (by simpa using hw)) ⟨.bl _,H,I,rfl,?_⟩
  rw [show its.toArray.any (eqU x)=its.any (eqU x) by simp,any_eqU r fs]
  exact q
theorem call_len_seq:CallR X (.builtin "len") (fun xs H Q=>∃p ys,xs=[.ref p]∧(SqL X.K H p ys∨SqT X.K H p ys)∧Q (.int ys.length) H):=by
 intro pins s σ H xs us Q I r h
 obtain ⟨p,ys,rfl,hq,q⟩:=h
 obtain ⟨u,rfl,rx⟩:=vals1 r
 cases rx
 have hn:=line63
 rcases hq with hq | hq
 ·obtain ⟨its,r',pl,hz⟩:=I.list hq
  have hlen:=r'.length
  exact Calls.call_len_list pl.isList (by simp only [List.size_toArray] <;> omega) ⟨.int ys.length,H,I.tok _,⟨s.toks + 1,by rw [List.size_toArray,hlen]⟩,q⟩
 ·obtain ⟨its,r',pl,hz⟩:=I.tuple hq
  have hlen:=r'.length
  exact len_tuple pl (by simp only [List.size_toArray] <;> omega) ⟨.int ys.length,H,I.tok _,⟨s.toks + 1,by rw [List.size_toArray,hlen]⟩,q⟩
theorem call_len_str:CallR X (.builtin "len") (fun xs H Q=>∃z,xs=[.str z]∧z.length≤sizeLine∧Q (.int z.length) H):=by
 intro pins s σ H xs us Q I r h
 obtain ⟨z,rfl,hz,q⟩:=h
 obtain ⟨u,rfl,t,rfl⟩:=vals1 r
 have hn:=line63
 exact len_str (by omega) ⟨.int z.length,H,I.tok _,⟨_,rfl⟩,q⟩
theorem call_list_of:CallR X (.type "list") (fun xs H Q=>∃p ys,xs=[.ref p]∧(SqL X.K H p ys∨SqT X.K H p ys)∧∀l,H l=none→Q (.ref l) (upd H l (.lst ys))):=by
 intro pins s σ H xs us Q I r h
 obtain ⟨p,ys,rfl,hq,q⟩:=h
 obtain ⟨u,rfl,rx⟩:=vals1 r
 cases rx
 have fin:∀(its:List Value),Vals ys its→ys.length≤sizeLine→∀(h':Heap) (c':Nat),(∀b o',s.heap.get? b=some o'→h'.get? b=some o')→
   h'.get? s.heap.objs.size=some {cls:=.type "list",dict:=none,data:=.seq its.toArray c',slots:=#[]}→EP X pins σ Q (.ref s.heap.objs.size) {s with heap:=h'}:=fun its r' hz h' c' kp e=>
  ⟨.ref s.heap.objs.size,_,I.laid (t':=s.toks) kp (Nat.le_refl _) (show ObjOk X.prog X.w _ h' _ (.lst ys) from ⟨hz,its,c',r',e⟩),rfl,q _ (I.hok.fresh (Nat.le_refl _))⟩
 rcases hq with hq | hq
 ·obtain ⟨its,r',pl,hz⟩:=I.list hq
  have hlen:=r'.length
  obtain ⟨o,ho,hc,n,hd⟩:=pl.isList
  exact call_list_seq p (.inl rfl) ho hc hd (fun h' c' kp e=>fin its r' hz h' c' kp e) (by simp only [List.size_toArray] <;> omega)
 ·obtain ⟨its,r',pl,hz⟩:=I.tuple hq
  have hlen:=r'.length
  obtain ⟨o,ho,hc,n,hd⟩:=pl
  exact call_list_seq p (.inr rfl) ho hc hd (fun h' c' kp e=>fin its r' hz h' c' kp e) (by simp only [List.size_toArray] <;> omega)
def tyV (K:PySem.W.Frag) (T:String) (x:V) (H:Hp):Prop:=match x with
 | .str _=>T = "str"
 | .int _=>T = "int"
 | .ref p=>(T = "list"∧∃xs,SqL K H p xs)∨(T = "tuple"∧∃o,K.lookup p=some o∧o.cls = .type "tuple"∧o.dict=none)∨
   (T = "dict"∧((∃kvs,H p=some (.dK kvs))∨∃kvs,H p=some (.dT kvs)))∨(T = "set"∧∃S n,H p=some (.set S n))
 | _=>False
theorem tyV_is {pins:List (Addr × Obj)} {σ:St} {H:Hp} {s:Shared} {T:String} {x:V} {v:Value} (I:Inv X pins σ H s) (r:RelV x v) (ty:tyV X.K T x H) :
  s.TypeIs v T∧∀a,v = .ref a→∃ob,s.heap.get? a=some ob∧ob.dict=none:=by
 cases x with
 | str z=>
  obtain ⟨t,rfl⟩:=r
  cases (show T = "str" from ty)
  exact ⟨typeIs_str s z t,fun _ e=>nomatch e⟩
 | int i=>
  obtain ⟨t,rfl⟩:=r
  cases (show T = "int" from ty)
  exact ⟨typeIs_int s i t,fun _ e=>nomatch e⟩
 | ref p=>
  cases r
  rcases ty with ⟨rfl,xs,hq⟩ | ⟨rfl,o,hk,hc,hd⟩ | ⟨rfl,hk⟩ | ⟨rfl,S,n,hk⟩
  ·obtain ⟨its,_,pl,_⟩:=I.list hq
   refine ⟨pl.isList.typeIs,fun a e=>?_⟩
   cases e
   obtain ⟨o,n,e,c,hd,_⟩:=pl
   exact ⟨o,e,hd⟩
  ·refine ⟨⟨o,I.kIn p o hk,hc⟩,fun a e=>?_⟩
   cases e
   exact ⟨o,I.kIn _ o hk,hd⟩
  ·have z:∃o,s.heap.get? p=some o∧o.ExactDict:=by
    rcases hk with ⟨kvs,hk⟩ | ⟨kvs,hk⟩
    ·obtain ⟨_,_,_,_,o,_,_,e,ex,_⟩:=I.hok p _ hk
     exact ⟨o,e,ex⟩
    ·obtain ⟨_,_,_,_,o,_,_,e,ex,_⟩:=I.hok p _ hk
     exact ⟨o,e,ex⟩
   obtain ⟨o,e,ex⟩:=z
   refine ⟨⟨o,e,ex.1⟩,fun a e2=>?_⟩
   cases e2
   exact ⟨o,e,ex.2.1⟩
  ·obtain ⟨o,_,_,_,e,ex,_⟩:=I.hok p _ hk
   refine ⟨⟨o,e,ex.1⟩,fun a e2=>?_⟩
   cases e2
   exact ⟨o,e,ex.2.1⟩
 | _=>exact False.elim ty
def tBM (K:PySem.W.Frag) (T:String) (r:V→List V→Hp→VK→Prop) (to:TE) (t:TA):TE:=fun σ H Q=>to σ H fun x H1=>tyV K T x H1∧t σ H1 fun xs H2=>r x xs H2 Q
variable {o e:Expr} {es:List Expr} {to:TE} {t:TA} {name:Str} {apos cpos:Pos} {T id:String} {r:V→List V→Hp→VK→Prop}
theorem pe_bm (pa:PlainAttrs T) (slot:Slot T name id) (hty:typeOf (.builtin id)=pure (.type "method_descriptor")) (hm:MtR X id r) (ho:PE X o to) (ha:PA X (e :: es) t)
  (hbase:attributeBase o name X.env (eval o X.env)=eval o X.env:=by rfl)
  (hfew:((backTo cpos (starEach (e :: es) X.env)).all (fun x=>!x.1) && (backToKw cpos (keywordEach [] X.env)).all (fun x=>x.1.isSome)
   && decide ((e :: es).length + ([]:List Keyword).length + (if ([]:List Keyword).isEmpty then 0 else 1) < 30))=true:=by rfl)
  (hline:(apos.endLine == cpos.line)=true:=by rfl) (hs:starEach (e :: es) X.env=(false,eval e X.env) :: starEach es X.env:=by rfl) (hplain:(backTo cpos (starEach es X.env)).any (·.1)=false:=by rfl) :
  PE X (.Call (.Attribute o name apos) (e :: es) [] cpos) (tBM X.K T r to t):=by
 intro pins s σ H Q I h
 refine wpAny_Call_method_late hbase hfew hline rfl (thn (ho pins s σ H _ I h) fun v s1 ⟨x,H1,I1,r1,ty,q1⟩=>?_)
 obtain ⟨h1,h2⟩:=tyV_is I1 r1 ty
 refine ⟨T,id,pa,slot,hty,h1,h2,?_⟩
 have hA:=ha cpos pins s1 σ H1 _ I1 q1
 rw [hs] at hA ⊢
 refine Calls.callWith_builtin (by show (false || (backTo cpos (starEach es X.env)).any (·.1))=false; rw [hplain] <;> rfl) (Calls.evalArgs_plain ?_)
 exact thn hA fun us s2 ⟨vs,H2,I2,r2,q2⟩=>hm pins s2 σ H2 x vs v us Q I2 r1 r2 q2
/- xs.append(e),list.index on a module's tuple .. are MtR facts of 06m -/
end
def MtM (X:Cx) (id:String) (r:V→List V→Hp→VK→Prop):Prop:=
 ∀(pins:List (Addr × Obj)) (s:Shared) (σ:St) (H:Hp) (x:V) (xs:List V) (v:Value) (us:List Value) (Q:VK),Inv X pins σ H s→RelV x v→Vals xs us→r x xs H Q→
  wpAny (model X.prog X.w) X.A (call (.builtin id) (v :: us)) (EP X pins σ Q) X.xe s
theorem Vals.one:∀{x:V} {us:List Value},Vals [x] us→∃u,us=[u]∧RelV x u
 | _,_,.cons r .nil=>⟨_,rfl,r⟩
theorem Vals.reverse {xs:List V} {us:List Value} (h:Vals xs us):Vals xs.reverse us.reverse:=by
 induction h with
 | nil=>exact .nil
 | cons r t ih=>rw [List.reverse_cons,List.reverse_cons]; exact Vals.append ih (.cons r .nil)
section
variable {X:Cx} {pins:List (Addr × Obj)} {σ:St} {H:Hp} {s:Shared} {l b:Addr} {xs ys zs:List V}
theorem Inv.lset {its its':List Value} {n:Nat} {f:Array Value→Array Value} {t':Nat} (I:Inv X pins σ H s) (hH:H l=some (.lst xs))
  (e:s.heap.get? l=some {cls:=.type "list",data:=.seq its.toArray n}) (hf:f its.toArray=its'.toArray) (hv:Vals ys its') (hz:ys.length≤sizeLine) :
  Inv X pins σ (upd H l (.lst ys)) {s with heap:=s.heap.update l (Obj.mapSeq f),toks:=t'}:=by
 have q:=PySem.IsL.update e f
 rw [hf] at q
 refine I.write (x:=l) (e:=l) (by rw [hH]; exact trivial) (.inl rfl) (fun b' u hb hu=>(Heap.get?_update_other s.heap (Obj.mapSeq f) (Ne.symm hb)).trans hu) ⟨_,q⟩ ?_
 exact ⟨hz,its',_,hv,q⟩
theorem Inv.lnew {its:List Value} {t':Nat} (I:Inv X pins σ H s) (hv:Vals ys its) (hz:ys.length≤sizeLine) :
  Inv X pins σ (upd H s.heap.objs.size (.lst ys)) {s with heap:=s.heap.push {cls:=.type "list",data:=.seq its.toArray},toks:=t'}:=
 I.laid (fun _ _ q=>Heap.get?_push_of_some _ q) (Nat.le_refl _) ⟨hz,its,0,hv,Heap.get?_push_size _ rfl⟩
theorem Inv.fresh (I:Inv X pins σ H s):H s.heap.objs.size=none:=I.hok.fresh (Nat.le_refl _)
theorem Inv.lstM (I:Inv X pins σ H s) (hH:H l=some (.lst xs)):xs.length≤sizeLine∧∃(its:List Value) (n:Nat),Vals xs its∧xs.length=its.length∧s.heap.get? l=some {cls:=.type "list",data:=.seq its.toArray n}:=by
 obtain ⟨z,its,n,r,e⟩:=I.hok l _ hH
 exact ⟨z,its,n,r,r.length,e⟩
end
section
variable {X:Cx}
def rAppend:V→List V→Hp→VK→Prop:=fun x vs H Q=>∃l xs y,x = .ref l∧vs=[y]∧H l=some (.lst xs)∧xs.length < sizeLine∧Q .non (upd H l (.lst (xs ++ [y])))
theorem mt_append:MtM X "list.append" rAppend:=by
 intro pins s σ H x vs v us Q I rx rv h
 obtain ⟨l,xs,y,rfl,rfl,hH,hz,q⟩:=h
 cases rx
 obtain ⟨u,rfl,ru⟩:=rv.one
 obtain ⟨z,its,n,r,hl,e⟩:=I.lstM hH
 refine call_meets F.slot_list_append ⟨_,e,rfl⟩ F.entry_list_append (F.args_list_append_2 _ _) (PySem.list_append l its.toArray n u (by rw [List.size_toArray]; omega)) ⟨e,?_⟩
 refine ⟨.non,_,I.lset (its':=its ++ [u]) hH e (by simp) (r.append (.cons ru .nil)) ?_,rfl,q⟩
 rw [List.length_append,List.length_singleton]
 omega
def rCat:R2:=fun x y H Q=>∃l b xs zs,x = .ref l∧y = .ref b∧H l=some (.lst xs)∧H b=some (.lst zs)∧xs.length + zs.length≤sizeLine∧∀p,H p=none→Q (.ref p) (upd H p (.lst (xs ++ zs)))
theorem op_cat:OpR X (binaryOp .Add) rCat:=by
 intro pins s σ H x y v u Q I rx ry h
 obtain ⟨l,b,xs,zs,rfl,rfl,hH,hB,hz,q⟩:=h
 cases rx
 cases ry
 obtain ⟨z,its,n,r,hl,e⟩:=I.lstM hH
 obtain ⟨z2,its2,n2,r2,hl2,e2⟩:=I.lstM hB
 refine PySem.P.add_list e e2 ?_ (by rw [List.size_toArray,List.size_toArray]; omega)
 have ea:its.toArray ++ its2.toArray=(its ++ its2).toArray:=by simp
 rw [ea]
 exact ⟨.ref _,_,I.lnew (t':=s.toks) (r.append r2) (by rw [List.length_append]; omega),rfl,q _ I.fresh⟩
end
section
variable {prog:Program} {w:World} {A:Around} {E:Value→Shared→Prop} {s:Shared}
set_option maxRecDepth 100000 in
end
section
variable {X:Cx}
end
end L2
namespace Att
open PySem PySem.W PySem.Calls PyProof.Rows
theorem ints_of_wellAll {P:Params} {h:Heap}:∀(ns:List Int) (vs:List Value),WellAll P h vs (ns.map WData.int)→IntsAre vs ns:=by
 intro ns
 induction ns with
 | nil=>
  intro vs w
  rw [List.map_nil] at w
  cases w
  exact .nil
 | cons n ns ih=>
  intro vs w
  rw [List.map_cons] at w
  cases w with
  | cons a b=>
   cases a
   exact .cons _ _ (ih _ b)
theorem script_of {l:OpenLaw} {n:Nat} (hn:l.most=some n) {P:Params} {h:Heap} {args:List WData} {vals:List Value}
  (hpre:l.row.toRowW.claim.pre args=true) (hwl:WellAll P h vals args) :
  ∃a vs ns,vals=[Value.ref a]∧args=[WData.list (ns.map WData.int)]∧h.get? a=some {cls:=.type "list",data:=.seq vs.toArray}∧IntsAre vs ns∧ns.length≤n:=by
 have hsh:WShape.hasAll [] args [.list .int]=true:=(pre_splitW hpre).1
 have hc:l.pre.holds [] {args:=args}=true:=(pre_splitW hpre).2
 obtain ⟨d,r,rfl,h1,h2⟩:=hasAllW_cons hsh
 obtain rfl:=hasAllW_nil h2
 obtain ⟨xs,rfl,h3⟩:=hasW_list h1
 obtain ⟨ns,rfl⟩:=items_int h3
 have hlen:ns.length≤n:=by
  unfold OpenLaw.pre at hc
  have h4:(WTm.not (.lt (.lit (.int (n:Int))) (.len (.arg 0)))).holds [] {args:=[.list (ns.map .int)]}=true:=by
   have h4:=(holds_andW hc).1
   rw [hn] at h4
   exact h4
  have h5:=condW_of h4 (w_not (w_lt w_lit (w_len_list (w_arg rfl))))
  rw [List.length_map] at h5
  refine Nat.le_of_not_lt fun q=>?_
  have q':(n:Int) < ((ns.length:Nat):Int):=by omega
  first
   | (rw [decide_eq_true q'] at h5; exact absurd h5 (by decide))
   | (simp at h5; omega)
 cases hwl with
 | cons w1 w2=>
  cases w2
  cases w1 with
  | list ho hall=>exact ⟨_,_,ns,rfl,rfl,ho,ints_of_wellAll ns _ hall,hlen⟩
theorem post_true (l:OpenLaw) (args:List WData):l.row.toRowW.claim.post args (.bool true) args=true:=
 postW_of (r:=l.row.toRowW) (X:=(true == true))
  (show WShape.has [] (.bool true) .bool=true by first | rfl | decide | simp [WShape.has,WShape.arms,WShape.armsAll])
  (show (WTm.eq .res (.lit (.bool true))).value [] {args:=args,res:=some (.bool true),after:=args}=some (.bool (true == true)) from w_eq_bool (w_res rfl) w_lit) rfl
theorem attach_call {l:OpenLaw} {n:Nat} {q:Program} {loose:List Str} {XP:(Str→Option Value)→Heap→Prop} {YP:World→Heap→Prop} {d:DefRec}
  (hn:l.most=some n) (hdf:d.params.defaults=[])
  (call:∀(w:World) (s₀ s₁:Shared) (mg mb:Str→Option Value) (fa:Addr) (o:Obj) (pm cd doc:Value) (a:Addr) (vs:List Value) (ns:List Int),
   Ground q loose [] XP w s₀ mg mb s₁.heap→YP w s₁.heap→
   s₁.heap.get? fa=some o→o.data = .func (docDef d.name d.params d.body d.scope pm cd doc)→s₁.heap.CodeRec cd d.name→mg d.name=some (.ref fa)→
   s₁.heap.get? a=some {cls:=.type "list",data:=.seq vs.toArray}→IntsAre vs ns→ns.length≤n→s₁.gens = #[]→
   codeAny (model l.prog w) callerA (.call (.ref fa) ⟨[.ref a],[]⟩) (fun r s'=>r = .ok (.ret (.bool true))∧OldK s₁.heap s'.heap∧s'.os=s₁.os∧AllBare s'.gens) s₁) :
  WalkO q loose XP YP l.row.toRowW d [] (fun f vs=>PySem.call f vs):=by
 intro w s₀ s₁ mg mb G Y fa o pm cd doc dV kV ho hd hcd hD hmg hg args vals as hpre hlay hrd hwl hlo
 obtain rfl:dV = .none:=Dflts.none hD hdf
 obtain rfl:kV = .none:=Dflts.noKw hD
 obtain ⟨a,vs,ns,rfl,rfl,hobj,hints,hlen⟩:=script_of hn hpre hwl
 refine enter_call (codeAny_mono (call w s₀ s₁ mg mb fa o pm cd doc a vs ns G Y ho (fd_plain hd) hcd hmg hobj hints hlen hg) fun r s' hq=>?_)
 obtain ⟨rfl,h2,h3,h4⟩:=hq
 exact ⟨.inl ⟨.bool true,.bool true,[],rfl,fun _=>rfl,.bool true,post_true l _,fun _=>⟨List.Pairwise.nil,fun _ hm=>(nomatch hm)⟩⟩,h2,h3,h4⟩
section
variable {prog:Program} {w:World} {A:Around} {E:Value→Shared→Prop} {s:Shared} {K:Frag}
end
end Att
namespace L2
open PySem PySem.Spec PyProof.Rows
theorem vals_ints:∀{vs:List Value} {ns:List Int},IntsAre vs ns→Vals (ns.map V.int) vs
 | _,_,.nil=>.nil
 | _,_,.cons n t h=>.cons ⟨t,rfl⟩ (vals_ints h)
end L2
/- THE LAST THEOREM (shape; LID,My.* are yours):
   My.Adr: a structure of the addresses that your layer names (classes,functions); My.Txt K t: a structure (Prop) of the equations over K;
   My.txt_mk:{K} {implicit addresses ..} (e1:nsIn K mainGlobals "law" = some (some (.ref f))) (e2:K.lookup f=some ⟨oc,od,.func (fnOf "law" "law" params body scope dV kV doc pm an cdv ct),sl⟩) (e3:codeIn K cdv "law" = true) ..:∃t,My.Txt K t
set_option maxRecDepth 100000 in
set_option maxHeartbeats 0 in
theorem PySem.Challenge.cw_LID_holds : PySem.Challenge.rw_LID.Holds := by
 w_on; o_law; k_head; (case hw=>w_witness2)
 k_fill
 refine L2.walk_of (l:=PySem.Challenge.rw_LID) (n:=63) (k:=40) (x:="script") (CX:=fun w=>..) (sp:=fun _=>My.sp_law) rfl (by decide) rfl ⟨rfl,by decide,by decide⟩ (fun w h Y=>PySem.W.kIn_of Y) ?F ?S ?C
 case F=>
  intro w mg fa h KX G hmg
  have T:∃t,My.Txt (L2.KOf KX) t:=by
   dsimp only [L2.KOf]                          -- K must stand as «<heap const> w.params» for k_is
   refine' My.txt_mk ?e1 ?e2 ?e3 ..
   (case e1=>PySem.W.k_is)                    -- in the order: a name -> its address -> its object -> its parts
   (case e2=>PySem.W.k_is)
   ..
  obtain ⟨t,T⟩:=T
  have e0:=hmg.symm.trans (PySem.W.mg_of KX G T.law)
  cases e0                                       -- fa is the law's own address
  exact ⟨_,fun s u=>.of_eq rfl,fun base kb nb=>My.law_fn T kb nb⟩     -- if «.of_eq rfl» comes too early: refine' ⟨_,?b,fun base kb nb=>My.law_fn T kb nb⟩; exact fun s u=>.of_eq rfl
 case S=>exact fun w H a ns hl hO hS=>..
 case C=>exact ..
(the tactic k_is has no namespace: write k_is) -/
namespace L2
open PySem PySem.Spec PyProof.Rows
def defArgs (s:Stmt):Arguments:=match s with
 | .FunctionDef _ a _ _ _ _ _ _ _ _=>a
 | _=>{posonlyargs:=[],args:=[],vararg:=none,kwonlyargs:=[],kw_defaults:=[],kwarg:=none,defaults:=[]}
def defBody (s:Stmt):List Stmt:=match s with
 | .FunctionDef _ _ b _ _ _ _ _ _ _=>b
 | _=>[]
def defScope (s:Stmt):Scope:=match s with
 | .FunctionDef _ _ _ _ _ _ sc _ _ _=>sc
 | _=>{kind:=.function,names:=[],isGenerator:=false,isCoroutine:=false}
abbrev E0:XK:=fun _ _ _=>False
section
variable {P:Program} {w:World} {K:PySem.W.Frag} {mg:Str→Option Value} {base:Heap}
end
section
variable {X:Cx}
theorem pv (i:Nat) {x:Str} {pos:Pos} (hN:X.N[i]? = some x:=by rfl) (hv:Vis X.env.scope x:=by first | exact Or.inl rfl | exact Or.inr (Or.inl rfl) | exact Or.inr (Or.inr rfl)) (hd:(x == ("__debug__" : Str))=false:=by decide)
  (hcd:(x == ("__classdict__" : Str))=false:=by decide):PE X (.Name x pos) (tVar i):=pe_var hN hv hd hcd
end
theorem iteF {A B:Prop} (h:B):if false=true then A else B:=by
 rw [if_neg Bool.false_ne_true]
 exact h
theorem iteT {A B:Prop} (h:A):if true=true then A else B:=by
 rw [if_pos rfl]
 exact h
theorem ite2 {c A B:Prop} [Decidable c] (h1:c→A) (h2:¬c→B):if c then A else B:=by
 by_cases h:c
 ·rw [if_pos h]
  exact h1 h
 ·rw [if_neg h]
  exact h2 h
def Same (H H':Hp):Prop:=∀b o,H b=some o→H' b=some o
theorem Same.refl (H:Hp):Same H H:=fun _ _ h=>h
theorem Same.trans {H H1 H2:Hp} (a:Same H H1) (b:Same H1 H2):Same H H2:=fun c o h=>b c o (a c o h)
theorem Inv.turned2 {X:Cx} {pins:List (Addr × Obj)} {σ:St} {H:Hp} {s:Shared} {h':Heap} {t':Nat} {e it:Addr} (I:Inv X pins σ H s)
  (k:∀b o,b≠e→b≠it→s.heap.get? b=some o→h'.get? b=some o) (fe:FpOk X pins H e) (fi:FpOk X pins H it):Inv X pins σ H {s with heap:=h',toks:=t'}:=by
 have nit:∀b u,H b=some u→b≠e∧b≠it:=fun b u q=>⟨(fun z=>by rw [z,fe.1] at q; cases q),(fun z=>by rw [z,fi.1] at q; cases q)⟩
 have out:∀b,b∉[e,it]→b≠e∧b≠it:=fun b hb=>⟨fun z=>hb (by simp [z]),fun z=>hb (by simp [z])⟩
 refine I.step (g':=s.gens) (d':=s.drawn) (ch:=[e,it]) (fun b hb=>?_) (fun b o _ _ hc q _=>k b o (out b hc).1 (out b hc).2 q) (fun b o _ _ hc q _=>⟨o.slots,k b o (out b hc).1 (out b hc).2 q⟩) (fun _ _ _ _ n=>n)
  (fun b o hc q=>⟨o,k b o (out b hc).1 (out b hc).2 q⟩) (fun _ _ q=>q) (fun _ _ _ q=>q) (fun b ps q=>⟨#[],by rw [q]; simp⟩) (fun m hm=>?_) (fun b u q=>?_) I.bare
 ·rcases List.mem_cons.mp hb with z | hb
  ·rw [z]; exact ⟨fe.2.2.2.1,fe.2.1,fe.2.2.2.2.1,fe.2.2.2.2.2⟩
  ·have z:b=it:=by simpa using hb
   rw [z]; exact ⟨fi.2.2.2.1,fi.2.1,fi.2.2.2.2.1,fi.2.2.2.2.2⟩
 ·obtain ⟨o,es,ep,ho,r⟩:=hm
  exact ⟨o,es,ep,k _ o (Ne.symm fe.2.1) (Ne.symm fi.2.1) ho,r⟩
 ·refine (I.hok b u q).stay (fun c v hc r=>?_) (fun _ r=>r) fun _ _ r=>r
  rcases hc with z | z
  ·rw [z] at r ⊢; exact k b v (nit b u q).1 (nit b u q).2 r
  ·exact k c v (nit c _ z).1 (nit c _ z).2 r
def Ite (K:PySem.W.Frag) (a:Addr):It:=
  ⟨fun i H=>∃xs x,SqL K H a xs∧xs[i]? = some x,fun i H x H'=>∃t y,H t=none∧x = .ref t∧(∀xs,SqL K H a xs→xs[i]? = some y)∧H'=upd H t (.tup [.int i,y]),
   fun i H=>∃xs,SqL K H a xs∧xs.length≤i⟩
theorem turn_enum {P:Program} {w:World} {K:PySem.W.Frag} {es:List Expr} {k:Nat} {pos:Pos} (a e it:Addr) (hne:e≠it) :
  Turn P w K (.Tuple es k pos) (Ite K a) [e,it] e (fun i h=>(∃old,IsEnum h e it i old)∧h.IsListIter it a i) where
 mem:=by simp
 obj:=fun i h st b hb=>by
  obtain ⟨⟨old,he⟩,o,e1,c,d⟩:=st
  rcases List.mem_cons.mp hb with z | hb
  ·rw [z]; exact ⟨_,he,fun v z=>by have z':Data.fields _=Data.cell v:=z; cases z'⟩
  ·have z:b=it:=by simpa using hb
   rw [z]; exact ⟨o,e1,fun v z=>by rw [d] at z; cases z⟩
 keep:=fun i h h' st kk=>by
  obtain ⟨⟨old,he⟩,st⟩:=st
  exact ⟨⟨old,kk e (by simp) _ he⟩,st.at fun o q=>kk it (by simp) o q⟩
 item:=by
  intro X hP hw hK hc i pins s σ H E I hf st hg
  subst hP hw hK
  obtain ⟨xs,x,hq,hx⟩:=hg
  obtain ⟨its,rv,p,hz⟩:=I.list hq
  obtain ⟨u,hu,ru⟩:=rv.get hx
  have fe:=hf e (by simp)
  have fi:=hf it (by simp)
  obtain ⟨⟨old,he⟩,hit⟩:=st
  refine wpAny_pyNext_enum_item he hit p.isList (x:=u) (by simpa using hu) hne fun h1 eo it1 tp sz kk=>?_
  refine ⟨_,rfl,wpAny_letOwnedTupleGo_enum (s:={s with heap:=h1,toks:=s.toks + 1}) eo fun h2 e2 sb2=>?_⟩
  have hfr:=I.hok.fresh (Nat.le_refl s.heap.objs.size)
  have I1:Inv X pins σ (upd H s.heap.objs.size (.tup [.int i,x])) {s with heap:=s.heap.push {cls:=.type "tuple",data:=.seq #[.int i s.toks,u]},toks:=s.toks}:=
   I.laid (o:=.tup [.int i,x]) (fun b o q=>Heap.get?_push_of_some _ q) (Nat.le_refl _) ⟨by show 2≤sizeLine; decide,[.int i s.toks,u],.cons ⟨_,rfl⟩ (.cons ru .nil),IsTup.new _ _⟩
  have lt1:e < s.heap.objs.size:=Heap.lt_size he
  have lt2:it < s.heap.objs.size:=by obtain ⟨o,q,_⟩:=id hit; exact Heap.lt_size q
  have up:∀{b:Addr},FpOk X pins H b→b < s.heap.objs.size→FpOk X pins (upd H s.heap.objs.size (.tup [.int i,x])) b:=fun f l=>⟨by rw [upd_ne (Nat.ne_of_lt l)]; exact f.1,f.2⟩
  have I2:=I1.turned2 (h':=h2) (t':=s.toks + 1) (fun b o n1 n2 q=>?_) (up fe lt1) (up fi lt2)
  ·refine ⟨.ref s.heap.objs.size,_,I2,rfl,⟨_,x,hfr,rfl,fun ys hy=>by rw [I.list_inj hy hq]; exact hx,rfl⟩,⟨⟨u,?_⟩,it1.extBut sb2.extBut (Ne.symm hne)⟩,fun b hb=>?_⟩
   ·have e3:((i + 1:Nat):Int)=(i:Int) + 1:=by push_cast; rfl
    rw [e3]; exact e2
   ·rcases List.mem_cons.mp hb with z | hb
    ·rw [z]; exact (up fe lt1).1
    ·have z:b=it:=by simpa using hb
     rw [z]; exact (up fi lt2).1
  ·have q1:(s.heap.push {cls:=.type "tuple",data:=.seq #[.int i s.toks,u]}).get? b=some o:=q
   refine sb2.extBut b o n1 ?_
   by_cases hb:b=s.heap.objs.size
   ·subst hb
    rw [Heap.get?_push_size _ rfl] at q1
    cases q1
    exact tp
   ·refine kk b o n1 n2 ?_
    rw [← q1]
    exact (Heap.get?_push_ne s.heap b _ hb).symm
 done:=by
  intro X hP hw hK hc i pins s σ H E I hf st hg
  subst hP hw hK
  obtain ⟨xs,hq,hx⟩:=hg
  obtain ⟨its,rv,p,hz⟩:=I.list hq
  obtain ⟨⟨old,he⟩,hit⟩:=st
  obtain ⟨f0,f1,f2,f3,f4,f5⟩:=hf it (by simp)
  have hl:=rv.length
  exact wpAny_pyNext_enum_end (I.ok.hd hc) he hit p.isList (by simp; omega) fun h' eb=>⟨rfl,I.turned (t':=s.toks) (fun b o hb q=>eb b o hb q) f0 f1 f3 f4 f5⟩
 self:=fun _ _ _ _ _ st h=>by
  obtain ⟨⟨old,he⟩,_⟩:=st
  exact wpAny_pyIter_enum he h
section
variable {X:Cx} {es:List Expr} {tk:Nat} {tpos:Pos}
def iEnum (K:PySem.W.Frag) (ta:TA):TI:=fun σ H R=>ta σ H fun vs H1=>∃a,vs=[.ref a]∧(∃xs,SqL K H1 a xs)∧R (Ite K a) H1
theorem pi_enum {l:Expr} {ta:TA} {p pos:Pos} (hg:Gl X "enumerate") (hm:X.mg "enumerate" = none) (ha:PA X [l] ta) (hs:starEach [l] X.env=[(false,eval l X.env)]:=by rfl) :
  PI X (.Tuple es tk tpos) (.Call (.Name "enumerate" p) [l] [] pos) (iEnum X.K ta):=by
 intro pins s σ H R I h
 refine Call_ (ld_blt I hg hm PyProof.Rows.boot_enumerate (PyProof.Rows.callWith_type1 (thn (ha pos pins s σ H _ I h) fun us s1 ⟨vs,H1,I1,r1,q1⟩=>?_) hs rfl))
 obtain ⟨a,e,⟨xs,hq⟩,q⟩:=q1
 subst e
 cases r1 with
 | cons r rr=>
  cases rr
  cases r
  obtain ⟨its,rv,pl,hz⟩:=I1.list hq
  refine call_enumerate_list pl.isList fun h' he hit hsz kk=>wpAny_pyIter_enum he ?_
  refine ⟨_,[s1.heap.objs.size + 1,s1.heap.objs.size],_,_,H1,rfl,I1.kept (t':=s1.toks) kk,turn_enum a _ _ (Nat.succ_ne_self _),⟨⟨_,he⟩,hit⟩,fun b hb=>?_,q⟩
  rcases List.mem_cons.mp hb with z | hb
  ·rw [z]; exact I1.fpOk (Nat.le_succ _) (I1.hok.fresh (Nat.le_succ _))
  ·have z:b=s1.heap.objs.size:=by simpa using hb
   rw [z]; exact I1.fpOk (Nat.le_refl _) (I1.hok.fresh (Nat.le_refl _))
end
theorem for_enum {K:PySem.W.Frag} {a:Addr} {xs:List V} {g:TG} {tb:TS} {D:Ends} {σ:St} {H:Hp} (Pv:Nat→St→Hp→Prop) (h0:Pv 0 σ H) (hl:∀i σ H,i≤xs.length→Pv i σ H→SqL K H a xs)
  (hs:∀i x t σ H,xs[i]? = some x→Pv i σ H→H t=none→g (.ref t) σ (upd H t (.tup [.int i,x])) fun σ2 H2=>tb {D with nx:=Pv (i + 1),ct:=Pv (i + 1),bk:=D.nx} σ2 H2) (hd:∀σ H,Pv xs.length σ H→D.nx σ H) :
  ∃W:Nat→Nat→St→Hp→Prop,(∃m,W 0 m σ H)∧∀i m σ H,W i m σ H→
   ((Ite K a).stop i H∧D.nx σ H)∨((Ite K a).go i H∧∃N:St→Hp→Prop,(∀σ' H',N σ' H'→∃m',m' < m∧W (i + 1) m' σ' H')∧∀x H',(Ite K a).yld i H x H'→g x σ H' fun σ2 H2=>tb {D with nx:=N,ct:=N,bk:=D.nx} σ2 H2):=by
 refine ⟨fun i m σ H=>m=xs.length - i∧i≤xs.length∧Pv i σ H,⟨xs.length,by simp,Nat.zero_le _,h0⟩,?_⟩
 rintro i m σ H ⟨rfl,hi,p⟩
 have q:=hl i σ H hi p
 by_cases hlt:i < xs.length
 ·refine .inr ⟨⟨xs,xs[i],q,by simp [hlt]⟩,Pv (i + 1),fun σ' H' p'=>⟨xs.length - (i + 1),by omega,rfl,hlt,p'⟩,fun x H' y=>?_⟩
  obtain ⟨t,y,n,e1,e2,e3⟩:=y
  subst e1 e3
  exact hs i y t σ _ (e2 xs q) p n
 ·have e:i=xs.length:=by omega
  subst e
  exact .inl ⟨⟨xs,q,Nat.le_refl _⟩,hd σ H p⟩
def big:Nat:=2 ^ 4000
theorem big_log {n:Nat} (h:n < big):n.log2 < 4000:=by
 by_cases h0:n=0
 ·rw [h0]; decide +kernel
 ·exact (Nat.log2_lt h0).mpr h
section
variable {X:Cx}
theorem op_fdivB:OpR X (binaryOp .FloorDiv) (rI (fun _ j=>j≠0∧j.natAbs < big) fun i j=>.int (i.fdiv j)):=opI fun _ _ _ _ _ _ _ hc q=>floordiv_int hc.1 q (.inl (PyProof.noPylong_of_log2 (Nat.lt_trans (big_log hc.2) (by decide))))
theorem op_fdivP:OpR X (binaryOp .FloorDiv) (rI (fun _ j=>0 < j∧j.natAbs < big) fun i j=>.int (i / j)):=opI fun i j _ _ _ _ _ hc q=>by
 have h1:(0:Int) < j:=hc.1
 exact floordiv_int (by omega) (by rw [Int.fdiv_eq_ediv_of_nonneg i (by omega)]; exact q) (.inl (PyProof.noPylong_of_log2 (Nat.lt_trans (big_log hc.2) (by decide))))
theorem bits_lt {k:Int} (h:k.natAbs < big):Builtin.Int.intBits k≤4000:=by
 unfold Builtin.Int.intBits
 split
 ·exact Nat.zero_le _
 ·have:=big_log h
  omega
theorem mul_ok {i j:Int} (hi:i.natAbs < big) (hj:j.natAbs < big):IntMulOk i j:=by
 have h1:=bits_lt hi
 have h2:=bits_lt hj
 have h4:8000≤bitsLine:=by decide +kernel
 have h3:Builtin.Int.intTooBig (Builtin.Int.intBits i + Builtin.Int.intBits j)=false:=by
  unfold Builtin.Int.intTooBig
  generalize Builtin.Int.intBits i=a at *
  generalize Builtin.Int.intBits j=b at *
  clear hi hj
  simp
  omega
 unfold IntMulOk
 rw [h3]
 simp
theorem op_mulB:OpR X (binaryOp .Mult) (rI (fun i j=>i.natAbs < big∧j.natAbs < big) fun i j=>.int (i * j)):=opI fun _ _ _ _ _ _ _ hc q=>mul_int q (mul_ok hc.1 hc.2)
def eqVs:List V→List V→Bool
 | [],[]=>true
 | x :: xs,y :: ys=>eqV x y && eqVs xs ys
 | _,_=>false
end
def TbOk (h:Heap) (e:Addr) (vs:Array Value):Prop:=
 vs[1]? = some .none∨∃T oT ts,vs[1]? = some (.ref T)∧T≠e∧h.get? T=some oT∧oT.data = .fields ts∧ts[3]? = some .none
structure Noted (fs:List Addr) (e L:Addr) (oe:Obj) (vs:Array Value) (h h':Heap) (T:Addr) (fl:Value):Prop where
 new:h.get? T=none
 ne:T≠e
 exc:h'.get? e=some (oe.mapFields (·.setIfInBounds 1 (.ref T)))
 tb:∃oT ts,h'.get? T=some oT∧oT.data = .fields ts∧ts[3]? = some fl
 keep:∀b o,b∉fs→b≠e→vs[1]?≠some (.ref b)→h.get? b=some o→h'.get? b=some o
 slot:∀b o,b∈fs→h.get? b=some o→∃sl,h'.get? b=some {o with slots:=sl}
section
variable {M:Model} {A:Around} {E:Value→Shared→Prop} {s:Shared} {env:Env} {outer:List Env} {base:Heap} {L e:Addr} {oe:Obj} {vs:Array Value} {Q:Unit→Shared→Prop}
theorem entry_ok {head:Value} {had:Bool} (hfr:A.frames=some (env :: outer)) (hl:s.heap.FunFrames base (env :: outer)) (hf:env.frame=some L)
  (he:s.heap.get? e=some oe) (hd:oe.data = .fields vs) (hz:1 < vs.size)
  (h:∀h' T,s.heap.get? T=none→T≠e→h'.get? e=some (oe.mapFields (·.setIfInBounds 1 (.ref T)))→(∃oT ts,h'.get? T=some oT∧oT.data = .fields ts∧ts[3]? = some (rawInt L))→
   (∀b o,b∉frs (env :: outer)→b≠e→s.heap.get? b=some o→h'.get? b=some o)→(∀b o,b∈frs (env :: outer)→s.heap.get? b=some o→∃sl,h'.get? b=some {o with slots:=sl})→
   Q () {s with heap:=h'}) :
  wpAny M A (do let f ← frameOf env; let p ← entryPlaceOf L had; let n ← EntryCells.newEntry head f .none (rawInt L) .none p; setField (.ref e) 1 n) Q E s:=by
 have enf:e∉frs (env :: outer):=fun z=>by
  obtain ⟨_,o,ho,hn⟩:=hl.mem z
  rw [he] at ho; cases ho
  exact hn vs hd
 refine wpAny_bind (wpAny_frameOf_fun hfr hl hf fun g1 so=>?_)
 refine wpAny_bind (wpAny_entryPlaceOf fun pl hp=>?_)
 unfold EntryCells.newEntry newFields
 refine wpAny_bind (wpAny_newObj_type ?_ (hp.sizeOk5 _ _ _ _ _))
 have e1:g1.get? e=some oe:=(so.2.1 e enf).trans he
 generalize htb:({cls:=.type "traceback",dict:=none,data:=.fields ([head,.ref L,.none,rawInt L,.none] ++ (if pl.isEmpty then List.replicate 6 Value.none else pl)).toArray}:Obj)=tb
 have dtb:∃ts,tb.data = .fields ts∧ts[3]? = some (rawInt L):=by
  subst htb
  exact ⟨_,rfl,by simp⟩
 have ftb:tb.isFreed=false:=by subst htb; rfl
 have e2:(g1.push tb).get? e=some oe:=Heap.get?_push_of_some _ e1
 have tne:g1.objs.size≠e:=Nat.ne_of_gt (Heap.lt_size e1)
 refine wpAny_setField e2 hd hz ?_
 have d3:=Obj.data_mapFields hd (·.setIfInBounds 1 (Value.ref g1.objs.size))
 have keep:∀b o,b≠e→g1.get? b=some o→((g1.push tb).update e (Obj.mapFields (·.setIfInBounds 1 (Value.ref g1.objs.size)))).get? b=some o:=fun b o hb q=>by
  rw [Heap.get?_update_other _ _ (Ne.symm hb)]
  exact Heap.get?_push_of_some _ q
 refine h _ g1.objs.size (Heap.get?_none_of_le (Nat.le_of_eq so.1.symm)) tne (Heap.get?_update_self _ e2 (Obj.isFreed_of_fields d3)) ?_ (fun b o n1 n2 q=>keep b o n2 ((so.2.1 b n1).trans q)) (fun b o n1 q=>?_)
 ·obtain ⟨ts,q1,q2⟩:=dtb
  refine ⟨tb,ts,?_,q1,q2⟩
  rw [Heap.get?_update_other _ _ (Ne.symm tne)]
  exact Heap.get?_push_size g1 ftb
 ·obtain ⟨sl,q1⟩:=so.2.2 b o q
  exact ⟨sl,keep b _ (fun z=>enf (z ▸ n1)) q1⟩
theorem note_ok (hfr:A.frames=some (env :: outer)) (hl:s.heap.FunFrames base (env :: outer)) (hf:env.frame=some L)
  (he:s.heap.get? e=some oe) (hd:oe.data = .fields vs) (hv:TbOk s.heap e vs) (h:∀h' T,Noted (frs (env :: outer)) e L oe vs s.heap h' T (rawInt L)→Q () {s with heap:=h'}) :
  wpAny M A (noteFrame (.ref e) env) Q E s:=by
 unfold noteFrame
 simp only [hf]
 rcases hv with h1 | ⟨T,oT,ts,h1,ne,hT,dT,h3⟩
 ·refine wpAny_bind (wpAny_field he hd h1 ?_)
  rw [if_neg (by decide)]
  exact entry_ok hfr hl hf he hd (Array.getElem?_eq_some_iff.mp h1).1 fun h' T a b c d k sl=>h h' T ⟨a,b,c,d,fun b o n1 n2 _ q=>k b o n1 n2 q,sl⟩
 ·refine wpAny_bind (wpAny_field he hd h1 ?_)
  rw [if_pos (show (Value.ref T != Value.none)=true from by simp)]
  refine wpAny_bind (wpAny_field hT dT h3 ?_)
  rw [if_neg (show ¬((Value.none == rawInt L)=true) from by simp [rawInt])]
  refine wpAny_bind (wpAny_setField hT dT (Array.getElem?_eq_some_iff.mp h3).1 ?_)
  have oth:∀b,b≠T→(s.heap.update T (Obj.mapFields (·.setIfInBounds 3 Value.none))).get? b=s.heap.get? b:=fun b hb=>Heap.get?_update_other _ _ (Ne.symm hb)
  have nf:∀b o,s.heap.get? b=some o→(∀vs,o.data≠.fields vs)→b≠T:=fun b o q hn z=>by
   rw [z,hT] at q; cases q
   exact hn ts dT
  have hl2:=hl.of_keeps (h':=s.heap.update T (Obj.mapFields (·.setIfInBounds 3 Value.none))) fun b o q hn=>⟨o,(oth b (nf b o q hn)).trans q,rfl⟩
  refine entry_ok (s:={s with heap:=s.heap.update T (Obj.mapFields (·.setIfInBounds 3 Value.none))}) hfr hl2 hf ((oth e (Ne.symm ne)).trans he) hd (Array.getElem?_eq_some_iff.mp h1).1 fun h' T' a b c d k sl=>?_
  have nT:T'≠T:=fun z=>by
   have a':(s.heap.update T (Obj.mapFields (·.setIfInBounds 3 Value.none))).get? T'=none:=a
   rw [z,Heap.get?_update_self _ hT (Obj.isFreed_of_fields (Obj.data_mapFields dT _))] at a'
   cases a'
  refine h h' T' ⟨(oth T' nT).symm.trans a,b,c,d,fun b o n1 n2 n3 q=>k b o n1 n2 ((oth b fun z=>n3 (by rw [z]; exact h1)).trans q),fun b o n1 q=>?_⟩
  refine sl b o n1 ((oth b fun z=>?_).trans q)
  obtain ⟨_,o',ho,hn⟩:=hl.mem n1
  exact nf b o' ho hn z
theorem land_ok {fs:List Addr} {h0:Heap} {T:Addr} {fl:Value} (N:Noted fs e L oe vs h0 s.heap T fl) (hd:oe.data = .fields vs) (hz:1 < vs.size) (hT:T∉fs)
  (h:∀h',Noted fs e L oe vs h0 h' T .none→Q () {s with heap:=h'}):wpAny M A (setFlight (.ref e) none) Q E s:=by
 obtain ⟨oT,ts,q1,q2,q3⟩:=N.tb
 have h3:3 < ts.size:=(Array.getElem?_eq_some_iff.mp q3).1
 refine wpAny_setFlight_none N.exc (Obj.data_mapFields hd _) (by simp [hz]) q1 q2 h3 (h _ ?_)
 have oth:∀b,b≠T→(s.heap.update T (Obj.mapFields (·.setIfInBounds 3 Value.none))).get? b=s.heap.get? b:=fun b hb=>Heap.get?_update_other _ _ (Ne.symm hb)
 have old:∀b o,h0.get? b=some o→b≠T:=fun b o q z=>by rw [z,N.new] at q; cases q
 refine ⟨N.new,N.ne,(oth e (Ne.symm N.ne)).trans N.exc,⟨_,_,Heap.get?_update_self _ q1 (Obj.isFreed_of_fields (Obj.data_mapFields q2 _)),Obj.data_mapFields q2 _,by simp [h3]⟩,
  fun b o n1 n2 n3 q=>(oth b (old b o q)).trans (N.keep b o n1 n2 n3 q),fun b o n1 q=>?_⟩
 obtain ⟨sl,q4⟩:=N.slot b o n1 q
 exact ⟨sl,(oth b (old b o q)).trans q4⟩
theorem leave_ok (hfr:A.frames=some (env :: outer)) (hl:s.heap.FunFrames base (env :: outer)) (hf:env.frame=some L)
  (he:s.heap.get? e=some oe) (hd:oe.data = .fields vs) (hv:TbOk s.heap e vs) (h:∀h' T,Noted (frs (env :: outer)) e L oe vs s.heap h' T .none→Q () {s with heap:=h'}) :
  wpAny M A (leaving env (.ref e)) Q E s:=by
 unfold leaving
 have hz:1 < vs.size:=by
  rcases hv with h1 | ⟨T,oT,ts,h1,_⟩
  ·exact (Array.getElem?_eq_some_iff.mp h1).1
  ·exact (Array.getElem?_eq_some_iff.mp h1).1
 refine wpAny_bind (note_ok hfr hl hf he hd hv fun h1 T N=>?_)
 refine land_ok (s:={s with heap:=h1}) N hd hz (fun z=>?_) fun h' N'=>h h' T N'
 obtain ⟨_,o,ho,_⟩:=hl.mem z
 rw [N.new] at ho; cases ho
end
theorem ObjOk.there {P:Program} {w:World} {H:Hp} {h:Heap} {a:Addr} {o:HO} (x:ObjOk P w H h a o):∃ob,h.get? a=some ob:=by
 cases o with
 | lst xs=>obtain ⟨_,_,_,_,e⟩:=x; exact ⟨_,e⟩
 | tup xs=>obtain ⟨_,_,_,o,e,_⟩:=x; exact ⟨_,e⟩
 | dK kvs=>obtain ⟨_,_,_,_,o,_,_,e,_⟩:=x; exact ⟨_,e⟩
 | dT kvs=>obtain ⟨_,_,_,_,o,_,_,e,_⟩:=x; exact ⟨_,e⟩
 | set S n=>obtain ⟨o,_,_,_,e,_⟩:=x; exact ⟨_,e⟩
 | ins C dx fs=>obtain ⟨_,_,_,e,_⟩:=x; exact ⟨_,e⟩
 | own y=>exact x
 | xd fs=>obtain ⟨_,⟨_,_,_,e,_⟩,_⟩:=x; exact ⟨_,e⟩
 | rng lo hi=>obtain ⟨_,_,_,e⟩:=x; exact ⟨_,e⟩
 | frz ob u=>obtain ⟨e,_⟩:=x; exact ⟨_,e⟩
 | tbl ps=>exact ⟨_,(show h.get? a=some _ from x)⟩
 | met f y=>exact ⟨_,(show h.get? a=some _ from x)⟩
 | ext φ=>obtain ⟨_,e,_⟩:=x; exact e
theorem HOk.none_of {P:Program} {w:World} {H:Hp} {h:Heap} {a:Addr} (x:HOk P w H h) (e:h.get? a=none):H a=none:=by
 cases q:H a with
 | none=>rfl
 | some o=>
  obtain ⟨ob,z⟩:=(x a o q).there
  rw [e] at z; cases z
theorem HOk.keepT {P:Program} {w:World} {H:Hp} {h h':Heap} (x:HOk P w H h) (k:∀b o u,H b=some u→h.get? b=some o→h'.get? b=some o):HOk P w H h':=fun a o e=>
 (x a o e).stay (fun b u hb q=>by
  rcases hb with z | z
  ·rw [z] at q ⊢; exact k a u o e q
  ·exact k b u _ z q) (fun _ q=>q) fun _ _ q=>q
theorem Un.post {fs:List Addr} {H H':Hp} {h h1 h2:Heap} (u:Un fs [] H H' h h1) (k:∀b o p,h.get? b=some p→b∉fs→H' b=none→h1.get? b=some o→h2.get? b=some o)
  (sl:∀b o,b∈fs→h1.get? b=some o→∃sl,h2.get? b=some {o with slots:=sl}) (th:∀b o p,h.get? b=some p→h1.get? b=some o→∃o',h2.get? b=some o'):Un fs [] H H' h h2 where
 keep:=fun b o q n hb hx=>k b o o q hb (u.free b o q n hx) (u.keep b o q n hb hx)
 slot:=fun b o q n hb hx=>by
  obtain ⟨s1,e1⟩:=u.slot b o q n hb hx
  obtain ⟨s2,e2⟩:=sl b _ hb e1
  exact ⟨s2,e2⟩
 free:=u.free
 there:=fun b o q hx=>by
  obtain ⟨o1,e1⟩:=u.there b o q hx
  exact th b o1 o q e1
 tups:=u.tups
 frzs:=u.frzs
 tbls:=u.tbls
theorem Un.less {fs fs':List Addr} {H H':Hp} {h h1:Heap} (u:Un fs' [] H H' h h1) (hs:∀b∈fs,b∈fs') (hn:∀b∈fs',b∉fs→h.get? b=none):Un fs [] H H' h h1 where
 keep:=fun b o q n hb hx=>u.keep b o q n (fun z=>by rw [hn b z hb] at q; cases q) hx
 slot:=fun b o q n hb hx=>u.slot b o q n (hs b hb) hx
 free:=u.free
 there:=u.there
 tups:=u.tups
 frzs:=u.frzs
 tbls:=u.tbls
def dxOf (h:Heap) (e:Addr):Option Addr:=(h.get? e).bind fun o=>o.dict
theorem dxOf_of {h:Heap} {e:Addr} {o:Obj} (q:h.get? e=some o):dxOf h e=o.dict:=by unfold dxOf; rw [q]; rfl
structure Thrown (h0 h:Heap) (e C T:Addr):Prop where
 n0:h0.get? e=none
 t0:h0.get? T=none
 ne:T≠e
 ob:∃oe vs,h.get? e=some oe∧oe.cls = .ref C∧oe.data = .fields vs∧vs[1]? = some (.ref T)
 tb:∃oT ts,h.get? T=some oT∧oT.data = .fields ts∧ts[3]? = some .none
def CXE (P:Program) (w:World):CXT:=fun outer H s E ev s'=>∃e C T H',ev = .ref e∧s'.os=s.os∧AllBare s'.gens∧Un (frs outer) [] H H' s.heap s'.heap∧HOk P w H' s'.heap∧H' e=none∧H' T=none∧
 Thrown s.heap s'.heap e C T∧E (.ref C) (dxOf s'.heap e) H'
theorem passE0 {X:Cx} {P:Program} {w:World}:Passes (CXE P w) X E0:=fun _ _ _ _ _ _ _ h=>by
 obtain ⟨_,_,_,_,_,_,_,_,_,_,_,_,z⟩:=h
 exact z.elim
theorem mapF_cls (o:Obj) (f:Array Value→Array Value):(o.mapFields f).dict=o.dict:=by
 obtain ⟨c,d,dt,sl⟩:=o
 cases dt <;> rfl
section
variable {P:Program} {w:World} {K:PySem.W.Frag} {mg:Str→Option Value} {base:Heap} {N:List Str} {qual:Str} {scope:Scope} {f:Addr} {cd:Value} {A:Around} {outer:List Env} {s:Shared} {H:Hp} {E:XK}
theorem frame_own {X:Cx} {pins:List (Addr × Obj)} {σ:St} {H1:Hp} {s1:Shared} (I:Inv X pins σ H1 s1) (he:X.ex=[]) {H2:Hp} {h2:Heap} (u:Un (frs X.stack) [] H1 H2 s1.heap h2):Un X.fs [] X.H₀ H2 X.s₀.heap h2:=by
 have b0:=I.base
 rw [he] at b0
 have sub:∀b∈X.fs,b∈frs X.stack:=fun b hb=>by
  rcases I.ok.stk with e | ⟨e,hf⟩
  ·rw [e]; exact hb
  ·rw [e]; unfold frs; rw [List.filterMap_cons,hf]; exact List.mem_cons_of_mem _ hb
 refine Un.less ((b0.mono sub fun b z=>z).trans u) sub fun b z nb=>?_
 rcases List.mem_cons.mp (I.stkSub b z) with e | z2
 ·rw [e]; exact Heap.get?_none_of_le I.ok.above
 ·exact absurd z2 nb
theorem throw_out {pins:List (Addr × Obj)} {σ:St} {H1 H2:Hp} {s1 s2:Shared} {e C:Addr} {oe:Obj} {vs:Array Value} (I:Inv (cxOf (CXE P w) P w K mg base N qual scope f cd A outer s H E) pins σ H1 s1)
  (os:s2.os=s1.os) (bare:AllBare s2.gens) (un:Un (frs (cxOf (CXE P w) P w K mg base N qual scope f cd A outer s H E).stack) [] H1 H2 s1.heap s2.heap) (hok:HOk P w H2 s2.heap) (he:H2 e=none) (n0:s1.heap.get? e=none)
  (q1:s2.heap.get? e=some oe) (q2:oe.cls = .ref C) (q4:oe.data = .fields vs) (q5:vs[1]? = some .none) (hE:E (.ref C) oe.dict H2):(cxOf (CXE P w) P w K mg base N qual scope f cd A outer s H E).xe (.ref e) s2:=by
 have I2:=I.call' os un hok bare (fun _ z=>nomatch z)
 refine leave_ok I2.ok.frames I2.stack rfl q1 q4 (.inl q5) fun h' T Nt=>?_
 have ne1:∀b o,s1.heap.get? b=some o→b≠e:=fun b o q z=>by rw [z,n0] at q; cases q
 have ne2:∀b:Addr,vs[1]?≠some (.ref b):=fun b z=>by rw [q5] at z; cases z
 have u:Un (frs (cxOf (CXE P w) P w K mg base N qual scope f cd A outer s H E).stack) [] H1 H2 s1.heap h':=
  un.post (fun b o p q n _ r=>Nt.keep b o n (ne1 b p q) (ne2 b) r) (fun b o n r=>Nt.slot b o n r) (fun b o p q r=>by
   by_cases hb:b∈frs (cxOf (CXE P w) P w K mg base N qual scope f cd A outer s H E).stack
   ·obtain ⟨sl,z⟩:=Nt.slot b o hb r
    exact ⟨_,z⟩
   ·exact ⟨o,Nt.keep b o hb (ne1 b p q) (ne2 b) r⟩)
 have hok2:HOk P w H2 h':=HOk.keepT hok fun b o u q r=>Nt.keep b o (fun z=>by rw [I2.stkFree b z] at q; cases q) (fun z=>by rw [z,he] at q; cases q) (ne2 b) r
 have base0:∀{b:Addr},s1.heap.get? b=none→s.heap.get? b=none:=fun {b} q=>by
  cases z:s.heap.get? b with
  | none=>rfl
  | some o=>
   obtain ⟨o',r⟩:=I.base.there b o z (by intro y; exact absurd (show b∈([]:List Addr) from y) (by simp))
   rw [q] at r; cases r
 have t1:s1.heap.get? T=none:=by
  cases z:s1.heap.get? T with
  | none=>rfl
  | some o=>
   obtain ⟨o',r⟩:=un.there T o z (by simp)
   rw [Nt.new] at r; cases r
 refine ⟨e,C,T,H2,rfl,I2.os,bare,frame_own I rfl u,hok2,he,hok.none_of Nt.new,⟨base0 n0,base0 t1,Nt.ne,⟨_,_,Nt.exc,(Obj.cls_mapFields _ _).trans q2,Obj.data_mapFields q4 _,?_⟩,Nt.tb⟩,?_⟩
 ·have z:=(Array.getElem?_eq_some_iff.mp q5).1
  simp [z]
 ·rw [dxOf_of Nt.exc,mapF_cls]
  exact hE
theorem passes_fn {E':XK} (hE:∀c d H,E' c d H→E c d H):Passes (CXE P w) (cxOf (CXE P w) P w K mg base N qual scope f cd A outer s H E) E':=by
 intro pins σ H1 s1 ev s2 I h
 obtain ⟨e,C,T,H2,rfl,os,bare,un,hok,he,hT,⟨n0,t0,ne,⟨oe,vs,q1,q2,q4,q5⟩,⟨oT,ts,r1,r2,r3⟩⟩,hw⟩:=h
 have I2:=I.call' os un hok bare (fun _ z=>nomatch z)
 refine leave_ok I2.ok.frames I2.stack rfl q1 q4 (.inr ⟨T,oT,ts,q5,ne,r1,r2,r3⟩) fun h' T' Nt=>?_
 have ne1:∀b o,s1.heap.get? b=some o→b≠e:=fun b o q z=>by rw [z,n0] at q; cases q
 have ne2:∀b o,s1.heap.get? b=some o→vs[1]?≠some (.ref b):=fun b o q z=>by rw [q5] at z; cases z; rw [t0] at q; cases q
 have u:Un (frs (cxOf (CXE P w) P w K mg base N qual scope f cd A outer s H E).stack) [] H1 H2 s1.heap h':=
  un.post (fun b o p q n _ r=>Nt.keep b o n (ne1 b p q) (ne2 b p q) r) (fun b o n r=>Nt.slot b o n r) (fun b o p q r=>by
   by_cases hb:b∈frs (cxOf (CXE P w) P w K mg base N qual scope f cd A outer s H E).stack
   ·obtain ⟨sl,z⟩:=Nt.slot b o hb r
    exact ⟨_,z⟩
   ·exact ⟨o,Nt.keep b o hb (ne1 b p q) (ne2 b p q) r⟩)
 have hok2:HOk P w H2 h':=HOk.keepT hok fun b o u q r=>Nt.keep b o (fun z=>by rw [I2.stkFree b z] at q; cases q) (fun z=>by rw [z,he] at q; cases q) (fun z=>by rw [q5] at z; cases z; rw [hT] at q; cases q) r
 have base0:∀{b:Addr},s1.heap.get? b=none→s.heap.get? b=none:=fun {b} q=>by
  cases z:s.heap.get? b with
  | none=>rfl
  | some o=>
   obtain ⟨o',r⟩:=I.base.there b o z (by intro y; exact absurd (show b∈([]:List Addr) from y) (by simp))
   rw [q] at r; cases r
 have t1:s1.heap.get? T'=none:=by
  cases z:s1.heap.get? T' with
  | none=>rfl
  | some o=>
   obtain ⟨o',r⟩:=un.there T' o z (by simp)
   rw [Nt.new] at r; cases r
 refine ⟨e,C,T',H2,rfl,I2.os,bare,frame_own I rfl u,hok2,he,hok.none_of Nt.new,⟨base0 n0,base0 t1,Nt.ne,⟨_,_,Nt.exc,(Obj.cls_mapFields _ _).trans q2,Obj.data_mapFields q4 _,?_⟩,Nt.tb⟩,?_⟩
 ·have z:=(Array.getElem?_eq_some_iff.mp q5).1
  simp [z]
 ·rw [dxOf_of Nt.exc,mapF_cls]
  rw [dxOf_of q1] at hw
  exact hE _ _ _ hw
end
abbrev bmV:List Value:=[.type "ValueError",.type "Exception",.type "BaseException",.type "object"]
section
variable {P:Program} {w:World} {K:PySem.W.Frag} {mg:Str→Option Value} {base:Heap}
end
def CXX (X:Cx) (pins:List (Addr × Obj)) (σ:St) (E:XK) (ev:Value) (s':Shared):Prop:=∃H s,Inv X pins σ H s∧CXE X.prog X.w X.stack H s E ev s'
abbrev TEX:=St→Hp→VK→XK→Prop
def PEX (X:Cx) (e:Expr) (t:TEX):Prop:=
 ∀(pins:List (Addr × Obj)) (s:Shared) (σ:St) (H:Hp) (Q:VK) (E:XK),Inv X pins σ H s→t σ H Q E→wpAny (model X.prog X.w) X.A (eval e X.env) (EP X pins σ Q) (CXX X pins σ E) s
abbrev TSX:=Ends→XK→St→Hp→Prop
def PSX (X:Cx) (st:List Stmt) (t:TSX):Prop:=
 ∀(pins:List (Addr × Obj)) (s:Shared) (σ:St) (H:Hp) (D:Ends) (E:XK),Inv X pins σ H s→t D E σ H→wpAny (model X.prog X.w) X.A (execs st X.env) (SP X pins D) (CXX X pins σ E) s
section
variable {X:Cx} {k:Nat} {f:Addr} {fd:FuncData} {ps:List Str} {sp:Sp} {dvs:List V} {ds:List Value} {x:Str} {p pos:Pos} {e:Expr} {es:List Expr} {t:TA}
def tCallX (sp:Sp) (dvs:List V) (t:TA):TEX:=fun σ H Q E=>t σ H fun vs H1=>sp (vs ++ dvs) H1 Q E
theorem pex_call (F:FnOk X.prog X.w X.K X.mg X.base (CXE X.prog X.w) k f fd ps sp) (hr:Room k X.A) (hg:Gl X x) (hm:X.mg x=some (.ref f)) (hk:PySem.W.keepIn X.K (.ref f)=true) (hb:Binds X.K fd ps ds) (hd:Vals dvs ds)
  (ha:PA X.nox (e :: es) t) (hdb:(x == ("__debug__" : Str))=false:=by decide) (he:starEach (e :: es) X.env=(false,eval e X.env) :: starEach es X.env:=by rfl) (hpl:(backTo pos (starEach es X.env)).any (·.1)=false:=by rfl) :
  PEX X (.Call (.Name x p) (e :: es) [] pos) (tCallX sp dvs t):=by
 intro pins s σ H Q E I h
 refine wpAny_Call_Name_kw (ld_glob I hg hm ?_ hdb)
 refine PySem.W.callWith_K (h₀:=X.base) I.ok.mod.kin hk (wpAny_mono (ha pos pins s σ H _ (I.wish _) h) (fun us s1 ⟨vs,H1,I1,r,q⟩=>⟨I1.unwish.kIn,?_⟩) fun _ _ z=>False.elim z) he hpl
 have I1':=I1.unwish
 have r2:Vals (vs ++ dvs) (us ++ ds):=r.append hd
 have hl:(us ++ ds).length=ps.length:=by rw [← r2.length]; exact F.len _ _ _ _ q
 refine wpAny_call (codeAny_mono (F.run X.A X.stack s1 H1 ⟨us,[]⟩ (us ++ ds) (vs ++ dvs) Q E hr I1'.env0 (hb s1 us I1'.kIn hl) r2 q) fun r s' hq=>?_)
 cases r with
 | error ev=>exact ⟨H1,s1,I1',hq⟩
 | ok fl=>
  cases fl with
  | ret u=>exact I1'.after hq
  | next=>exact False.elim hq
  | brk=>exact False.elim hq
  | cont=>exact False.elim hq
theorem psx_expr {te:TEX} (he:PEX X e te) (hs:swapsWith e none pos.line X.env=pure false:=by rfl):PSX X [.Expr e pos] (fun D E σ H=>te σ H (fun _ H1=>D.nx σ H1) E):=by
 intro pins s σ H D E I h
 exact wpAny_execs_cons (wpAny_Expr_any (wpAny_mono (he pins s σ H _ E I h) (fun u s1 ⟨v,H1,I1,r1,q1⟩=>wpAny_execs_nil ⟨σ,H1,I1,q1⟩) fun _ _ z=>z) I.quiet hs)
end
def excAtD (C e:Addr) (d:Option Addr) (h:Heap):Prop:=∃o,h.get? e=some o∧o.cls = .ref C∧o.dict=d∧PySem.W.notCls o=true
abbrev excAt (C e:Addr) (h:Heap):Prop:=excAtD C e none h
def ExcD (C e:Addr) (d:Option Addr):HO:=.ext (excAtD C e d)
abbrev ExcO (C e:Addr):HO:=ExcD C e none
theorem excO_ok {P:Program} {w:World} {H:Hp} {h:Heap} {C e:Addr} {d:Option Addr} (x:excAtD C e d h):ObjOk P w H h e (ExcD C e d):=by
 obtain ⟨o,q⟩:=id x
 exact ⟨x,⟨o,q.1⟩,fun h1 h2 ⟨o,a,b⟩ k=>⟨o,k o a,b⟩⟩
theorem caught_inv {X:Cx} {pins:List (Addr × Obj)} {σ:St} {H H':Hp} {s s':Shared} {e C T L T':Addr} {oe:Obj} {vs:Array Value} {h3:Heap} {d:Option Addr} (I:Inv X pins σ H s) (os:s'.os=s.os) (bare:AllBare s'.gens)
    (un:Un (frs X.stack) [] H H' s.heap s'.heap) (hok:HOk X.prog X.w H' s'.heap) (he:H' e=none) (hT:H' T=none) (n0:s.heap.get? e=none) (t0:s.heap.get? T=none) (q5:vs[1]? = some (.ref T))
    (c1:oe.cls = .ref C) (c2:oe.dict=d) (c3:oe.data = .fields vs) (Nt:Noted (frs X.stack) e L oe vs s'.heap h3 T' .none):Inv X pins σ (upd H' e (ExcD C e d)) {s' with heap:=h3}:=by
  have I2:=I.call' os un hok bare (fun _ z=>nomatch z)
  have ne1:∀b o,s.heap.get? b=some o→b≠e:=fun b o q z=>by rw [z,n0] at q; cases q
  have ne2:∀b o,s.heap.get? b=some o→vs[1]?≠some (.ref b):=fun b o q z=>by rw [q5] at z; cases z; rw [t0] at q; cases q
  have u:Un (frs X.stack) [] H H' s.heap h3:=
    un.post (fun b o p q n _ r=>Nt.keep b o n (ne1 b p q) (ne2 b p q) r) (fun b o n r=>Nt.slot b o n r) (fun b o p q r=>by
      by_cases hb:b∈frs X.stack
      · obtain ⟨sl,z⟩:=Nt.slot b o hb r
        exact ⟨_,z⟩
      · exact ⟨o,Nt.keep b o hb (ne1 b p q) (ne2 b p q) r⟩)
  have hok2:HOk X.prog X.w H' h3:=HOk.keepT hok fun b o u q r=>Nt.keep b o (fun z=>by rw [I2.stkFree b z] at q; cases q) (fun z=>by rw [z,he] at q; cases q) (fun z=>by rw [q5] at z; cases z; rw [hT] at q; cases q) r
  have ne3:∀b u,H' b=some u→b≠e:=fun b u q z=>by rw [z,he] at q; cases q
  have u2:Un (frs X.stack) [] H (upd H' e (ExcD C e d)) s.heap h3:=
    ⟨u.keep,u.slot,fun b o q n hx=>by rw [upd_ne (ne1 b o q)]; exact u.free b o q n hx,u.there,fun b xs q=>by rw [upd_ne (ne3 b _ (u.tups b xs q))]; exact u.tups b xs q,
     fun b o xs q=>by rw [upd_ne (ne3 b _ (u.frzs b o xs q))]; exact u.frzs b o xs q,fun b p q=>by
      obtain ⟨m,z⟩:=u.tbls b p q
      exact ⟨m,by rw [upd_ne (ne3 b _ z)]; exact z⟩⟩
  have ex:excAtD C e d h3:=⟨_,Nt.exc,(Obj.cls_mapFields _ _).trans c1,(mapF_cls _ _).trans c2,by
    unfold PySem.W.notCls
    rw [Obj.data_mapFields c3]⟩
  have hok3:HOk X.prog X.w (upd H' e (ExcD C e d)) h3:=fun b o q=>by
    by_cases hb:b=e
    · subst hb
      rw [upd_same] at q; cases q
      exact excO_ok ex
    · rw [upd_ne hb] at q
      exact (hok2 b o q).stay (fun _ _ _ r=>r) (fun c r=>by rw [upd_ne (ne3 c _ r)]; exact r) fun c xs r=>by rw [upd_ne (ne3 c _ r)]; exact r
  exact I.call' (s':={s' with heap:=h3}) os u2 hok3 bare (fun _ z=>nomatch z)
structure CatchK (K:PySem.W.Frag) (D:Addr):Prop where
 tup:PySem.W.instIn K (.ref D) (.type "tuple")=some false
 cls:(PySem.W.clsIn K D).isSome=true
 exc:PySem.W.mroIn K D (.type "BaseException")=some true
theorem looks_isType {K:PySem.W.Frag} {M:Model} {h:Heap} {D:Addr} (X:K.In h) (c:(PySem.W.clsIn K D).isSome=true):PySem.W.Looks M h (isType (.ref D)) true:=by
 unfold PySem.W.clsIn at c
 split at c
 ·rename_i a b cd sl lk
  intro A Q E s k q
  unfold isType loadHead
  exact wpAny_bind (wpAny_loadPart (k _ _ (X _ _ lk)) (wpAny_pure q))
 ·cases c
theorem matches_ok {K:PySem.W.Frag} {M:Model} {A:Around} {E:Value→Shared→Prop} {s:Shared} {e C D:Addr} {o:Obj} {Q:Bool→Shared→Prop} (X:K.In s.heap) (c:CatchK K D) (sub:PySem.W.mroIn K C (.ref D)=some true)
  (he:s.heap.get? e=some o) (hc:o.cls = .ref C) (h:Q true s):wpAny M A (excMatches (.ref e) (.ref D)) Q E s:=by
 have l1:=PySem.W.looks_instIn (M:=M) X c.tup
 have l2:=looks_isType (M:=M) X c.cls
 have l3:=PySem.W.looks_mroIn (M:=M) X c.exc
 have l4:=PySem.W.looks_mroIn (M:=M) X sub
 obtain ⟨hh,g,d,t,os⟩:=s
 unfold excMatches
 refine wpAny_bind (l1.at ?_)
 simp only [Bool.false_eq_true,if_false,pure_bind,List.forIn_cons,List.forIn_nil]
 refine wpAny_bind (wpAny_bind (wpAny_bind ?_))
 unfold isExcClass
 refine wpAny_bind (l2.at ?_)
 rw [if_pos rfl]
 refine l3.at ?_
 simp only [Bool.not_true,Bool.false_eq_true,if_false]
 refine wpAny_pure (wpAny_pure ?_)
 refine wpAny_bind (wpAny_typeOf_ref he ?_)
 rw [hc]
 refine wpAny_bind (wpAny_bind (wpAny_bind (l4.at ?_)))
 rw [if_pos rfl]
 exact wpAny_pure (wpAny_pure (wpAny_pure h))
theorem Inv.relocal {X:Cx} {pins:List (Addr × Obj)} {σ σ':St} {H:Hp} {s:Shared} {h':Heap} {m':Str→Option Value} {tk:Nat} (I:Inv X pins σ H s) (hs:Heap.SameBut X.env.locals s.heap h') (hn:h'.Ns X.env.locals m')
  (hl:∀(i:Nat) (x:Str) (v:V),X.N[i]? = some x→σ'[i]? = some (some v)→Vis X.env.scope x→∃u,RelV v u∧Look X.env h' m' x u) (len:σ'.length=σ.length):Inv X pins σ' H {s with heap:=h',toks:=tk}:=by
 have neL:∀b o,X.s₀.heap.get? b=some o→b≠X.env.locals:=fun b o e=>Nat.ne_of_lt (Nat.lt_of_lt_of_le (Heap.lt_size e) I.ok.above)
 refine ⟨I.ok,I.os,I.bare,⟨fun b o e n hb hx=>(hs.2 b (neL b o e)).trans (I.base.keep b o e n hb hx),fun b o e n hb hx=>?_,I.base.free,fun b o e hx=>?_,I.base.tups,I.base.frzs,I.base.tbls⟩,⟨m',hn,hl⟩,fun y c e=>?_,I.free,I.freeC,fun p hp=>?_,?_,len.trans I.len⟩
 ·obtain ⟨sl,z⟩:=I.base.slot b o e n hb hx
  exact ⟨sl,(hs.2 b (neL b o e)).trans z⟩
 ·obtain ⟨o',z⟩:=I.base.there b o e hx
  exact ⟨o',(hs.2 b (neL b o e)).trans z⟩
 ·obtain ⟨w',z⟩:=I.cell y c e
  exact ⟨w',z.sameBut hs (I.cne y c e)⟩
 ·obtain ⟨a,b,c,d,f⟩:=I.pin p hp
  exact ⟨(hs.2 p.1 c).trans a,b,c,d,f⟩
 ·exact HOk.keepT I.hok fun b o u q r=>(hs.2 b fun z=>by rw [z,I.free] at q; cases q).trans r
theorem goes_ok {X:Cx} {M:Model} {A:Around} {E:Value→Shared→Prop} {pins:List (Addr × Obj)} {σ:St} {H:Hp} {s:Shared} {j:Nat} {n:Str} {pos:Pos} {Q:Unit→Shared→Prop} (I:Inv X pins σ H s) (hN:X.N.Nodup) (hj:X.N[j]? = some n)
  (hx:X.env.scope.names.lookup n=some .local) (h:∀s',Inv X pins (σ.set j none) H s'→Q () s'):wpAny M A (do bindName X.env n .none; unbindBehindTheSuite X.env n pos) Q E s:=by
 obtain ⟨m,hn,hl⟩:=I.loc
 refine wpAny_nameGoes_keeps hx hn (by rw [I.ok.kind]; rfl) fun h' v hn' hs=>h _ (I.relocal hs hn' (fun i x w e1 e2 e3=>?_) (by simp))
 have hij:i≠j:=fun z=>by
  subst z
  rw [List.getElem?_set] at e2
  simp at e2
 rw [List.getElem?_set_ne (Ne.symm hij)] at e2
 obtain ⟨u,r,q⟩:=hl i x w e1 e2 e3
 refine ⟨u,r,?_⟩
 rcases q with ⟨k,e⟩ | ⟨k,c,e,z⟩
 ·refine .inl ⟨k,?_⟩
  have:x≠n:=fun e=>hij (nodup_ix hN e1 (e ▸ hj))
  simp [this,e]
 ·exact .inr ⟨k,c,e,z.sameBut hs (I.cne x c e)⟩
abbrev Cx.held (X:Cx) (e:Addr):Cx:={X with A:=X.A.mark (some (.ref e)),calm:=false,xe:=fun _ _=>False}
theorem Inv.held {X:Cx} {pins:List (Addr × Obj)} {σ:St} {H:Hp} {s:Shared} (I:Inv X pins σ H s) (e:Addr):Inv (X.held e) pins σ H s:=
 ⟨⟨I.ok.mod,I.ok.kind,I.ok.glob,I.ok.blt,I.ok.above,I.ok.inj,I.ok.has,I.ok.cab,(fun z=>nomatch z),I.ok.frames,I.ok.stk,I.ok.exf,I.ok.bs,I.ok.bsz,I.ok.noex,I.ok.exfs,I.ok.funs,I.ok.frf⟩,I.os,I.bare,I.base,I.loc,I.cell,I.free,I.freeC,I.pin,I.hok,I.len⟩
theorem Inv.unheld {X:Cx} {pins:List (Addr × Obj)} {σ:St} {H:Hp} {s:Shared} {e:Addr} (ok:X.Ok) (I:Inv (X.held e) pins σ H s):Inv X pins σ H s:=⟨ok,I.os,I.bare,I.base,I.loc,I.cell,I.free,I.freeC,I.pin,I.hok,I.len⟩
def Ends.drop (D:Ends) (j:Nat):Ends:={nx:=fun σ H=>D.nx (σ.set j none) H,rt:=D.rt,bk:=fun σ H=>D.bk (σ.set j none) H,ct:=fun σ H=>D.ct (σ.set j none) H}
def tTryAs (K:PySem.W.Frag) (D:Addr) (j:Nat) (tb:TSX) (th:TS):TS:=fun En σ H=>tb En (fun c d H1=>∃C,c = .ref C∧PySem.W.mroIn K C (.ref D)=some true∧∀e,H1 e=none→th (En.drop j) (σ.set j (some (.ref e))) (upd H1 e (ExcD C e d))) σ H
theorem ps_try_as {X:Cx} {body:List Stmt} {tb:TSX} {th:TS} {d n:Str} {D:Addr} {j:Nat} {b0:Stmt} {suite:List Stmt} {pd hpos pos:Pos} (hb:PSX X body tb) (hN:X.N.Nodup) (hj:X.N[j]? = some n) (hx:X.env.scope.names.lookup n=some .local)
  (hst:X.stack=X.env :: X.outer) (hL:X.env.frame=some X.env.locals) (hg:Gl X d) (hm:X.mg d=some (.ref D)) (c:CatchK X.K D) (hs:∀e,PSs (X.held e) (b0 :: suite) th) (hd:(d == ("__debug__" : Str))=false:=by decide) :
  PS X (.Try body [.ExceptHandler (some (.Name d pd)) (some n) (b0 :: suite) hpos] [] [] pos) (tTryAs X.K D j tb th):=by
 intro pins s σ H En I h
 refine wpAny_Try_except (wpAny_mono (hb pins s σ H _ _ I h) (fun f s1 q=>?_) fun ev s1 q=>?_)
 ·cases f with
  | next=>exact wpAny_execs_nil q
  | brk=>exact q
  | cont=>exact q
  | ret v=>exact q
 ·obtain ⟨H0,s0,I0,e,C,T,H1,rfl,os,bare,un,hok,he,hT,⟨n0,t0,ne,⟨oe,vs,q1,q2,q4,q5⟩,⟨oT,ts,r1,r2,r3⟩⟩,C',hC',sub,hw⟩:=q
  cases hC'
  have q3:oe.dict=dxOf s1.heap e:=(dxOf_of q1).symm
  have I1:=I0.call' os un hok bare (fun _ z=>nomatch z)
  have hz:1 < vs.size:=(Array.getElem?_eq_some_iff.mp q5).1
  have fr:X.A.frames=some (X.env :: X.outer):=by rw [← hst]; exact I.ok.frames
  have st1:s1.heap.FunFrames X.base (X.env :: X.outer):=by rw [← hst]; exact I1.stack
  refine note_ok fr st1 hL q1 q4 (.inr ⟨T,oT,ts,q5,ne,r1,r2,r3⟩) fun h1 T' N1=>?_
  have tf:T'∉frs (X.env :: X.outer):=fun z=>by
   obtain ⟨_,o,ho,_⟩:=st1.mem z
   rw [N1.new] at ho; cases ho
  refine land_ok (s:={s1 with heap:=h1}) N1 q4 hz tf fun h2 N2=>?_
  have N2':Noted (frs X.stack) e X.env.locals oe vs s1.heap h2 T' .none:=by rw [hst]; exact N2
  have I2:=caught_inv I0 os bare un hok he hT n0 t0 q5 q2 q3 q4 N2'
  refine wpAny_handleBy_cons (codeAny_handlers_test (ld_glob (I2.held e) hg hm ?_ hd)) (by intro z; cases z)
  refine matches_ok I2.kIn c sub N2.exc ((Obj.cls_mapFields _ _).trans q2) ?_
  show codeAny _ _ _ _ _
  refine codeAny_handlers_suite_as ?_
  refine land_ok (s:={s1 with heap:=h2}) N2 q4 hz tf fun h3 N3=>?_
  have N3':Noted (frs X.stack) e X.env.locals oe vs s1.heap h3 T' .none:=by rw [hst]; exact N3
  have I3:=caught_inv I0 os bare un hok he hT n0 t0 q5 q2 q3 q4 N3'
  refine store_ok I3 hN hj (.inl hx) (v:=.ref e) rfl (fun s4 I4=>?_) (.inr hx)
  refine wpAny_mono (hs e pins s4 _ _ _ (I4.held e) (hw e he)) (fun f s5 q=>?_) fun _ _ z=>False.elim z
  show wpAny _ _ _ _ _ _
  cases f with
  | next=>
   obtain ⟨σ5,H5,I5,q⟩:=q
   exact goes_ok (I5.unheld I.ok) hN hj hx fun s6 I6=>⟨_,_,I6,q⟩
  | brk=>
   obtain ⟨σ5,H5,I5,q⟩:=q
   exact goes_ok (I5.unheld I.ok) hN hj hx fun s6 I6=>⟨_,_,I6,q⟩
  | cont=>
   obtain ⟨σ5,H5,I5,q⟩:=q
   exact goes_ok (I5.unheld I.ok) hN hj hx fun s6 I6=>⟨_,_,I6,q⟩
  | ret u=>
   obtain ⟨v5,σ5,H5,I5,r5,q⟩:=q
   exact goes_ok (I5.unheld I.ok) hN hj hx fun s6 I6=>⟨_,_,_,I6,r5,q⟩
structure ClsX (K:PySem.W.Frag) (C:Addr):Prop where
 ga:PySem.W.findIn K (.ref C) "__getattribute__" = some (some (.builtin "BaseException.__getattribute__"))
 no:PySem.W.findIn K (.ref C) "__getattr__" = some none
 hd:PySem.W.hasDictIn K C=true
 ha:PySem.W.findIn K (.ref C) "__class__" = some (some (.builtin "object.__class__"))
 hn:PySem.W.specialIn K (.builtin "object.__class__") "__get__" = some (some (.builtin "getset_descriptor.__get__"))
 ht:PySem.W.takesIn K (.builtin "object.__class__")=some true
 hm:PySem.W.mroIn K C (.type "object")=some true
 hb:PySem.W.mroIn K C (.type "BaseException")=some true
section
variable {prog:Program} {w:World} {A:Around} {E:Value→Shared→Prop} {K:PySem.W.Frag} {C e:Addr} {ox:Obj} {od:Option Obj}
theorem ga_class {s:Shared} {tk:Tok} {Q:Fin→Shared→Prop} (c:ClsX K C) (X:K.In s.heap) (I:PySem.W.InstAt s.heap e ox C od) (h:Q (.done (.ret (.ref C))) s) :
  wpAny (model prog w) A (Builtin.«object.__getattribute__» ⟨[.ref e,.str "__class__" tk],[]⟩) Q E s:=by
 have hf:PySem.W.findObj K C od "__class__" = some (.bind (.builtin "getset_descriptor.__get__") (.builtin "object.__class__")):=by
  obtain ⟨cd,q,_⟩:=PySem.W.any_some c.hd
  unfold PySem.W.findObj
  rw [q,Option.bind_some,c.ha,Option.bind_some]
  simp [c.hn,c.ht]
 obtain ⟨hh,gg,d,t,os⟩:=s
 have L0:=I.type (M:=model prog w)
 have L1:=PySem.W.looks_find (M:=model prog w) X I hf
 unfold Builtin.«object.__getattribute__»
 repeat (first | with_reducible refine L0.at ?_ | with_reducible refine L1.at ?_ | wp_step)
 exact PySem.W.class_get (ox:=ox) (od:=od) X I c.hm (wpAny_pure h)
theorem ga_check {M:Model} {s:Shared} {nameV:Value} {Q:Unit→Shared→Prop} (c:ClsX K C) (X:K.In s.heap) (I:PySem.W.InstAt s.heap e ox C od) (h:Q () s) :
  wpAny M A (checkBuiltinCall "BaseException.__getattribute__" ⟨[.ref e,nameV],[]⟩) Q E s:=by
 have hk:builtinKind "BaseException.__getattribute__" = some .slot:=by decide +kernel
 have hs:splitId "BaseException.__getattribute__" = some ("BaseException","__getattribute__"):=by decide +kernel
 have ha:=F.args_bexc_ga (.ref e) nameV
 have LI:PySem.W.Looks M s.heap (isInstance (.ref e) (.type "BaseException")) true:=(I.type (M:=M)).andThen (PySem.W.looks_mroIn X c.hb)
 obtain ⟨hh,gg,d,t,os⟩:=s
 simp only [checkBuiltinCall,hk,hs]
 refine wpAny_bind (LI.at ?_)
 repeat (first | assumption | wp_step)
theorem exc_class {s:Shared} {Q:Option Value→Shared→Prop} (c:ClsX K C) (X:K.In s.heap) (I:PySem.W.InstAt s.heap e ox C od) (h:Q (some (.ref C)) {s with toks:=s.toks + 1}) :
  wpAny (model prog w) A (getAttr? (.ref e) "__class__") Q E s:=by
 obtain ⟨hh,gg,d,t,os⟩:=s
 have L0:=I.type (M:=model prog w)
 have L1:=PySem.W.looks_findIn (M:=model prog w) X c.ga
 have L2:=PySem.W.looks_findIn (M:=model prog w) X c.no
 have f3:=PySem.F.attr_ValueError.ga.bind (.ref e)
 unfold getAttr? getAttrBy? getAttrBy
 refine wpAny_bind (wpAny_mkText (wpAny_bind (wpAny_attempt (wpAny_holding (wpAny_bind (L0.at (wpAny_bind (L1.at ?_))))))))
 have e1:(onTheHeap (Value.ref C) && Value.builtin "BaseException.__getattribute__" == Value.builtin "object.__getattribute__")=false:=by rw [show (Value.builtin "BaseException.__getattribute__" == Value.builtin "object.__getattribute__")=false from by decide +kernel,Bool.and_false]
 dsimp only
 rw [e1]
 simp only [Bool.false_eq_true,if_false]
 unfold getAttrByItsOwn hookBefore
 repeat (first | with_reducible refine L2.at ?_ | assumption | wp_step)
 refine codeAny_call_builtin PySem.F.attr_ValueError.ga.plain F.entry_bexc_ga (ga_check c X I (ga_class c X I ?_))
 show wpAny (model prog w) A (handedOut (.ref C)) _ _ _
 exact PySem.W.handed_on rfl (wpAny_pure h)
end
theorem kitx_exc {K:PySem.W.Frag} {C e:Addr} (c:ClsX K C):PySem.W.KitX K (.ref e) (.ref C) (excAt C e) where
 ty:=fun M h _ ⟨o,h1,h2,_⟩=>h2 ▸ (PySem.W.Looks.ld h1).andThen .now
 it:=fun M h X _=>by
  obtain ⟨cd,q,_⟩:=PySem.W.any_some c.hd
  exact looks_isType X (by rw [q]; rfl)
 ne:=fun h tp dd its n sl X htp=>by
  obtain ⟨cd,q,_⟩:=PySem.W.any_some c.hd
  refine Bool.eq_false_iff.mpr fun z=>?_
  have e:C=tp:=Value.ref.inj (beq_iff_eq.mp z)
  subst e
  unfold PySem.W.clsIn at q
  split at q
  ·rename_i lk
   have z:=(X _ _ lk).symm.trans htp
   cases z
  ·cases q
 ca:=fun {prog w A E Q s} X ⟨o,h1,h2,h3,h4⟩ k=>by
  have I:PySem.W.InstAt s.heap e o C none:=⟨h1,h2,h4,by rw [h3]; exact trivial⟩
  exact exc_class c X I k
theorem kitx_excD {K:PySem.W.Frag} {C e d:Addr} (c:ClsX K C):PySem.W.KitX K (.ref e) (.ref C) (fun h=>excAtD C e (some d) h∧∃od,h.get? d=some od) where
 ty:=fun M h _ ⟨⟨o,h1,h2,_⟩,_⟩=>h2 ▸ (PySem.W.Looks.ld h1).andThen .now
 it:=fun M h X _=>by
  obtain ⟨cd,q,_⟩:=PySem.W.any_some c.hd
  exact looks_isType X (by rw [q]; rfl)
 ne:=fun h tp dd its n sl X htp=>(kitx_exc (e:=e) c).ne h tp dd its n sl X htp
 ca:=fun {prog w A E Q s} X ⟨⟨o,h1,h2,h3,h4⟩,od,hod⟩ k=>by
  have I:PySem.W.InstAt s.heap e o C (some od):=⟨h1,h2,h4,by rw [h3]; exact hod⟩
  exact exc_class c X I k
inductive TyX (K:PySem.W.Frag) (H:Hp):V→Value→Prop where
 | of {x:V} {t:Value} (h:TyOf K H x t):TyX K H x t
 | exc {C e:Addr} (h:H e=some (ExcO C e)) (c:ClsX K C):TyX K H (.ref e) (.ref C)
 | excD {C e d:Addr} {fs:List (Str × V)} (h:H e=some (ExcD C e (some d))) (hd:H d=some (.xd fs)) (c:ClsX K C):TyX K H (.ref e) (.ref C)
def clsV:V→Option Value
 | .ty n=>some (.type n)
 | .ref a=>some (.ref a)
 | _=>none
theorem clsV_rel {c:V} {u cv:Value} (h:clsV c=some cv) (r:RelV c u):u=cv:=by
 cases c with
 | ty n=>cases h; exact r
 | ref a=>cases h; exact r
 | _=>cases h
theorem clsV_all:∀{xs:List V} {us cs:List Value},Vals xs us→xs.map clsV=cs.map some→us=cs
 | _,_,[],.nil,_=>rfl
 | _,_,_ :: _,.nil,h=>by simp at h
 | _,_,[],.cons _ _,h=>by simp at h
 | _,_,c :: cs,.cons r t,h=>by
  simp only [List.map_cons,List.cons.injEq] at h
  rw [clsV_rel h.1 r,clsV_all t h.2]
section
variable {X:Cx}
def rIsi (K:PySem.W.Frag):List V→Hp→VK→Prop:=fun vs H Q=>∃x c t b,vs=[x,c]∧TyX K H x t∧((∃cv,clsV c=some cv∧PySem.W.kitOne K t cv=some b)∨∃p xs cs,c = .ref p∧SqT K H p xs∧xs.map clsV=cs.map some∧PySem.W.kitAny K t cs=some b)∧Q (.bl b) H
theorem kitx_of {pins:List (Addr × Obj)} {σ:St} {H:Hp} {s:Shared} {x:V} {t u:Value} (I:Inv X pins σ H s) (rx:RelV x u) (ty:TyX X.K H x t):∃HH,PySem.W.KitX X.K u t HH∧HH s.heap∧u≠.builtin "__main__.__loader__#opaque":=by
 cases ty with
 | exc h c=>
  cases (show u=_ from rx)
  obtain ⟨p,_⟩:=I.hok _ _ h
  exact ⟨_,kitx_exc c,p,fun z=>nomatch z⟩
 | excD h hd c=>
  cases (show u=_ from rx)
  obtain ⟨p,_⟩:=I.hok _ _ h
  obtain ⟨_,⟨od,_,_,q,_⟩,_⟩:=I.hok _ _ hd
  exact ⟨_,kitx_excD c,⟨p,od,q⟩,fun z=>nomatch z⟩
 | of ty=>
  cases ty with
  | non=>cases (show u=Value.none from rx); exact ⟨_,PySem.W.kitx_none,trivial,fun z=>nomatch z⟩
  | bl y=>cases (show u=Value.bool y from rx); exact ⟨_,PySem.W.kitx_bool,trivial,fun z=>nomatch z⟩
  | int i=>obtain ⟨t,q⟩:=(show ∃t,u=Value.int i t from rx); cases q; exact ⟨_,PySem.W.kitx_int,trivial,fun z=>nomatch z⟩
  | str y=>obtain ⟨t,q⟩:=(show ∃t,u=Value.str y t from rx); cases q; exact ⟨_,PySem.W.kitx_str,trivial,fun z=>nomatch z⟩
  | flt y=>obtain ⟨t,q⟩:=(show ∃t,u=Value.float y t from rx); cases q; exact ⟨_,PySem.W.kitx_float,trivial,fun z=>nomatch z⟩
  | @lst a xs ea=>
   cases (show u=Value.ref a from rx)
   obtain ⟨_,_,n,_,h1⟩:=(show ObjOk X.prog X.w H s.heap a (.lst xs) from I.hok a _ ea)
   exact ⟨_,PySem.W.kitx_list,⟨_,h1,rfl⟩,fun z=>nomatch z⟩
  | @frz a ob xs ea=>
   cases (show u=Value.ref a from rx)
   obtain ⟨_,_,_,n,_,h1⟩:=(show ObjOk X.prog X.w H s.heap a (.frz ob (.lst xs)) from I.hok a _ ea)
   exact ⟨_,PySem.W.kitx_list,⟨_,h1,rfl⟩,fun z=>nomatch z⟩
  | @tup a xs ea=>
   cases (show u=Value.ref a from rx)
   obtain ⟨_,_,_,p⟩:=(show ObjOk X.prog X.w H s.heap a (.tup xs) from I.hok a _ ea)
   obtain ⟨o,h1,h2,_⟩:=p
   exact ⟨_,PySem.W.kitx_tuple,⟨o,h1,h2⟩,fun z=>nomatch z⟩
  | @dK a kvs ea=>
   cases (show u=Value.ref a from rx)
   obtain ⟨_,_,vs,_,p⟩:=(show ObjOk X.prog X.w H s.heap a (.dK kvs) from I.hok a _ ea)
   obtain ⟨o,es,ep,h1,h2,_⟩:=p
   exact ⟨_,PySem.W.kitx_dict,⟨o,h1,h2.1⟩,fun z=>nomatch z⟩
  | @dT a kvs ea=>
   cases (show u=Value.ref a from rx)
   obtain ⟨_,_,xs,_,o,es,ep,h1,h2,_⟩:=(show ObjOk X.prog X.w H s.heap a (.dT kvs) from I.hok a _ ea)
   exact ⟨_,PySem.W.kitx_dict,⟨o,h1,h2.1⟩,fun z=>nomatch z⟩
  | @ins a C dx fs ea cl ha hn htk hm=>
   cases (show u=Value.ref a from rx)
   obtain ⟨mA,O,_⟩:=ins_get I.hok ea
   obtain ⟨od,J,_⟩:=O.look
   exact ⟨_,PySem.W.kitx_own (cl.get _) cl.hd ha hn htk hm,J,fun z=>nomatch z⟩
theorem call_isi:CallR X (.builtin "isinstance") (rIsi X.K):=by
 intro pins s σ H xs us Q I r h
 obtain ⟨x,c,t,b,rfl,ty,hc,q⟩:=h
 obtain ⟨u,v,rfl,rx,rc⟩:=vals2 r
 obtain ⟨HH,Z,p,hx⟩:=kitx_of I rx ty
 rcases hc with ⟨cv,e1,e2⟩ | ⟨a,xs,cs,rfl,hs,e1,e2⟩
 ·rw [clsV_rel e1 rc]
  exact PySem.W.kia_one Z I.kIn p e2 hx fun tk=>⟨.bl b,H,I.tok tk,rfl,q⟩
 ·cases (show v=Value.ref a from rc)
  obtain ⟨its,rv,⟨o,h1,h2,n,h3⟩,_⟩:=I.tuple hs
  have e3:=clsV_all rv e1
  subst e3
  obtain ⟨oc,od,oda,osl⟩:=o
  simp only at h2 h3
  subst h2 h3
  exact PySem.W.kia_tup Z I.kIn p h1 e2 hx fun tk=>⟨.bl b,H,I.tok tk,rfl,q⟩
theorem boot_isi:bootBuiltins "isinstance" = some (.builtin "isinstance"):=by decide +kernel
def eAt (xs ys:List V) (j:Nat):Bool:=match xs[j]?,ys[j]? with
 | some x,some y=>eqV x y
 | _,_=>false
theorem eqVs_all:∀xs ys:List V,((List.range (min xs.length ys.length)).all (eAt xs ys) && xs.length == ys.length)=eqVs xs ys
 | [],[]=>rfl
 | [],_ :: _=>by simp [eqVs]
 | _ :: _,[]=>by simp [eqVs]
 | x :: xs,y :: ys=>by
  have ih:=eqVs_all xs ys
  show _=(eqV x y && eqVs xs ys)
  rw [← ih]
  have e1:min (x :: xs).length (y :: ys).length=(min xs.length ys.length) + 1:=by simp only [List.length_cons]; omega
  rw [e1,List.range_succ_eq_map,List.all_cons,List.all_map]
  have e2:(eAt (x :: xs) (y :: ys)) 0=eqV x y:=rfl
  have e3:(eAt (x :: xs) (y :: ys)) ∘ Nat.succ=eAt xs ys:=by
   funext j
   simp [eAt,Function.comp]
  have e4:((x :: xs).length == (y :: ys).length)=(xs.length == ys.length):=by
   rw [Bool.eq_iff_iff]
   simp
  rw [e2,e3,e4,Bool.and_assoc]
def rEqT (K:PySem.W.Frag) (neg:Bool):R2:=fun x y H Q=>∃a b xs ys,x = .ref a∧y = .ref b∧SqT K H a xs∧SqT K H b ys∧xs.all flatV=true∧ys.all flatV=true∧Q (.bl (if neg then !eqVs xs ys else eqVs xs ys)) H
theorem items_eq {A:Around} {s:Shared} {xs ys:List V} {us vs:List Value} (r1:Vals xs us) (r2:Vals ys vs) (f1:xs.all flatV=true) (f2:ys.all flatV=true) :
  ∀j (h1:j < us.toArray.size) (h2:j < vs.toArray.size),SeqAt.EqAt A s us.toArray[j] vs.toArray[j] (eAt xs ys j):=fun j h1 h2=>by
 have l1:j < xs.length:=by rw [r1.length]; simpa using h1
 have l2:j < ys.length:=by rw [r2.length]; simpa using h2
 obtain ⟨u,q1,z1⟩:=r1.get (i:=j) (x:=xs[j]) (by simp [l1])
 obtain ⟨v,q2,z2⟩:=r2.get (i:=j) (x:=ys[j]) (by simp [l2])
 have e1:us.toArray[j]=u:=by
  have:us[j]? = some us.toArray[j]:=by simp
  rw [this] at q1; exact Option.some.inj q1
 have e2:vs.toArray[j]=v:=by
  have:vs[j]? = some vs.toArray[j]:=by simp
  rw [this] at q2; exact Option.some.inj q2
 have e3:eAt xs ys j=eqV xs[j] ys[j]:=by simp [eAt,l1,l2]
 rw [e1,e2,e3]
 exact eqAt_V z1 z2 (List.all_eq_true.mp f1 _ (List.getElem_mem l1)) (List.all_eq_true.mp f2 _ (List.getElem_mem l2))
theorem op_eqT (hu:X.A.units < cLine):OpR X (compareOp .Eq) (rEqT X.K false):=by
 intro pins s σ H x y v u Q I rx ry h
 obtain ⟨a,b,xs,ys,rfl,rfl,ha,hb,f1,f2,q⟩:=h
 cases rx
 cases ry
 obtain ⟨its,r1,p1,_⟩:=I.tuple ha
 obtain ⟨its2,r2,p2,_⟩:=I.tuple hb
 refine SeqAt.eq_tupleAt (show s.heap.IsTuple a its.toArray from p1) (show s.heap.IsTuple b its2.toArray from p2) hu (items_eq r1 r2 f1 f2) ⟨.bl _,H,I,rfl,?_⟩
 have e:((List.range (min its.toArray.size its2.toArray.size)).all (eAt xs ys) && its.toArray.size == its2.toArray.size)=eqVs xs ys:=by
  rw [← eqVs_all,List.size_toArray,List.size_toArray,← r1.length,← r2.length]
 rw [e]
 exact q
end
theorem Inv.above {X:Cx} {pins:List (Addr × Obj)} {σ:St} {H:Hp} {s:Shared} (I:Inv X pins σ H s):sysModules < s.heap.objs.size:=by
 have h:mainGlobals < s.heap.objs.size:=(I.mod.glob.keeps I.bk).lt
 exact Nat.lt_trans (by decide) h
section
variable {X:Cx}
theorem call_isiT:CallR X (.builtin "isinstance") (fun vs H Q=>∃p xs c cv b,vs=[.ref p,c]∧SqT X.K H p xs∧clsV c=some cv∧PySem.W.kitOne X.K (.type "tuple") cv=some b∧Q (.bl b) H):=by
 intro pins s σ H ys us Q I r h
 obtain ⟨p,xs,c,cv,b,rfl,hs,e1,e2,q⟩:=h
 obtain ⟨u,v,rfl,rx,rc⟩:=vals2 r
 cases (show u=Value.ref p from rx)
 obtain ⟨its,rv,⟨o,h1,h2,_⟩,_⟩:=I.tuple hs
 rw [clsV_rel e1 rc]
 exact PySem.W.kia_one PySem.W.kitx_tuple I.kIn ⟨o,h1,h2⟩ e2 (fun z=>nomatch z) fun tk=>⟨.bl b,H,I.tok tk,rfl,q⟩
theorem op_neT (hu:X.A.units < cLine):OpR X (compareOp .NotEq) (rEqT X.K true):=by
 intro pins s σ H x y v u Q I rx ry h
 obtain ⟨a,b,xs,ys,rfl,rfl,ha,hb,f1,f2,q⟩:=h
 cases rx
 cases ry
 obtain ⟨its,r1,p1,_⟩:=I.tuple ha
 obtain ⟨its2,r2,p2,_⟩:=I.tuple hb
 refine SeqAt.RcNeAt.tuples (show s.heap.IsTuple a its.toArray from p1) (show s.heap.IsTuple b its2.toArray from p2) hu (items_eq r1 r2 f1 f2) _ _ _ _ ⟨.bl _,H,I,rfl,?_⟩
 have e:((List.range (min its.toArray.size its2.toArray.size)).all (eAt xs ys) && its.toArray.size == its2.toArray.size)=eqVs xs ys:=by
  rw [← eqVs_all,List.size_toArray,List.size_toArray,← r1.length,← r2.length]
 rw [e]
 exact q
end
def clOf (env:Env):List (Str × NameKind)→List (Str × Addr)→List (Str × Addr)
 | [],cs=>cs
 | (n,k) :: r,cs=>clOf env r (if (k == .free)=true then (n,(env.cells.lookup n).getD 0) :: cs else cs)
theorem clOf_run {env:Env}:∀{names:List (Str × NameKind)} {cs:List (Str × Addr)},(∀y∈names,y.2 = .free→(env.cells.lookup y.1).isSome=true)→
  (forIn names cs fun (x:Str × NameKind) (r:List (Str × Addr))=>if (x.2 == .free)=true then (do let c ← cellOf env x.1; pure (ForInStep.yield ((x.1,c) :: r))) else pure (ForInStep.yield r):Sem (List (Str × Addr)))=pure (clOf env names cs)
 | [],cs,_=>rfl
 | (n,k) :: r,cs,h=>by
  have ih:=fun cs'=>clOf_run (env:=env) (names:=r) (cs:=cs') fun y hy=>h y (List.mem_cons_of_mem _ hy)
  rw [List.forIn_cons]
  by_cases hk:(k == NameKind.free)=true
  ·have hs:=h (n,k) List.mem_cons_self (by simpa using hk)
   obtain ⟨c,hc⟩:=Option.isSome_iff_exists.mp hs
   have e:cellOf env n=pure c:=by unfold cellOf; rw [show env.cells.lookup n=some c from hc]
   simp only [hk,if_true,e,clOf]
   rw [show env.cells.lookup n=some c from hc]
   exact ih _
  ·simp only [hk,clOf]
   exact ih _
theorem closure_eq {scope:Scope} {env:Env} (h:∀y∈scope.names,y.2 = .free→(env.cells.lookup y.1).isSome=true):closureFor scope env=pure (clOf env scope.names []):=by
 have e:=clOf_run (env:=env) (cs:=[]) h
 unfold closureFor
 simp only [e]
 rfl
theorem clOf_sub {env:Env} {x:Str} {c:Addr}:∀{names:List (Str × NameKind)} {cs:List (Str × Addr)},(clOf env names cs).lookup x=some c→cs.lookup x=some c∨((x,NameKind.free)∈names∧(env.cells.lookup x).getD 0=c)
 | [],cs,h=>.inl h
 | (n,k) :: r,cs,h=>by
  unfold clOf at h
  rcases clOf_sub (names:=r) h with z | ⟨z1,z2⟩
  ·by_cases hk:(k == NameKind.free)=true
   ·rw [if_pos hk] at z
    rw [List.lookup_cons] at z
    cases hx:x == n with
    | true=>
     rw [hx] at z
     have e:x=n:=by simpa using hx
     subst e
     have ek:k = .free:=by simpa using hk
     subst ek
     exact .inr ⟨List.mem_cons_self,Option.some.inj z⟩
    | false=>rw [hx] at z; exact .inl z
   ·rw [if_neg hk] at z
    exact .inl z
  ·exact .inr ⟨List.mem_cons_of_mem _ z1,z2⟩
theorem clOf_keep {env:Env} {x:Str}:∀{names:List (Str × NameKind)} {cs:List (Str × Addr)},cs.lookup x=some ((env.cells.lookup x).getD 0)→(clOf env names cs).lookup x=some ((env.cells.lookup x).getD 0)
 | [],cs,h=>h
 | (n,k) :: r,cs,h=>by
  unfold clOf
  refine clOf_keep (names:=r) ?_
  by_cases hk:(k == NameKind.free)=true
  ·rw [if_pos hk,List.lookup_cons]
   cases hx:x == n with
   | true=>
    have e:x=n:=by simpa using hx
    subst e
    rfl
   | false=>exact h
  ·rw [if_neg hk]; exact h
theorem clOf_has {env:Env} {x:Str}:∀{names:List (Str × NameKind)} {cs:List (Str × Addr)},(x,NameKind.free)∈names→(clOf env names cs).lookup x=some ((env.cells.lookup x).getD 0)
 | [],cs,h=>nomatch h
 | (n,k) :: r,cs,h=>by
  unfold clOf
  rcases List.mem_cons.mp h with z | z
  ·cases z
   refine clOf_keep (names:=r) ?_
   rw [if_pos (by rfl),List.lookup_cons]
   simp
  ·exact clOf_has (names:=r) z
theorem mem_of_look {x:Str} {k:NameKind}:∀{names:List (Str × NameKind)},names.lookup x=some k→(x,k)∈names
 | [],h=>nomatch h
 | (n,k') :: r,h=>by
  rw [List.lookup_cons] at h
  cases hx:x == n with
  | true=>
   rw [hx] at h
   have e:x=n:=by simpa using hx
   subst e
   cases h
   exact List.mem_cons_self
  | false=>rw [hx] at h; exact List.mem_cons_of_mem _ (mem_of_look h)
theorem relabel_look {env:Env} {x:Str} {k':NameKind}:∀{names:List (Str × NameKind)},
  (names.map fun (n,k)=>if (k == NameKind.free && env.scope.kind == .function && env.kindOf n == some .cell) then (n,NameKind.cell) else (n,k)).lookup x=some k'→∃k,names.lookup x=some k∧(k'=k∨(k = .free∧k' = .cell))
 | [],h=>nomatch h
 | (n,k) :: r,h=>by
  rw [List.map_cons] at h
  by_cases hc:(k == NameKind.free && env.scope.kind == .function && env.kindOf n == some .cell)=true
  ·simp only [hc,if_true] at h
   rw [List.lookup_cons] at h ⊢
   cases hx:x == n with
   | true=>
    rw [hx] at h
    cases h
    have ek:k = .free:=by
     rw [Bool.and_eq_true,Bool.and_eq_true] at hc
     simpa using hc.1.1
    exact ⟨k,rfl,.inr ⟨ek,rfl⟩⟩
   | false=>rw [hx] at h; exact relabel_look h
  ·simp only [hc,Bool.false_eq_true,if_false] at h
   rw [List.lookup_cons] at h ⊢
   cases hx:x == n with
   | true=>rw [hx] at h; exact ⟨k',h,.inl rfl⟩
   | false=>rw [hx] at h; exact relabel_look h
theorem relabel_free {env:Env} {x:Str}:∀{names:List (Str × NameKind)},names.lookup x=some .free→
  (names.map fun (n,k)=>if (k == NameKind.free && env.scope.kind == .function && env.kindOf n == some .cell) then (n,NameKind.cell) else (n,k)).lookup x=some .cell∨
  (names.map fun (n,k)=>if (k == NameKind.free && env.scope.kind == .function && env.kindOf n == some .cell) then (n,NameKind.cell) else (n,k)).lookup x=some .free
 | [],h=>nomatch h
 | (n,k) :: r,h=>by
  rw [List.map_cons]
  rw [List.lookup_cons] at h
  by_cases hc:(k == NameKind.free && env.scope.kind == .function && env.kindOf n == some .cell)=true
  ·simp only [hc,if_true,List.lookup_cons]
   cases hx:x == n with
   | true=>exact .inl rfl
   | false=>rw [hx] at h; exact relabel_free h
  ·simp only [hc,Bool.false_eq_true,if_false,List.lookup_cons]
   cases hx:x == n with
   | true=>rw [hx] at h; cases h; exact .inr rfl
   | false=>rw [hx] at h; exact relabel_free h
def blk (X:Cx) (scope:Scope) (N:List Str) (s:Shared) (H:Hp) (fp:List Addr):Cx:=
 {X with N:=N,s₀:=s,H₀:=H,env:=compEnvC scope (clOf X.env scope.names []) s.heap.objs.size X.env,outer:=X.stack,stack:=X.stack,ex:=fp,fn:=fun _=>false,pn:=[],xe:=fun _ _=>False}
structure BlkOk (esc scope:Scope) (N:List Str) (fi:List Nat):Prop where
 kind:scope.kind = .function
 nocell:∀y∈scope.names,y.2≠.cell
 loc:∀y∈scope.names,y.2 = .local→scope.names.lookup y.1=some .local
 free:∀y∈scope.names,y.2 = .free→esc.names.lookup y.1=some .cell∨esc.names.lookup y.1=some .free
 ix:∀i∈fi,scope.names.lookup (N.getD i "")=some .free
def nB (N os:List Str) (fi:List Nat):List Str:=os ++ fi.map fun i=>N.getD i ""
def sB (σ:St) (os:List Str) (fi:List Nat):St:=os.map (fun _=>none) ++ fi.map fun i=>(σ[i]?).join
section
variable {X:Cx} {pins:List (Addr × Obj)} {σ:St} {H:Hp} {s:Shared} {scope esc:Scope} {os:List Str} {fi:List Nat} {fp:List Addr}
theorem blk_cells (B:BlkOk esc scope X.N fi) (he:X.env.scope=esc) (I:Inv X pins σ H s):∀y∈scope.names,y.2 = .free→(X.env.cells.lookup y.1).isSome=true:=fun y hy hf=>by
 have k:=B.free y hy hf
 rw [← he] at k
 obtain ⟨c,e⟩:=I.ok.has y.1 k
 rw [e]; rfl
theorem blk_cl (B:BlkOk esc scope X.N fi) (he:X.env.scope=esc) (I:Inv X pins σ H s) {x:Str} {c:Addr} (h:(clOf X.env scope.names []).lookup x=some c):X.env.cells.lookup x=some c:=by
 rcases clOf_sub h with z | ⟨z1,z2⟩
 ·cases z
 ·obtain ⟨d,e⟩:=Option.isSome_iff_exists.mp (blk_cells B he I _ z1 rfl)
  rw [show X.env.cells.lookup x=some d from e] at z2 ⊢
  rw [← z2]; rfl
theorem blk_ok (B:BlkOk esc scope X.N fi) (he:X.env.scope=esc) (I:Inv X pins σ H s) (hf:∀b∈fp,FpOk X pins H b) (ho:∀b∈fp,∃o,s.heap.get? b=some o):(blk X scope (nB X.N os fi) s H fp).Ok where
 mod:=I.ok.mod
 kind:=B.kind
 glob:=I.ok.glob
 blt:=I.ok.blt
 above:=Nat.le_refl _
 inj:=fun x y c h1 h2=>I.ok.inj x y c (blk_cl B he I h1) (blk_cl B he I h2)
 has:=fun x h=>by
  have q:∃k,scope.names.lookup x=some k∧(k = .cell∨k = .free):=by
   rcases h with h | h
   ·obtain ⟨k,e,z | ⟨z,_⟩⟩:=relabel_look h
    ·exact ⟨k,e,.inl z.symm⟩
    ·exact ⟨k,e,.inr z⟩
   ·obtain ⟨k,e,z | ⟨_,z⟩⟩:=relabel_look h
    ·exact ⟨k,e,.inr z.symm⟩
    ·cases z
  obtain ⟨k,e,z | z⟩:=q
  ·subst z; exact absurd rfl (B.nocell _ (mem_of_look e))
  ·subst z; exact ⟨_,clOf_has (mem_of_look e)⟩
 cab:=fun x c h _=>nomatch h
 hd:=I.ok.hd
 frames:=I.ok.frames
 stk:=.inl rfl
 exf:=fun b hb=>by
  obtain ⟨o,e⟩:=ho b hb
  exact ⟨Nat.ne_of_lt (Heap.lt_size e),fun x c h=>(hf b hb).2.2.2.2.1 x c (blk_cl B he I h)⟩
 bs:=I.bs
 bsz:=Nat.le_trans I.ok.bsz I.sz
 noex:=fun b o e hb=>by
  rcases (hf b hb).2.2.2.1 with z | z
  ·exact I.ok.noex b o e z
  ·exact absurd (Nat.lt_of_lt_of_le (Heap.lt_size e) (Nat.le_trans I.ok.bsz z)) (Nat.lt_irrefl _)
 exfs:=fun b hb z=>by
  rcases List.mem_cons.mp (I.stkSub b z) with e | e
  ·exact (hf b hb).2.1 e
  ·exact (hf b hb).2.2.1 e
 funs:=I.stack
 frf:=I.stkFree
theorem blk_inv {h1:Heap} {t1:Nat} {m1:Str→Option Value} (B:BlkOk esc scope X.N fi) (he:X.env.scope=esc) (I:Inv X pins σ H s) (hf:∀b∈fp,FpOk X pins H b) (ho:∀b∈fp,∃o,s.heap.get? b=some o)
  (k:∀b o,s.heap.get? b=some o→h1.get? b=some o) (hn:h1.Ns s.heap.objs.size m1):Inv (blk X scope (nB X.N os fi) s H fp) [] (sB σ os fi) H {s with heap:=h1,toks:=t1} where
 ok:=blk_ok B he I hf ho
 os:=rfl
 bare:=I.bare
 base:=Un.kept k
 loc:=by
  refine ⟨m1,hn,fun j x v e1 e2 e3=>?_⟩
  have hj:os.length≤j:=by
   by_cases hj:j < os.length
   ·have z:(sB σ os fi)[j]? = some (some v):=e2
    unfold sB at z
    rw [List.getElem?_append_left (by simpa using hj),List.getElem?_map] at z
    cases q:os[j]? with
    | none=>rw [q] at z; cases z
    | some _=>rw [q] at z; cases z
   ·omega
  have z1:(nB X.N os fi)[j]? = some x:=e1
  have z2:(sB σ os fi)[j]? = some (some v):=e2
  unfold nB at z1
  unfold sB at z2
  rw [List.getElem?_append_right hj,List.getElem?_map] at z1
  rw [List.getElem?_append_right (by simpa using hj),List.length_map,List.getElem?_map] at z2
  cases q:fi[j - os.length]? with
  | none=>rw [q] at z1; cases z1
  | some i=>
   rw [q] at z1 z2
   have w1:X.N.getD i "" = x:=Option.some.inj z1
   have w2:(σ[i]?).join=some v:=Option.some.inj z2
   have w3:σ[i]? = some (some v):=by
    cases p:σ[i]? with
    | none=>rw [p] at w2; cases w2
    | some y=>rw [p] at w2; exact congrArg some w2
   have lx:scope.names.lookup x=some .free:=by rw [← w1]; exact B.ix i (List.mem_of_getElem? q)
   have li:i < X.N.length:=by rw [← I.len]; exact (List.getElem?_eq_some_iff.mp w3).1
   have w4:X.N[i]? = some x:=by
    rw [List.getD_eq_getElem?_getD,List.getElem?_eq_getElem li] at w1
    rw [List.getElem?_eq_getElem li]
    exact congrArg some w1
   have kx:=B.free _ (mem_of_look lx) rfl
   rw [← he] at kx
   obtain ⟨m,hm,hl⟩:=I.loc
   obtain ⟨u,r,l⟩:=hl i x v w4 w3 (by rcases kx with kx | kx; exact .inr (.inl kx); exact .inr (.inr kx))
   refine ⟨u,r,.inr ⟨relabel_free lx,?_⟩⟩
   rcases l with ⟨a,_⟩ | ⟨_,c,e,ic⟩
   ·rcases kx with kx | kx <;> rw [show X.env.kindOf x=X.env.scope.names.lookup x from rfl,kx] at a <;> cases a
   ·refine ⟨c,?_,?_⟩
    ·have:=clOf_has (env:=X.env) (cs:=[]) (mem_of_look lx)
     rw [e] at this
     exact this
    ·obtain ⟨o,ho,hd⟩:=ic
     exact ⟨o,k _ o ho,hd⟩
 cell:=fun x c h=>by
  obtain ⟨v,o,ho,hd⟩:=I.cell x c (blk_cl B he I h)
  exact ⟨v,o,k _ o ho,hd⟩
 free:=I.hok.fresh (Nat.le_refl _)
 freeC:=fun x c h=>I.freeC x c (blk_cl B he I h)
 pin:=fun p hp=>nomatch hp
 hok:=I.hok.kept k
 len:=by
  show (sB σ os fi).length=(nB X.N os fi).length
  unfold sB nB
  simp
theorem blk_out {N:List Str} {s':Shared} {H':Hp} {σ':St} {pins':List (Addr × Obj)} {h':Heap} (I:Inv X pins σ H s) (hf:∀b∈fp,FpOk X pins H b) (I':Inv (blk X scope N s H fp) pins' σ' H' s') (sb:Heap.SameBut s.heap.objs.size s'.heap h') :
  Inv X pins σ H' {s' with heap:=h'}:=by
 have ne:∀b o,s.heap.get? b=some o→b≠s.heap.objs.size:=fun b o e=>Nat.ne_of_lt (Heap.lt_size e)
 have un:Un (frs X.stack) fp H H' s.heap h':=by
  have u:Un (frs X.stack) fp H H' s.heap s'.heap:=I'.base
  exact ⟨fun b o e n hb hx=>(sb.2 b (ne b o e)).trans (u.keep b o e n hb hx),fun b o e n hb hx=>by
    obtain ⟨sl,q⟩:=u.slot b o e n hb hx
    exact ⟨sl,(sb.2 b (ne b o e)).trans q⟩,u.free,fun b o e hx=>by
    obtain ⟨o',q⟩:=u.there b o e hx
    exact ⟨o',(sb.2 b (ne b o e)).trans q⟩,u.tups,u.frzs,u.tbls⟩
 have hok:HOk X.prog X.w H' h':=fun b ob e=>by
  have fr:H' s.heap.objs.size=none:=I'.free
  refine (I'.hok b ob e).stay (fun c w' hc q=>(sb.2 c ?_).trans q) (fun _ q=>q) fun _ _ q=>q
  rintro rfl
  rcases hc with rfl | hc
  ·rw [fr] at e; cases e
  ·rw [fr] at hc; cases hc
 obtain ⟨hh,g,d,t,os'⟩:=s'
 obtain rfl:os'=s.os:=I'.os
 have J:=I.call (h':=h') (g':=g) (d':=d) (t':=t) (ch:=fp) un hok I'.bare fun b hb=>⟨(hf b hb).2.2.2.1,(hf b hb).2.1,(hf b hb).2.2.2.2.1,(hf b hb).2.2.2.2.2⟩
 exact J
end
abbrev F0:Value→Shared→Prop:=fun _ _=>False
theorem of_F0 {α:Type} {M:Model} {A:Around} {t:Sem α} {Q Q':α→Shared→Prop} {E:Value→Shared→Prop} {s:Shared} (h:wpAny M A t Q F0 s) (hQ:∀a s,Q a s→Q' a s):wpAny M A t Q' E s:=wpAny_mono h hQ fun _ _ z=>z.elim
def PTs (X:Cx) (ifs:List Expr) (t:TT):Prop:=
 ∀(pins:List (Addr × Obj)) (s:Shared) (σ:St) (H:Hp) (Q:Bool→Hp→Prop),Inv X pins σ H s→t σ H Q→
  wpAny (model X.prog X.w) X.A (forIn ifs true fun e b=>if b=true then (do let y ← isTrue e X.env (eval e X.env); pure (ForInStep.yield y)) else pure (ForInStep.yield b)) (TP X pins σ Q) X.xe s
theorem pts_nil {X:Cx}:PTs X [] (fun _ H Q=>Q true H):=fun _ _ _ H _ I h=>wpAny_pure ⟨H,I,h⟩
theorem pts_one {X:Cx} {e:Expr} {t:TT} (h:PT X e t):PTs X [e] t:=by
 intro pins s σ H Q I q
 rw [List.forIn_cons]
 simp only [if_true]
 exact wpAny_bind (wpAny_bind (thn (h pins s σ H Q I q) fun y s1 z=>wpAny_pure (wpAny_pure z)))
theorem comp_loop {P:Program} {w:World} {A:Around} {elt tg iter:Expr} {ifs:List Expr} {scope:Scope} {pos:Pos} {it acc:Value} {env:Env} {R:Result→Shared→Prop} {s:Shared} (I:Nat→Shared→Prop)
  (turn:∀n s,I n s→wpAny (model P w) A (pyNext it) (fun r s1=>match r with
   | none=>R (.ok .next) s1
   | some v=>wpAny (model P w) A (letOwnedTupleGo tg it v) (fun _ s2=>wpAny (model P w) A (assign tg env v) (fun _ s3=>
     wpAny (model P w) A (forIn ifs true fun e b=>if b=true then (do let y ← isTrue e env (eval e env); pure (ForInStep.yield y)) else pure (ForInStep.yield b)) (fun ok s4=>
      if ok=true then wpAny (model P w) A (eval elt env) (fun x s5=>wpAny (model P w) A (call (.builtin "list.append") [acc,x]) (fun _ s6=>∃m,m < n∧I m s6) F0 s5) F0 s4
      else ∃m,m < n∧I m s4) F0 s3) F0 s2) F0 s1) F0 s)
  (n:Nat) (h:I n s):codeAny (model P w) A (.compLoop (.ListComp elt [⟨tg,iter,ifs,0⟩] scope pos) 0 it acc env) R s:=by
 refine codeAny_loop rfl I (fun n s hI=>?_) n h
 show wpAny _ A ((compTurn (.ListComp elt [⟨tg,iter,ifs,0⟩] scope pos) 0 it acc env).onRaise (fun x=>do noteFrame x env; theTreesLotGoes x)) _ _ s
 refine wpAny_noted ?_
 rw [compTurn_list]
 refine wpAny_bind (wpAny_standAt (wpAny_bind (of_F0 (turn n s hI) fun r s1 h1=>?_)))
 cases r with
 | none=>exact wpAny_pure h1
 | some v=>
  refine wpAny_bind (of_F0 h1 fun _ s2 h2=>wpAny_bind (of_F0 h2 fun _ s3 h3=>wpAny_bind (of_F0 h3 fun ok s4 h4=>?_)))
  cases ok with
  | false=>exact wpAny_pure ⟨rfl,h4⟩
  | true=>exact wpAny_bind (wpAny_bind (of_F0 h4 fun x s5 h5=>wpAny_bind (of_F0 h5 fun _ s6 h6=>wpAny_pure (wpAny_pure ⟨rfl,h6⟩))))
def LCr (l:Addr) (J:It) (g:TG) (tt:TT) (te:TE) (σb:St) (H:Hp) (Q:VK):Prop:=∃W:Nat→Nat→St→Hp→Prop,(∃m,W 0 m σb H)∧∀i m σ2 H2,W i m σ2 H2→
 (J.stop i H2∧Q (.ref l) H2)∨(J.go i H2∧∀x H3,J.yld i H2 x H3→g x σ2 H3 fun σ4 H4=>tt σ4 H4 fun ok H5=>
  if ok=true then te σ4 H5 fun v H6=>∃xs,H6 l=some (.lst xs)∧xs.length < sizeLine∧∃m',m' < m∧W (i + 1) m' σ4 (upd H6 l (.lst (xs ++ [v]))) else ∃m',m' < m∧W (i + 1) m' σ4 H5)
def tLC (os:List Str) (fi:List Nat) (wi:TI) (g:TG) (tt:TT) (te:TE):TE:=fun σ H Q=>wi σ H fun J H1=>∀l,H1 l=none→LCr l J g tt te (sB σ os fi) (upd H1 l (.lst [])) Q
section
variable {X:Cx} {tg iter elt:Expr} {ifs:List Expr} {scope esc:Scope} {pos:Pos} {N os:List Str} {fi:List Nat} {wi:TI} {g:TG} {tt:TT} {te:TE}
theorem comp_core {pins:List (Addr × Obj)} {σ:St} {H:Hp} {s:Shared} {E:Value→Shared→Prop} {it:Addr} {fp:List Addr} {tn:Nat→Heap→Prop} {J:It} {Q:VK} {RR:Value→Addr→Result→Shared→Prop} (hc:X.calm=true) (hN:X.N=N) (he:X.env.scope=esc) (B:BlkOk esc scope N fi)
  (hg:∀s H fp,PG (blk X scope (nB N os fi) s H fp) tg g) (ht:∀s H fp,PTs (blk X scope (nB N os fi) s H fp) ifs tt) (hel:∀s H fp,PE (blk X scope (nB N os fi) s H fp) elt te)
  (I:Inv X pins σ H s) (T:Turn X.prog X.w X.K tg J fp it tn) (st:tn 0 s.heap) (hf:∀b∈fp,FpOk X pins H b) (q:∀l,H l=none→LCr l J g tt te (sB σ os fi) (upd H l (.lst [])) Q)
  (hRR:∀D s3 H3 s' σ' H',Inv X pins σ H3 s3→(∀b∈fp,FpOk X pins H3 b)→Inv (blk X scope (nB N os fi) s3 H3 fp) [] σ' H' s'→Q (.ref D) H'→RR (.ref D) s3.heap.objs.size (.ok .next) s') :
  wpAny (model X.prog X.w) X.A (newList []) (fun acc s3=>wpAny (model X.prog X.w) X.A (newFunctionEnv scope X.env.globals (clOf X.env scope.names []) [] X.env.qual none .none (some X.env)) (fun cenv s4=>
   codeAny (model X.prog X.w) X.A (.compStart (.ListComp elt [⟨tg,iter,ifs,0⟩] scope pos) 0 (.ref it) acc {cenv with scope:=relabel scope X.env}) (RR acc cenv.locals) s4) E s3) E s:=by
 subst hN
 have fresh:H s.heap.objs.size=none:=I.hok.fresh (Nat.le_refl _)
 refine wpAny_newObj_type ?_
 have I3:Inv X pins σ (upd H s.heap.objs.size (.lst [])) {s with heap:=s.heap.push {cls:=.type "list",dict:=none,data:=.seq ([]:List Value).toArray}}:=
  I.laid (t':=s.toks) (fun b u e=>Heap.get?_push_of_some _ e) (Nat.le_refl _) ⟨Nat.zero_le _,[],0,.nil,Heap.get?_push_size _ rfl⟩
 have old:∀b∈fp,∃o,s.heap.get? b=some o:=fun b hb=>by
  obtain ⟨o,e,_⟩:=T.obj _ _ st b hb
  exact ⟨o,e⟩
 have hf3:∀b∈fp,FpOk X pins (upd H s.heap.objs.size (.lst [])) b:=fun b hb=>by
  obtain ⟨o,e⟩:=old b hb
  exact ⟨by rw [upd_ne (Nat.ne_of_lt (Heap.lt_size e))]; exact (hf b hb).1,(hf b hb).2⟩
 have st3:tn 0 (s.heap.push {cls:=.type "list",dict:=none,data:=.seq ([]:List Value).toArray}):=T.keep _ _ _ st fun b hb o e=>Heap.get?_push_of_some _ e
 have q3:=q _ fresh
 have ho3:∀b∈fp,∃o,(s.heap.push {cls:=.type "list",dict:=none,data:=.seq ([]:List Value).toArray}).get? b=some o:=fun b hb=>by
  obtain ⟨o,e⟩:=old b hb
  exact ⟨o,Heap.get?_push_of_some _ e⟩
 have RR3:=hRR s.heap.objs.size {s with heap:=s.heap.push {cls:=.type "list",dict:=none,data:=.seq ([]:List Value).toArray}} (upd H s.heap.objs.size (.lst []))
 generalize s.heap.objs.size=D at *
 generalize upd H D (.lst [])=H3 at *
 generalize s.heap.push {cls:=.type "list",dict:=none,data:=.seq ([]:List Value).toArray}=h3 at *
 refine wpAny_newFunctionEnv B.nocell (by intro y hy; simp at hy) (fun h4 hn4 sb4=>?_) B.kind
 have k4:∀b o,h3.get? b=some o→h4.get? b=some o:=fun b o e=>(sb4.2 b (Nat.ne_of_lt (Heap.lt_size e))).trans (Heap.get?_push_of_some _ e)
 have I4:=blk_inv (os:=os) (t1:=s.toks + ([]:List (Str × Value)).length) B he I3 hf3 ho3 k4 hn4
 have st4:tn 0 h4:=T.keep _ _ _ st3 fun b hb o e=>k4 b o e
 obtain ⟨W,⟨m0,w0⟩,turn⟩:=q3
 have fpB:∀{H':Hp},(∀b∈fp,H' b=none)→∀b∈fp,FpOk (blk X scope (nB X.N os fi) {s with heap:=h3} H3 fp) [] H' b:=fun hn b hb=>by
  refine ⟨hn b hb,(I4.ok.exf b hb).1,I4.ok.exfs b hb,.inl hb,(I4.ok.exf b hb).2,fun p hp=>nomatch hp⟩
 have loop:∀s4:Shared,Inv (blk X scope (nB X.N os fi) {s with heap:=h3} H3 fp) [] (sB σ os fi) H3 s4→tn 0 s4.heap→
   codeAny (model X.prog X.w) X.A (.compLoop (.ListComp elt [⟨tg,iter,ifs,0⟩] scope pos) 0 (.ref it) (.ref D) (compEnvC scope (clOf X.env scope.names []) h3.objs.size X.env)) (RR (.ref D) h3.objs.size) s4:=by
  intro s4 J4 t4
  refine comp_loop (fun n s'=>∃i σ' H',Inv (blk X scope (nB X.N os fi) {s with heap:=h3} H3 fp) [] σ' H' s'∧tn i s'.heap∧(∀b∈fp,H' b=none)∧W i n σ' H') ?_ m0 ⟨0,_,_,J4,t4,fun b hb=>(hf3 b hb).1,w0⟩
  rintro n s5 ⟨i,σ5,H5,I5,t5,fr5,w5⟩
  rcases turn i n σ5 H5 w5 with ⟨stop,qn⟩ | ⟨go,step⟩
  ·refine of_F0 (T.done (blk X scope (nB X.N os fi) {s with heap:=h3} H3 fp) rfl rfl rfl hc i [] s5 σ5 H5 F0 I5 (fpB fr5) t5 stop) fun r s6 ⟨hr,I6⟩=>?_
   subst hr
   exact RR3 s6 σ5 H5 I3 hf3 I6 qn
  ·refine of_F0 (T.item (blk X scope (nB X.N os fi) {s with heap:=h3} H3 fp) rfl rfl rfl hc i [] s5 σ5 H5 F0 I5 (fpB fr5) t5 go) fun r s6 ⟨u,hr,h6⟩=>?_
   subst hr
   refine of_F0 h6 fun _ s7 ⟨x,H7,I7,r7,y7,t7,fr7⟩=>?_
   have I7':=I7.pinned (fpB fr7) (T.obj _ _ t7)
   refine of_F0 (hg _ _ _ _ s7 σ5 H7 x u _ I7' r7 (step x H7 y7)) fun _ s8 ⟨σ8,H8,I8,q8⟩=>?_
   refine of_F0 (ht _ _ _ _ s8 σ8 H8 _ I8 q8) fun ok s9 ⟨H9,I9,q9⟩=>?_
   have again:∀{s':Shared} {H':Hp} {m:Nat},Inv (blk X scope (nB X.N os fi) {s with heap:=h3} H3 fp) ([] ++ pinsAt fp s7.heap) σ8 H' s'→W (i + 1) m σ8 H'→
     ∃i σ' H',Inv (blk X scope (nB X.N os fi) {s with heap:=h3} H3 fp) [] σ' H' s'∧tn i s'.heap∧(∀b∈fp,H' b=none)∧W i m σ' H':=fun {s' H' m} J w=>by
    refine ⟨i + 1,σ8,H',J.unpinned,T.keep _ _ _ t7 fun b hb o e=>(J.pin (b,o) (List.mem_append_right _ (List.mem_append_right _ (mem_pinsAt hb e)))).1,fun b hb=>?_,w⟩
    obtain ⟨o,e,d⟩:=T.obj _ _ t7 b hb
    exact (J.pin (b,o) (List.mem_append_right _ (List.mem_append_right _ (mem_pinsAt hb e)))).2.1
   cases ok with
   | false=>
    obtain ⟨m',lt,w9⟩:=(show ∃m',m' < n∧W (i + 1) m' σ8 H9 from q9)
    exact ⟨m',lt,again I9 w9⟩
   | true=>
    refine of_F0 (hel _ _ _ _ s9 σ8 H9 _ I9 q9) fun y sA ⟨v,HA,IA,rA,xs,hx,hz,m',lt,wA⟩=>?_
    refine of_F0 (mt_append _ sA σ8 HA (.ref D) [v] (.ref D) [y] (fun _ H'=>W (i + 1) m' σ8 H') IA rfl (.cons rA .nil) ⟨D,xs,v,rfl,rfl,hx,hz,wA⟩) fun _ sB' ⟨_,HB,IB,_,wB⟩=>?_
    exact ⟨m',lt,again IB wB⟩
 exact codeAny_compStart_list (loop _ I4 st4) (T.self _ 0 _ _ _ st4 (loop _ I4 st4))
theorem pe_comp (hc:X.calm=true) (hN:X.N=N) (he:X.env.scope=esc) (B:BlkOk esc scope N fi) (hi:PI X tg iter wi)
  (hg:∀s H fp,PG (blk X scope (nB N os fi) s H fp) tg g) (ht:∀s H fp,PTs (blk X scope (nB N os fi) s H fp) ifs tt) (hel:∀s H fp,PE (blk X scope (nB N os fi) s H fp) elt te)
  (hs:∀x,foldedSetIterable iter X.env x=pure x:=by intro _; rfl):PE X (.ListComp elt [⟨tg,iter,ifs,0⟩] scope pos) (tLC os fi wi g tt te):=by
 intro pins s σ H Q I h
 have cells:=blk_cells (by rw [hN]; exact B) he I
 rw [eval_ListComp]
 refine wpAny_comprehension_free (use:=none) rfl hs (closure_eq cells) B.kind B.loc (thn (hi pins s σ H _ I h) fun v s1 h1=>thn h1 fun itv s2 h2=>?_)
 obtain ⟨it,fp,tn,J,H2,rfl,I2,T,st2,f2,q2⟩:=h2
 refine comp_core (RR:=fun acc C=>compPost (model X.prog X.w) X.A X.xe none (EP X pins σ Q) acc C) hc hN he B hg ht hel I2 T st2 f2 q2 ?_
 intro D s3 H3 s' σ' H' I3 f3 I' q
 obtain ⟨m,hn,_⟩:=I'.loc
 exact ⟨m,hn,fun h' sb=>⟨.ref D,H',blk_out I3 f3 I' sb,rfl,q⟩⟩
end
theorem runs_gens {M:Model} {G:PySem.Ctx} {p:Pos} {t:Sem Fin} {fs:List Frame} {a b:Shared} {e:End} (h:Runs M G p t fs a e b):a.gens.size≤b.gens.size:=by
 induction h <;> (try simp only [Shared.setGen,Array.size_setIfInBounds,Array.size_push] at *) <;> omega
theorem wakes_gens {M:Model} {G:PySem.Ctx} {p:Pos} {g:Nat} {r:Resume} {a b:Shared} {x:GenResult} (h:Wakes M G p g r a x b):a.gens.size≤b.gens.size:=by
 have sz:∀(s:Shared) (y:GenState),(s.setGen g y).gens.size=s.gens.size:=fun s y=>by simp [Shared.setGen]
 unfold Wakes at h
 split at h
 ·exact h.elim
 ·split at h
  ·obtain ⟨e,c,q,_,_,rfl⟩:=h
   have:=runs_gens q
   rw [sz] at this ⊢
   exact this
  ·rw [h.2]; first | exact Nat.le_refl _ | (rw [sz]; exact Nat.le_refl _)
  ·rw [h.2]; first | exact Nat.le_refl _ | (rw [sz]; exact Nat.le_refl _)
 ·obtain ⟨e,c,q,_,_,rfl⟩:=h
  have:=runs_gens q
  rw [sz] at this ⊢
  exact this
 ·rw [h.2]; first | exact Nat.le_refl _ | (rw [sz]; exact Nat.le_refl _)
 ·rw [h.2]; first | exact Nat.le_refl _ | (rw [sz]; exact Nat.le_refl _)
theorem wp_gens {α:Type} (M:Model) (G:PySem.Ctx) (k:Nat) (t:Sem α):∀(Q:α→Pos→Shared→Prop) (E:Value→Pos→Shared→Prop) (p:Pos) (a:Shared),k≤a.gens.size→Sem.wp M G t Q E p a→
  Sem.wp M G t (fun x p' b=>k≤b.gens.size∧Q x p' b) (fun e p' b=>k≤b.gens.size∧E e p' b) p a:=by
 induction t with
 | pure _=>intro Q E p a l h; exact ⟨l,h⟩
 | raise _=>intro Q E p a l h; exact ⟨l,h⟩
 | unsupported _=>intro Q E p a _ h; exact h
 | finish _=>intro Q E p a _ h; exact h
 | rule _ _ ih=>intro Q E p a l h; exact ih () Q E p a l h
 | «at» p' _ ih=>intro Q E p a l h; exact ih () Q E p' a l h
 | load _ _ _ ih=>intro Q E p a l h; obtain ⟨o,z,h⟩:=h; exact ⟨o,z,ih o Q E p a l h⟩
 | update _ _ _ _ ih=>intro Q E p a l h; exact ⟨h.1,ih () Q E p _ l h.2⟩
 | loadIfAlive _ _ ih=>intro Q E p a l h; exact ih _ Q E p a l h
 | point _ _ ih=>intro Q E p a l h; exact ih () Q E p a l h
 | register _ _=>intro Q E p a _ h; exact h
 | alloc _ _ ih=>intro Q E p a l h; exact ih _ Q E p _ l h
 | fresh _ ih=>intro Q E p a l h; exact ih _ Q E p _ l h
 | ask _ ih=>intro Q E p a l h; exact ih _ Q E p a l h
 | choose _ _ _ ih=>intro Q E p a l h; exact ⟨h.1,ih _ Q E p _ l h.2⟩
 | os _ _ _ ih=>intro Q E p a l h; exact ih _ Q E p _ l h
 | call _ _ _ _ _ ih=>intro Q E p a l h; obtain ⟨r,b,z,h⟩:=h; exact ⟨r,b,z,ih r Q E p b (Nat.le_trans l (runs_gens z)) h⟩
 | handled _ _ ih=>intro Q E p a l h; exact ih _ Q E p a l h
 | genState _ _ ih=>intro Q E p a l h; obtain ⟨x,z,h⟩:=h; exact ⟨x,z,ih _ Q E p a l h⟩
 | newGen _ _ ih=>intro Q E p a l h; exact ih _ Q E p _ (by simp only [Array.size_push]; omega) h
 | resume _ _ _ _ ih=>intro Q E p a l h; obtain ⟨r,b,z,h⟩:=h; exact ⟨r,b,z,ih r Q E p b (Nat.le_trans l (wakes_gens z)) h⟩
 | yield _ _ _ _=>intro Q E p a _ h; exact h
 | stack _ ih=>intro Q E p a l h; exact ih _ Q E p a l h
 | fork _ _=>intro Q E p a _ h; exact h
 | thread _ ih=>intro Q E p a l h; exact ih _ Q E p a l h
 | await _ _ _ _ _=>intro Q E p a _ h; exact h
theorem any_gens {α:Type} {M:Model} {A:Around} {t:Sem α} {Q:α→Shared→Prop} {E:Value→Shared→Prop} {a:Shared} {k:Nat} (l:k≤a.gens.size) (h:wpAny M A t Q E a) :
  wpAny M A t (fun x b=>k≤b.gens.size∧Q x b) (fun e b=>k≤b.gens.size∧E e b) a:=fun G p hG=>wp_gens M G k t _ _ p a l (h G p hG)
def gA (A:Around) (e:Env):Around:=⟨A.handled,A.depth + 1,A.frames.map (e :: ·),A.guards,A.units + 3⟩
abbrev gE (X:Cx) (scope:Scope) (code:Value) (s:Shared):Env:=genEnv scope (clOf X.env scope.names []) s.heap.objs.size code builtinsNs X.env
def gblk (X:Cx) (scope:Scope) (N:List Str) (code:Value) (s:Shared) (H:Hp) (fp:List Addr):Cx:=
 {X with A:=gA X.A.in1.in1 (gE X scope code s),N:=N,s₀:=s,H₀:=H,env:=gE X scope code s,outer:=X.stack,stack:=gE X scope code s :: X.stack,ex:=fp,fn:=fun _=>false,pn:=[],xe:=fun _ _=>False}
section
variable {X:Cx} {pins:List (Addr × Obj)} {σ:St} {H:Hp} {s:Shared} {scope esc:Scope} {os:List Str} {fi:List Nat} {fp:List Addr} {code:Value}
theorem gblk_ok (B:BlkOk esc scope X.N fi) (he:X.env.scope=esc) (I:Inv X pins σ H s) (hf:∀b∈fp,FpOk X pins H b) (ho:∀b∈fp,∃o,s.heap.get? b=some o):(gblk X scope (nB X.N os fi) code s H fp).Ok where
 mod:=I.ok.mod
 kind:=B.kind
 glob:=I.ok.glob
 blt:=rfl
 above:=Nat.le_refl _
 inj:=fun x y c h1 h2=>I.ok.inj x y c (blk_cl B he I h1) (blk_cl B he I h2)
 has:=fun x h=>by
  rcases h with h | h
  ·exact absurd rfl (B.nocell _ (mem_of_look h))
  ·exact ⟨_,clOf_has (mem_of_look h)⟩
 cab:=fun x c h _=>nomatch h
 hd:=I.ok.hd
 frames:=by
  show (X.A.in1.in1.frames).map (gE X scope code s :: ·)=_
  rw [show X.A.in1.in1.frames=X.A.frames from rfl,I.ok.frames]
  rfl
 stk:=.inr ⟨rfl,rfl⟩
 exf:=fun b hb=>by
  obtain ⟨o,e⟩:=ho b hb
  exact ⟨Nat.ne_of_lt (Heap.lt_size e),fun x c h=>(hf b hb).2.2.2.2.1 x c (blk_cl B he I h)⟩
 bs:=I.bs
 bsz:=Nat.le_trans I.ok.bsz I.sz
 noex:=(blk_ok (os:=os) B he I hf ho).noex
 exfs:=(blk_ok (os:=os) B he I hf ho).exfs
 funs:=I.stack
 frf:=I.stkFree
theorem gblk_inv {h1:Heap} {t1:Nat} {g1:Array GenState} {m1:Str→Option Value} (B:BlkOk esc scope X.N fi) (he:X.env.scope=esc) (I:Inv X pins σ H s) (hf:∀b∈fp,FpOk X pins H b) (ho:∀b∈fp,∃o,s.heap.get? b=some o)
  (k:∀b o,s.heap.get? b=some o→h1.get? b=some o) (hn:h1.Ns s.heap.objs.size m1) (hb:AllBare g1):Inv (gblk X scope (nB X.N os fi) code s H fp) [] (sB σ os fi) H {s with heap:=h1,toks:=t1,gens:=g1} where
 ok:=gblk_ok B he I hf ho
 os:=rfl
 bare:=hb
 base:=Un.kept k
 loc:=by
  obtain ⟨m,hm,hl⟩:=(blk_inv (os:=os) (t1:=t1) B he I hf ho k hn).loc
  refine ⟨m1,hn,fun j x v e1 e2 e3=>?_⟩
  have e3':Vis (relabel scope X.env) x:=by
   rcases e3 with e3 | e3 | e3
   ·exact .inl (lookup_relabel_local e3)
   ·exact absurd rfl (B.nocell _ (mem_of_look e3))
   ·rcases relabel_free (env:=X.env) e3 with z | z
    ·exact .inr (.inl z)
    ·exact .inr (.inr z)
  obtain ⟨u,r,l⟩:=hl j x v e1 e2 e3'
  refine ⟨u,r,?_⟩
  have kx:scope.names.lookup x=some .free:=by
   rcases e3 with e3 | e3 | e3
   ·have hj:os.length≤j:=by
     by_cases hj:j < os.length
     ·have z:(sB σ os fi)[j]? = some (some v):=e2
      unfold sB at z
      rw [List.getElem?_append_left (by simpa using hj),List.getElem?_map] at z
      cases q:os[j]? with
      | none=>rw [q] at z; cases z
      | some _=>rw [q] at z; cases z
     ·omega
    have z1:(nB X.N os fi)[j]? = some x:=e1
    unfold nB at z1
    rw [List.getElem?_append_right hj,List.getElem?_map] at z1
    cases q:fi[j - os.length]? with
    | none=>rw [q] at z1; cases z1
    | some i=>
     rw [q] at z1
     have w1:X.N.getD i "" = x:=Option.some.inj z1
     rw [← w1]
     exact B.ix i (List.mem_of_getElem? q)
   ·exact absurd rfl (B.nocell _ (mem_of_look e3))
   ·exact e3
  rcases l with ⟨a,_⟩ | ⟨_,c,e,ic⟩
  ·have a':(relabel scope X.env).names.lookup x=some .local:=a
   rcases relabel_free (env:=X.env) kx with z | z
   ·have z':(relabel scope X.env).names.lookup x=some .cell:=z
    rw [z'] at a'; cases a'
   ·have z':(relabel scope X.env).names.lookup x=some .free:=z
    rw [z'] at a'; cases a'
  ·exact .inr ⟨.inr kx,c,e,ic⟩
 cell:=(blk_inv (os:=os) (t1:=t1) B he I hf ho k hn).cell
 free:=I.hok.fresh (Nat.le_refl _)
 freeC:=fun x c h=>I.freeC x c (blk_cl B he I h)
 pin:=fun p hp=>nomatch hp
 hok:=I.hok.kept k
 len:=by
  show (sB σ os fi).length=(nB X.N os fi).length
  unfold sB nB
  simp
theorem gblk_out {N:List Str} {s':Shared} {H':Hp} {σ':St} {pins':List (Addr × Obj)} {h':Heap} {g':Array GenState} (I:Inv X pins σ H s) (hf:∀b∈fp,FpOk X pins H b) (I':Inv (gblk X scope N code s H fp) pins' σ' H' s')
  (k:∀b o,s'.heap.get? b=some o→h'.get? b=some o) (hb:AllBare g'):Inv X pins σ H' {s' with heap:=h',gens:=g'}:=by
 have un:Un (frs X.stack) fp H H' s.heap h':=by
  have u:Un (frs X.stack) fp H H' s.heap s'.heap:=I'.base
  exact ⟨fun b o e n hb hx=>k b o (u.keep b o e n hb hx),fun b o e n hb hx=>by
    obtain ⟨sl,q⟩:=u.slot b o e n hb hx
    exact ⟨sl,k b _ q⟩,u.free,fun b o e hx=>by
    obtain ⟨o',q⟩:=u.there b o e hx
    exact ⟨o',k b o' q⟩,u.tups,u.frzs,u.tbls⟩
 have hok:HOk X.prog X.w H' h':=I'.hok.kept k
 obtain ⟨hh,g,d,t,os'⟩:=s'
 obtain rfl:os'=s.os:=I'.os
 have J:=I.call (h':=h') (g':=g') (d':=d) (t':=t) (ch:=fp) un hok hb fun b hb=>⟨(hf b hb).2.2.2.1,(hf b hb).2.1,(hf b hb).2.2.2.2.1,(hf b hb).2.2.2.2.2⟩
 exact J
end
theorem bare_set {a:Array GenState} {g:Nat} {y:GenState} (h:AllBare a) (hy:y.bare=true):AllBare (a.setIfInBounds g y):=fun z hz=>by
 obtain ⟨i,hi,rfl⟩:=Array.mem_iff_getElem.mp hz
 have hi':i < a.size:=by simpa using hi
 rw [Array.getElem_setIfInBounds hi']
 split
 ·exact hy
 ·exact h _ (Array.getElem_mem _)
theorem setGen_size {s:Shared} {g:Nat} {y:GenState}:(s.setGen g y).gens.size=s.gens.size:=by simp [Shared.setGen]
theorem setGen_get {s:Shared} {g:Nat} {y:GenState} (h:g < s.gens.size):(s.setGen g y).gens[g]? = some y:=by simp [Shared.setGen,h]
theorem setGen_two {s:Shared} {g:Nat} {x y:GenState}:(s.setGen g x).setGen g y=s.setGen g y:=by
 simp [Shared.setGen]
theorem Inv.gens {X:Cx} {pins:List (Addr × Obj)} {σ:St} {H:Hp} {s:Shared} {g:Array GenState} (I:Inv X pins σ H s) (h:AllBare g):Inv X pins σ H {s with gens:=g}:=
 ⟨I.ok,I.os,h,I.base,I.loc,I.cell,I.free,I.freeC,I.pin,I.hok,I.len⟩
theorem Inv.setGen {X:Cx} {pins:List (Addr × Obj)} {σ:St} {H:Hp} {s:Shared} {g:Nat} {y:GenState} (I:Inv X pins σ H s) (h:y.bare=true):Inv X pins σ H (s.setGen g y):=I.gens (bare_set I.bare h)
def GLr (J:It) (g:TG) (te:TE) (σb:St) (H:Hp) (Q:VK):Prop:=∃W:Nat→Nat→St→Hp→Prop,(∃m,W 0 m σb H)∧∀i m σ2 H2,W i m σ2 H2→
 (J.stop i H2∧Q (.bl true) H2)∨(J.go i H2∧∀x H3,J.yld i H2 x H3→g x σ2 H3 fun σ4 H4=>te σ4 H4 fun v H5=>∃b,v = .bl b∧if b=true then ∃m',m' < m∧W (i + 1) m' σ4 H5 else Q (.bl false) H5)
def gR (Y:Cx) (ps:List (Addr × Obj)) (Q:VK):Nat→Shared→Shared→Prop:=fun _ _ s=>∃σ H,Inv Y ps σ H s∧Q (.bl true) H
def gY (Y:Cx) (ps:List (Addr × Obj)) (g:Nat) (Q:VK):Protocol:=fun _ _ v s kap=>∃b,v = .bool b∧g < s.gens.size∧∃σ H,Inv Y ps σ H s∧if b=true then kap (.send .none) (s.setGen g .running) else Q (.bl false) H
section
variable {X Y:Cx} {tg iter elt:Expr} {scope:Scope} {pos:Pos} {g:TG} {te:TE} {it:Addr} {fp:List Addr} {tn:Nat→Heap→Prop} {J:It} {Q:VK} {gn:Nat} {ps:List (Addr × Obj)} {W:Nat→Nat→St→Hp→Prop}
theorem seg_gen (hY:Y.A=gA X.A.in1.in1 Y.env) (hx:Y.xe=F0) (hc:Y.calm=true) (hco:Y.env.scope.isCoroutine=false) (hg:PG Y tg g) (hel:PE Y elt te) (T:Turn Y.prog Y.w Y.K tg J fp it tn)
  (stat:∀{H:Hp},(∀b∈fp,H b=none)→∀b∈fp,FpOk Y ps H b)
  (turn:∀i m σ2 H2,W i m σ2 H2→(J.stop i H2∧Q (.bl true) H2)∨(J.go i H2∧∀x H3,J.yld i H2 x H3→g x σ2 H3 fun σ4 H4=>te σ4 H4 fun v H5=>∃b,v = .bl b∧if b=true then ∃m',m' < m∧W (i + 1) m' σ4 H5 else Q (.bl false) H5)) :
  ∀(n m i:Nat) (σ:St) (H:Hp) (s₀ s:Shared),m < n→gn < s.gens.size→Inv Y ps σ H s→tn i s.heap→(∀b∈fp,H b=none)→W i m σ H→
   Seg (model Y.prog Y.w) X.A.in1.in1 (fun n s₀ r s₁=>r = .ok .next∧gR Y ps Q n s₀ s₁) (gY Y ps gn Q) n s₀ (.compLoop (.GeneratorExp elt [⟨tg,iter,[],0⟩] scope pos) 0 (.ref it) .none Y.env)
    ((model Y.prog Y.w).den (.compLoop (.GeneratorExp elt [⟨tg,iter,[],0⟩] scope pos) 0 (.ref it) .none Y.env)) [] s:=by
 have up:∀{α:Type} {t:Sem α} {P P':α→Shared→Prop} {E:Value→Shared→Prop} {s:Shared} {k:Nat},k < s.gens.size→wpAny (model Y.prog Y.w) Y.A t P Y.xe s→(∀a s',k < s'.gens.size→P a s'→P' a s')→
   wpAny (model Y.prog Y.w) (X.A.in1.in1.over (.compLoop (.GeneratorExp elt [⟨tg,iter,[],0⟩] scope pos) 0 (.ref it) .none Y.env) []) t P' E s:=fun {α t P P' E s k} l h f=>by
  rw [hY,hx] at h
  exact wpAny_mono (any_gens (k:=k + 1) l h) (fun a s' z=>f a s' z.1 z.2) fun _ _ z=>z.2.elim
 intro n
 induction n with
 | zero=>intro m i σ H s₀ s lt; omega
 | succ n ih=>
  intro m i σ H s₀ s lt lg I t0 fr w
  show Seg _ _ _ _ _ s₀ _ ((compTurn (.GeneratorExp elt [⟨tg,iter,[],0⟩] scope pos) 0 (.ref it) .none Y.env).onRaise (leaving Y.env)) [] s
  rw [compTurn_gen,Sem.onRaise_eq_wrap]
  refine seg_bind_wrap (wpAny_standAt ?_)
  rcases turn i m σ H w with ⟨stop,q⟩ | ⟨go,step⟩
  ·refine seg_bind_wrap (up lg (T.done Y rfl rfl rfl hc i ps s σ H Y.xe I (stat fr) t0 stop) fun r s1 _ ⟨hr,I1⟩=>?_)
   subst hr
   exact seg_end (.ok .next) ⟨rfl,σ,H,I1,q⟩
  ·refine seg_bind_wrap (up lg (T.item Y rfl rfl rfl hc i ps s σ H Y.xe I (stat fr) t0 go) fun r s1 l1 ⟨u,hr,h1⟩=>?_)
   subst hr
   refine seg_bind_wrap (up l1 h1 fun _ s2 l2 ⟨x,H2,I2,r2,y2,t2,fr2⟩=>?_)
   have I2':=I2.pinned (stat fr2) (T.obj _ _ t2)
   refine seg_bind_wrap (up l2 (hg _ s2 σ H2 x u _ I2' r2 (step x H2 y2)) fun _ s3 l3 ⟨σ3,H3,I3,q3⟩=>?_)
   refine seg_bind_wrap (wpAny_pure ?_)
   simp only [if_true]
   have hy:∀v,yieldOut Y.env v=yieldValue v:=fun v=>by simp only [yieldOut,hco,Bool.false_eq_true,if_false]
   simp only [hy]
   rw [Sem.bind_eq_wrap',Sem.bind_eq_wrap',Sem.wrap_wrap,Sem.wrap_wrap]
   refine seg_wrap (up l3 (hel _ s3 σ3 H3 _ I3 q3) fun y s4 l4 ⟨v,H4,I4,r4,b,hv,q4⟩=>?_)
   subst hv
   obtain rfl:y=Value.bool b:=r4
   refine seg_at (seg_yield rfl rfl rfl ⟨b,rfl,l4,σ3,H4,I4.unpinned,?_⟩)
   cases b with
   | false=>exact q4
   | true=>
    obtain ⟨m',lt',w'⟩:=(show ∃m',m' < m∧W (i + 1) m' σ3 H4 from q4)
    have t4:tn (i + 1) s4.heap:=T.keep _ _ _ t2 fun b hb o e=>(I4.pin (b,o) (List.mem_append_right _ (List.mem_append_right _ (mem_pinsAt hb e)))).1
    have fr4:∀b∈fp,H4 b=none:=fun b hb=>by
     obtain ⟨o,e,d⟩:=T.obj _ _ t2 b hb
     exact (I4.pin (b,o) (List.mem_append_right _ (List.mem_append_right _ (mem_pinsAt hb e)))).2.1
    exact seg_again rfl (ih m' (i + 1) σ3 H4 _ _ (by omega) (by rw [setGen_size]; exact l4) (I4.unpinned.setGen rfl) t4 fr4 w')
theorem seg_gen0 (hY:Y.A=gA X.A.in1.in1 Y.env) (hx:Y.xe=F0) (T:Turn Y.prog Y.w Y.K tg J fp it tn) {n:Nat} {s₀ s:Shared} {R:GenEnd} {P:Protocol} (t0:tn 0 s.heap)
  (h:Seg (model Y.prog Y.w) X.A.in1.in1 R P n s₀ (.compLoop (.GeneratorExp elt [⟨tg,iter,[],0⟩] scope pos) 0 (.ref it) .none Y.env)
    ((model Y.prog Y.w).den (.compLoop (.GeneratorExp elt [⟨tg,iter,[],0⟩] scope pos) 0 (.ref it) .none Y.env)) [] s) :
  Seg (model Y.prog Y.w) X.A.in1.in1 R P n s₀ (.compStart (.GeneratorExp elt [⟨tg,iter,[],0⟩] scope pos) 0 (.ref it) .none Y.env)
    ((model Y.prog Y.w).den (.compStart (.GeneratorExp elt [⟨tg,iter,[],0⟩] scope pos) 0 (.ref it) .none Y.env)) [] s:=by
 show Seg _ _ _ _ _ s₀ _ ((compStart (.GeneratorExp elt [⟨tg,iter,[],0⟩] scope pos) 0 (.ref it) .none Y.env).onRaise (leaving Y.env)) [] s
 unfold compStart
 rw [Sem.onRaise_eq_wrap]
 show Seg _ _ _ _ _ s₀ _ ((ask >>= _).wrap _ _ _ _) [] s
 refine seg_bind_wrap (wpAny_askSetting ?_)
 split
 ·exact seg_again rfl h
 ·refine seg_bind_wrap (wpAny_rule ?_)
  show Seg _ _ _ _ _ s₀ _ ((standAt iter.pos >>= _).wrap _ _ _ _) [] s
  exact seg_bind_wrap (wpAny_standAt (seg_bind_wrap (T.self _ 0 s _ _ t0 (seg_again rfl h))))
theorem all_gen {pins:List (Addr × Obj)} {σ:St} {a:Addr} {oa:Obj} {E:Value→Shared→Prop} {RR:Result→Shared→Prop} (hh:X.A.handled=none) (hroom:X.A.depth < recursionLimit) (hpa:(a,oa)∈ps) (hga:∀h:Heap,h.get? a=some oa→h.IsGen a gn)
  (ht:∀(s:Shared) (h':Heap) (y:GenState) (σ':St) (H':Hp),Inv Y ps σ' H' s→(∀b o,s.heap.get? b=some o→h'.get? b=some o)→y.bare=true→Q (.bl true) H'→RR (.ok (.ret (.bool true))) {s.setGen gn y with heap:=h'})
  (hf:∀(s:Shared) (y:GenState) (σ':St) (H':Hp),Inv Y ps σ' H' s→y.bare=true→Q (.bl false) H'→RR (.ok (.ret (.bool false))) (s.setGen gn y)) :
  ∀(n:Nat) (gs:GenState) (s:Shared),s.heap.IsGen a gn→s.heap.NoLimit→s.gens[gn]? = some gs→
   gs.Goes (model Y.prog Y.w) X.A.in1.in1 (fun n s₀ r s₁=>r = .ok .next∧gR Y ps Q n s₀ s₁) (gY Y ps gn Q) n (.send .none) (s.setGen gn .running)→
   codeAny (model Y.prog Y.w) X.A (.builtin "all.loop" ⟨[.ref a],[]⟩) RR s:=by
 intro n
 induction n with
 | zero=>
  intro gs s hg hl hgs go
  refine codeAny_builtin F.entry_all_loop ?_
  rw [Around.under_plainId F.plain_all_loop _]
  show wpAny _ X.A.in1 (pyNext (.ref a) >>= _) _ _ s
  refine wpAny_bind (wpAny_pyNext_genexpQ (P:=gR Y ps Q) hh hl hroom hg hgs go (fun v s1 gs' hb hv=>?_) (fun s1 hp h' hk=>?_))
  ·obtain ⟨b,rfl,lt,σ',H',I',q⟩:=hv
   refine wpAny_bind (wpAny_holding (wpAny_truthy_bool ?_))
   refine wpAny_bind (wpAny_letGo ?_)
   cases b with
   | true=>exact False.elim q
   | false=>
    simp only [Bool.false_eq_true,if_false]
    exact wpAny_bind (wpAny_rule (wpAny_pure (hf s1 gs' σ' H' I' hb q)))
  ·obtain ⟨σ',H',I',q⟩:=hp
   exact wpAny_bind (wpAny_rule (wpAny_pure (ht s1 h' .finished σ' H' I' hk rfl q)))
 | succ n ih=>
  intro gs s hg hl hgs go
  refine codeAny_builtin F.entry_all_loop ?_
  rw [Around.under_plainId F.plain_all_loop _]
  show wpAny _ X.A.in1 (pyNext (.ref a) >>= _) _ _ s
  refine wpAny_bind (wpAny_pyNext_genexpQ (P:=gR Y ps Q) hh hl hroom hg hgs go (fun v s1 gs' hb hv=>?_) (fun s1 hp h' hk=>?_))
  ·obtain ⟨b,rfl,lt,σ',H',I',q⟩:=hv
   refine wpAny_bind (wpAny_holding (wpAny_truthy_bool ?_))
   refine wpAny_bind (wpAny_letGo ?_)
   cases b with
   | true=>
    simp only [if_true]
    refine wpAny_pure ⟨plainId_quiet F.plain_all_loop _,ih gs' _ (hga _ (I'.pin _ (List.mem_append_right _ hpa)).1) I'.nolimit (setGen_get lt) ?_⟩
    rw [setGen_two]
    exact q
   | false=>
    simp only [Bool.false_eq_true,if_false]
    exact wpAny_bind (wpAny_rule (wpAny_pure (hf s1 gs' σ' H' I' hb q)))
  ·obtain ⟨σ',H',I',q⟩:=hp
   exact wpAny_bind (wpAny_rule (wpAny_pure (ht s1 h' .finished σ' H' I' hk rfl q)))
end
structure CodeK (K:PySem.W.Frag) (c P:Addr):Prop where
 ex:∃(o:Obj) (vs:Array Value) (file:Str) (tf:Tok) (flags:Int) (tk:Tok) (inF:Bool) (text:Int) (tt:Tok),K.lookup c=some o∧o.cls = .type "code"∧o.data = .fields vs∧vs[11]? = some (.ref P)∧vs.getD 18 .none = .str file tf∧
  vs.getD 7 .none = .int flags tk∧vs.getD 9 .none = .bool inF∧vs.getD 10 .none = .int text tt
 ne:c≠P
structure BmK (X:Cx):Prop where
 ex:∃(bm:Addr) (ob:Obj),X.mg "__builtins__" = some (.ref bm)∧bm≠builtinsNs∧X.base.get? bm=some ob∧ob.cls = .type "module"∧ob.dict=some builtinsNs∧ob.data = .plain
theorem upd_self {H:Hp} {p:Addr} {o:HO} (h:H p=some o):upd H p o=H:=by
 funext b
 by_cases e:b=p
 ·subst e; rw [upd_same,h]
 ·rw [upd_ne e]
section
variable {X:Cx} {pins:List (Addr × Obj)} {σ:St} {H:Hp} {s:Shared} {c P:Addr}
theorem tab_step {E:Value→Shared→Prop} {pos:Pos} {qn:Str} {scope:Scope} {ps:Array Value} (I:Inv X pins σ H s) (hc:X.env.code = .ref c) (C:CodeK X.K c P) (hP:H P=some (.tbl ps)) (tr:TriplesOk ps.toList) :
  wpAny (model X.prog X.w) X.A (genexprCode X.env pos qn scope) (fun code s'=>∃ps',TriplesOk ps'.toList∧Inv X pins σ (upd H P (.tbl ps')) s'∧(∀b o,b≠P→s.heap.get? b=some o→s'.heap.get? b=some o)) E s:=by
 obtain ⟨o,vs,file,tf,flags,tk,inF,text,tt,lk,cl,d,h11,h18,h7,h9,h10⟩:=C.ex
 have ho:=I.kIn c o lk
 have hp:s.heap.get? P=some {cls:=.none,data:=.fields ps}:=I.hok P _ hP
 have g11:vs.getD 11 .none = .ref P:=by
  rw [Array.getD_eq_getD_getElem?,h11]; rfl
 have hok:s.heap.IsCode c P ps:=⟨o,vs,file,tf,flags,tk,inF,text,tt,_,ho,d,g11,h18,h7,h9,h10,hp,rfl,tr,C.ne⟩
 have htab:s.heap.TableAt c P ps:=⟨⟨o,vs,ho,cl,d,h11⟩,hp⟩
 cases hnf:codeAmong pos ps.toList with
 | some c'=>exact wpAny_genexprCode_hit hc hok hnf ⟨ps,tr,by rw [upd_self hP]; exact I,fun b o _ e=>e⟩
 | none=>
  refine wpAny_genexprCodeX hc hok htab hnf fun c' h' tk ext _ _ _ _ tab _=>?_
  have tr':TriplesOk (ps ++ #[rawInt pos.line,rawInt pos.col,.ref c']).toList:=by
   rw [Array.toList_append]
   exact TriplesOk_snoc _ _ _ _ tr
  refine ⟨_,tr',?_,fun b o hb e=>ext b o hb e⟩
  have ne:∀b,H b=none→b≠P:=fun b n z=>by rw [z,hP] at n; cases n
  have neT:∀b u,H b=some u→(∀q,u≠.tbl q)→b≠P:=fun b u e n z=>by rw [z,hP] at e; cases e; exact n _ rfl
  refine I.un (t':=tk) ⟨fun b o e n _ _=>ext b o (ne b n) e,fun b o e n _ _=>⟨o.slots,ext b o (ne b n) e⟩,fun b o e n _=>by rw [upd_ne (ne b n)]; exact n,fun b o e _=>?_,fun b xs e=>by rw [upd_ne (neT b _ e fun _ z=>nomatch z)]; exact e,
   fun b o u e=>by rw [upd_ne (neT b _ e fun _ z=>nomatch z)]; exact e,fun b qs e=>?_⟩ fun b u e=>?_
  ·by_cases hb:b=P
   ·subst hb; exact ⟨_,tab.2⟩
   ·exact ⟨o,ext b o hb e⟩
  ·by_cases hb:b=P
   ·subst hb
    rw [hP] at e; cases e
    exact ⟨_,upd_same⟩
   ·exact ⟨#[],by rw [upd_ne hb,e]; simp⟩
  ·by_cases hb:b=P
   ·subst hb
    rw [upd_same] at e; cases e
    exact tab.2
   ·rw [upd_ne hb] at e
    refine (I.hok b u e).stay (fun d v hd q=>ext d v ?_ q) (fun d q=>by rw [upd_ne (neT d _ q fun _ z=>nomatch z)]; exact q) fun d xs q=>by rw [upd_ne (neT d _ q fun _ z=>nomatch z)]; exact q
    rcases hd with z | z
    ·rw [z]; exact hb
    ·exact neT d _ z fun _ y=>nomatch y
end
def tAll (P:Addr) (os:List Str) (fi:List Nat) (wi:TI) (g:TG) (te:TE):TE:=fun σ H Q=>wi σ H fun J H1=>∃ps,H1 P=some (.tbl ps)∧TriplesOk ps.toList∧∀ps',TriplesOk ps'.toList→GLr J g te (sB σ os fi) (upd H1 P (.tbl ps')) Q
theorem Room.gen {k:Nat} {A:Around} {e:Env} (r:Room (k + 1) A):Room k (gA A.in1.in1 e):=
 ⟨r.hd,by have:=r.dp; show A.depth + 1 + 3 * k + 5 < _; omega,by have:=r.un; show A.units + 1 + 1 + 3 + 16 * k + 200 < _; omega⟩
section
variable {X:Cx} {tg iter elt:Expr} {scope esc:Scope} {pos gpos p:Pos} {N os:List Str} {fi:List Nat} {wi:TI} {g:TG} {te:TE} {c P:Addr} {k:Nat}
theorem pe_all (hc:X.calm=true) (hr:Room k X.A) (hgl:Gl X "all") (hm:X.mg "all" = none) (hcd:X.env.code = .ref c) (CK:CodeK X.K c P) (BM:BmK X) (hN:X.N=N) (he:X.env.scope=esc) (B:BlkOk esc scope N fi) (hco:scope.isCoroutine=false) (h0:scope.names.lookup (".0" : Str)=some NameKind.local) (hi:PI X tg iter wi)
  (hg:∀code s H fp,PG (gblk X scope (nB N os fi) code s H fp) tg g) (hel:∀code s H fp,PE (gblk X scope (nB N os fi) code s H fp) elt te)
  (hs:∀x,genFold iter X.env x=pure x:=by intro _; rfl):PE X (.Call (.Name "all" p) [.GeneratorExp elt [⟨tg,iter,[],0⟩] scope gpos] [] pos) (tAll P os fi wi g te):=by
 intro pins s σ H Q I h
 subst hN
 have cells:=blk_cells B he I
 have hroom:X.A.depth < recursionLimit:=by have:=hr.dp; omega
 refine wpAny_Call_Name_kw (ld_blt I hgl hm boot_all ?_)
 refine PyProof.Rows.callWith_builtin1 ?_ rfl rfl
 show wpAny _ _ (spliced ((false,eval (.GeneratorExp elt [⟨tg,iter,[],0⟩] scope gpos) X.env) :: backTo pos (starEach [] X.env))) _ _ s
 refine Calls.spliced_cons (wpAny_GeneratorExp_make hco (closure_eq cells) B.nocell h0 B.kind hroom (thn (hi pins s σ H _ I h) fun v s1 h1=>thn h1 fun itv s2 h2=>?_) hs)
 obtain ⟨it,fp,tn,J,H2,rfl,I2,T,st2,f2,qs,hP,tr,q2⟩:=h2
 refine ⟨I2.nolimit,thn (tab_step I2 hcd CK hP tr) fun code s3 ⟨qs',tr',I3,k3⟩=>?_⟩
 obtain ⟨bm,ob,b1,b2,b3,b4,b5,b6⟩:=BM.ex
 refine wpAny_builtinsFor (by rw [I3.ok.glob]; exact I3.mod.glob.keeps I3.bk) b1 b2 (I3.bk _ _ b3) b4 b5 b6 ?_
 intro h4 hn4 sb4
 refine Calls.spliced_nil ?_
 have q3:=q2 qs' tr'
 have fpP:∀b∈fp,b≠P:=fun b hb z=>by
  have:=(f2 b hb).1
  rw [z,hP] at this; cases this
 have f3:∀b∈fp,FpOk X pins (upd H2 P (.tbl qs')) b:=fun b hb=>⟨by rw [upd_ne (fpP b hb)]; exact (f2 b hb).1,(f2 b hb).2⟩
 have st3:tn 0 s3.heap:=T.keep _ _ _ st2 fun b hb o e=>k3 b o (fpP b hb) e
 generalize upd H2 P (.tbl qs')=H3 at *
 have k4:∀b o,s3.heap.get? b=some o→h4.get? b=some o:=fun b o e=>(sb4.2 b (Nat.ne_of_lt (Heap.lt_size e))).trans (Heap.get?_push_of_some _ e)
 have ho3:∀b∈fp,∃o,s3.heap.get? b=some o:=fun b hb=>by
  obtain ⟨o,e,_⟩:=T.obj _ _ st3 b hb
  exact ⟨o,e⟩
 have sz4:s3.heap.objs.size < h4.objs.size:=hn4.lt
 obtain ⟨oa,hoa⟩:∃oa:Obj,oa = {cls:=.type "generator",data:=.fields #[.int s3.gens.size 0,.str "<genexpr>" (s3.toks + 1),.str (X.env.qual ++ "<genexpr>") (s3.toks + 1 + 1)]}:=⟨_,rfl⟩
 rw [← hoa]
 have ga:(h4.push oa).get? h4.objs.size=some oa:=Heap.get?_push_size _ (by rw [hoa]; rfl)
 have isg:∀h:Heap,h.get? h4.objs.size=some oa→h.IsGen h4.objs.size s3.gens.size:=fun h e=>⟨oa,_,_,e,by rw [hoa],by rw [hoa],by rw [hoa]⟩
 have hn5:(h4.push oa).Ns s3.heap.objs.size (fun y=>if y = ".0" then some (Value.ref it) else none):=hn4.keeps fun b o e=>Heap.get?_push_of_some _ e
 have k5:∀b o,s3.heap.get? b=some o→(h4.push oa).get? b=some o:=fun b o e=>Heap.get?_push_of_some _ (k4 b o e)
 have cde:∃gc:GenState,gc = .fresh (.compStart (.GeneratorExp elt [⟨tg,iter,[],0⟩] scope gpos) 0 (.ref it) .none (gE X scope code s3)):=⟨_,rfl⟩
 obtain ⟨gc,hgc⟩:=cde
 show wpAny _ _ (call (.builtin "all") [.ref h4.objs.size]) _ _ {s3 with gens:=s3.gens.push (.fresh (.compStart (.GeneratorExp elt [⟨tg,iter,[],0⟩] scope gpos) 0 (.ref it) .none (gE X scope code s3))),toks:=s3.toks + 1 + 1 + 1,heap:=h4.push oa}
 rw [← hgc]
 have bare5:AllBare (s3.gens.push gc):=I3.bare.push (by rw [hgc]; rfl)
 obtain ⟨W,⟨m0,w0⟩,turn⟩:=q3
 refine call_function_tree F.kind_all F.plain_all F.entry_all (F.args_all1 _) ?_
 unfold Builtin.«all»
 refine wpAny_bind (m:=oneArg "all" _) (wpAny_pure ?_)
 refine wpAny_bind (wpAny_pyIter_gen (isg _ ga) ?_)
 refine wpAny_pure ⟨plainId_quiet F.plain_all_loop _,?_⟩
 have IY:Inv (gblk X scope (nB X.N os fi) code s3 H3 fp) [(h4.objs.size,oa)] (sB σ os fi) H3 (({s3 with gens:=s3.gens.push gc,toks:=s3.toks + 1 + 1 + 1,heap:=h4.push oa}:Shared).setGen s3.gens.size .running):=by
  have J0:=gblk_inv (os:=os) (code:=code) (t1:=s3.toks + 1 + 1 + 1) B he I3 f3 ho3 k5 hn5 bare5
  refine (J0.pins_of fun p hp=>?_).setGen rfl
  obtain rfl:=List.mem_singleton.mp hp
  refine ⟨ga,I3.hok.fresh (Nat.le_of_lt sz4),Nat.ne_of_gt sz4,fun z=>?_,fun v=>by rw [hoa]; exact fun z=>nomatch z⟩
  have z':h4.objs.size∈frs X.stack:=z
  rcases List.mem_cons.mp (I3.stkSub _ z') with e | e
  ·exact absurd (Nat.lt_trans I3.lt sz4) (by rw [e]; exact Nat.lt_irrefl _)
  ·exact I3.nofs (Nat.le_of_lt sz4) e
 have stat:∀{H':Hp},(∀b∈fp,H' b=none)→∀b∈fp,FpOk (gblk X scope (nB X.N os fi) code s3 H3 fp) [(h4.objs.size,oa)] H' b:=fun hn b hb=>by
  refine ⟨hn b hb,(IY.ok.exf b hb).1,IY.ok.exfs b hb,.inl hb,(IY.ok.exf b hb).2,fun p hp=>?_⟩
  obtain rfl:=List.mem_singleton.mp hp
  obtain ⟨o,e⟩:=ho3 b hb
  exact Nat.ne_of_gt (Nat.lt_trans (Heap.lt_size e) sz4)
 have lg:s3.gens.size < (s3.gens.push gc).size:=by rw [Array.size_push]; omega
 refine all_gen (X:=X) (Y:=gblk X scope (nB X.N os fi) code s3 H3 fp) (Q:=Q) (ps:=[(h4.objs.size,oa)]) (pins:=pins) (σ:=σ) (E:=X.xe) hr.hd hroom (List.mem_singleton.mpr rfl) isg
  (fun s' h' y σ' H' I' kk hb q=>by
   have J:=gblk_out (h':=h') I3 f3 I' kk (bare_set (g:=s3.gens.size) I'.bare hb)
   exact ⟨.bl true,H',J,rfl,q⟩) (fun s' y σ' H' I' hb q=>by
   have J:=gblk_out (h':=s'.heap) I3 f3 I' (fun _ _ e=>e) (bare_set (g:=s3.gens.size) I'.bare hb)
   exact ⟨.bl false,H',J,rfl,q⟩)
  (m0 + 1) gc _ (isg _ ga) (I3.nolimit.keeps k5) (by simp) ?_
 subst hgc
 refine ⟨rfl,seg_gen0 (X:=X) (Y:=gblk X scope (nB X.N os fi) code s3 H3 fp) rfl rfl T (T.keep _ _ _ st3 fun b hb o e=>k5 b o e) ?_⟩
 exact seg_gen (X:=X) (Y:=gblk X scope (nB X.N os fi) code s3 H3 fp) rfl rfl hc hco (hg _ _ _ _) (hel _ _ _ _) T stat turn (m0 + 1) m0 0 _ H3 _ _ (Nat.lt_succ_self _) (by rw [setGen_size]; exact lg) IY (T.keep _ _ _ st3 fun b hb o e=>k5 b o e) (fun b hb=>(f3 b hb).1) w0
end
def BmOf (mg:Str→Option Value) (h:Heap):Prop:=∃(bm:Addr) (ob:Obj),mg "__builtins__" = some (.ref bm)∧bm≠builtinsNs∧h.get? bm=some ob∧ob.cls = .type "module"∧ob.dict=some builtinsNs∧ob.data = .plain
structure OnlyT (Ts:List (Addr × Addr)) (H:Hp):Prop where
 all:∀b,H b=none∨(∃o xs,H b=some (.frz o (.lst xs)))∨(H b=some (.tbl #[])∧∃t∈Ts,t.2=b)
 tab:∀t∈Ts,H t.2=some (.tbl #[])
theorem law_callT {P:Program} {w:World} {K:PySem.W.Frag} {mg mb:Str→Option Value} {CX:CXT} {k:Nat} {fa a:Addr} {fd:FuncData} {x:Str} {sp:Sp} {s:Shared} {vs:List Value} {ns:List Int} {Ts:List (Addr × Addr)}
  (KX:K.In s.heap) (hns:s.heap.Ns mainGlobals mg) (hb:s.heap.Ns builtinsNs mb) (hbb:∀x:Str,x≠"__name__"→mb x=bootBuiltins x) (hlim:s.heap.NoLimit) (hg:s.gens = #[]) (hT:∀t∈Ts,s.heap.TableAt t.1 t.2 #[]) (hKT:∀t∈Ts,K.lookup t.2=none) (hbm:BmOf mg s.heap)
  (ha:s.heap.get? a=some {cls:=.type "list",data:=.seq vs.toArray}) (hi:IntsAre vs ns) (hl:ns.length≤sizeLine) (hr:Room k callerA)
  (F:∀base:Heap,K.In base→base.Ns mainGlobals mg→BmOf mg base→FnOk P w K mg base CX k fa fd [x] sp) (hbind:∀(s:Shared) (u:Value),BindsTo s fd ⟨[u],[]⟩ [(x,u)])
  (hsp:∀H:Hp,OnlyT Ts H→SqL K H a (ns.map V.int)→sp [.ref a] H (fun v _=>v = .bl true) fun _ _ _=>False)
  (hCX:∀H e s',CX [] H s (fun _ _ _=>False) e s'→False) :
  codeAny (model P w) callerA (.call (.ref fa) ⟨[.ref a],[]⟩) (fun r s'=>r = .ok (.ret (.bool true))∧OldK s.heap s'.heap∧s'.os=s.os∧AllBare s'.gens) s:=by
 have rv:=vals_ints hi
 have lenV:=hi.length
 have aP:∀t∈Ts,t.2≠a:=fun t ht z=>by
  have e:=(hT t ht).2
  rw [z,ha] at e
  cases e
 have run:∀H:Hp,OnlyT Ts H→SqL K H a (ns.map V.int)→HOk P w H s.heap→(∀b,H b≠none→b=a∨∃t∈Ts,t.2=b)→(H a≠none→K.lookup a=none)→
   codeAny (model P w) callerA (.call (.ref fa) ⟨[.ref a],[]⟩) (fun r s'=>r = .ok (.ret (.bool true))∧OldK s.heap s'.heap∧s'.os=s.os∧AllBare s'.gens) s:=by
  intro H hO hS hok hA hK
  have lift:∀{b:Addr} {o:Obj},s.heap.get? b=some o→H b=none→(hidT s.heap H).get? b=some o:=fun e n=>hidT_get e n
  have un0:∀{b:Addr} {o:Obj},s.heap.get? b=some o→(∀its n,o.data≠.seq its n)→(∀fs,o.data≠.fields fs)→H b=none:=fun {b o} e d1 d2=>by
   cases q:H b with
   | none=>rfl
   | some u=>
    rcases hA b (by rw [q]; simp) with z | ⟨t,ht,z⟩
    ·subst z; rw [ha] at e; cases e; exact absurd rfl (d1 _ _)
    ·subst z; rw [(hT t ht).2] at e; cases e; exact absurd rfl (d2 _)
  have ns1:∀{b:Addr} {m:Str→Option Value},s.heap.Ns b m→(hidT s.heap H).Ns b m:=fun {b m} ⟨o,es,ep,e,d,r⟩=>⟨o,es,ep,lift e (un0 e (fun _ _ z=>by rw [d] at z; cases z) fun _ z=>by rw [d] at z; cases z),d,r⟩
  have kb:K.In (hidT s.heap H):=fun b o e=>lift (KX b o e) (by
   cases q:H b with
   | none=>rfl
   | some u=>
    rcases hA b (by rw [q]; simp) with z | ⟨t,ht,z⟩
    ·subst z; rw [hK (by rw [q]; simp)] at e; cases e
    ·subst z; rw [hKT t ht] at e; cases e)
  have bmb:BmOf mg (hidT s.heap H):=by
   obtain ⟨bm,ob,b1,b2,b3,b4,b5,b6⟩:=hbm
   exact ⟨bm,ob,b1,b2,lift b3 (un0 b3 (fun _ _ z=>by rw [b6] at z; cases z) fun _ z=>by rw [b6] at z; cases z),b4,b5,b6⟩
  have hM:Mod K mg (hidT s.heap H):=⟨kb,ns1 hns,⟨mb,ns1 hb,hbb⟩,let ⟨mc,h1,h2⟩:=hlim; ⟨mc,ns1 h1,h2⟩⟩
  have e0:Env0 P w K mg (hidT s.heap H) callerA [] s H:=⟨rfl,hM,fun b o e=>of_hidT e,Nat.le_of_eq (hidT_size _ _),trivial,fun b hb=>absurd (show b∈([]:List Addr) from hb) (by simp),hok,.of_eq hg⟩
  refine codeAny_mono ((F _ kb (ns1 hns) bmb).run callerA [] s H ⟨[.ref a],[]⟩ [.ref a] [.ref a] _ _ hr e0 (hbind s (.ref a)) (.cons rfl .nil) (hsp H hO hS)) fun r s' h=>?_
  cases r with
  | error e=>exact (hCX H e s' h).elim
  | ok fl=>
   cases fl with
   | next=>exact False.elim h
   | brk=>exact False.elim h
   | cont=>exact False.elim h
   | ret u=>
    obtain ⟨v,H',os,bare,un,hok',r',q⟩:=h
    have q':v = .bl true:=q
    subst q'
    obtain rfl:u=Value.bool true:=r'
    refine ⟨rfl,⟨fun b o e=>?_,fun b o e=>un.there b o e (by simp)⟩,os,bare⟩
    rcases hO.all b with z | ⟨ob,xs,z⟩ | ⟨z,t,ht,rfl⟩
    ·exact .inl (un.keep b o e z (by intro y; exact absurd (show b∈([]:List Addr) from y) (by simp)) (by simp))
    ·have z2:=un.frzs b ob _ z
     obtain ⟨e1,_⟩:=hok b _ z
     obtain ⟨e2,_⟩:=hok' b _ z2
     rw [e] at e1; cases e1
     exact .inl e2
    ·obtain ⟨more,z2⟩:=un.tbls _ _ z
     have e1:s.heap.get? t.2=some {cls:=.none,data:=.fields #[]}:=hok _ _ z
     have e2:s'.heap.get? t.2=some {cls:=.none,data:=.fields (#[] ++ more)}:=hok' _ _ z2
     rw [e] at e1; cases e1
     exact .inr (.inl ⟨(hT t ht).isCodeTable,rfl,#[],more,rfl,e2⟩)
 have mem:∀b,(∃t∈Ts,t.2=b)∨¬∃t∈Ts,t.2=b:=fun b=>Classical.em _
 have dc:∀b,Decidable (∃t∈Ts,t.2=b):=fun b=>Classical.propDecidable _
 cases hk:K.lookup a with
 | some o=>
  have e:=KX a o hk
  rw [ha] at e
  cases e
  refine run (fun b=>if (∃t∈Ts,t.2=b) then some (.tbl #[]) else none) ⟨fun b=>?_,fun t ht=>if_pos ⟨t,ht,rfl⟩⟩ (.inr ⟨_,vs.toArray,_,hk,rfl,rfl,rfl,by rw [List.size_toArray,lenV]; exact hl,by simpa using rv⟩) (fun b u z=>?_) (fun b z=>?_) fun z=>?_
  ·rcases mem b with y | y
   ·exact .inr (.inr ⟨if_pos y,y⟩)
   ·exact .inl (if_neg y)
  ·rcases mem b with y | y
   ·have z':=(if_pos y).symm.trans z
    cases z'
    obtain ⟨t,ht,rfl⟩:=y
    exact (hT t ht).2
   ·have z':=(if_neg y).symm.trans z
    cases z'
  ·rcases mem b with y | y
   ·exact .inr y
   ·exact absurd (if_neg y) z
  ·refine absurd (if_neg ?_) z
   rintro ⟨t,ht,e⟩
   exact aP t ht e
 | none=>
  refine run (fun b=>if b=a then some (.frz {cls:=.type "list",data:=.seq vs.toArray} (.lst (ns.map V.int))) else if (∃t∈Ts,t.2=b) then some (.tbl #[]) else none) ⟨fun b=>?_,fun t ht=>?_⟩ (.inl (.inr ⟨{cls:=.type "list",data:=.seq vs.toArray},if_pos rfl⟩)) (fun b u z=>?_) (fun b z=>?_) fun _=>hk
  ·by_cases hb:b=a
   ·exact .inr (.inl ⟨_,_,if_pos hb⟩)
   ·rcases mem b with y | y
    ·exact .inr (.inr ⟨(if_neg hb).trans (if_pos y),y⟩)
    ·exact .inl ((if_neg hb).trans (if_neg y))
  ·exact (if_neg (aP t ht)).trans (if_pos ⟨t,ht,rfl⟩)
  ·by_cases hb:b=a
   ·have z':=(if_pos hb).symm.trans z
    cases z'
    subst hb
    exact ⟨ha,by rw [List.length_map]; exact hl,vs,_,rv,ha⟩
   ·rcases mem b with y | y
    ·have z':=((if_neg hb).trans (if_pos y)).symm.trans z
     cases z'
     obtain ⟨t,ht,rfl⟩:=y
     exact (hT t ht).2
    ·have z':=((if_neg hb).trans (if_neg y)).symm.trans z
     cases z'
  ·by_cases hb:b=a
   ·exact .inl hb
   ·rcases mem b with y | y
    ·exact .inr y
    ·exact absurd ((if_neg hb).trans (if_neg y)) z
theorem walk_ofT {l:PySem.W.OpenLaw} {n k:Nat} {q:Program} {loose:List Str} {XP:(Str→Option Value)→Heap→Prop} {YP:World→Heap→Prop} {d:DefRec} {K:Params→PySem.W.Frag} {CX:World→CXT} {sp:World→Sp} {x:Str} {Ts:World→List (Addr × Addr)}
  (hn:l.most=some n) (hn2:n≤sizeLine) (hdf:d.params.defaults=[]) (hr:Room k callerA)
  (hY:∀(w:World) (h:Heap),YP w h→(K w.params).In h)
  (hT:∀(w:World) (h:Heap) (lo:List Str) (mean:ExcName→Option Value) (mg mb:Str→Option Value),(K w.params).In h→Top q lo mean mg mb h→∀t∈Ts w,h.TableAt t.1 t.2 #[]) (hKT:∀(w:World),∀t∈Ts w,(K w.params).lookup t.2=none)
  (F:∀(w:World) (mg:Str→Option Value) (fa:Addr) (h:Heap),(K w.params).In h→h.Ns mainGlobals mg→mg d.name=some (.ref fa)→
   ∃fd:FuncData,(∀(s:Shared) (u:Value),BindsTo s fd ⟨[u],[]⟩ [(x,u)])∧
    ∀base:Heap,(K w.params).In base→base.Ns mainGlobals mg→BmOf mg base→FnOk l.prog w (K w.params) mg base (CX w) k fa fd [x] (sp w))
  (hsp:∀(w:World) (H:Hp) (a:Addr) (ns:List Int),ns.length≤n→OnlyT (Ts w) H→SqL (K w.params) H a (ns.map V.int)→sp w [.ref a] H (fun v _=>v = .bl true) fun _ _ _=>False)
  (hCX:∀(w:World) (H:Hp) (s:Shared) (e:Value) (s':Shared),CX w [] H s (fun _ _ _=>False) e s'→False) :
  PySem.W.WalkO q loose XP YP l.row.toRowW d [] (fun f vs=>PySem.call f vs):=by
 refine Att.attach_call hn hdf fun w s₀ s₁ mg mb fa o pm cd doc a vs ns G Y ho hd hcd hmg hobj hints hlen hg=>?_
 have KX:=hY w _ Y
 obtain ⟨fd,hb,hF⟩:=F w mg fa _ KX G.T.g hmg
 exact law_callT KX G.T.g G.T.b G.T.builtins G.T.nolimit hg (hT w _ _ _ _ _ KX G.T) (hKT w) G.T.bmain hobj hints (Nat.le_trans hlen hn2) hr hF hb (fun H hO hS=>hsp w H a ns hlen hO hS) fun H e s'=>hCX w H s₁ e s'
def Its (x:Str):It:=⟨fun i _=>i < x.cps.size,fun i H v H'=>H'=H∧∃c,x.cps[i]? = some c∧v = .str ⟨#[c]⟩,fun i _=>i=x.cps.size⟩
theorem turn_str {P:Program} {w:World} {K:PySem.W.Frag} {tg:Expr} {it:Addr} {x:Str} {t:Tok} {ty:String} (hn:["enumerate","zip","dict_itemiterator","dict_reverseitemiterator","odict_iterator","itertools.zip_longest","itertools.pairwise"].contains ty=false)
  (W:∀A':Around,A'.handled=none→Walks P w A' it [it] [it] x.cps.size (SignAt x) (fun i h=>h.IsStrIter it ty x t i))
  (hself:∀(A:Around) (i:Nat) (s:Shared) (Q:Value→Shared→Prop) (E:Value→Shared→Prop),s.heap.IsStrIter it ty x t i→Q (.ref it) s→wpAny (model P w) A (pyIter (.ref it)) Q E s):Turn P w K tg (Its x) [it] it (fun i h=>h.IsStrIter it ty x t i) where
 mem:=by simp
 obj:=fun i h st b hb=>by
  have e:b=it:=by simpa using hb
  subst e
  obtain ⟨o,ho,_,d⟩:=st
  exact ⟨o,ho,fun v z=>by rw [d] at z; cases z⟩
 keep:=fun i h h' st k=>by
  obtain ⟨o,ho,r⟩:=st
  exact ⟨o,k it (by simp) o ho,r⟩
 item:=by
  intro X hP hw hK hc i pins s σ H E I hf st hg
  subst hP hw hK
  obtain ⟨f0,f1,f2,f3,f4,f5⟩:=hf it (by simp)
  refine (W X.A (I.ok.hd hc)).item i s _ _ hg st fun v h' tk hv st' kk=>?_
  obtain ⟨c,u,hcu,rfl⟩:=hv
  have I1:Inv X pins σ H {s with heap:=h',toks:=tk}:=I.turned (fun b o hb e=>kk b o (by simpa using hb) e) f0 f1 f3 f4 f5
  obtain ⟨o,ho,hcl,d⟩:=id st'
  exact ⟨_,rfl,go_of (s:={s with heap:=h',toks:=tk}) ho hcl d hn ⟨.str ⟨#[c]⟩,H,I1,⟨u,rfl⟩,⟨rfl,c,hcu,rfl⟩,st',fun b hb=>(hf b hb).1⟩⟩
 done:=by
  intro X hP hw hK hc i pins s σ H E I hf st hg
  subst hP hw hK
  obtain ⟨f0,f1,f2,f3,f4,f5⟩:=hf it (by simp)
  have hi:i=x.cps.size:=hg
  subst hi
  exact (W X.A (I.ok.hd hc)).done s _ _ st fun h' tk kk=>⟨rfl,I.turned (fun b o hb e=>kk b o (by simpa using hb) e) f0 f1 f3 f4 f5⟩
 self:=fun A i s Q E st h=>hself A i s Q E st h
def iStr (tl:TE):TI:=fun σ H R=>tl σ H fun v H1=>∃x,v = .str x∧R (Its x) H1
section
variable {X:Cx} {tg:Expr}
theorem pi_str {l:Expr} {tl:TE} (hl:PE X l tl):PI X tg l (iStr tl):=by
 intro pins s σ H R I h
 refine thn (hl pins s σ H _ I h) fun v s1 ⟨y,H1,I1,r1,x,e,q⟩=>?_
 subst e
 obtain ⟨t,rfl⟩:=r1
 have fin:∀b∈[s1.heap.objs.size],FpOk X pins H1 b:=fun b hb=>by
  have e:b=s1.heap.objs.size:=by simpa using hb
  subst e
  exact I1.fpOk (Nat.le_refl _) (I1.hok.fresh (Nat.le_refl _))
 cases ha:x.cps.all (· < 128)
 ·refine wpAny_pyIter_wide ha ?_
  exact ⟨s1.heap.objs.size,[s1.heap.objs.size],_,_,H1,rfl,I1.kept (t':=s1.toks) fun b o e=>Heap.get?_push_of_some _ e,turn_str (by decide) (fun A' hA=>Walks.strWide hA _ x t) (fun A i s Q E st h=>wpAny_pyIter_striter_wide st h),⟨_,Heap.get?_push_size _ rfl,rfl,rfl⟩,fin,q⟩
 ·refine wpAny_pyIter_ascii ha ?_
  exact ⟨s1.heap.objs.size,[s1.heap.objs.size],_,_,H1,rfl,I1.kept (t':=s1.toks) fun b o e=>Heap.get?_push_of_some _ e,turn_str (by decide) (fun A' hA=>Walks.strAscii hA _ x t) (fun A i s Q E st h=>wpAny_pyIter_striter_ascii st h),⟨_,Heap.get?_push_size _ rfl,rfl,rfl⟩,fin,q⟩
def rEqL (K:PySem.W.Frag) (neg:Bool):R2:=fun x y H Q=>∃a b xs ys,x = .ref a∧y = .ref b∧SqL K H a xs∧SqL K H b ys∧xs.all flatV=true∧ys.all flatV=true∧Q (.bl (if neg then !eqVs xs ys else eqVs xs ys)) H
theorem eqVs_lens {xs ys:List V} (h:xs.length≠ys.length):eqVs xs ys=false:=by
 rw [← eqVs_all]
 have:(xs.length == ys.length)=false:=by simpa using h
 rw [this,Bool.and_false]
theorem op_eqL (hu:X.A.units < cLine):OpR X (compareOp .Eq) (rEqL X.K false):=by
 intro pins s σ H x y v u Q I rx ry h
 obtain ⟨a,b,xs,ys,rfl,rfl,ha,hb,f1,f2,q⟩:=h
 cases rx
 cases ry
 obtain ⟨its,r1,p1,_⟩:=I.list ha
 obtain ⟨its2,r2,p2,_⟩:=I.list hb
 by_cases hz:xs.length=ys.length
 ·have hz2:its.toArray.size=its2.toArray.size:=by rw [List.size_toArray,List.size_toArray,← r1.length,← r2.length]; exact hz
  refine SeqAt.eq_listAt p1.isList p2.isList hz2 hu (items_eq r1 r2 f1 f2) ⟨.bl _,H,I,rfl,?_⟩
  have e:(List.range its.toArray.size).all (eAt xs ys)=eqVs xs ys:=by
   rw [← eqVs_all,List.size_toArray,← r1.length,← hz,Nat.min_self]; simp
  rw [e]
  exact q
 ·have hz2:(its.toArray.size != its2.toArray.size)=true:=by
   rw [List.size_toArray,List.size_toArray,← r1.length,← r2.length]; simpa using hz
  have q':Q (.bl false) H:=by rw [eqVs_lens hz] at q; exact q
  exact SeqAt.eq_list_lengthsAt p1.isList p2.isList hz2 hu ⟨.bl _,H,I,rfl,q'⟩
theorem op_neV (hu:X.A.units < cLine):OpR X (compareOp .NotEq) (rEqL X.K true):=by
 intro pins s σ H x y v u Q I rx ry h
 obtain ⟨a,b,xs,ys,rfl,rfl,ha,hb,f1,f2,q⟩:=h
 cases rx
 cases ry
 obtain ⟨its,r1,p1,_⟩:=I.list ha
 obtain ⟨its2,r2,p2,_⟩:=I.list hb
 by_cases hz:xs.length=ys.length
 ·have hz2:its.toArray.size=its2.toArray.size:=by rw [List.size_toArray,List.size_toArray,← r1.length,← r2.length]; exact hz
  refine SeqAt.RcNeAt.lists p1.isList p2.isList hz2 hu (items_eq r1 r2 f1 f2) _ _ _ _ ⟨.bl _,H,I,rfl,?_⟩
  have e:(List.range its.toArray.size).all (eAt xs ys)=eqVs xs ys:=by
   rw [← eqVs_all,List.size_toArray,← r1.length,← hz,Nat.min_self]; simp
  rw [e]
  exact q
 ·have hz2:(its.toArray.size != its2.toArray.size)=true:=by
   rw [List.size_toArray,List.size_toArray,← r1.length,← r2.length]; simpa using hz
  have q':Q (.bl true) H:=by rw [eqVs_lens hz] at q; exact q
  exact SeqAt.RcNeAt.lists_lengths p1.isList p2.isList hz2 hu _ _ _ _ ⟨.bl _,H,I,rfl,q'⟩
end
def cdOf (K:PySem.W.Frag) (n:Str):Addr:=match PySem.W.nsIn K mainGlobals n with
 | some (some (.ref f))=>(match K.lookup f with
  | some ⟨_,_,.func fd,_⟩=>(match fd.code with
   | .ref c=>c
   | _=>0)
  | _=>0)
 | _=>0
def tbOf (K:PySem.W.Frag) (n:Str):Addr:=match K.lookup (cdOf K n) with
 | some ⟨_,_,.fields vs,_⟩=>(match (vs[11]?:Option Value) with
  | some (.ref T)=>T
  | _=>0)
 | _=>0
structure CodeN (K:PySem.W.Frag) (n:Str) (f c T:Addr) (fd:FuncData):Prop where
 a:PySem.W.nsIn K mainGlobals n=some (some (.ref f))
 l:∃oc od sl,K.lookup f=some ⟨oc,od,.func fd,sl⟩
 hc:fd.code = .ref c
 lc:∃(od:Option Addr) (vs:Array Value) (sl:Array (Option Value)) (file:Str) (tf:Tok) (flags:Int) (tk:Tok) (inF:Bool) (text:Int) (tt:Tok),K.lookup c=some ⟨.type "code",od,.fields vs,sl⟩∧vs[11]? = some (.ref T)∧vs.getD 18 .none = .str file tf∧
  vs.getD 7 .none = .int flags tk∧vs.getD 9 .none = .bool inF∧vs.getD 10 .none = .int text tt
 ne:c≠T
section
variable {K:PySem.W.Frag} {n:Str} {f c T:Addr} {fd:FuncData}
theorem CodeN.cd (C:CodeN K n f c T fd):cdOf K n=c:=by
 obtain ⟨oc,od,sl,l⟩:=C.l
 unfold cdOf
 rw [C.a]
 simp only [l,C.hc]
theorem CodeN.tb (C:CodeN K n f c T fd):tbOf K n=T:=by
 obtain ⟨od,vs,sl,_,_,_,_,_,_,_,l,h11,_⟩:=C.lc
 unfold tbOf
 rw [C.cd]
 simp only [l,h11]
theorem CodeN.ck (C:CodeN K n f c T fd):CodeK K c T:=by
 obtain ⟨od,vs,sl,file,tf,flags,tk,inF,text,tt,l,h11,r⟩:=C.lc
 exact ⟨⟨_,vs,file,tf,flags,tk,inF,text,tt,l,rfl,rfl,h11,r⟩,C.ne⟩
theorem CodeN.tab {q:Program} {lo:List Str} {mean:ExcName→Option Value} {mg mb:Str→Option Value} {h:Heap} {d:DefRec} (C:CodeN K n f c T fd) (KX:K.In h) (Tp:Top q lo mean mg mb h) (hf:(recsOf q).find? (fun e=>e.name == n)=some d):h.TableAt (cdOf K n) (tbOf K n) #[]:=by
 rw [C.cd,C.tb]
 have hn:d.name=n:=beq_iff_eq.mp (List.find?_some (p:=fun e:DefRec=>e.name == n) hf)
 obtain ⟨a',o',fd',c',P',h1,h2,h3,h4,h5,h6⟩:=Tp.tab d (List.mem_of_find?_eq_some hf)
 have hm:=PySem.W.mg_of KX Tp.g C.a
 rw [hn,hm] at h1; cases h1
 obtain ⟨oc,od,sl,l⟩:=C.l
 rw [KX _ _ l] at h2; cases h2
 cases h3
 rw [C.hc] at h4; cases h4
 obtain ⟨od2,vs,sl2,_,_,_,_,_,_,_,l2,h11,_⟩:=C.lc
 obtain ⟨⟨o3,vs3,e1,_,e2,e3⟩,_⟩:=id h6
 rw [KX _ _ l2] at e1; cases e1
 cases e2
 rw [h11] at e3; cases e3
 exact h6
theorem codeN_mk {oc:Value} {od odc:Option Addr} {sl slc:Array (Option Value)} {vs:Array Value} {file:Str} {tf:Tok} {flags:Int} {tk:Tok} {inF:Bool} {text:Int} {tt:Tok} (a:PySem.W.nsIn K mainGlobals n=some (some (.ref f))) (l:K.lookup f=some ⟨oc,od,.func fd,sl⟩) (hc:fd.code = .ref c)
  (lc:K.lookup c=some ⟨.type "code",odc,.fields vs,slc⟩) (h11:vs[11]? = some (.ref T)) (h18:vs.getD 18 .none = .str file tf) (h7:vs.getD 7 .none = .int flags tk) (h9:vs.getD 9 .none = .bool inF) (h10:vs.getD 10 .none = .int text tt) (ne:c≠T):CodeN K n f c T fd:=
 ⟨a,⟨oc,od,sl,l⟩,hc,⟨odc,vs,slc,file,tf,flags,tk,inF,text,tt,lc,h11,h18,h7,h9,h10⟩,ne⟩
end
abbrev TB:=St→Hp→(St→Hp→Prop)→Prop
abbrev Fi:=PySem.Fin
def PB (Y:Cx) (body:Sem Fi→Sem Fi) (t:TB):Prop:=
 ∀(pins:List (Addr × Obj)) (s:Shared) (σ:St) (H:Hp) (N:St→Hp→Prop) (k:Sem Fi) (R:Fi→Shared→Prop),Inv Y pins σ H s→t σ H N→
  (∀σ' H' s',Inv Y pins σ' H' s'→N σ' H'→wpAny (model Y.prog Y.w) Y.A k R F0 s')→wpAny (model Y.prog Y.w) Y.A (body k) R F0 s
def turnOf (tg:Expr) (p:Pos) (ifs:List Expr) (it:Value) (env:Env) (body:Sem Fi→Sem Fi) (k:Sem Fi):Sem Fi:=do
 standAt p
 match ← pyNext it with
 | none=>pure (.done .next)
 | some v=>
  letOwnedTupleGo tg it v
  assign tg env v
  let mut ok:=true
  for c in ifs do
   if ok then ok ← isTrue c env (eval c env)
  if ok then body k else k
def LoopRule (P:Program) (w:World) (A:Around) (e:Expr) (d:Nat):Prop:=∀(it acc:Value) (env:Env) (R:Result→Shared→Prop) (I:Nat→Shared→Prop),
 (∀n s,I n s→wpAny (model P w) A (compTurn e d it acc env) (fun fin s'=>match fin with | .done f=>R (.ok f) s' | .again c'=>c' = .compLoop e d it acc env∧∃m,m < n∧I m s') F0 s)→
 ∀n s,I n s→codeAny (model P w) A (.compLoop e d it acc env) R s
def StartRule (P:Program) (w:World) (A:Around) (e:Expr) (d:Nat):Prop:=∀(it acc:Value) (env:Env) (R:Result→Shared→Prop) (s:Shared),
 codeAny (model P w) A (.compLoop e d it acc env) R s→wpAny (model P w) A (pyIter it) (fun it' s'=>codeAny (model P w) A (.compLoop e d it' acc env) R s') F0 s→codeAny (model P w) A (.compStart e d it acc env) R s
section
variable {P:Program} {w:World} {A:Around} {elt kx vx:Expr} {gens:List Comprehension} {scope:Scope} {pos:Pos} {d:Nat} {g:Comprehension}
theorem loop_list:LoopRule P w A (.ListComp elt gens scope pos) d:=by
 intro it acc env R I turn n s h
 refine codeAny_loop rfl I (fun n s hI=>?_) n h
 show wpAny _ A ((compTurn (.ListComp elt gens scope pos) d it acc env).onRaise (fun x=>do noteFrame x env; theTreesLotGoes x)) _ _ s
 exact wpAny_noted (of_F0 (turn n s hI) fun _ _ z=>z)
theorem loop_set:LoopRule P w A (.SetComp elt gens scope pos) d:=by
 intro it acc env R I turn n s h
 refine codeAny_loop rfl I (fun n s hI=>?_) n h
 show wpAny _ A ((compTurn (.SetComp elt gens scope pos) d it acc env).onRaise (fun x=>do noteFrame x env; theTreesLotGoes x)) _ _ s
 exact wpAny_noted (of_F0 (turn n s hI) fun _ _ z=>z)
theorem loop_dict:LoopRule P w A (.DictComp kx vx gens scope pos) d:=by
 intro it acc env R I turn n s h
 refine codeAny_loop rfl I (fun n s hI=>?_) n h
 show wpAny _ A ((compTurn (.DictComp kx vx gens scope pos) d it acc env).onRaise (fun x=>do noteFrame x env; theTreesLotGoes x)) _ _ s
 exact wpAny_noted (of_F0 (turn n s hI) fun _ _ z=>z)
theorem start_any {e:Expr} {it acc:Value} {env:Env} {R:Result→Shared→Prop} {s:Shared} {E:Value→Shared→Prop} (hg:(clausesOf e)[d]? = some g) (ha:g.is_async=0)
  (h0:codeAny (model P w) A (.compLoop e d it acc env) R s) (h:wpAny (model P w) A (pyIter it) (fun it' s'=>codeAny (model P w) A (.compLoop e d it' acc env) R s') F0 s) :
  wpAny (model P w) A (compStart e d it acc env) (fun fin s'=>match fin with | .done f=>R (.ok f) s' | .again c'=>c'.quiet=true∧codeAny (model P w) A c' R s') E s:=by
 unfold compStart
 rw [hg]
 simp only [Option.elim,ha]
 show wpAny _ _ (ask >>= _) _ _ s
 refine wpAny_bind (wpAny_askSetting (wpAny_ite ?_))
 split
 ·first
   | exact wpAny_bind (wpAny_pure (wpAny_pure (And.intro rfl h0)))
   | exact wpAny_pure (And.intro rfl h0)
 ·refine wpAny_bind (wpAny_rule ?_)
  exact wpAny_bind (wpAny_standAt (wpAny_bind (of_F0 h fun it' s' h'=>wpAny_pure (And.intro rfl h'))))
theorem start_list (hg:gens[d]? = some g) (ha:g.is_async=0):StartRule P w A (.ListComp elt gens scope pos) d:=by
 intro it acc env R s h0 h
 refine codeAny_of_tree ?_
 show wpAny _ _ ((compStart (.ListComp elt gens scope pos) d it acc env).onRaise (fun x=>do noteFrame x env; standAt theWindowsPlace)) _ _ s
 exact wpAny_notedAt (start_any (e:=.ListComp elt gens scope pos) hg ha h0 h)
theorem start_set (hg:gens[d]? = some g) (ha:g.is_async=0):StartRule P w A (.SetComp elt gens scope pos) d:=by
 intro it acc env R s h0 h
 refine codeAny_of_tree ?_
 show wpAny _ _ ((compStart (.SetComp elt gens scope pos) d it acc env).onRaise (fun x=>do noteFrame x env; standAt theWindowsPlace)) _ _ s
 exact wpAny_notedAt (start_any (e:=.SetComp elt gens scope pos) hg ha h0 h)
theorem start_dict (hg:gens[d]? = some g) (ha:g.is_async=0):StartRule P w A (.DictComp kx vx gens scope pos) d:=by
 intro it acc env R s h0 h
 refine codeAny_of_tree ?_
 show wpAny _ _ ((compStart (.DictComp kx vx gens scope pos) d it acc env).onRaise (fun x=>do noteFrame x env; standAt theWindowsPlace)) _ _ s
 exact wpAny_notedAt (start_any (e:=.DictComp kx vx gens scope pos) hg ha h0 h)
end
def LR (J:It) (g:TG) (tt:TT) (tb:TB) (σ:St) (H:Hp) (N:St→Hp→Prop):Prop:=∃W:Nat→Nat→St→Hp→Prop,(∃m,W 0 m σ H)∧∀i m σ2 H2,W i m σ2 H2→
 (J.stop i H2∧N σ2 H2)∨(J.go i H2∧∀x H3,J.yld i H2 x H3→g x σ2 H3 fun σ4 H4=>tt σ4 H4 fun ok H5=>
  if ok=true then tb σ4 H5 (fun σ6 H6=>∃m',m' < m∧W (i + 1) m' σ6 H6) else ∃m',m' < m∧W (i + 1) m' σ4 H5)
section
variable {Y:Cx} {e tg iter:Expr} {ifs:List Expr} {d:Nat} {p:Pos} {body:Sem Fi→Sem Fi} {it:Addr} {acc:Value} {J:It} {g:TG} {tt:TT} {tb:TB} {wi:TI} {fp:List Addr} {tn:Nat→Heap→Prop} {pins:List (Addr × Obj)} {R:Result→Shared→Prop} {N:St→Hp→Prop} {s:Shared} {σ:St} {H:Hp}
theorem loop_any (hL:LoopRule Y.prog Y.w Y.A e d) (hc:Y.calm=true) (hx:Y.xe=F0) (hT:compTurn e d (.ref it) acc Y.env=turnOf tg p ifs (.ref it) Y.env body (again (.compLoop e d (.ref it) acc Y.env)))
  (hg:PG Y tg g) (ht:PTs Y ifs tt) (hb:PB Y body tb) (T:Turn Y.prog Y.w Y.K tg J fp it tn) (stat:∀{H':Hp},(∀b∈fp,H' b=none)→∀b∈fp,FpOk Y pins H' b)
  (I:Inv Y pins σ H s) (st:tn 0 s.heap) (fr:∀b∈fp,H b=none) (q:LR J g tt tb σ H N) (hR:∀σ' H' s',Inv Y pins σ' H' s'→N σ' H'→R (.ok .next) s') :
  codeAny (model Y.prog Y.w) Y.A (.compLoop e d (.ref it) acc Y.env) R s:=by
 obtain ⟨W,⟨m0,w0⟩,turn⟩:=q
 refine hL _ _ _ _ (fun n s'=>∃i σ' H',Inv Y pins σ' H' s'∧tn i s'.heap∧(∀b∈fp,H' b=none)∧W i n σ' H') ?_ m0 s ⟨0,σ,H,I,st,fr,w0⟩
 rintro n s5 ⟨i,σ5,H5,I5,t5,fr5,w5⟩
 rw [hT]
 unfold turnOf
 refine wpAny_bind (wpAny_standAt (wpAny_bind ?_))
 rcases turn i n σ5 H5 w5 with ⟨stop,qn⟩ | ⟨go,step⟩
 ·refine of_F0 (T.done Y rfl rfl rfl hc i pins s5 σ5 H5 F0 I5 (stat fr5) t5 stop) fun r s6 ⟨hr,I6⟩=>?_
  subst hr
  exact wpAny_pure (hR _ _ _ I6 qn)
 ·refine of_F0 (T.item Y rfl rfl rfl hc i pins s5 σ5 H5 F0 I5 (stat fr5) t5 go) fun r s6 ⟨u,hr,h6⟩=>?_
  subst hr
  refine wpAny_bind (of_F0 h6 fun _ s7 ⟨x,H7,I7,r7,y7,t7,fr7⟩=>?_)
  have I7':=I7.pinned (stat fr7) (T.obj _ _ t7)
  have a1:=hg _ s7 σ5 H7 x u _ I7' r7 (step x H7 y7)
  rw [hx] at a1
  refine wpAny_bind (of_F0 a1 fun _ s8 ⟨σ8,H8,I8,q8⟩=>?_)
  have a2:=ht _ s8 σ8 H8 _ I8 q8
  rw [hx] at a2
  refine wpAny_bind (of_F0 a2 fun ok s9 ⟨H9,I9,q9⟩=>?_)
  have again:∀{s':Shared} {σ':St} {H':Hp} {m:Nat},Inv Y (pins ++ pinsAt fp s7.heap) σ' H' s'→W (i + 1) m σ' H'→
    ∃i σ' H',Inv Y pins σ' H' s'∧tn i s'.heap∧(∀b∈fp,H' b=none)∧W i m σ' H':=fun {s' σ' H' m} J w=>by
   refine ⟨i + 1,σ',H',J.unpinned,T.keep _ _ _ t7 fun b hb o e=>(J.pin (b,o) (List.mem_append_right _ (List.mem_append_right _ (mem_pinsAt hb e)))).1,fun b hb=>?_,w⟩
   obtain ⟨o,e,d⟩:=T.obj _ _ t7 b hb
   exact (J.pin (b,o) (List.mem_append_right _ (List.mem_append_right _ (mem_pinsAt hb e)))).2.1
  cases ok with
  | false=>
   obtain ⟨m',lt,w9⟩:=(show ∃m',m' < n∧W (i + 1) m' σ8 H9 from q9)
   exact wpAny_pure ⟨rfl,m',lt,again I9 w9⟩
  | true=>
   exact hb _ s9 σ8 H9 _ _ _ I9 q9 fun σA HA sA IA ⟨m',lt,wA⟩=>wpAny_pure ⟨rfl,m',lt,again IA wA⟩
def inBody (e:Expr) (d:Nat) (iter:Expr) (acc:Value) (env:Env) (k:Sem Fi):Sem Fi:=do
 let x ← eval iter env
 standAt iter.pos
 let x ← foldedSetIterable iter env x
 let _ ← runOwn (.compStart e d (← holding [x] (pyIter x)) acc env) env
 k
def tIn (wi:TI) (g:TG) (tt:TT) (tb:TB):TB:=fun σ H N=>wi σ H fun J H1=>LR J g tt tb σ H1 N
theorem pb_in (hL:LoopRule Y.prog Y.w Y.A e d) (hS:StartRule Y.prog Y.w Y.A e d) (hc:Y.calm=true) (hx:Y.xe=F0) (hT:∀it:Addr,compTurn e d (.ref it) acc Y.env=turnOf tg p ifs (.ref it) Y.env body (again (.compLoop e d (.ref it) acc Y.env)))
  (hi:PI Y tg iter wi) (hg:PG Y tg g) (ht:PTs Y ifs tt) (hb:PB Y body tb) (hs:∀x,foldedSetIterable iter Y.env x=pure x:=by intro _; rfl):PB Y (inBody e d iter acc Y.env) (tIn wi g tt tb):=by
 intro pins s σ H N k R I h hk
 unfold inBody
 have a1:=hi pins s σ H _ I h
 rw [hx] at a1
 refine wpAny_bind (of_F0 a1 fun v s1 h1=>wpAny_bind (wpAny_standAt (wpAny_bind (wpAny_of_eq (hs v) (wpAny_bind (wpAny_holding (of_F0 h1 fun itv s2 h2=>?_)))))))
 obtain ⟨it,fp,tn,J,H2,rfl,I2,T,st2,f2,q⟩:=h2
 refine wpAny_bind (wpAny_runOwn ?_)
 have lp:codeAny (model Y.prog Y.w) Y.A (.compLoop e d (.ref it) acc Y.env) (fun r s'=>match r with | .ok f=>wpAny (model Y.prog Y.w) Y.A k R F0 s' | .error e=>cameBackBy (model Y.prog Y.w) Y.A Y.env F0 e s') s2:=
  loop_any hL hc hx (hT it) hg ht hb T (fun hn b hb=>⟨hn b hb,(f2 b hb).2⟩) I2 st2 (fun b hb=>(f2 b hb).1) q fun σ' H' s' I' n'=>hk σ' H' s' I' n'
 exact hS _ _ _ _ _ lp (T.self _ 0 _ _ _ st2 lp)
def listBody (elt:Expr) (acc:Value) (env:Env) (k:Sem Fi):Sem Fi:=(do let _ ← call (.builtin "list.append") [acc,← eval elt env]) >>= fun _=>k
def tEmL (D:Addr) (te:TE):TB:=fun σ H N=>te σ H fun v H6=>∃xs,H6 D=some (.lst xs)∧xs.length < sizeLine∧N σ (upd H6 D (.lst (xs ++ [v])))
theorem pb_list {elt:Expr} {te:TE} {D:Addr} (hx:Y.xe=F0) (hel:PE Y elt te):PB Y (listBody elt (.ref D) Y.env) (tEmL D te):=by
 intro pins s σ H N k R I h hk
 have a1:=hel pins s σ H _ I h
 rw [hx] at a1
 refine wpAny_bind (wpAny_bind (of_F0 a1 fun y sA ⟨v,HA,IA,rA,xs,hxs,hz,wA⟩=>wpAny_bind ?_))
 have a2:=mt_append pins sA σ HA (.ref D) [v] (.ref D) [y] (fun _ H'=>N σ H') IA rfl (.cons rA .nil) ⟨D,xs,v,rfl,rfl,hxs,hz,wA⟩
 rw [hx] at a2
 exact of_F0 a2 fun _ sB' ⟨_,HB,IB,_,wB⟩=>wpAny_pure (hk σ HB sB' IB wB)
end
def NewRule (X:Cx) (mk:Sem Value) (o0:Addr→HO):Prop:=∀(pins:List (Addr × Obj)) (s:Shared) (σ:St) (H:Hp) (E:Value→Shared→Prop) (Q:Value→Shared→Prop),Inv X pins σ H s→
 (∀s3:Shared,(∀b o,s.heap.get? b=some o→s3.heap.get? b=some o)→Inv X pins σ (upd H s.heap.objs.size (o0 s.heap.objs.size)) s3→Q (.ref s.heap.objs.size) s3)→wpAny (model X.prog X.w) X.A mk Q E s
theorem new_list {X:Cx}:NewRule X (newList []) (fun _=>.lst []):=by
 intro pins s σ H E Q I h
 refine wpAny_newObj_type ?_
 exact h _ (fun b o e=>Heap.get?_push_of_some _ e) (I.laid (t':=s.toks) (fun b u e=>Heap.get?_push_of_some _ e) (Nat.le_refl _) ⟨Nat.zero_le _,[],0,.nil,Heap.get?_push_size _ rfl⟩)
section
variable {X:Cx} {e tg iter:Expr} {ifs:List Expr} {scope esc:Scope} {pos:Pos} {N os:List Str} {fi:List Nat} {wi:TI} {g:TG} {tt:TT} {tb:Addr→TB} {body:Addr→Env→Sem Fi→Sem Fi} {o0:Addr→HO} {mk:Sem Value} {p:Pos}
theorem comp_coreG {pins:List (Addr × Obj)} {σ:St} {H:Hp} {s:Shared} {E:Value→Shared→Prop} {it:Addr} {fp:List Addr} {tn:Nat→Heap→Prop} {J:It} {Q:VK} {RR:Value→Addr→Result→Shared→Prop} (hc:X.calm=true) (hN:X.N=N) (he:X.env.scope=esc) (B:BlkOk esc scope N fi)
  (hL:LoopRule X.prog X.w X.A e 0) (hS:StartRule X.prog X.w X.A e 0) (hT:∀(it D:Addr) (env:Env),compTurn e 0 (.ref it) (.ref D) env=turnOf tg p ifs (.ref it) env (body D env) (again (.compLoop e 0 (.ref it) (.ref D) env)))
  (hmk:NewRule X mk o0)
  (hg:∀s H fp,PG (blk X scope (nB N os fi) s H fp) tg g) (ht:∀s H fp,PTs (blk X scope (nB N os fi) s H fp) ifs tt) (hb:∀D s H fp,PB (blk X scope (nB N os fi) s H fp) (body D (blk X scope (nB N os fi) s H fp).env) (tb D))
  (I:Inv X pins σ H s) (T:Turn X.prog X.w X.K tg J fp it tn) (st:tn 0 s.heap) (hf:∀b∈fp,FpOk X pins H b) (q:∀l,H l=none→LR J g tt (tb l) (sB σ os fi) (upd H l (o0 l)) fun _ H'=>Q (.ref l) H')
  (hRR:∀D s3 H3 s' σ' H',Inv X pins σ H3 s3→(∀b∈fp,FpOk X pins H3 b)→Inv (blk X scope (nB N os fi) s3 H3 fp) [] σ' H' s'→Q (.ref D) H'→RR (.ref D) s3.heap.objs.size (.ok .next) s') :
  wpAny (model X.prog X.w) X.A mk (fun acc s3=>wpAny (model X.prog X.w) X.A (newFunctionEnv scope X.env.globals (clOf X.env scope.names []) [] X.env.qual none .none (some X.env)) (fun cenv s4=>
   codeAny (model X.prog X.w) X.A (.compStart e 0 (.ref it) acc {cenv with scope:=relabel scope X.env}) (RR acc cenv.locals) s4) E s3) E s:=by
 subst hN
 have fresh:H s.heap.objs.size=none:=I.hok.fresh (Nat.le_refl _)
 have old:∀b∈fp,∃o,s.heap.get? b=some o:=fun b hb=>by
  obtain ⟨o,e,_⟩:=T.obj _ _ st b hb
  exact ⟨o,e⟩
 refine hmk pins s σ H E _ I fun s3 k3 I3=>?_
 have hf3:∀b∈fp,FpOk X pins (upd H s.heap.objs.size (o0 s.heap.objs.size)) b:=fun b hb=>by
  obtain ⟨o,e⟩:=old b hb
  exact ⟨by rw [upd_ne (Nat.ne_of_lt (Heap.lt_size e))]; exact (hf b hb).1,(hf b hb).2⟩
 have st3:tn 0 s3.heap:=T.keep _ _ _ st fun b hb o e=>k3 b o e
 have q3:=q _ fresh
 have ho3:∀b∈fp,∃o,s3.heap.get? b=some o:=fun b hb=>by
  obtain ⟨o,e⟩:=old b hb
  exact ⟨o,k3 b o e⟩
 generalize s.heap.objs.size=D at *
 generalize upd H D (o0 D)=H3 at *
 refine wpAny_newFunctionEnv B.nocell (by intro y hy; simp at hy) (fun h4 hn4 sb4=>?_) B.kind
 have k4:∀b o,s3.heap.get? b=some o→h4.get? b=some o:=fun b o e=>(sb4.2 b (Nat.ne_of_lt (Heap.lt_size e))).trans (Heap.get?_push_of_some _ e)
 have I4:=blk_inv (os:=os) (t1:=s3.toks + ([]:List (Str × Value)).length) B he I3 hf3 ho3 k4 hn4
 have st4:tn 0 h4:=T.keep _ _ _ st3 fun b hb o e=>k4 b o e
 have fpB:∀{H':Hp},(∀b∈fp,H' b=none)→∀b∈fp,FpOk (blk X scope (nB X.N os fi) s3 H3 fp) [] H' b:=fun hn b hb=>by
  refine ⟨hn b hb,(I4.ok.exf b hb).1,I4.ok.exfs b hb,.inl hb,(I4.ok.exf b hb).2,fun p hp=>nomatch hp⟩
 have lp:=loop_any (Y:=blk X scope (nB X.N os fi) s3 H3 fp) (R:=RR (.ref D) s3.heap.objs.size) hL hc rfl (hT it D _) (hg s3 H3 fp) (ht s3 H3 fp) (hb D s3 H3 fp) T fpB I4 st4 (fun b hb=>(hf3 b hb).1) q3
  fun σ' H' s' I' n'=>hRR D s3 H3 s' σ' H' I3 hf3 I' n'
 exact hS _ _ _ _ _ lp (T.self _ 0 _ _ _ st4 lp)
def tCG (o0:Addr→HO) (os:List Str) (fi:List Nat) (wi:TI) (g:TG) (tt:TT) (tb:Addr→TB):TE:=fun σ H Q=>wi σ H fun J H1=>∀l,H1 l=none→LR J g tt (tb l) (sB σ os fi) (upd H1 l (o0 l)) fun _ H'=>Q (.ref l) H'
theorem pe_compG {gs:List Comprehension} {p':Pos} (hev:eval e X.env=comprehension e scope X.env p' mk false (eval iter X.env)) (hcl:clausesOf e=⟨tg,iter,ifs,0⟩ :: gs) (hc:X.calm=true) (hN:X.N=N) (he:X.env.scope=esc) (B:BlkOk esc scope N fi)
  (hL:LoopRule X.prog X.w X.A e 0) (hS:StartRule X.prog X.w X.A e 0) (hT:∀(it D:Addr) (env:Env),compTurn e 0 (.ref it) (.ref D) env=turnOf tg p ifs (.ref it) env (body D env) (again (.compLoop e 0 (.ref it) (.ref D) env)))
  (hmk:NewRule X mk o0) (hi:PI X tg iter wi)
  (hg:∀s H fp,PG (blk X scope (nB N os fi) s H fp) tg g) (ht:∀s H fp,PTs (blk X scope (nB N os fi) s H fp) ifs tt) (hb:∀D s H fp,PB (blk X scope (nB N os fi) s H fp) (body D (blk X scope (nB N os fi) s H fp).env) (tb D))
  (hs:∀x,foldedSetIterable iter X.env x=pure x:=by intro _; rfl):PE X e (tCG o0 os fi wi g tt tb):=by
 intro pins s σ H Q I h
 have cells:=blk_cells (by rw [hN]; exact B) he I
 rw [hev]
 refine wpAny_comprehension_free (use:=none) hcl hs (closure_eq cells) B.kind B.loc (thn (hi pins s σ H _ I h) fun v s1 h1=>thn h1 fun itv s2 h2=>?_)
 obtain ⟨it,fp,tn,J,H2,rfl,I2,T,st2,f2,q2⟩:=h2
 refine comp_coreG (RR:=fun acc C=>compPost (model X.prog X.w) X.A X.xe none (EP X pins σ Q) acc C) hc hN he B hL hS hT hmk hg ht hb I2 T st2 f2 q2 ?_
 intro D s3 H3 s' σ' H' I3 f3 I' q
 obtain ⟨m,hn,_⟩:=I'.loc
 exact ⟨m,hn,fun h' sb=>⟨.ref D,H',blk_out I3 f3 I' sb,rfl,q⟩⟩
end
section
variable {X:Cx} {elt tg iter tg2 iter2:Expr} {ifs ifs2:List Expr} {scope esc:Scope} {pos:Pos} {N os:List Str} {fi:List Nat} {wi wi2:TI} {g g2:TG} {tt tt2:TT} {te:TE}
theorem pe_comp2 (hc:X.calm=true) (hN:X.N=N) (he:X.env.scope=esc) (B:BlkOk esc scope N fi) (hi:PI X tg iter wi)
  (hg:∀s H fp,PG (blk X scope (nB N os fi) s H fp) tg g) (ht:∀s H fp,PTs (blk X scope (nB N os fi) s H fp) ifs tt)
  (hi2:∀s H fp,PI (blk X scope (nB N os fi) s H fp) tg2 iter2 wi2) (hg2:∀s H fp,PG (blk X scope (nB N os fi) s H fp) tg2 g2) (ht2:∀s H fp,PTs (blk X scope (nB N os fi) s H fp) ifs2 tt2)
  (hel:∀s H fp,PE (blk X scope (nB N os fi) s H fp) elt te)
  (hs:∀x,foldedSetIterable iter X.env x=pure x:=by intro _; rfl) (hs2:∀env x,foldedSetIterable iter2 env x=pure x:=by intro _ _; rfl) :
  PE X (.ListComp elt [⟨tg,iter,ifs,0⟩,⟨tg2,iter2,ifs2,0⟩] scope pos) (tCG (fun _=>.lst []) os fi wi g tt fun D=>tIn wi2 g2 tt2 (tEmL D te)):=by
 refine pe_compG (gs:=[⟨tg2,iter2,ifs2,0⟩]) (body:=fun D env=>inBody (.ListComp elt [⟨tg,iter,ifs,0⟩,⟨tg2,iter2,ifs2,0⟩] scope pos) 1 iter2 (.ref D) env) rfl rfl hc hN he B loop_list (start_list rfl rfl) (fun _ _ _=>rfl) new_list hi hg ht (fun D s H fp=>?_) hs
 exact pb_in (body:=listBody elt (.ref D) (blk X scope (nB N os fi) s H fp).env) loop_list (start_list rfl rfl) hc rfl (fun _=>rfl) (hi2 s H fp) (hg2 s H fp) (ht2 s H fp) (pb_list rfl (hel s H fp)) (hs2 _)
end
def ssOf (ks:List Str):Key→Bool
 | .inr x=>decide (x∈ks)
 | _=>false
def SetT (P:Program) (w:World) (a:Addr) (ks:List Str):HO:=.ext fun h=>h.SetOf (mixKind P w) a (ssOf ks) ks.length
def insT (x:Str) (ks:List Str):List Str:=if x∈ks then ks else ks ++ [x]
theorem setT_ok {P:Program} {w:World} {H:Hp} {h:Heap} {a:Addr} {ks:List Str} (x:h.SetOf (mixKind P w) a (ssOf ks) ks.length):ObjOk P w H h a (SetT P w a ks):=
 ⟨x,let ⟨o,_,_,_,e,_⟩:=x; ⟨o,e⟩,fun h1 h2 ⟨o,es,ep,t,e,r⟩ k=>⟨o,es,ep,t,k o e,r⟩⟩
theorem ins_eq (x:Str) (ks:List Str):(fun k'=>ssOf ks k' || decide (k'=(.inr x:Key)))=ssOf (insT x ks):=by
 funext k
 cases k with
 | inl i=>simp [ssOf]
 | inr y=>
  unfold insT
  by_cases h:x∈ks
  ·rw [if_pos h]
   simp only [ssOf]
   by_cases e:y=x
   ·subst e; simp [h]
   ·simp [e]
  ·rw [if_neg h]
   simp [ssOf,List.mem_append,Bool.decide_or]
theorem ins_len (x:Str) (ks:List Str):(if ssOf ks (.inr x)=true then ks.length else ks.length + 1)=(insT x ks).length:=by
 unfold insT
 by_cases h:x∈ks
 ·rw [if_pos h,if_pos (show ssOf ks (.inr x)=true by simp [ssOf,h])]
 ·rw [if_neg h,if_neg (by simp [ssOf,h]),List.length_append]; rfl
section
variable {X:Cx} {pins:List (Addr × Obj)} {σ:St} {H:Hp} {s:Shared} {a:Addr} {ks:List Str}
theorem Inv.setOf (I:Inv X pins σ H s) (h:H a=some (SetT X.prog X.w a ks)):s.heap.SetOf (mixKind X.prog X.w) a (ssOf ks) ks.length:=(I.hok a _ h).1
theorem Inv.setPut {h':Heap} {ks':List Str} {t':Nat} (I:Inv X pins σ H s) (h:H a=some (SetT X.prog X.w a ks)) (sb:Heap.SameBut a s.heap h') (n:h'.SetOf (mixKind X.prog X.w) a (ssOf ks') ks'.length):Inv X pins σ (upd H a (SetT X.prog X.w a ks')) {s with heap:=h',toks:=t'}:=
 I.write (x:=a) (e:=a) (by rw [h]; exact trivial) (.inl rfl) (fun b u hb e=>(sb.2 b hb).trans e) (let ⟨o,_,_,_,e,_⟩:=n; ⟨o,e⟩) (setT_ok n)
theorem call_set0:CallR X (.type "set") (fun xs H Q=>xs=[]∧∀p,H p=none→Q (.ref p) (upd H p (SetT X.prog X.w p []))):=by
 intro pins s σ H xs us Q I r h
 obtain ⟨rfl,q⟩:=h
 cases r
 refine call_set_0 fun led=>?_
 have n:(s.heap.push {cls:=.type "set",dict:=none,data:=.set #[] 0 (.fresh 0 0 led)}).SetOf (mixKind X.prog X.w) s.heap.objs.size (ssOf []) ([]:List Str).length:=
  ⟨_,#[],0,_,Heap.get?_push_size _ rfl,⟨rfl,rfl,rfl⟩,rfl,fun e he=>by simp at he,fun k=>by cases k <;> simp [ssOf],by decide,by rfl,rfl⟩
 exact ⟨.ref s.heap.objs.size,_,I.laid (t':=s.toks) (fun b u e=>Heap.get?_push_of_some _ e) (Nat.le_refl _) (setT_ok n),rfl,q _ I.fresh⟩
theorem boot_set:bootBuiltins "set" = some (.type "set"):=by decide +kernel
def rInS (P:Program) (w:World) (neg:Bool):R2:=fun x y H Q=>∃z a ks,x = .str z∧y = .ref a∧H a=some (SetT P w a ks)∧Q (.bl (if neg then !decide (z∈ks) else decide (z∈ks))) H
theorem op_in_set:OpR X (compareOp .In) (rInS X.prog X.w false):=by
 intro pins s σ H x y v u Q I rx ry h
 obtain ⟨z,a,ks,rfl,rfl,ha,q⟩:=h
 obtain ⟨t,rfl⟩:=rx
 cases ry
 exact wpAny_inSet_of (mixKind_str _ _ z t) rfl (I.setOf ha) ⟨.bl _,H,I.tok _,rfl,q⟩
def rAddS (P:Program) (w:World):V→List V→Hp→VK→Prop:=fun x xs H Q=>∃a z ks,x = .ref a∧xs=[.str z]∧H a=some (SetT P w a ks)∧ks.length + 1 < 4096∧Q .non (upd H a (SetT P w a (insT z ks)))
theorem mt_setadd:MtR X "set.add" (rAddS X.prog X.w):=by
 intro pins s σ H x xs v us Q I rx rv h
 obtain ⟨a,z,ks,rfl,rfl,ha,hz,q⟩:=h
 cases rx
 obtain ⟨u,rfl,t,rfl⟩:=vals1 rv
 refine call_set_add (mixKind_str _ _ z t) rfl (I.setOf ha) hz fun h' sb n=>?_
 rw [ins_eq,ins_len] at n
 exact ⟨.non,_,I.setPut ha sb n,rfl,q⟩
theorem call_len_setT:CallR X (.builtin "len") (fun xs H Q=>∃a ks,xs=[.ref a]∧H a=some (SetT X.prog X.w a ks)∧Q (.int ks.length) H):=by
 intro pins s σ H xs us Q I r h
 obtain ⟨a,ks,rfl,ha,q⟩:=h
 obtain ⟨u,rfl,rx⟩:=vals1 r
 cases rx
 obtain ⟨o,es,ep,t,e,ex,d,_,_,b,f,n⟩:=I.setOf ha
 refine call_len_set e ex d f ?_ ⟨.int ks.length,H,I.tok _,⟨_,by rw [n]⟩,q⟩
 have:es.size < 4096:=b
 omega
end
def tAddS (P:Program) (w:World) (to:TE) (t:TA):TE:=fun σ H Q=>to σ H fun x H1=>(∃a ks,x = .ref a∧H1 a=some (SetT P w a ks))∧t σ H1 fun xs H2=>rAddS P w x xs H2 Q
theorem pe_setadd {X:Cx} {o e:Expr} {to:TE} {t:TA} {apos cpos:Pos} (ho:PE X o to) (ha:PA X [e] t)
  (hbase:attributeBase o "add" X.env (eval o X.env)=eval o X.env:=by rfl)
  (hfew:((backTo cpos (starEach [e] X.env)).all (fun x=>!x.1) && (backToKw cpos (keywordEach [] X.env)).all (fun x=>x.1.isSome)
   && decide ([e].length + ([]:List Keyword).length + (if ([]:List Keyword).isEmpty then 0 else 1) < 30))=true:=by rfl)
  (hline:(apos.endLine == cpos.line)=true:=by rfl) (hs:starEach [e] X.env=(false,eval e X.env) :: starEach [] X.env:=by rfl) (hplain:(backTo cpos (starEach [] X.env)).any (·.1)=false:=by rfl) :
  PE X (.Call (.Attribute o "add" apos) [e] [] cpos) (tAddS X.prog X.w to t):=by
 intro pins s σ H Q I h
 refine wpAny_Call_method_late hbase hfew hline rfl (thn (ho pins s σ H _ I h) fun v s1 ⟨x,H1,I1,r1,⟨a,ks,ea,hA⟩,q1⟩=>?_)
 subst ea
 cases r1
 have S:=I1.setOf hA
 refine ⟨"set","set.add",F.plainAttrs_set,F.slot_set_add,F.type_set_add,S.typeIs,S.noDict,?_⟩
 have hA:=ha cpos pins s1 σ H1 _ I1 q1
 rw [hs] at hA ⊢
 refine Calls.callWith_builtin (by show (false || (backTo cpos (starEach [] X.env)).any (·.1))=false; rw [hplain] <;> rfl) (Calls.evalArgs_plain ?_)
 exact thn hA fun us s2 ⟨vs,H2,I2,r2,q2⟩=>mt_setadd pins s2 σ H2 (.ref a) vs _ us Q I2 rfl r2 q2
theorem new_set {X:Cx}:NewRule X (newSet (.type "set")) (fun a=>SetT X.prog X.w a []):=by
 intro pins s σ H E Q I h
 refine wpAny_newSet_of (knd:=mixKind X.prog X.w) fun led n=>?_
 have n':(s.heap.push {cls:=.type "set",dict:=none,data:=.set #[] 0 (.fresh 0 0 led)}).SetOf (mixKind X.prog X.w) s.heap.objs.size (ssOf []) ([]:List Str).length:=by
  have e:(fun _:Key=>false)=ssOf []:=by
   funext k; cases k <;> simp [ssOf]
  rw [← e]; exact n
 exact h _ (fun b o e=>Heap.get?_push_of_some _ e) (I.laid (t':=s.toks) (fun b u e=>Heap.get?_push_of_some _ e) (Nat.le_refl _) (setT_ok n'))
def setBody (elt:Expr) (acc:Value) (env:Env) (k:Sem Fi):Sem Fi:=(do let v ← eval elt env; standAt elt.pos; let _ ← call (.builtin "set.add") [acc,v]) >>= fun _=>k
def tEmS (P:Program) (w:World) (D:Addr) (te:TE):TB:=fun σ H N=>te σ H fun v H6=>∃z ks,v = .str z∧H6 D=some (SetT P w D ks)∧ks.length + 1 < 4096∧N σ (upd H6 D (SetT P w D (insT z ks)))
theorem pb_set {Y:Cx} {elt:Expr} {te:TE} {D:Addr} (hx:Y.xe=F0) (hel:PE Y elt te):PB Y (setBody elt (.ref D) Y.env) (tEmS Y.prog Y.w D te):=by
 intro pins s σ H N k R I h hk
 have a1:=hel pins s σ H _ I h
 rw [hx] at a1
 refine wpAny_bind (wpAny_bind (of_F0 a1 fun y sA ⟨v,HA,IA,rA,z,ks,ev,hD,hz,wA⟩=>wpAny_bind (wpAny_standAt (wpAny_bind ?_))))
 have a2:=mt_setadd pins sA σ HA (.ref D) [v] (.ref D) [y] (fun _ H'=>N σ H') IA rfl (.cons rA .nil) ⟨D,z,ks,rfl,by rw [ev],hD,hz,wA⟩
 rw [hx] at a2
 exact of_F0 a2 fun _ sB' ⟨_,HB,IB,_,wB⟩=>wpAny_pure (hk σ HB sB' IB wB)
section
variable {X:Cx} {elt tg iter:Expr} {ifs:List Expr} {scope esc:Scope} {pos:Pos} {N os:List Str} {fi:List Nat} {wi:TI} {g:TG} {tt:TT} {te:TE}
theorem pe_setcomp (hc:X.calm=true) (hN:X.N=N) (he:X.env.scope=esc) (B:BlkOk esc scope N fi) (hi:PI X tg iter wi)
  (hg:∀s H fp,PG (blk X scope (nB N os fi) s H fp) tg g) (ht:∀s H fp,PTs (blk X scope (nB N os fi) s H fp) ifs tt)
  (hel:∀s H fp,PE (blk X scope (nB N os fi) s H fp) elt te)
  (hs:∀x,foldedSetIterable iter X.env x=pure x:=by intro _; rfl) :
  PE X (.SetComp elt [⟨tg,iter,ifs,0⟩] scope pos) (tCG (fun a=>SetT X.prog X.w a []) os fi wi g tt fun D=>tEmS X.prog X.w D te):=
 pe_compG (gs:=[]) (body:=fun D env=>setBody elt (.ref D) env) rfl rfl hc hN he B loop_set (start_set rfl rfl) (fun _ _ _=>rfl) new_set hi hg ht (fun D s H fp=>pb_set rfl (hel s H fp)) hs
end
section
variable {X:Cx} {tg:Expr}
end
def tRev (K:PySem.W.Frag) (te:TE):TE:=fun σ H Q=>te σ H fun x H1=>∃a xs,x = .ref a∧SqL K H1 a xs∧∀p,H1 p=none→Q (.ref p) (upd H1 p (.lst xs.reverse))
theorem pe_rev {X:Cx} {e:Expr} {te:TE} {k:Nat} {p1 p2 p3 pos:Pos} (he:PE X e te):PE X (.Subscript e (.Slice none none (some (.UnaryOp .USub (.Constant (.int 1) k p1) p3)) p2) pos) (tRev X.K te):=by
 intro pins s σ H Q I h
 refine Subscript_ (thn (he pins s σ H _ I h) fun v s1 ⟨x,H1,I1,r1,q1⟩=>?_)
 obtain ⟨a,xs,rfl,hx,q⟩:=q1
 cases r1
 have st:=po_some (pe_un un_neg (pe_int (X:=X) (i:=1) (j:=k) (pos:=p1)) (pos:=p3))
 refine wpAny_Slice ?_
 rw [evalPart_none]
 refine wpAny_pure (wpAny_pure ?_)
 refine thn (st pins s1 σ H1 (fun o H'=>o=some (-1)∧H'=H1) I1 ⟨_,rfl,_,rfl,rfl,rfl⟩) fun vs s3 ⟨o,H3,I3,pp,e1,e2⟩=>?_
 subst e1
 rw [e2] at I3
 clear e2
 have I4:Inv X pins σ H1 {s3 with heap:=s3.heap.push {cls:=.type "slice",data:=.fields #[.none,.none,vs]}}:=I3.kept (t':=s3.toks) fun b ob q=>Heap.get?_push_of_some _ q
 obtain ⟨its,r,ht,hz⟩:=I4.list hx
 show wpAny (model X.prog X.w) X.A (subscriptTail e (.Slice none none (some (.UnaryOp .USub (.Constant (.int 1) k p1) p3)) p2) (.ref a) (.ref s3.heap.objs.size)) (EP X pins σ Q) X.xe {s3 with heap:=s3.heap.push {cls:=.type "slice",data:=.fields #[.none,.none,vs]}}
 refine tail_any (ops:=[.ref a,.ref s3.heap.objs.size]) ht.isList.typeIs slot_list_getitem.lookup ?_ (by with_unfolding_all rfl)
 refine wpAny_getItem_list_slice ht.isList (Heap.IsSliceOf.new ..) .none .none pp (by simp) ?_ (by rw [List.size_toArray,← r.length]; omega)
 rw [PySem.W.krv_pick]
 refine ⟨.ref _,_,I4.laid (t':=s3.toks) (o:=.lst xs.reverse) (fun b ob q=>Heap.get?_push_of_some _ q) (Nat.le_refl _) ?_,rfl,q _ (I4.hok.fresh (Nat.le_refl _))⟩
 exact ⟨by rw [List.length_reverse]; exact hz,_,0,r.reverse,Heap.get?_push_size _ rfl⟩
inductive TopR (K:PySem.W.Frag) (H:Hp) (R:V→V→Bool→Prop):V→V→Bool→Prop where
 | lsts {a c:Addr} {xs ys:List V} (e:Nat→Bool) (ha:SqL K H a xs) (hc:SqL K H c ys) (hl:xs.length=ys.length) (h:∀j x y,xs[j]? = some x→ys[j]? = some y→R x y (e j)):TopR K H R (.ref a) (.ref c) ((List.range xs.length).all e)
 | lens {a c:Addr} {xs ys:List V} (ha:SqL K H a xs) (hc:SqL K H c ys) (hl:xs.length≠ys.length):TopR K H R (.ref a) (.ref c) false
 | tups {a c:Addr} {xs ys:List V} (e:Nat→Bool) (ha:SqT K H a xs) (hc:SqT K H c ys) (h:∀j x y,xs[j]? = some x→ys[j]? = some y→R x y (e j)):TopR K H R (.ref a) (.ref c) ((List.range (min xs.length ys.length)).all e && xs.length == ys.length)
def EqD (K:PySem.W.Frag) (H:Hp):Nat→V→V→Bool→Prop
 | 0,x,y,b=>(flatV x=true∧flatV y=true∧b=eqV x y)∨∃a,x = .ref a∧y = .ref a∧b=true
 | n + 1,x,y,b=>((flatV x=true∧flatV y=true∧b=eqV x y)∨∃a,x = .ref a∧y = .ref a∧b=true)∨∃a c,x = .ref a∧y = .ref c∧a≠c∧TopR K H (EqD K H n) x y b
section
variable {X:Cx} {pins:List (Addr × Obj)} {σ:St} {H:Hp} {s:Shared}
theorem items_R {R:V→V→Bool→Prop} {A:Around} {xs ys:List V} {us vs:List Value} {e:Nat→Bool} (hR:∀x y b u v,R x y b→RelV x u→RelV y v→SeqAt.EqAt A s u v b) (r1:Vals xs us) (r2:Vals ys vs) (h:∀j x y,xs[j]? = some x→ys[j]? = some y→R x y (e j)) :
  ∀j (h1:j < us.toArray.size) (h2:j < vs.toArray.size),SeqAt.EqAt A s us.toArray[j] vs.toArray[j] (e j):=fun j h1 h2=>by
 have l1:j < xs.length:=by rw [r1.length]; simpa using h1
 have l2:j < ys.length:=by rw [r2.length]; simpa using h2
 obtain ⟨u,q1,z1⟩:=r1.get (i:=j) (x:=xs[j]) (by simp [l1])
 obtain ⟨v,q2,z2⟩:=r2.get (i:=j) (x:=ys[j]) (by simp [l2])
 have e1:us.toArray[j]=u:=by
  have:us[j]? = some us.toArray[j]:=by simp
  rw [this] at q1; exact Option.some.inj q1
 have e2:vs.toArray[j]=v:=by
  have:vs[j]? = some vs.toArray[j]:=by simp
  rw [this] at q2; exact Option.some.inj q2
 rw [e1,e2]
 exact hR _ _ _ _ _ (h j _ _ (by simp [l1]) (by simp [l2])) z1 z2
theorem top_at {R:V→V→Bool→Prop} {A:Around} {x y:V} {b:Bool} {u v:Value} (I:Inv X pins σ H s) (hu:A.units < cLine) (hR:∀x y b u v,R x y b→RelV x u→RelV y v→SeqAt.EqAt A.in1 s u v b) (h:TopR X.K H R x y b) (rx:RelV x u) (ry:RelV y v):SeqAt.RcAt A s u v b:=by
 cases h with
 | lsts e ha hc hl h=>
  cases rx
  cases ry
  obtain ⟨its,r1,p1,_⟩:=I.list ha
  obtain ⟨its2,r2,p2,_⟩:=I.list hc
  have z:=SeqAt.RcAt.lists (A:=A) p1.isList p2.isList (by rw [List.size_toArray,List.size_toArray,← r1.length,← r2.length]; exact hl) hu (items_R hR r1 r2 h)
  rw [List.size_toArray,← r1.length] at z
  exact z
 | lens ha hc hl=>
  cases rx
  cases ry
  obtain ⟨its,r1,p1,_⟩:=I.list ha
  obtain ⟨its2,r2,p2,_⟩:=I.list hc
  exact SeqAt.RcAt.lists_lengths (A:=A) p1.isList p2.isList (by rw [List.size_toArray,List.size_toArray,← r1.length,← r2.length]; simpa using hl) hu
 | tups e ha hc h=>
  cases rx
  cases ry
  obtain ⟨its,r1,p1,_⟩:=I.tuple ha
  obtain ⟨its2,r2,p2,_⟩:=I.tuple hc
  have z:=SeqAt.RcAt.tuples (A:=A) (show s.heap.IsTuple _ its.toArray from p1) (show s.heap.IsTuple _ its2.toArray from p2) hu (items_R hR r1 r2 h)
  rw [List.size_toArray,List.size_toArray,← r1.length,← r2.length] at z
  exact z
theorem flat_at {A:Around} {x y:V} {b:Bool} {u v:Value} (h:(flatV x=true∧flatV y=true∧b=eqV x y)∨∃a,x = .ref a∧y = .ref a∧b=true) (rx:RelV x u) (ry:RelV y v):SeqAt.EqAt A s u v b:=by
 rcases h with ⟨f1,f2,rfl⟩ | ⟨a,rfl,rfl,rfl⟩
 ·exact eqAt_V rx ry f1 f2
 ·cases rx
  cases ry
  exact SeqAt.EqAt.same _
theorem eqd_at (I:Inv X pins σ H s):∀(n:Nat) (A:Around),A.units + n < cLine→∀(x y:V) (b:Bool) (u v:Value),EqD X.K H n x y b→RelV x u→RelV y v→SeqAt.EqAt A s u v b
 | 0,A,hu,x,y,b,u,v,h,rx,ry=>flat_at h rx ry
 | n + 1,A,hu,x,y,b,u,v,h,rx,ry=>by
  rcases h with h | ⟨a,c,rfl,rfl,ne,h⟩
  ·exact flat_at h rx ry
  ·cases rx
   cases ry
   exact SeqAt.EqAt.of_refs ne (top_at I (by omega) (eqd_at I n A.in1 (by show A.units + 1 + n < cLine; omega)) h rfl rfl)
def rEqD (K:PySem.W.Frag) (neg:Bool):R2:=fun x y H Q=>∃n b,n≤40∧TopR K H (EqD K H n) x y b∧Q (.bl (if neg then !b else b)) H
theorem op_eqD (hu:X.A.units + 60 < cLine):OpR X (compareOp .Eq) (rEqD X.K false):=by
 intro pins s σ H x y v u Q I rx ry h
 obtain ⟨n,b,hn,h,q⟩:=h
 exact top_at I (by omega) (eqd_at I n X.A.in1 (by show X.A.units + 1 + n < cLine; omega)) h rx ry _ _ _ _ ⟨.bl _,H,I,rfl,q⟩
end
theorem Room.units60 {k:Nat} {A:Around} (r:Room k A):A.units + 60 < cLine:=by have:=r.un; omega
def HF (q:Program):List Str→Prop
 | []=>True
 | n :: ns=>(∃d,(recsOf q).find? (fun e=>e.name == n)=some d)∧HF q ns
def HC (K:PySem.W.Frag):List Str→Prop
 | []=>True
 | n :: ns=>(∃f c T fd,CodeN K n f c T fd)∧HC K ns
def HT0 (K:PySem.W.Frag):List Str→Prop
 | []=>True
 | n :: ns=>K.lookup (tbOf K n)=none∧HT0 K ns
theorem HF.mem {q:Program}:∀{ns:List Str},HF q ns→∀n∈ns,∃d,(recsOf q).find? (fun e=>e.name == n)=some d
 | [],_,n,h=>nomatch h
 | _ :: _,h,n,hn=>by
  rcases List.mem_cons.mp hn with rfl | hn
  ·exact h.1
  ·exact HF.mem h.2 n hn
theorem HC.mem {K:PySem.W.Frag}:∀{ns:List Str},HC K ns→∀n∈ns,∃f c T fd,CodeN K n f c T fd
 | [],_,n,h=>nomatch h
 | _ :: _,h,n,hn=>by
  rcases List.mem_cons.mp hn with rfl | hn
  ·exact h.1
  ·exact HC.mem h.2 n hn
theorem HT0.mem {K:PySem.W.Frag}:∀{ns:List Str},HT0 K ns→∀n∈ns,K.lookup (tbOf K n)=none
 | [],_,n,h=>nomatch h
 | _ :: _,h,n,hn=>by
  rcases List.mem_cons.mp hn with rfl | hn
  ·exact h.1
  ·exact HT0.mem h.2 n hn
theorem walk_ofN (names:List Str) {l:PySem.W.OpenLaw} {n k:Nat} {q:Program} {loose:List Str} {XP:(Str→Option Value)→Heap→Prop} {YP:World→Heap→Prop} {d:DefRec} {K:Params→PySem.W.Frag} {CX:World→CXT} {sp:World→Sp} {x:Str}
  (hn:l.most=some n) (hn2:n≤sizeLine) (hdf:d.params.defaults=[]) (hr:Room k callerA)
  (hY:∀(w:World) (h:Heap),YP w h→(K w.params).In h) (hf:HF q names) (hC:∀w:World,HC (K w.params) names) (hKT:∀w:World,HT0 (K w.params) names)
  (F:∀(w:World) (mg:Str→Option Value) (fa:Addr) (h:Heap),(K w.params).In h→h.Ns mainGlobals mg→mg d.name=some (.ref fa)→
   ∃fd:FuncData,(∀(s:Shared) (u:Value),BindsTo s fd ⟨[u],[]⟩ [(x,u)])∧
    ∀base:Heap,(K w.params).In base→base.Ns mainGlobals mg→BmOf mg base→FnOk l.prog w (K w.params) mg base (CX w) k fa fd [x] (sp w))
  (hsp:∀(w:World) (H:Hp) (a:Addr) (ns:List Int),ns.length≤n→(∀m∈names,H (tbOf (K w.params) m)=some (.tbl #[]))→SqL (K w.params) H a (ns.map V.int)→sp w [.ref a] H (fun v _=>v = .bl true) fun _ _ _=>False)
  (hCX:∀(w:World) (H:Hp) (s:Shared) (e:Value) (s':Shared),CX w [] H s (fun _ _ _=>False) e s'→False) :
  PySem.W.WalkO q loose XP YP l.row.toRowW d [] (fun f vs=>PySem.call f vs):=by
 refine walk_ofT (Ts:=fun w=>names.map fun m=>(cdOf (K w.params) m,tbOf (K w.params) m)) hn hn2 hdf hr hY ?_ ?_ F ?_ hCX
 ·intro w h lo mean mg mb KX Tp t ht
  obtain ⟨m,hm,rfl⟩:=List.mem_map.mp ht
  obtain ⟨f,c,T,fd,C⟩:=(hC w).mem m hm
  obtain ⟨d,hd⟩:=hf.mem m hm
  exact C.tab KX Tp hd
 ·intro w t ht
  obtain ⟨m,hm,rfl⟩:=List.mem_map.mp ht
  exact (hKT w).mem m hm
 ·intro w H a ns hl hO hS
  exact hsp w H a ns hl (fun m hm=>hO.tab _ (List.mem_map.mpr ⟨m,hm,rfl⟩)) hS
section
variable {κ:Type} [DecidableEq κ]
def valV (kvs:List (κ × V)) (k:κ):Option V:=(kvs.find? fun kv=>decide (kv.1=k)).map (·.2)
def putK (kvs:List (κ × V)) (k:κ) (v:V):List (κ × V):=
 if (kvs.any fun kv=>decide (kv.1=k))=true then kvs.map (fun kv=>if kv.1=k then (kv.1,v) else kv) else kvs ++ [(k,v)]
theorem valV_pos {p:κ × V} {r:List (κ × V)} {k:κ} (e:p.1=k):valV (p :: r) k=some p.2:=by simp [valV,List.find?_cons,e]
theorem valV_neg {p:κ × V} {r:List (κ × V)} {k:κ} (e:¬p.1=k):valV (p :: r) k=valV r k:=by simp [valV,List.find?_cons,e]
theorem valV_any (k:κ):∀kvs:List (κ × V),(kvs.any fun kv=>decide (kv.1=k))=(valV kvs k).isSome
 | []=>rfl
 | p :: r=>by
  rw [List.any_cons]
  by_cases e:p.1=k
  ·simp only [valV_pos e,decide_eq_true e,Bool.true_or,Option.isSome_some]
  ·rw [valV_neg e,decide_eq_false e,Bool.false_or]; exact valV_any k r
theorem valV_map (k j:κ) (y:V):∀kvs:List (κ × V),valV (kvs.map fun kv=>if kv.1=k then (kv.1,y) else kv) j=(valV kvs j).map fun x=>if j=k then y else x
 | []=>rfl
 | p :: r=>by
  have ih:=valV_map k j y r
  rw [List.map_cons]
  by_cases h:p.1=k
  ·rw [if_pos h]
   by_cases e:p.1=j
   ·rw [valV_pos (p:=(p.1,y)) e,valV_pos e,Option.map_some,if_pos (e.symm.trans h)]
   ·rw [valV_neg (p:=(p.1,y)) e,valV_neg e,ih]
  ·rw [if_neg h]
   by_cases e:p.1=j
   ·rw [valV_pos (p:=p) e,valV_pos e,Option.map_some,if_neg (fun z=>h (e.trans z))]
   ·rw [valV_neg (p:=p) e,valV_neg e,ih]
theorem valV_snoc (k j:κ) (y:V):∀kvs:List (κ × V),valV kvs k=none→valV (kvs ++ [(k,y)]) j=if j=k then some y else valV kvs j
 | [],_=>by
  by_cases e:k=j
  ·rw [if_pos e.symm]; exact valV_pos (p:=(k,y)) e
  ·rw [if_neg (fun z=>e z.symm)]; exact valV_neg (p:=(k,y)) e
 | p :: r,hn=>by
  rw [List.cons_append]
  have hk:¬p.1=k:=fun z=>by rw [valV_pos z] at hn; cases hn
  rw [valV_neg hk] at hn
  have ih:=valV_snoc k j y r hn
  by_cases e:p.1=j
  ·rw [valV_pos e,valV_pos e,if_neg (fun z=>hk (e.trans z))]
  ·rw [valV_neg e,valV_neg e,ih]
theorem valV_put (kvs:List (κ × V)) (k j:κ) (y:V):valV (putK kvs k y) j=if j=k then some y else valV kvs j:=by
 unfold putK
 by_cases a:(kvs.any fun kv=>decide (kv.1=k))=true
 ·rw [if_pos a,valV_map]
  rw [valV_any] at a
  by_cases e:j=k
  ·obtain ⟨x,hx⟩:=Option.isSome_iff_exists.mp a
   rw [if_pos e,e,hx,Option.map_some,if_pos rfl]
  ·rw [if_neg e]
   cases valV kvs j with
   | none=>rfl
   | some x=>rw [Option.map_some,if_neg e]
 ·rw [if_neg a]
  refine valV_snoc k j y kvs ?_
  rw [valV_any] at a
  cases q:valV kvs k with
  | none=>rfl
  | some x=>rw [q] at a; exact (a rfl).elim
theorem length_putK (kvs:List (κ × V)) (k:κ) (v:V):(putK kvs k v).length≤kvs.length + 1:=by
 unfold putK
 split
 ·rw [List.length_map]; omega
 ·rw [List.length_append,List.length_cons,List.length_nil]; omega
theorem putK_new {kvs:List (κ × V)} {k:κ} (v:V) (h:valV kvs k=none):putK kvs k v=kvs ++ [(k,v)]:=by
 unfold putK
 rw [valV_any,h]
 exact if_neg (by decide)
theorem KV.val {kvs:List (κ × V)} {vs:List (κ × Value)} (r:KV kvs vs) (k:κ):RelO (valV kvs k) (valueAt vs k):=by
 unfold KV at r
 induction r with
 | nil=>exact True.intro
 | @cons p q ps qs h t ih=>
  obtain ⟨h1,h2⟩:=h
  by_cases e:p.1=k
  ·have e':q.1=k:=h1.symm.trans e
   have b:valueAt (q :: qs) k=some q.2:=by simp [valueAt,List.find?_cons,e']
   rw [valV_pos e,b]; exact h2
  ·have e':¬q.1=k:=fun z=>e (h1.trans z)
   have b:valueAt (q :: qs) k=valueAt qs k:=by simp [valueAt,List.find?_cons,e']
   rw [valV_neg e,b]; exact ih
theorem KV.any {kvs:List (κ × V)} {vs:List (κ × Value)} (r:KV kvs vs) (k:κ):(kvs.any fun kv=>decide (kv.1=k))=vs.any fun kv=>decide (kv.1=k):=by
 unfold KV at r
 induction r with
 | nil=>rfl
 | cons h t ih=>rw [List.any_cons,List.any_cons,ih,h.1]
theorem KV.repl {kvs:List (κ × V)} {vs:List (κ × Value)} (r:KV kvs vs) (k:κ) {y:V} {u:Value} (ry:RelV y u) :
  KV (kvs.map fun kv=>if kv.1=k then (kv.1,y) else kv) (vs.map fun kv=>if kv.1=k then (kv.1,u) else kv):=by
 unfold KV at r ⊢
 induction r with
 | nil=>exact .nil
 | @cons p q ps qs h t ih=>
  rw [List.map_cons,List.map_cons]
  refine .cons ?_ ih
  obtain ⟨h1,h2⟩:=h
  by_cases e:p.1=k
  ·rw [if_pos e,if_pos (h1.symm.trans e)]; exact ⟨h1,ry⟩
  ·rw [if_neg e,if_neg (fun z=>e (h1.trans z))]; exact ⟨h1,h2⟩
theorem KV.put {kvs:List (κ × V)} {vs:List (κ × Value)} (r:KV kvs vs) (k:κ) {y:V} {u:Value} (ry:RelV y u):KV (putK kvs k y) (stored vs k u):=by
 unfold putK stored
 rw [r.any k]
 by_cases e:(vs.any fun kv=>decide (kv.1=k))=true
 ·rw [if_pos e,if_pos e]; exact r.repl k ry
 ·rw [if_neg e,if_neg e]; exact Paired.snoc r ⟨rfl,ry⟩
theorem KV.length {kvs:List (κ × V)} {vs:List (κ × Value)} (r:KV kvs vs):kvs.length=vs.length:=Paired.length r
end
theorem kV_is {P:Program} {w:World} {k:Key} {u:Value} (r:RelV (kV k) u):(mixKind P w).is k u=true:=by
 cases k with
 | inl i=>obtain ⟨t,e⟩:=(show ∃t,u=Value.int i t from r); subst e; exact mixKind_int P w i t
 | inr x=>obtain ⟨t,e⟩:=(show ∃t,u=Value.str x t from r); subst e; exact mixKind_str P w x t
theorem items_are {P:Program} {w:World}:∀{ks:List Key} {us:List Value},Vals (ks.map kV) us→ItemsAre (mixKind P w) ks us
 | [],_,r=>by rw [List.map_nil] at r; cases r; exact .nil
 | k :: ks,_,r=>by
  rw [List.map_cons] at r
  cases r with
  | cons h t=>exact .cons (kV_is h) (items_are t)
abbrev KT (H:Hp):List (List Key × V)→List (List Key × Addr × Value)→Prop:=Paired fun p q=>p.1=q.1∧H q.2.1=some (.tup (p.1.map kV))∧RelV p.2 q.2.2
theorem KT.val {H:Hp} {kvs:List (List Key × V)} {xs:List (List Key × Addr × Value)} (r:KT H kvs xs) (k:List Key):RelO (valV kvs k) ((atKey xs k).map (·.2)):=by
 induction r with
 | nil=>exact True.intro
 | @cons p q ps qs h t ih=>
  obtain ⟨h1,_,h2⟩:=h
  by_cases e:p.1=k
  ·have e':q.1=k:=h1.symm.trans e
   have b:atKey (q :: qs) k=some q.2:=by simp [atKey,List.find?_cons,e']
   rw [valV_pos e,b]; exact h2
  ·have e':¬q.1=k:=fun z=>e (h1.trans z)
   have b:atKey (q :: qs) k=atKey qs k:=by simp [atKey,List.find?_cons,e']
   rw [valV_neg e,b]; exact ih
section
variable {P:Program} {w:World} {H:Hp} {h:Heap} {a:Addr}
theorem rd_of {u:HO} (ok:HOk P w H h) (e:Rd H a u):ObjOk P w H h a u:=e.ok ok
theorem dk_rd {kvs:List (Key × V)} (ok:HOk P w H h) (e:Rd H a (.dK kvs)):kvs.length≤sizeLine∧(a == sysModules)=false∧∃vs,KV kvs vs∧h.DictOf (mixKind P w) a vs:=
 show ObjOk P w H h a (.dK kvs) from rd_of ok e
theorem dk_of {kvs:List (Key × V)} (ok:HOk P w H h) (e:H a=some (.dK kvs)):kvs.length≤sizeLine∧(a == sysModules)=false∧∃vs,KV kvs vs∧h.DictOf (mixKind P w) a vs:=dk_rd ok (.inl e)
theorem key_of {ks:List Key} (ok:HOk P w H h) (e:H a=some (.tup (ks.map kV))):(tupleKind (mixKind P w)).is h ks a:=by
 obtain ⟨_,its,r,o,h1,h2,n,h3⟩:=(show ObjOk P w H h a (.tup (ks.map kV)) from ok a _ e)
 exact ⟨o,its.toArray,n,h1,h2,h3,by simpa using items_are r⟩
theorem dt_rd {kvs:List (List Key × V)} (ok:HOk P w H h) (e:Rd H a (.dT kvs)):kvs.length≤sizeLine∧(a == sysModules)=false∧
  ∃xs,KT H kvs xs∧h.DictOfH (tupleKind (mixKind P w)) a xs:=by
 obtain ⟨z,y,xs,r,o,es,ep,h1,h2,h3,h4,h5⟩:=(show ObjOk P w H h a (.dT kvs) from rd_of ok e)
 refine ⟨z,y,xs,r,o,es,ep,h1,h2,h3,h4,fun x hx=>?_,h5⟩
 have all:∀{l:List (List Key × V)} {m:List (List Key × Addr × Value)},KT H l m→∀x∈m,(tupleKind (mixKind P w)).is h x.1 x.2.1:=by
  intro l m q
  induction q with
  | nil=>intro x hx; exact nomatch hx
  | @cons p q ps qs hq t ih=>
   intro x hx
   rcases List.mem_cons.mp hx with e | hx
   ·subst e
    exact key_of ok (by rw [← hq.1]; exact hq.2.1)
   ·exact ih x hx
 exact all r x hx
end
def DGet (H:Hp) (a:Addr) (y:V) (r:Option V):Prop:=
 (∃kvs k,Rd H a (.dK kvs)∧y=kV k∧r=valV kvs k)∨∃kvs k b,Rd H a (.dT kvs)∧y = .ref b∧H b=some (.tup (k.map kV))∧r=valV kvs k
theorem DGet.k {H:Hp} {a:Addr} {kvs:List (Key × V)} {k:Key} (e:H a=some (.dK kvs)):DGet H a (kV k) (valV kvs k):=.inl ⟨kvs,k,.inl e,rfl,rfl⟩
section
variable {X:Cx} {pins:List (Addr × Obj)} {σ:St} {H:Hp} {s:Shared} {a:Addr} {y v:V} {u r:Value} {o:Option V} {A:Around} {E:Value→Shared→Prop}
theorem d_getItem {Q:Value→Shared→Prop} (hu:A.units + 1 < cLine) (I:Inv X pins σ H s) (g:DGet H a y (some v)) (ry:RelV y u) (h:∀w' s',Inv X pins σ H s'→RelV v w'→Q w' s') :
  wpAny (model X.prog X.w) A (getItem (.ref a) u) Q E s:=by
 rcases g with ⟨kvs,k,e,ey,l⟩ | ⟨kvs,k,b,e,ey,eb,l⟩
 ·subst ey
  obtain ⟨z,hd,vs,rel,dd⟩:=dk_rd I.hok e
  obtain ⟨w',hw,rw'⟩:=RelO.some_of (v:=v) (o:=valueAt vs k) (by rw [l]; exact rel.val k)
  exact wpAny_getItem_of (kV_is ry) dd.mapOf hw (h w' _ (I.tok _) rw')
 ·subst ey
  cases (show u=Value.ref b from ry)
  obtain ⟨z,hd,xs,rel,dd⟩:=dt_rd I.hok e
  obtain ⟨w',hw,rw'⟩:=RelO.some_of (v:=v) (o:=(atKey xs k).map (·.2)) (by rw [l]; exact rel.val k)
  obtain ⟨p,hp,hp2⟩:=Option.map_eq_some_iff.mp hw
  refine wpAny_getItem_heap (tupleKind_room_in1 hu) (key_of I.hok eb) dd hp ?_
  rw [hp2]
  exact h w' _ (I.tok _) rw'
theorem d_write {h':Heap} {t':Nat} {ob:HO} (I:Inv X pins σ H s) (mu:Mut (H a)) (hs:Heap.SameBut a s.heap h') (he:∃q,h'.get? a=some q) (new:ObjOk X.prog X.w (upd H a ob) h' a ob) :
  Inv X pins σ (upd H a ob) {s with heap:=h',toks:=t'}:=
 I.write (x:=a) (e:=a) mu (.inl rfl) (fun b q hb z=>(hs.2 b hb).trans z) he new
theorem dk_new {P:Program} {w:World} {H':Hp} {h':Heap} {kvs:List (Key × V)} {vs:List (Key × Value)} (z:kvs.length≤sizeLine) (hd:(a == sysModules)=false) (rel:KV kvs vs) (dd:h'.DictOf (mixKind P w) a vs) :
  ObjOk P w H' h' a (.dK kvs):=⟨z,hd,vs,rel,dd⟩
end
section
variable {X:Cx} {pins:List (Addr × Obj)} {σ:St} {H:Hp} {s:Shared} {a:Addr} {kvs:List (Key × V)} {k:Key} {u:Value} {A:Around} {E:Value→Shared→Prop}
end
def NoSl (i:Expr):Prop:=∀ov iv,subscripted i false ov iv=operate [ov,iv] (getItem ov iv)
theorem subD_of {prog:Program} {w:World} {A:Around} {E:Value→Shared→Prop} {s:Shared} {env:Env} {value slice:Expr} {pos:Pos} {T id:String} {Q:Value→Shared→Prop}
  (hl:typeLookup (.type T) "__getitem__" = pure (some (.builtin id))) (hs:NoSl slice)
  (h:wpAny (model prog w) A (eval value env) (fun o s₁=>wpAny (model prog w) A (eval slice env) (fun i s₂=>s₂.TypeIs o T∧wpAny (model prog w) A (getItem o i) Q E s₂) E s₁) E s) :
  wpAny (model prog w) A (eval (.Subscript value slice pos) env) Q E s:=by
 refine Subscript_ (wpAny_mono h (fun o s₁ h₁=>wpAny_mono h₁ (fun i s₂ h₂=>?_) fun _ _ x=>x) fun _ _ x=>x)
 obtain ⟨hT,h₂⟩:=h₂
 unfold subscriptTail
 refine wpAny_bind ?_
 rw [getitemInPython_of_ne hT.not_modules]
 refine wpAny_bind (wpAny_specialOf hT hl ?_)
 have fin:wpAny (model prog w) A (subscripted slice false o i) (fun r s₃=>wpAny (model prog w) A (letTemporaryGo value o r >>= fun _=>pure r) Q E s₃) E s₂:=by
  rw [hs o i]
  exact wpAny_operating (wpAny_mono h₂ (fun r s₃ h₃=>wpAny_bind (wpAny_letTemporaryGo (wpAny_pure h₃))) fun _ _ x=>x)
 first
  | exact wpAny_pure (wpAny_bind fin)
  | exact wpAny_bind (wpAny_pure (wpAny_bind fin))
  | exact wpAny_bind fin
theorem dict_typeIs {X:Cx} {pins:List (Addr × Obj)} {σ:St} {H:Hp} {s:Shared} {a:Addr} {y:V} {o:Option V} (I:Inv X pins σ H s) (g:DGet H a y o):s.TypeIs (.ref a) "dict":=by
 rcases g with ⟨kvs,k,e,_,_⟩ | ⟨kvs,k,b,e,_,_,_⟩
 ·obtain ⟨_,_,vs,_,dd⟩:=dk_rd I.hok e
  exact dd.typeIs
 ·obtain ⟨_,_,xs,_,dd⟩:=dt_rd I.hok e
  exact dd.typeIs
def tDGet (td ty:TE):TE:=fun σ H Q=>td σ H fun x H1=>ty σ H1 fun y H2=>∃a v,x = .ref a∧DGet H2 a y (some v)∧Q v H2
section
variable {X:Cx} {o i e value:Expr} {pos pos' tpos:Pos} {td ty tv:TE}
theorem pe_dget (hu:X.A.units + 1 < cLine) (ho:PE X o td) (hi:PE X i ty) (hs:NoSl i):PE X (.Subscript o i pos) (tDGet td ty):=by
 intro pins s σ H Q I h
 refine subD_of PySem.F.slot_dict_getitem.lookup hs (thn (ho pins s σ H _ I h) fun u s1 ⟨x,H1,I1,rx,q1⟩=>thn (hi pins s1 σ H1 _ I1 q1) fun iv s2 ⟨y,H2,I2,ry,a,v,ex,g,q2⟩=>?_)
 subst ex
 obtain rfl:u=Value.ref a:=rx
 exact ⟨dict_typeIs I2 g,d_getItem hu I2 g ry fun w' s3 I3 rw'=>⟨v,H2,I3,rw',q2⟩⟩
end
section
variable {X:Cx} {pos:Pos}
end
section
variable {X:Cx} {pins:List (Addr × Obj)} {σ:St} {H:Hp} {s:Shared} {a:Addr} {y d:V} {u r:Value} {o:Option V} {A:Around} {E:Value→Shared→Prop}
end
section
variable {X:Cx} {o e f:Expr} {apos cpos:Pos} {td ty tx:TE}
end
section
variable {X:Cx} {pins:List (Addr × Obj)} {σ:St} {H:Hp} {s:Shared} {a:Addr} {kvs:List (Key × V)} {A:Around} {E:Value→Shared→Prop}
end
section
variable {X:Cx} {pins:List (Addr × Obj)} {σ:St} {H:Hp} {s:Shared} {a:Addr} {y:V} {u:Value} {A:Around} {E:Value→Shared→Prop}
end
section
variable {κ:Type} [DecidableEq κ]
theorem nd_snoc:∀{l:List κ} {k:κ},l.Nodup→¬k∈l→(l ++ [k]).Nodup
 | [],k,_,_=>by simp
 | a :: r,k,h,hk=>by
  obtain ⟨h1,h2⟩:=List.nodup_cons.mp h
  show (a :: (r ++ [k])).Nodup
  refine List.nodup_cons.mpr ⟨fun m=>?_,nd_snoc h2 fun m=>hk (List.mem_cons.mpr (Or.inr m))⟩
  rcases List.mem_append.mp m with q | q
  ·exact h1 q
  ·exact hk (List.mem_cons.mpr (Or.inl (List.mem_singleton.mp q).symm))
end
def cutS (z:Str) (lo hi:Option Int):Str:=⟨((z.cps.toList.drop (HT.sIx z.length 0 lo)).take (HT.sIx z.length z.length hi - HT.sIx z.length 0 lo)).toArray⟩
theorem sIx_le (n d:Nat) (hd:d≤n) (v:Option Int):HT.sIx n d v≤n:=by
 cases v with
 | none=>exact hd
 | some i=>
  show (if i < 0 then (i + (n:Int)).toNat else min i.toNat n)≤n
  by_cases h:i < 0
  ·rw [if_pos h]; omega
  ·rw [if_neg h]; omega
theorem pick_cut (z:Str) (lo hi:Option Int):(Builtin.Str.strSliceIndices lo hi 1 z.length).filterMap (z.cps[·]?)=(z.cps.toList.drop (HT.sIx z.length 0 lo)).take (HT.sIx z.length z.length hi - HT.sIx z.length 0 lo)∧
  (Builtin.Str.strSliceIndices lo hi 1 z.length).length=HT.sIx z.length z.length hi - HT.sIx z.length 0 lo:=by
 obtain ⟨h1,h2,h3⟩:=slice_bounds lo hi z.length
 have e:Builtin.Str.strSliceIndices lo hi 1 z.length=sliceRange (sliceBounds lo hi none z.length).1 (sliceBounds lo hi none z.length).2.1 (sliceBounds lo hi none z.length).2.2:=rfl
 rw [e,h1,h2,h3,sliceRange_one]
 exact ⟨pick_run _ _ _,by simp⟩
theorem cutS_len (z:Str) (lo hi:Option Int):(cutS z lo hi).length≤z.length:=by
 unfold cutS Str.length
 simp
 omega
section
variable {X:Cx}
theorem part_of {v:Value} {o:Option Int} (h:IsPart v o):∃p:Option (Int × Tok),v=partValue p∧p.map (·.1)=o:=by
 cases h with
 | none=>exact ⟨none,rfl,rfl⟩
 | int i t=>exact ⟨some (i,t),rfl,rfl⟩
def rSlS:V→Option Int→Option Int→Hp→VK→Prop:=fun x lo hi H Q=>∃z,x = .str z∧z.length≤sizeLine∧Q (.str (cutS z lo hi)) H
theorem sl_str:SlR X rSlS:=by
 intro pins s σ H x v vl vu lo hi sl Q I rx hs pl pu h
 obtain ⟨z,rfl,hz,q⟩:=h
 obtain ⟨t,rfl⟩:=rx
 obtain ⟨l,rfl,el⟩:=part_of pl
 obtain ⟨u,rfl,eu⟩:=part_of pu
 subst el eu
 refine ⟨"str",_,PySem.F.slot_str_getitem.lookup,typeIs_str s z t,?_⟩
 refine wpAny_getItem_str_slice (l:=l) (u:=u) (st:=none) hs rfl ?_
 obtain ⟨p1,p2⟩:=pick_cut z (l.map (·.1)) (u.map (·.1))
 have pk:slicePicked z l u none=Builtin.Str.strSliceIndices (l.map (·.1)) (u.map (·.1)) 1 z.length:=rfl
 unfold sliceMade
 rw [pk]
 split
 ·rename_i hh
  have len:(Builtin.Str.strSliceIndices (l.map (·.1)) (u.map (·.1)) 1 z.length).length=z.length:=by
   have:=(Bool.and_eq_true _ _ ▸ hh:_∧_).2
   exact eq_of_beq this
  have e:cutS z (l.map (·.1)) (u.map (·.1))=z:=by
   rw [p2] at len
   unfold cutS
   rw [len]
   have sz:z.cps.toList.length=z.length:=by simp [Str.length]
   by_cases h0:z.length=0
   ·have:z.cps.toList=[]:=List.length_eq_zero_iff.mp (by rw [sz]; exact h0)
    rw [this,h0]
    cases z with
    | mk c=>
     have:c = #[]:=Array.size_eq_zero_iff.mp h0
     rw [this]; rfl
   ·have hb:HT.sIx z.length z.length (u.map (·.1))≤z.length:=sIx_le _ _ (Nat.le_refl _) _
    have ha:HT.sIx z.length 0 (l.map (·.1))=0:=by omega
    rw [ha,List.drop_zero,List.take_of_length_le (by omega)]
  rw [e] at q
  exact ⟨.str z,H,I,⟨t,rfl⟩,q⟩
 ·rw [p1]
  exact ⟨by
   show ((List.take _ (List.drop _ z.cps.toList)).toArray).size≤_
   have:=cutS_len z (l.map (·.1)) (u.map (·.1))
   exact Nat.le_trans this hz,.str _,H,I.tok _,⟨_,rfl⟩,q⟩
end
theorem new_dict {X:Cx}:NewRule X newDict (fun _=>.dK []):=by
 intro pins s σ H E Q I h
 refine wpAny_newObj_type ?_
 have new:ObjOk X.prog X.w (upd H s.heap.objs.size (.dK [])) (s.heap.push {cls:=.type "dict",data:=.dict #[]}) s.heap.objs.size (.dK []):=
  ⟨Nat.zero_le _,beq_eq_false_iff_ne.mpr (Ne.symm (Nat.ne_of_lt I.above)),[],.nil,Heap.DictOf.new s.heap⟩
 exact h _ (fun b o e=>Heap.get?_push_of_some _ e) (I.laid (t':=s.toks) (fun b u e=>Heap.get?_push_of_some _ e) (Nat.le_refl _) new)
def dictBody (kx vx:Expr) (D:Addr) (env:Env) (k:Sem Fi):Sem Fi:=(do
 let kv ← eval kx env
 let vv ← holding [kv] (eval vx env)
 standAt {kx.pos with endLine:=vx.pos.endLine,endCol:=vx.pos.endCol}
 holding [kv,vv] (dictSet D kv vv)) >>= fun _=>k
def tEmD (D:Addr) (tk tv:TE):TB:=fun σ H N=>tk σ H fun y H1=>tv σ H1 fun v H2=>∃k kvs,y=kV k∧H2 D=some (.dK kvs)∧kvs.length < sizeLine∧N σ (upd H2 D (.dK (putK kvs k v)))
theorem pb_dict {Y:Cx} {kx vx:Expr} {tk tv:TE} {D:Addr} (hx:Y.xe=F0) (hk:PE Y kx tk) (hv:PE Y vx tv):PB Y (dictBody kx vx D Y.env) (tEmD D tk tv):=by
 intro pins s σ H N k R I h hh
 have a1:=hk pins s σ H _ I h
 rw [hx] at a1
 refine wpAny_bind (wpAny_bind (of_F0 a1 fun u s1 ⟨y,H1,I1,ry,q1⟩=>wpAny_bind (wpAny_holding ?_)))
 have a2:=hv pins s1 σ H1 _ I1 q1
 rw [hx] at a2
 refine of_F0 a2 fun r s2 ⟨v,H2,I2,rv,kk,kvs,ey,hD,hz,n2⟩=>wpAny_bind (wpAny_standAt (wpAny_holding ?_))
 subst ey
 obtain ⟨z,hd,vs,rel,dd⟩:=dk_of I2.hok hD
 have hz':vs.length≤sizeLine:=by rw [← rel.length]; exact z
 have hl:(putK kvs kk v).length≤sizeLine:=by have:=length_putK kvs kk v; omega
 refine wpAny_dictSet_pairs (hsz:=hz') (kV_is ry) dd fun h' dd' hs=>?_
 have he:∃q,h'.get? D=some q:=let ⟨q,_,_,hq,_⟩:=dd'; ⟨q,hq⟩
 exact hh σ _ _ (d_write I2 (by rw [hD]; exact True.intro) hs he (dk_new hl hd (rel.put kk rv) dd')) n2
section
variable {X:Cx} {kx vx tg iter:Expr} {ifs:List Expr} {scope esc:Scope} {pos:Pos} {N os:List Str} {fi:List Nat} {wi:TI} {g:TG} {tt:TT} {tk tv:TE}
theorem pe_dictcomp (hc:X.calm=true) (hN:X.N=N) (he:X.env.scope=esc) (B:BlkOk esc scope N fi) (hi:PI X tg iter wi)
  (hg:∀s H fp,PG (blk X scope (nB N os fi) s H fp) tg g) (ht:∀s H fp,PTs (blk X scope (nB N os fi) s H fp) ifs tt)
  (hk:∀s H fp,PE (blk X scope (nB N os fi) s H fp) kx tk) (hv:∀s H fp,PE (blk X scope (nB N os fi) s H fp) vx tv)
  (hs:∀x,foldedSetIterable iter X.env x=pure x:=by intro _; rfl) :
  PE X (.DictComp kx vx [⟨tg,iter,ifs,0⟩] scope pos) (tCG (fun _=>.dK []) os fi wi g tt fun D=>tEmD D tk tv):=
 pe_compG (gs:=[]) (body:=fun D env=>dictBody kx vx D env) rfl rfl hc hN he B loop_dict (start_dict rfl rfl) (fun _ _ _=>rfl) new_dict hi hg ht (fun D s H fp=>pb_dict rfl (hk s H fp) (hv s H fp)) hs
end
end L2
namespace PySem
theorem xr_miss_list {prog:Program} {w:World} {A:Around} {E:Value→Shared→Prop} {s:Shared} {a:Addr} {xs:Array Value} {k:Nat} {name:Str} {Q:Option Value→Shared→Prop}
  (hx:s.heap.get? a=some {cls:=.type "list",data:=.seq xs k}) (hmiss:typeLookup (.type "list") name=pure none) (hname:(["__module__","__name__","__qualname__","__doc__","__annotations__"]:List Str).contains name=false) (hA:A.handled=none)
  (h:∀h' tk,(∀b ob,s.heap.get? b=some ob→h'.get? b=some ob)→Q none {s with heap:=h',toks:=tk}) (hsz:name.length + 100≤sizeLine:=by size_fits) :
  wpAny (model prog w) A (getAttr? (.ref a) name) Q E s:=by
 obtain ⟨hp,g,d,tk,os⟩:=s
 have hT:∀tk',(⟨hp,g,d,tk',os⟩:Shared).TypeIs (.ref a) "list":=fun _=>⟨_,hx,rfl⟩
 have f1:=sub_AttributeError
 have f3:=F.slot_list_getattribute.lookup
 have f4:=F.slot_list_getattribute.bind (.ref a)
 have f5:=am_list_getattr_none
 unfold getAttr? getAttrBy? getAttrBy
 repeat (any_goals (first | assumption | exact hT _ | ((with_reducible show wpAny _ _ (call (Value.builtin "list.__getattribute__") _ _) _ _ _); refine call_meets F.slot_list_getattribute (hT _) am_entry_list_getattribute (F.args_list_getattribute_2 _ _) (meets_getattribute_miss_list a xs k #[] name _ hmiss hname hsz) ⟨hx,hA,fun h' tk' e hx'=>?_⟩) | wp_step))
 obtain ⟨t',u',he⟩:=hx'.there
 show wpAny _ _ (getattributeRaised _ _ _ _ _ _ _) _ _ _
 unfold getattributeRaised
 repeat (any_goals (first | assumption | wp_step))
 exact h _ _ hx'.keeps
namespace F
theorem xr_entry_loop:entryFor table "dict.update.loop" = some Builtin.«dict.update.loop»:=entryFor_of_tree (by kernel_rfl)
theorem xr_plain_loop:plainId "dict.update.loop" = true:=by decide +kernel
theorem xr_no_keys:typeLookup (.type "list") "keys" = pure none:=by rw [typeLookup_type,builtinLookup_eq_fast]; kernel_rfl
end F
section
variable {prog:Program} {w:World} {K:Type} [DecidableEq K] {knd:KeyKind prog w K} {A:Around} {R:Result→Shared→Prop}
def XrPairs (knd:KeyKind prog w K) (h:Heap) (items:Array Value) (ps:List (K × Value)):Prop:=items.size=ps.length∧∀(j:Nat) (k:K) (v:Value),ps[j]? = some (k,v)→∃p kx,items[j]? = some (.ref p)∧knd.is k kx=true∧∃o n,h.get? p=some o∧o.cls = .type "tuple"∧o.data = .seq #[kx,v] n
theorem XrPairs.keeps {h h':Heap} {items:Array Value} {ps:List (K × Value)} (x:XrPairs knd h items ps) (k:∀b o,o.cls = .type "tuple"→h.get? b=some o→h'.get? b=some o):XrPairs knd h' items ps:=
 ⟨x.1,fun j a v e=>by
  obtain ⟨p,kx,e1,e2,o,n,e3,e4,e5⟩:=x.2 j a v e
  exact ⟨p,kx,e1,e2,o,n,k _ _ e4 e3,e4,e5⟩⟩
theorem xr_dict_keeps {h h':Heap} {d:Addr} {kvs:List (K × Value)} (x:h.DictOf knd d kvs) (k:∀o,h.get? d=some o→h'.get? d=some o):h'.DictOf knd d kvs:=by
 obtain ⟨o,es,ep,ho,r⟩:=x
 exact ⟨o,es,ep,k _ ho,r⟩
theorem xr_loop {it l d:Addr} {items:Array Value} {ps:List (K × Value)} {res:Value} (hh:A.handled=none) (len:ps.length≤sizeLine) :
  ∀(k i:Nat) (z:Int) (tz:Tok) (s:Shared),ps.length - i=k→i≤ps.length→s.heap.IsListIter it l i→s.heap.IsList l items→XrPairs knd s.heap items ps→s.heap.DictOf knd d (merged [] (ps.take i))→
  (∀h' tk,h'.DictOf knd d (merged [] ps)→(∀b o,b≠d→b≠it→s.heap.get? b=some o→h'.get? b=some o)→R (.ok (.ret res)) {s with heap:=h',toks:=tk})→
  codeAny (model prog w) A (.builtin "dict.update.loop" ⟨[.ref d,.ref it,.int z tz,res],[]⟩) R s:=by
 intro k
 induction k with
 | zero=>
  intro i z tz s hk hi hit hl hp hd hR
  have hin:i=ps.length:=by omega
  have hdi:d≠it:=fun e=>by
   obtain ⟨o,h1,_,h2⟩:=hit
   obtain ⟨o',es,ep,h3,_,h4,_⟩:=hd
   rw [e,h1] at h3; cases h3
   rw [h2] at h4; cases h4
  refine codeAny_builtin F.xr_entry_loop ?_
  rw [Around.under_plainId F.xr_plain_loop _]
  show wpAny _ A.in1 (pyNext (.ref it) >>= _) _ _ s
  refine wpAny_bind (wpAny_pyNext_list_end (show A.in1.handled=none from hh) hit hl (Array.getElem?_eq_none_iff.mpr (by rw [hp.1]; omega)) fun h' ex=>?_)
  show wpAny _ _ (Builtin.Dict.addKeywords d [] >>= _) _ _ _
  rw [hin,List.take_length] at hd
  exact wpAny_bind (wpAny_pure (wpAny_pure (hR h' s.toks (xr_dict_keeps hd fun o e=>ex d o hdi e) fun b o _ h2 e=>ex b o h2 e)))
 | succ k ih=>
  intro i z tz s hk hi hit hl hp hd hR
  have hlt:i < ps.length:=by omega
  have hdi:d≠it:=fun e=>by
   obtain ⟨o,h1,_,h2⟩:=hit
   obtain ⟨o',es,ep,h3,_,h4,_⟩:=hd
   rw [e,h1] at h3; cases h3
   rw [h2] at h4; cases h4
  obtain ⟨⟨ky,v⟩,hkv⟩:∃kv,ps[i]? = some kv:=⟨_,List.getElem?_eq_getElem hlt⟩
  obtain ⟨p,kx,e1,e2,op,np,e3,e4,e5⟩:=hp.2 i ky v hkv
  refine codeAny_builtin F.xr_entry_loop ?_
  rw [Around.under_plainId F.xr_plain_loop _]
  show wpAny _ A.in1 (pyNext (.ref it) >>= _) _ _ s
  refine wpAny_bind (wpAny_pyNext_list_item hit hl e1 fun h1 hit1 sb1=>?_)
  have nit:∀b o,o.cls = .type "tuple"→s.heap.get? b=some o→b≠it:=fun b o hc hb e=>by
   obtain ⟨o',h1,h2,_⟩:=hit
   rw [e,h1] at hb; cases hb
   rw [h2] at hc; exact absurd (Value.type.inj hc) (by decide)
  have lit:l≠it:=fun e=>by
   obtain ⟨o',h1,h2,_⟩:=hit
   obtain ⟨o,h3,h4,_⟩:=hl
   rw [e,h1] at h3; cases h3
   rw [h2] at h4; exact absurd (Value.type.inj h4) (by decide)
  have hl1:h1.IsList l items:=by
   obtain ⟨o,h3,r⟩:=hl
   exact ⟨o,(sb1.2 l lit).trans h3,r⟩
  have hp1:XrPairs knd h1 items ps:=hp.keeps fun b o hc hb=>(sb1.2 b (nit b o hc hb)).trans hb
  have hd1:h1.DictOf knd d (merged [] (ps.take i)):=xr_dict_keeps hd fun o e=>(sb1.2 d hdi).trans e
  have e31:h1.get? p=some op:=(sb1.2 p (nit p op e4 e3)).trans e3
  refine wpAny_bind (wpAny_holding (wpAny_bind (wpAny_tryCatch ?_)))
  unfold Builtin.Dict.pairItems
  refine wpAny_bind (wpAny_typeOf (T:="tuple") ⟨op,e31,e4⟩ ?_)
  rw [if_pos (by decide)]
  refine wpAny_bind (wpAny_seqItems e31 e5 (wpAny_pure ?_))
  show wpAny _ _ (holding [kx,v] (dictSet d kx v)) _ _ _
  have hsz:(merged ([]:List (K × Value)) (ps.take i)).length≤sizeLine:=by
   have a:=merged_length_le ([]:List (K × Value)) (ps.take i)
   rw [List.length_take] at a
   simp only [List.length_nil] at a
   omega
  refine wpAny_holding (wpAny_dictSet_pairs (hsz:=hsz) e2 hd1 fun h2 hd2 sb2=>?_)
  have dcl:∀b o,(∀es ep,o.data≠.dict es ep)→h1.get? b=some o→b≠d:=fun b o hn hb e=>by
   obtain ⟨o',es,ep,h3,_,h4,_⟩:=hd1
   rw [e,h3] at hb; cases hb
   exact hn _ _ h4
  have hit2:h2.IsListIter it l (i + 1):=by
   obtain ⟨o,a,b,c⟩:=hit1
   exact ⟨o,(sb2.2 it (Ne.symm hdi)).trans a,b,c⟩
  have hl2:h2.IsList l items:=by
   obtain ⟨o,h3,r,n,h4⟩:=hl1
   exact ⟨o,(sb2.2 l (dcl l o (fun es ep q=>by rw [h4] at q; cases q) h3)).trans h3,r,n,h4⟩
  have hp2:XrPairs knd h2 items ps:=⟨hp1.1,fun j a u e=>by
   obtain ⟨p,kx,e1,e2,o,n,e3,e4,e5⟩:=hp1.2 j a u e
   exact ⟨p,kx,e1,e2,o,n,(sb2.2 p (dcl p o (fun es ep q=>by rw [e5] at q; cases q) e3)).trans e3,e4,e5⟩⟩
  refine wpAny_pure ⟨plainId_quiet F.xr_plain_loop _,ih (i + 1) _ _ _ (by omega) hlt hit2 hl2 hp2 (by rw [merged_take_succ _ _ _ _ hkv]; exact hd2) fun h' tk hd' kp=>hR h' tk hd' fun b o b1 b2 e=>?_⟩
  exact kp b o b1 b2 ((sb2.2 b b1).trans ((sb1.2 b b2).trans e))
end
section
variable {prog:Program} {w:World} {K:Type} [DecidableEq K] {knd:KeyKind prog w K} {A:Around} {E:Value→Shared→Prop} {s:Shared}
theorem xr_call_dict {l:Addr} {items:Array Value} {n:Nat} {ps:List (K × Value)} {Q:Value→Shared→Prop} (hh:A.handled=none) (hl:s.heap.get? l=some {cls:=.type "list",data:=.seq items n}) (hp:XrPairs knd s.heap items ps) (hsz:ps.length≤sizeLine)
  (h:∀h' tk,h'.DictOf knd s.heap.objs.size (merged [] ps)→(∀b o,s.heap.get? b=some o→h'.get? b=some o)→Q (.ref s.heap.objs.size) {s with heap:=h',toks:=tk}) :
  wpAny (model prog w) A (call (.type "dict") [.ref l]) Q E s:=by
 refine callType_codes (Q₁:=fun obj s₁=>obj = .ref s.heap.objs.size∧s₁ = {s with heap:=s.heap.push {cls:=.type "dict",data:=.dict #[]}}) F.kt_called_dict (F.kt_typeCall_dict_1 _) F.entry_dict_init (kt_code_dict_new _ ⟨rfl,rfl⟩) ?_
 rintro obj s₁ ⟨rfl,rfl⟩
 have hnew:(s.heap.push {cls:=.type "dict",data:=.dict #[]}).DictOf knd s.heap.objs.size []:=Heap.DictOf.new s.heap
 have hl1:=Heap.get?_push_of_some {cls:=.type "dict",data:=.dict #[]} hl
 have hT:({s with heap:=s.heap.push {cls:=.type "dict",data:=.dict #[]}}:Shared).TypeIs (.ref l) "list":=⟨_,hl1,rfl⟩
 refine ⟨hnew.typeIs,F.args_dict_init_2 _ _,?_⟩
 unfold Builtin.«dict.__init__»
 refine wpAny_bind ?_
 unfold Builtin.Dict.selfAndRest
 refine wpAny_bind (wpAny_notOrdered_dict hnew.typeIs ?_)
 show wpAny _ _ (pure (s.heap.objs.size,[Value.ref l])) _ _ _
 refine wpAny_pure ?_
 show wpAny _ _ (Builtin.Dict.updateFrom "dict.__init__" s.heap.objs.size (.ref l) [] .none) _ _ _
 unfold Builtin.Dict.updateFrom
 refine wpAny_bind (wpAny_typeOf hT ?_)
 rw [if_pos (by decide)]
 refine wpAny_bind (xr_miss_list (name:="keys") hl1 F.xr_no_keys (by decide +kernel) hh (fun h2 tk2 k2=>?_))
 simp only [Option.isNone_none,if_true]
 refine wpAny_bind (wpAny_rule ?_)
 have hl2:=k2 _ _ hl1
 refine wpAny_bind (wpAny_pyIter_list ⟨_,hl2,rfl,n,rfl⟩ ?_)
 dsimp only
 have kp:∀b o,s.heap.get? b=some o→(h2.push {cls:=.type "list_iterator",data:=.fields #[.ref l,.int 0 0]}).get? b=some o:=fun b o e=>Heap.get?_push_of_some _ (k2 _ _ (Heap.get?_push_of_some _ e))
 refine wpAny_pure ⟨plainId_quiet F.xr_plain_loop _,xr_loop (A:=A.in1) (knd:=knd) (it:=h2.objs.size) (l:=l) (items:=items) (ps:=ps) (res:=.none) (show A.in1.handled=none from hh) hsz ps.length 0 0 0 _ rfl (Nat.zero_le _) ⟨_,Heap.get?_push_size _ rfl,rfl,rfl⟩ ⟨_,kp _ _ hl,rfl,n,rfl⟩ (hp.keeps fun b o _ e=>kp b o e)
  (xr_dict_keeps hnew fun o e=>Heap.get?_push_of_some _ (k2 _ _ e)) fun h' tk hd' k'=>⟨rfl,h h' tk hd' fun b o e=>?_⟩⟩
 exact k' b o (fun z=>Nat.lt_irrefl _ (z ▸ Heap.lt_size e)) (fun z=>Nat.lt_irrefl _ (z ▸ Heap.lt_size (k2 _ _ (Heap.get?_push_of_some _ e)))) (kp b o e)
end
end PySem
namespace L2
open PySem
def putAll (kvs:List (Key × V)):List (Key × V):=kvs.foldl (fun m p=>putK m p.1 p.2) []
theorem kv_all:∀(kvs:List (Key × V)) (ps:List (Key × Value)),KV kvs ps→∀(acc:List (Key × V)) (vacc:List (Key × Value)),KV acc vacc→KV (kvs.foldl (fun m p=>putK m p.1 p.2) acc) (merged vacc ps):=by
 intro kvs
 induction kvs with
 | nil=>
  intro ps r acc vacc a
  unfold KV at r
  cases r
  exact a
 | cons p kvs ih=>
  intro ps r acc vacc a
  unfold KV at r
  cases r with
  | cons e t=>
   rename_i q qs
   obtain ⟨k,v⟩:=p
   obtain ⟨k',u⟩:=q
   obtain ⟨ek,rv⟩:=e
   have ek:k=k':=ek
   subst ek
   exact ih qs t _ _ (KV.put a k rv)
theorem xr_ps {P:Program} {w:World} {H:Hp} {h:Heap} (ok:HOk P w H h):∀(ts:List Addr) (kvs:List (Key × V)),ts.length=kvs.length→(∀(j:Nat) (a:Addr) (k:Key) (v:V),ts[j]? = some a→kvs[j]? = some (k,v)→H a=some (.tup [kV k,v]))→
  ∃ps:List (Key × Value),KV kvs ps∧∀(j:Nat) (k:Key) (u:Value),ps[j]? = some (k,u)→∃p kx,ts[j]? = some p∧(mixKind P w).is k kx=true∧∃o n,h.get? p=some o∧o.cls = .type "tuple"∧o.data = .seq #[kx,u] n:=by
 intro ts
 induction ts with
 | nil=>
  intro kvs hl _
  cases kvs with
  | nil=>exact ⟨[],.nil,fun j k u e=>by simp at e⟩
  | cons _ _=>simp at hl
 | cons a ts ih=>
  intro kvs hl f
  cases kvs with
  | nil=>simp at hl
  | cons kv kvs=>
   obtain ⟨k,v⟩:=kv
   have e:=f 0 a k v rfl rfl
   obtain ⟨_,its,r,o,h1,h2,n,h3⟩:=(show ObjOk P w H h a (.tup [kV k,v]) from ok a _ e)
   obtain ⟨kx,u,rfl,rk,rv⟩:=vals2 r
   obtain ⟨ps,r',g⟩:=ih kvs (by simpa using hl) fun j b k2 v2 e1 e2=>f (j + 1) b k2 v2 (by simpa using e1) (by simpa using e2)
   refine ⟨(k,u) :: ps,.cons ⟨rfl,rv⟩ r',fun j k2 u2 e=>?_⟩
   cases j with
   | zero=>
    simp at e
    obtain ⟨rfl,rfl⟩:=e
    exact ⟨a,kx,rfl,kV_is rk,o,n,h1,h2,h3⟩
   | succ j=>
    obtain ⟨p,kx2,q⟩:=g j k2 u2 (by simpa using e)
    exact ⟨p,kx2,by simpa using q⟩
theorem boot_dict:bootBuiltins "dict" = some (.type "dict"):=by decide +kernel
theorem call_dictP {X:Cx} (hc:X.calm=true):CallR X (.type "dict") (fun xs H Q=>∃(l:Addr) (ts:List Addr) (kvs:List (Key × V)),xs=[.ref l]∧H l=some (.lst (ts.map V.ref))∧ts.length=kvs.length∧
  (∀(j:Nat) (a:Addr) (k:Key) (v:V),ts[j]? = some a→kvs[j]? = some (k,v)→H a=some (.tup [kV k,v]))∧∀D,H D=none→Q (.ref D) (upd H D (.dK (putAll kvs)))):=by
 intro pins s σ H xs us Q I r h
 obtain ⟨l,ts,kvs,rfl,hl,len,f,q⟩:=h
 obtain ⟨u,rfl,ru⟩:=vals1 r
 cases (show u=Value.ref l from ru)
 obtain ⟨z,its,n,vs,hget⟩:=(show ObjOk X.prog X.w H s.heap l (.lst (ts.map V.ref)) from I.hok l _ hl)
 obtain ⟨ps,rel,g⟩:=xr_ps I.hok ts kvs len f
 have pl:ps.length=ts.length:=by rw [len]; exact (KV.length rel).symm
 have il:its.length=ts.length:=by rw [← Vals.length vs,List.length_map]
 have tz:ts.length≤sizeLine:=by simpa using z
 have hp:XrPairs (mixKind X.prog X.w) s.heap its.toArray ps:=by
  refine ⟨by simp [il,pl],fun j k v e=>?_⟩
  obtain ⟨p,kx,e1,r⟩:=g j k v e
  obtain ⟨y,hy,ry⟩:=Vals.get (i:=j) (x:=.ref p) vs (by rw [List.getElem?_map,e1]; rfl)
  cases (show y=Value.ref p from ry)
  exact ⟨p,kx,by simpa using hy,r⟩
 refine xr_call_dict (knd:=mixKind X.prog X.w) (I.ok.hd hc) hget hp (by omega) fun h' tk hd k=>?_
 have kv:=kv_all kvs ps rel [] [] .nil
 have ml:=merged_length_le ([]:List (Key × Value)) ps
 have new:ObjOk X.prog X.w (upd H s.heap.objs.size (.dK (putAll kvs))) h' s.heap.objs.size (.dK (putAll kvs)):=
  ⟨by rw [show putAll kvs=kvs.foldl (fun m p=>putK m p.1 p.2) [] from rfl,KV.length kv]; simp only [List.length_nil] at ml; omega,beq_eq_false_iff_ne.mpr (Ne.symm (Nat.ne_of_lt I.above)),_,kv,hd⟩
 exact ⟨.ref _,_,I.laid (t':=tk) k (Nat.le_refl _) new,rfl,q _ I.fresh⟩
section
variable {X:Cx}
end
end L2
namespace L2
open PySem PySem.Spec PyProof.Rows
section
variable {X:Cx}
theorem mt_startswith:MtR X "str.startswith" (fun x xs H Q=>∃z y,x = .str z∧xs=[.str y]∧Q (.bl (Txt.startswith z y)) H):=by
 intro pins s σ H x xs v us Q I rx rv h
 obtain ⟨z,y,rfl,rfl,q⟩:=h
 obtain ⟨t,rfl⟩:=rx
 obtain ⟨u,rfl,t2,rfl⟩:=vals1 rv
 exact SC.startswith ⟨.bl _,H,I,rfl,q⟩
inductive Shown:V→Str→Prop where
 | int {i:Int} (h:i.natAbs.log2 < 1920):Shown (.int i) (toString i)
 | str {z:Str} (h:z.length≤sizeLine):Shown (.str z) z
 | non:Shown .non "None"
end
end L2
namespace GF
open PySem L2
end GF
namespace L2
open PySem PySem.Spec PyProof.Rows
section
variable {X:Cx} {pins:List (Addr × Obj)} {σ:St} {H:Hp} {s:Shared} {scope esc:Scope} {os:List Str} {fi:List Nat} {fp:List Addr}
end
section
variable {X:Cx} {e tg iter:Expr} {ifs:List Expr} {scope esc:Scope} {pos:Pos} {N os:List Str} {fi:List Nat} {wi:TI} {g:TG} {tt:TT} {tb:Addr→TB} {body:Addr→Env→Sem Fi→Sem Fi} {o0:Addr→HO} {mk:Sem Value} {p:Pos}
end
section
variable {X:Cx} {elt kx vx tg iter tg2 iter2:Expr} {ifs ifs2:List Expr} {scope esc:Scope} {pos:Pos} {N os:List Str} {fi:List Nat} {wi wi2:TI} {g g2:TG} {tt tt2:TT} {te tk tv:TE}
end
section
variable {X:Cx}
end
section
variable {prog:Program} {w:World} {A:Around} {E:Value→Shared→Prop} {s:Shared}
end
section
variable {X:Cx} {tg:Expr}
end
section
variable {X:Cx} {e tg iter:Expr} {ifs:List Expr} {scope esc:Scope} {pos:Pos} {N os:List Str} {fi:List Nat} {wi:TI} {g:TG} {tt:TT} {tb:Addr→TB} {body:Addr→Env→Sem Fi→Sem Fi} {o0:Addr→HO} {mk:Sem Value} {p:Pos}
theorem ps_compG {gs:List Comprehension} {i:Nat} {y:Str} {py spos p':Pos} (hev:∀use:Option (Value→Sem Unit),True) (hex:exec (.Assign [.Name y py] e spos) X.env=(do standAt spos; let _ ← (do let _ ← comprehension e scope X.env p' mk false (eval iter X.env) (some (assign (.Name y py) X.env))); pure .next)) (hcl:clausesOf e=⟨tg,iter,ifs,0⟩ :: gs) (hc:X.calm=true) (hN:X.N=N) (he:X.env.scope=esc) (B:BlkOk esc scope N fi)
  (hL:LoopRule X.prog X.w X.A e 0) (hS:StartRule X.prog X.w X.A e 0) (hT:∀(it D:Addr) (env:Env),compTurn e 0 (.ref it) (.ref D) env=turnOf tg p ifs (.ref it) env (body D env) (again (.compLoop e 0 (.ref it) (.ref D) env)))
  (hmk:NewRule X mk o0) (hnd:X.N.Nodup) (hy:X.N[i]? = some y) (hl:Loc X.env.scope y) (hi:PI X tg iter wi)
  (hg:∀s H fp,PG (blk X scope (nB N os fi) s H fp) tg g) (ht:∀s H fp,PTs (blk X scope (nB N os fi) s H fp) ifs tt) (hb:∀D s H fp,PB (blk X scope (nB N os fi) s H fp) (body D (blk X scope (nB N os fi) s H fp).env) (tb D))
  (hfn:X.fn y=true∨X.env.scope.names.lookup y=some .local:=by first | exact .inl rfl | exact .inr rfl | assumption)
  (hs:∀x,foldedSetIterable iter X.env x=pure x:=by intro _; rfl):PS X (.Assign [.Name y py] e spos) (fun D σ H=>tCG o0 os fi wi g tt tb σ H fun v H'=>D.nx (σ.set i (some v)) H'):=by
 intro pins s σ H D I h
 have cells:=blk_cells (by rw [hN]; exact B) he I
 rw [hex]
 refine wpAny_bind (wpAny_standAt (wpAny_bind ?_))
 refine wpAny_bind (thn (wpAny_comprehension_free (use:=some (assign (.Name y py) X.env)) (Q:=fun _ s'=>SP X pins D .next s') hcl hs (closure_eq cells) B.kind B.loc (thn (hi pins s σ H _ I h) fun v s1 h1=>thn h1 fun itv s2 h2=>?_)) fun _ _ z=>wpAny_pure (wpAny_pure z))
 obtain ⟨it,fp,tn,J,H2,rfl,I2,T,st2,f2,q2⟩:=h2
 refine comp_coreG (Q:=fun v H'=>D.nx (σ.set i (some v)) H') (RR:=fun acc C=>compPost (model X.prog X.w) X.A X.xe (some (assign (.Name y py) X.env)) (fun _ s'=>SP X pins D .next s') acc C) hc hN he B hL hS hT hmk hg ht hb I2 T st2 f2 q2 ?_
 intro Dl s3 H3 s' σ' H' I3 f3 I' q
 have J':Inv X pins σ H' s':=blk_out I3 f3 I' (Heap.SameBut.refl ..)
 show wpAny _ _ (assign (.Name y py) X.env (.ref Dl)) _ _ s'
 refine wpAny_assign_Name (store_ok2 (v:=.ref Dl) J' hnd hy hl rfl (fun s'' J'' sb=>?_) hfn)
 obtain ⟨a,sb,ha⟩:=sb
 have cL:s3.heap.objs.size≠X.env.locals:=Nat.ne_of_gt I3.lt
 have cC:∀x c,X.env.cells.lookup x=some c→c≠s3.heap.objs.size:=fun x c e=>by
  obtain ⟨v,ic⟩:=I3.cell x c e
  exact Nat.ne_of_lt ic.lt
 have ca:s3.heap.objs.size≠a:=by
  rcases ha with z | z
  ·rw [z]; exact cL
  ·exact (cC _ _ z).symm
 obtain ⟨m,hn,_⟩:=I'.loc
 have hn'':s''.heap.Ns s3.heap.objs.size m:=by
  obtain ⟨o,es,ep,ho,r⟩:=hn
  exact ⟨o,es,ep,(sb.2 _ ca).trans ho,r⟩
 refine ⟨m,hn'',fun h' sb'=>⟨σ.set i (some (.ref Dl)),H',?_,q⟩⟩
 exact J''.turned (t':=s''.toks) (it:=s3.heap.objs.size) (fun b o hb e=>(sb'.2 b hb).trans e) I'.free cL (.inr I3.sz) cC fun p hp=>Nat.ne_of_lt (Heap.lt_size (I3.pin p hp).1)
end
section
variable {X:Cx} {elt kx vx tg iter tg2 iter2:Expr} {ifs ifs2:List Expr} {scope esc:Scope} {pos:Pos} {N os:List Str} {fi:List Nat} {wi wi2:TI} {g g2:TG} {tt tt2:TT} {te tk tv:TE}
theorem pe_compL (hc:X.calm=true) (hN:X.N=N) (he:X.env.scope=esc) (B:BlkOk esc scope N fi) (hi:PI X tg iter wi)
  (hg:∀s H fp,PG (blk X scope (nB N os fi) s H fp) tg g) (ht:∀s H fp,PTs (blk X scope (nB N os fi) s H fp) ifs tt)
  (hel:∀s H fp,PE (blk X scope (nB N os fi) s H fp) elt te)
  (hs:∀x,foldedSetIterable iter X.env x=pure x:=by intro _; rfl) :
  PE X (.ListComp elt [⟨tg,iter,ifs,0⟩] scope pos) (tCG (fun _=>.lst []) os fi wi g tt fun D=>tEmL D te):=
 pe_compG (gs:=[]) (body:=fun D env=>listBody elt (.ref D) env) rfl rfl hc hN he B loop_list (start_list rfl rfl) (fun _ _ _=>rfl) new_list hi hg ht (fun D s H fp=>pb_list rfl (hel s H fp)) hs
theorem ps_compL {i:Nat} {y:Str} {py spos:Pos} (hc:X.calm=true) (hN:X.N=N) (he:X.env.scope=esc) (B:BlkOk esc scope N fi) (hnd:X.N.Nodup) (hy:X.N[i]? = some y) (hl:Loc X.env.scope y) (hi:PI X tg iter wi)
  (hg:∀s H fp,PG (blk X scope (nB N os fi) s H fp) tg g) (ht:∀s H fp,PTs (blk X scope (nB N os fi) s H fp) ifs tt) (hel:∀s H fp,PE (blk X scope (nB N os fi) s H fp) elt te)
  (hsw:swapsWith (.ListComp elt [⟨tg,iter,ifs,0⟩] scope pos) (some (.Name y py)) spos.line X.env=pure true:=by rfl)
  (hfn:X.fn y=true∨X.env.scope.names.lookup y=some .local:=by first | exact .inl rfl | exact .inr rfl | assumption)
  (hs:∀x,foldedSetIterable iter X.env x=pure x:=by intro _; rfl):PS X (.Assign [.Name y py] (.ListComp elt [⟨tg,iter,ifs,0⟩] scope pos) spos) (fun D σ H=>tCG (fun _=>.lst []) os fi wi g tt (fun D=>tEmL D te) σ H fun v H'=>D.nx (σ.set i (some v)) H'):=
 ps_compG (gs:=[]) (body:=fun D env=>listBody elt (.ref D) env) (fun _=>trivial) (exec_Assign_Name_used _ _ _ _ hsw) rfl hc hN he B loop_list (start_list rfl rfl) (fun _ _ _=>rfl) new_list hnd hy hl hi hg ht (fun D s H fp=>pb_list rfl (hel s H fp)) hfn hs
end
theorem lr_list {K:PySem.W.Frag} {S:Addr} {xs:List V} {g:TG} {tt:TT} {tb:TB} {σ:St} {H:Hp} {N:St→Hp→Prop} (Pv:Nat→St→Hp→Prop) (h0:Pv 0 σ H) (hS:∀i σ H,Pv i σ H→SqL K H S xs)
  (step:∀(i:Nat) (x:V) (σ:St) (H:Hp) (C:St→Hp→Prop),xs[i]? = some x→Pv i σ H→(∀σ' H',Pv (i + 1) σ' H'→C σ' H')→g x σ H fun σ4 H4=>tt σ4 H4 fun ok H5=>if ok=true then tb σ4 H5 C else C σ4 H5)
  (fin:∀σ H,Pv xs.length σ H→N σ H):LR (Itl K S) g tt tb σ H N:=by
 refine ⟨fun i m σ H=>m=xs.length - i∧i≤xs.length∧Pv i σ H,⟨_,rfl,Nat.zero_le _,h0⟩,?_⟩
 rintro i m σ2 H2 ⟨rfl,hi,p⟩
 have sq:=hS i σ2 H2 p
 by_cases hlt:i < xs.length
 ·refine .inr ⟨⟨xs,_,sq,List.getElem?_eq_getElem hlt⟩,?_⟩
  rintro x H3 ⟨rfl,hx⟩
  exact step i x σ2 H3 _ (hx _ sq) p fun σ' H' p'=>⟨xs.length - (i + 1),by omega,rfl,hlt,p'⟩
 ·have e:i=xs.length:=by omega
  subst e
  exact .inl ⟨⟨xs,sq,Nat.le_refl _⟩,fin σ2 H2 p⟩
def tStep (K:PySem.W.Frag) (te ts:TE):TE:=fun σ H Q=>te σ H fun x H1=>tPart ts σ H1 fun o H2=>∃a xs,x = .ref a∧SqL K H2 a xs∧
 ((o=some (-1)∧∀p,H2 p=none→Q (.ref p) (upd H2 p (.lst xs.reverse)))∨(o=some 1∧∀p,H2 p=none→Q (.ref p) (upd H2 p (.lst xs))))
theorem pick_all (items:Array Value):slicePick items none none (some 1)=items:=by
 have e:slicePick items none none (some 1)=slicePick items none none none:=rfl
 rw [e,slicePick_all]
theorem pe_step {X:Cx} {e st:Expr} {te ts:TE} {p2 pos:Pos} (he:PE X e te) (hs:PE X st ts):PE X (.Subscript e (.Slice none none (some st) p2) pos) (tStep X.K te ts):=by
 intro pins s σ H Q I h
 refine Subscript_ (thn (he pins s σ H _ I h) fun v s1 ⟨x,H1,I1,r1,q1⟩=>?_)
 refine wpAny_Slice ?_
 rw [evalPart_none]
 refine wpAny_pure (wpAny_pure ?_)
 have pst:=po_some hs
 refine thn (pst pins s1 σ H1 _ I1 q1) fun vs s3 ⟨o,H3,I3,pp,a,xs,ex,hx,alt⟩=>?_
 subst ex
 cases r1
 have I4:Inv X pins σ H3 {s3 with heap:=s3.heap.push {cls:=.type "slice",data:=.fields #[.none,.none,vs]}}:=I3.kept (t':=s3.toks) fun b ob q=>Heap.get?_push_of_some _ q
 obtain ⟨its,r,ht,hz⟩:=I4.list hx
 show wpAny (model X.prog X.w) X.A (subscriptTail e (.Slice none none (some st) p2) (.ref a) (.ref s3.heap.objs.size)) (EP X pins σ Q) X.xe {s3 with heap:=s3.heap.push {cls:=.type "slice",data:=.fields #[.none,.none,vs]}}
 refine tail_any (ops:=[.ref a,.ref s3.heap.objs.size]) ht.isList.typeIs slot_list_getitem.lookup ?_ (by with_unfolding_all rfl)
 rcases alt with ⟨eo,q⟩ | ⟨eo,q⟩
 ·subst eo
  refine wpAny_getItem_list_slice ht.isList (Heap.IsSliceOf.new ..) .none .none pp (by simp) ?_ (by rw [List.size_toArray,← r.length]; omega)
  rw [PySem.W.krv_pick]
  refine ⟨.ref _,_,I4.laid (t':=s3.toks) (o:=.lst xs.reverse) (fun b ob q=>Heap.get?_push_of_some _ q) (Nat.le_refl _) ?_,rfl,q _ (I4.hok.fresh (Nat.le_refl _))⟩
  exact ⟨by rw [List.length_reverse]; exact hz,_,0,r.reverse,Heap.get?_push_size _ rfl⟩
 ·subst eo
  refine wpAny_getItem_list_slice ht.isList (Heap.IsSliceOf.new ..) .none .none pp (by simp) ?_ (by rw [List.size_toArray,← r.length]; omega)
  rw [pick_all]
  refine ⟨.ref _,_,I4.laid (t':=s3.toks) (o:=.lst xs) (fun b ob q=>Heap.get?_push_of_some _ q) (Nat.le_refl _) ?_,rfl,q _ (I4.hok.fresh (Nat.le_refl _))⟩
  exact ⟨hz,_,0,r,Heap.get?_push_size _ rfl⟩
structure Apart5 (z TI TO i1 i2:Addr):Prop where
 TIz:TI≠z
 TOz:TO≠z
 i1z:i1≠z
 i2z:i2≠z
 TITO:TI≠TO
 TIi1:TI≠i1
 TIi2:TI≠i2
 TOi1:TO≠i1
 TOi2:TO≠i2
 i12:i1≠i2
section
variable {prog:Program} {w:World} {A:Around} {E:Value→Shared→Prop} {s:Shared} {z TI TO i1 i2:Addr} {n1 n2 k:Nat} {P1 P2:Nat→Value→Prop} {St1 St2:Nat→Heap→Prop} {fp1 fp2:List Addr} {a b:Value}
end
section
variable {prog:Program} {w:World} {A:Around} {E:Value→Shared→Prop} {s:Shared}
end
theorem apart5 (n:Nat):Apart5 (n + 4) (n + 2) (n + 3) n (n + 1) where
 TIz:=show (n + 2:Nat)≠n + 4 by omega
 TOz:=show (n + 3:Nat)≠n + 4 by omega
 i1z:=show (n:Nat)≠n + 4 by omega
 i2z:=show (n + 1:Nat)≠n + 4 by omega
 TITO:=show (n + 2:Nat)≠n + 3 by omega
 TIi1:=show (n + 2:Nat)≠n by omega
 TIi2:=show (n + 2:Nat)≠n + 1 by omega
 TOi1:=show (n + 3:Nat)≠n by omega
 TOi2:=show (n + 3:Nat)≠n + 1 by omega
 i12:=show (n:Nat)≠n + 1 by omega
theorem Inv.turnedL {X:Cx} {pins:List (Addr × Obj)} {σ:St} {H:Hp} {s:Shared} {h':Heap} {t':Nat} {fp:List Addr} (I:Inv X pins σ H s)
  (k:∀b o,b∉fp→s.heap.get? b=some o→h'.get? b=some o) (f:∀b∈fp,FpOk X pins H b):Inv X pins σ H {s with heap:=h',toks:=t'}:=by
 have nit:∀b u,H b=some u→b∉fp:=fun b u q z=>by rw [(f b z).1] at q; cases q
 refine I.step (g':=s.gens) (d':=s.drawn) (ch:=fp) (fun b hb=>?_) (fun b o _ _ hc q _=>k b o hc q) (fun b o _ _ hc q _=>⟨o.slots,k b o hc q⟩) (fun _ _ _ _ n=>n)
  (fun b o hc q=>⟨o,k b o hc q⟩) (fun _ _ q=>q) (fun _ _ _ q=>q) (fun b ps q=>⟨#[],by rw [q]; simp⟩) (fun m hm=>?_) (fun b u q=>?_) I.bare
 ·exact ⟨(f b hb).2.2.2.1,(f b hb).2.1,(f b hb).2.2.2.2.1,(f b hb).2.2.2.2.2⟩
 ·obtain ⟨o,es,ep,ho,r⟩:=hm
  exact ⟨o,es,ep,k _ o (fun z=>(f _ z).2.1 rfl) ho,r⟩
 ·refine (I.hok b u q).stay (fun c v hc r=>?_) (fun _ r=>r) fun _ _ r=>r
  rcases hc with z | z
  ·rw [z] at r ⊢; exact k b v (nit b u q) r
  ·exact k c v (nit c _ z) r
section
variable {X:Cx} {es:List Expr} {tk:Nat} {tpos:Pos}
end
theorem Inv.freeze {X:Cx} {pins:List (Addr × Obj)} {σ:St} {H:Hp} {s:Shared} {a:Addr} {kvs:List (Key × V)} (I:Inv X pins σ H s) (ha:H a=some (.dK kvs)) :
  ∃o,s.heap.get? a=some o∧Inv X pins σ (upd H a (.frz o (.dK kvs))) s:=by
 have ok:=I.hok a _ ha
 obtain ⟨_,_,vs,rel,o,es,ep,ho,_⟩:=id ok
 refine ⟨o,ho,?_⟩
 have nn:∀{b u},H b=some u→(∀kvs,u≠.dK kvs)→b≠a:=fun e n z=>by subst z; rw [ha] at e; cases e; exact n _ rfl
 have r:=I.step (H':=upd H a (.frz o (.dK kvs))) (h':=s.heap) (g':=s.gens) (t':=s.toks) (d':=s.drawn) (ch:=[]) (fun _ z=>nomatch z) (fun b o _ _ _ q _=>q) (fun b o _ _ _ q _=>⟨o.slots,q⟩)
  (fun b o _ _ n=>by rw [upd_ne (by intro z; subst z; rw [ha] at n; cases n)]; exact n) (fun b o _ q=>⟨o,q⟩)
  (fun b xs q=>by rw [upd_ne (nn q (by intro _ z; cases z))]; exact q) (fun b o u q=>by rw [upd_ne (nn q (by intro _ z; cases z))]; exact q)
  (fun b ps q=>⟨#[],by rw [upd_ne (nn q (by intro _ z; cases z)),q]; simp⟩) (fun m hm=>hm) (fun b u q=>?_) I.bare
 ·exact r
 ·by_cases hb:b=a
  ·subst hb
   rw [upd_same] at q
   cases q
   exact ⟨ho,ok.stay (fun _ _ _ r=>r) (fun c r=>by rw [upd_ne (nn r (by intro _ z; cases z))]; exact r) fun c xs r=>by rw [upd_ne (nn r (by intro _ z; cases z))]; exact r⟩
  ·rw [upd_ne hb] at q
   exact (I.hok b u q).stay (fun _ _ _ r=>r) (fun c r=>by rw [upd_ne (nn r (by intro _ z; cases z))]; exact r) fun c xs r=>by rw [upd_ne (nn r (by intro _ z; cases z))]; exact r
def Itk (a:Addr) (o:Obj) (kvs:List (Key × V)):It:=
 ⟨fun i H=>H a=some (.frz o (.dK kvs))∧i < kvs.length,fun i H x H'=>H'=H∧∃k v,kvs[i]? = some (k,v)∧x=kV k,fun i H=>H a=some (.frz o (.dK kvs))∧i=kvs.length⟩
theorem kV_rel {k:Key} {u:Value} (h:keyIs k u=true):RelV (kV k) u:=by
 rcases keyIs_shape h with ⟨i,t,rfl,rfl⟩ | ⟨x,t,rfl,rfl⟩
 ·exact ⟨t,rfl⟩
 ·exact ⟨t,rfl⟩
theorem kv_get:∀{kvs:List (Key × V)} {vs:List (Key × Value)} (rel:KV kvs vs) {i:Nat} (hi:i < kvs.length),∃w',vs[i]? = some (kvs[i].1,w')∧RelV kvs[i].2 w'
 | p :: kvs,q :: vs,.cons r rs,0,_=>⟨q.2,by
   obtain ⟨e,_⟩:=r
   show some q=some (p.1,q.2)
   rw [e],r.2⟩
 | p :: kvs,q :: vs,.cons r rs,i + 1,hi=>kv_get rs (Nat.lt_of_succ_lt_succ hi)
theorem turn_keys {P:Program} {w:World} {K:PySem.W.Frag} {tg:Expr} {kvs:List (Key × V)} {o:Obj} {es:Array DictEntry} {ep:Nat} (a it:Addr) (hd:o.data = .dict es ep) :
  Turn P w K tg (Itk a o kvs) [it] it (fun i h=>h.IsKeyIter it a i kvs.length ep) where
 mem:=by simp
 obj:=fun i h st b hb=>by
  have e:b=it:=by simpa using hb
  subst e
  obtain ⟨o,e,c,d⟩:=st
  exact ⟨o,e,fun v z=>by rw [d] at z; cases z⟩
 keep:=fun i h h' st k=>st.at fun o e=>k it (by simp) o e
 item:=by
  intro X hP hw hK hc i pins s σ H E I hf st hg
  subst hP hw hK
  obtain ⟨ha,hi⟩:=hg
  obtain ⟨ho,_,_,vs,rel,o',es',ep',ho',c1,c2,c3⟩:=I.hok a _ ha
  rw [ho] at ho'; cases ho'
  rw [hd] at c2; cases c2
  have dd:s.heap.DictAt (mixKind X.prog X.w) a vs ep:=⟨o,es,ho,c1,hd,c3⟩
  have ln:kvs.length=vs.length:=KV.length rel
  obtain ⟨f0,f1,f2,f3,f4,f5⟩:=hf it (by simp)
  have st':s.heap.IsKeyIter it a i vs.length ep:=by rw [← ln]; exact st
  obtain ⟨w',hw,ek⟩:=kv_get rel hi
  refine wpAny_pyNext_dict_item (k:=kvs[i].1) (v:=w') st' dd hw fun key h' hk it' sb=>?_
  have I1:Inv X pins σ H {s with heap:=h'}:=I.turned (t':=s.toks) (fun b o hb e=>(sb.2 b hb).trans e) f0 f1 f3 f4 f5
  obtain ⟨o2,e2,cc2,d2⟩:=id it'
  refine ⟨key,rfl,go_of (s:={s with heap:=h'}) e2 cc2 d2 (by decide) ⟨kV kvs[i].1,H,I1,kV_rel hk,⟨rfl,kvs[i].1,kvs[i].2,by simp [hi],rfl⟩,by rw [ln]; exact it',fun b hb=>(hf b hb).1⟩⟩
 done:=by
  intro X hP hw hK hc i pins s σ H E I hf st hg
  subst hP hw hK
  obtain ⟨ha,hi⟩:=hg
  obtain ⟨ho,_,_,vs,rel,o',es',ep',ho',c1,c2,c3⟩:=I.hok a _ ha
  rw [ho] at ho'; cases ho'
  rw [hd] at c2; cases c2
  have dd:s.heap.DictAt (mixKind X.prog X.w) a vs ep:=⟨o,es,ho,c1,hd,c3⟩
  have ln:kvs.length=vs.length:=KV.length rel
  obtain ⟨f0,f1,f2,f3,f4,f5⟩:=hf it (by simp)
  have st':s.heap.IsKeyIter it a i vs.length ep:=by rw [← ln]; exact st
  exact wpAny_pyNext_dict_end (I.ok.hd hc) st' dd (by simp; omega) fun h' eb=>⟨rfl,I.turned (t':=s.toks) (fun b o hb e=>eb b o hb e) f0 f1 f3 f4 f5⟩
 self:=fun _ _ _ _ _ st h=>wpAny_pyIter_keyiter st h
def iKeys (tl:TE):TI:=fun σ H R=>tl σ H fun v H1=>∃(a:Addr) (kvs:List (Key × V)),v = .ref a∧Rd H1 a (.dK kvs)∧∀o H2,H2 a=some (.frz o (.dK kvs))→(∀b,b≠a→H2 b=H1 b)→R (Itk a o kvs) H2
section
variable {X:Cx} {tg:Expr}
theorem pi_keys {l:Expr} {tl:TE} (hl:PE X l tl):PI X tg l (iKeys tl):=by
 intro pins s σ H R I h
 refine thn (hl pins s σ H _ I h) fun v s1 ⟨y,H1,I1,r1,a,kvs,e,rd,q⟩=>?_
 subst e
 cases r1
 have core:∀o H2,H2 a=some (.frz o (.dK kvs))→(∀b,b≠a→H2 b=H1 b)→Inv X pins σ H2 s1→wpAny (model X.prog X.w) X.A (pyIter (.ref a)) (PIE X pins σ tg R) X.xe s1:=fun o H2 e2 ne I2=>by
  obtain ⟨ho,_,hs,vs,rel,o',es,ep,ho',c1,c2,c3⟩:=I2.hok a _ e2
  rw [ho] at ho'; cases ho'
  have dd:s1.heap.DictAt (mixKind X.prog X.w) a vs ep:=⟨o,es,ho,c1,c2,c3⟩
  refine wpAny_pyIter_dict hs dd ?_
  have ln:kvs.length=vs.length:=KV.length rel
  refine ⟨s1.heap.objs.size,[s1.heap.objs.size],_,_,H2,rfl,I2.kept (t':=s1.toks) fun b o e=>Heap.get?_push_of_some _ e,turn_keys (kvs:=kvs) a s1.heap.objs.size c2,?_,fun b hb=>?_,q o H2 e2 ne⟩
  ·exact ⟨_,Heap.get?_push_size _ rfl,rfl,by rw [ln]; rfl⟩
  ·have e:b=s1.heap.objs.size:=by simpa using hb
   subst e
   exact I2.fpOk (Nat.le_refl _) (I2.hok.fresh (Nat.le_refl _))
 rcases rd with rd | ⟨o,rd⟩
 ·obtain ⟨o,ho,I2⟩:=I1.freeze rd
  exact core o _ upd_same (fun b hb=>upd_ne hb) I2
 ·exact core o H1 rd (fun _ _=>rfl) I1
end
theorem for_keys {a:Addr} {o:Obj} {kvs:List (Key × V)} {g:TG} {tb:TS} {D:Ends} {σ:St} {H:Hp} (Pv:Nat→St→Hp→Prop) (h0:Pv 0 σ H) (hl:∀i σ H,i≤kvs.length→Pv i σ H→H a=some (.frz o (.dK kvs)))
  (hs:∀i k v σ H,kvs[i]? = some (k,v)→Pv i σ H→g (kV k) σ H fun σ2 H2=>tb {D with nx:=Pv (i + 1),ct:=Pv (i + 1),bk:=D.nx} σ2 H2) (hd:∀σ H,Pv kvs.length σ H→D.nx σ H) :
  ∃W:Nat→Nat→St→Hp→Prop,(∃m,W 0 m σ H)∧∀i m σ H,W i m σ H→
   ((Itk a o kvs).stop i H∧D.nx σ H)∨((Itk a o kvs).go i H∧∃N:St→Hp→Prop,(∀σ' H',N σ' H'→∃m',m' < m∧W (i + 1) m' σ' H')∧∀x H',(Itk a o kvs).yld i H x H'→g x σ H' fun σ2 H2=>tb {D with nx:=N,ct:=N,bk:=D.nx} σ2 H2):=by
 refine ⟨fun i m σ H=>m=kvs.length - i∧i≤kvs.length∧Pv i σ H,⟨kvs.length,by simp,Nat.zero_le _,h0⟩,?_⟩
 rintro i m σ H ⟨rfl,hi,p⟩
 have q:=hl i σ H hi p
 by_cases hlt:i < kvs.length
 ·refine .inr ⟨⟨q,hlt⟩,Pv (i + 1),fun σ' H' p'=>⟨kvs.length - (i + 1),by omega,rfl,hlt,p'⟩,?_⟩
  rintro x H' ⟨e,k,v,hk,rfl⟩
  subst e
  exact hs i k v σ _ hk p
 ·have e:i=kvs.length:=by omega
  subst e
  exact .inl ⟨⟨q,rfl⟩,hd σ H p⟩
section
variable {X:Cx}
end
theorem newH {H:Hp} {a:Addr} {o:HO} {H':Hp} (h:upd H a o=H') (n:H a=none):Same H H'∧H' a=some o∧∀b,b≠a→H' b=H b:=by
 subst h
 exact ⟨fun b u e=>by rw [upd_ne (ne_of_none e n)]; exact e,upd_same,fun b hb=>upd_ne hb⟩
theorem newC {H:Hp} {a:Addr} {o:HO} {H':Hp} {C:Prop} (h:upd H a o=H') (n:H a=none) (k:Same H H'→H' a=some o→(∀b,b≠a→H' b=H b)→C):C:=
 k (newH h n).1 (newH h n).2.1 (newH h n).2.2
theorem lr_range {lo:Int} {n:Nat} {g:TG} {tt:TT} {tb:TB} {σ:St} {H:Hp} {N:St→Hp→Prop} (Pv:Nat→St→Hp→Prop) (h0:Pv 0 σ H)
  (step:∀(i:Nat) (σ:St) (H:Hp) (C:St→Hp→Prop),i < n→Pv i σ H→(∀σ' H',Pv (i + 1) σ' H'→C σ' H')→g (.int (lo + i)) σ H fun σ4 H4=>tt σ4 H4 fun ok H5=>if ok=true then tb σ4 H5 C else C σ4 H5)
  (fin:∀σ H,Pv n σ H→N σ H):LR (Itr lo n) g tt tb σ H N:=by
 refine ⟨fun i m σ H=>m=n - i∧i≤n∧Pv i σ H,⟨_,rfl,Nat.zero_le _,h0⟩,?_⟩
 rintro i m σ2 H2 ⟨rfl,hi,p⟩
 by_cases hlt:i < n
 ·refine .inr ⟨hlt,?_⟩
  rintro x H3 ⟨rfl,rfl⟩
  exact step i σ2 H3 _ hlt p fun σ' H' p'=>⟨n - (i + 1),by omega,rfl,hlt,p'⟩
 ·have e:i=n:=by omega
  subst e
  exact .inl ⟨Nat.le_refl _,fin _ _ p⟩
def Itzl (K:PySem.W.Frag) (a b:Addr):It:=
  ⟨fun i H=>∃xs ys x y,SqL K H a xs∧SqL K H b ys∧xs[i]? = some x∧ys[i]? = some y,
   fun i H v H'=>∃t x y,H t=none∧v = .ref t∧(∀xs,SqL K H a xs→xs[i]? = some x)∧(∀ys,SqL K H b ys→ys[i]? = some y)∧H'=upd H t (.tup [x,y]),
   fun i H=>∃xs ys,SqL K H a xs∧SqL K H b ys∧(xs.length≤i∨ys.length≤i)⟩
theorem zip_apart {h:Heap} {z TI TO i1 i2 a b:Addr} {xs ys:Array Value} {u v:Value} {m n:Nat} {f:Value} (D:Apart5 z TI TO i1 i2) (hz:IsZip h z TI TO f) (hTO:IsPair h TO u v) (h1:h.IsListIter i1 a m) (h2:h.IsListIter i2 b n) (ha:h.IsList a xs) (hb:h.IsList b ys):ZipApart z TI TO i1 i2 a b:=by
 obtain ⟨o1,e1,c1,d1⟩:=h1
 obtain ⟨o2,e2,c2,d2⟩:=h2
 have no:∀{l:Addr} {ws:Array Value},h.IsList l ws→l≠z∧l≠TO∧l≠i1∧l≠i2:=fun {l ws} hl=>by
  obtain ⟨o,e,c,k,d⟩:=hl
  refine ⟨fun q=>?_,fun q=>?_,fun q=>?_,fun q=>?_⟩
  ·subst q
   have hz':h.get? l=some _:=hz
   rw [e] at hz'; cases hz'; cases d
  ·subst q
   have hz':h.get? l=some _:=hTO
   rw [e] at hz'; cases hz'
   exact absurd c (by simp)
  ·subst q
   rw [e] at e1; cases e1; rw [d1] at d; cases d
  ·subst q
   rw [e] at e2; cases e2; rw [d2] at d; cases d
 obtain ⟨p1,p2,p3,p4⟩:=no ha
 obtain ⟨q1,q2,q3,q4⟩:=no hb
 exact ⟨D.TIz,D.TOz,D.i1z,D.i2z,D.TITO,D.TIi1,D.TIi2,D.TOi1,D.TOi2,D.i12,p1,p2,p3,p4,q1,q2,q3,q4⟩
theorem turn_zipL {P:Program} {w:World} {K:PySem.W.Frag} {es:List Expr} {k:Nat} {pos:Pos} (a b:Addr) (z TI TO i1 i2:Addr) (D:Apart5 z TI TO i1 i2) :
  Turn P w K (.Tuple es k pos) (Itzl K a b) [z,TI,TO,i1,i2] z (fun i h=>IsZip h z TI TO .none∧IsPair h TI (.ref i1) (.ref i2)∧(∃u v,IsPair h TO u v)∧h.IsListIter i1 a i∧h.IsListIter i2 b i) where
 mem:=by simp
 obj:=fun i h st b hb=>by
  obtain ⟨hz,hTI,⟨a,c,hTO⟩,⟨o1,e1,_,d1⟩,⟨o2,e2,_,d2⟩⟩:=st
  simp at hb
  rcases hb with rfl | rfl | rfl | rfl | rfl
  ·exact ⟨_,hz,fun v z=>by cases (show Data.fields _=Data.cell v from z)⟩
  ·exact ⟨_,hTI,fun v z=>by cases (show Data.seq _ _=Data.cell v from z)⟩
  ·exact ⟨_,hTO,fun v z=>by cases (show Data.seq _ _=Data.cell v from z)⟩
  ·exact ⟨o1,e1,fun v z=>by rw [d1] at z; cases z⟩
  ·exact ⟨o2,e2,fun v z=>by rw [d2] at z; cases z⟩
 keep:=fun i h h' st kk=>by
  obtain ⟨hz,hTI,⟨a,c,hTO⟩,h1,h2⟩:=st
  exact ⟨kk z (by simp) _ hz,kk TI (by simp) _ hTI,⟨a,c,kk TO (by simp) _ hTO⟩,h1.at fun o e=>kk i1 (by simp) o e,h2.at fun o e=>kk i2 (by simp) o e⟩
 item:=by
  intro X hP hw hK hc i pins s σ H E I hf st hg
  subst hP hw hK
  obtain ⟨xs,ys,x,y,hqa,hqb,hx,hy⟩:=hg
  obtain ⟨its,rv,pa,hza⟩:=I.list hqa
  obtain ⟨jts,rw_,pb,hzb⟩:=I.list hqb
  obtain ⟨u,hu,ru⟩:=rv.get hx
  obtain ⟨v,hv,rv'⟩:=rw_.get hy
  obtain ⟨hz,hTI,⟨c,d,hTO⟩,h1,h2⟩:=st
  have ap:=zip_apart D hz hTO h1 h2 pa.isList pb.isList
  refine wpAny_pyNext_zip_item ap hz hTI hTO h1 h2 pa.isList pb.isList (x:=u) (y:=v) (by simpa using hu) (by simpa using hv) fun h' a1 a2 a3 a4 a5 a6 a7=>?_
  refine ⟨_,rfl,wpAny_letOwnedTupleGo_zip (s:={s with heap:=h'}) a1 fun h2' b1 sb=>?_⟩
  have hfr:=I.hok.fresh (Nat.le_refl s.heap.objs.size)
  have I1:Inv X pins σ (upd H s.heap.objs.size (.tup [x,y])) {s with heap:=s.heap.push {cls:=.type "tuple",data:=.seq #[u,v]},toks:=s.toks}:=
   I.laid (o:=.tup [x,y]) (fun b o q=>Heap.get?_push_of_some _ q) (Nat.le_refl _) ⟨by show 2≤sizeLine; decide,[u,v],.cons ru (.cons rv' .nil),IsTup.new _ _⟩
  have lt:∀b∈[z,TI,TO,i1,i2],b < s.heap.objs.size:=fun b hb=>by
   simp at hb
   rcases hb with rfl | rfl | rfl | rfl | rfl
   ·exact Heap.lt_size hz
   ·exact Heap.lt_size hTI
   ·exact Heap.lt_size hTO
   ·obtain ⟨o,q,_⟩:=id h1; exact Heap.lt_size q
   ·obtain ⟨o,q,_⟩:=id h2; exact Heap.lt_size q
  have up:∀b∈[z,TI,TO,i1,i2],FpOk X pins (upd H s.heap.objs.size (.tup [x,y])) b:=fun b hb=>⟨by rw [upd_ne (Nat.ne_of_lt (lt b hb))]; exact (hf b hb).1,(hf b hb).2⟩
  have I2:=I1.turnedL (h':=h2') (t':=s.toks) (fun b o n q=>?_) up
  ·refine ⟨.ref s.heap.objs.size,_,I2,rfl,⟨_,x,y,hfr,rfl,fun zs hs=>by rw [I.list_inj hs hqa]; exact hx,fun zs hs=>by rw [I.list_inj hs hqb]; exact hy,rfl⟩,⟨b1,?_,⟨_,_,sb.extBut _ _ D.TOz a2⟩,?_,?_⟩,fun b hb=>(up b hb).1⟩
   ·exact sb.extBut _ _ D.TIz (a7 _ _ D.TIz D.TITO D.TIi1 D.TIi2 hTI)
   ·exact a3.extBut sb.extBut D.i1z
   ·exact a4.extBut sb.extBut D.i2z
  ·have q1:(s.heap.push {cls:=.type "tuple",data:=.seq #[u,v]}).get? b=some o:=q
   simp at n
   refine sb.extBut b o n.1 ?_
   by_cases hb:b=s.heap.objs.size
   ·subst hb
    rw [Heap.get?_push_size _ rfl] at q1
    cases q1
    exact a5
   ·refine a7 b o n.1 n.2.2.1 n.2.2.2.1 n.2.2.2.2 ?_
    rw [← q1]
    exact (Heap.get?_push_ne s.heap b _ hb).symm
 done:=by
  intro X hP hw hK hc i pins s σ H E I hf st hg
  subst hP hw hK
  obtain ⟨xs,ys,hqa,hqb,hx⟩:=hg
  obtain ⟨its,rv,pa,hza⟩:=I.list hqa
  obtain ⟨jts,rw_,pb,hzb⟩:=I.list hqb
  obtain ⟨hz,hTI,⟨c,d,hTO⟩,h1,h2⟩:=st
  have ap:=zip_apart D hz hTO h1 h2 pa.isList pb.isList
  have l1:=rv.length
  have l2:=rw_.length
  refine wpAny_pyNext_zip_end (I.ok.hd hc) ap hz hTI hTO h1 h2 pa.isList pb.isList ?_ fun h' kk=>⟨rfl,?_⟩
  ·rcases hx with hx | hx
   ·exact .inl (by simp; omega)
   ·exact .inr (by simp; omega)
  exact I.turnedL (t':=s.toks) (fun b o n q=>by simp at n; exact kk b o n.1 n.2.2.1 n.2.2.2.1 n.2.2.2.2 q) hf
 self:=fun _ _ _ _ _ st h=>wpAny_pyIter_zip st.1 h
section
variable {X:Cx} {es:List Expr} {tk:Nat} {tpos:Pos}
def iZipL (K:PySem.W.Frag) (ta:TA):TI:=fun σ H R=>ta σ H fun vs H1=>∃a b,vs=[.ref a,.ref b]∧(∃xs,SqL K H1 a xs)∧(∃ys,SqL K H1 b ys)∧R (Itzl K a b) H1
theorem pi_zipL {a b:Expr} {ta:TA} {p pos:Pos} (hg:Gl X "zip") (hm:X.mg "zip" = none) (ha:PA X [a,b] ta) (hs:starEach [a,b] X.env=[(false,eval a X.env),(false,eval b X.env)]:=by rfl) (hs2:starEach [b] X.env=[(false,eval b X.env)]:=by rfl) :
  PI X (.Tuple es tk tpos) (.Call (.Name "zip" p) [a,b] [] pos) (iZipL X.K ta):=by
 intro pins s σ H R I h
 refine Call_ (ld_blt I hg hm PyProof.Rows.boot_zip (PyProof.Rows.callWith_type1 (thn (ha pos pins s σ H _ I h) fun us s1 ⟨vs,H1,I1,r1,q1⟩=>?_) (by rw [hs,hs2]) (by rw [hs2]; rfl)))
 obtain ⟨c,d,e,⟨xs,hc⟩,⟨ys,hd⟩,q⟩:=q1
 subst e
 cases r1 with
 | cons r rr=>
  cases rr with
  | cons r' rr=>
   cases rr
   cases r
   cases r'
   obtain ⟨its,rv,pa,hza⟩:=I1.list hc
   obtain ⟨jts,rw_,pb,hzb⟩:=I1.list hd
   refine call_zip_2 pa.isList pb.isList fun h' a1 a2 a3 a4 a5 a6 a7=>wpAny_pyIter_zip a1 ?_
   refine ⟨_,[s1.heap.objs.size + 4,s1.heap.objs.size + 2,s1.heap.objs.size + 3,s1.heap.objs.size,s1.heap.objs.size + 1],_,_,H1,rfl,I1.kept (t':=s1.toks) a7,
    turn_zipL c d _ (s1.heap.objs.size + 2) (s1.heap.objs.size + 3) s1.heap.objs.size (s1.heap.objs.size + 1) (apart5 _),⟨a1,a2,⟨_,_,a3⟩,a4,a5⟩,fun b hb=>?_,q⟩
   have hb':s1.heap.objs.size≤b:=by
    simp at hb
    rcases hb with rfl | rfl | rfl | rfl | rfl
    ·exact Nat.le_add_right _ 4
    ·exact Nat.le_add_right _ 2
    ·exact Nat.le_add_right _ 3
    ·exact Nat.le_refl _
    ·exact Nat.le_add_right _ 1
   exact I1.fpOk hb' (I1.hok.fresh hb')
end
theorem lr_zipL {K:PySem.W.Frag} {a b:Addr} {xs ys:List V} {g:TG} {tt:TT} {tb:TB} {σ:St} {H:Hp} {N:St→Hp→Prop} (Pv:Nat→St→Hp→Prop) (h0:Pv 0 σ H) (hl:xs.length=ys.length) (hS:∀i σ H,Pv i σ H→SqL K H a xs∧SqL K H b ys)
  (step:∀(i:Nat) (x y:V) (t:Addr) (σ:St) (H:Hp) (C:St→Hp→Prop),xs[i]? = some x→ys[i]? = some y→H t=none→Pv i σ H→(∀σ' H',Pv (i + 1) σ' H'→C σ' H')→g (.ref t) σ (upd H t (.tup [x,y])) fun σ4 H4=>tt σ4 H4 fun ok H5=>if ok=true then tb σ4 H5 C else C σ4 H5)
  (fin:∀σ H,Pv xs.length σ H→N σ H):LR (Itzl K a b) g tt tb σ H N:=by
 refine ⟨fun i m σ H=>m=xs.length - i∧i≤xs.length∧Pv i σ H,⟨_,rfl,Nat.zero_le _,h0⟩,?_⟩
 rintro i m σ2 H2 ⟨rfl,hi,p⟩
 obtain ⟨sa,sb⟩:=hS i σ2 H2 p
 by_cases hlt:i < xs.length
 ·refine .inr ⟨⟨xs,ys,_,_,sa,sb,List.getElem?_eq_getElem hlt,List.getElem?_eq_getElem (show i < ys.length by omega)⟩,?_⟩
  rintro v H3 ⟨t,x,y,ht,rfl,hx,hy,rfl⟩
  exact step i x y t σ2 H2 _ (hx _ sa) (hy _ sb) ht p fun σ' H' p'=>⟨xs.length - (i + 1),by omega,rfl,hlt,p'⟩
 ·have e:i=xs.length:=by omega
  subst e
  exact .inl ⟨⟨xs,ys,sa,sb,.inl (Nat.le_refl _)⟩,fin σ2 H2 p⟩
theorem lr_str {z:Str} {g:TG} {tt:TT} {tb:TB} {σ:St} {H:Hp} {N:St→Hp→Prop} (Pv:Nat→St→Hp→Prop) (h0:Pv 0 σ H)
  (step:∀(i c:Nat) (σ:St) (H:Hp) (C:St→Hp→Prop),z.cps[i]? = some c→Pv i σ H→(∀σ' H',Pv (i + 1) σ' H'→C σ' H')→g (.str ⟨#[c]⟩) σ H fun σ4 H4=>tt σ4 H4 fun ok H5=>if ok=true then tb σ4 H5 C else C σ4 H5)
  (fin:∀σ H,Pv z.cps.size σ H→N σ H):LR (Its z) g tt tb σ H N:=by
 refine ⟨fun i m σ H=>m=z.cps.size - i∧i≤z.cps.size∧Pv i σ H,⟨_,rfl,Nat.zero_le _,h0⟩,?_⟩
 rintro i m σ2 H2 ⟨rfl,hi,p⟩
 by_cases hlt:i < z.cps.size
 ·refine .inr ⟨hlt,?_⟩
  rintro x H3 ⟨rfl,c,hc,rfl⟩
  exact step i c σ2 H3 _ hc p fun σ' H' p'=>⟨z.cps.size - (i + 1),by omega,rfl,hlt,p'⟩
 ·have e:i=z.cps.size:=by omega
  subst e
  exact .inl ⟨rfl,fin _ _ p⟩
theorem lr_tup {K:PySem.W.Frag} {S:Addr} {xs:List V} {g:TG} {tt:TT} {tb:TB} {σ:St} {H:Hp} {N:St→Hp→Prop} (Pv:Nat→St→Hp→Prop) (h0:Pv 0 σ H) (hS:∀i σ H,Pv i σ H→SqT K H S xs)
  (step:∀(i:Nat) (x:V) (σ:St) (H:Hp) (C:St→Hp→Prop),xs[i]? = some x→Pv i σ H→(∀σ' H',Pv (i + 1) σ' H'→C σ' H')→g x σ H fun σ4 H4=>tt σ4 H4 fun ok H5=>if ok=true then tb σ4 H5 C else C σ4 H5)
  (fin:∀σ H,Pv xs.length σ H→N σ H):LR (Itt K S) g tt tb σ H N:=by
 refine ⟨fun i m σ H=>m=xs.length - i∧i≤xs.length∧Pv i σ H,⟨_,rfl,Nat.zero_le _,h0⟩,?_⟩
 rintro i m σ2 H2 ⟨rfl,hi,p⟩
 have sq:=hS i σ2 H2 p
 by_cases hlt:i < xs.length
 ·refine .inr ⟨⟨xs,_,sq,List.getElem?_eq_getElem hlt⟩,?_⟩
  rintro x H3 ⟨rfl,hx⟩
  exact step i x σ2 H3 _ (hx _ sq) p fun σ' H' p'=>⟨xs.length - (i + 1),by omega,rfl,hlt,p'⟩
 ·have e:i=xs.length:=by omega
  subst e
  exact .inl ⟨⟨xs,sq,Nat.le_refl _⟩,fin σ2 H2 p⟩
section
variable {prog:Program} {w:World} {A:Around} {E:Value→Shared→Prop} {h:Heap} {g:Array GenState} {d:Drawn} {t:Nat} {os:OsState} {nm q:Str} {C N:Addr} {bs bm bmB:List Value} {hdct:Bool} {sn:List Str} {sub:List Value} {ab:Bool} {col:Option Bool}
 {dd:Option Addr} {k0 k1 k2 k3 k5:Option Value} {B newId initId:String}
theorem type_call_initT (F:ExcBaseFacts B newId initId bmB) (T:OwnTail h bmB bm) {mN:Str→Option Value} {rest:List Value} {fI:Addr} {oI:Obj} {Q:PySem.Fin→Shared→Prop}
  (hC:h.get? C=some (excClassObj nm q C N bs bm hdct sn sub ab col dd k0 k1 k2 k3 k5 newId)) (hn:h.Ns N mN) (hi:mN (Str.ofString "__init__")=some (.ref fI)) (hfI:h.get? fI=some oI) (hfc:oI.cls = .type "function")
  (hq:∀(h':Heap) (e:Addr),h.MadeExcOf h' e (.ref C) rest→wpAny (model prog w) A (call (.ref fI) (.ref e :: rest)) (fun r s'=>r = .none∧Q (.done (.ret (.ref e))) s') E {heap:=h',gens:=g,drawn:=d,toks:=t,os:=os})
  (hrest:rest.length≤sizeLine):wpAny (model prog w) A (Builtin.«type.__call__» {pos:=.ref C :: rest}) Q E {heap:=h,gens:=g,drawn:=d,toks:=t,os:=os}:=by
 unfold Builtin.«type.__call__»
 refine wpAny_ite_false rfl ?_
 refine wpAny_bind (id (wpAny_bind (id (wpAny_bind (wpAny_load' hC (wpAny_pure (wpAny_pure (wpAny_ite_false rfl (wpAny_bind (wpAny_madeBy_exc hC (wpAny_bind (wpAny_pure (wpAny_bind (wpAny_holding (wpAny_call ?_)))))))))))))))
 refine codeAny_call_builtin_code (Code.quiet_builtin {pos:=Value.ref C :: rest} F.quiet) (wpAny_check_new_subT F T hC (codeAny_exc_new_subT F T hC (id ?_) hrest))
 have hk:∀(b:Addr) (o:Obj),h.get? b=some o→((h.push {cls:=Value.type "tuple",data:=Data.seq rest.toArray}).push {cls:=Value.ref C,data:=Data.fields #[Value.ref h.objs.size,Value.none,Value.none,Value.none,Value.bool false,Value.none]}).get? b=some o:=fun b o e=>Heap.get?_push_of_some _ (Heap.get?_push_of_some _ e)
 have hC₁:=hk _ _ hC
 have hn₁:=hn.keeps hk
 have T₁:=T.keeps hk
 have hget:((h.push {cls:=Value.type "tuple",data:=Data.seq rest.toArray}).push {cls:=Value.ref C,data:=Data.fields #[Value.ref h.objs.size,Value.none,Value.none,Value.none,Value.bool false,Value.none]}).get? (h.objs.size + 1)=_:=Heap.get?_push_at (by rw [Heap.size_push]) rfl
 have hcC:(Value.ref C :: bm).contains (Value.ref C)=true:=by simp
 have hm:h.MadeExcOf ((h.push {cls:=Value.type "tuple",data:=Data.seq rest.toArray}).push {cls:=Value.ref C,data:=Data.fields #[Value.ref h.objs.size,Value.none,Value.none,Value.none,Value.bool false,Value.none]}) (h.objs.size + 1) (.ref C) rest:=by
  refine ⟨hk,?_,h.objs.size,hget,?_,?_⟩
  ·exact Heap.get?_none_of_le (Nat.le_succ _)
  ·exact Heap.get?_none_of_le (Nat.le_refl _)
  ·exact Heap.get?_push_of_some _ (Heap.get?_push_at rfl rfl)
 have z:=hq _ _ hm
 generalize hH:((h.push {cls:=Value.type "tuple",data:=Data.seq rest.toArray}).push {cls:=Value.ref C,data:=Data.fields #[Value.ref h.objs.size,Value.none,Value.none,Value.none,Value.bool false,Value.none]})=h2 at *
 show wpAny (model prog w) A _ Q E {heap:=h2,gens:=g,drawn:=d,toks:=t,os:=os}
 refine wpAny_bind (wpAny_bind (id (wpAny_bind (wpAny_loadPart_at hget (wpAny_pure (wpAny_isSubtype_exc hC₁ ?_))))))
 rw [hcC]
 refine wpAny_ite_false rfl (wpAny_bind (wpAny_holding (id (wpAny_bind (id (wpAny_bind (id (wpAny_bind (wpAny_loadPart_at hget (wpAny_pure (id (wpAny_typeLookup_tail hC₁ hn₁ T₁ F.mroIs F.init.lookup ?_))))))))))))
 rw [hi]
 refine wpAny_holding (wpAny_bind (id (wpAny_bind (wpAny_typeOf ⟨oI,hk _ _ hfI,hfc⟩ ?_))))
 refine wpAny_ite_true (by decide +kernel) (wpAny_pure (wpAny_bind (thn z fun r s' hz=>?_)))
 obtain ⟨rfl,zq⟩:=hz
 exact wpAny_pure (wpAny_ite_false rfl (wpAny_pure zq))
theorem call_initT (F:ExcBaseFacts B newId initId bmB) (T:OwnTail h bmB bm) {mN:Str→Option Value} {rest:List Value} {fI:Addr} {oI:Obj} {Q:Value→Shared→Prop}
  (hC:h.get? C=some (excClassObj nm q C N bs bm hdct sn sub ab col dd k0 k1 k2 k3 k5 newId)) (hn:h.Ns N mN) (hi:mN (Str.ofString "__init__")=some (.ref fI)) (hfI:h.get? fI=some oI) (hfc:oI.cls = .type "function")
  (hq:∀(h':Heap) (e:Addr),h.MadeExcOf h' e (.ref C) rest→wpAny (model prog w) (A.under (Code.builtin "type.__call__" {pos:=Value.ref C :: rest})) (call (.ref fI) (.ref e :: rest)) (fun r s'=>r = .none∧Q (.ref e) s') E {heap:=h',gens:=g,drawn:=d,toks:=t,os:=os})
  (hrest:rest.length≤sizeLine):wpAny (model prog w) A (call (.ref C) rest) Q E {heap:=h,gens:=g,drawn:=d,toks:=t,os:=os}:=by
 have f1:=tc_lookup
 have f2:=tc_bind (Value.ref C)
 have hT:({heap:=h,gens:=g,drawn:=d,toks:=t,os:=os}:Shared).TypeIs (.ref C) "type":=⟨_,hC,rfl⟩
 refine wpAny_call (codeAny_of_tree (id (id (wpAny_bind (wpAny_load' hC (id (id (wpAny_bind (wpAny_specialOf hT f1 (wpAny_bind (wpAny_of_eq f2 (wpAny_bind (id (wpAny_pure (wpAny_ite_true rfl (id (wpAny_pure ⟨rfl,?_⟩)))))))))))))))))
 exact codeAny_call_builtin_at (Code.quiet_builtin {pos:=[Value.ref C] ++ {pos:=rest:Args}.pos} (by decide +kernel)) entry_typeCall
  (wpAny_check_type_call_sub hC (type_call_initT F T hC hn hi hfI hfc (fun h' e hm=>hq h' e hm) hrest))
end
theorem own_init:builtinOwn "ValueError" "__init__" = some (.builtin "ValueError.__init__"):=by decide +kernel
theorem typ_init:typeOf (.builtin "ValueError.__init__")=pure (.type "wrapper_descriptor"):=by rfl
theorem slot_wdget:Slot "wrapper_descriptor" "__get__" "wrapper_descriptor.__get__":=
 Slot.of (owner:="wrapper_descriptor") (n:="__get__") (by rw [typeLookup_type,builtinLookup_eq_fast]; rfl) (by decide +kernel) (by decide +kernel) (by decide +kernel) (Or.inl (by decide +kernel)) (by rw [isSubtype_type]; rfl) (by decide +kernel)
theorem entry_wdget:entryFor table "wrapper_descriptor.__get__" = some Builtin.«wrapper_descriptor.__get__»:=entryFor_of_tree (by show _=_; rfl)
theorem args_wdget (a b c:Value):argsOk "wrapper_descriptor.__get__" {pos:=[a,b,c]}:=by show _=_; rfl
theorem classOwn_own {M:Model} {A:Around} {E:Value→Shared→Prop} {s:Shared} {a:Addr} {c0:Value} {dd:Option Addr} {cd:ClassData} {sl:Array (Option Value)} {mA:Str→Option Value} {name:Str} {Q:Option Value→Shared→Prop}
  (hA:s.heap.get? a=some {cls:=c0,dict:=dd,data:=.cls cd,slots:=sl}) (hN:s.heap.Ns cd.ns mA) (q:Q (mA name) s):wpAny M A (classOwn (.ref a) name) Q E s:=by
 unfold classOwn classData
 exact wpAny_bind (wpAny_bind (wpAny_load' hA (wpAny_pure (wpAny_nsGet hN q))))
section
variable {prog:Program} {w:World} {A:Around} {E:Value→Shared→Prop} {h:Heap} {g:Array GenState} {d:Drawn} {t:Nat} {os:OsState}
theorem super_ga {so D x C:Addr} {l₀ l:List Value} {tk:Tok} {Q:PySem.Fin→Shared→Prop} (hso:h.get? so=some {cls:=.type "super",data:=.fields #[.ref D,.ref x,.ref C]})
  (hno:PySem.W.Looks (model prog w) h (opaqueClassAbove (.ref C)) none) (hC:PySem.W.Looks (model prog w) h (mroOf (.ref C)) l₀) (hl:List.drop 1 (List.dropWhile (fun x=>x != Value.ref D) l₀)=l) (hxC:x≠C)
  (T:OwnTail h bmV l) {ox:Obj} (hx:h.get? x=some ox) (hxc:ox.cls = .ref C) (hsub:PySem.W.Looks (model prog w) h (isSubtype (.ref C) (.type "ValueError")) true)
  (hq:Q (.done (.ret (.ref h.objs.size))) {heap:=h.push {cls:=.type "method-wrapper",data:=.fields #[.builtin "ValueError.__init__",.ref x]},gens:=g,drawn:=d,toks:=t,os:=os}) :
  wpAny (model prog w) A (Builtin.«super.__getattribute__» {pos:=[.ref so,.str "__init__" tk]}) Q E {heap:=h,gens:=g,drawn:=d,toks:=t,os:=os}:=by
 unfold Builtin.«super.__getattribute__»
 refine wpAny_bind (id (wpAny_pure (wpAny_ite_false rfl (wpAny_bind (id (wpAny_pure ?_))))))
 refine wpAny_bind (wpAny_field (x:=Value.ref D) hso rfl rfl (wpAny_bind (wpAny_field (x:=Value.ref x) hso rfl rfl (wpAny_bind (wpAny_field (x:=Value.ref C) hso rfl rfl ?_)))))
 refine wpAny_ite_false rfl (wpAny_bind (ks_wpAny_notOpaque hno ?_))
 refine wpAny_ite_false rfl (wpAny_bind (hC.at ?_))
 dsimp only
 rw [hl]
 clear hC hl
 refine wpAny_bind ?_
 induction T with
 | own hA hN hi T ih=>
  rw [List.forIn_cons]
  refine wpAny_bind (wpAny_bind ?_)
  refine classOwn_own hA hN ?_
  rw [hi]
  exact wpAny_pure ih
 | base=>
  rw [List.forIn_cons]
  refine wpAny_bind (wpAny_bind ?_)
  refine wpAny_of_eq (show classOwn (.type "ValueError") (Str.ofString "__init__")=pure (some (.builtin "ValueError.__init__")) from congrArg pure own_init) ?_
  have hne:(Value.ref x == Value.ref C)=false:=by simp [hxC]
  rw [hne]
  refine wpAny_bind (wpAny_of_eq typ_init (wpAny_bind (wpAny_of_eq slot_wdget.lookup (wpAny_bind (wpAny_holding (wpAny_call_entry slot_wdget rfl entry_wdget ?_ (args_wdget _ _ _)))))))
  unfold Builtin.«wrapper_descriptor.__get__»
  refine wpAny_bind (wpAny_of_eq (a:=(Value.builtin "ValueError.__init__",some (Value.ref x),some (Value.ref C))) rfl ?_)
  refine wpAny_bind ?_
  refine wpAny_bind (wpAny_of_eq (a:=(Str.ofString "__init__",Value.type "ValueError")) ?_ ?_)
  ·rfl
  refine wpAny_bind ?_
  unfold isInstance
  refine wpAny_bind (wpAny_typeOf_ref hx ?_)
  rw [hxc]
  refine hsub.at ?_
  refine wpAny_ite_false rfl (wpAny_pure (wpAny_bind ?_))
  unfold newFields newObj
  exact wpAny_bind (wpAny_alloc' (wpAny_pure (wpAny_pure ⟨_,rfl,wpAny_bind (wpAny_pure (wpAny_pure (wpAny_pure (wpAny_pure hq))))⟩)))
end
section
variable {M:Model} {A:Around} {E:Value→Shared→Prop} {h:Heap} {g:Array GenState} {d:Drawn} {t:Nat} {os:OsState} {nm q:Str} {C N:Addr} {bs bm:List Value} {hdct:Bool} {sn:List Str} {sub:List Value} {ab:Bool} {col:Option Bool}
 {dd:Option Addr} {k0 k1 k2 k3 k5:Option Value} {newId:String}
theorem bound_init {x:Addr} {m:Value} {ox:Obj} {Q:Unit→Shared→Prop} (hC:h.get? C=some (excClassObj nm q C N bs bm hdct sn sub ab col dd k0 k1 k2 k3 k5 newId)) (hx:h.get? x=some ox) (hxc:ox.cls = .ref C) (hq:Q () {heap:=h,gens:=g,drawn:=d,toks:=t,os:=os}) :
  wpAny M A (checkBoundCall "ValueError.__init__" {pos:=[.ref x,m]}) Q E {heap:=h,gens:=g,drawn:=d,toks:=t,os:=os}:=by
 have e1:(Manifest.Receiver.self == Manifest.Receiver.none)=false:=by decide
 unfold checkBoundCall
 rw [F.excBase_ValueError.initRow,F.excBase_ValueError.initKind]
 dsimp only
 rw [if_pos (by decide)]
 unfold Bind.checkArgs Bind.printed Bind.receiverType typeNameWhole
 simp only [e1]
 refine wpAny_bind (wpAny_ite_false (by decide) (wpAny_bind ?_))
 refine wpAny_typeOf_ref hx ?_
 rw [hxc]
 unfold classData
 refine wpAny_bind (wpAny_bind (wpAny_bind (wpAny_load' hC (wpAny_pure (wpAny_pure (wpAny_pure ?_))))))
 refine wpAny_bind (wpAny_ite_true (by decide) (wpAny_pure ?_))
 exact wpAny_onRaise (wpAny_of_eq (a:=()) rfl hq)
end
section
variable {prog:Program} {w:World} {A:Around} {E:Value→Shared→Prop} {h:Heap} {g:Array GenState} {d:Drawn} {t:Nat} {os:OsState}
theorem super_init {so D x C:Addr} {l₀ l:List Value} {pl:Sem Bool} {Q:Value × List Value→Shared→Prop} (hso:h.get? so=some {cls:=.type "super",data:=.fields #[.ref D,.ref x,.ref C]})
  (hno:PySem.W.Looks (model prog w) h (opaqueClassAbove (.ref C)) none) (hC:PySem.W.Looks (model prog w) h (mroOf (.ref C)) l₀) (hl:List.drop 1 (List.dropWhile (fun x=>x != Value.ref D) l₀)=l) (hxC:x≠C)
  (T:OwnTail h bmV l) {ox:Obj} (hx:h.get? x=some ox) (hxc:ox.cls = .ref C) (hsub:PySem.W.Looks (model prog w) h (isSubtype (.ref C) (.type "ValueError")) true)
  (hq:Q (.ref h.objs.size,[]) {heap:=h.push {cls:=.type "method-wrapper",data:=.fields #[.builtin "ValueError.__init__",.ref x]},gens:=g,drawn:=d,toks:=t + 1,os:=os}) :
  wpAny (model prog w) A (getMethod (.ref so) "__init__" pl) Q E {heap:=h,gens:=g,drawn:=d,toks:=t,os:=os}:=by
 have hT:∀tk,({heap:=h,gens:=g,drawn:=d,toks:=tk,os:=os}:Shared).TypeIs (.ref so) "super":=fun tk=>⟨_,hso,rfl⟩
 unfold getMethod
 refine wpAny_bind (wpAny_specialOf (hT _) F.ks_slot_super_ga.lookup (wpAny_ite_true F.ks_canon_super_ga (wpAny_bind ?_)))
 unfold getAttr getAttrBy
 refine wpAny_bind (wpAny_mkText (wpAny_holding (wpAny_bind (wpAny_typeOf (hT _) (wpAny_bind (wpAny_of_eq F.ks_slot_super_ga.lookup ?_))))))
 refine wpAny_ite_false (by decide +kernel) ?_
 unfold getAttrByItsOwn hookBefore
 have f3:=F.ks_slot_super_ga.bind (.ref so)
 repeat (first | assumption | wp_step)
 refine codeAny_call_builtin F.ks_slot_super_ga.plain F.ks_entry_super_ga (F.ks_slot_super_ga.check _ _ _ _ _ _ _ _ (hT _) (F.ks_gaArgs_super _ _) (super_ga hso hno hC hl hxC T hx hxc hsub ?_))
 show wpAny (model prog w) A (handedOut (.ref h.objs.size)) _ _ _
 exact PySem.W.handed_on rfl (wpAny_pure hq)
theorem call_wrapper {nm q:Str} {C N:Addr} {bs bm:List Value} {hdct:Bool} {sn:List Str} {sub:List Value} {ab:Bool} {col:Option Bool} {dd:Option Addr} {k0 k1 k2 k3 k5:Option Value} {newId:String} {m x:Addr} {msg:Value} {ox:Obj} {vs:Array Value} {Q:Value→Shared→Prop} (hm:h.get? m=some {cls:=.type "method-wrapper",data:=.fields #[.builtin "ValueError.__init__",.ref x]})
  (hC:h.get? C=some (excClassObj nm q C N bs bm hdct sn sub ab col dd k0 k1 k2 k3 k5 newId)) (hx:h.get? x=some ox) (hxc:ox.cls = .ref C) (hxd:ox.data = .fields vs) {v0:Value} (hv0:vs[0]? = some v0)
  (hq:Q .none {heap:=(h.push {cls:=.type "tuple",data:=.seq #[msg]}).update x (Obj.mapFields fun y=>y.setIfInBounds 0 (.ref h.objs.size)),gens:=g,drawn:=d,toks:=t,os:=os}) :
  wpAny (model prog w) A (call (.ref m) [msg]) Q E {heap:=h,gens:=g,drawn:=d,toks:=t,os:=os}:=by
 have hT:({heap:=h,gens:=g,drawn:=d,toks:=t,os:=os}:Shared).TypeIs (.ref m) "method-wrapper":=⟨_,hm,rfl⟩
 refine wpAny_call (codeAny_of_tree (id (id (wpAny_bind (wpAny_load' hm (id (id (wpAny_bind (bound_init hC hx hxc ?_)))))))))
 refine wpAny_pure ⟨Code.quiet_builtin _ (by decide +kernel),codeAny_builtin F.excBase_ValueError.initEntry ?_⟩
 unfold Builtin.«BaseException.__init__»
 refine wpAny_ite_false rfl (wpAny_bind (wpAny_newTuple ?_ (by show 1≤sizeLine; decide)))
 unfold Builtin.BaseException.bexcPut
 have hx1:(h.push {cls:=.type "tuple",data:=.seq #[msg]}).get? x=some ox:=Heap.get?_push_of_some _ hx
 refine wpAny_bind (wpAny_bind (wpAny_field hx1 hxd hv0 (wpAny_bind (wpAny_setField hx1 hxd (Array.getElem?_eq_some_iff.mp hv0).1 ?_))))
 have fin:wpAny (model prog w) (A.under (Code.builtin "ValueError.__init__" {pos:=[.ref x,msg]})) (ret .none) (fun fin s'=>
     match fin with
     | Fin.done f=>match (Except.ok f:Except Value Flow) with
      | Except.ok (Flow.ret v)=>Q v s'
      | Except.ok a=>False
      | Except.error e=>E e s'
     | Fin.again c'=>c'.quiet=true∧codeAny (model prog w) A c' (fun r s'=>match r with
       | Except.ok (Flow.ret v)=>Q v s'
       | Except.ok a=>False
       | Except.error e=>E e s') s') (fun e s'=>E e s') {heap:=(h.push {cls:=.type "tuple",data:=.seq #[msg]}).update x (Obj.mapFields fun y=>y.setIfInBounds 0 (.ref h.objs.size)),gens:=g,drawn:=d,toks:=t,os:=os}:=wpAny_pure hq
 cases v0 with
 | ref a=>exact wpAny_letGo fin
 | _=>exact wpAny_pure fin
end
def ownV:Value→Bool
 | .ref _=>true
 | _=>false
def onlyV (l:List Value):Bool:=l.dropWhile ownV == bmV
def overV (K:PySem.W.Frag) (C:Addr):Bool:=(PySem.W.clsIn K C).any fun cd=>onlyV cd.mro
theorem refuse_drop (self:Value) (what:Str):∀l:List Value,refuseLoop self what l=refuseLoop self what (l.dropWhile ownV)
 | []=>rfl
 | .ref c :: r=>by rw [refuseLoop_ref,refuse_drop self what r]; rfl
 | .type _ :: _=>rfl
 | .none :: _=>rfl
 | .ellipsis :: _=>rfl
 | .notImplemented :: _=>rfl
 | .bool _ :: _=>rfl
 | .int _ _ :: _=>rfl
 | .float _ _ :: _=>rfl
 | .str _ _ :: _=>rfl
 | .bytes _ _ :: _=>rfl
 | .builtin _ :: _=>rfl
theorem refuse_onlyV (self:Value) {l:List Value} (e:onlyV l=true):refuseLoop self "__setattr__" l=pure ():=by
 rw [refuse_drop,beq_iff_eq.mp e]
 exact PySem.F.store_ValueError.passes self
theorem onlyV_has {l:List Value} (e:onlyV l=true):(.type "object")∈l:=by
 have z:(.type "object" : Value)∈l.dropWhile ownV:=by rw [beq_iff_eq.mp e]; simp
 exact List.dropWhile_subset _ z
open Builtin.ObjectAttr in
theorem osa_openV {prog:Program} {w:World} {A:Around} {R:Result→Shared→Prop} {s:Shared} {K:PySem.W.Frag} {x C:Addr} {ox:Obj} {od:Option Obj} {name:Str} {tk:Tok} {v:Value} (X:K.In s.heap) (J:PySem.W.InstAt s.heap x ox C od) (hp:overV K C=true) (ht:PySem.W.takerIn K C name=some none)
  (h:∀b,wpAny (model prog w) A.in1 (Builtin.ObjectAttr.storeInOwnDict (.ref x) (.ref C) (.str name tk) name v b)
   (fun fin s'=>match fin with | .done f=>R (.ok f) s' | .again c'=>c'.quiet=true∧codeAny (model prog w) A c' R s') (fun e s'=>R (.error e) s') s) :
  codeAny (model prog w) A (.call (.builtin "object.__setattr__") ⟨[.ref x,.str name tk,v],[]⟩) R s:=by
 obtain ⟨cd,hc,ho⟩:=PySem.W.any_some hp
 have mem:=onlyV_has ho
 have ne:cd.mro.isEmpty=false:=by
  cases q:cd.mro with
  | nil=>rw [q] at mem; cases mem
  | cons _ _=>rfl
 have mo:PySem.W.mroIn K C (.type "object")=some true:=by
  unfold PySem.W.mroIn
  rw [hc,Option.bind_some,ne,List.contains_iff_mem.mpr mem]
  rfl
 have sub:PySem.W.Looks (model prog w) s.heap (isInstance (.ref x) (.type "object")) true:=J.type.andThen (PySem.W.looks_mroIn X mo)
 obtain ⟨attr,ha,hr⟩:=Option.bind_eq_some_iff.mp ht
 have LM:PySem.W.Looks (model prog w) s.heap (mroOf (.ref C)) cd.mro:=(PySem.W.looks_clsIn X hc).andThen .now
 have LT:PySem.W.Looks (model prog w) s.heap (storeTaker? attr) none:=by
  cases attr with
  | none=>exact .now
  | some a=>
   obtain ⟨b,hb,e⟩:=Option.map_eq_some_iff.mp hr
   cases b with
   | true=>cases e
   | false=>exact (PySem.W.looks_takesIn X hb).andThen .now
 have SO:=PySem.F.store_object
 refine codeAny_call_builtin SO.slot.plain SO.entry ?ck
 have go:=@PySem.W.check_slot (model prog w) A.in1 (fun e s'=>R (.error e) s') s "object.__setattr__" "object" "__setattr__" (.ref x) [.str name tk,v] []
 refine go SO.kind SO.split sub (SO.args _ _ _) ?_
 rw [PySem.W.osa_eq,PySem.refuse_eq]
 refine wpAny_bind (wpAny_bind (J.type.here (wpAny_bind (LM.here ?_))))
 rw [refuse_onlyV _ ho]
 exact wpAny_pure (wpAny_bind (J.type.here (wpAny_bind ((PySem.W.looks_findIn X ha).here (wpAny_bind (LT.here (h _)))))))
section
variable {prog:Program} {w:World} {A:Around} {E:Value→Shared→Prop} {s:Shared} {K:PySem.W.Frag} {x C:Addr} {ox:Obj} {name:Str} {v:Value}
theorem set_exc {Q:Unit→Shared→Prop} (X:K.In s.heap) (J:PySem.W.InstAt s.heap x ox C none) (hx:s.heap.get? x=some ox)
  (hs:PySem.W.findIn K (.ref C) "__setattr__" = some (some (.builtin "object.__setattr__"))) (hp:overV K C=true) (ht:PySem.W.takerIn K C name=some none) (hh:PySem.W.hasDictIn K C=true) {vs:Array Value} {sl:Array (Option Value)} (hox:ox = {cls:=.ref C,dict:=none,data:=.fields vs,slots:=sl})
  (h:∀h',h'.get? x=some {cls:=.ref C,dict:=some s.heap.objs.size,data:=.fields vs,slots:=sl}→h'.Ns1 s.heap.objs.size (fun y=>if y=name then some v else none)→(∀b o,b≠x→b≠s.heap.objs.size→s.heap.get? b=some o→h'.get? b=some o)→Q () {s with heap:=h',toks:=s.toks + 2}):wpAny (model prog w) A (setAttr (.ref x) name v) Q E s:=by
 refine PySem.W.set_plain X J hs (osa_openV (s:={s with toks:=s.toks + 1}) X J hp ht fun b=>?_)
 obtain ⟨cd,hcd,hd'⟩:=PySem.W.any_some hh
 dsimp only
 unfold Builtin.ObjectAttr.storeInOwnDict
 refine wpAny_bind (wpAny_pure (wpAny_bind ?_))
 unfold Builtin.ObjectAttr.ownDictForStores instanceDict
 subst hox
 refine wpAny_bind (wpAny_loadPart hx (wpAny_bind (PySem.W.Looks.here (s:={s with toks:=s.toks + 1}) (PySem.W.looks_clsIn X hcd) ?_)))
 rw [hd']
 refine wpAny_ite_false rfl (wpAny_ite_false ?_ (wpAny_bind (wpAny_alloc' ?_)))
 ·rfl
 have hx1:(s.heap.push {cls:=.type "dict",data:=.dict #[]}).get? x=some {cls:=.ref C,dict:=none,data:=.fields vs,slots:=sl}:=Heap.get?_push_of_some _ hx
 refine wpAny_bind (wpAny_update' hx1 ?_)
 unfold dictMade
 refine wpAny_pure ?_
 have xl:=Heap.lt_size hx
 have xn:s.heap.objs.size≠x:=(Nat.ne_of_lt xl).symm
 generalize hh1:((s.heap.push {cls:=.type "dict",data:=.dict #[]}).update x fun o=>{cls:=o.cls,dict:=some s.heap.objs.size,data:=o.data,slots:=o.slots})=h1
 have e1:h1.get? s.heap.objs.size=some PySem.W.emptyDict:=by
  rw [← hh1,Heap.get?_update_ne _ _ _ _ xn]
  exact Heap.get?_push_size _ rfl
 have e2:h1.get? x=some {cls:=.ref C,dict:=some s.heap.objs.size,data:=.fields vs,slots:=sl}:=by
  rw [← hh1]
  exact Heap.get?_update_self _ hx1 rfl
 have e3:h1.Ns s.heap.objs.size (fun _=>none):=⟨PySem.W.emptyDict,#[],_,e1,rfl,(fun e he=>absurd he (by simp)),fun _=>rfl⟩
 have e4:∀b o,b≠x→s.heap.get? b=some o→h1.get? b=some o:=fun b o n q=>by
  rw [← hh1,Heap.get?_update_ne _ _ _ _ n]
  exact Heap.get?_push_of_some _ q
 unfold Builtin.ObjectAttr.storeInDict
 refine wpAny_bind (wpAny_pure (wpAny_bind ?_))
 refine wpAny_nsSet1 (s:={s with heap:=h1,toks:=s.toks + 1}) (Heap.Ns1.of_empty e3) fun h' hn2 hs2=>?_
 have hw:PySem.Within (fun _:Str=>(none:Option Value)) []:=fun y hy=>absurd rfl hy
 obtain ⟨oD,esD,epD,hoD,hdD,hcD⟩:=hn2.count (PySem.Within.cons name v hw)
 refine wpAny_bind (wpAny_lookBehind hoD (by rw [hdD]; exact pastItsLine_dict (Nat.le_trans hcD (by rw [sizeLine_eq]; show 1≤_; omega))) ?_)
 exact wpAny_pure (h _ ((hs2.2 _ xn.symm).trans e2) hn2 fun b o n1 n2 q=>(hs2.2 b n2).trans (e4 b o n1 q))
end
section
variable {prog:Program} {w:World} {A:Around} {E:Value→Shared→Prop} {s:Shared} {K:PySem.W.Frag}
theorem super_at {Q:Value→Shared→Prop} {body:List Stmt} {whole:Sem Value} {fI e C cc c2 L:Addr} {oI oe oC o2:Obj} {fd:FuncData} {cd:ClassData} {p0 p1:Pos} {ar:Arg} {cs:Array Value} {file:Str} {tf:Tok} {mg mb m:Str→Option Value}
  (X:K.In s.heap) (hfI:s.heap.get? fI=some oI) (hfd:oI.data = .func fd)
  (h1:fd.scope.names.lookup ("self" : Str)=some NameKind.local) (h3:fd.scope.names.lookup ("super" : Str)=some NameKind.globalImplicit) (h4:fd.scope.names.lookup ("__class__" : Str)=some NameKind.free) (g3:fd.scope.kind = .function) (hcl:fd.closure=[(("__class__" : Str),cc)])
  (hpa:(fd.params.posonlyargs ++ fd.params.args).head? = some ar) (har:ar.arg = "self") (hcd:fd.code = .ref c2) (hc2:s.heap.get? c2=some o2) (hc3:o2.data = .fields cs) (hc4:cs[2]? = some (.str file tf)) (hfi:(prog.main.file == file)=true)
  (hns:(prog.main.scope.names.lookup ("super" : Str)).isSome=false) (gN:s.heap.Ns fd.globals mg) (gs:mg "super" = none) (bN:s.heap.Ns fd.builtins mb) (bs:mb "super" = some (.type "super")) (hcc:s.heap.IsCell cc (some (.ref C)))
  (hL:s.heap.Ns L m) (hm:m "self" = some (.ref e)) (hC:s.heap.get? C=some oC) (hCd:oC.data = .cls cd) (he:s.heap.get? e=some oe) (hec:oe.cls = .ref C) (hen:∀c,oe.data≠.cls c)
  (hty:PySem.W.Looks (model prog w) s.heap (isType (.ref C)) true) (hself:PySem.W.Looks (model prog w) s.heap (isSubtype (.ref C) (.ref C)) true)
  (hq:∀(h':Heap),h'.get? s.heap.objs.size=some {cls:=.type "super",data:=.fields #[.ref C,.ref e,.ref C]}→(∀b o,s.heap.get? b=some o→h'.get? b=some o)→Q (.ref s.heap.objs.size) {s with heap:=h'}) :
  PySem.wpAt (model prog w) A (Code.func body (callEnv fd L fI)) (attributeBase (.Call (.Name "super" p0) [] [] p1) "__init__" (callEnv fd L fI) whole) Q E s:=by
 refine ks_wpAt_super_base (f:=fI) (cc:=c2) h3 h4 rfl rfl hfI hfd hpa hcd hc2 hc3 hc4 hfi hns ?_
 refine PySem.W.ks_loadName_global g3 h3 ?_
 unfold loadGlobal
 refine wpAny_bind (wpAny_nsGet gN ?_)
 rw [gs]
 refine wpAny_bind (wpAny_nsGet bN ?_)
 rw [bs]
 refine wpAny_pure ⟨rfl,wpAny_loadName_free (c:=cc) g3 h4 (by show List.lookup _ fd.closure=_; rw [hcl]; rfl) hcc ?_⟩
 rw [har]
 refine wpAny_loadName_local g3 h1 hL hm (hty.at ⟨rfl,?_⟩)
 obtain ⟨h,g,d,t,os⟩:=s
 exact ks_wpAny_call_super hC hCd he hec hen hself fun h' a b=>hq h' a b
end
section
variable {prog:Program} {w:World} {A:Around} {E:Value→Shared→Prop} {s:Shared}
theorem with_wrapper {Q:Value→Shared→Prop} {x:Sem Value} {fs:Expr} {env:Env} {pos:Pos} {mw:Addr} {vs:Array Value} (hst:starEach [fs] env=[(false,x)])
  (h:wpAny (model prog w) A x (fun u s1=>s1.heap.get? mw=some {cls:=.type "method-wrapper",data:=.fields vs}∧wpAny (model prog w) A (call (.ref mw) [u]) Q E s1) E s) :
  wpAny (model prog w) A (callWith pos (.ref mw) [] (backTo pos (starEach [fs] env)) []) Q E s:=by
 rw [hst]
 unfold callWith
 refine wpAny_bind (wpAny_holding (Calls.evalArgs_plain ?_))
 unfold spliced
 refine wpAny_bind (wpAny_ite_false rfl (thn h fun u s1 hz=>?_))
 obtain ⟨hm,hc⟩:=hz
 refine wpAny_ite_false rfl (wpAny_bind (wpAny_pure (wpAny_bind (wpAny_holding ?_))))
 unfold spliced
 refine wpAny_pure (wpAny_pure ?_)
 refine wpAny_bind (wpAny_standAt ?_)
 unfold keeperOf
 refine wpAny_bind (wpAny_bind (wpAny_load' hm (wpAny_ite_true (show decide ((Value.type "method-wrapper" != Value.type "method")=true)=true by decide +kernel) (wpAny_pure ?_))))
 have k:(if ((Value.type "method-wrapper" == Value.type "builtin_function_or_method") || (Value.type "method-wrapper" == Value.type "method-wrapper"))=true then Keeper.machine else Keeper.caller)=Keeper.machine:=by decide +kernel
 dsimp only
 rw [k]
 show wpAny (model prog w) A (do let r ← call (Value.ref mw) [u]; holding [r] point; pure r) Q E s1
 exact wpAny_bind (thn hc fun r s2 hr=>wpAny_bind (wpAny_holding (wpAny_point (wpAny_pure hr))))
end
section
variable {prog:Program} {w:World} {A:Around} {s:Shared} {K:PySem.W.Frag}
theorem lookS {Xn:Str} {u v:Value} (h:Xn≠"self"):List.lookup ("self" : Str) [(("self" : Str),v),(Xn,u)].reverse=some v:=by
 show List.lookup ("self" : Str) [(Xn,u),(("self" : Str),v)]=_
 have:(("self" : Str) == Xn)=false:=by simp [Ne.symm h]
 simp [List.lookup,this]
theorem init_run {R:Result→Shared→Prop} {fI e C cc c2:Addr} {oI oC o2:Obj} {fd:FuncData} {cd:ClassData} {Xn:Str} {u:Value} {p0 p1 p2 p3 p4 p5 p6 p7 p8:Pos} {fs:Expr} {ar:Arg} {cs:Array Value} {file:Str} {tf:Tok} {mg mb:Str→Option Value}
  {nm q:Str} {N:Addr} {bs bm:List Value} {hdct:Bool} {sn:List Str} {sub:List Value} {ab:Bool} {col:Option Bool} {dd:Option Addr} {k0 k1 k2 k3 k5:Option Value} {newId:String} {vs:Array Value} {sl:Array (Option Value)} {v0:Value}
  (X:K.In s.heap) (hd:A.depth < recursionLimit) (hfI:s.heap.get? fI=some oI) (hfd:oI.data = .func fd) (lim:s.heap.NoLimit) (hcr:s.heap.CodeRec fd.code fd.qualname)
  (hb:fd.body = .stmts [.Expr (.Call (.Attribute (.Call (.Name "super" p0) [] [] p1) "__init__" p2) [fs] [] p3) p4,.Assign [.Attribute (.Name "self" p5) Xn p6] (.Name Xn p7) p8])
  (hbi:BindsTo s fd ⟨[.ref e,u],[]⟩ [(("self" : Str),.ref e),(Xn,u)]) (hXs:Xn≠"self") (hce:∀x∈fd.scope.names,x.2≠NameKind.cell) (h1:fd.scope.names.lookup ("self" : Str)=some NameKind.local) (hX2:fd.scope.names.lookup Xn=some NameKind.local)
  (h3:fd.scope.names.lookup ("super" : Str)=some NameKind.globalImplicit) (h4:fd.scope.names.lookup ("__class__" : Str)=some NameKind.free) (g1:fd.scope.isCoroutine=false) (g2:fd.scope.isGenerator=false) (g3:fd.scope.kind = .function) (hcl:fd.closure=[(("__class__" : Str),cc)])
  (hpa:(fd.params.posonlyargs ++ fd.params.args).head? = some ar) (har:ar.arg = "self") (hcd:fd.code = .ref c2) (hc2:s.heap.get? c2=some o2) (hc3:o2.data = .fields cs) (hc4:cs[2]? = some (.str file tf)) (hfi:(prog.main.file == file)=true)
  (hns:(prog.main.scope.names.lookup ("super" : Str)).isSome=false) (gN:s.heap.Ns fd.globals mg) (gs:mg "super" = none) (bN:s.heap.Ns fd.builtins mb) (bs':mb "super" = some (.type "super")) (hcc:∀h':Heap,(∀b o,s.heap.get? b=some o→h'.get? b=some o)→h'.IsCell cc (some (.ref C)))
  (hC:s.heap.get? C=some (excClassObj nm q C N bs bm hdct sn sub ab col dd k0 k1 k2 k3 k5 newId)) (T:OwnTail s.heap bmV bm) (he:s.heap.get? e=some {cls:=.ref C,dict:=none,data:=.fields vs,slots:=sl}) (hv0:vs[0]? = some v0) (heC:e≠C)
  (hty:∀h:Heap,K.In h→PySem.W.Looks (model prog w) h (isType (.ref C)) true) (hself:∀h:Heap,K.In h→PySem.W.Looks (model prog w) h (isSubtype (.ref C) (.ref C)) true) (hval:∀h:Heap,K.In h→PySem.W.Looks (model prog w) h (isSubtype (.ref C) (.type "ValueError")) true)
  (hno:∀h:Heap,K.In h→PySem.W.Looks (model prog w) h (opaqueClassAbove (.ref C)) none) (hmr:∀h:Heap,K.In h→PySem.W.Looks (model prog w) h (mroOf (.ref C)) (.ref C :: bm))
  (hst:∀L,starEach [fs] (callEnv fd L fI)=[(false,eval fs (callEnv fd L fI))])
  (pl:Addr→Sem Bool) (heq:∀L,eval (.Call (.Attribute (.Call (.Name "super" p0) [] [] p1) "__init__" p2) [fs] [] p3) (callEnv fd L fI)=do
   let ov ← attributeBase (.Call (.Name "super" p0) [] [] p1) "__init__" (callEnv fd L fI) (eval (.Call (.Name "super" p0) [] [] p1) (callEnv fd L fI))
   standAt p2.atName
   let x ← holding [ov] (getMethod ov "__init__" (pl L))
   match x with
   | (f,first)=>callWith p3 f first (backTo p3 (starEach [fs] (callEnv fd L fI))) []) (hin:∀L,interactive (callEnv fd L fI)=false) (hsw:∀L,swapsWith (.Name Xn p7) (some (.Attribute (.Name "self" p5) Xn p6)) p8.line (callEnv fd L fI)=pure false)
  (hs:PySem.W.findIn K (.ref C) "__setattr__" = some (some (.builtin "object.__setattr__"))) (hp:overV K C=true) (ht:PySem.W.takerIn K C Xn=some none) (hh:PySem.W.hasDictIn K C=true)
  (hdb:(Xn == ("__debug__" : Str))=false) (hKe:∀o,K.lookup e≠some o) (hJ:∀(h:Heap) (vs':Array Value),h.get? e=some {cls:=.ref C,dict:=none,data:=.fields vs',slots:=sl}→PySem.W.InstAt h e {cls:=.ref C,dict:=none,data:=.fields vs',slots:=sl} C none)
  (hq:∀(h':Heap) (dx t:Addr) (tk:Nat),s.heap.get? dx=none→h'.get? e=some {cls:=.ref C,dict:=some dx,data:=.fields (vs.setIfInBounds 0 (.ref t)),slots:=sl}→h'.Ns1 dx (fun y=>if y=Xn then some u else none)→(∀b o,b≠e→s.heap.get? b=some o→h'.get? b=some o)→R (.ok (.ret .none)) {s with heap:=h',toks:=tk})
  (hf:∀(L:Addr) (A1:Around) (s1:Shared) (E1:Value→Shared→Prop) (Q1:Value→Shared→Prop),(s1.heap.Ns L fun x=>List.lookup x [(("self" : Str),Value.ref e),(Xn,u)].reverse)→(∀msg tk,Q1 msg {s1 with toks:=tk})→wpAny (model prog w) A1 (eval fs (callEnv fd L fI)) Q1 E1 s1) :
  codeAny (model prog w) A (.call (.ref fI) ⟨[.ref e,u],[]⟩) R s:=by
 refine ks_codeAny_call_defAt hd hfI hfd lim hcr hb hbi hce ?_ (fun h0 hn hk=>?_) g1 g2 g3
 ·intro x hx
  rcases List.mem_cons.mp hx with z | z
  ·rw [z]; exact h1
  ·rw [List.mem_singleton.mp z]; exact hX2
 have X0:=X.keeps hk
 refine ks_wpAt_execs_cons (ks_wpAt_Expr_any (ks_wpAt_MethodCall (pl:=pl s.heap.objs.size) (super_at (K:=K) (oC:=excClassObj nm q C N bs bm hdct sn sub ab col dd k0 k1 k2 k3 k5 newId) (e:=e) X0 (hk _ _ hfI) hfd h1 h3 h4 g3 hcl hpa har hcd (hk _ _ hc2) hc3 hc4 hfi hns (gN.keeps hk) gs (bN.keeps hk) bs' (hcc _ hk) hn ?self (hk _ _ hC) rfl (hk _ _ he) rfl (by intro c z; cases z) (hty _ X0) (hself _ X0) (fun h1' so1 k1'=>?go)) ?eq) ?i1 ?i2)
 case eq=>exact heq _
 case i1=>exact hin _
 case i2=>rfl
 case self=>exact lookS hXs
 case go=>
  have hk1:∀b o,s.heap.get? b=some o→h1'.get? b=some o:=fun b o z=>k1' _ _ (hk _ _ z)
  have X1:=X.keeps hk1
  have T1:=T.keeps hk1
  refine super_init (l₀:=.ref C :: bm) (l:=bm) so1 (hno _ X1) (hmr _ X1) (by simp) heC T1 (hk1 _ _ he) rfl (hval _ X1) ?_
  refine with_wrapper (hst _) (hf _ _ _ _ _ ?_ fun msg tk=>⟨Heap.get?_push_size _ rfl,?_⟩)
  ·exact (hn.keeps k1').keeps fun b o z=>Heap.get?_push_of_some _ z
  refine call_wrapper (Heap.get?_push_size _ rfl) (Heap.get?_push_of_some _ (hk1 _ _ hC)) (Heap.get?_push_of_some _ (hk1 _ _ he)) rfl rfl hv0 ?_
  dsimp only
  generalize hh1:((h1'.push {cls:=.type "method-wrapper",data:=.fields #[.builtin "ValueError.__init__",.ref e]}).push {cls:=.type "tuple",data:=.seq #[msg]}).update e (Obj.mapFields fun y=>y.setIfInBounds 0 (.ref (h1'.push {cls:=.type "method-wrapper",data:=.fields #[.builtin "ValueError.__init__",.ref e]}).objs.size))=h2
  have e0:((h1'.push {cls:=.type "method-wrapper",data:=.fields #[.builtin "ValueError.__init__",.ref e]}).push {cls:=.type "tuple",data:=.seq #[msg]}).get? e=some {cls:=.ref C,dict:=none,data:=.fields vs,slots:=sl}:=Heap.get?_push_of_some _ (Heap.get?_push_of_some _ (hk1 _ _ he))
  have e2:h2.get? e=some {cls:=.ref C,dict:=none,data:=.fields (vs.setIfInBounds 0 (.ref (h1'.push {cls:=.type "method-wrapper",data:=.fields #[.builtin "ValueError.__init__",.ref e]}).objs.size)),slots:=sl}:=by
   rw [← hh1]
   exact Heap.get?_update_self _ e0 rfl
  have k2:∀b o,b≠e→h1'.get? b=some o→h2.get? b=some o:=fun b o n z=>by
   rw [← hh1,Heap.get?_update_ne _ _ _ _ n]
   exact Heap.get?_push_of_some _ (Heap.get?_push_of_some _ z)
  have k3:∀b o,b≠e→s.heap.get? b=some o→h2.get? b=some o:=fun b o n z=>k2 b o n (hk1 b o z)
  refine ks_wpAt_execs_cons (ks_wpAt_Assign_Attr (PySem.wpAt_of_wpAny ?_) (hsw _))
  have L0:s.heap.objs.size≠e:=(Nat.ne_of_lt (Heap.lt_size he)).symm
  have no2:h2.get? h2.objs.size=none:=Heap.get?_none_of_le (Nat.le_refl _)
  have hn2:h2.Ns s.heap.objs.size fun x=>List.lookup x [(("self" : Str),Value.ref e),(Xn,u)].reverse:=by
   obtain ⟨o,es,ep,z1,z2⟩:=hn.keeps k1'
   exact ⟨o,es,ep,k2 _ _ L0 z1,z2⟩
  have hmX:List.lookup Xn [(("self" : Str),Value.ref e),(Xn,u)].reverse=some u:=by simp [List.lookup]
  have hmS:List.lookup ("self" : Str) [(("self" : Str),Value.ref e),(Xn,u)].reverse=some (Value.ref e):=lookS hXs
  refine wpAny_Name (wpAny_loadName_local g3 hX2 hn2 hmX (wpAny_Name (wpAny_loadName_local g3 h1 hn2 hmS ?_) (by decide))) hdb
  have X2:K.In h2:=fun a o z=>k3 a o (fun y=>hKe o (y ▸ z)) (X a o z)
  refine set_exc X2 (hJ _ _ e2) e2 hs hp ht hh rfl fun h3' y1 y2 y3=>?_
  refine PySem.wpAt_of_wpAny (wpAny_execs_nil ?_)
  refine hq h3' _ _ _ ?_ y1 y2 fun b o n z=>y3 b o n (fun y=>?_) (k3 b o n z)
  ·cases z:s.heap.get? h2.objs.size with
   | none=>rfl
   | some o=>
    by_cases ne:h2.objs.size=e
    ·rw [ne,e2] at no2; cases no2
    ·have:=k3 _ _ ne z
     rw [no2] at this; cases this
  ·have:=k3 _ _ n z
   rw [y,no2] at this; cases this
end
section
variable {prog:Program} {w:World} {A:Around} {E:Value→Shared→Prop} {s:Shared}
theorem fstr_eval {Q:Value→Shared→Prop} {env:Env} {x Xn y:Str} {k:Nat} {pa pb pc pd:Pos} {m:Str→Option Value} {v:V} {u:Value} (g3:env.scope.kind = .function) (hX:env.kindOf Xn=some NameKind.local) (hdb:(Xn == ("__debug__" : Str))=false)
  (hn:s.heap.Ns env.locals m) (hm:m Xn=some u) (r:RelV v u) (sh:Shown v y) (hx:(Str.empty ++ x).length≤sizeLine) (hl:(Str.empty ++ x ++ y).length≤sizeLine) (hq:∀msg tk,Q msg {s with toks:=tk}) :
  wpAny (model prog w) A (eval (.JoinedStr [.Constant (.str x) k pa,.FormattedValue (.Name Xn pb) (-1) none pc] pd) env) Q E s:=by
 refine wpAny_JoinedStr (Joins_cons (Calls.Constant_str ⟨x,_,rfl,hx,Joins_cons (wpAny_FormattedValue_plain (wpAny_Name (wpAny_loadName_local g3 hX hn hm ?_) hdb))⟩))
 cases sh with
 | int hz=>
  obtain ⟨t1,rfl⟩:=r
  exact wpAny_formatField_int hz ⟨_,_,rfl,hl,⟨hl,hq _ _⟩⟩
 | str hz=>
  obtain ⟨t1,rfl⟩:=r
  exact wpAny_formatField_str ⟨_,_,rfl,hl,⟨hl,hq _ _⟩⟩ ⟨_,_,rfl,hl,⟨hl,hq _ _⟩⟩ hz
 | non=>
  cases r
  exact wpAny_formatField_none ⟨_,_,rfl,hl,⟨hl,hq _ _⟩⟩
end
section
variable {nm q:Str} {C N:Addr} {bs bm:List Value} {hdct:Bool} {sn:List Str} {sub:List Value} {ab:Bool} {col:Option Bool} {dd:Option Addr} {k0 k1 k2 k3 k5:Option Value} {newId:String}
theorem raise_madeD {M:Model} {A:Around} {E:Value→Shared→Prop} {env:Env} {s:Shared} {x:Sem Value} {Q:Flow→Shared→Prop} (hbase:bm.contains (.type "BaseException")=true) (hh:A.handled=none)
  (h:wpAny M A x (fun v s1=>∃e dx vs sl,v = .ref e∧s1.heap.get? C=some (excClassObj nm q C N bs bm hdct sn sub ab col dd k0 k1 k2 k3 k5 newId)∧s1.heap.get? e=some {cls:=.ref C,dict:=dx,data:=.fields vs,slots:=sl}∧vs[1]? = some .none∧vs[2]? = some .none∧E (.ref e) s1) E s) :
  wpAny M A (raiseStmt env (some x) none) Q E s:=by
 have up:(Value.ref C :: bm).contains (.type "BaseException")=true:=by rw [List.contains_cons,hbase,Bool.or_true]
 unfold raiseStmt
 refine wpAny_bind (wpAny_mono h (fun v s1 h1=>?_) fun _ _ z=>z)
 obtain ⟨e,dx,vs,sl,rfl,hC,he,v1,v2,hE⟩:=h1
 obtain ⟨hp,g,d,tk,os⟩:=s1
 repeat (first | with_reducible refine wpAny_loadPart_at he ?_ | with_reducible refine wpAny_loadPart_at hC ?_ | (with_reducible refine wpAny_isSubtype_exc hC ?_; rw [up]) | wp_step)
 rw [v1]
 exact wpAny_pure (wpAny_ite_false (by decide) (wpAny_pure (wpAny_raiseNew_none hh hE)))
theorem raise_callI {prog:Program} {w:World} {A:Around} {E:Value→Shared→Prop} {env:Env} {s:Shared} {mN:Str→Option Value} {x:Str} {np cpos pos:Pos} {args:List Expr} {fI:Addr} {Q:Flow→Shared→Prop}
  (hbase:bm.contains (.type "BaseException")=true) (hh:A.handled=none) (hpl:(backTo cpos (starEach args env)).any (·.1)=false) (hi:mN (Str.ofString "__init__")=some (.ref fI))
  (h:wpAny (model prog w) A (eval (.Name x np) env) (fun f s1=>f = .ref C∧wpAny (model prog w) A (evalArgs (.ref C) true (backTo cpos (starEach args env)) [])
   (fun a s2=>a.kw=[]∧a.pos.length≤sizeLine∧s2.heap.get? C=some (excClassObj nm q C N bs bm hdct sn sub ab col dd k0 k1 k2 k3 k5 "ValueError.__new__")∧s2.heap.Ns N mN∧OwnTail s2.heap bmV bm∧(∃oI,s2.heap.get? fI=some oI∧oI.cls = .type "function")∧
    ∀h' e,Heap.MadeExcOf s2.heap h' e (.ref C) a.pos→wpAny (model prog w) (A.under (Code.builtin "type.__call__" {pos:=Value.ref C :: a.pos})) (call (.ref fI) (.ref e :: a.pos))
     (fun r s'=>r = .none∧∃dx vs sl,s'.heap.get? C=some (excClassObj nm q C N bs bm hdct sn sub ab col dd k0 k1 k2 k3 k5 "ValueError.__new__")∧s'.heap.get? e=some {cls:=.ref C,dict:=dx,data:=.fields vs,slots:=sl}∧vs[1]? = some .none∧vs[2]? = some .none∧E (.ref e) s') E {s2 with heap:=h'}) E s1) E s) :
  wpAny (model prog w) A (exec (.Raise (some (.Call (.Name x np) args [] cpos)) none pos) env) Q E s:=by
 rw [arm_exec_Raise]
 refine wpAny_bind (wpAny_standAt (raise_madeD (C:=C) (nm:=nm) (q:=q) (N:=N) (bs:=bs) (bm:=bm) (hdct:=hdct) (sn:=sn) (sub:=sub) (ab:=ab) (col:=col) (dd:=dd) (k0:=k0) (k1:=k1) (k2:=k2) (k3:=k3) (k5:=k5) (newId:="ValueError.__new__") hbase hh ?_))
 refine wpAny_bind (wpAny_mono (wpAny_Call_ofName (wpAny_mono h (fun f s1 h1=>?_) fun _ _ z=>z)) (fun v s3 h3=>wpAny_bind (wpAny_standAt (wpAny_pure h3))) fun _ _ z=>z)
 obtain ⟨rfl,h1⟩:=h1
 unfold callWith
 refine wpAny_bind (wpAny_holding (wpAny_mono h1 (fun a s2 h2=>wpAny_bind (wpAny_standAt ?_)) fun _ _ z=>z))
 obtain ⟨ap,ak⟩:=a
 obtain ⟨hk,hl,hC,hn,T,⟨oI,hf,hfc⟩,h2⟩:=h2
 obtain rfl:ak=[]:=hk
 obtain ⟨hp,g,d,tk,os⟩:=s2
 simp only [hpl]
 refine wpAny_bind (wpAny_keeperOf_exc hC ?_)
 refine wpAny_bind (call_initT (hrest:=hl) PySem.F.excBase_ValueError T hC hn hi hf hfc fun h' e hm=>?_)
 refine wpAny_mono (h2 h' e hm) (fun r s' z=>⟨z.1,wpAny_bind (wpAny_holding (wpAny_point (wpAny_pure ?_)))⟩) fun _ _ z=>z
 obtain ⟨_,dx,vs,sl,z1,z2,z3,z4,z5⟩:=z
 exact ⟨e,dx,vs,sl,rfl,z1,z2,z3,z4,z5⟩
end
structure InitK (P:Program) (w:World) (K:PySem.W.Frag) (mg:Str→Option Value) (C fI:Addr) (Xn:Str):Prop where
 obj:∀{h:Heap},K.In h→∃bm N nm qn bs hd sn sub ab col dd k0 k1 k2 k3 k5 mN,h.get? C=some (excClassObj nm qn C N bs bm hd sn sub ab col dd k0 k1 k2 k3 k5 "ValueError.__new__")∧h.Ns N mN∧mN (Str.ofString "__init__")=some (.ref fI)∧OwnTail h bmV bm
 fn:∃oI,K.lookup fI=some oI∧oI.cls = .type "function"
 run:∀(A:Around) (s:Shared) (e:Addr) (v:V) (u:Value) (y:Str) (R:Result→Shared→Prop) (vs:Array Value) (sl:Array (Option Value)) (v0:Value),K.In s.heap→A.depth < recursionLimit→s.heap.NoLimit→s.heap.Ns mainGlobals mg→
  (∃mb,s.heap.Ns builtinsNs mb∧∀x:Str,x≠"__name__"→mb x=bootBuiltins x)→s.heap.get? e=some {cls:=.ref C,dict:=none,data:=.fields vs,slots:=sl}→vs[0]? = some v0→K.lookup e=none→RelV v u→Shown v y→y.length≤700→
  (∀(h':Heap) (dx t:Addr) (tk:Nat),s.heap.get? dx=none→h'.get? e=some {cls:=.ref C,dict:=some dx,data:=.fields (vs.setIfInBounds 0 (.ref t)),slots:=sl}→h'.Ns1 dx (fun y=>if y=Xn then some u else none)→
   (∀b o,b≠e→s.heap.get? b=some o→h'.get? b=some o)→R (.ok (.ret .none)) {s with heap:=h',toks:=tk})→codeAny (model P w) A (.call (.ref fI) ⟨[.ref e,u],[]⟩) R s
def tRaiseI (C:Addr) (Xn:Str) (E:XK) (t:TA):TS:=fun _ σ H=>t σ H fun vs H1=>∃v,vs=[v]∧(∃y,Shown v y∧y.length≤700)∧∀dx,H1 dx=none→E (.ref C) (some dx) (upd H1 dx (.xd [(Xn,v)]))
theorem un_new {fs ex:List Addr} {H H':Hp} {h h':Heap} {a:Addr} {o:HO} (u:Un fs ex H H' h h') (n:h.get? a=none) (e:H' a=none):Un fs ex H (upd H' a o) h h':=
  have ne:∀b u,H' b=some u→b≠a:=fun b u q z=>by rw [z,e] at q; cases q
  ⟨u.keep,u.slot,fun b o q m hx=>by rw [upd_ne (fun z=>by rw [z,n] at q; cases q)]; exact u.free b o q m hx,u.there,fun b xs q=>by rw [upd_ne (ne b _ (u.tups b xs q))]; exact u.tups b xs q,
   fun b o xs q=>by rw [upd_ne (ne b _ (u.frzs b o xs q))]; exact u.frzs b o xs q,fun b p q=>by
    obtain ⟨m,z⟩:=u.tbls b p q
    exact ⟨m,by rw [upd_ne (ne b _ z)]; exact z⟩⟩
theorem hok_new {P:Program} {w:World} {H:Hp} {h h':Heap} {a:Addr} {o:HO} (x:HOk P w H h) (k:∀b u,h.get? b=some u→h'.get? b=some u) (e:H a=none) (new:ObjOk P w (upd H a o) h' a o):HOk P w (upd H a o) h':=fun b u q=>by
 by_cases hb:b=a
 ·subst hb
  rw [upd_same] at q; cases q
  exact new
 ·rw [upd_ne hb] at q
  have ne:∀c v,H c=some v→c≠a:=fun c v r z=>by rw [z,e] at r; cases r
  exact (x b u q).stay (fun c v _ r=>k c v r) (fun c r=>by rw [upd_ne (ne c _ r)]; exact r) fun c xs r=>by rw [upd_ne (ne c _ r)]; exact r
section
variable {P:Program} {w:World} {K:PySem.W.Frag} {mg:Str→Option Value} {base:Heap} {N:List Str} {qual:Str} {scope:Scope} {f:Addr} {cd:Value} {A:Around} {outer:List Env} {s:Shared} {H:Hp} {E:XK}
theorem ps_raiseI {x Xn:Str} {C fI:Addr} {e0:Expr} {t:TA} {k:Nat} {np cpos pos:Pos} (hA:Room (k + 1) (cxOf (CXE P w) P w K mg base N qual scope f cd A outer s H E).A)
  (hc:(cxOf (CXE P w) P w K mg base N qual scope f cd A outer s H E).calm=true) (hg:Gl (cxOf (CXE P w) P w K mg base N qual scope f cd A outer s H E) x) (hm:mg x=some (.ref C)) (q:InitK P w K mg C fI Xn) (ha:PA (cxOf (CXE P w) P w K mg base N qual scope f cd A outer s H E) [e0] t) (hd:(x == ("__debug__" : Str))=false:=by decide)
  (he:starEach [e0] (cxOf (CXE P w) P w K mg base N qual scope f cd A outer s H E).env=[(false,eval e0 (cxOf (CXE P w) P w K mg base N qual scope f cd A outer s H E).env)]:=by rfl) :
  PS (cxOf (CXE P w) P w K mg base N qual scope f cd A outer s H E) (.Raise (some (.Call (.Name x np) [e0] [] cpos)) none pos) (tRaiseI C Xn E t):=by
 intro pins s0 σ H0 D I h
 obtain ⟨bm,Nn,nm,qn,bs,hdt,sn,sub,ab,col,dd,k0,k1,k2,k3,k5,mN,hC,hN,hi,T⟩:=q.obj I.mod.kin
 refine raise_callI (C:=C) (nm:=nm) (q:=qn) (N:=Nn) (bs:=bs) (bm:=bm) (hdct:=hdt) (sn:=sn) (sub:=sub) (ab:=ab) (col:=col) (dd:=dd) (k0:=k0) (k1:=k1) (k2:=k2) (k3:=k3) (k5:=k5) (mN:=mN) (T.hasType PySem.F.excBase_ValueError.hasBase) (I.ok.hd hc) (by rw [he]; rfl) hi (ld_glob I hg hm ⟨rfl,?_⟩ hd)
 have hb:=ha cpos pins s0 σ H0 _ I h
 rw [he] at hb ⊢
 refine Calls.evalArgs_plain (thn hb fun us s1 ⟨vs,H1,I1,r1,v,hv,⟨y,sh,hy⟩,z⟩=>?_)
 subst hv
 obtain ⟨oI,lI,cI⟩:=q.fn
 cases r1 with
 | @cons _ u _ _ r rt=>
 cases rt
 refine ⟨rfl,(by show 1≤sizeLine; decide),I1.bk _ _ hC,hN.keeps I1.bk,T.keeps I1.bk,⟨oI,I1.kIn _ _ lI,cI⟩,fun h' e hm=>?_⟩
 obtain ⟨t1,e1,t2,t3⟩:=hm.there
 obtain ⟨mb,b1,b2⟩:=I1.mod.blt
 have kb:∀b o,base.get? b=some o→h'.get? b=some o:=fun b o z=>hm.keeps _ _ (I1.bk b o z)
 have lk:K.lookup e=none:=by
  cases z:K.lookup e with
  | none=>rfl
  | some o=>have y:=I1.kIn _ _ z; rw [hm.new] at y; cases y
 refine wpAny_call (q.run _ {s1 with heap:=h'} e v u y _ _ _ _ (I1.kIn.keeps hm.keeps) (hA.make C [u] []).depth (I1.nolimit.keeps hm.keeps) (I1.mod.glob.keeps kb) ⟨mb,b1.keeps kb,b2⟩ e1 rfl lk r sh hy fun h2 dx t' tk n1 n2 n3 n4=>?_)
 have k2:∀b o,s1.heap.get? b=some o→h2.get? b=some o:=fun b o z=>n4 b o (fun y=>by rw [y,hm.new] at z; cases z) (hm.keeps b o z)
 have dn:s1.heap.get? dx=none:=by
  cases z:s1.heap.get? dx with
  | none=>rfl
  | some o=>have y:=hm.keeps _ _ z; rw [n1] at y; cases y
 have hdx:=I1.hok.none_of dn
 have ed:e≠dx:=fun y=>by rw [← y,e1] at n1; cases n1
 have nw:ObjOk P w (upd H1 dx (.xd [(Xn,v)])) h2 dx (.xd [(Xn,v)]):=⟨_,n3,fun f=>by
  by_cases hf:f=Xn
  ·subst hf; simp only [List.lookup,beq_self_eq_true,if_true]; exact r
  ·have z:(f == Xn)=false:=beq_eq_false_iff_ne.mpr hf
   simp only [List.lookup,z,if_neg hf]; exact trivial⟩
 exact ⟨rfl,some dx,_,_,k2 _ _ (I1.bk _ _ hC),n2,rfl,rfl,
  throw_out (s2:={s1 with heap:=h2,toks:=tk}) I1 rfl I1.bare (un_new (Un.kept k2) dn hdx) (hok_new I1.hok k2 hdx nw) (by rw [upd_ne ed]; exact I1.hok.none_of hm.new) hm.new n2 rfl rfl rfl (z dx hdx)⟩
end
section
variable {prog:Program} {w:World} {A:Around} {E:Value→Shared→Prop} {K:PySem.W.Frag} {C e:Addr} {ox:Obj} {od:Option Obj}
end
theorem ns_some {K:PySem.W.Frag} {h:Heap} {N:Addr} {m:Str→Option Value} {x:Str} {v:Value} (X:K.In h) (G:h.Ns N m) (e:PySem.W.nsIn K N x=some (some v)):m x=some v:=by
 obtain ⟨o,es,ep,g1,g2,_,g3⟩:=G
 unfold PySem.W.nsIn at e
 split at e
 next a b fs fp sl lk=>
  have z:=(X _ _ lk).symm.trans g1
  cases z
  cases g2
  split at e
  next en hen=>
   cases e
   rw [← g3]
   unfold nsFind findBy
   rw [← Array.find?_toList,hen]
   rfl
  next=>
   split at e
   ·cases e
   ·cases e
 next=>cases e
theorem strLen (a b:Str):(a ++ b).length=a.length + b.length:=by
 show (a.cps ++ b.cps).size=a.cps.size + b.cps.size
 exact Array.size_append ..
theorem super_boot:bootBuiltins "super" = some (.type "super"):=by decide +kernel
theorem initK_mk {P:Program} {w:World} {K:PySem.W.Frag} {mg:Str→Option Value} {C fI cc c2:Addr} {Xn msg:Str} {odf o2d occd:Option Addr} {slf o2s ocs:Array (Option Value)} {o2c occ:Value} {fd:FuncData} {cs:Array Value} {file:Str} {tf:Tok} {ar:Arg} {k:Nat} {p0 p1 p2 p3 p4 p5 p6 p7 p8 pa pb pc pd:Pos}
  {bm:List Value} {N:Addr} {nm qn:Str} {bs:List Value} {hd ab:Bool} {sn:List Str} {sub:List Value} {col:Option Bool} {dd:Option Addr} {k0 k1 k2 k3 k5:Option Value} (lC:K.lookup C=some (excClassObj nm qn C N bs bm hd sn sub ab col dd k0 k1 k2 k3 k5 "ValueError.__new__")) (tl:PySem.W.tailIn K bmV bm=true) (no:PySem.W.nsOkIn K N=true) (ni:PySem.W.nsIn K N "__init__" = some (some (.ref fI))) (lf:K.lookup fI=some ⟨.type "function",odf,.func fd,slf⟩) (cq:PySem.W.codeIn K fd.code fd.qualname=true)
  (hb:fd.body = .stmts [.Expr (.Call (.Attribute (.Call (.Name "super" p0) [] [] p1) "__init__" p2) [.JoinedStr [.Constant (.str msg) k pa,.FormattedValue (.Name Xn pb) (-1) none pc] pd] [] p3) p4,.Assign [.Attribute (.Name "self" p5) Xn p6] (.Name Xn p7) p8])
  (hbi:∀(s:Shared) (e:Addr) (u:Value),BindsTo s fd ⟨[.ref e,u],[]⟩ [(("self" : Str),.ref e),(Xn,u)]) (hXs:Xn≠"self") (hce:∀x∈fd.scope.names,x.2≠NameKind.cell) (h1:fd.scope.names.lookup ("self" : Str)=some NameKind.local) (hX2:fd.scope.names.lookup Xn=some NameKind.local)
  (h3:fd.scope.names.lookup ("super" : Str)=some NameKind.globalImplicit) (h4:fd.scope.names.lookup ("__class__" : Str)=some NameKind.free) (g1:fd.scope.isCoroutine=false) (g2:fd.scope.isGenerator=false) (g3:fd.scope.kind = .function) (hcl:fd.closure=[(("__class__" : Str),cc)])
  (hpa:(fd.params.posonlyargs ++ fd.params.args).head? = some ar) (har:ar.arg = "self") (hcd:fd.code = .ref c2) (lc2:K.lookup c2=some ⟨o2c,o2d,.fields cs,o2s⟩) (hc4:cs[2]? = some (.str file tf)) (hfi:(P.main.file == file)=true)
  (hns:(P.main.scope.names.lookup ("super" : Str)).isSome=false) (hgl:fd.globals=mainGlobals) (hbl:fd.builtins=builtinsNs) (gs:PySem.W.nsIn K mainGlobals "super" = some none) (lcc:K.lookup cc=some ⟨occ,occd,.cell (some (.ref C)),ocs⟩)
  (m1:PySem.W.mroIn K C (.ref C)=some true) (m2:PySem.W.mroIn K C (.type "ValueError")=some true) (op:PySem.W.nsIn K cStatics "thirdparty.any" = some none)
  (hline:(p2.endLine == p3.line)=true)
  (hin:∀L,interactive (callEnv fd L fI)=false) (hsw:∀L,swapsWith (.Name Xn p7) (some (.Attribute (.Name "self" p5) Xn p6)) p8.line (callEnv fd L fI)=pure false)
  (hs:PySem.W.findIn K (.ref C) "__setattr__" = some (some (.builtin "object.__setattr__"))) (hp:overV K C=true) (ht:PySem.W.takerIn K C Xn=some none) (hh:PySem.W.hasDictIn K C=true)
  (hdb:(Xn == ("__debug__" : Str))=false) (hml:msg.length≤100):InitK P w K mg C fI Xn:=by
 have obj:∀{h:Heap},K.In h→h.Ns N (h.nsMap N):=fun X=>.of_isNs (PySem.W.isNs_of_in X no)
 refine ⟨fun {h} X=>⟨bm,N,nm,qn,bs,hd,sn,sub,ab,col,dd,k0,k1,k2,k3,k5,h.nsMap N,X _ _ lC,obj X,ns_some X (obj X) ni,PySem.W.tail_of_in X tl⟩,⟨_,lf,rfl⟩,?_⟩
 intro A s e v u y R vs sl v0 X hdp lim gN ⟨mb,bN,bb⟩ he hv0 lk r sh hy hq
 obtain ⟨cdx,hcd',hmx⟩:∃cdx,PySem.W.clsIn K C=some cdx∧cdx.mro = .ref C :: bm:=⟨_,by unfold PySem.W.clsIn; rw [lC],rfl⟩
 have heC:e≠C:=fun z=>by rw [z,lC] at lk; cases lk
 have heq:∀L,eval (.Call (.Attribute (.Call (.Name "super" p0) [] [] p1) "__init__" p2) [.JoinedStr [.Constant (.str msg) k pa,.FormattedValue (.Name Xn pb) (-1) none pc] pd] [] p3) (callEnv fd L fI)=(do
   let ov ← attributeBase (.Call (.Name "super" p0) [] [] p1) "__init__" (callEnv fd L fI) (eval (.Call (.Name "super" p0) [] [] p1) (callEnv fd L fI))
   standAt p2.atName
   let x ← holding [ov] (getMethod ov "__init__" (do return (← importBound (.Call (.Name "super" p0) [] [] p1) (callEnv fd L fI)).getD true))
   match x with
   | (f,first)=>callWith p3 f first (backTo p3 (starEach [.JoinedStr [.Constant (.str msg) k pa,.FormattedValue (.Name Xn pb) (-1) none pc] pd] (callEnv fd L fI))) []):=fun L=>by
  rw [arm_eval_Call]
  unfold methodCall calleeOf methodCallPos
  rw [hline]
  rfl
 refine init_run (cd:=cdx) (oC:=⟨.none,none,.plain,#[]⟩) (C:=C) (cc:=cc) (c2:=c2) (Xn:=Xn) (u:=u) X hdp (X _ _ lf) rfl lim (PySem.W.codeRec_of X cq) hb (hbi s e u) hXs hce h1 hX2 h3 h4 g1 g2 g3 hcl hpa har hcd (X _ _ lc2) rfl hc4 hfi hns (hgl ▸ gN) (PySem.W.ns_none_of X gN gs) (hbl ▸ bN) ((bb "super" (by decide)).trans super_boot)
  (fun h' k=>⟨_,k _ _ (X _ _ lcc),rfl⟩) (X _ _ lC) (PySem.W.tail_of_in X tl) he hv0 heC (fun h Y=>looks_isType Y (by rw [hcd']; rfl)) (fun h Y=>PySem.W.looks_mroIn Y m1) (fun h Y=>PySem.W.looks_mroIn Y m2) (fun h Y=>PySem.W.looks_opaque Y op) (fun h Y=>hmx ▸ (PySem.W.looks_clsIn Y hcd').andThen .now) (fun L=>rfl) _ heq hin hsw hs hp ht hh hdb
  (fun o z=>by rw [lk] at z; cases z) (fun h vs' z=>⟨z,rfl,rfl,trivial⟩) hq ?_
 intro L A1 s1 E1 Q1 hn hq1
 have len:∀z:Str,z.length≤800→z.length≤sizeLine:=fun z h=>Nat.le_trans h (by rw [sizeLine_eq]; decide)
 refine fstr_eval (v:=v) (u:=u) (y:=y) g3 hX2 hdb hn (by simp [List.lookup]) r sh ?_ ?_ hq1
 ·exact len _ (by rw [strLen]; show 0 + msg.length≤800; omega)
 ·exact len _ (by rw [strLen,strLen]; show 0 + msg.length + y.length≤800; omega)
structure FunG (K:PySem.W.Frag) (x qual:Str) (st:Stmt) (dV:Value) (f:Addr) (fd:FuncData):Prop where
 ex:∃(oc:Value) (od:Option Addr) (kV doc pm:Value) (an:Option Addr) (cdv ct:Value) (osl:Array (Option Value)),
  fd=PySem.W.fnOf x qual (defArgs st) (defBody st) (defScope st) dV kV doc pm an cdv ct∧K.lookup f=some ⟨oc,od,.func fd,osl⟩∧PySem.W.codeIn K cdv qual=true
 kp:PySem.W.keepIn K (.ref f)=true
section
variable {P:Program} {w:World} {K:PySem.W.Frag} {mg:Str→Option Value} {base:Heap} {x qual:Str} {st:Stmt} {dV:Value} {f:Addr} {fd:FuncData} {N ps:List Str} {k:Nat} {sp:Sp}
theorem FunG.okE (F:FunG K x qual st dV f fd) (S:FnScope N ps (defScope st)) (len:∀vs H Q E,sp vs H Q E→vs.length=ps.length)
  (hbody:∀(cdv:Value) (A:Around) (outer:List Env) (s:Shared) (H:Hp) (vs:List V) (Q:VK) (E:XK),Room k (A.deeper (envOfC qual (defScope st) s.heap.objs.size f cdv))→sp vs H Q E→
   ∃t,PSs (cxOf (CXE P w) P w K mg base N qual (defScope st) f cdv A outer s H E) (defBody st) t∧t {nx:=fun _ H'=>Q .non H',rt:=Q} (start N vs) H):FnOk P w K mg base (CXE P w) (k + 1) f fd ps sp:=by
 obtain ⟨oc,od,kV,doc,pm,an,cdv,ct,osl,rfl,lk,hcd⟩:=F.ex
 exact fn_of lk hcd S len fun A outer s H vs Q E hr hsp=>hbody cdv A outer s H vs Q E hr hsp
theorem FunG.okN (F:FunG K x qual st dV f fd) (S:FnScope N ps (defScope st)) (len:∀vs H Q E,sp vs H Q E→vs.length=ps.length)
  (hbody:∀(cdv:Value) (A:Around) (outer:List Env) (s:Shared) (H:Hp) (vs:List V) (Q:VK) (E:XK),Room k (A.deeper (envOfC qual (defScope st) s.heap.objs.size f cdv))→sp vs H Q E→
   ∃t,PSs (cxOf (CXE P w) P w K mg base N qual (defScope st) f cdv A outer s H E).nox (defBody st) t∧t {nx:=fun _ H'=>Q .non H',rt:=Q} (start N vs) H):FnOk P w K mg base (CXE P w) (k + 1) f fd ps sp:=
 F.okE S len fun cdv A outer s H vs Q E hr hsp=>by
  obtain ⟨t,h,q⟩:=hbody cdv A outer s H vs Q E hr hsp
  exact ⟨t,h.nox,q⟩
theorem FunG.binds (F:FunG K x qual st .none f fd)
  (h:∀(kV doc pm:Value) (an:Option Addr) (cdv ct:Value) (us:List Value),us.length=ps.length→bindArgs (PySem.W.fnOf x qual (defArgs st) (defBody st) (defScope st) .none kV doc pm an cdv ct) ⟨us,[]⟩=pure (ps.zip us)):Binds K fd ps []:=by
 obtain ⟨oc,od,kV,doc,pm,an,cdv,ct,osl,rfl,lk,hcd⟩:=F.ex
 exact .all (h kV doc pm an cdv ct)
theorem fung_mk {oc:Value} {od an:Option Addr} {osl:Array (Option Value)} {kV doc pm cdv ct:Value} (l:K.lookup f=some ⟨oc,od,.func (PySem.W.fnOf x qual (defArgs st) (defBody st) (defScope st) dV kV doc pm an cdv ct),osl⟩)
  (c:PySem.W.codeIn K cdv qual=true) (k:PySem.W.keepIn K (.ref f)=true):FunG K x qual st dV f (PySem.W.fnOf x qual (defArgs st) (defBody st) (defScope st) dV kV doc pm an cdv ct):=⟨⟨oc,od,kV,doc,pm,an,cdv,ct,osl,rfl,l,c⟩,k⟩
end
inductive Th (H:Hp):V→Prop where
 | non:Th H .non
 | bl (b:Bool):Th H (.bl b)
 | int (i:Int):Th H (.int i)
 | str (x:Str):Th H (.str x)
 | lst {a:Addr} {xs:List V} (h:H a=some (.lst xs)):Th H (.ref a)
 | tup {a:Addr} {xs:List V} (h:H a=some (.tup xs)):Th H (.ref a)
 | dK {a:Addr} {xs:List (Key × V)} (h:H a=some (.dK xs)):Th H (.ref a)
def isI:V→Bool
 | .int _=>true
 | .bl _=>true
 | _=>false
def isB:V→Bool
 | .bl _=>true
 | _=>false
def isW:V→Bool
 | .int _=>true
 | _=>false
theorem isW_eq (x:V):(if isI x=true then !isB x else false)=isW x:=by cases x <;> rfl
theorem ki1 {K:PySem.W.Frag}:PySem.W.kitOne K (.type "int") (.type "int")=some true:=by kernel_rfl
theorem ki2 {K:PySem.W.Frag}:PySem.W.kitOne K (.type "bool") (.type "int")=some true:=by kernel_rfl
theorem ki3 {K:PySem.W.Frag}:PySem.W.kitOne K (.type "NoneType") (.type "int")=some false:=by kernel_rfl
theorem ki4 {K:PySem.W.Frag}:PySem.W.kitOne K (.type "str") (.type "int")=some false:=by kernel_rfl
theorem ki5 {K:PySem.W.Frag}:PySem.W.kitOne K (.type "list") (.type "int")=some false:=by kernel_rfl
theorem ki6 {K:PySem.W.Frag}:PySem.W.kitOne K (.type "tuple") (.type "int")=some false:=by kernel_rfl
theorem ki7 {K:PySem.W.Frag}:PySem.W.kitOne K (.type "dict") (.type "int")=some false:=by kernel_rfl
theorem kb1 {K:PySem.W.Frag}:PySem.W.kitOne K (.type "int") (.type "bool")=some false:=by kernel_rfl
theorem kb2 {K:PySem.W.Frag}:PySem.W.kitOne K (.type "bool") (.type "bool")=some true:=by kernel_rfl
theorem kt1 {K:PySem.W.Frag}:PySem.W.kitOne K (.type "tuple") (.type "tuple")=some true:=by kernel_rfl
theorem boot_int:bootBuiltins "int" = some (.type "int"):=by decide +kernel
theorem boot_bool:bootBuiltins "bool" = some (.type "bool"):=by decide +kernel
theorem boot_tuple:bootBuiltins "tuple" = some (.type "tuple"):=by decide +kernel
theorem Th.ty {K:PySem.W.Frag} {H:Hp} {x:V} (h:Th H x):∃t,TyX K H x t∧PySem.W.kitOne K t (.type "int")=some (isI x)∧(isI x=true→PySem.W.kitOne K t (.type "bool")=some (isB x)):=by
 cases h with
 | non=>exact ⟨_,.of .non,ki3,fun z=>nomatch z⟩
 | bl b=>exact ⟨_,.of (.bl b),ki2,fun _=>kb2⟩
 | int i=>exact ⟨_,.of (.int i),ki1,fun _=>kb1⟩
 | str x=>exact ⟨_,.of (.str x),ki4,fun z=>nomatch z⟩
 | lst h=>exact ⟨_,.of (.lst h),ki5,fun z=>nomatch z⟩
 | tup h=>exact ⟨_,.of (.tup h),ki6,fun z=>nomatch z⟩
 | dK h=>exact ⟨_,.of (.dK h),ki7,fun z=>nomatch z⟩
end L2
namespace G1
open PySem L2
def top (i:Nat):Stmt:=PySem.Challenge.pw_dearsigns_k13_costs.main.body.getD i (.Pass ⟨0,0,0,0⟩)
abbrev sWhole:Stmt:=top 9
abbrev sWithin:Stmt:=top 10
abbrev sIsF:Stmt:=top 11
abbrev sAbove:Stmt:=top 12
abbrev sName:Stmt:=top 13
abbrev sLetter:Stmt:=top 14
abbrev sGcd:Stmt:=top 15
abbrev sFrac:Stmt:=top 16
abbrev sPlus:Stmt:=top 17
abbrev sTimes:Stmt:=top 18
abbrev sSum:Stmt:=top 19
abbrev sLook:Stmt:=top 24
abbrev sSigns:Stmt:=top 25
abbrev sRow:Stmt:=top 26
abbrev sUnlike:Stmt:=top 27
abbrev sSignsOf:Stmt:=top 28
abbrev sLookW:Stmt:=top 32
abbrev sWant:Stmt:=top 33
abbrev sCount:Stmt:=top 34
abbrev sRWay:Stmt:=top 36
abbrev sRPrice:Stmt:=top 37
abbrev sLasts:Stmt:=top 38
abbrev sCost:Stmt:=top 40
abbrev sPool:Stmt:=top 42
abbrev sDraw:Stmt:=top 43
abbrev sLow:Stmt:=top 44
abbrev sPrice:Stmt:=top 45
abbrev sTongue:Stmt:=top 46
abbrev sLName:Stmt:=top 47
abbrev sWants:Stmt:=top 48
abbrev sMay:Stmt:=top 49
abbrev sWords:Stmt:=top 50
abbrev sBook:Stmt:=top 51
abbrev sLCost:Stmt:=top 52
abbrev sTold:Stmt:=top 53
abbrev sRefl:Stmt:=top 54
abbrev sCopy:Stmt:=top 55
abbrev sRefs:Stmt:=top 56
abbrev sLaw:Stmt:=top 57
structure Bl (mg:Str→Option Value):Prop where
 isi:mg "isinstance" = none
 int:mg "int" = none
 bool:mg "bool" = none
 tuple:mg "tuple" = none
 abs:mg "abs" = none
 len:mg "len" = none
 enum:mg "enumerate" = none
 str:mg "str" = none
 range:mg "range" = none
 max:mg "max" = none
 all:mg "all" = none
 set:mg "set" = none
 list:mg "list" = none
 min:mg "min" = none
section
variable {P:Program} {w:World} {K:PySem.W.Frag} {mg:Str→Option Value} {base:Heap}
def spWhole:Sp:=fun vs H Q _=>∃x,vs=[x]∧Th H x∧Q (.bl (isW x)) H
theorem scW:FnScope ["thing"] ["thing"] (defScope sWhole):=⟨rfl,rfl,rfl,by decide +kernel,rfl,by decide +kernel,by decide +kernel⟩
theorem ok_whole {f:Addr} {fd:FuncData} (F:FunG K "is_whole" "is_whole" sWhole .none f fd) (B:Bl mg):FnOk P w K mg base (CXE P w) 1 f fd ["thing"] spWhole:=by
 refine F.okN scW (fun vs H Q E h=>?_) (fun cdv A outer s H vs Q E hr h=>?_)
 ·obtain ⟨x,rfl,_⟩:=h
  rfl
 ·obtain ⟨x,rfl,hx,q⟩:=h
  obtain ⟨t,ty,e1,e2⟩:=hx.ty (K:=K)
  refine ⟨_,pss_one (ps_ret (pe_and (pe_callB call_isi (by rfl) B.isi boot_isi (pa_cons (pv 0) (pa_cons (pe_bltn (by rfl) B.int boot_int (v:=.ty "int") rfl) pa_nil)))
   (pe_one (pe_not (pe_callB call_isi (by rfl) B.isi boot_isi (pa_cons (pv 0) (pa_cons (pe_bltn (by rfl) B.bool boot_bool (v:=.ty "bool") rfl) pa_nil))))))),?_⟩
  refine ⟨x,rfl,x,_,t,isI x,rfl,ty,.inl ⟨_,rfl,e1⟩,_,rfl,?_⟩
  rw [← isW_eq x] at q
  by_cases hi:isI x=true
  ·rw [if_pos hi] at q ⊢
   exact ⟨x,rfl,x,_,t,isB x,rfl,ty,.inl ⟨_,rfl,e2 hi⟩,_,rfl,q⟩
  ·rw [if_neg hi] at q ⊢
   exact q
end
end G1
namespace GM
theorem gcd_step (m n:Nat):Nat.gcd n (m % n)=Nat.gcd m n:=by
 rw [Nat.gcd_comm n,Nat.gcd_comm m,Nat.gcd_rec n m]
theorem abs_nat (i:Int):(if i < 0 then -i else i)=(i.natAbs:Int):=by split <;> omega
def gd (a b:Int):Int:=((Nat.gcd a.natAbs b.natAbs:Nat):Int)
theorem gd_pos {a b:Int} (h:b≠0):0 < gd a b:=by
 unfold gd
 have:0 < Nat.gcd a.natAbs b.natAbs:=Nat.gcd_pos_of_pos_right _ (by omega)
 omega
theorem gd_dvd1 (a b:Int):gd a b ∣ a:=by
 unfold gd
 have h:(Nat.gcd a.natAbs b.natAbs) ∣ a.natAbs:=Nat.gcd_dvd_left _ _
 exact Int.dvd_natAbs.mp (Int.natCast_dvd_natCast.mpr h)
theorem gd_dvd2 (a b:Int):gd a b ∣ b:=by
 unfold gd
 have h:(Nat.gcd a.natAbs b.natAbs) ∣ b.natAbs:=Nat.gcd_dvd_right _ _
 exact Int.dvd_natAbs.mp (Int.natCast_dvd_natCast.mpr h)
theorem gd_le {a b:Int} (h:b≠0):(gd a b).natAbs≤b.natAbs:=by
 unfold gd
 have:Nat.gcd a.natAbs b.natAbs≤b.natAbs:=Nat.le_of_dvd (by omega) (Nat.gcd_dvd_right _ _)
 omega
theorem parted {a b g:Int} (hb:b≠0) (hg:g=gd a b∨g = -gd a b) (hs:0 < b↔0 < g) :
  ∃c d,a.fdiv g=c∧b.fdiv g=d∧a=g * c∧b=g * d∧0 < d∧Nat.gcd c.natAbs d.natAbs=1∧c.natAbs≤a.natAbs∧d.natAbs≤b.natAbs:=by
 have h0:=gd_pos (a:=a) hb
 have g0:g≠0:=by omega
 have d1:g ∣ a:=by
  rcases hg with e | e
  ·rw [e]; exact gd_dvd1 a b
  ·rw [e]; exact (Int.neg_dvd).mpr (gd_dvd1 a b)
 have d2:g ∣ b:=by
  rcases hg with e | e
  ·rw [e]; exact gd_dvd2 a b
  ·rw [e]; exact (Int.neg_dvd).mpr (gd_dvd2 a b)
 obtain ⟨c,rfl⟩:=d1
 obtain ⟨d,rfl⟩:=d2
 have na:g.natAbs=Nat.gcd (g * c).natAbs (g * d).natAbs:=by
  have e:gd (g * c) (g * d)=((Nat.gcd (g * c).natAbs (g * d).natAbs:Nat):Int):=rfl
  rcases hg with z | z <;> omega
 refine ⟨c,d,Int.mul_fdiv_cancel_left _ g0,Int.mul_fdiv_cancel_left _ g0,rfl,rfl,?_,?_,?_,?_⟩
 ·by_cases hp:0 < g
  ·have z:=hs.mpr hp
   rw [Int.mul_comm] at z
   exact Int.pos_of_mul_pos_left z hp
  ·have gn:g < 0:=by omega
   have bn:¬0 < g * d:=fun z=>hp (hs.mp z)
   have bn2:g * d < 0:=by omega
   rcases Int.lt_trichotomy d 0 with z | z | z
   ·have:=Int.mul_pos_of_neg_of_neg gn z
    omega
   ·rw [z] at hb; simp at hb
   ·exact z
 ·rw [Int.natAbs_mul,Int.natAbs_mul,Nat.gcd_mul_left] at na
  have gp:0 < g.natAbs:=by omega
  have:g.natAbs * 1=g.natAbs * Nat.gcd c.natAbs d.natAbs:=by rw [Nat.mul_one]; exact na
  exact (Nat.eq_of_mul_eq_mul_left gp this).symm
 ·rw [Int.natAbs_mul]; exact Nat.le_mul_of_pos_left _ (by omega)
 ·rw [Int.natAbs_mul]; exact Nat.le_mul_of_pos_left _ (by omega)
end GM
theorem boot_abs:PySem.bootBuiltins "abs" = some (.builtin "abs"):=by decide +kernel
namespace G1
open PySem L2 GM
section
variable {P:Program} {w:World} {K:PySem.W.Frag} {mg:Str→Option Value} {base:Heap}
def spGcd:Sp:=fun vs H Q _=>∃a b:Int,vs=[.int a,.int b]∧Q (.int (gd a b)) H
theorem scG:FnScope ["one","other"] ["one","other"] (defScope sGcd):=⟨rfl,rfl,rfl,by decide +kernel,rfl,by decide +kernel,by decide +kernel⟩
theorem ok_gcd {f:Addr} {fd:FuncData} (F:FunG K "common_divisor" "common_divisor" sGcd .none f fd) (B:Bl mg):FnOk P w K mg base (CXE P w) 1 f fd ["one","other"] spGcd:=by
 refine F.okN scG (fun vs H Q E h=>?_) (fun cdv A outer s H vs Q E hr h=>?_)
 ·obtain ⟨a,b,rfl,_⟩:=h
  rfl
 ·obtain ⟨a,b,rfl,q⟩:=h
  refine ⟨_,pss_cons (ps_set (i:=0) scG.nd rfl (Or.inl rfl) (pe_callB call_abs (by rfl) B.abs boot_abs (pa_cons (pv 0) pa_nil)))
   (pss_cons (ps_set (i:=1) scG.nd rfl (Or.inl rfl) (pe_callB call_abs (by rfl) B.abs boot_abs (pa_cons (pv 1) pa_nil)))
   (pss_cons (ps_while PassesOwn.never (pt_cmpR op_gt (pv 1) pe_int (nomark _))
    (pss_one (ps_par (i:=0) (j:=1) rfl scG.nd rfl rfl (by decide) rfl rfl (pa_cons (pv 1) (pa_cons (pe_op op_mod (pv 0) (pv 1)) pa_nil)) rfl)))
   (pss_one (ps_ret (pv 0))))),?_⟩
  refine ⟨_,rfl,a,rfl,_,rfl,b,rfl,?_⟩
  refine while_by (fun σ H'=>H'=H∧∃m n:Nat,σ=[some (.int m),some (.int n)]∧Nat.gcd m n=Nat.gcd a.natAbs b.natAbs) (fun σ _=>match σ with | [_,some (.int n)]=>n.toNat | _=>0)
   ⟨rfl,a.natAbs,b.natAbs,by simp only [abs_nat]; rfl,rfl⟩ ?_ ?_
  ·rintro σ H' ⟨rfl,m,n,rfl,hg⟩
   refine ⟨_,rfl,_,_,rfl,rfl,_,rfl,?_⟩
   refine ite2 (fun hn=>?_) (fun hn=>?_)
   ·have hn':(0:Int) < n:=of_decide_eq_true hn
    refine ⟨_,rfl,_,rfl,_,rfl,_,_,rfl,rfl,hn',_,_,rfl,⟨rfl,n,m % n,?_,?_⟩,?_⟩
    ·show [some (V.int n),some (V.int ((m:Int) % n))]=_
     rw [← Int.natCast_emod]
    ·rw [gcd_step]; exact hg
    ·show ((m:Int) % n).toNat < (n:Int).toNat
     have:=Int.emod_lt_of_pos (m:Int) hn'
     have:=Int.emod_nonneg (m:Int) (show (n:Int)≠0 by omega)
     omega
   ·have hn':¬(0:Int) < n:=fun z=>hn (decide_eq_true z)
    refine ⟨_,rfl,?_⟩
    have n0:n=0:=by omega
    rw [n0,Nat.gcd_zero_right] at hg
    rw [hg]
    exact q
  ·rintro σ H' Q1 Q2 h ⟨v,e,i,j,e1,e2,x,e3,z⟩
   exact ⟨v,e,i,j,e1,e2,x,e3,h _ _ z⟩
end
structure FracOf (a b c d:Int):Prop where
 g:∃g:Int,g≠0∧a=g * c∧b=g * d
 pos:0 < d
 low:Nat.gcd c.natAbs d.natAbs=1
 top:c.natAbs≤a.natAbs
 bot:d.natAbs≤b.natAbs
section
variable {P:Program} {w:World} {K:PySem.W.Frag} {mg:Str→Option Value} {base:Heap}
end
section
variable {P:Program} {w:World} {K:PySem.W.Frag} {mg:Str→Option Value} {base:Heap} {c:List Addr}
theorem same_upd {H:Hp} {p:Addr} {o:HO} (h:H p=none):Same H (upd H p o):=fun b u e=>by rw [upd_ne (ne_of_none e h)]; exact e
structure Src (H:Hp) (p:Addr):Prop where
 ex:∃n s:Int,H p=some (.lst [.int n,.int s])∧0≤n∧0≤s∧s < 2147483647
def spDraw:Sp:=fun vs H Q _=>∃(p:Addr) (m:Int),vs=[.ref p,.int m]∧Src H p∧0 < m∧m.natAbs < big∧∀d H',0≤d→d < m→Src H' p→(∀b,b≠p→H' b=H b)→Q (.int d) H'
theorem scD:FnScope ["_law_pool_here","_law_many","_law_found"] ["_law_pool_here","_law_many"] (defScope sDraw):=⟨rfl,rfl,rfl,by decide +kernel,rfl,by decide +kernel,by decide +kernel⟩
theorem ok_draw {f:Addr} {fd:FuncData} (F:FunG K "_law_take" "_law_take" sDraw .none f fd):FnOk P w K mg base (CXE P w) 1 f fd ["_law_pool_here","_law_many"] spDraw:=by
 refine F.okN scD (fun vs H Q E h=>?_) (fun cdv A outer s H vs Q E hr h=>?_)
 ·obtain ⟨p,m,rfl,_⟩:=h
  rfl
 ·obtain ⟨p,m,rfl,⟨n,sd,hp,n0,s0,s1⟩,m0,mb,q⟩:=h
  refine ⟨_,pss_cons (ps_if (pt_cmpR op_gt (pe_ix ix_list (pv 0) pe_int (fun _ _=>rfl)) pe_int (nomark _))
    (pss_cons (ps_set (i:=2) scD.nd rfl (Or.inl rfl) (pe_op op_mod (pe_ix ix_list (pv 0) pe_int (fun _ _=>rfl)) (pv 1)))
    (pss_cons (ps_asg (pe_op op_fdivP (pe_ix ix_list (pv 0) pe_int (fun _ _=>rfl)) (pv 1)) (pg_sub (pv 0) pe_int set_list))
    (pss_one (ps_ret (pv 2))))) pss_nil)
   (pss_cons (ps_asg (pe_op op_mod (pe_op op_add (pe_op op_mul (pe_ix ix_list (pv 0) pe_int (fun _ _=>rfl)) pe_int) pe_int) pe_int) (pg_sub (pv 0) pe_int set_list))
   (pss_one (ps_ret (pe_op op_mod (pe_op op_fdiv (pe_op op_mod (pe_op op_mul (pe_ix ix_list (pv 0) pe_int (fun _ _=>rfl)) (pe_ix ix_list (pv 0) pe_int (fun _ _=>rfl))) pe_int) pe_int) (pv 1))))),?_⟩
  have st:SqL K H p [.int n,.int sd]:=SqL.of hp
  refine ⟨_,rfl,p,_,_,_,rfl,rfl,st,rfl,_,_,rfl,rfl,_,rfl,?_⟩
  refine ite2 (fun hn=>?_) (fun hn=>?_)
  ·have n1:(0:Int) < n:=of_decide_eq_true hn
   refine ⟨_,rfl,p,_,_,_,rfl,rfl,st,rfl,_,rfl,_,_,rfl,rfl,m0,?_⟩
   refine ⟨_,rfl,p,_,_,_,rfl,rfl,st,rfl,_,rfl,_,_,rfl,rfl,⟨m0,mb⟩,_,rfl,p,_,_,0,rfl,rfl,hp,rfl,?_⟩
   refine ⟨_,rfl,?_⟩
   exact q _ _ (Int.emod_nonneg _ (by omega)) (Int.emod_lt_of_pos _ m0) ⟨_,_,upd_same,Int.ediv_nonneg n0 (by omega),s0,s1⟩ fun b hb=>upd_ne hb
  ·refine ⟨_,rfl,p,_,_,_,rfl,rfl,st,rfl,_,_,rfl,rfl,.inr ⟨by decide,by decide⟩,_,_,rfl,rfl,_,_,rfl,rfl,(by show (0:Int) < 2147483647; decide),_,rfl,p,_,_,1,rfl,rfl,hp,rfl,?_⟩
   have t0:(0:Int)≤(sd * 48271 + 11) % 2147483647:=Int.emod_nonneg _ (by decide)
   have t1:(sd * 48271 + 11) % 2147483647 < 2147483647:=Int.emod_lt_of_pos _ (by decide)
   have st2:SqL K (upd H p (.lst [.int n,.int ((sd * 48271 + 11) % 2147483647)])) p [.int n,.int ((sd * 48271 + 11) % 2147483647)]:=SqL.of upd_same
   refine ⟨_,rfl,p,_,_,_,rfl,rfl,st2,rfl,_,rfl,p,_,_,_,rfl,rfl,st2,rfl,_,_,rfl,rfl,.inl ⟨by show _ < (sd * 48271 + 11) % 2147483647; omega,by show (sd * 48271 + 11) % 2147483647 < _; omega⟩,_,_,rfl,rfl,(by show (0:Int) < 2147483629; decide),_,_,rfl,rfl,⟨by decide,by decide⟩,_,rfl,_,_,rfl,rfl,m0,?_⟩
   exact q _ _ (Int.emod_nonneg _ (by omega)) (Int.emod_lt_of_pos _ m0) ⟨_,_,upd_same,n0,t0,t1⟩ fun b hb=>upd_ne hb
end
end G1
namespace L2
open PySem PySem.Spec PyProof.Rows
def tCut (t:TS):TS:=fun D σ H=>∃J:St→Hp→Prop,t {D with nx:=J} σ H∧∀σ' H',J σ' H'→D.nx σ' H'
theorem ps_cut {X:Cx} {st:Stmt} {t:TS} (h:PS X st t):PS X st (tCut t):=by
 intro pins s σ H D I hw
 obtain ⟨J,h1,h2⟩:=hw
 refine thn (h pins s σ H _ I h1) fun f s1 q=>?_
 cases f with
 | next=>
  obtain ⟨σ',H',I',q⟩:=q
  exact ⟨σ',H',I',h2 σ' H' q⟩
 | ret v=>exact q
 | brk=>exact q
 | cont=>exact q
section
variable {X:Cx} {es:List Expr} {t:TA} {te:TE} {pos:Pos} {l r:List Expr} {k:Nat} {o:Operator} {a b:Expr} {cst:Const} {x:Str} {u:UnaryOp} {kw:List Keyword} {f:Expr}
theorem pac_c (ha:PE X (.Constant cst k pos) te) (hr:PA X es t):PA X (.Constant cst k pos :: es) (tCons te t):=pa_cons ha hr rfl
theorem pac_n (ha:PE X (.Name x pos) te) (hr:PA X es t):PA X (.Name x pos :: es) (tCons te t):=pa_cons ha hr rfl
theorem pac_l (ha:PE X (.List l pos) te) (hr:PA X es t):PA X (.List l pos :: es) (tCons te t):=pa_cons ha hr rfl
theorem pac_t (ha:PE X (.Tuple l k pos) te) (hr:PA X es t):PA X (.Tuple l k pos :: es) (tCons te t):=pa_cons ha hr rfl
theorem pac_b (ha:PE X (.BinOp a o b pos) te) (hr:PA X es t):PA X (.BinOp a o b pos :: es) (tCons te t):=pa_cons ha hr rfl
theorem pac_u (ha:PE X (.UnaryOp u a pos) te) (hr:PA X es t):PA X (.UnaryOp u a pos :: es) (tCons te t):=pa_cons ha hr rfl
theorem pac_f (ha:PE X (.Call f l kw pos) te) (hr:PA X es t):PA X (.Call f l kw pos :: es) (tCons te t):=pa_cons ha hr rfl
theorem pac_s (ha:PE X (.Subscript a b pos) te) (hr:PA X es t):PA X (.Subscript a b pos :: es) (tCons te t):=pa_cons ha hr rfl
end
end L2
namespace G1
open PySem L2 GM
def Ext (p:Addr) (H H':Hp):Prop:=∀b o,b≠p→H b=some o→H' b=some o
theorem Ext.trans {p:Addr} {H H1 H2:Hp} (a:Ext p H H1) (b:Ext p H1 H2):Ext p H H2:=fun c o n h=>b c o n (a c o n h)
theorem Ext.of_eq {p:Addr} {H H':Hp} (h:∀b,b≠p→H' b=H b):Ext p H H':=fun b o n e=>(h b n).trans e
theorem Ext.new {p l:Addr} {H:Hp} {o:HO} (h:H l=none):Ext p H (upd H l o):=fun b u _ e=>by rw [upd_ne (ne_of_none e h)]; exact e
theorem Src.new {H:Hp} {p l:Addr} {o:HO} (s:Src H p) (h:H l=none):Src (upd H l o) p:=by
 obtain ⟨n,d,e,r⟩:=s.ex
 exact ⟨n,d,by rw [upd_ne (ne_of_none e h)]; exact e,r⟩
theorem Src.ne {H:Hp} {p l:Addr} (s:Src H p) (h:H l=none):l≠p:=fun z=>by
 obtain ⟨n,d,e,_⟩:=s.ex
 rw [← z,h] at e; cases e
end G1
namespace L2
open PySem PySem.Spec PyProof.Rows
structure SPE (X:Cx) (e:Expr) (t:TE):Prop where
 out:PE X e t
structure SPT (X:Cx) (e:Expr) (t:TT):Prop where
 out:PT X e t
structure SPW (X:Cx) (e:Expr) (t:TT):Prop where
 out:PW X e t
structure SPA (X:Cx) (es:List Expr) (t:TA):Prop where
 out:PA X es t
structure SPS (X:Cx) (st:Stmt) (t:TS):Prop where
 out:PS X st t
structure SPSs (X:Cx) (st:List Stmt) (t:TS):Prop where
 out:PSs X st t
structure SPG (X:Cx) (e:Expr) (t:TG):Prop where
 out:PG X e t
structure SPGs (X:Cx) (es:List Expr) (t:TGs):Prop where
 out:PGs X es t
structure SPI (X:Cx) (tg e:Expr) (t:TI):Prop where
 out:PI X tg e t
structure SPEX (X:Cx) (e:Expr) (t:TEX):Prop where
 out:PEX X e t
structure SPSX (X:Cx) (st:List Stmt) (t:TSX):Prop where
 out:PSX X st t
structure SPC (X:Cx) (op:CmpOp) (a b:Expr) (t:TE):Prop where
 out:PC X op a b t
structure SPO (X:Cx) (e:Option Expr) (t:TO):Prop where
 out:PO X e t
theorem SPW.pt {X:Cx} {e:Expr} {t:TT} (h:SPW X e t):SPT X e t:=⟨h.out.pt⟩
section
variable {X:Cx}
theorem zpv (i:Nat) {x:Str} {pos:Pos} (hN:X.N[i]? = some x:=by rfl) (hv:Vis X.env.scope x:=by first | exact Or.inl rfl | exact Or.inr (Or.inl rfl) | exact Or.inr (Or.inr rfl)) (hd:(x == ("__debug__" : Str))=false:=by decide) (hcd:(x == ("__classdict__" : Str))=false:=by decide):SPE X (.Name x pos) (tVar i):=⟨pv i hN hv hd hcd⟩
theorem zpe_int {i j pos}:SPE X (.Constant (.int i) j pos) (tC (.int i)):=⟨pe_int ⟩
theorem zpe_bl {b j pos}:SPE X (.Constant (.bool b) j pos) (tC (.bl b)):=⟨pe_bl ⟩
theorem zpe_non {j pos}:SPE X (.Constant .none j pos) (tC .non):=⟨pe_non ⟩
theorem zpe_str {x j pos}:SPE X (.Constant (.str x) j pos) (tC (.str x)):=⟨pe_str ⟩
theorem zpe_glob {x:Str} {v:V} {u:Value} {pos:Pos} (hg:Gl X x) (hm:X.mg x=some u) (r:RelV v u) (hd:(x == ("__debug__" : Str))=false:=by decide):SPE X (.Name x pos) (tC v):=⟨pe_glob hg hm r hd⟩
theorem zpe_bltn {x:Str} {v:V} {u:Value} {pos:Pos} (hg:Gl X x) (hm:X.mg x=none) (hv:bootBuiltins x=some u) (r:RelV v u) (hn:x≠"__name__":=by decide) (hd:(x == ("__debug__" : Str))=false:=by decide):SPE X (.Name x pos) (tC v):=⟨pe_bltn hg hm hv r hn hd⟩
end
section
variable {X:Cx} {a b:Expr} {ta tb:TE} {pos:Pos} {tA tB':TT} {rest:List Expr}
theorem zpe_one {op} {t:TE} (h:SPE X a t):SPE X (.BoolOp op [a] pos) t:=⟨pe_one h.out⟩
theorem zpe_and (ha:SPE X a ta) (hb:SPE X (.BoolOp .And (b :: rest) pos) tb):SPE X (.BoolOp .And (a :: b :: rest) pos) (tAndV ta tb):=⟨pe_and ha.out hb.out⟩
theorem zpe_or (ha:SPE X a ta) (hb:SPE X (.BoolOp .Or (b :: rest) pos) tb):SPE X (.BoolOp .Or (a :: b :: rest) pos) (tOrV ta tb):=⟨pe_or ha.out hb.out⟩
end
section
variable {X:Cx} {a b:Expr} {ta tb:TE} {pos:Pos}
theorem zpc_notN {j pos'} (ha:SPE X a ta):SPC X .IsNot a (.Constant .none j pos') (tNotN ta):=⟨pc_notN ha.out⟩
theorem zpt_cmp {op:CmpOp} {t:TE} (h:SPC X op a b t) (h1:behindInMarks op b=false:=by first | exact nobehind _ (by decide) (by decide) | rfl):SPT X (.Compare a [op] [b] pos) (tB t):=⟨pt_cmp h.out h1⟩
theorem zpt_val {e:Expr} {t:TE} (h:SPE X e t) (he:∀whole,isTrue e X.env whole=(do let v ← whole; standAt e.pos; holding [v] (truthy v)):=by intro _; rfl):SPT X e (tB t):=⟨pt_val h.out he⟩
end
section
variable {X:Cx} {a b:Expr} {ta tb:TE} {pos:Pos} {tA tB':TT} {rest:List Expr}
theorem zpw_and1 (ha:SPT X a tA):SPW X (.BoolOp .And [a] pos) tA:=⟨pw_and1 ha.out⟩
theorem zpw_or1 (ha:SPT X a tA):SPW X (.BoolOp .Or [a] pos) tA:=⟨pw_or1 ha.out⟩
theorem zpw_and (ha:SPT X a tA) (hb:SPW X (.BoolOp .And (b :: rest) pos) tB'):SPW X (.BoolOp .And (a :: b :: rest) pos) (tAnd tA tB'):=⟨pw_and ha.out hb.out⟩
theorem zpw_or (ha:SPT X a tA) (hb:SPW X (.BoolOp .Or (b :: rest) pos) tB'):SPW X (.BoolOp .Or (a :: b :: rest) pos) (tOr tA tB'):=⟨pw_or ha.out hb.out⟩
theorem zpt_not (ha:SPT X a tA):SPT X (.UnaryOp .Not a pos) (tNot tA):=⟨pt_not ha.out⟩
end
section
variable {X:Cx} {st:Stmt} {rest:List Stmt} {t u:TS} {e:Expr} {te:TE} {pos:Pos}
theorem zpss_nil  : SPSs X [] tNext:=⟨pss_nil ⟩
theorem zpss_cons (h1:SPS X st t) (h2:SPSs X rest u):SPSs X (st :: rest) (tSeq t u):=⟨pss_cons h1.out h2.out⟩
theorem zpss_one (h1:SPS X st t):SPSs X [st] t:=⟨pss_one h1.out⟩
theorem zps_expr (he:SPE X e te) (hs:swapsWith e none pos.line X.env=pure false:=by rfl):SPS X (.Expr e pos) (tDrop te):=⟨ps_expr he.out hs⟩
theorem zps_ret (he:SPE X e te):SPS X (.Return (some e) pos) (tRet te):=⟨ps_ret he.out⟩
theorem zps_if {c:Expr} {a b:List Stmt} {tc:TT} (hc:SPT X c tc) (ha:SPSs X a t) (hb:SPSs X b u):SPS X (.If c a b pos) (tIfS tc t u):=⟨ps_if hc.out ha.out hb.out⟩
end
section
variable {X:Cx} {pos:Pos}
theorem zpg_name {i:Nat} {x:Str} (hN:X.N.Nodup) (hi:X.N[i]? = some x) (hx:Loc X.env.scope x) (hf:X.fn x=true∨X.env.scope.names.lookup x=some .local:=by first | exact .inl rfl | exact .inr rfl | assumption):SPG X (.Name x pos) (gName i):=⟨pg_name hN hi hx hf⟩
theorem zpgs_nil  : SPGs X [] gNil:=⟨pgs_nil ⟩
theorem zpgs_cons {e:Expr} {es:List Expr} {t:TG} {u:TGs} (h1:SPG X e t) (h2:SPGs X es u) (hs:(assignEach (e :: es) X.env).map (·.2)=assign e X.env :: (assignEach es X.env).map (·.2):=by rfl):SPGs X (e :: es) (gCons t u):=⟨pgs_cons h1.out h2.out hs⟩
theorem zpg_tup {es:List Expr} {k:Nat} {t:TGs} {n:Nat} (hc:X.calm=true) (h:SPGs X es t) (hn:(assignEach es X.env).length=n:=by rfl) (hst:(assignEach es X.env).findIdx? (·.1)=none:=by rfl):SPG X (.Tuple es k pos) (gTup X.K n t):=⟨pg_tup hc h.out hn hst⟩
theorem zps_asg {tg e:Expr} {te:TE} {g:TG} (he:SPE X e te) (hg:SPG X tg g) (hs:swapsWithSole [tg] e pos.line X.env=pure false:=by rfl) (hw:swappedStores [tg] e X.env=pure none:=by rfl) (h1:(assignEach [tg] X.env).map (·.2)=[assign tg X.env]:=by rfl):SPS X (.Assign [tg] e pos) (tAsg te g):=⟨ps_asg he.out hg.out hs hw h1⟩
theorem zps_set {i:Nat} {x:Str} {e:Expr} {te:TE} {pos':Pos} (hN:X.N.Nodup) (hi:X.N[i]? = some x) (hx:Loc X.env.scope x) (he:SPE X e te) (hs:swapsWith e (some (.Name x pos')) pos.line X.env=pure false:=by rfl) (hf:X.fn x=true∨X.env.scope.names.lookup x=some .local:=by first | exact .inl rfl | exact .inr rfl | assumption):SPS X (.Assign [.Name x pos'] e pos) (tAsg te (gName i)):=⟨ps_set hN hi hx he.out hs hf⟩
theorem zps_par {i j:Nat} {x y:Str} {a b:Expr} {ta:TA} {px py pt:Pos} {kt k2 pt2} (hc:X.calm=true) (hN:X.N.Nodup) (hi:X.N[i]? = some x) (hj:X.N[j]? = some y) (hij:i≠j) (hx:X.env.scope.names.lookup x=some .local) (hy:X.env.scope.names.lookup y=some .local) (ha:SPA X [a,b] ta) (hw:swappedStores [.Tuple [.Name x px,.Name y py] kt pt] (.Tuple [a,b] k2 pt2) X.env=pure (some [x,y])) (hs:swapsWithSole [.Tuple [.Name x px,.Name y py] kt pt] (.Tuple [a,b] k2 pt2) pos.line X.env=pure false:=by rfl):SPS X (.Assign [.Tuple [.Name x px,.Name y py] kt pt] (.Tuple [a,b] k2 pt2) pos) (tPar i j ta):=⟨ps_par hc hN hi hj hij hx hy ha.out hw hs⟩
theorem zps_while {c:Expr} {body:List Stmt} {tc:TT} {tb:TS} (hp:PassesOwn (model X.prog X.w) X.A X.env X.xe) (hc:SPT X c tc) (hb:SPSs X body tb):SPS X (.While c body [] pos) (tWhile tc tb):=⟨ps_while hp hc.out hb.out⟩
end
section
variable {X:Cx} {tg:Expr}
theorem zpi_list {l:Expr} {tl:TE} (hl:SPE X l tl):SPI X tg l (iList X.K tl):=⟨pi_list hl.out⟩
theorem zpi_tup {l:Expr} {tl:TE} (hl:SPE X l tl):SPI X tg l (iTup X.K tl):=⟨pi_tup hl.out⟩
theorem zpi_range1 {a:Expr} {ta:TA} {p pos:Pos} (hg:Gl X "range") (hm:X.mg "range" = none) (ha:SPA X [a] ta) (hs:starEach [a] X.env=[(false,eval a X.env)]:=by rfl):SPI X tg (.Call (.Name "range" p) [a] [] pos) (iRng1 ta):=⟨pi_range1 hg hm ha.out hs⟩
theorem zpi_range2 {a b:Expr} {ta:TA} {p pos:Pos} (hg:Gl X "range") (hm:X.mg "range" = none) (ha:SPA X [a,b] ta) (hs:starEach [a,b] X.env=[(false,eval a X.env),(false,eval b X.env)]:=by rfl) (hs2:starEach [b] X.env=[(false,eval b X.env)]:=by rfl):SPI X tg (.Call (.Name "range" p) [a,b] [] pos) (iRng2 ta):=⟨pi_range2 hg hm ha.out hs hs2⟩
end
section
variable {X:Cx} {es:List Expr} {tk:Nat} {tpos:Pos}
theorem zpi_enum {l:Expr} {ta:TA} {p pos:Pos} (hg:Gl X "enumerate") (hm:X.mg "enumerate" = none) (ha:SPA X [l] ta) (hs:starEach [l] X.env=[(false,eval l X.env)]:=by rfl):SPI X (.Tuple es tk tpos) (.Call (.Name "enumerate" p) [l] [] pos) (iEnum X.K ta):=⟨pi_enum hg hm ha.out hs⟩
end
section
variable {X:Cx} {tg:Expr}
theorem zps_for {iter:Expr} {body:List Stmt} {wi:TI} {g:TG} {tb:TS} {pos:Pos} (hp:PassesOwn (model X.prog X.w) X.A X.env X.xe) (hc:X.calm=true) (hi:SPI X tg iter wi) (hg:SPG X tg g) (hb:SPSs X body tb) (hs:∀x,foldedSetIterable iter X.env x=pure x:=by intro _; rfl):SPS X (.For tg iter body [] pos) (tFor wi g tb):=⟨ps_for hp hc hi.out hg.out hb.out hs⟩
end
section
variable {X:Cx} {a b c:Expr} {ta tb tc:TE} {pos:Pos}
theorem zpe_op {op:Operator} {r:R2} (ho:OpR X (binaryOp op) r) (ha:SPE X a ta) (hb:SPE X b tb):SPE X (.BinOp a op b pos) (tOp r ta tb):=⟨pe_op ho ha.out hb.out⟩
theorem zpe_un {op:UnaryOp} {r:V→Hp→VK→Prop} (ho:UnR X (unaryOp op) r) (ha:SPE X a ta):SPE X (.UnaryOp op a pos) (tUn r ta):=⟨pe_un ho ha.out⟩
theorem zpe_cmpR {op:CmpOp} {r:R2} (ho:OpR X (compareOp op) r) (ha:SPE X a ta) (hb:SPE X b tb) (hm:behindInMarks op b=false):SPE X (.Compare a [op] [b] pos) (tOp r ta tb):=⟨pe_cmpR ho ha.out hb.out hm⟩
theorem zpt_cmpR {op:CmpOp} {r:R2} (ho:OpR X (compareOp op) r) (ha:SPE X a ta) (hb:SPE X b tb) (hm:behindInMarks op b=false):SPT X (.Compare a [op] [b] pos) (tTest (tOp r ta tb)):=⟨pt_cmpR ho ha.out hb.out hm⟩
end
section
variable {X:Cx} {e:Expr} {es:List Expr} {te:TE} {t:TA} {pos:Pos}
theorem zpe_tup {x1} (h:SPA X es t):SPE X (.Tuple es x1 pos) (tTup t):=⟨pe_tup h.out⟩
theorem zpe_lst (h:SPA X es t):SPE X (.List es pos) (tLst t):=⟨pe_lst h.out⟩
end
section
variable {X:Cx} {CX:CXT} {k:Nat} {f C:Addr} {fd:FuncData} {ps:List Str} {sp:Sp} {dvs:List V} {ds:List Value} {E:XK} {x m:Str} {p pos apos:Pos} {e o:Expr} {es:List Expr} {ta:TE} {t:TA}
theorem zpe_call (F:FnOk X.prog X.w X.K X.mg X.base CX k f fd ps sp) (hr:Room k X.A) (hg:Gl X x) (hm:X.mg x=some (.ref f)) (hk:PySem.W.keepIn X.K (.ref f)=true) (hb:Binds X.K fd ps ds) (hd:Vals dvs ds) (hx:Passes CX X E) (ha:SPA X (e :: es) t) (hdb:(x == ("__debug__" : Str))=false:=by decide) (he:starEach (e :: es) X.env=(false,eval e X.env) :: starEach es X.env:=by rfl) (hpl:(backTo pos (starEach es X.env)).any (·.1)=false:=by rfl):SPE X (.Call (.Name x p) (e :: es) [] pos) (tCall sp dvs E t):=⟨pe_call F hr hg hm hk hb hd hx ha.out hdb he hpl⟩
end
section
variable {X:Cx} {x:Str} {p pos:Pos} {e:Expr} {es:List Expr} {t:TA} {id T:String} {r:List V→Hp→VK→Prop}
theorem zpe_callB (hc:CallR X (.builtin id) r) (hg:Gl X x) (hm:X.mg x=none) (hv:bootBuiltins x=some (.builtin id)) (ha:SPA X (e :: es) t) (hn:x≠"__name__":=by decide) (hdb:(x == ("__debug__" : Str))=false:=by decide) (he:starEach (e :: es) X.env=(false,eval e X.env) :: starEach es X.env:=by rfl) (hpl:(backTo pos (starEach es X.env)).any (·.1)=false:=by rfl):SPE X (.Call (.Name x p) (e :: es) [] pos) (tCB r t):=⟨pe_callB hc hg hm hv ha.out hn hdb he hpl⟩
theorem zpe_callTy (hc:CallR X (.type T) r) (hg:Gl X x) (hm:X.mg x=none) (hv:bootBuiltins x=some (.type T)) (ha:SPA X (e :: es) t) (hn:x≠"__name__":=by decide) (hdb:(x == ("__debug__" : Str))=false:=by decide) (he:starEach (e :: es) X.env=(false,eval e X.env) :: starEach es X.env:=by rfl) (hpl:(backTo pos (starEach es X.env)).any (·.1)=false:=by rfl):SPE X (.Call (.Name x p) (e :: es) [] pos) (tCB r t):=⟨pe_callTy hc hg hm hv ha.out hn hdb he hpl⟩
theorem zpe_callTy0 (hc:CallR X (.type T) r) (hg:Gl X x) (hm:X.mg x=none) (hv:bootBuiltins x=some (.type T)) (hn:x≠"__name__":=by decide) (hdb:(x == ("__debug__" : Str))=false:=by decide):SPE X (.Call (.Name x p) [] [] pos) (tCB r tNil):=⟨pe_callTy0 hc hg hm hv hn hdb⟩
end
section
variable {X:Cx} {e:Expr} {te:TE} {lo hi:Option Expr} {tl th:TO} {pos p2:Pos}
theorem zpe_slice {r:V→Option Int→Option Int→Hp→VK→Prop} (hr:SlR X r) (he:SPE X e te) (hl:SPO X lo tl) (hu:SPO X hi th):SPE X (.Subscript e (.Slice lo hi none p2) pos) (tSl r te tl th):=⟨pe_slice hr he.out hl.out hu.out⟩
theorem zpo_none  : SPO X none tNoPart:=⟨po_none ⟩
theorem zpo_some (h:SPE X e te):SPO X (some e) (tPart te):=⟨po_some h.out⟩
end
section
variable {X:Cx} {a b:Expr} {ta tb:TE} {pos:Pos}
theorem zpe_ix {r:R2} (hr:IxR X r) (ha:SPE X a ta) (hb:SPE X b tb) (hs:PlainIx b):SPE X (.Subscript a b pos) (tOp r ta tb):=⟨pe_ix hr ha.out hb.out hs⟩
end
section
variable {X:Cx} {a b:Expr} {ta tb:TE} {pos:Pos} {o e:Expr} {es:List Expr} {to:TE} {t:TA} {name:Str} {apos cpos:Pos} {T id:String} {r:V→List V→Hp→VK→Prop}
theorem zpe_bm (pa:PlainAttrs T) (slot:Slot T name id) (hty:typeOf (.builtin id)=pure (.type "method_descriptor")) (hm:MtR X id r) (ho:SPE X o to) (ha:SPA X (e :: es) t) (hbase:attributeBase o name X.env (eval o X.env)=eval o X.env:=by rfl) (hfew:((backTo cpos (starEach (e :: es) X.env)).all (fun x=>!x.1) && (backToKw cpos (keywordEach [] X.env)).all (fun x=>x.1.isSome)
   && decide ((e :: es).length + ([]:List Keyword).length + (if ([]:List Keyword).isEmpty then 0 else 1) < 30))=true:=by rfl) (hline:(apos.endLine == cpos.line)=true:=by rfl) (hs:starEach (e :: es) X.env=(false,eval e X.env) :: starEach es X.env:=by rfl) (hplain:(backTo cpos (starEach es X.env)).any (·.1)=false:=by rfl):SPE X (.Call (.Attribute o name apos) (e :: es) [] cpos) (tBM X.K T r to t):=⟨pe_bm pa slot hty hm ho.out ha.out hbase hfew hline hs hplain⟩
end
section
variable {X:Cx} {e:Expr} {es:List Expr} {te:TE} {t:TA} {pos:Pos}
theorem zpa_nil  : SPA X [] tNil:=⟨pa_nil ⟩
end
section
end
section
end
section
variable {X:Cx} {k:Nat} {f:Addr} {fd:FuncData} {ps:List Str} {sp:Sp} {dvs:List V} {ds:List Value} {x:Str} {p pos:Pos} {e:Expr} {es:List Expr} {t:TA}
theorem zpex_call (F:FnOk X.prog X.w X.K X.mg X.base (CXE X.prog X.w) k f fd ps sp) (hr:Room k X.A) (hg:Gl X x) (hm:X.mg x=some (.ref f)) (hk:PySem.W.keepIn X.K (.ref f)=true) (hb:Binds X.K fd ps ds) (hd:Vals dvs ds) (ha:SPA X.nox (e :: es) t) (hdb:(x == ("__debug__" : Str))=false:=by decide) (he:starEach (e :: es) X.env=(false,eval e X.env) :: starEach es X.env:=by rfl) (hpl:(backTo pos (starEach es X.env)).any (·.1)=false:=by rfl):SPEX X (.Call (.Name x p) (e :: es) [] pos) (tCallX sp dvs t):=⟨pex_call F hr hg hm hk hb hd ha.out hdb he hpl⟩
theorem zpsx_expr {te:TEX} (he:SPEX X e te) (hs:swapsWith e none pos.line X.env=pure false:=by rfl):SPSX X [.Expr e pos] (fun D E σ H=>te σ H (fun _ H1=>D.nx σ H1) E):=⟨psx_expr he.out hs⟩
end
section
theorem zps_cut {X:Cx} {st:Stmt} {t:TS} (h:SPS X st t):SPS X st (tCut t):=⟨ps_cut h.out⟩
end
section
variable {X:Cx} {es:List Expr} {t:TA} {te:TE} {pos:Pos} {l r:List Expr} {k:Nat} {o:Operator} {a b:Expr} {cst:Const} {x:Str} {u:UnaryOp} {kw:List Keyword} {f:Expr}
theorem zpac_c (ha:SPE X (.Constant cst k pos) te) (hr:SPA X es t):SPA X (.Constant cst k pos :: es) (tCons te t):=⟨pac_c ha.out hr.out⟩
theorem zpac_n (ha:SPE X (.Name x pos) te) (hr:SPA X es t):SPA X (.Name x pos :: es) (tCons te t):=⟨pac_n ha.out hr.out⟩
theorem zpac_l (ha:SPE X (.List l pos) te) (hr:SPA X es t):SPA X (.List l pos :: es) (tCons te t):=⟨pac_l ha.out hr.out⟩
theorem zpac_t (ha:SPE X (.Tuple l k pos) te) (hr:SPA X es t):SPA X (.Tuple l k pos :: es) (tCons te t):=⟨pac_t ha.out hr.out⟩
theorem zpac_b (ha:SPE X (.BinOp a o b pos) te) (hr:SPA X es t):SPA X (.BinOp a o b pos :: es) (tCons te t):=⟨pac_b ha.out hr.out⟩
theorem zpac_u (ha:SPE X (.UnaryOp u a pos) te) (hr:SPA X es t):SPA X (.UnaryOp u a pos :: es) (tCons te t):=⟨pac_u ha.out hr.out⟩
theorem zpac_f (ha:SPE X (.Call f l kw pos) te) (hr:SPA X es t):SPA X (.Call f l kw pos :: es) (tCons te t):=⟨pac_f ha.out hr.out⟩
theorem zpac_s (ha:SPE X (.Subscript a b pos) te) (hr:SPA X es t):SPA X (.Subscript a b pos :: es) (tCons te t):=⟨pac_s ha.out hr.out⟩
end
theorem zps_try_as {X:Cx} {body:List Stmt} {tb:TSX} {th:TS} {d n:Str} {D:Addr} {j:Nat} {b0:Stmt} {suite:List Stmt} {pd hpos pos:Pos} (hb:SPSX X body tb) (hN:X.N.Nodup) (hj:X.N[j]? = some n) (hx:X.env.scope.names.lookup n=some .local)
  (hst:X.stack=X.env :: X.outer) (hL:X.env.frame=some X.env.locals) (hg:Gl X d) (hm:X.mg d=some (.ref D)) (c:CatchK X.K D) (hs:∀e,SPSs (X.held e) (b0 :: suite) th) (hd:(d == ("__debug__" : Str))=false:=by decide) :
  SPS X (.Try body [.ExceptHandler (some (.Name d pd)) (some n) (b0 :: suite) hpos] [] [] pos) (tTryAs X.K D j tb th):=⟨ps_try_as hb.out hN hj hx hst hL hg hm c (fun e=>(hs e).out) hd⟩
structure SPTs (X:Cx) (ifs:List Expr) (t:TT):Prop where
 out:PTs X ifs t
theorem zpts_nil {X:Cx}:SPTs X [] (fun _ H Q=>Q true H):=⟨pts_nil⟩
theorem zpts_one {X:Cx} {e:Expr} {t:TT} (h:SPT X e t):SPTs X [e] t:=⟨pts_one h.out⟩
section
variable {X:Cx} {tg iter elt:Expr} {ifs:List Expr} {scope esc:Scope} {pos gpos p:Pos} {N os:List Str} {fi:List Nat} {wi:TI} {g:TG} {tt:TT} {te:TE} {c P:Addr} {k:Nat}
theorem zpi_str {l:Expr} {tl:TE} (hl:SPE X l tl):SPI X tg l (iStr tl):=⟨pi_str hl.out⟩
theorem zpe_comp (N os:List Str) (fi:List Nat) (esc:Scope) (hc:X.calm=true) (hN:X.N=N) (he:X.env.scope=esc) (B:BlkOk esc scope N fi) (hi:SPI X tg iter wi)
  (hg:∀s H fp,SPG (blk X scope (nB N os fi) s H fp) tg g) (ht:∀s H fp,SPTs (blk X scope (nB N os fi) s H fp) ifs tt) (hel:∀s H fp,SPE (blk X scope (nB N os fi) s H fp) elt te)
  (hs:∀x,foldedSetIterable iter X.env x=pure x:=by intro _; rfl):SPE X (.ListComp elt [⟨tg,iter,ifs,0⟩] scope pos) (tLC os fi wi g tt te):=
 ⟨pe_comp hc hN he B hi.out (fun s H fp=>(hg s H fp).out) (fun s H fp=>(ht s H fp).out) (fun s H fp=>(hel s H fp).out) hs⟩
theorem zpe_all (N os:List Str) (fi:List Nat) (esc:Scope) (hc:X.calm=true) (hr:Room k X.A) (hgl:Gl X "all") (hm:X.mg "all" = none) (hcd:X.env.code = .ref c) (CK:CodeK X.K c P) (BM:BmK X) (hN:X.N=N) (he:X.env.scope=esc) (B:BlkOk esc scope N fi) (hco:scope.isCoroutine=false) (h0:scope.names.lookup (".0" : Str)=some NameKind.local) (hi:SPI X tg iter wi)
  (hg:∀code s H fp,SPG (gblk X scope (nB N os fi) code s H fp) tg g) (hel:∀code s H fp,SPE (gblk X scope (nB N os fi) code s H fp) elt te)
  (hs:∀x,genFold iter X.env x=pure x:=by intro _; rfl):SPE X (.Call (.Name "all" p) [.GeneratorExp elt [⟨tg,iter,[],0⟩] scope gpos] [] pos) (tAll P os fi wi g te):=
 ⟨pe_all hc hr hgl hm hcd CK BM hN he B hco h0 hi.out (fun code s H fp=>(hg code s H fp).out) (fun code s H fp=>(hel code s H fp).out) hs⟩
end
section
variable {X:Cx} {elt tg iter tg2 iter2:Expr} {ifs ifs2:List Expr} {scope esc:Scope} {pos p:Pos} {N os:List Str} {fi:List Nat} {wi wi2:TI} {g g2:TG} {tt tt2:TT} {te:TE}
theorem zpe_comp2 (N os:List Str) (fi:List Nat) (esc:Scope) (hc:X.calm=true) (hN:X.N=N) (he:X.env.scope=esc) (B:BlkOk esc scope N fi) (hi:SPI X tg iter wi)
  (hg:∀s H fp,SPG (blk X scope (nB N os fi) s H fp) tg g) (ht:∀s H fp,SPTs (blk X scope (nB N os fi) s H fp) ifs tt)
  (hi2:∀s H fp,SPI (blk X scope (nB N os fi) s H fp) tg2 iter2 wi2) (hg2:∀s H fp,SPG (blk X scope (nB N os fi) s H fp) tg2 g2) (ht2:∀s H fp,SPTs (blk X scope (nB N os fi) s H fp) ifs2 tt2)
  (hel:∀s H fp,SPE (blk X scope (nB N os fi) s H fp) elt te)
  (hs:∀x,foldedSetIterable iter X.env x=pure x:=by intro _; rfl) (hs2:∀env x,foldedSetIterable iter2 env x=pure x:=by intro _ _; rfl) :
  SPE X (.ListComp elt [⟨tg,iter,ifs,0⟩,⟨tg2,iter2,ifs2,0⟩] scope pos) (tCG (fun _=>.lst []) os fi wi g tt fun D=>tIn wi2 g2 tt2 (tEmL D te)):=
 ⟨pe_comp2 hc hN he B hi.out (fun s H fp=>(hg s H fp).out) (fun s H fp=>(ht s H fp).out) (fun s H fp=>(hi2 s H fp).out) (fun s H fp=>(hg2 s H fp).out) (fun s H fp=>(ht2 s H fp).out) (fun s H fp=>(hel s H fp).out) hs hs2⟩
theorem zpe_setcomp (N os:List Str) (fi:List Nat) (esc:Scope) (hc:X.calm=true) (hN:X.N=N) (he:X.env.scope=esc) (B:BlkOk esc scope N fi) (hi:SPI X tg iter wi)
  (hg:∀s H fp,SPG (blk X scope (nB N os fi) s H fp) tg g) (ht:∀s H fp,SPTs (blk X scope (nB N os fi) s H fp) ifs tt)
  (hel:∀s H fp,SPE (blk X scope (nB N os fi) s H fp) elt te)
  (hs:∀x,foldedSetIterable iter X.env x=pure x:=by intro _; rfl) :
  SPE X (.SetComp elt [⟨tg,iter,ifs,0⟩] scope pos) (tCG (fun a=>SetT X.prog X.w a []) os fi wi g tt fun D=>tEmS X.prog X.w D te):=
 ⟨pe_setcomp hc hN he B hi.out (fun s H fp=>(hg s H fp).out) (fun s H fp=>(ht s H fp).out) (fun s H fp=>(hel s H fp).out) hs⟩
theorem zpe_rev {e:Expr} {te:TE} {k:Nat} {p1 p2 p3 pos:Pos} (he:SPE X e te):SPE X (.Subscript e (.Slice none none (some (.UnaryOp .USub (.Constant (.int 1) k p1) p3)) p2) pos) (tRev X.K te):=⟨pe_rev he.out⟩
theorem zpe_setadd {o e:Expr} {to:TE} {t:TA} {apos cpos:Pos} (ho:SPE X o to) (ha:SPA X [e] t)
  (hbase:attributeBase o "add" X.env (eval o X.env)=eval o X.env:=by rfl)
  (hfew:((backTo cpos (starEach [e] X.env)).all (fun x=>!x.1) && (backToKw cpos (keywordEach [] X.env)).all (fun x=>x.1.isSome)
   && decide ([e].length + ([]:List Keyword).length + (if ([]:List Keyword).isEmpty then 0 else 1) < 30))=true:=by rfl)
  (hline:(apos.endLine == cpos.line)=true:=by rfl) (hs:starEach [e] X.env=(false,eval e X.env) :: starEach [] X.env:=by rfl) (hplain:(backTo cpos (starEach [] X.env)).any (·.1)=false:=by rfl) :
  SPE X (.Call (.Attribute o "add" apos) [e] [] cpos) (tAddS X.prog X.w to t):=⟨pe_setadd ho.out ha.out hbase hfew hline hs hplain⟩
theorem zpss_never {sts:List Stmt}:SPSs X sts tNever:=⟨pss_never⟩
theorem pac_x {e:Expr} {te:TE} {es:List Expr} {t:TA} (ha:PE X e te) (hr:PA X es t) (hs:starEach (e :: es) X.env=(false,eval e X.env) :: starEach es X.env:=by rfl):PA X (e :: es) (tCons te t):=pa_cons ha hr hs
theorem zpac_x {e:Expr} {te:TE} {es:List Expr} {t:TA} (ha:SPE X e te) (hr:SPA X es t) (hs:starEach (e :: es) X.env=(false,eval e X.env) :: starEach es X.env:=by rfl):SPA X (e :: es) (tCons te t):=⟨pac_x ha.out hr.out hs⟩
end
theorem zpg_tupK {X:Cx} {es:List Expr} {k:Nat} {pos:Pos} {t:TGs} (K:PySem.W.Frag) (n:Nat) (hK:X.K=K) (hc:X.calm=true) (h:SPGs X es t) (hn:(assignEach es X.env).length=n:=by rfl) (hst:(assignEach es X.env).findIdx? (·.1)=none:=by rfl):SPG X (.Tuple es k pos) (gTup K n t):=hK ▸ zpg_tup hc h hn hst
section
variable {X:Cx} {kx vx tg iter:Expr} {ifs:List Expr} {scope esc:Scope} {pos p:Pos} {N os:List Str} {fi:List Nat} {wi:TI} {g:TG} {tt:TT} {tk tv:TE}
theorem zpe_dictcomp (N os:List Str) (fi:List Nat) (esc:Scope) (hc:X.calm=true) (hN:X.N=N) (he:X.env.scope=esc) (B:BlkOk esc scope N fi) (hi:SPI X tg iter wi)
  (hg:∀s H fp,SPG (blk X scope (nB N os fi) s H fp) tg g) (ht:∀s H fp,SPTs (blk X scope (nB N os fi) s H fp) ifs tt)
  (hk:∀s H fp,SPE (blk X scope (nB N os fi) s H fp) kx tk) (hv:∀s H fp,SPE (blk X scope (nB N os fi) s H fp) vx tv)
  (hs:∀x,foldedSetIterable iter X.env x=pure x:=by intro _; rfl) :
  SPE X (.DictComp kx vx [⟨tg,iter,ifs,0⟩] scope pos) (tCG (fun _=>.dK []) os fi wi g tt fun D=>tEmD D tk tv):=
 ⟨pe_dictcomp hc hN he B hi.out (fun s H fp=>(hg s H fp).out) (fun s H fp=>(ht s H fp).out) (fun s H fp=>(hk s H fp).out) (fun s H fp=>(hv s H fp).out) hs⟩
theorem zpe_dget {o i:Expr} {td ty:TE} (hu:X.A.units + 1 < cLine) (ho:SPE X o td) (hi:SPE X i ty) (hs:NoSl i):SPE X (.Subscript o i pos) (tDGet td ty):=⟨pe_dget hu ho.out hi.out hs⟩
end
theorem Room.units1 {k:Nat} {A:Around} (r:Room k A):A.units + 1 < cLine:=by have:=r.un; omega
section
variable {X:Cx} {elt kx vx tg iter tg2 iter2:Expr} {ifs ifs2:List Expr} {scope esc:Scope} {pos p:Pos} {N os:List Str} {fi:List Nat} {wi wi2:TI} {g g2:TG} {tt tt2:TT} {te tk tv:TE}
theorem zpe_compL (N os:List Str) (fi:List Nat) (esc:Scope) (hc:X.calm=true) (hN:X.N=N) (he:X.env.scope=esc) (B:BlkOk esc scope N fi) (hi:SPI X tg iter wi)
  (hg:∀s H fp,SPG (blk X scope (nB N os fi) s H fp) tg g) (ht:∀s H fp,SPTs (blk X scope (nB N os fi) s H fp) ifs tt) (hel:∀s H fp,SPE (blk X scope (nB N os fi) s H fp) elt te)
  (hs:∀x,foldedSetIterable iter X.env x=pure x:=by intro _; rfl):SPE X (.ListComp elt [⟨tg,iter,ifs,0⟩] scope pos) (tCG (fun _=>.lst []) os fi wi g tt fun D=>tEmL D te):=
 ⟨pe_compL hc hN he B hi.out (fun s H fp=>(hg s H fp).out) (fun s H fp=>(ht s H fp).out) (fun s H fp=>(hel s H fp).out) hs⟩
theorem zps_compL (N os:List Str) (fi:List Nat) (esc:Scope) {i:Nat} {y:Str} {py spos:Pos} (hc:X.calm=true) (hN:X.N=N) (he:X.env.scope=esc) (B:BlkOk esc scope N fi) (hnd:X.N.Nodup) (hy:X.N[i]? = some y) (hl:Loc X.env.scope y) (hi:SPI X tg iter wi)
  (hg:∀s H fp,SPG (blk X scope (nB N os fi) s H fp) tg g) (ht:∀s H fp,SPTs (blk X scope (nB N os fi) s H fp) ifs tt) (hel:∀s H fp,SPE (blk X scope (nB N os fi) s H fp) elt te)
  (hsw:swapsWith (.ListComp elt [⟨tg,iter,ifs,0⟩] scope pos) (some (.Name y py)) spos.line X.env=pure true:=by rfl)
  (hfn:X.fn y=true∨X.env.scope.names.lookup y=some .local:=by first | exact .inl rfl | exact .inr rfl | assumption)
  (hs:∀x,foldedSetIterable iter X.env x=pure x:=by intro _; rfl):SPS X (.Assign [.Name y py] (.ListComp elt [⟨tg,iter,ifs,0⟩] scope pos) spos) (fun D σ H=>tCG (fun _=>.lst []) os fi wi g tt (fun D=>tEmL D te) σ H fun v H'=>D.nx (σ.set i (some v)) H'):=
 ⟨ps_compL hc hN he B hnd hy hl hi.out (fun s H fp=>(hg s H fp).out) (fun s H fp=>(ht s H fp).out) (fun s H fp=>(hel s H fp).out) hsw hfn hs⟩
end
theorem zpe_step {X:Cx} {e st:Expr} {te ts:TE} {p2 pos:Pos} (he:SPE X e te) (hs:SPE X st ts):SPE X (.Subscript e (.Slice none none (some st) p2) pos) (tStep X.K te ts):=⟨pe_step he.out hs.out⟩
theorem zpi_keys {X:Cx} {tg l:Expr} {tl:TE} (hl:SPE X l tl):SPI X tg l (iKeys tl):=⟨pi_keys hl.out⟩
theorem zps_raiseI {P:Program} {w:World} {K:PySem.W.Frag} {mg:Str→Option Value} {base:Heap} {N:List Str} {qual:Str} {scope:Scope} {f:Addr} {cd:Value} {A:Around} {outer:List Env} {s:Shared} {H:Hp} {E:XK}
  {x Xn:Str} {C fI:Addr} {e0:Expr} {t:TA} {k:Nat} {np cpos pos:Pos} (hA:Room (k + 1) (cxOf (CXE P w) P w K mg base N qual scope f cd A outer s H E).A)
  (hg:Gl (cxOf (CXE P w) P w K mg base N qual scope f cd A outer s H E) x) (hm:mg x=some (.ref C)) (q:InitK P w K mg C fI Xn) (ha:SPA (cxOf (CXE P w) P w K mg base N qual scope f cd A outer s H E) [e0] t) (hd:(x == ("__debug__" : Str))=false:=by decide)
  (he:starEach [e0] (cxOf (CXE P w) P w K mg base N qual scope f cd A outer s H E).env=[(false,eval e0 (cxOf (CXE P w) P w K mg base N qual scope f cd A outer s H E).env)]:=by rfl) :
  SPS (cxOf (CXE P w) P w K mg base N qual scope f cd A outer s H E) (.Raise (some (.Call (.Name x np) [e0] [] cpos)) none pos) (tRaiseI C Xn E t):=⟨ps_raiseI hA rfl hg hm q ha.out hd he⟩
section
variable {P:Program} {w:World} {K:PySem.W.Frag} {mg:Str→Option Value} {base:Heap} {x qual:Str} {st:Stmt} {dV:Value} {f:Addr} {fd:FuncData} {N ps:List Str} {k:Nat} {sp:Sp}
theorem FunG.zokE (F:FunG K x qual st dV f fd) (S:FnScope N ps (defScope st)) (len:∀vs H Q E,sp vs H Q E→vs.length=ps.length)
  (hbody:∀(cdv:Value) (A:Around) (outer:List Env) (s:Shared) (H:Hp) (vs:List V) (Q:VK) (E:XK),Room k (A.deeper (envOfC qual (defScope st) s.heap.objs.size f cdv))→sp vs H Q E→
   ∃t,SPSs (cxOf (CXE P w) P w K mg base N qual (defScope st) f cdv A outer s H E) (defBody st) t∧t {nx:=fun _ H'=>Q .non H',rt:=Q} (start N vs) H):FnOk P w K mg base (CXE P w) (k + 1) f fd ps sp:=
 F.okE S len fun cdv A outer s H vs Q E hr hsp=>by
  obtain ⟨t,h,q⟩:=hbody cdv A outer s H vs Q E hr hsp
  exact ⟨t,h.out,q⟩
theorem FunG.zokN (F:FunG K x qual st dV f fd) (S:FnScope N ps (defScope st)) (len:∀vs H Q E,sp vs H Q E→vs.length=ps.length)
  (hbody:∀(cdv:Value) (A:Around) (outer:List Env) (s:Shared) (H:Hp) (vs:List V) (Q:VK) (E:XK),Room k (A.deeper (envOfC qual (defScope st) s.heap.objs.size f cdv))→sp vs H Q E→
   ∃t,SPSs (cxOf (CXE P w) P w K mg base N qual (defScope st) f cdv A outer s H E).nox (defBody st) t∧t {nx:=fun _ H'=>Q .non H',rt:=Q} (start N vs) H):FnOk P w K mg base (CXE P w) (k + 1) f fd ps sp:=
 F.okN S len fun cdv A outer s H vs Q E hr hsp=>by
  obtain ⟨t,h,q⟩:=hbody cdv A outer s H vs Q E hr hsp
  exact ⟨t,h.out,q⟩
end
section
variable {P:Program} {w:World} {K:PySem.W.Frag} {mg:Str→Option Value} {base:Heap} {x qual:Str} {st:Stmt} {dV kV doc pm ct oc:Value} {an od:Option Addr} {osl:Array (Option Value)} {f c:Addr} {N ps:List Str} {k:Nat} {sp:Sp}
theorem okC (lk:K.lookup f=some ⟨oc,od,.func (PySem.W.fnOf x qual (defArgs st) (defBody st) (defScope st) dV kV doc pm an (.ref c) ct),osl⟩) (hcd:PySem.W.codeIn K (.ref c) qual=true) (S:FnScope N ps (defScope st)) (len:∀vs H Q E,sp vs H Q E→vs.length=ps.length)
  (hbody:∀(A:Around) (outer:List Env) (s:Shared) (H:Hp) (vs:List V) (Q:VK) (E:XK),Room k (A.deeper (envOfC qual (defScope st) s.heap.objs.size f (.ref c)))→sp vs H Q E→
   ∃t,SPSs (cxOf (CXE P w) P w K mg base N qual (defScope st) f (.ref c) A outer s H E).nox (defBody st) t∧t {nx:=fun _ H'=>Q .non H',rt:=Q} (start N vs) H) :
  FnOk P w K mg base (CXE P w) (k + 1) f (PySem.W.fnOf x qual (defArgs st) (defBody st) (defScope st) dV kV doc pm an (.ref c) ct) ps sp:=
 fn_of lk hcd S len fun A outer s H vs Q E hr h=>by
  obtain ⟨t,h1,h2⟩:=hbody A outer s H vs Q E hr h
  exact ⟨t,h1.out.nox,h2⟩
end
theorem boot_str:bootBuiltins "str" = some (.type "str"):=by decide +kernel
end L2
namespace G1
open PySem L2 GM
def letters:Str:="abcdefghijklmnopqrstuvwxyz"
def occ (c:Nat):Bool:=!(Builtin.Str.occurrences letters ⟨#[c]⟩ 0 letters.length 1).isEmpty
def nameB:V→Bool
 | .str z=>decide (z≠"") && (decide (z.length≤8) && z.cps.toList.all occ)
 | _=>false
def isS:V→Bool
 | .str _=>true
 | _=>false
section
variable {P:Program} {w:World} {K:PySem.W.Frag} {mg:Str→Option Value} {base:Heap}
theorem ks1:PySem.W.kitOne K (.type "int") (.type "str")=some false:=by kernel_rfl
theorem ks2:PySem.W.kitOne K (.type "bool") (.type "str")=some false:=by kernel_rfl
theorem ks3:PySem.W.kitOne K (.type "NoneType") (.type "str")=some false:=by kernel_rfl
theorem ks4:PySem.W.kitOne K (.type "str") (.type "str")=some true:=by kernel_rfl
theorem ks5:PySem.W.kitOne K (.type "list") (.type "str")=some false:=by kernel_rfl
theorem ks6:PySem.W.kitOne K (.type "tuple") (.type "str")=some false:=by kernel_rfl
theorem ks7:PySem.W.kitOne K (.type "dict") (.type "str")=some false:=by kernel_rfl
theorem _root_.L2.Th.tyS {H:Hp} {x:V} (h:Th H x):∃t,TyX K H x t∧PySem.W.kitOne K t (.type "str")=some (isS x):=by
 cases h with
 | non=>exact ⟨_,.of .non,ks3⟩
 | bl b=>exact ⟨_,.of (.bl b),ks2⟩
 | int i=>exact ⟨_,.of (.int i),ks1⟩
 | str x=>exact ⟨_,.of (.str x),ks4⟩
 | lst h=>exact ⟨_,.of (.lst h),ks5⟩
 | tup h=>exact ⟨_,.of (.tup h),ks6⟩
 | dK h=>exact ⟨_,.of (.dK h),ks7⟩
def spName (T:Addr):Sp:=fun vs H Q _=>∃x ps,vs=[x]∧Th H x∧(∀z,x = .str z→z.length≤sizeLine)∧H T=some (.tbl ps)∧TriplesOk ps.toList∧∀ps',TriplesOk ps'.toList→Q (.bl (nameB x)) (upd H T (.tbl ps'))
theorem scN:FnScope ["thing"] ["thing"] (defScope sName):=⟨rfl,rfl,rfl,by decide +kernel,rfl,by decide +kernel,by decide +kernel⟩
theorem ok_name {f c T:Addr} {kV doc pm ct oc:Value} {an od:Option Addr} {osl:Array (Option Value)} {t1 t2:Tok}
  (lk:K.lookup f=some ⟨oc,od,.func (PySem.W.fnOf "is_name" "is_name" (defArgs sName) (defBody sName) (defScope sName) .none kV doc pm an (.ref c) ct),osl⟩) (hcd:PySem.W.codeIn K (.ref c) "is_name" = true)
  (B:Bl mg) (CK:CodeK K c T) (hbm:BmOf mg base) (mL:mg "LETTERS" = some (.str letters t1)) (mM:mg "LONGEST_NAME" = some (.int 8 t2)) :
  FnOk P w K mg base (CXE P w) 2 f (PySem.W.fnOf "is_name" "is_name" (defArgs sName) (defBody sName) (defScope sName) .none kV doc pm an (.ref c) ct) ["thing"] (spName T):=by
 refine okC lk hcd scN (fun vs H Q E h=>?_) (fun A outer s H vs Q E hr h=>?_)
 ·obtain ⟨x,ps,rfl,_⟩:=h
  rfl
 ·obtain ⟨x,ps,rfl,hx,len,hT,tr,q⟩:=h
  refine ⟨_,zpss_cons (zps_if (zpw_or (zpt_not (zpt_val (zpe_callB call_isi (by rfl) B.isi boot_isi (zpac_n (zpv 0) (zpac_n (zpe_bltn (by rfl) B.str boot_str (v:=.ty "str") rfl) zpa_nil)))))
    (zpw_or (zpt_cmpR op_eq (zpv 0) zpe_str (nomark _)) (zpw_or1 (zpt_cmpR op_gt (zpe_callB call_len_str (by rfl) B.len PySem.boot_len (zpac_n (zpv 0) zpa_nil)) (zpe_glob (by rfl) mM (v:=.int 8) ⟨_,rfl⟩) (nomark _))))).pt (zpss_one (zps_ret zpe_bl)) zpss_nil)
   (zpss_one (zps_ret (zpe_all ["thing"] ["sign"] [] (defScope sName) rfl hr (by rfl) B.all rfl CK ⟨hbm⟩ rfl rfl ⟨by decide +kernel,by decide +kernel,by decide +kernel,by decide +kernel,by decide +kernel⟩ (by decide +kernel) (by decide +kernel) (zpi_str (zpv 0))
    (fun code s H fp=>zpg_name (i:=0) (show List.Nodup [("sign" : Str)] by decide +kernel) rfl (Or.inl rfl)) (fun code s H fp=>zpe_cmpR op_in_str (zpv 0) (zpe_glob (by rfl) mL (v:=.str letters) ⟨_,rfl⟩) rfl)))),?_⟩
  obtain ⟨t,ty,e1⟩:=hx.tyS (K:=K)
  refine ⟨_,rfl,_,_,t,isS x,rfl,ty,.inl ⟨_,rfl,e1⟩,_,rfl,?_⟩
  have self:∀{b:Bool},nameB x=b→Q (.bl b) H:=fun {b} e=>by
   have:=q ps tr
   rw [upd_self hT,e] at this
   exact this
  cases x with
  | str z=>
   refine iteF ⟨_,rfl,rfl,_,rfl,?_⟩
   refine ite2 (fun e=>?_) (fun e=>?_)
   ·have e':V.str z=V.str "":=of_decide_eq_true e
    injection e' with e'
    refine iteT (self ?_)
    simp [nameB,e']
   ·have ne:z≠"":=fun y=>e (decide_eq_true (by rw [y]))
    refine ⟨_,rfl,z,rfl,len z rfl,_,_,rfl,rfl,_,rfl,?_⟩
    refine ite2 (fun e8=>?_) (fun e8=>?_)
    ·have g8:(8:Int) < (z.length:Int):=of_decide_eq_true e8
     refine self ?_
     have:decide (z.length≤8)=false:=decide_eq_false (by omega)
     simp [nameB,this]
    ·have l8:z.length≤8:=by
      have:¬(8:Int) < (z.length:Int):=fun y=>e8 (decide_eq_true y)
      omega
     refine ⟨_,rfl,z,rfl,ps,hT,tr,fun ps' tr'=>?_⟩
     refine ⟨fun i m σ2 H2=>H2=upd H T (.tbl ps')∧i≤z.cps.size∧m=z.cps.size - i∧(∃v,σ2=[v])∧(∀j c,j < i→z.cps[j]? = some c→occ c=true),⟨_,rfl,Nat.zero_le _,rfl,⟨_,rfl⟩,fun j c hj=>absurd hj (Nat.not_lt_zero _)⟩,?_⟩
     rintro i m σ2 H2 ⟨rfl,hi,rfl,⟨v,rfl⟩,ok⟩
     by_cases hlt:i < z.cps.size
     ·refine .inr ⟨hlt,?_⟩
      rintro y H3 ⟨rfl,c,hc,rfl⟩
      refine ⟨_,rfl,⟨#[c]⟩,letters,rfl,rfl,_,rfl,?_⟩
      cases ho:occ c with
      | true=>
       rw [if_pos (show (!(Builtin.Str.occurrences letters ⟨#[c]⟩ 0 letters.length 1).isEmpty)=true from ho)]
       refine ⟨z.cps.size - (i + 1),by omega,rfl,hlt,rfl,⟨_,rfl⟩,fun j d hj hd=>?_⟩
       rcases Nat.lt_or_ge j i with h | h
       ·exact ok j d h hd
       ·have e:j=i:=by omega
        subst e
        rw [hc] at hd; cases hd
        exact ho
      | false=>
       rw [if_neg (by rw [show (!(Builtin.Str.occurrences letters ⟨#[c]⟩ 0 letters.length 1).isEmpty)=false from ho]; decide)]
       have e:nameB (.str z)=false:=by
        have a:z.cps.toList.all occ=false:=by
         rw [List.all_eq_false]
         exact ⟨c,by
          have:z.cps.toList[i]? = some c:=by simpa using hc
          exact List.mem_of_getElem? this,by rw [ho]; decide⟩
        simp [nameB,a]
       rw [← e,← show (!(Builtin.Str.occurrences letters ⟨#[c]⟩ 0 letters.length 1).isEmpty)=nameB (.str z) from by rw [e]; exact ho]
       have:=q ps' tr'
       rw [e] at this
       rw [show (!(Builtin.Str.occurrences letters ⟨#[c]⟩ 0 letters.length 1).isEmpty)=false from ho]
       exact this
     ·have e:i=z.cps.size:=by omega
      subst e
      refine .inl ⟨rfl,?_⟩
      have a:z.cps.toList.all occ=true:=by
       rw [List.all_eq_true]
       intro c hc
       obtain ⟨j,hj⟩:=List.getElem?_of_mem hc
       have hj':z.cps[j]? = some c:=by simpa using hj
       exact ok j c (Array.getElem?_eq_some_iff.mp hj').1 hj'
      have n1:nameB (.str z)=true:=by
       simp [nameB,ne,l8]
       simpa using a
      have:=q ps' tr'
      rw [n1] at this
      exact this
  | _=>exact iteT (self rfl)
end
def FrP (H:Hp) (x:V):Prop:=∃a n d,x = .ref a∧H a=some (.tup [.int n,.int d])∧0 < d∧Nat.gcd n.natAbs d.natAbs=1
noncomputable def frB (H:Hp) (x:V):Bool:=@decide (FrP H x) (Classical.propDecidable _)
theorem frB_t {H:Hp} {x:V} (h:FrP H x):frB H x=true:=by unfold frB; exact @decide_eq_true _ (Classical.propDecidable _) h
theorem frB_f {H:Hp} {x:V} (h:¬FrP H x):frB H x=false:=by unfold frB; exact @decide_eq_false _ (Classical.propDecidable _) h
structure ThD (H:Hp) (x:V):Prop where
 th:Th H x
 parts:∀a xs,x = .ref a→H a=some (.tup xs)→∀y∈xs,Th H y
 few:∀a n d,x = .ref a→H a=some (.tup [.int n,.int d])→d.natAbs < big
 str:∀z,x = .str z→z.length≤sizeLine
section
variable {P:Program} {w:World} {K:PySem.W.Frag} {mg:Str→Option Value} {base:Heap}
theorem kq1:PySem.W.kitOne K (.type "int") (.type "tuple")=some false:=by kernel_rfl
theorem kq2:PySem.W.kitOne K (.type "bool") (.type "tuple")=some false:=by kernel_rfl
theorem kq3:PySem.W.kitOne K (.type "NoneType") (.type "tuple")=some false:=by kernel_rfl
theorem kq4:PySem.W.kitOne K (.type "str") (.type "tuple")=some false:=by kernel_rfl
theorem kq5:PySem.W.kitOne K (.type "list") (.type "tuple")=some false:=by kernel_rfl
theorem kq7:PySem.W.kitOne K (.type "dict") (.type "tuple")=some false:=by kernel_rfl
theorem _root_.L2.Th.tyT {H:Hp} {x:V} (h:Th H x):∃t b,TyX K H x t∧PySem.W.kitOne K t (.type "tuple")=some b∧((b=true∧∃a xs,x = .ref a∧H a=some (.tup xs))∨(b=false∧∀a xs,x = .ref a→H a≠some (.tup xs))):=by
 cases h with
 | non=>exact ⟨_,_,.of .non,kq3,.inr ⟨rfl,nofun⟩⟩
 | bl b=>exact ⟨_,_,.of (.bl b),kq2,.inr ⟨rfl,nofun⟩⟩
 | int i=>exact ⟨_,_,.of (.int i),kq1,.inr ⟨rfl,nofun⟩⟩
 | str x=>exact ⟨_,_,.of (.str x),kq4,.inr ⟨rfl,nofun⟩⟩
 | lst h=>exact ⟨_,_,.of (.lst h),kq5,.inr ⟨rfl,fun a xs e z=>by cases e; rw [h] at z; cases z⟩⟩
 | tup h=>exact ⟨_,_,.of (.tup h),kt1,.inl ⟨rfl,_,_,rfl,h⟩⟩
 | dK h=>exact ⟨_,_,.of (.dK h),kq7,.inr ⟨rfl,fun a xs e z=>by cases e; rw [h] at z; cases z⟩⟩
def spIsF:Sp:=fun vs H Q _=>∃x,vs=[x]∧ThD H x∧Q (.bl (frB H x)) H
theorem scIF:FnScope ["thing","top","bottom"] ["thing"] (defScope sIsF):=⟨rfl,rfl,rfl,by decide +kernel,rfl,by decide +kernel,by decide +kernel⟩
theorem two_of {xs:List V} (h:xs.length=2):∃y z,xs=[y,z]:=by
 match xs,h with
 | [y,z],_=>exact ⟨y,z,rfl⟩
theorem ok_isF {f fW fG:Addr} {fd fdW fdG:FuncData} (F:FunG K "is_fraction" "is_fraction" sIsF .none f fd) (B:Bl mg)
  (GW:FnOk P w K mg base (CXE P w) 1 fW fdW ["thing"] spWhole) (mW:mg "is_whole" = some (.ref fW)) (kW:PySem.W.keepIn K (.ref fW)=true) (bW:Binds K fdW ["thing"] [])
  (GG:FnOk P w K mg base (CXE P w) 1 fG fdG ["one","other"] spGcd) (mG:mg "common_divisor" = some (.ref fG)) (kG:PySem.W.keepIn K (.ref fG)=true) (bG:Binds K fdG ["one","other"] []) :
  FnOk P w K mg base (CXE P w) 2 f fd ["thing"] spIsF:=by
 refine F.zokN scIF (fun vs H Q E h=>?_) (fun cdv A outer s H vs Q E hr h=>?_)
 ·obtain ⟨x,rfl,_⟩:=h
  rfl
 ·obtain ⟨x,rfl,hx,q⟩:=h
  refine ⟨_,zpss_cons (zps_if (zpw_or (zpt_not (zpt_val (zpe_callB call_isi (by rfl) B.isi boot_isi (zpac_n (zpv 0) (zpac_n (zpe_bltn (by rfl) B.tuple boot_tuple (v:=.ty "tuple") rfl) zpa_nil)))))
    (zpw_or1 (zpt_cmpR op_ne (zpe_callB call_len_seq (by rfl) B.len PySem.boot_len (zpac_n (zpv 0) zpa_nil)) zpe_int (nomark _)))).pt (zpss_one (zps_ret zpe_bl)) zpss_nil)
   (zpss_cons (zps_asg (zpv 0) (zpg_tup rfl (zpgs_cons (zpg_name (i:=1) scIF.nd rfl (Or.inl rfl)) (zpgs_cons (zpg_name (i:=2) scIF.nd rfl (Or.inl rfl)) zpgs_nil))))
   (zpss_cons (zps_if (zpw_or (zpt_not (zpt_val (zpe_call GW hr (by rfl) mW kW bW .nil passE0 (zpac_n (zpv 1) zpa_nil)))) (zpw_or (zpt_not (zpt_val (zpe_call GW hr (by rfl) mW kW bW .nil passE0 (zpac_n (zpv 2) zpa_nil))))
    (zpw_or1 (zpt_cmpR op_lt (zpv 2) zpe_int (nomark _))))).pt (zpss_one (zps_ret zpe_bl)) zpss_nil)
   (zpss_one (zps_ret (zpe_cmpR op_eq (zpe_call GG hr (by rfl) mG kG bG .nil passE0 (zpac_n (zpv 1) (zpac_n (zpv 2) zpa_nil))) zpe_int (nomark _)))))),?_⟩
  obtain ⟨t,b,ty,e1,hb⟩:=hx.th.tyT (K:=K)
  refine ⟨_,rfl,_,_,t,b,rfl,ty,.inl ⟨_,rfl,e1⟩,_,rfl,?_⟩
  rcases hb with ⟨rfl,a,xs,rfl,ha⟩ | ⟨rfl,no⟩
  ·refine iteF ⟨_,rfl,a,xs,rfl,.inr (SqT.of ha),rfl,_,rfl,?_⟩
   refine ite2 (fun e=>?_) (fun e=>?_)
   ·rw [frB_f (by
     rintro ⟨a',n,d,e',h',_⟩
     cases e'
     rw [ha] at h'; cases h'
     simp at e)] at q
    exact q
   ·have l2:xs.length=2:=by
     by_cases z:xs.length=2
     ·exact z
     ·exfalso
      apply e
      simp
      omega
    obtain ⟨y,z,rfl⟩:=two_of l2
    have ty:=hx.parts a _ rfl ha y (by simp)
    have tz:=hx.parts a _ rfl ha z (by simp)
    refine ⟨_,rfl,a,_,rfl,SqT.of ha,rfl,_,_,rfl,_,_,rfl,rfl,?_⟩
    refine ⟨_,rfl,y,rfl,ty,_,rfl,?_⟩
    cases hy:isW y with
    | false=>
     refine iteT (iteT ?_)
     rw [frB_f (by
      rintro ⟨a',n,d,e',h',_⟩
      cases e'
      rw [ha] at h'; cases h'
      cases hy)] at q
     exact q
    | true=>
     refine iteF ⟨_,rfl,z,rfl,tz,_,rfl,?_⟩
     cases hz:isW z with
     | false=>
      refine iteT (iteT ?_)
      rw [frB_f (by
       rintro ⟨a',n,d,e',h',_⟩
       cases e'
       rw [ha] at h'; cases h'
       cases hz)] at q
      exact q
     | true=>
      obtain ⟨n,rfl⟩:∃n,y = .int n:=by cases y <;> first | exact ⟨_,rfl⟩ | cases hy
      obtain ⟨d,rfl⟩:∃d,z = .int d:=by cases z <;> first | exact ⟨_,rfl⟩ | cases hz
      refine iteF ⟨_,rfl,_,_,rfl,rfl,_,rfl,?_⟩
      refine ite2 (fun e1=>?_) (fun e1=>?_)
      ·have d1:d < 1:=of_decide_eq_true e1
       rw [frB_f (by
        rintro ⟨a',n',d',e',h',p,_⟩
        cases e'
        rw [ha] at h'; cases h'
        omega)] at q
       exact q
      ·have d1:¬d < 1:=fun z=>e1 (decide_eq_true z)
       refine ⟨_,rfl,_,rfl,n,d,rfl,rfl,?_⟩
       by_cases g1:Nat.gcd n.natAbs d.natAbs=1
       ·rw [frB_t ⟨a,n,d,rfl,ha,by omega,g1⟩] at q
        rw [show decide (V.int (gd n d)=V.int 1)=true from decide_eq_true (by unfold gd; rw [g1]; rfl)]
        exact q
       ·rw [frB_f (by
         rintro ⟨a',n',d',e',h',p,g⟩
         cases e'
         rw [ha] at h'; cases h'
         exact g1 g)] at q
        rw [show decide (V.int (gd n d)=V.int 1)=false from decide_eq_false (by
         unfold gd
         intro z
         injection z with z
         omega)]
        exact q
  ·refine iteT (iteT ?_)
   rw [frB_f (by
    rintro ⟨a,n,d,e,h,_⟩
    exact no a _ e h)] at q
   exact q
end
def Kp (H H':Hp):Prop:=∀b o,H b=some o→(∀ps,o≠.tbl ps)→H' b=some o
theorem Kp.refl {H:Hp}:Kp H H:=fun _ _ h _=>h
theorem Kp.trans {H H1 H2:Hp} (a:Kp H H1) (b:Kp H1 H2):Kp H H2:=fun c o h n=>b c o (a c o h n) n
theorem Kp.same {H H':Hp} (s:Same H H'):Kp H H':=fun b o h _=>s b o h
theorem Kp.new {H:Hp} {p:Addr} {o:HO} (h:H p=none):Kp H (upd H p o):=Kp.same (same_upd h)
theorem Kp.lst {H H':Hp} {a:Addr} {xs:List V} (k:Kp H H') (h:H a=some (.lst xs)):H' a=some (.lst xs):=k a _ h nofun
theorem Kp.tup {H H':Hp} {a:Addr} {xs:List V} (k:Kp H H') (h:H a=some (.tup xs)):H' a=some (.tup xs):=k a _ h nofun
def Tab (T:Addr) (H:Hp):Prop:=∃ps,H T=some (.tbl ps)∧TriplesOk ps.toList
theorem Kp.tab {H:Hp} {T:Addr} {ps':Array Value} (h:Tab T H):Kp H (upd H T (.tbl ps')):=fun b o e n=>by
 obtain ⟨ps,hp,_⟩:=h
 rw [upd_ne (fun z=>by rw [z,hp] at e; cases e; exact n _ rfl)]; exact e
theorem Tab.new {H:Hp} {T p:Addr} {o:HO} (h:Tab T H) (n:H p=none):Tab T (upd H p o):=by
 obtain ⟨ps,hp,t⟩:=h
 exact ⟨ps,by rw [upd_ne (ne_of_none hp n)]; exact hp,t⟩
theorem Tab.put {H:Hp} {T T':Addr} {ps':Array Value} (h:Tab T H) (t:TriplesOk ps'.toList):Tab T (upd H T' (.tbl ps')):=by
 obtain ⟨ps,hp,t0⟩:=h
 by_cases e:T=T'
 ·subst e; exact ⟨ps',upd_same,t⟩
 ·exact ⟨ps,by rw [upd_ne e]; exact hp,t0⟩
theorem Tab.set {H:Hp} {T p:Addr} {o o':HO} (h:Tab T H) (n:H p=some o') (no:∀ps,o'≠.tbl ps):Tab T (upd H p o):=by
 obtain ⟨ps,hp,t⟩:=h
 exact ⟨ps,by rw [upd_ne (fun z=>by rw [z,n] at hp; cases hp; exact no _ rfl)]; exact hp,t⟩
theorem Tab.same {H H':Hp} {T:Addr} (h:Tab T H) (s:Same H H'):Tab T H':=by
 obtain ⟨ps,hp,t⟩:=h
 exact ⟨ps,s _ _ hp,t⟩
structure TabL (T:Addr) (Ts:List Addr) (H:Hp):Prop where
 h:Tab T H
 all:∀U∈Ts,Tab U H
section
variable {T:Addr} {Ts:List Addr} {H H':Hp}
theorem TabL.new {p:Addr} {o:HO} (x:TabL T Ts H) (n:H p=none):TabL T Ts (upd H p o):=⟨x.h.new n,fun U hU=>(x.all U hU).new n⟩
theorem TabL.put {T':Addr} {ps':Array Value} (x:TabL T Ts H) (t:TriplesOk ps'.toList):TabL T Ts (upd H T' (.tbl ps')):=⟨x.h.put t,fun U hU=>(x.all U hU).put t⟩
theorem TabL.set {p:Addr} {o o':HO} (x:TabL T Ts H) (n:H p=some o') (no:∀ps,o'≠.tbl ps):TabL T Ts (upd H p o):=⟨x.h.set n no,fun U hU=>(x.all U hU).set n no⟩
theorem TabL.same (x:TabL T Ts H) (s:Same H H'):TabL T Ts H':=⟨x.h.same s,fun U hU=>(x.all U hU).same s⟩
end
structure PrA (H:Hp) (x:V):Prop where
 ex:∃a n d,x = .ref a∧H a=some (.tup [.int n,.int d])∧0 < n∧0 < d∧Nat.gcd n.natAbs d.natAbs=1∧n≤1000000000∧d≤1000000000
theorem PrA.kp {H H':Hp} {x:V} (h:PrA H x) (k:Kp H H'):PrA H' x:=by
 obtain ⟨a,n,d,e,ha,r⟩:=h.ex
 exact ⟨a,n,d,e,k.tup ha,r⟩
theorem small_big {d:Int} (h0:0 < d) (h:d≤1000000000):d.natAbs < big:=Nat.lt_of_le_of_lt (show d.natAbs≤1000000000 by omega) (by decide +kernel)
theorem PrA.thd {H:Hp} {x:V} (h:PrA H x):ThD H x:=by
 obtain ⟨a,n,d,rfl,ha,n0,d0,g,n1,d1⟩:=h.ex
 refine ⟨.tup ha,fun b xs e hb y hy=>?_,fun b n' d' e hb=>?_,nofun⟩
 ·cases e
  rw [ha] at hb; cases hb
  rcases List.mem_cons.mp hy with rfl | hy
  ·exact .int _
  ·rw [List.mem_singleton.mp hy]; exact .int _
 ·cases e
  rw [ha] at hb; cases hb
  exact small_big d0 d1
theorem PrA.fr {H:Hp} {x:V} (h:PrA H x):frB H x=true:=by
 obtain ⟨a,n,d,rfl,ha,n0,d0,g,_⟩:=h.ex
 exact frB_t ⟨a,n,d,rfl,ha,d0,g⟩
section
variable {P:Program} {w:World} {K:PySem.W.Frag} {mg:Str→Option Value} {base:Heap}
def inB:V→Int→Int→Bool
 | .int i,lo,hi=>decide (lo≤i) && decide (i≤hi)
 | _,_,_=>false
def spWithin:Sp:=fun vs H Q _=>∃(x:V) (lo hi:Int),vs=[x,.int lo,.int hi]∧Th H x∧Q (.bl (inB x lo hi)) H
theorem scWi:FnScope ["thing","least","most"] ["thing","least","most"] (defScope sWithin):=⟨rfl,rfl,rfl,by decide +kernel,rfl,by decide +kernel,by decide +kernel⟩
theorem ok_within {f fW:Addr} {fd fdW:FuncData} (F:FunG K "is_whole_within" "is_whole_within" sWithin .none f fd)
  (GW:FnOk P w K mg base (CXE P w) 1 fW fdW ["thing"] spWhole) (mW:mg "is_whole" = some (.ref fW)) (kW:PySem.W.keepIn K (.ref fW)=true) (bW:Binds K fdW ["thing"] []) :
  FnOk P w K mg base (CXE P w) 2 f fd ["thing","least","most"] spWithin:=by
 refine F.zokN scWi (fun vs H Q E h=>?_) (fun cdv A outer s H vs Q E hr h=>?_)
 ·obtain ⟨x,lo,hi,rfl,_⟩:=h
  rfl
 ·obtain ⟨x,lo,hi,rfl,hx,q⟩:=h
  refine ⟨_,zpss_one (zps_ret (zpe_and (zpe_call GW hr (by rfl) mW kW bW .nil passE0 (zpac_n (zpv 0) zpa_nil)) (zpe_and (zpe_cmpR op_le (zpv 1) (zpv 0) (nomark _)) (zpe_one (zpe_cmpR op_le (zpv 0) (zpv 2) (nomark _)))))),?_⟩
  refine ⟨_,rfl,x,rfl,hx,_,rfl,?_⟩
  cases x with
  | int i=>
   refine iteT ⟨_,rfl,_,rfl,_,_,rfl,rfl,_,rfl,?_⟩
   refine ite2 (fun e=>?_) (fun e=>?_)
   ·refine ⟨_,rfl,_,rfl,_,_,rfl,rfl,?_⟩
    have:inB (.int i) lo hi=decide (i≤hi):=by simp [inB,of_decide_eq_true e]
    rw [this] at q
    exact q
   ·have:inB (.int i) lo hi=false:=by
     have:decide (lo≤i)=false:=by simpa using e
     simp [inB,this]
    rw [this] at q
    exact q
  | _=>exact iteF q
def spAbove:Sp:=fun vs H Q _=>∃x,vs=[x]∧PrA H x∧Q (.bl true) H
theorem scAb:FnScope ["thing"] ["thing"] (defScope sAbove):=⟨rfl,rfl,rfl,by decide +kernel,rfl,by decide +kernel,by decide +kernel⟩
theorem ok_above {f fF:Addr} {fd fdF:FuncData} (F:FunG K "is_above_nought" "is_above_nought" sAbove .none f fd)
  (GF:FnOk P w K mg base (CXE P w) 2 fF fdF ["thing"] spIsF) (mF:mg "is_fraction" = some (.ref fF)) (kF:PySem.W.keepIn K (.ref fF)=true) (bF:Binds K fdF ["thing"] []) :
  FnOk P w K mg base (CXE P w) 3 f fd ["thing"] spAbove:=by
 refine F.zokN scAb (fun vs H Q E h=>?_) (fun cdv A outer s H vs Q E hr h=>?_)
 ·obtain ⟨x,rfl,_⟩:=h
  rfl
 ·obtain ⟨x,rfl,hx,q⟩:=h
  refine ⟨_,zpss_one (zps_ret (zpe_and (zpe_call GF hr (by rfl) mF kF bF .nil passE0 (zpac_n (zpv 0) zpa_nil)) (zpe_one (zpe_cmpR op_gt (zpe_ix ix_tup (zpv 0) zpe_int (fun _ _=>rfl)) zpe_int (nomark _))))),?_⟩
  refine ⟨_,rfl,x,rfl,hx.thd,_,rfl,?_⟩
  rw [hx.fr]
  obtain ⟨a,n,d,rfl,ha,n0,d0,g,n1,d1⟩:=hx.ex
  refine iteT ⟨_,rfl,a,_,_,_,rfl,rfl,SqT.of ha,rfl,_,_,rfl,rfl,?_⟩
  have:decide ((0:Int) < n)=true:=decide_eq_true (by omega)
  show Q (V.bl (decide ((0:Int) < n))) H
  rw [this]
  exact q
def sg1 (c:Nat):Str:=⟨#[c]⟩
structure Row (H:Hp) (x:V) (c:Nat):Prop where
 ex:∃a p l,x = .ref a∧H a=some (.tup [.str (sg1 c),p,l])∧PrA H p∧(l = .non∨PrA H l)
 oc:occ c=true
theorem Row.kp {H H':Hp} {x:V} {c:Nat} (h:Row H x c) (k:Kp H H'):Row H' x c:=by
 obtain ⟨a,p,l,e,ha,hp,hl⟩:=h.ex
 exact ⟨⟨a,p,l,e,k.tup ha,hp.kp k,hl.imp id fun z=>z.kp k⟩,h.oc⟩
theorem name1 {c:Nat} (h:occ c=true):nameB (.str (sg1 c))=true:=by
 have:sg1 c≠"":=fun z=>by
  have:(sg1 c).length=("" : Str).length:=by rw [z]
  exact absurd this (by show (1:Nat)≠0; decide)
 have l:(sg1 c).length≤8:=by show (1:Nat)≤8; decide
 have a:(sg1 c).cps.toList.all occ=true:=by
  show [c].all occ=true
  simp [h]
 simp only [nameB,decide_eq_true this,decide_eq_true l,a,Bool.and_self]
def spLetter (T:Addr):Sp:=fun vs H Q _=>∃c,vs=[.str (sg1 c)]∧occ c=true∧Tab T H∧∀ps',TriplesOk ps'.toList→Q (.bl true) (upd H T (.tbl ps'))
theorem scLe:FnScope ["thing"] ["thing"] (defScope sLetter):=⟨rfl,rfl,rfl,by decide +kernel,rfl,by decide +kernel,by decide +kernel⟩
theorem ok_letter {T f fN:Addr} {fd fdN:FuncData} (F:FunG K "is_letter" "is_letter" sLetter .none f fd) (B:Bl mg)
  (GN:FnOk P w K mg base (CXE P w) 2 fN fdN ["thing"] (spName T)) (mN:mg "is_name" = some (.ref fN)) (kN:PySem.W.keepIn K (.ref fN)=true) (bN:Binds K fdN ["thing"] []) :
  FnOk P w K mg base (CXE P w) 3 f fd ["thing"] (spLetter T):=by
 refine F.zokN scLe (fun vs H Q E h=>?_) (fun cdv A outer s H vs Q E hr h=>?_)
 ·obtain ⟨c,rfl,_⟩:=h
  rfl
 ·obtain ⟨c,rfl,hc,ht,q⟩:=h
  refine ⟨_,zpss_one (zps_ret (zpe_and (zpe_call GN hr (by rfl) mN kN bN .nil passE0 (zpac_n (zpv 0) zpa_nil)) (zpe_one (zpe_cmpR op_eq (zpe_callB call_len_str (by rfl) B.len PySem.boot_len (zpac_n (zpv 0) zpa_nil)) zpe_int (nomark _))))),?_⟩
  obtain ⟨ps,hT,tr⟩:=id ht
  have len1:(sg1 c).length=1:=rfl
  refine ⟨_,rfl,_,ps,rfl,.str _,fun z e=>by injection e with e; rw [← e,len1]; decide,hT,tr,fun ps' tr'=>⟨_,rfl,?_⟩⟩
  rw [name1 hc]
  refine iteT ⟨_,rfl,sg1 c,rfl,by rw [len1]; decide,rfl,?_⟩
  exact q ps' tr'
def spRow (T:Addr):Sp:=fun vs H Q _=>∃x c,vs=[x]∧Row H x c∧Tab T H∧∀ps',TriplesOk ps'.toList→Q (.bl true) (upd H T (.tbl ps'))
theorem scRo:FnScope ["thing","sign","price","last"] ["thing"] (defScope sRow):=⟨rfl,rfl,rfl,by decide +kernel,rfl,by decide +kernel,by decide +kernel⟩
theorem ok_row {T f fL fA:Addr} {fd fdL fdA:FuncData} (F:FunG K "is_sign_row" "is_sign_row" sRow .none f fd) (B:Bl mg)
  (GL:FnOk P w K mg base (CXE P w) 3 fL fdL ["thing"] (spLetter T)) (mL:mg "is_letter" = some (.ref fL)) (kL:PySem.W.keepIn K (.ref fL)=true) (bL:Binds K fdL ["thing"] [])
  (GA:FnOk P w K mg base (CXE P w) 3 fA fdA ["thing"] spAbove) (mA:mg "is_above_nought" = some (.ref fA)) (kA:PySem.W.keepIn K (.ref fA)=true) (bA:Binds K fdA ["thing"] []) :
  FnOk P w K mg base (CXE P w) 4 f fd ["thing"] (spRow T):=by
 refine F.zokN scRo (fun vs H Q E h=>?_) (fun cdv A outer s H vs Q E hr h=>?_)
 ·obtain ⟨x,c,rfl,_⟩:=h
  rfl
 ·obtain ⟨x,c,rfl,hx,ht,q⟩:=h
  refine ⟨_,zpss_cons (zps_if (zpw_or (zpt_not (zpt_val (zpe_callB call_isi (by rfl) B.isi boot_isi (zpac_n (zpv 0) (zpac_n (zpe_bltn (by rfl) B.tuple boot_tuple (v:=.ty "tuple") rfl) zpa_nil)))))
    (zpw_or1 (zpt_cmpR op_ne (zpe_callB call_len_seq (by rfl) B.len PySem.boot_len (zpac_n (zpv 0) zpa_nil)) zpe_int (nomark _)))).pt zpss_never zpss_nil)
   (zpss_cons (zps_asg (zpv 0) (zpg_tup rfl (zpgs_cons (zpg_name (i:=1) scRo.nd rfl (Or.inl rfl)) (zpgs_cons (zpg_name (i:=2) scRo.nd rfl (Or.inl rfl)) (zpgs_cons (zpg_name (i:=3) scRo.nd rfl (Or.inl rfl)) zpgs_nil)))))
   (zpss_one (zps_ret (zpe_and (zpe_call GL hr (by rfl) mL kL bL .nil passE0 (zpac_n (zpv 1) zpa_nil)) (zpe_and (zpe_call GA hr (by rfl) mA kA bA .nil passE0 (zpac_n (zpv 2) zpa_nil)) (zpe_one (zpe_or (zpe_cmpR op_isN (zpv 3) zpe_non (nomark _)) (zpe_one (zpe_call GA hr (by rfl) mA kA bA .nil passE0 (zpac_n (zpv 3) zpa_nil)))))))))),?_⟩
  obtain ⟨a,p,l,rfl,ha,hp,hl⟩:=hx.ex
  refine ⟨_,rfl,_,_,_,true,rfl,.of (.tup ha),.inl ⟨_,rfl,kt1⟩,_,rfl,iteF ?_⟩
  refine ⟨_,rfl,a,_,rfl,.inr (SqT.of ha),rfl,_,rfl,iteF ?_⟩
  refine ⟨_,rfl,a,_,rfl,SqT.of ha,rfl,_,_,rfl,_,_,rfl,_,_,rfl,rfl,?_⟩
  refine ⟨_,rfl,c,rfl,hx.oc,ht,fun ps' tr'=>⟨_,rfl,iteT ?_⟩⟩
  have k:Kp H (upd H T (.tbl ps')):=Kp.tab ht
  refine ⟨_,rfl,_,rfl,hp.kp k,_,rfl,iteT ⟨_,rfl,rfl,_,rfl,?_⟩⟩
  rcases hl with rfl | hl
  ·exact iteT (q ps' tr')
  ·have ne:l≠.non:=fun z=>by
    obtain ⟨_,_,_,e,_⟩:=hl.ex
    rw [z] at e; cases e
   rw [decide_eq_false ne]
   exact iteF ⟨_,rfl,_,rfl,hl.kp k,q ps' tr'⟩
end
end G1
namespace L2
open PySem
theorem boot_list:bootBuiltins "list" = some (.type "list"):=by decide +kernel
theorem kl1 {K:PySem.W.Frag}:PySem.W.kitOne K (.type "list") (.type "list")=some true:=by kernel_rfl
theorem kst1 {K:PySem.W.Frag}:PySem.W.kitOne K (.type "str") (.type "str")=some true:=by kernel_rfl
theorem ix_tupK {X:Cx} (K:PySem.W.Frag) (h:X.K=K):IxR X (rIxT K):=h ▸ ix_tup
end L2
namespace G1
open PySem L2 GM
theorem Kp.upd_new {H H1 H2:Hp} {l:Addr} {o:HO} (k1:Kp H H1) (n:H1 l=none) (k2:Kp H H2):Kp H (upd H2 l o):=fun b u h hn=>by
 rw [upd_ne (ne_of_none (k1 b u h hn) n)]; exact k2 b u h hn
structure Rows (H:Hp) (xs:List V) (cs:List Nat):Prop where
 len:xs.length=cs.length
 row:∀(i:Nat) (x:V) (c:Nat),xs[i]? = some x→cs[i]? = some c→Row H x c
theorem Rows.kp {H H':Hp} {xs:List V} {cs:List Nat} (h:Rows H xs cs) (k:Kp H H'):Rows H' xs cs:=⟨h.len,fun i x c e1 e2=>(h.row i x c e1 e2).kp k⟩
theorem Rows.at {H:Hp} {xs:List V} {cs:List Nat} {i:Nat} {x:V} (h:Rows H xs cs) (e:xs[i]? = some x):∃c,cs[i]? = some c∧Row H x c:=by
 have hi:i < cs.length:=by rw [← h.len]; exact (List.getElem?_eq_some_iff.mp e).1
 exact ⟨cs[i],List.getElem?_eq_getElem hi,h.row i x _ e (List.getElem?_eq_getElem hi)⟩
theorem sg1_inj {a b:Nat} (h:sg1 a=sg1 b):a=b:=by
 unfold sg1 at h
 injection h with h
 injection h with h
 injection h
theorem take_fresh {cs:List Nat} (h:cs.Nodup) {i c:Nat} (e:cs[i]? = some c):sg1 c∉(cs.take i).map sg1:=fun m=>by
 obtain ⟨d,hd,z⟩:=List.mem_map.mp m
 have:=sg1_inj z
 subst this
 obtain ⟨j,hj⟩:=List.getElem?_of_mem hd
 have hj':j < i:=by
  have:=(List.getElem?_eq_some_iff.mp hj).1
  rw [List.length_take] at this; omega
 rw [List.getElem?_take_of_lt hj'] at hj
 obtain ⟨hi1,hi2⟩:=List.getElem?_eq_some_iff.mp e
 obtain ⟨hj1,hj2⟩:=List.getElem?_eq_some_iff.mp hj
 have:=(List.getElem_inj (h₀:=hj1) (h₁:=hi1) h).mp (by rw [hi2,hj2])
 omega
section
variable {P:Program} {w:World} {K:PySem.W.Frag} {mg:Str→Option Value} {base:Heap}
def spSigns (T1 T2:Addr) (Ts:List Addr):Sp:=fun vs H Q _=>∃(L:Addr) (xs:List V) (cs:List Nat),vs=[.ref L]∧H L=some (.lst xs)∧Rows H xs cs∧cs.Nodup∧2≤cs.length∧cs.length≤6∧Tab T1 H∧TabL T2 Ts H∧∀H',Kp H H'→Tab T1 H'→TabL T2 Ts H'→Q (.bl true) H'
theorem scSi:FnScope ["thing"] ["thing"] (defScope sSigns):=⟨rfl,rfl,rfl,by decide +kernel,rfl,by decide +kernel,by decide +kernel⟩
theorem ok_signs {T1 T2 f c fR:Addr} {Ts:List Addr} {fdR:FuncData} {kV doc pm ct oc:Value} {an od:Option Addr} {osl:Array (Option Value)} {t1 t2:Tok}
  (lk:K.lookup f=some ⟨oc,od,.func (PySem.W.fnOf "are_signs" "are_signs" (defArgs sSigns) (defBody sSigns) (defScope sSigns) .none kV doc pm an (.ref c) ct),osl⟩) (hcd:PySem.W.codeIn K (.ref c) "are_signs" = true)
  (B:Bl mg) (CK:CodeK K c T2) (hbm:BmOf mg base) (mF:mg "FEWEST_SIGNS" = some (.int 2 t1)) (mM:mg "MOST_SIGNS" = some (.int 6 t2))
  (GR:FnOk P w K mg base (CXE P w) 4 fR fdR ["thing"] (spRow T1)) (mR:mg "is_sign_row" = some (.ref fR)) (kR:PySem.W.keepIn K (.ref fR)=true) (bR:Binds K fdR ["thing"] []) :
  FnOk P w K mg base (CXE P w) 6 f (PySem.W.fnOf "are_signs" "are_signs" (defArgs sSigns) (defBody sSigns) (defScope sSigns) .none kV doc pm an (.ref c) ct) ["thing"] (spSigns T1 T2 Ts):=by
 refine okC lk hcd scSi (fun vs H Q E h=>?_) (fun A outer s H vs Q E hr h=>?_)
 ·obtain ⟨L,xs,cs,rfl,_⟩:=h
  rfl
 ·obtain ⟨L,xs,cs,rfl,hL,rows,nd,c2,c6,ht1,ht2,q⟩:=h
  refine ⟨_,zpss_cons (zps_if (zpw_or (zpt_not (zpt_val (zpe_callB call_isi (by rfl) B.isi boot_isi (zpac_n (zpv 0) (zpac_n (zpe_bltn (by rfl) B.list boot_list (v:=.ty "list") rfl) zpa_nil)))))
    (zpw_or (zpt_cmpR op_lt (zpe_callB call_len_seq (by rfl) B.len PySem.boot_len (zpac_n (zpv 0) zpa_nil)) (zpe_glob (by rfl) mF (v:=.int 2) ⟨_,rfl⟩) (nomark _))
    (zpw_or1 (zpt_cmpR op_gt (zpe_callB call_len_seq (by rfl) B.len PySem.boot_len (zpac_n (zpv 0) zpa_nil)) (zpe_glob (by rfl) mM (v:=.int 6) ⟨_,rfl⟩) (nomark _))))).pt zpss_never zpss_nil)
   (zpss_cons (zps_if (zpt_not (zpt_val (zpe_all ["thing"] ["row"] [] (defScope sSigns) rfl hr (by rfl) B.all rfl CK ⟨hbm⟩ rfl rfl ⟨by decide +kernel,by decide +kernel,by decide +kernel,by decide +kernel,by decide +kernel⟩ (by decide +kernel) (by decide +kernel) (zpi_list (zpv 0))
     (fun code s H fp=>zpg_name (i:=0) (show List.Nodup [("row" : Str)] by decide +kernel) rfl (Or.inl rfl)) (fun code s H fp=>zpe_call GR hr.gen (by rfl) mR kR bR .nil passE0 (zpac_n (zpv 0) zpa_nil))))) zpss_never zpss_nil)
   (zpss_one (zps_ret (zpe_cmpR op_eq (zpe_callB call_len_setT (by rfl) B.len PySem.boot_len (zpac_x (zpe_setcomp ["thing"] ["row"] [] (defScope sSigns) rfl rfl rfl ⟨by decide +kernel,by decide +kernel,by decide +kernel,by decide +kernel,by decide +kernel⟩ (zpi_list (zpv 0))
     (fun s H fp=>zpg_name (i:=0) (show List.Nodup [("row" : Str)] by decide +kernel) rfl (Or.inl rfl)) (fun s H fp=>zpts_nil) (fun s H fp=>zpe_ix (ix_tupK K rfl) (zpv 0) zpe_int (fun _ _=>rfl))) zpa_nil))
    (zpe_callB call_len_seq (by rfl) B.len PySem.boot_len (zpac_n (zpv 0) zpa_nil)) (nomark _))))),?_⟩
  have ln:xs.length=cs.length:=rows.len
  refine ⟨_,rfl,_,_,_,true,rfl,.of (.lst hL),.inl ⟨_,rfl,kl1⟩,_,rfl,iteF ?_⟩
  refine ⟨_,rfl,L,_,rfl,.inl (SqL.of hL),_,_,rfl,rfl,_,rfl,?_⟩
  refine ite2 (fun e=>absurd (of_decide_eq_true e) (by omega)) (fun _=>?_)
  refine ⟨_,rfl,L,_,rfl,.inl (SqL.of hL),_,_,rfl,rfl,_,rfl,?_⟩
  refine ite2 (fun e=>absurd (of_decide_eq_true e) (by omega)) (fun _=>?_)
  obtain ⟨ps2,hT2,tr2⟩:=id ht2.h
  refine ⟨_,rfl,L,rfl,⟨_,SqL.of hL⟩,ps2,hT2,tr2,fun ps' tr'=>?_⟩
  refine ⟨fun i m σ2 H2=>i≤cs.length∧m=cs.length - i∧(∃v,σ2=[v])∧Kp H H2∧Tab T1 H2∧TabL T2 Ts H2,⟨_,Nat.zero_le _,rfl,⟨_,rfl⟩,Kp.tab ht2.h,ht1.put tr',ht2.put tr'⟩,?_⟩
  rintro i m σ2 H2 ⟨hi,rfl,⟨v,rfl⟩,k2,a2,b2⟩
  by_cases hlt:i < cs.length
  ·refine .inr ⟨⟨_,_,SqL.of (k2.lst hL),List.getElem?_eq_getElem (show i < xs.length by omega)⟩,?_⟩
   rintro x H3 ⟨rfl,hx⟩
   obtain ⟨cc,hc,row⟩:=rows.at (hx _ (SqL.of (k2.lst hL)))
   refine ⟨_,rfl,x,cc,rfl,row.kp k2,a2,fun ps'' tr''=>⟨_,rfl,iteT ⟨cs.length - (i + 1),by omega,hlt,rfl,⟨_,rfl⟩,k2.trans (Kp.tab a2),a2.put tr'',b2.put tr''⟩⟩⟩
  ·refine .inl ⟨⟨_,SqL.of (k2.lst hL),by omega⟩,_,rfl,iteF ?_⟩
   clear hlt
   have hL2:=k2.lst hL
   refine ⟨_,rfl,L,rfl,⟨_,SqL.of hL2⟩,fun l hl=>?_⟩
   refine ⟨fun i m σ3 H3=>i≤cs.length∧m=cs.length - i∧(∃v,σ3=[v])∧H3 l=some (SetT P w l ((cs.take i).map sg1))∧Kp H H3∧Tab T1 H3∧TabL T2 Ts H3,
    ⟨_,Nat.zero_le _,rfl,⟨_,rfl⟩,upd_same,k2.trans (Kp.new hl),a2.new hl,b2.new hl⟩,?_⟩
   rintro j m σ3 H3 ⟨hj,rfl,⟨v,rfl⟩,hs3,k3,a3,b3⟩
   have hL3:=k3.lst hL
   by_cases hlt:j < cs.length
   ·refine .inr ⟨⟨_,_,SqL.of hL3,List.getElem?_eq_getElem (show j < xs.length by omega)⟩,?_⟩
    rintro x H4 ⟨rfl,hx⟩
    obtain ⟨cc,hc,row⟩:=rows.at (hx _ (SqL.of hL3))
    obtain ⟨a,p,la,rfl,ha,_⟩:=(row.kp k3).ex
    dsimp only [gName]
    rw [if_pos rfl]
    refine ⟨_,rfl,a,_,_,_,rfl,rfl,SqT.of ha,rfl,sg1 cc,_,rfl,hs3,?_,?_⟩
    ·rw [List.length_map,List.length_take]; omega
    have ins:insT (sg1 cc) ((cs.take j).map sg1)=(cs.take (j + 1)).map sg1:=by
     unfold insT
     rw [if_neg (take_fresh nd hc),List.take_add_one,hc,List.map_append]
     rfl
    have no:∀q,SetT P w l ((cs.take j).map sg1)≠.tbl q:=nofun
    refine ⟨cs.length - (j + 1),by omega,hlt,rfl,⟨_,rfl⟩,by rw [ins]; exact upd_same,k2.upd_new hl k3,a3.set hs3 no,b3.set hs3 no⟩
   ·have e:j=cs.length:=by omega
    subst e
    refine .inl ⟨⟨_,SqL.of hL3,by omega⟩,l,_,rfl,hs3,_,rfl,L,_,rfl,.inl (SqL.of hL3),rfl,?_⟩
    have e1:(V.int ((List.map sg1 (List.take cs.length cs)).length:Nat))=V.int (xs.length:Nat):=by rw [List.length_map,List.take_length,ln]
    rw [e1,decide_eq_true rfl]
    exact q _ k3 a3 b3
end
def txs (ts:List Str):List V:=ts.map V.str
theorem txs_flat (ts:List Str):(txs ts).all flatV=true:=by
 unfold txs
 rw [List.all_map]
 exact List.all_eq_true.mpr fun _ _=>rfl
theorem inV_txs (t:Str) (ts:List Str):inV (.str t) (txs ts)=decide (t∈ts):=by
 unfold inV txs
 rw [List.any_map,Bool.eq_iff_iff,List.any_eq_true,decide_eq_true_iff]
 constructor
 ·rintro ⟨y,hy,e⟩
  have:(y == t)=true:=e
  rw [← eq_of_beq this]; exact hy
 ·intro h
  exact ⟨t,h,by show (t == t)=true; exact beq_self_eq_true t⟩
def sgs (cs:List Nat):List Str:=cs.map sg1
section
variable {P:Program} {w:World} {K:PySem.W.Frag} {mg:Str→Option Value} {base:Heap}
def spSignsOf (K:PySem.W.Frag):Sp:=fun vs H Q _=>∃(t S:Addr) (f p lg:V) (xs:List V) (cs:List Nat),vs=[.ref t]∧SqT K H t [.ref S,f,p,lg]∧H S=some (.lst xs)∧Rows H xs cs∧cs.length≤6∧∀l H',H l=none→Same H H'→H' l=some (.lst (txs (sgs cs)))→Q (.ref l) H'
theorem scSo:FnScope ["tongue"] ["tongue"] (defScope sSignsOf):=⟨rfl,rfl,rfl,by decide +kernel,rfl,by decide +kernel,by decide +kernel⟩
theorem ok_signsOf {f:Addr} {fd:FuncData} (F:FunG K "signs_of" "signs_of" sSignsOf .none f fd):FnOk P w K mg base (CXE P w) 1 f fd ["tongue"] (spSignsOf K):=by
 refine F.zokN scSo (fun vs H Q E h=>?_) (fun cdv A outer s H vs Q E hr h=>?_)
 ·obtain ⟨t,S,f,p,lg,xs,cs,rfl,_⟩:=h
  rfl
 ·obtain ⟨t,S,f,p,lg,xs,cs,rfl,ht,hS,rows,c6,q⟩:=h
  refine ⟨_,zpss_one (zps_ret (zpe_comp ["tongue"] ["row"] [] (defScope sSignsOf) rfl rfl rfl ⟨by decide +kernel,by decide +kernel,by decide +kernel,by decide +kernel,by decide +kernel⟩ (zpi_list (zpe_ix ix_tup (zpv 0) zpe_int (fun _ _=>rfl)))
    (fun s H fp=>zpg_name (i:=0) (show List.Nodup [("row" : Str)] by decide +kernel) rfl (Or.inl rfl)) (fun s H fp=>zpts_nil) (fun s H fp=>zpe_ix (ix_tupK K rfl) (zpv 0) zpe_int (fun _ _=>rfl)))),?_⟩
  refine ⟨_,rfl,t,_,_,_,rfl,rfl,ht,rfl,S,rfl,⟨_,SqL.of hS⟩,fun l hl=>?_⟩
  refine ⟨fun i m σ2 H2=>i≤cs.length∧m=cs.length - i∧(∃v,σ2=[v])∧H2 l=some (.lst (txs (sgs (cs.take i))))∧Same H H2,⟨_,Nat.zero_le _,rfl,⟨_,rfl⟩,upd_same,same_upd hl⟩,?_⟩
  rintro i m σ2 H2 ⟨hi,rfl,⟨v,rfl⟩,hl2,s2⟩
  have hS2:=s2 _ _ hS
  by_cases hlt:i < cs.length
  ·refine .inr ⟨⟨_,_,SqL.of hS2,List.getElem?_eq_getElem (show i < xs.length by rw [rows.len]; exact hlt)⟩,?_⟩
   rintro x H3 ⟨rfl,hx⟩
   obtain ⟨cc,hc,row⟩:=rows.at (hx _ (SqL.of hS2))
   obtain ⟨a,p,la,rfl,ha,_⟩:=(row.kp (Kp.same s2)).ex
   dsimp only [gName]
   rw [if_pos rfl]
   refine ⟨_,rfl,a,_,_,_,rfl,rfl,SqT.of ha,rfl,_,hl2,?_,cs.length - (i + 1),by omega,hlt,rfl,⟨_,rfl⟩,?_,?_⟩
   ·unfold txs sgs
    rw [List.length_map,List.length_map,List.length_take]
    exact Nat.lt_of_le_of_lt (show min i cs.length≤6 by omega) (by decide)
   ·have:txs (sgs (cs.take i)) ++ [V.str (sg1 cc)]=txs (sgs (cs.take (i + 1))):=by
     unfold txs sgs
     rw [List.take_add_one,hc,List.map_append,List.map_append]; rfl
    rw [← this]; exact upd_same
   ·intro b o hb
    rw [upd_ne (ne_of_none hb hl)]; exact s2 b o hb
  ·have e:i=cs.length:=by omega
   subst e
   rw [List.take_length] at hl2
   exact .inl ⟨⟨_,SqL.of hS2,by rw [rows.len]; exact Nat.le_refl _⟩,q l H2 hl s2 hl2⟩
def spUnlike (K:PySem.W.Frag):Sp:=fun vs H Q _=>∃(C L:Addr) (ks ts:List Str),vs=[.ref C,.ref L]∧H C=some (.lst (txs ks))∧H L=some (.lst (txs ts))∧ts.Nodup∧(∀t∈ts,t∈ks)∧ts.length≤100∧∀H',Same H H'→Q (.bl true) H'
theorem scUl:FnScope ["choices","thing","seen","text"] ["choices","thing"] (defScope sUnlike):=⟨rfl,rfl,rfl,by decide +kernel,rfl,by decide +kernel,by decide +kernel⟩
theorem take_freshT {ts:List Str} (h:ts.Nodup) {i:Nat} {t:Str} (e:ts[i]? = some t):t∉ts.take i:=fun m=>by
 obtain ⟨j,hj⟩:=List.getElem?_of_mem m
 have hj':j < i:=by
  have:=(List.getElem?_eq_some_iff.mp hj).1
  rw [List.length_take] at this; omega
 rw [List.getElem?_take_of_lt hj'] at hj
 obtain ⟨hi1,hi2⟩:=List.getElem?_eq_some_iff.mp e
 obtain ⟨hj1,hj2⟩:=List.getElem?_eq_some_iff.mp hj
 have:=(List.getElem_inj (h₀:=hj1) (h₁:=hi1) h).mp (by rw [hi2,hj2])
 omega
theorem ok_unlike {f:Addr} {fd:FuncData} (F:FunG K "are_unlike_texts_of" "are_unlike_texts_of" sUnlike .none f fd) (B:Bl mg):FnOk P w K mg base (CXE P w) 1 f fd ["choices","thing"] (spUnlike K):=by
 refine F.zokN scUl (fun vs H Q E h=>?_) (fun cdv A outer s H vs Q E hr h=>?_)
 ·obtain ⟨C,L,ks,ts,rfl,_⟩:=h
  rfl
 ·obtain ⟨C,L,ks,ts,rfl,hC,hL,nd,sub,len,q⟩:=h
  refine ⟨_,zpss_cons (zps_if (zpt_not (zpt_val (zpe_callB call_isi (by rfl) B.isi boot_isi (zpac_n (zpv 1) (zpac_n (zpe_bltn (by rfl) B.list boot_list (v:=.ty "list") rfl) zpa_nil))))) zpss_never zpss_nil)
   (zpss_cons (zps_set (i:=2) scUl.nd rfl (Or.inl rfl) (zpe_callTy0 call_set0 (by rfl) B.set boot_set))
   (zpss_cons (zps_for PassesOwn.never rfl (zpi_list (zpv 1)) (zpg_name (i:=3) scUl.nd rfl (Or.inl rfl))
    (zpss_cons (zps_if (zpw_or (zpt_not (zpt_val (zpe_callB call_isi (by rfl) B.isi boot_isi (zpac_n (zpv 3) (zpac_n (zpe_bltn (by rfl) B.str boot_str (v:=.ty "str") rfl) zpa_nil)))))
      (zpw_or (zpt_cmpR op_notIn_seq (zpv 3) (zpv 0) rfl) (zpw_or1 (zpt_cmpR op_in_set (zpv 3) (zpv 2) rfl)))).pt zpss_never zpss_nil)
    (zpss_one (zps_expr (zpe_setadd (zpv 2) (zpac_n (zpv 3) zpa_nil))))))
   (zpss_one (zps_ret zpe_bl)))),?_⟩
  refine ⟨_,rfl,_,_,_,true,rfl,.of (.lst hL),.inl ⟨_,rfl,kl1⟩,_,rfl,iteF ?_⟩
  refine ⟨rfl,fun p hp=>?_⟩
  refine ⟨_,rfl,L,rfl,⟨_,SqL.of (same_upd hp _ _ hL)⟩,for_list (K:=K) (a:=L) (xs:=txs ts)
   (fun i σ H2=>(∃v,σ=[some (.ref C),some (.ref L),some (.ref p),v])∧H2 p=some (SetT P w p (ts.take i))∧Same H H2) ⟨⟨_,rfl⟩,upd_same,same_upd hp⟩ ?_ ?_ ?_⟩
  ·rintro i σ H2 _ ⟨_,_,s2⟩
   exact SqL.of (s2 _ _ hL)
  ·rintro i x σ H2 hx ⟨⟨v,rfl⟩,hp2,s2⟩
   obtain ⟨t,ht,rfl⟩:∃t,ts[i]? = some t∧x = .str t:=by
    unfold txs at hx
    rw [List.getElem?_map] at hx
    obtain ⟨t,h1,h2⟩:=Option.map_eq_some_iff.mp hx
    exact ⟨t,h1,h2.symm⟩
   have ilt:=(List.getElem?_eq_some_iff.mp ht).1
   refine ⟨_,rfl,_,_,_,true,rfl,.of (.str t),.inl ⟨_,rfl,kst1⟩,_,rfl,iteF ?_⟩
   refine ⟨_,rfl,_,rfl,C,_,rfl,.inl (SqL.of (s2 _ _ hC)),rfl,txs_flat ks,_,rfl,?_⟩
   have m1:inV (.str t) (txs ks)=true:=by rw [inV_txs]; exact decide_eq_true (sub t (List.mem_of_getElem? ht))
   refine ite2 (fun e=>absurd e (by
    show ¬((!inV (.str t) (txs ks))=true)
    rw [m1]; decide)) (fun _=>?_)
   refine ⟨_,rfl,_,rfl,t,p,_,rfl,rfl,hp2,_,rfl,?_⟩
   have fr:=take_freshT nd ht
   refine ite2 (fun e=>absurd e (by
    show ¬(decide (t∈ts.take i)=true)
    rw [decide_eq_false fr]; decide)) (fun _=>?_)
   refine ⟨_,rfl,⟨p,_,rfl,hp2⟩,_,rfl,p,t,_,rfl,rfl,hp2,?_,?_⟩
   ·rw [List.length_take]; omega
   refine ⟨⟨_,rfl⟩,?_,fun b o hb=>?_⟩
   ·have:insT t (ts.take i)=ts.take (i + 1):=by
     unfold insT
     rw [if_neg fr,List.take_add_one,ht]; rfl
    rw [this]; exact upd_same
   ·rw [upd_ne (ne_of_none hb hp)]; exact s2 b o hb
  ·rintro σ H2 ⟨⟨v,rfl⟩,_,s2⟩
   exact q H2 s2
end
end G1
namespace L2
theorem zpi_listK {X:Cx} {tg l:PySem.Expr} {tl:TE} (K:PySem.W.Frag) (h:X.K=K) (hl:SPE X l tl):SPI X tg l (iList K tl):=h ▸ zpi_list hl
end L2
namespace G1
open PySem L2 GM
def prs (ks:List Str):List Str:=ks.flatMap fun a=>ks.map fun b=>a ++ b
structure Tg (H:Hp) (t:Addr) (cs:List Nat) (fs ps:List Str) (lg:Int):Prop where
 ex:∃S F Pp xs,H t=some (.tup [.ref S,.ref F,.ref Pp,.int lg])∧H S=some (.lst xs)∧Rows H xs cs∧H F=some (.lst (txs fs))∧H Pp=some (.lst (txs ps))
 nd:cs.Nodup
 c2:2≤cs.length
 c6:cs.length≤6
 fnd:fs.Nodup
 fsub:∀f∈fs,f∈sgs cs
 pnd:ps.Nodup
 psub:∀p∈ps,p∈prs (sgs cs)
 l1:1≤lg
 l8:lg≤8
theorem Tg.kp {H H':Hp} {t:Addr} {cs:List Nat} {fs ps:List Str} {lg:Int} (h:Tg H t cs fs ps lg) (k:Kp H H'):Tg H' t cs fs ps lg:=by
 obtain ⟨S,F,Pp,xs,h1,h2,h3,h4,h5⟩:=h.ex
 exact {h with ex:=⟨S,F,Pp,xs,k.tup h1,k.lst h2,h3.kp k,k.lst h4,k.lst h5⟩}
theorem nodup_le:∀{fs ks:List Str},fs.Nodup→(∀f∈fs,f∈ks)→fs.length≤ks.length
 | [],_,_,_=>Nat.zero_le _
 | f :: fs,ks,h,s=>by
  have hf:=s f List.mem_cons_self
  obtain ⟨a,b,rfl⟩:=List.append_of_mem hf
  have:=nodup_le (fs:=fs) (ks:=a ++ b) (List.nodup_cons.mp h).2 fun g hg=>by
   have:=s g (List.mem_cons_of_mem _ hg)
   rcases List.mem_append.mp this with z | z
   ·exact List.mem_append_left _ z
   ·rcases List.mem_cons.mp z with rfl | z
    ·exact absurd hg (List.nodup_cons.mp h).1
    ·exact List.mem_append_right _ z
  simp only [List.length_append,List.length_cons] at this ⊢
  omega
theorem flat_len (ks:List Str) (f:Str→List Str) (n:Nat) (h:∀a,(f a).length=n):(ks.flatMap f).length=ks.length * n:=by
 induction ks with
 | nil=>simp
 | cons k ks ih=>rw [List.flatMap_cons,List.length_append,ih,h,List.length_cons,Nat.succ_mul,Nat.add_comm]
theorem prs_len (ks:List Str):(prs ks).length=ks.length * ks.length:=flat_len ks _ _ fun a=>by rw [List.length_map]
theorem Tg.flen {H:Hp} {t:Addr} {cs:List Nat} {fs ps:List Str} {lg:Int} (h:Tg H t cs fs ps lg):fs.length≤6:=by
 have:=nodup_le h.fnd h.fsub
 have:=h.c6
 unfold sgs at *
 rw [List.length_map] at *
 omega
theorem Tg.plen {H:Hp} {t:Addr} {cs:List Nat} {fs ps:List Str} {lg:Int} (h:Tg H t cs fs ps lg):ps.length≤36:=by
 have e:=nodup_le h.pnd h.psub
 have c6:=h.c6
 rw [prs_len] at e
 have:(sgs cs).length=cs.length:=List.length_map ..
 rw [this] at e
 exact Nat.le_trans e (Nat.mul_le_mul c6 c6)
theorem prs_snoc {ks:List Str} {i:Nat} {a:Str} (e:ks[i]? = some a):(ks.take (i + 1)).flatMap (fun a=>ks.map fun b=>a ++ b)=(ks.take i).flatMap (fun a=>ks.map fun b=>a ++ b) ++ ks.map fun b=>a ++ b:=by
 rw [List.take_add_one,e,List.flatMap_append]
 simp
section
variable {P:Program} {w:World} {K:PySem.W.Frag} {mg:Str→Option Value} {base:Heap}
def spLook (T1 T2:Addr) (Ts:List Addr):Sp:=fun vs H Q _=>∃(t:Addr) (cs:List Nat) (fs ps:List Str) (lg:Int),vs=[.ref t]∧Tg H t cs fs ps lg∧Tab T1 H∧TabL T2 Ts H∧∀H',Kp H H'→Tab T1 H'→TabL T2 Ts H'→Q .non H'
theorem scLk:FnScope ["thing","signs","firsts","pairs","longest","letters"] ["thing"] (defScope sLook):=⟨rfl,rfl,rfl,by decide +kernel,rfl,by decide +kernel,by decide +kernel⟩
theorem ok_look {T1 T2 f fS fO fU fI:Addr} {Ts:List Addr} {fd fdS fdO fdU fdI:FuncData} {tk:Tok} (F:FunG K "look_at_tongue" "look_at_tongue" sLook .none f fd) (B:Bl mg) (mM:mg "LONGEST_WORD" = some (.int 8 tk))
  (GS:FnOk P w K mg base (CXE P w) 6 fS fdS ["thing"] (spSigns T1 T2 Ts)) (mS:mg "are_signs" = some (.ref fS)) (kS:PySem.W.keepIn K (.ref fS)=true) (bS:Binds K fdS ["thing"] [])
  (GO:FnOk P w K mg base (CXE P w) 1 fO fdO ["tongue"] (spSignsOf K)) (mO:mg "signs_of" = some (.ref fO)) (kO:PySem.W.keepIn K (.ref fO)=true) (bO:Binds K fdO ["tongue"] [])
  (GU:FnOk P w K mg base (CXE P w) 1 fU fdU ["choices","thing"] (spUnlike K)) (mU:mg "are_unlike_texts_of" = some (.ref fU)) (kU:PySem.W.keepIn K (.ref fU)=true) (bU:Binds K fdU ["choices","thing"] [])
  (GI:FnOk P w K mg base (CXE P w) 2 fI fdI ["thing","least","most"] spWithin) (mI:mg "is_whole_within" = some (.ref fI)) (kI:PySem.W.keepIn K (.ref fI)=true) (bI:Binds K fdI ["thing","least","most"] []) :
  FnOk P w K mg base (CXE P w) 7 f fd ["thing"] (spLook T1 T2 Ts):=by
 refine F.zokN scLk (fun vs H Q E h=>?_) (fun cdv A outer s H vs Q E hr h=>?_)
 ·obtain ⟨t,cs,fs,ps,lg,rfl,_⟩:=h
  rfl
 ·obtain ⟨t,cs,fs,ps,lg,rfl,hg,ht1,ht2,q⟩:=h
  have hr1:Room 1 _:=hr.mono (by decide)
  have hr2:Room 2 _:=hr.mono (by decide)
  refine ⟨_,zpss_cons (zps_if (zpw_or (zpt_not (zpt_val (zpe_callB call_isi (by rfl) B.isi boot_isi (zpac_n (zpv 0) (zpac_n (zpe_bltn (by rfl) B.tuple boot_tuple (v:=.ty "tuple") rfl) zpa_nil)))))
    (zpw_or1 (zpt_cmpR op_ne (zpe_callB call_len_seq (by rfl) B.len PySem.boot_len (zpac_n (zpv 0) zpa_nil)) zpe_int (nomark _)))).pt zpss_never zpss_nil)
   (zpss_cons (zps_asg (zpv 0) (zpg_tup rfl (zpgs_cons (zpg_name (i:=1) scLk.nd rfl (Or.inl rfl)) (zpgs_cons (zpg_name (i:=2) scLk.nd rfl (Or.inl rfl)) (zpgs_cons (zpg_name (i:=3) scLk.nd rfl (Or.inl rfl)) (zpgs_cons (zpg_name (i:=4) scLk.nd rfl (Or.inl rfl)) zpgs_nil))))))
   (zpss_cons (zps_if (zpt_not (zpt_val (zpe_call GS hr (by rfl) mS kS bS .nil passE0 (zpac_n (zpv 1) zpa_nil)))) zpss_never zpss_nil)
   (zpss_cons (zps_set (i:=5) scLk.nd rfl (Or.inr rfl) (zpe_call GO hr1 (by rfl) mO kO bO .nil passE0 (zpac_n (zpv 0) zpa_nil)))
   (zpss_cons (zps_if (zpt_not (zpt_val (zpe_call GU hr1 (by rfl) mU kU bU .nil passE0 (zpac_n (zpv 5) (zpac_n (zpv 2) zpa_nil))))) zpss_never zpss_nil)
   (zpss_cons (zps_if (zpt_not (zpt_val (zpe_call GU hr1 (by rfl) mU kU bU .nil passE0 (zpac_x (zpe_comp2 ["thing","signs","firsts","pairs","longest","letters"] ["one","other"] [5] (defScope sLook) rfl rfl rfl ⟨by decide +kernel,by decide +kernel,by decide +kernel,by decide +kernel,by decide +kernel⟩ (zpi_list (zpv 5))
      (fun s H fp=>zpg_name (i:=0) (show List.Nodup [("one" : Str),"other","letters"] by decide +kernel) rfl (Or.inl rfl)) (fun s H fp=>zpts_nil)
      (fun s H fp=>zpi_listK K rfl (zpv 2)) (fun s H fp=>zpg_name (i:=1) (show List.Nodup [("one" : Str),"other","letters"] by decide +kernel) rfl (Or.inl rfl)) (fun s H fp=>zpts_nil)
      (fun s H fp=>zpe_op op_add_str (zpv 0) (zpv 1))) (zpac_n (zpv 3) zpa_nil))))) zpss_never zpss_nil)
   (zpss_one (zps_if (zpt_not (zpt_val (zpe_call GI hr2 (by rfl) mI kI bI .nil passE0 (zpac_n (zpv 4) (zpac_c zpe_int (zpac_n (zpe_glob (by rfl) mM (v:=.int 8) ⟨_,rfl⟩) zpa_nil)))))) zpss_never zpss_nil))))))),?_⟩
  obtain ⟨S,F',Pp,xs,g1,g2,g3,g4,g5⟩:=hg.ex
  refine ⟨_,rfl,_,_,_,true,rfl,.of (.tup g1),.inl ⟨_,rfl,kt1⟩,_,rfl,iteF ?_⟩
  refine ⟨_,rfl,t,_,rfl,.inr (SqT.of g1),rfl,_,rfl,iteF ?_⟩
  refine ⟨_,rfl,t,_,rfl,SqT.of g1,rfl,_,_,rfl,_,_,rfl,_,_,rfl,_,_,rfl,rfl,?_⟩
  refine ⟨_,rfl,S,xs,cs,rfl,g2,g3,hg.nd,hg.c2,hg.c6,ht1,ht2,fun H1 k1 a1 b1=>⟨_,rfl,iteF ?_⟩⟩
  refine ⟨_,rfl,t,S,_,_,_,xs,cs,rfl,SqT.of (k1.tup g1),k1.lst g2,g3.kp k1,hg.c6,fun l H2 hl s2 hl2=>?_⟩
  have k2:Kp H H2:=k1.trans (Kp.same s2)
  refine ⟨_,rfl,_,rfl,l,F',sgs cs,fs,rfl,hl2,k2.lst g4,hg.fnd,hg.fsub,Nat.le_trans hg.flen (by decide),fun H3 s3=>⟨_,rfl,iteF ?_⟩⟩
  have k3:=k2.trans (Kp.same s3)
  have hl3:=s3 _ _ hl2
  refine ⟨_,rfl,l,rfl,⟨_,SqL.of hl3⟩,fun p hp=>?_⟩
  have kl:(sgs cs).length≤6:=by unfold sgs; rw [List.length_map]; exact hg.c6
  refine ⟨fun i m σ2 H4=>i≤(sgs cs).length∧m=(sgs cs).length - i∧(∃v1 v2,σ2=[v1,v2,some (.ref l)])∧H4 p=some (.lst (txs (((sgs cs).take i).flatMap fun a=>(sgs cs).map fun b=>a ++ b)))∧Same H3 H4,
   ⟨_,Nat.zero_le _,rfl,⟨_,_,rfl⟩,upd_same,same_upd hp⟩,?_⟩
  rintro i m σ2 H4 ⟨hi,rfl,⟨v1,v2,rfl⟩,hp4,s4⟩
  have hl4:=s4 _ _ hl3
  have len:(txs (sgs cs)).length=(sgs cs).length:=List.length_map ..
  by_cases hlt:i < (sgs cs).length
  ·refine .inr ⟨⟨_,_,SqL.of hl4,List.getElem?_eq_getElem (show i < (txs (sgs cs)).length by rw [len]; exact hlt)⟩,?_⟩
   rintro x H5 ⟨rfl,hx⟩
   obtain ⟨a,ha,rfl⟩:∃a,(sgs cs)[i]? = some a∧x = .str a:=by
    have hx:=hx _ (SqL.of hl4)
    unfold txs at hx
    rw [List.getElem?_map] at hx
    obtain ⟨t,h1,h2⟩:=Option.map_eq_some_iff.mp hx
    exact ⟨t,h1,h2.symm⟩
   dsimp only [gName]
   rw [if_pos rfl]
   refine ⟨_,rfl,l,rfl,⟨_,SqL.of hl4⟩,?_⟩
   refine ⟨fun j m σ3 H6=>j≤(sgs cs).length∧m=(sgs cs).length - j∧(∃v2,σ3=[some (.str a),v2,some (.ref l)])∧H6 p=some (.lst (txs (((sgs cs).take i).flatMap (fun a=>(sgs cs).map fun b=>a ++ b) ++ ((sgs cs).take j).map fun b=>a ++ b)))∧Same H3 H6,
    ⟨_,Nat.zero_le _,rfl,⟨_,rfl⟩,by simpa using hp4,s4⟩,?_⟩
   rintro j m σ3 H6 ⟨hj,rfl,⟨v2,rfl⟩,hp6,s6⟩
   have hl6:=s6 _ _ hl3
   by_cases hjt:j < (sgs cs).length
   ·refine .inr ⟨⟨_,_,SqL.of hl6,List.getElem?_eq_getElem (show j < (txs (sgs cs)).length by rw [len]; exact hjt)⟩,?_⟩
    rintro y H7 ⟨rfl,hy⟩
    obtain ⟨b,hb,rfl⟩:∃b,(sgs cs)[j]? = some b∧y = .str b:=by
     have hy:=hy _ (SqL.of hl6)
     unfold txs at hy
     rw [List.getElem?_map] at hy
     obtain ⟨t,h1,h2⟩:=Option.map_eq_some_iff.mp hy
     exact ⟨t,h1,h2.symm⟩
    have one:∀z∈sgs cs,z.length=1:=fun z hz=>by
     obtain ⟨c,_,rfl⟩:=List.mem_map.mp hz
     rfl
    dsimp only [gName]
    rw [if_pos rfl]
    refine ⟨_,rfl,_,rfl,a,b,rfl,rfl,?_,_,hp6,?_,(sgs cs).length - (j + 1),by omega,hjt,rfl,⟨_,rfl⟩,?_,?_⟩
    ·rw [one a (List.mem_of_getElem? ha),one b (List.mem_of_getElem? hb)]; decide
    ·unfold txs
     rw [List.length_map,List.length_append,flat_len _ _ (sgs cs).length (fun a=>by rw [List.length_map]),List.length_map,List.length_take,List.length_take]
     have:min i (sgs cs).length * (sgs cs).length≤6 * 6:=Nat.mul_le_mul (by omega) kl
     exact Nat.lt_of_le_of_lt (show _≤42 by omega) (by decide)
    ·have:((sgs cs).take i).flatMap (fun a=>(sgs cs).map fun b=>a ++ b) ++ ((sgs cs).take (j + 1)).map (fun b=>a ++ b)=(((sgs cs).take i).flatMap (fun a=>(sgs cs).map fun b=>a ++ b) ++ ((sgs cs).take j).map fun b=>a ++ b) ++ [a ++ b]:=by
      rw [List.take_add_one,hb,List.map_append,List.append_assoc]; rfl
     rw [this]
     unfold txs
     rw [List.map_append (l₂:=[a ++ b])]
     exact upd_same
    ·intro c o hc
     rw [upd_ne (ne_of_none hc hp)]; exact s6 c o hc
   ·have e:j=(sgs cs).length:=by omega
    subst e
    refine .inl ⟨⟨_,SqL.of hl6,by rw [len]; exact Nat.le_refl _⟩,(sgs cs).length - (i + 1),by omega,hlt,rfl,⟨_,_,rfl⟩,?_,s6⟩
    rw [prs_snoc ha]
    rw [List.take_length] at hp6
    exact hp6
  ·have e:i=(sgs cs).length:=by omega
   subst e
   refine .inl ⟨⟨_,SqL.of hl4,by rw [len]; exact Nat.le_refl _⟩,?_⟩
   rw [List.take_length] at hp4
   have k4:=k3.trans (Kp.same s4)
   refine ⟨_,rfl,p,Pp,prs (sgs cs),ps,rfl,hp4,k4.lst g5,hg.pnd,hg.psub,Nat.le_trans hg.plen (by decide),fun H5 s5=>⟨_,rfl,iteF ?_⟩⟩
   have k5:=k4.trans (Kp.same s5)
   refine ⟨_,rfl,.int lg,1,8,rfl,.int lg,_,rfl,?_⟩
   have:inB (.int lg) 1 8=true:=by
    show (decide (1≤lg) && decide (lg≤8))=true
    rw [decide_eq_true hg.l1,decide_eq_true hg.l8]; rfl
   rw [this]
   have sT:Same H1 H5:=((s2.trans s3).trans s4).trans s5
   exact iteF (q H5 k5 (a1.same sT) (b1.same sT))
end
end G1
namespace L2
open PySem PySem.Spec PyProof.Rows
end L2
namespace G1
open PySem L2 GM
section
variable {P:Program} {w:World} {K:PySem.W.Frag} {mg:Str→Option Value} {base:Heap}
def spPool (K:PySem.W.Frag):Sp:=fun vs H Q _=>∃(a:Addr) (ns:List Int) (k:Int),vs=[.ref a,.int k]∧SqL K H a (ns.map V.int)∧0≤k∧k≤1000∧∀p H',H p=none→Src H' p→(∀b,b≠p→H' b=H b)→Q (.ref p) H'
theorem scPo:FnScope ["_law_script","_law_k","_law_cell","_law_seed"] ["_law_script","_law_k"] (defScope sPool):=⟨rfl,rfl,rfl,by decide +kernel,rfl,by decide +kernel,by decide +kernel⟩
theorem ok_pool {f:Addr} {fd:FuncData} (F:FunG K "_law_pool" "_law_pool" sPool .none f fd) (B:Bl mg):FnOk P w K mg base (CXE P w) 1 f fd ["_law_script","_law_k"] (spPool K):=by
 refine F.zokN scPo (fun vs H Q E h=>?_) (fun cdv A outer s H vs Q E hr h=>?_)
 ·obtain ⟨a,ns,k,rfl,_⟩:=h
  rfl
 ·obtain ⟨a,ns,k,rfl,ha,k0,k1,q⟩:=h
  refine ⟨_,(zpss_cons (zps_set (i:=2) scPo.nd rfl (Or.inl rfl) zpe_int)
   (zpss_cons (zps_cut (zps_if (zpt_cmpR op_lt (zpv 1) (zpe_callB call_len_seq (by rfl) B.len PySem.boot_len (zpac_n (zpv 0) zpa_nil)) (nomark _)) (zpss_one (zps_set (i:=2) scPo.nd rfl (Or.inl rfl) (zpe_ix ix_list (zpv 0) (zpv 1) (fun _ _=>rfl)))) zpss_nil))
   (zpss_cons (zps_set (i:=3) scPo.nd rfl (Or.inl rfl) (zpe_op op_mod (zpe_op op_mul (zpe_op op_add (zpe_op op_add (zpe_op op_mod (zpv 2) zpe_int) (zpe_op op_mul (zpe_op op_mul zpe_int (zpv 1)) (zpv 1))) zpe_int) zpe_int) zpe_int))
   (zpss_cons (zps_cut (zps_if (zpt_cmpR op_lt (zpv 2) (zpe_op op_pow zpe_int zpe_int) (nomark _)) (zpss_one (zps_set (i:=2) scPo.nd rfl (Or.inl rfl) zpe_int)) zpss_nil))
   (zpss_one (zps_ret (zpe_lst (zpac_n (zpv 2) (zpac_n (zpv 3) zpa_nil))))))))),?_⟩
  refine ⟨fun σ H2=>H2=H∧∃z:Int,σ=[some (.ref a),some (.int k),some (.int z),none],?_,?_⟩
  ·refine ⟨_,rfl,_,rfl,a,_,rfl,.inl ha,_,_,rfl,rfl,_,rfl,?_⟩
   refine ite2 (fun e=>?_) (fun _=>⟨rfl,_,rfl⟩)
   have lt:=of_decide_eq_true e
   obtain ⟨n,rfl⟩:=Int.eq_ofNat_of_zero_le k0
   rw [List.length_map] at lt
   have hn:n < ns.length:=by omega
   exact ⟨_,rfl,_,rfl,a,_,_,_,rfl,rfl,ha,atI_nat (v:=.int ns[n]) (by simp [hn]),rfl,_,rfl⟩
  ·rintro σ H2 ⟨rfl,z,rfl⟩
   refine ⟨_,rfl,_,_,rfl,rfl,(by show (0:Int) < 1000000007; decide),_,rfl,_,_,rfl,rfl,.inl ⟨by decide,by decide⟩,_,rfl,_,_,rfl,rfl,.inr ⟨by omega,by omega⟩,_,_,rfl,rfl,_,_,rfl,rfl,_,_,rfl,rfl,.inr ⟨by decide,by decide⟩,_,_,rfl,rfl,(by show (0:Int) < 2147483647; decide),?_⟩
   refine ⟨fun σ H3=>H3=H2∧∃z s:Int,σ=[some (.ref a),some (.int k),some (.int z),some (.int s)]∧0≤z∧0≤s∧s < 2147483647,?_,?_⟩
   ·refine ⟨_,rfl,_,_,rfl,rfl,⟨by decide,by decide,by decide⟩,_,_,rfl,rfl,_,rfl,?_⟩
    have s0:∀y:Int,(0:Int)≤y % 2147483647:=fun y=>Int.emod_nonneg _ (by decide)
    have s1:∀y:Int,y % 2147483647 < 2147483647:=fun y=>Int.emod_lt_of_pos _ (by decide)
    refine ite2 (fun e=>?_) (fun e=>?_)
    ·exact ⟨rfl,0,_,rfl,by decide,s0 _,s1 _⟩
    ·have:¬z < 10 ^ (18:Int).toNat:=fun y=>e (decide_eq_true y)
     have h18:(10:Int) ^ (18:Int).toNat=1000000000000000000:=by decide
     exact ⟨rfl,z,_,rfl,by omega,s0 _,s1 _⟩
   ·rintro σ H3 ⟨rfl,z,s,rfl,z0,s0,s1⟩
    refine ⟨_,rfl,_,rfl,by show 2≤sizeLine; decide,fun p hp=>?_⟩
    exact q p _ hp ⟨_,_,upd_same,z0,s0,s1⟩ fun b hb=>upd_ne hb
def spLow:Sp:=fun vs H Q _=>∃a b:Int,vs=[.int a,.int b]∧0≤a∧0 < b∧b.natAbs < big∧∀p c d,H p=none→FracOf a b c d→0≤c→Q (.ref p) (upd H p (.tup [.int c,.int d]))
theorem scLo:FnScope ["_law_top","_law_bottom","_law_one","_law_other"] ["_law_top","_law_bottom"] (defScope sLow):=⟨rfl,rfl,rfl,by decide +kernel,rfl,by decide +kernel,by decide +kernel⟩
theorem ok_low {f:Addr} {fd:FuncData} (F:FunG K "_law_low" "_law_low" sLow .none f fd):FnOk P w K mg base (CXE P w) 1 f fd ["_law_top","_law_bottom"] spLow:=by
 refine F.zokN scLo (fun vs H Q E h=>?_) (fun cdv A outer s H vs Q E hr h=>?_)
 ·obtain ⟨a,b,rfl,_⟩:=h
  rfl
 ·obtain ⟨a,b,rfl,a0,hb,hbb,q⟩:=h
  refine ⟨_,(zpss_cons (zps_par (i:=2) (j:=3) rfl scLo.nd rfl rfl (by decide) rfl rfl (zpac_n (zpv 0) (zpac_n (zpv 1) zpa_nil)) rfl)
   (zpss_cons (zps_while PassesOwn.never (zpt_cmpR op_ne (zpv 3) zpe_int (nomark _)) (zpss_one (zps_par (i:=2) (j:=3) rfl scLo.nd rfl rfl (by decide) rfl rfl (zpac_n (zpv 3) (zpac_b (zpe_op op_mod (zpv 2) (zpv 3)) zpa_nil)) rfl)))
   (zpss_one (zps_ret (zpe_tup (zpac_b (zpe_op op_fdivB (zpv 0) (zpv 2)) (zpac_b (zpe_op op_fdivB (zpv 1) (zpv 2)) zpa_nil))))))),?_⟩
  refine ⟨_,rfl,_,rfl,_,_,rfl,?_⟩
  refine while_by (fun σ H'=>H'=H∧∃m n:Nat,σ=[some (.int a),some (.int b),some (.int m),some (.int n)]∧Nat.gcd m n=Nat.gcd a.natAbs b.natAbs) (fun σ _=>match σ with | [_,_,_,some (.int n)]=>n.toNat | _=>0)
   ⟨rfl,a.natAbs,b.natAbs,?_,rfl⟩ ?_ ?_
  ·rw [show ((a.natAbs:Nat):Int)=a by omega,show ((b.natAbs:Nat):Int)=b by omega]; rfl
  ·rintro σ H' ⟨rfl,m,n,rfl,hg⟩
   refine ⟨_,rfl,rfl,_,rfl,?_⟩
   by_cases n0:n=0
   ·rw [show (!decide (V.int (n:Int)=V.int 0))=false by rw [n0]; rfl]
    refine iteF ?_
    rw [n0,Nat.gcd_zero_right] at hg
    have mg:(m:Int)=gd a b:=by unfold gd; rw [hg]
    have nb:b≠0:=by omega
    have gp:=gd_pos (a:=a) nb
    have gl:=gd_le (a:=a) nb
    obtain ⟨c,d,e1,e2,e3,e4,dp,gg,la,lb⟩:=parted (a:=a) (b:=b) (g:=(m:Int)) nb (.inl mg) (by omega)
    have g0:(m:Int)≠0:=by omega
    have gb:(m:Int).natAbs < big:=Nat.lt_of_le_of_lt (by omega) hbb
    refine ⟨_,rfl,_,rfl,_,_,rfl,rfl,⟨g0,gb⟩,_,rfl,_,rfl,_,_,rfl,rfl,⟨g0,gb⟩,by show 2≤sizeLine; decide,fun p hp=>?_⟩
    show Q (V.ref p) (upd H' p (HO.tup [V.int (a.fdiv m),V.int (b.fdiv m)]))
    rw [e1,e2]
    refine q p c d hp ⟨⟨m,g0,e3,e4⟩,dp,gg,la,lb⟩ ?_
    have gpos:(0:Int) < m:=by omega
    rcases Int.lt_or_le c 0 with z | z
    ·have:=Int.mul_neg_of_pos_of_neg gpos z
     omega
    ·exact z
   ·rw [show (!decide (V.int (n:Int)=V.int 0))=true by
     have:V.int (n:Int)≠V.int 0:=fun z=>by injection z with z; omega
     rw [decide_eq_false this]; rfl]
    have hn':(0:Int) < n:=by omega
    refine iteT ⟨_,rfl,_,rfl,_,rfl,_,_,rfl,rfl,hn',_,_,rfl,⟨rfl,n,m % n,?_,?_⟩,?_⟩
    ·show [some (V.int a),some (V.int b),some (V.int n),some (V.int ((m:Int) % n))]=_
     rw [← Int.natCast_emod]
    ·rw [gcd_step]; exact hg
    ·show ((m:Int) % n).toNat < (n:Int).toNat
     have:=Int.emod_lt_of_pos (m:Int) hn'
     have:=Int.emod_nonneg (m:Int) (show (n:Int)≠0 by omega)
     omega
  ·rintro σ H' Q1 Q2 h ⟨v,e,i,x,e3,z⟩
   exact ⟨v,e,i,x,e3,h _ _ z⟩
end
theorem pw9:(10:Int) ^ (9:Int).toNat=1000000000:=by decide
theorem pick3 {d:Int} (h0:0≤d) (h1:d < 3):∃m:Int,atI [V.int 3,V.int 12,V.int ((10:Int) ^ (8:Int).toNat)] d=some (.int m)∧0 < m∧m≤100000000:=by
 rcases (show d=0∨d=1∨d=2 by omega) with rfl | rfl | rfl
 ·exact ⟨3,rfl,by decide,by decide⟩
 ·exact ⟨12,rfl,by decide,by decide⟩
 ·exact ⟨(10:Int) ^ (8:Int).toNat,rfl,by decide,by decide⟩
theorem pick4b {d:Int} (h0:0≤d) (h1:d < 4):∃m:Int,atI [V.int 1,V.int 1,V.int 12,V.int ((10:Int) ^ (8:Int).toNat)] d=some (.int m)∧0 < m∧m≤100000000:=by
 rcases (show d=0∨d=1∨d=2∨d=3 by omega) with rfl | rfl | rfl | rfl
 ·exact ⟨1,rfl,by decide,by decide⟩
 ·exact ⟨1,rfl,by decide,by decide⟩
 ·exact ⟨12,rfl,by decide,by decide⟩
 ·exact ⟨(10:Int) ^ (8:Int).toNat,rfl,by decide,by decide⟩
theorem Src.same {H H':Hp} {p:Addr} (s:Src H p) (k:Same H H'):Src H' p:=by
 obtain ⟨a,b,h,r⟩:=s.ex
 exact ⟨a,b,k _ _ h,r⟩
theorem Ext.same {H H':Hp} {p:Addr} (k:Same H H'):Ext p H H':=fun b o _ e=>k b o e
section
variable {P:Program} {w:World} {K:PySem.W.Frag} {mg:Str→Option Value} {base:Heap}
def spPrice:Sp:=fun vs H Q _=>∃p:Addr,vs=[.ref p]∧Src H p∧∀x H',PrA H' x→Src H' p→Ext p H H'→Q x H'
theorem scPr:FnScope ["_law_pool_here","_law_way","_law_top","_law_bottom"] ["_law_pool_here"] (defScope sPrice):=⟨rfl,rfl,rfl,by decide +kernel,rfl,by decide +kernel,by decide +kernel⟩
theorem ok_price {f fD fL:Addr} {fd fdD fdL:FuncData} (F:FunG K "_law_price" "_law_price" sPrice .none f fd)
  (GD:FnOk P w K mg base (CXE P w) 1 fD fdD ["_law_pool_here","_law_many"] spDraw) (mD:mg "_law_take" = some (.ref fD)) (kD:PySem.W.keepIn K (.ref fD)=true) (bD:Binds K fdD ["_law_pool_here","_law_many"] [])
  (GL:FnOk P w K mg base (CXE P w) 1 fL fdL ["_law_top","_law_bottom"] spLow) (mL:mg "_law_low" = some (.ref fL)) (kL:PySem.W.keepIn K (.ref fL)=true) (bL:Binds K fdL ["_law_top","_law_bottom"] []) :
  FnOk P w K mg base (CXE P w) 2 f fd ["_law_pool_here"] spPrice:=by
 refine F.zokN scPr (fun vs H Q E h=>?_) (fun cdv A outer s H vs Q E hr h=>?_)
 ·obtain ⟨p,rfl,_⟩:=h
  rfl
 ·obtain ⟨p,rfl,hs,q⟩:=h
  refine ⟨_,(zpss_cons (zps_set (i:=1) scPr.nd rfl (Or.inl rfl) (zpe_call GD hr (by rfl) mD kD bD .nil passE0 (zpac_n (zpv 0) (zpac_c zpe_int zpa_nil))))
   (zpss_cons (zps_set (i:=2) scPr.nd rfl (Or.inl rfl) (zpe_op op_add zpe_int (zpe_call GD hr (by rfl) mD kD bD .nil passE0 (zpac_n (zpv 0) (zpac_s (zpe_ix ix_list (zpe_lst (zpac_c zpe_int (zpac_c zpe_int (zpac_b (zpe_op op_pow zpe_int zpe_int) zpa_nil)))) (zpv 1) (fun _ _=>rfl)) zpa_nil)))))
   (zpss_cons (zps_cut (zps_if (zpt_cmpR op_eq (zpv 1) zpe_int (nomark _)) (zpss_one (zps_set (i:=2) scPr.nd rfl (Or.inl rfl) (zpe_op op_sub (zpe_op op_pow zpe_int zpe_int) (zpv 2)))) zpss_nil))
   (zpss_cons (zps_set (i:=1) scPr.nd rfl (Or.inl rfl) (zpe_call GD hr (by rfl) mD kD bD .nil passE0 (zpac_n (zpv 0) (zpac_c zpe_int zpa_nil))))
   (zpss_cons (zps_set (i:=3) scPr.nd rfl (Or.inl rfl) (zpe_op op_add zpe_int (zpe_call GD hr (by rfl) mD kD bD .nil passE0 (zpac_n (zpv 0) (zpac_s (zpe_ix ix_list (zpe_lst (zpac_c zpe_int (zpac_c zpe_int (zpac_c zpe_int (zpac_b (zpe_op op_pow zpe_int zpe_int) zpa_nil))))) (zpv 1) (fun _ _=>rfl)) zpa_nil)))))
   (zpss_cons (zps_cut (zps_if (zpt_cmpR op_eq (zpv 1) zpe_int (nomark _)) (zpss_one (zps_set (i:=3) scPr.nd rfl (Or.inl rfl) (zpe_op op_sub (zpe_op op_pow zpe_int zpe_int) (zpv 3)))) zpss_nil))
   (zpss_one (zps_ret (zpe_call GL hr (by rfl) mL kL bL .nil passE0 (zpac_n (zpv 2) (zpac_n (zpv 3) zpa_nil))))))))))),?_⟩
  have lt:∀{m:Int},0 < m→m≤100000000→m.natAbs < big:=fun h0 h1=>Nat.lt_of_le_of_lt (show _≤100000000 by omega) (by decide +kernel)
  refine ⟨_,rfl,p,_,rfl,hs,by decide,by decide,fun d H1 d0 d1 s1 k1=>?_⟩
  refine ⟨_,rfl,_,_,rfl,rfl,⟨by decide,by decide,by decide⟩,by show 3≤sizeLine; decide,?_⟩
  (intro l gl; generalize hEq:upd _ l _=H2; refine newC hEq gl ?_; clear hEq; intro S2 el o2)
  obtain ⟨m,em,m0,m1⟩:=pick3 d0 d1
  refine ⟨_,rfl,l,_,_,_,rfl,rfl,SqL.of el,em,p,m,rfl,s1.same S2,m0,lt m0 m1,fun t H3 t0 t1 s3 k3=>⟨_,_,rfl,rfl,?_⟩⟩
  have E3:Ext p H H3:=((Ext.of_eq k1).trans (Ext.same S2)).trans (Ext.of_eq k3)
  refine ⟨fun σ H4=>H4=H3∧∃(v:Option V) (x:Int),σ=[some (.ref p),v,some (.int x),none]∧1≤x∧x≤999999999,?_,?_⟩
  ·refine ⟨_,rfl,rfl,_,rfl,ite2 (fun _=>?_) (fun _=>⟨rfl,_,_,rfl,by omega,by omega⟩)⟩
   refine ⟨_,_,rfl,rfl,⟨by decide,by decide,by decide⟩,_,rfl,_,_,rfl,rfl,rfl,_,_,rfl,?_,?_⟩
   ·rw [pw9]; omega
   ·rw [pw9]; omega
  rintro σ H4 ⟨rfl,v,x,rfl,x0,x1⟩
  refine ⟨_,rfl,p,_,rfl,s3,by decide,by decide,fun e H5 e0 e1 s5 k5=>?_⟩
  refine ⟨_,rfl,_,_,rfl,rfl,⟨by decide,by decide,by decide⟩,by show 4≤sizeLine; decide,?_⟩
  (intro l2 gl2; generalize hEq:upd _ l2 _=H6; refine newC hEq gl2 ?_; clear hEq; intro S6 el2 o6)
  obtain ⟨m',em',m0',m1'⟩:=pick4b e0 e1
  refine ⟨_,rfl,l2,_,_,_,rfl,rfl,SqL.of el2,em',p,m',rfl,s5.same S6,m0',lt m0' m1',fun u H7 u0 u1 s7 k7=>⟨_,_,rfl,rfl,?_⟩⟩
  have E7:Ext p H H7:=((E3.trans (Ext.of_eq k5)).trans (Ext.same S6)).trans (Ext.of_eq k7)
  refine ⟨fun σ H8=>H8=H7∧∃(v:Option V) (y:Int),σ=[some (.ref p),v,some (.int x),some (.int y)]∧1≤y∧y≤999999999,?_,?_⟩
  ·refine ⟨_,rfl,rfl,_,rfl,ite2 (fun _=>?_) (fun _=>⟨rfl,_,_,rfl,by omega,by omega⟩)⟩
   refine ⟨_,_,rfl,rfl,⟨by decide,by decide,by decide⟩,_,rfl,_,_,rfl,rfl,rfl,_,_,rfl,?_,?_⟩
   ·rw [pw9]; omega
   ·rw [pw9]; omega
  rintro σ H8 ⟨rfl,v,y,rfl,y0,y1⟩
  refine ⟨_,rfl,_,rfl,x,y,rfl,by omega,by omega,?_,fun o c d ho fr c0=>?_⟩
  ·exact Nat.lt_of_le_of_lt (show y.natAbs≤999999999 by omega) (by decide +kernel)
  have c1:=fr.top
  have d1:=fr.bot
  have d2:=fr.pos
  refine q _ _ ⟨o,c,d,rfl,upd_same,?_,d2,fr.low,by omega,by omega⟩ (s7.new ho) (E7.trans (Ext.new ho))
  obtain ⟨g,g0,ga,_⟩:=fr.g
  by_cases z:c=0
  ·rw [z,Int.mul_zero] at ga; omega
  ·omega
end
def ltr (j:Nat):Nat:=letters.cps.toList.getD j 97
theorem ltr_occ:∀j:Fin 26,occ (ltr j.val)=true:=by decide +kernel
theorem ltr_at {j:Nat} (h:j < 26):atI letters.cps.toList (j:Int)=some (ltr j):=by
 have l:letters.cps.toList.length=26:=by decide +kernel
 refine atI_nat (v:=ltr j) ?_
 unfold ltr
 rw [List.getD_eq_getElem?_getD,List.getElem?_eq_getElem (by omega)]; rfl
theorem ltr_inj:∀i j:Fin 26,ltr i.val=ltr j.val→i=j:=by decide +kernel
def lts (sh st:Nat) (i:Nat):Nat:=ltr ((sh + st * i) % 26)
theorem cop:∀(st:Fin 4) (i j:Fin 8),(([1,3,7,25].getD st.val 1) * i.val) % 26=(([1,3,7,25].getD st.val 1) * j.val) % 26→i=j:=by decide +kernel
theorem lts_nd {sh st n:Nat} (hs:∃k:Nat,k < 4∧st=[1,3,7,25].getD k 1) (hn:n≤8):((List.range n).map (lts sh st)).Nodup:=by
 obtain ⟨k,hk,rfl⟩:=hs
 refine List.Pairwise.map _ (R:=fun i j=>i < 8∧j < 8∧i≠j) (fun i j h e=>?_) ?_
 ·obtain ⟨h1,h2,h3⟩:=h
  have e:ltr ((sh + [1,3,7,25].getD k 1 * i) % 26)=ltr ((sh + [1,3,7,25].getD k 1 * j) % 26):=e
  have e2:=ltr_inj ⟨_,Nat.mod_lt _ (by decide)⟩ ⟨_,Nat.mod_lt _ (by decide)⟩ e
  have e3:(sh + [1,3,7,25].getD k 1 * i) % 26=(sh + [1,3,7,25].getD k 1 * j) % 26:=congrArg Fin.val e2
  have e4:([1,3,7,25].getD k 1 * i) % 26=([1,3,7,25].getD k 1 * j) % 26:=by omega
  have:=cop ⟨k,hk⟩ ⟨i,h1⟩ ⟨j,h2⟩ e4
  exact h3 (by injection this)
 ·rw [List.pairwise_iff_getElem]
  intro i j hi hj hij
  rw [List.getElem_range,List.getElem_range]
  rw [List.length_range] at hi hj
  exact ⟨by omega,by omega,by omega⟩
theorem lts_occ {sh st i:Nat}:occ (lts sh st i)=true:=ltr_occ ⟨_,Nat.mod_lt _ (by decide)⟩
theorem pick4s {d:Int} (h0:0≤d) (h1:d < 4):∃m:Nat,atI [V.int 1,V.int 3,V.int 7,V.int 25] d=some (.int m)∧(∃k:Nat,k < 4∧m=[1,3,7,25].getD k 1)∧m≤25:=by
 rcases (show d=0∨d=1∨d=2∨d=3 by omega) with rfl | rfl | rfl | rfl
 ·exact ⟨1,rfl,⟨0,by decide,rfl⟩,by decide⟩
 ·exact ⟨3,rfl,⟨1,by decide,rfl⟩,by decide⟩
 ·exact ⟨7,rfl,⟨2,by decide,rfl⟩,by decide⟩
 ·exact ⟨25,rfl,⟨3,by decide,rfl⟩,by decide⟩
theorem txs_len (ts:List Str):(txs ts).length=ts.length:=by unfold txs; rw [List.length_map]
theorem txs_app (a b:List Str):txs (a ++ b)=txs a ++ txs b:=by unfold txs; rw [List.map_append]
theorem txs_take (a:List Str) (n:Nat):(txs a).take n=txs (a.take n):=by unfold txs; rw [List.map_take]
theorem txs_drop (a:List Str) (n:Nat):(txs a).drop n=txs (a.drop n):=by unfold txs; rw [List.map_drop]
theorem txs_at {a:List Str} {i:Nat} {t:Str} (h:a[i]? = some t):(txs a)[i]? = some (.str t):=by unfold txs; rw [List.getElem?_map,h]; rfl
def TupK (H H':Hp):Prop:=∀b xs,H b=some (.tup xs)→H' b=some (.tup xs)
theorem TupK.trans {H H1 H2:Hp} (a:TupK H H1) (b:TupK H1 H2):TupK H H2:=fun c xs e=>b c xs (a c xs e)
theorem TupK.same {H H':Hp} (s:Same H H'):TupK H H':=fun b xs e=>s b _ e
theorem TupK.draw {H H':Hp} {p:Addr} (s:Src H p) (k:Ext p H H'):TupK H H':=fun b xs e=>k b _ (fun z=>by
 obtain ⟨_,_,h,_⟩:=s.ex
 rw [z,h] at e; cases e) e
theorem TupK.set {H:Hp} {a:Addr} {xs ys:List V} (h:H a=some (.lst xs)):TupK H (upd H a (.lst ys)):=fun b zs e=>by
 rw [upd_ne (fun z=>by rw [z,h] at e; cases e)]; exact e
theorem PrA.tk {H H':Hp} {x:V} (h:PrA H x) (k:TupK H H'):PrA H' x:=by
 obtain ⟨a,n,d,e,ha,r⟩:=h.ex
 exact ⟨a,n,d,e,k _ _ ha,r⟩
theorem Row.tk {H H':Hp} {x:V} {c:Nat} (h:Row H x c) (k:TupK H H'):Row H' x c:=by
 obtain ⟨a,p,l,e,ha,hp,hl⟩:=h.ex
 exact ⟨⟨a,p,l,e,k _ _ ha,hp.tk k,hl.imp id fun z=>z.tk k⟩,h.oc⟩
theorem Rows.tk {H H':Hp} {xs:List V} {cs:List Nat} (h:Rows H xs cs) (k:TupK H H'):Rows H' xs cs:=⟨h.len,fun i x c e1 e2=>(h.row i x c e1 e2).tk k⟩
theorem Rows.snoc {H:Hp} {xs:List V} {cs:List Nat} {x:V} {c:Nat} (h:Rows H xs cs) (r:Row H x c):Rows H (xs ++ [x]) (cs ++ [c]):=by
 refine ⟨by rw [List.length_append,List.length_append,h.len]; rfl,fun i y d e1 e2=>?_⟩
 by_cases il:i < xs.length
 ·rw [List.getElem?_append_left il] at e1
  rw [List.getElem?_append_left (by rw [← h.len]; exact il)] at e2
  exact h.row i y d e1 e2
 ·rw [List.getElem?_append_right (by omega)] at e1
  rw [List.getElem?_append_right (by rw [← h.len]; omega),← h.len] at e2
  have z:i - xs.length=0:=by
   have:=(List.getElem?_eq_some_iff.mp e1).1
   simp at this; omega
  rw [z] at e1 e2
  cases e1; cases e2; exact r
theorem at_sg {cs:List Nat} {i:Nat} {x:V} (hi:(txs (sgs cs))[i]? = some x):∃c,cs[i]? = some c∧x = .str (sg1 c):=by
 unfold txs sgs at hi
 rw [List.getElem?_map,List.getElem?_map] at hi
 cases e:cs[i]? with
 | none=>rw [e] at hi; cases hi
 | some c=>rw [e] at hi; cases hi; exact ⟨c,rfl,rfl⟩
theorem at_ofV {xs:List V} {d:Int} (h0:0≤d) (h1:d < xs.length):∃c∈xs,atI xs d=some c:=by
 obtain ⟨n,rfl⟩:=Int.eq_ofNat_of_zero_le h0
 have hn:n < xs.length:=by omega
 exact ⟨xs[n],List.getElem_mem hn,atI_nat (List.getElem?_eq_getElem hn)⟩
section
variable {P:Program} {w:World} {K:PySem.W.Frag} {mg:Str→Option Value} {base:Heap}
def spTongue:Sp:=fun vs H Q _=>∃(p:Addr) (m k:Int),vs=[.ref p,.int m,.int k]∧Src H p∧2≤m∧m≤6∧1≤k∧k≤8∧∀t cs fs ps lg H',Tg H' t cs fs ps lg→t≠p→Src H' p→Ext p H H'→Q (.ref t) H'
theorem scTo:FnScope ["_law_pool_here","_law_most_signs","_law_most_long","_law_many","_law_shift","_law_step","_law_letters","_law_signs","_law_letter","_law_price_here","_law_last","_law_firsts","_law_pairs","_law_k","_law_pair"] ["_law_pool_here","_law_most_signs","_law_most_long"] (defScope sTongue):=⟨rfl,rfl,rfl,by decide +kernel,rfl,by decide +kernel,by decide +kernel⟩
theorem ok_tongue {f fD fR:Addr} {fd fdD fdR:FuncData} (F:FunG K "_law_tongue" "_law_tongue" sTongue .none f fd) (B:Bl mg)
  (GD:FnOk P w K mg base (CXE P w) 1 fD fdD ["_law_pool_here","_law_many"] spDraw) (mD:mg "_law_take" = some (.ref fD)) (kD:PySem.W.keepIn K (.ref fD)=true) (bD:Binds K fdD ["_law_pool_here","_law_many"] [])
  (GR:FnOk P w K mg base (CXE P w) 2 fR fdR ["_law_pool_here"] spPrice) (mR:mg "_law_price" = some (.ref fR)) (kR:PySem.W.keepIn K (.ref fR)=true) (bR:Binds K fdR ["_law_pool_here"] []) :
  FnOk P w K mg base (CXE P w) 3 f fd ["_law_pool_here","_law_most_signs","_law_most_long"] spTongue:=by
 refine F.zokN scTo (fun vs H Q E h=>?_) (fun cdv A outer s H vs Q E hr h=>?_)
 ·obtain ⟨p,m,k,rfl,_⟩:=h
  rfl
 ·obtain ⟨p,m,k,rfl,hs,m2,m6,k1,k8,q⟩:=h
  refine ⟨_,(zpss_cons (zps_set (i:=3) scTo.nd rfl (Or.inl rfl) (zpe_op op_add zpe_int (zpe_call GD (hr.mono (by decide)) (by rfl) mD kD bD .nil passE0 (zpac_n (zpv 0) (zpac_b (zpe_op op_sub (zpv 1) zpe_int) zpa_nil)))))
   (zpss_cons (zps_set (i:=4) scTo.nd rfl (Or.inr rfl) (zpe_call GD (hr.mono (by decide)) (by rfl) mD kD bD .nil passE0 (zpac_n (zpv 0) (zpac_c zpe_int zpa_nil))))
   (zpss_cons (zps_set (i:=5) scTo.nd rfl (Or.inr rfl) (zpe_ix ix_list (zpe_lst (zpac_c zpe_int (zpac_c zpe_int (zpac_c zpe_int (zpac_c zpe_int zpa_nil))))) (zpe_call GD (hr.mono (by decide)) (by rfl) mD kD bD .nil passE0 (zpac_n (zpv 0) (zpac_c zpe_int zpa_nil))) (fun _ _=>rfl)))
   (zpss_cons (zps_compL (i:=6) ["_law_pool_here","_law_most_signs","_law_most_long","_law_many","_law_shift","_law_step","_law_letters","_law_signs","_law_letter","_law_price_here","_law_last","_law_firsts","_law_pairs","_law_k","_law_pair"] ["_law_k"] [4,5] (defScope sTongue) rfl rfl rfl ⟨by decide +kernel,by decide +kernel,by decide +kernel,by decide +kernel,by decide +kernel⟩ scTo.nd rfl (Or.inl rfl) (zpi_range1 (by rfl) B.range (zpac_n (zpv 3) zpa_nil)) (fun s H fp=>(zpg_name (i:=0) (show List.Nodup [("_law_k" : Str),"_law_shift","_law_step"] by decide +kernel) rfl (Or.inl rfl))) (fun s H fp=>zpts_nil) (fun s H fp=>(zpe_ix ix_str zpe_str (zpe_op op_mod (zpe_op op_add (zpv 1) (zpe_op op_mul (zpv 2) (zpv 0))) zpe_int) (fun _ _=>rfl))))
   (zpss_cons (zps_set (i:=7) scTo.nd rfl (Or.inl rfl) (zpe_lst zpa_nil))
   (zpss_cons (zps_for PassesOwn.never rfl (zpi_list (zpv 6)) (zpg_name (i:=8) scTo.nd rfl (Or.inl rfl))
     (zpss_cons (zps_set (i:=9) scTo.nd rfl (Or.inl rfl) (zpe_call GR hr (by rfl) mR kR bR .nil passE0 (zpac_n (zpv 0) zpa_nil)))
   (zpss_cons (zps_set (i:=10) scTo.nd rfl (Or.inl rfl) (zpe_call GR hr (by rfl) mR kR bR .nil passE0 (zpac_n (zpv 0) zpa_nil)))
   (zpss_one (zps_expr (zpe_bm PySem.F.plainAttrs_list PySem.F.slot_list_append PySem.F.type_list_append mt_append (zpv 7) (zpac_t (zpe_tup (zpac_n (zpv 8) (zpac_n (zpv 9) (zpac_s (zpe_ix ix_list (zpe_lst (zpac_c zpe_non (zpac_n (zpv 9) (zpac_n (zpv 10) (zpac_n (zpv 10) (zpac_n (zpv 10) (zpac_n (zpv 10) zpa_nil))))))) (zpe_call GD (hr.mono (by decide)) (by rfl) mD kD bD .nil passE0 (zpac_n (zpv 0) (zpac_c zpe_int zpa_nil))) (fun _ _=>rfl)) zpa_nil)))) zpa_nil)))))))
   (zpss_cons (zps_compL (i:=11) ["_law_pool_here","_law_most_signs","_law_most_long","_law_many","_law_shift","_law_step","_law_letters","_law_signs","_law_letter","_law_price_here","_law_last","_law_firsts","_law_pairs","_law_k","_law_pair"] ["_law_letter"] [0] (defScope sTongue) rfl rfl rfl ⟨by decide +kernel,by decide +kernel,by decide +kernel,by decide +kernel,by decide +kernel⟩ scTo.nd rfl (Or.inl rfl) (zpi_list (zpv 6)) (fun s H fp=>(zpg_name (i:=0) (show List.Nodup [("_law_letter" : Str),"_law_pool_here"] by decide +kernel) rfl (Or.inl rfl))) (fun s H fp=>(zpts_one (zpt_cmpR op_eq (zpe_call GD (hr.mono (by decide)) (by rfl) mD kD bD .nil passE0 (zpac_n (zpv 1) (zpac_c zpe_int zpa_nil))) zpe_int (nomark _)))) (fun s H fp=>(zpv 0)))
   (zpss_cons (zps_set (i:=12) scTo.nd rfl (Or.inl rfl) (zpe_lst zpa_nil))
   (zpss_cons (zps_for PassesOwn.never rfl (zpi_range1 (by rfl) B.range (zpac_f (zpe_call GD (hr.mono (by decide)) (by rfl) mD kD bD .nil passE0 (zpac_n (zpv 0) (zpac_c zpe_int zpa_nil))) zpa_nil)) (zpg_name (i:=13) scTo.nd rfl (Or.inl rfl))
     (zpss_cons (zps_set (i:=14) scTo.nd rfl (Or.inl rfl) (zpe_op op_add_str (zpe_ix ix_list (zpv 6) (zpe_call GD (hr.mono (by decide)) (by rfl) mD kD bD .nil passE0 (zpac_n (zpv 0) (zpac_n (zpv 3) zpa_nil))) (fun _ _=>rfl)) (zpe_ix ix_list (zpv 6) (zpe_call GD (hr.mono (by decide)) (by rfl) mD kD bD .nil passE0 (zpac_n (zpv 0) (zpac_n (zpv 3) zpa_nil))) (fun _ _=>rfl))))
   (zpss_one (zps_if (zpt_cmpR op_notIn_seq (zpv 14) (zpv 12) rfl) (zpss_one (zps_expr (zpe_bm PySem.F.plainAttrs_list PySem.F.slot_list_append PySem.F.type_list_append mt_append (zpv 12) (zpac_n (zpv 14) zpa_nil)))) zpss_nil))))
   (zpss_one (zps_ret (zpe_tup (zpac_n (zpv 7) (zpac_s (zpe_step (zpv 11) (zpe_op op_sub zpe_int (zpe_op op_mul zpe_int (zpe_call GD (hr.mono (by decide)) (by rfl) mD kD bD .nil passE0 (zpac_n (zpv 0) (zpac_c zpe_int zpa_nil)))))) (zpac_n (zpv 12) (zpac_b (zpe_op op_add zpe_int (zpe_call GD (hr.mono (by decide)) (by rfl) mD kD bD .nil passE0 (zpac_n (zpv 0) (zpac_n (zpv 2) zpa_nil)))) zpa_nil)))))))))))))))),?_⟩
  refine ⟨_,rfl,_,rfl,_,_,rfl,rfl,p,_,rfl,hs,by omega,?_,fun d H1 d0 d1 s1 h1=>⟨_,_,rfl,rfl,?_⟩⟩
  ·exact Nat.lt_of_le_of_lt (show (m - 1).natAbs≤10 by omega) (by decide +kernel)
  obtain ⟨dn,rfl⟩:=Int.eq_ofNat_of_zero_le d0
  refine ⟨_,rfl,p,_,rfl,s1,by decide,by decide,fun sh H2 sh0 sh1 s2 h2=>?_⟩
  obtain ⟨shn,rfl⟩:=Int.eq_ofNat_of_zero_le sh0
  refine ⟨by show 4≤sizeLine; decide,?_⟩
  (intro M gM; generalize hEq:upd _ M _=H3; refine newC hEq gM ?_; clear hEq; intro S3 eM o3)
  refine ⟨_,rfl,p,_,rfl,s2.same S3,by decide,by decide,fun st H4 t0 t1 s4 h4=>?_⟩
  obtain ⟨mm,em,hm,m25⟩:=pick4s t0 t1
  refine ⟨M,_,_,_,rfl,rfl,SqL.of (by rw [h4 M (s2.ne gM)]; exact eM),em,?_⟩
  have E4:Ext p H H4:=(((Ext.of_eq h1).trans (Ext.of_eq h2)).trans (Ext.same S3)).trans (Ext.of_eq h4)
  refine ⟨_,rfl,_,rfl,by omega,by omega,?_⟩
  (intro D gD; generalize hEq:upd _ D _=H5; refine newC hEq gD ?_; clear hEq; intro S5 eD o5)
  have nE:((2:Int) + (dn:Int)).toNat=2 + dn:=by omega
  rw [nE]
  refine lr_range (fun i σ H'=>(∃v,σ=[v,some (.int shn),some (.int mm)])∧Same H4 H'∧H' D=some (.lst (txs (sgs ((List.range i).map (lts shn mm)))))) ⟨⟨_,rfl⟩,S5,eD⟩ ?_ ?_
  ·rintro u σ H' C hu ⟨⟨v,rfl⟩,k,hD⟩ nx
   have hu:u < 2 + dn:=hu
   have mod_:((shn:Int) + (mm:Int) * ((0:Int) + (u:Int))) % 26=(((shn + mm * u) % 26:Nat):Int):=by
    rw [Int.zero_add]
    show ((shn:Int) + (mm:Int) * (u:Int)) % ((26:Nat):Int)=_
    rw [← Int.natCast_mul,← Int.natCast_add,← Int.natCast_emod]
   refine ⟨_,rfl,_,rfl,_,rfl,_,_,rfl,rfl,.inl ⟨by omega,by omega⟩,_,_,rfl,rfl,_,_,rfl,rfl,(by show (0:Int) < 26; decide),letters,_,_,rfl,rfl,by decide,by rw [mod_]; exact ltr_at (Nat.mod_lt _ (by decide)),_,hD,?_,nx _ _ ⟨⟨_,rfl⟩,fun c o e=>?_,?_⟩⟩
   ·rw [txs_len]
    unfold sgs
    rw [List.length_map,List.length_map,List.length_range]
    exact Nat.lt_of_le_of_lt (show u≤8 by omega) (by decide)
   ·rw [upd_ne (ne_of_none e gD)]; exact k _ _ e
   ·rw [List.range_succ,List.map_append]
    unfold sgs
    rw [List.map_append,txs_app]; exact upd_same
  rintro σ5 H6 ⟨_,k6,hD6⟩
  generalize hcs:(List.range (2 + dn)).map (lts shn mm)=cs at hD6
  have nd:cs.Nodup:=by rw [← hcs]; exact lts_nd hm (by omega)
  have cl:cs.length=2 + dn:=by rw [← hcs,List.length_map,List.length_range]
  have coc:∀c∈cs,occ c=true:=fun c hc=>by
   rw [← hcs] at hc
   obtain ⟨i,_,rfl⟩:=List.mem_map.mp hc
   exact lts_occ
  have s6:=s4.same k6
  have E6:=E4.trans (Ext.same k6)
  have Dp:D≠p:=s4.ne gD
  refine ⟨by show 0≤sizeLine; decide,?_⟩
  (intro S gS; generalize hEq:upd _ S _=H7; refine newC hEq gS ?_; clear hEq; intro S7 eS o7)
  have Sp_:S≠p:=s6.ne gS
  refine ⟨_,rfl,D,rfl,⟨_,SqL.of (S7 _ _ hD6)⟩,for_list (K:=K) (a:=D) (xs:=txs (sgs cs)) (fun i σ H'=>(∃v8 v9 v10,σ=[some (.ref p),some (.int m),some (.int k),some (.int (2 + (dn:Int))),some (.int shn),some (.int mm),some (.ref D),some (.ref S),v8,v9,v10,none,none,none,none])∧(∃xs,H' S=some (.lst xs)∧Rows H' xs (cs.take i))∧Src H' p∧Ext p H6 H') ⟨⟨_,_,_,rfl⟩,⟨[],eS,⟨rfl,fun i x c e=>by simp at e⟩⟩,s6.same S7,Ext.same S7⟩ ?_ ?_ ?_⟩
  ·rintro i σ H' _ ⟨_,_,_,e⟩
   exact SqL.of (e _ _ Dp hD6)
  ·rintro i x σ H8 hi ⟨⟨v8,v9,v10,rfl⟩,⟨xs,hS8,rows⟩,s8,E8⟩
   obtain ⟨c,hc,rfl⟩:=at_sg hi
   have il:=(List.getElem?_eq_some_iff.mp hc).1
   refine ⟨_,rfl,p,rfl,s8,fun x H9 px s9 E9=>?_⟩
   refine ⟨_,rfl,p,rfl,s9,fun y H10 py s10 E10=>?_⟩
   have E810:=E9.trans E10
   have hS10:=E810 _ _ Sp_ hS8
   refine ⟨_,rfl,.inl ⟨rfl,_,SqL.of hS10⟩,_,rfl,_,rfl,_,rfl,_,rfl,_,rfl,_,rfl,_,rfl,by show 6≤sizeLine; decide,?_⟩
   (intro l gl; generalize hEq:upd _ l _=H11; refine newC hEq gl ?_; clear hEq; intro S11 el o11)
   refine ⟨_,rfl,p,_,rfl,s10.same S11,by decide,by decide,fun e H12 e0 e1 s12 h12=>?_⟩
   obtain ⟨z,mz,ez⟩:=at_ofV e0 (show e < ([V.non,x,y,y,y,y]:List V).length from e1)
   refine ⟨l,_,_,z,rfl,rfl,SqL.of (by rw [h12 l (s10.ne gl)]; exact el),ez,by show 3≤sizeLine; decide,?_⟩
   (intro t gt; generalize hEq:upd _ t _=H13; refine newC hEq gt ?_; clear hEq; intro S13 et o13)
   have T10:TupK H10 H13:=((TupK.same S11).trans (TupK.draw (s10.same S11) (Ext.of_eq h12))).trans (TupK.same S13)
   have T8:TupK H8 H13:=((TupK.draw s8 E9).trans (TupK.draw s9 E10)).trans T10
   have hS13:H13 S=some (.lst xs):=S13 _ _ (by rw [h12 S Sp_]; exact S11 _ _ hS10)
   refine ⟨S,xs,_,rfl,rfl,hS13,?_,?_⟩
   ·rw [rows.len,List.length_take]; exact Nat.lt_of_le_of_lt (show min i cs.length≤8 by omega) (by decide)
   have px13:=(px.tk (TupK.draw s9 E10)).tk T10
   have py13:=py.tk T10
   have hz:z = .non∨PrA H13 z:=by
    rcases List.mem_cons.mp mz with h | mz
    ·exact .inl h
    rcases List.mem_cons.mp mz with h | mz
    ·rw [h]; exact .inr px13
    have:z=y:=by
     simp only [List.mem_cons,List.not_mem_nil,or_false] at mz
     rcases mz with h | h | h | h <;> exact h
    rw [this]; exact .inr py13
   have row:Row H13 (.ref t) c:=⟨⟨t,x,z,rfl,et,px13,hz⟩,coc c (List.mem_of_getElem? hc)⟩
   have tk:TupK H13 (upd H13 S (.lst (xs ++ [.ref t]))):=TupK.set hS13
   refine ⟨⟨_,_,_,rfl⟩,⟨xs ++ [.ref t],upd_same,?_⟩,?_,fun b o nb e=>?_⟩
   ·rw [List.take_add_one,hc]; exact ((rows.tk T8).snoc row).tk tk
   ·obtain ⟨w1,w2,w3,w4⟩:=(s12.same S13).ex
    exact ⟨w1,w2,by rw [upd_ne (Ne.symm Sp_)]; exact w3,w4⟩
   ·rw [upd_ne (ne_of_none e gS)]
    exact S13 _ _ (by rw [h12 b nb]; exact S11 _ _ (E810 _ _ nb (E8 _ _ nb e)))
  rintro σ H8 ⟨⟨v8,v9,v10,rfl⟩,⟨xs,hS8,rows⟩,s8,E8⟩
  have tl:(txs (sgs cs)).length=cs.length:=by rw [txs_len]; unfold sgs; rw [List.length_map]
  rw [tl,List.take_length] at rows
  have hD8:=E8 _ _ Dp hD6
  refine ⟨_,rfl,D,rfl,⟨_,SqL.of hD8⟩,?_⟩
  (intro F gF; generalize hEq:upd _ F _=H9; refine newC hEq gF ?_; clear hEq; intro S9 eF o9)
  have Fp:F≠p:=s8.ne gF
  refine lr_list (K:=K) (S:=D) (xs:=txs (sgs cs)) (fun i σ H'=>(∃v,σ=[v,some (.ref p)])∧(∃fs,H' F=some (.lst (txs fs))∧fs.Sublist (sgs (cs.take i)))∧Src H' p∧Ext p H8 H') ⟨⟨_,rfl⟩,⟨[],eF,List.nil_sublist _⟩,s8.same S9,Ext.same S9⟩ ?_ ?_ ?_
  ·rintro i σ H' ⟨_,_,_,e⟩
   exact SqL.of (e _ _ Dp hD8)
  ·rintro i x σ H' C hi ⟨⟨v,rfl⟩,⟨fs,hF,sub⟩,sr,ex⟩ nx
   obtain ⟨c,hc,rfl⟩:=at_sg hi
   refine ⟨_,rfl,p,_,rfl,sr,by decide,by decide,fun e H'' e0 e1 s'' h''=>⟨rfl,_,rfl,?_⟩⟩
   have hF'':H'' F=some (.lst (txs fs)):=by rw [h'' F Fp]; exact hF
   have ex'':=ex.trans (Ext.of_eq h'')
   have snoc:sgs (cs.take (i + 1))=sgs (cs.take i) ++ [sg1 c]:=by
    rw [List.take_add_one,hc]; unfold sgs; rw [List.map_append]; rfl
   refine ite2 (fun _=>⟨_,rfl,_,hF'',?_,nx _ _ ⟨⟨_,rfl⟩,⟨fs ++ [sg1 c],?_,?_⟩,?_,?_⟩⟩) (fun _=>nx _ _ ⟨⟨_,rfl⟩,⟨fs,hF'',?_⟩,s'',ex''⟩)
   ·rw [txs_len]
    have:=sub.length_le
    unfold sgs at this
    rw [List.length_map,List.length_take] at this
    exact Nat.lt_of_le_of_lt (show fs.length≤8 by omega) (by decide)
   ·rw [txs_app]; exact upd_same
   ·rw [snoc]; exact List.Sublist.append sub (List.Sublist.refl _)
   ·obtain ⟨w1,w2,w3,w4⟩:=s''.ex
    exact ⟨w1,w2,by rw [upd_ne (Ne.symm Fp)]; exact w3,w4⟩
   ·intro b o nb e
    rw [upd_ne (ne_of_none e gF)]; exact ex'' _ _ nb e
   ·rw [snoc]; exact sub.trans (List.sublist_append_left _ _)
  rintro σ9 H10 ⟨_,⟨fs,hF10,sub⟩,s10,E10⟩
  rw [tl,List.take_length] at sub
  refine ⟨by show 0≤sizeLine; decide,?_⟩
  (intro G gG; generalize hEq:upd _ G _=H11; refine newC hEq gG ?_; clear hEq; intro S11 eG o11)
  have Gp:G≠p:=s10.ne gG
  have s11:=s10.same S11
  have hD11:=S11 _ _ (E10 _ _ Dp hD8)
  refine ⟨_,rfl,p,_,rfl,s11,by decide,by decide,fun kk H12 kk0 kk1 s12 h12=>⟨_,rfl,by omega,by omega,?_⟩⟩
  have lt6:∀{z:Int},0 < z→z≤6→z.natAbs < big:=fun h0 h1=>Nat.lt_of_le_of_lt (show _≤6 by omega) (by decide +kernel)
  refine for_range (lo:=0) (n:=kk.toNat) (fun i σ H'=>(∃v13 v14,σ=[some (.ref p),some (.int m),some (.int k),some (.int (2 + (dn:Int))),some (.int shn),some (.int mm),some (.ref D),some (.ref S),v8,v9,v10,some (.ref F),some (.ref G),v13,v14])∧(∃ps,H' G=some (.lst (txs ps))∧ps.Nodup∧(∀x∈ps,x∈prs (sgs cs))∧ps.length≤i)∧Src H' p∧Ext p H10 H')
   ⟨⟨_,_,rfl⟩,⟨[],by rw [h12 G Gp]; exact eG,List.nodup_nil,nofun,Nat.le_refl _⟩,s12,(Ext.same S11).trans (Ext.of_eq h12)⟩ ?_ ?_
  ·rintro i σ H13 hi ⟨⟨v13,v14,rfl⟩,⟨ps,hG,pnd,psub,pl⟩,s13,E13⟩
   have hD13:=E13 _ _ Dp (E10 _ _ Dp hD8)
   have pick:∀{z:Int},0≤z→z < 2 + (dn:Int)→∃c∈cs,atI (txs (sgs cs)) z=some (.str (sg1 c)):=fun {z} h0 h1=>by
    obtain ⟨n,rfl⟩:=Int.eq_ofNat_of_zero_le h0
    have hn:n < cs.length:=by omega
    refine ⟨cs[n],List.getElem_mem hn,atI_nat ?_⟩
    unfold txs sgs
    rw [List.getElem?_map,List.getElem?_map,List.getElem?_eq_getElem hn]; rfl
   refine ⟨_,rfl,_,rfl,_,rfl,p,_,rfl,s13,by omega,lt6 (by omega) (by omega),fun z1 H14 a0 a1 s14 h14=>?_⟩
   obtain ⟨c1,m1,e1⟩:=pick a0 a1
   have hD14:H14 D=_:=(h14 D Dp).trans hD13
   refine ⟨D,_,_,_,rfl,rfl,SqL.of hD14,e1,?_⟩
   refine ⟨_,rfl,_,rfl,_,rfl,p,_,rfl,s14,by omega,lt6 (by omega) (by omega),fun z2 H15 b0 b1 s15 h15=>?_⟩
   obtain ⟨c2,m2',e2⟩:=pick b0 b1
   have hD15:H15 D=_:=(h15 D Dp).trans hD14
   refine ⟨D,_,_,_,rfl,rfl,SqL.of hD15,e2,_,_,rfl,rfl,by show 1 + 1≤sizeLine; decide,?_⟩
   have hG15:H15 G=some (.lst (txs ps)):=by rw [h15 G Gp,h14 G Gp]; exact hG
   have E15:=(E13.trans (Ext.of_eq h14)).trans (Ext.of_eq h15)
   have inp:sg1 c1 ++ sg1 c2∈prs (sgs cs):=by
    unfold prs sgs
    exact List.mem_flatMap.mpr ⟨_,List.mem_map.mpr ⟨c1,m1,rfl⟩,List.mem_map.mpr ⟨_,List.mem_map.mpr ⟨c2,m2',rfl⟩,rfl⟩⟩
   refine ⟨_,rfl,_,rfl,G,_,rfl,.inl (SqL.of hG15),rfl,txs_flat ps,_,rfl,?_⟩
   rw [if_pos rfl,inV_txs]
   refine ite2 (fun ni=>?_) (fun _=>⟨⟨_,_,rfl⟩,⟨ps,hG15,pnd,psub,by omega⟩,s15,E15⟩)
   have ni:sg1 c1 ++ sg1 c2∉ps:=fun z=>by rw [decide_eq_true z] at ni; cases ni
   refine ⟨_,rfl,.inl ⟨rfl,_,SqL.of hG15⟩,_,rfl,G,_,_,rfl,rfl,hG15,?_,⟨_,_,rfl⟩,⟨ps ++ [sg1 c1 ++ sg1 c2],?_,nd_snoc pnd ni,fun x hx=>?_,by rw [List.length_append]; simp; omega⟩,?_,fun b o nb e=>?_⟩
   ·rw [txs_len]; exact Nat.lt_of_le_of_lt (show ps.length≤8 by omega) (by decide)
   ·rw [txs_app]; exact upd_same
   ·rcases List.mem_append.mp hx with hx | hx
    ·exact psub x hx
    ·rw [List.mem_singleton.mp hx]; exact inp
   ·obtain ⟨w1,w2,w3,w4⟩:=s15.ex
    exact ⟨w1,w2,by rw [upd_ne (Ne.symm Gp)]; exact w3,w4⟩
   ·rw [upd_ne (ne_of_none e gG)]; exact E15 _ _ nb e
  rintro σ H13 ⟨⟨v13,v14,rfl⟩,⟨ps,hG,pnd,psub,pl⟩,s13,E13⟩
  have E813:=E10.trans E13
  have hF13:=E13 _ _ Fp hF10
  refine ⟨_,rfl,_,rfl,_,rfl,p,_,rfl,s13,by decide,by decide,fun cc H14 cc0 cc1 s14 h14=>?_⟩
  have hF14:H14 F=some (.lst (txs fs)):=(h14 F Fp).trans hF13
  obtain ⟨fs',fsub,fnd,ext⟩:∃fs',(∀f∈fs',f∈sgs cs)∧fs'.Nodup∧((1 - 2 * cc = -1∧txs fs'=(txs fs).reverse)∨(1 - 2 * cc=1∧fs'=fs)):=by
   have sn:(sgs cs).Nodup:=by
    unfold sgs
    exact List.Pairwise.map _ (fun a b h z=>h (sg1_inj z)) nd
   have fn:=sub.nodup sn
   have fm:∀f∈fs,f∈sgs cs:=fun f hf=>sub.subset hf
   rcases (show cc=0∨cc=1 by omega) with rfl | rfl
   ·exact ⟨fs,fm,fn,.inr ⟨by decide,rfl⟩⟩
   ·exact ⟨fs.reverse,fun f hf=>fm f (List.mem_reverse.mp hf),(List.reverse_perm fs).nodup_iff.mpr fn,.inl ⟨by decide,by unfold txs; rw [List.map_reverse]⟩⟩
  refine ⟨_,_,rfl,rfl,.inl ⟨by decide,by decide⟩,_,_,rfl,rfl,_,rfl,F,_,rfl,SqL.of hF14,?_⟩
  rcases ext with ⟨e,ef⟩ | ⟨e,ef⟩
  ·refine .inl ⟨by rw [e],?_⟩
   (intro F2 gF2; generalize hEq:upd _ F2 _=H15; refine newC hEq gF2 ?_; clear hEq; intro S15 eF2 o15)
   rw [← ef] at eF2
   have F2p:=s14.ne gF2
   refine ⟨_,rfl,_,rfl,_,rfl,p,_,rfl,s14.same S15,by omega,Nat.lt_of_le_of_lt (show k.natAbs≤8 by omega) (by decide +kernel),fun g H16 g0 g1 s16 h16=>⟨_,_,rfl,rfl,by show 4≤sizeLine; decide,?_⟩⟩
   (intro t gt; generalize hEq:upd _ t _=H17; refine newC hEq gt ?_; clear hEq; intro S17 et o17)
   have E1317:Ext p H13 H17:=(((Ext.of_eq h14).trans (Ext.same S15)).trans (Ext.of_eq h16)).trans (Ext.same S17)
   have E817:=E813.trans E1317
   exact q t cs fs' ps (1 + g) H17 ⟨⟨S,F2,G,xs,et,E817 _ _ Sp_ hS8,rows.tk (TupK.draw s8 E817),S17 _ _ (by rw [h16 F2 F2p]; exact eF2),E1317 _ _ Gp hG⟩,nd,by omega,by omega,fnd,fsub,pnd,psub,by omega,by omega⟩ (s16.ne gt) (s16.same S17) ((E6.trans E8).trans E817)
  ·refine .inr ⟨by rw [e],?_⟩
   rw [← ef]
   (intro F2 gF2; generalize hEq:upd _ F2 _=H15; refine newC hEq gF2 ?_; clear hEq; intro S15 eF2 o15)
   have F2p:=s14.ne gF2
   refine ⟨_,rfl,_,rfl,_,rfl,p,_,rfl,s14.same S15,by omega,Nat.lt_of_le_of_lt (show k.natAbs≤8 by omega) (by decide +kernel),fun g H16 g0 g1 s16 h16=>⟨_,_,rfl,rfl,by show 4≤sizeLine; decide,?_⟩⟩
   (intro t gt; generalize hEq:upd _ t _=H17; refine newC hEq gt ?_; clear hEq; intro S17 et o17)
   have E1317:Ext p H13 H17:=(((Ext.of_eq h14).trans (Ext.same S15)).trans (Ext.of_eq h16)).trans (Ext.same S17)
   have E817:=E813.trans E1317
   exact q t cs fs' ps (1 + g) H17 ⟨⟨S,F2,G,xs,et,E817 _ _ Sp_ hS8,rows.tk (TupK.draw s8 E817),S17 _ _ (by rw [h16 F2 F2p]; exact eF2),E1317 _ _ Gp hG⟩,nd,by omega,by omega,fnd,fsub,pnd,psub,by omega,by omega⟩ (s16.ne gt) (s16.same S17) ((E6.trans E8).trans E817)
end
end G1
namespace L2
open PySem PySem.Spec PyProof.Rows
def tyN (H:Hp):V→String
 | .non=>"NoneType"
 | .bl _=>"bool"
 | .int _=>"int"
 | .str _=>"str"
 | .ref a=>match H a with
  | some (.lst _)=>"list"
  | some (.tup _)=>"tuple"
  | some (.dK _)=>"dict"
  | _=>""
 | _=>""
theorem tyN_lst {H:Hp} {a:Addr} {xs:List V} (h:H a=some (.lst xs)):tyN H (.ref a) = "list":=by simp [tyN,h]
theorem tyN_tup {H:Hp} {a:Addr} {xs:List V} (h:H a=some (.tup xs)):tyN H (.ref a) = "tuple":=by simp [tyN,h]
theorem tyN_dK {H:Hp} {a:Addr} {xs:List (Key × V)} (h:H a=some (.dK xs)):tyN H (.ref a) = "dict":=by simp [tyN,h]
theorem Th.tyQ {K:PySem.W.Frag} {H:Hp} {x:V} (h:Th H x):TyX K H x (.type (tyN H x)):=by
 cases h with
 | non=>exact .of .non
 | bl b=>exact .of (.bl b)
 | int i=>exact .of (.int i)
 | str x=>exact .of (.str x)
 | lst h=>rw [tyN_lst h]; exact .of (.lst h)
 | tup h=>rw [tyN_tup h]; exact .of (.tup h)
 | dK h=>rw [tyN_dK h]; exact .of (.dK h)
theorem kit_tup {K:PySem.W.Frag} {H:Hp} {x:V} (h:Th H x):PySem.W.kitOne K (.type (tyN H x)) (.type "tuple")=some (decide (tyN H x = "tuple")):=by
 cases h with
 | lst h=>rw [tyN_lst h]; kernel_rfl
 | tup h=>rw [tyN_tup h]; kernel_rfl
 | dK h=>rw [tyN_dK h]; kernel_rfl
 | _=>kernel_rfl
theorem kit_lst {K:PySem.W.Frag} {H:Hp} {x:V} (h:Th H x):PySem.W.kitOne K (.type (tyN H x)) (.type "list")=some (decide (tyN H x = "list")):=by
 cases h with
 | lst h=>rw [tyN_lst h]; kernel_rfl
 | tup h=>rw [tyN_tup h]; kernel_rfl
 | dK h=>rw [tyN_dK h]; kernel_rfl
 | _=>kernel_rfl
theorem Th.isTup {H:Hp} {x:V} (h:Th H x) (e:tyN H x = "tuple"):∃a xs,x = .ref a∧H a=some (.tup xs):=by
 cases h with
 | tup h=>exact ⟨_,_,rfl,h⟩
 | lst h=>rw [tyN_lst h] at e; exact absurd e (by decide)
 | dK h=>rw [tyN_dK h] at e; exact absurd e (by decide)
 | _=>exact absurd e (by simp [tyN])
theorem Th.isLst {H:Hp} {x:V} (h:Th H x) (e:tyN H x = "list"):∃a xs,x = .ref a∧H a=some (.lst xs):=by
 cases h with
 | lst h=>exact ⟨_,_,rfl,h⟩
 | tup h=>rw [tyN_tup h] at e; exact absurd e (by decide)
 | dK h=>rw [tyN_dK h] at e; exact absurd e (by decide)
 | _=>exact absurd e (by simp [tyN])
end L2
namespace G1
open PySem L2 GM
theorem _root_.L2.Th.kp {H H':Hp} {x:V} (h:Th H x) (s:Kp H H'):Th H' x:=by
 cases h with
 | non=>exact .non
 | bl b=>exact .bl b
 | int i=>exact .int i
 | str x=>exact .str x
 | lst h=>exact .lst (s _ _ h nofun)
 | tup h=>exact .tup (s _ _ h nofun)
 | dK h=>exact .dK (s _ _ h nofun)
def wM:Int:=1000000000
def pairOf (H:Hp):V→Option (V × V)
 | .ref a=>match H a with
  | some (.tup [n,c])=>some (n,c)
  | _=>none
 | _=>none
theorem pairOf_tup {H:Hp} {a:Addr} {n c:V} (h:H a=some (.tup [n,c])):pairOf H (.ref a)=some (n,c):=by simp [pairOf,h]
theorem pairOf_kp {H H':Hp} {y:V} (h:Th H y) (k:Kp H H'):pairOf H' y=pairOf H y:=by
 cases h with
 | lst h=>simp [pairOf,h,k _ _ h nofun]
 | tup h=>simp [pairOf,h,k _ _ h nofun]
 | dK h=>simp [pairOf,h,k _ _ h nofun]
 | _=>rfl
def okW (H:Hp) (y:V):Bool:=match pairOf H y with
 | some (n,c)=>nameB n && inB c 0 wM
 | none=>false
def nmS (H:Hp) (y:V):Str:=match pairOf H y with
 | some (.str s,_)=>s
 | _=>""
theorem okW_kp {H H':Hp} {y:V} (h:Th H y) (k:Kp H H'):okW H' y=okW H y:=by unfold okW; rw [pairOf_kp h k]
theorem nmS_kp {H H':Hp} {y:V} (h:Th H y) (k:Kp H H'):nmS H' y=nmS H y:=by unfold nmS; rw [pairOf_kp h k]
theorem okW_str {H:Hp} {y:V} (h:okW H y=true):∃a c,y = .ref a∧H a=some (.tup [.str (nmS H y),c])∧nameB (.str (nmS H y))=true:=by
 have p:∃a n c,y = .ref a∧H a=some (.tup [n,c]):=by
  cases y with
  | ref a=>
   cases e:H a with
   | none=>simp [okW,pairOf,e] at h
   | some o=>
    cases o with
    | tup ys=>
     match ys,e with
     | [n,c],e=>exact ⟨a,n,c,rfl,e⟩
     | [],e=>simp [okW,pairOf,e] at h
     | [_],e=>simp [okW,pairOf,e] at h
     | _ :: _ :: _ :: _,e=>simp [okW,pairOf,e] at h
    | _=>simp [okW,pairOf,e] at h
  | _=>simp [okW,pairOf] at h
 obtain ⟨a,n,c,rfl,e⟩:=p
 have hn:nameB n=true:=by
  unfold okW at h
  rw [pairOf_tup e] at h
  exact (Bool.and_eq_true_iff.mp h).1
 cases n with
 | str s=>
  have z:nmS H (.ref a)=s:=by unfold nmS; rw [pairOf_tup e]
  rw [z]
  exact ⟨a,c,rfl,e,hn⟩
 | _=>cases hn
structure ThE (H:Hp) (y:V):Prop where
 th:Th H y
 parts:∀a ys,y = .ref a→H a=some (.tup ys)→∀z∈ys,Th H z∧∀x,z = .str x→x.length≤sizeLine
structure ThW (H:Hp) (x:V):Prop where
 th:Th H x
 els:∀a xs,x = .ref a→H a=some (.lst xs)→∀y∈xs,ThE H y
theorem back {H H':Hp} {y:V} {a:Addr} {o:HO} (h:Th H y) (k:Kp H H') (e:y = .ref a) (e':H' a=some o):H a=some o:=by
 subst e
 cases h with
 | lst h=>rw [k _ _ h nofun] at e'; cases e'; exact h
 | tup h=>rw [k _ _ h nofun] at e'; cases e'; exact h
 | dK h=>rw [k _ _ h nofun] at e'; cases e'; exact h
theorem ThE.kp {H H':Hp} {y:V} (h:ThE H y) (k:Kp H H'):ThE H' y:=
 ⟨h.th.kp k,fun a ys e e' z hz=>⟨(h.parts a ys e (back h.th k e e') z hz).1.kp k,(h.parts a ys e (back h.th k e e') z hz).2⟩⟩
theorem ThW.kp {H H':Hp} {y:V} (h:ThW H y) (k:Kp H H'):ThW H' y:=
 ⟨h.th.kp k,fun a xs e e' z hz=>(h.els a xs e (back h.th k e e') z hz).kp k⟩
def badAt (H:Hp):List V→List Str→Nat→Option Nat
 | [],_,_=>none
 | y :: ys,sn,k=>if okW H y=true∧nmS H y∉sn then badAt H ys (sn ++ [nmS H y]) (k + 1) else some k
def nms (H:Hp) (xs:List V) (i:Nat):List Str:=(xs.take i).map (nmS H)
def bA (H:Hp) (xs:List V) (i:Nat):Option Nat:=badAt H (xs.drop i) (nms H xs i) i
theorem nms_succ {H:Hp} {xs:List V} {i:Nat} {y:V} (e:xs[i]? = some y):nms H xs (i + 1)=nms H xs i ++ [nmS H y]:=by
 unfold nms
 rw [List.take_add_one,e,List.map_append]; rfl
theorem nms_len {H:Hp} {xs:List V} {i:Nat}:(nms H xs i).length≤i:=by
 unfold nms
 rw [List.length_map,List.length_take]; omega
theorem bA_step {H:Hp} {xs:List V} {i:Nat} {y:V} (e:xs[i]? = some y):bA H xs i=if okW H y=true∧nmS H y∉nms H xs i then bA H xs (i + 1) else some i:=by
 obtain ⟨h1,h2⟩:=List.getElem?_eq_some_iff.mp e
 unfold bA
 rw [List.drop_eq_getElem_cons h1,h2,nms_succ e]
 rfl
theorem bA_end {H:Hp} {xs:List V}:bA H xs xs.length=none:=by
 unfold bA
 rw [List.drop_length]; rfl
def outW (H:Hp):V→Option V
 | .ref a=>match H a with
  | some (.lst xs)=>if 1≤xs.length∧xs.length≤20 then (bA H xs 0).map fun k=>V.int k else some .non
  | _=>some .non
 | _=>some .non
theorem outW_lst {H:Hp} {a:Addr} {xs:List V} (h:H a=some (.lst xs)):outW H (.ref a)=if 1≤xs.length∧xs.length≤20 then (bA H xs 0).map fun k=>V.int k else some .non:=by simp [outW,h]
theorem outW_no {H:Hp} {x:V} (h:Th H x) (n:tyN H x≠"list"):outW H x=some .non:=by
 cases h with
 | lst h=>exact absurd (tyN_lst h) n
 | tup h=>simp [outW,h]
 | dK h=>simp [outW,h]
 | _=>rfl
section
variable {P:Program} {w:World} {K:PySem.W.Frag} {mg:Str→Option Value} {base:Heap}
def spCount:Sp:=fun vs H Q _=>∃x,vs=[x]∧Th H x∧Q (.bl (inB x 0 wM)) H
theorem scCo:FnScope ["thing"] ["thing"] (defScope sCount):=⟨rfl,rfl,rfl,by decide +kernel,rfl,by decide +kernel,by decide +kernel⟩
theorem ok_count {f fI:Addr} {fd fdI:FuncData} {t1:Tok} (F:FunG K "is_count" "is_count" sCount .none f fd)
  (GI:FnOk P w K mg base (CXE P w) 2 fI fdI ["thing","least","most"] spWithin) (mI:mg "is_whole_within" = some (.ref fI)) (kI:PySem.W.keepIn K (.ref fI)=true) (bI:Binds K fdI ["thing","least","most"] [])
  (mM:mg "MOST_COUNT" = some (.int 1000000000 t1)):FnOk P w K mg base (CXE P w) 3 f fd ["thing"] spCount:=by
 refine F.zokN scCo (fun vs H Q E h=>?_) (fun cdv A outer s H vs Q E hr h=>?_)
 ·obtain ⟨x,rfl,_⟩:=h
  rfl
 ·obtain ⟨x,rfl,hx,q⟩:=h
  refine ⟨_,(zpss_one (zps_ret (zpe_call GI hr (by rfl) mI kI bI .nil passE0 (zpac_n (zpv 0) (zpac_c zpe_int (zpac_n (zpe_glob (by rfl) mM (v:=.int 1000000000) ⟨_,rfl⟩) zpa_nil)))))),?_⟩
  exact ⟨_,rfl,x,0,1000000000,rfl,hx,q⟩
def spWant (T:Addr):Sp:=fun vs H Q _=>∃x,vs=[x]∧ThE H x∧Tab T H∧∀H',Kp H H'→Tab T H'→(∀b,b≠T→H' b=H b)→Q (.bl (okW H x)) H'
theorem scWa:FnScope ["thing"] ["thing"] (defScope sWant):=⟨rfl,rfl,rfl,by decide +kernel,rfl,by decide +kernel,by decide +kernel⟩
theorem ok_want {T f fN fC:Addr} {fd fdN fdC:FuncData} (F:FunG K "is_want" "is_want" sWant .none f fd) (B:Bl mg)
  (GN:FnOk P w K mg base (CXE P w) 2 fN fdN ["thing"] (spName T)) (mN:mg "is_name" = some (.ref fN)) (kN:PySem.W.keepIn K (.ref fN)=true) (bN:Binds K fdN ["thing"] [])
  (GC:FnOk P w K mg base (CXE P w) 3 fC fdC ["thing"] spCount) (mC:mg "is_count" = some (.ref fC)) (kC:PySem.W.keepIn K (.ref fC)=true) (bC:Binds K fdC ["thing"] []) :
  FnOk P w K mg base (CXE P w) 4 f fd ["thing"] (spWant T):=by
 refine F.zokN scWa (fun vs H Q E h=>?_) (fun cdv A outer s H vs Q E hr h=>?_)
 ·obtain ⟨x,rfl,_⟩:=h
  rfl
 ·obtain ⟨x,rfl,hx,hT,q⟩:=h
  refine ⟨_,(zpss_cons (zps_if (zpw_or (zpt_not (zpt_val (zpe_callB call_isi (by rfl) B.isi boot_isi (zpac_n (zpv 0) (zpac_n (zpe_bltn (by rfl) B.tuple boot_tuple (v:=.ty "tuple") rfl) zpa_nil)))))
     (zpw_or1 (zpt_cmpR op_ne (zpe_callB call_len_seq (by rfl) B.len PySem.boot_len (zpac_n (zpv 0) zpa_nil)) zpe_int (nomark _)))).pt (zpss_one (zps_ret zpe_bl)) zpss_nil)
   (zpss_one (zps_ret (zpe_and (zpe_call GN (hr.mono (by decide)) (by rfl) mN kN bN .nil passE0 (zpac_s (zpe_ix ix_tup (zpv 0) zpe_int (fun _ _=>rfl)) zpa_nil)) (zpe_one (zpe_call GC hr (by rfl) mC kC bC .nil passE0 (zpac_s (zpe_ix ix_tup (zpv 0) zpe_int (fun _ _=>rfl)) zpa_nil))))))),?_⟩
  have self:∀{b:Bool},okW H x=b→Q (.bl b) H:=fun {b} e=>e ▸ q H Kp.refl hT fun _ _=>rfl
  refine ⟨_,rfl,_,_,_,_,rfl,hx.th.tyQ,.inl ⟨_,rfl,kit_tup hx.th⟩,_,rfl,?_⟩
  by_cases ht:tyN H x = "tuple"
  ·rw [decide_eq_true ht]
   obtain ⟨a,ys,rfl,ha⟩:=hx.th.isTup ht
   refine iteF ⟨_,rfl,a,ys,rfl,.inr (SqT.of ha),rfl,_,rfl,?_⟩
   have sq:SqT K H a ys:=SqT.of ha
   by_cases hl:ys.length=2
   ·obtain ⟨n,c,rfl⟩:∃n c,ys=[n,c]:=by
     match ys,hl with
     | [n,c],_=>exact ⟨n,c,rfl⟩
    refine ite2 (fun e=>absurd e (show ¬((!decide (V.int 2=V.int 2))=true) by decide)) (fun _=>?_)
    have pn:=hx.parts a _ rfl ha n (by simp)
    have pc:=hx.parts a _ rfl ha c (by simp)
    obtain ⟨ps,hp,tr⟩:=id hT
    have ow:okW H (.ref a)=(nameB n && inB c 0 wM):=by unfold okW; rw [pairOf_tup ha]
    refine ⟨_,rfl,a,_,_,n,rfl,rfl,sq,rfl,n,ps,rfl,pn.1,pn.2,hp,tr,fun ps' tr'=>?_⟩
    have kp:Kp H (upd H T (.tbl ps')):=Kp.tab hT
    have tb:Tab T (upd H T (.tbl ps')):=hT.put tr'
    refine ⟨_,rfl,?_⟩
    cases hn:nameB n with
    | false=>
     refine iteF ?_
     have z:=q _ kp tb fun b hb=>upd_ne hb
     rw [ow,hn] at z
     exact z
    | true=>
     refine iteT ⟨_,rfl,a,_,_,c,rfl,rfl,SqT.of (kp _ _ ha nofun),rfl,c,rfl,pc.1.kp kp,?_⟩
     have z:=q _ kp tb fun b hb=>upd_ne hb
     rw [ow,hn] at z
     exact z
   ·have z:okW H (.ref a)=false:=by
     unfold okW
     have:pairOf H (.ref a)=none:=by
      match ys,hl,ha with
      | [],_,ha=>simp [pairOf,ha]
      | [_],_,ha=>simp [pairOf,ha]
      | [_,_],h,_=>exact absurd rfl h
      | _ :: _ :: _ :: _,_,ha=>simp [pairOf,ha]
     rw [this]
    refine ite2 (fun _=>self z) (fun e=>absurd ?_ e)
    show (!decide (V.int ys.length=V.int 2))=true
    rw [decide_eq_false (fun y=>hl (by injection y with y; omega))]; rfl
  ·rw [decide_eq_false ht]
   refine iteT (self ?_)
   unfold okW
   have:pairOf H x=none:=by
    cases hx.th with
    | tup h=>exact absurd (tyN_tup h) ht
    | lst h=>simp [pairOf,h]
    | dK h=>simp [pairOf,h]
    | _=>rfl
   rw [this]
end
end G1
namespace L2
open PySem
theorem boot_max:bootBuiltins "max" = some (.builtin "max"):=by decide +kernel
theorem boot_min:bootBuiltins "min" = some (.builtin "min"):=by decide +kernel
end L2
namespace G1
open PySem L2 GM
theorem fig20:∀j:Fin 21,(Str.ofString (toString ((j.val:Nat):Int))).length≤700:=by decide +kernel
section
variable {P:Program} {w:World} {K:PySem.W.Frag} {mg:Str→Option Value} {base:Heap}
theorem _root_.L2.Kp_new {H H':Hp} {p:Addr} {o:HO} (k:Kp H H') (h:H p=none):Kp H (upd H' p o):=fun b u e n=>by
 rw [upd_ne (ne_of_none e h)]; exact k b u e n
def _root_.G1.TbK (H H':Hp):Prop:=∀U,Tab U H→Tab U H'
theorem _root_.G1.TbK.refl {H:Hp}:TbK H H:=fun _ h=>h
theorem _root_.G1.TbK.trans {H H1 H2:Hp} (a:TbK H H1) (b:TbK H1 H2):TbK H H2:=fun U h=>b U (a U h)
theorem _root_.G1.TbK.new {H H':Hp} {p:Addr} {o:HO} (a:TbK H H') (n:H' p=none):TbK H (upd H' p o):=fun U h=>(a U h).new n
theorem _root_.G1.TbK.set {H H':Hp} {p:Addr} {o o':HO} (a:TbK H H') (n:H' p=some o') (no:∀ps,o'≠.tbl ps):TbK H (upd H' p o):=fun U h=>(a U h).set n no
theorem _root_.G1.TbK.one {T:Addr} {H H':Hp} (t:Tab T H') (o:∀b,b≠T→H' b=H b):TbK H H':=fun U h=>by
 by_cases e:U=T
 ·rw [e]; exact t
 ·obtain ⟨ps,h1,h2⟩:=h
  exact ⟨ps,by rw [o U e]; exact h1,h2⟩
def spLookWs (C T:Addr):Sp:=fun vs H Q E=>∃x,vs=[x]∧ThW H x∧Tab T H∧(outW H x=none→∀H',Kp H H'→TbK H H'→Q .non H')∧
 (∀v,outW H x=some v→∀dx H',Kp H H'→TbK H H'→H' dx=some (.xd [("number",v)])→E (.ref C) (some dx) H')
theorem scLw:FnScope ["thing","names","number","want"] ["thing"] (defScope sLookW):=⟨rfl,rfl,rfl,by decide +kernel,rfl,by decide +kernel,by decide +kernel⟩
theorem ok_lookWs {T C fI f fW:Addr} {fd fdW:FuncData} {t1:Tok} (F:FunG K "look_at_wants" "look_at_wants" sLookW .none f fd) (B:Bl mg)
  (GW:FnOk P w K mg base (CXE P w) 4 fW fdW ["thing"] (spWant T)) (mW:mg "is_want" = some (.ref fW)) (kW:PySem.W.keepIn K (.ref fW)=true) (bW:Binds K fdW ["thing"] [])
  (mM:mg "MOST_THINGS" = some (.int 20 t1)) (mC:mg "NoWants" = some (.ref C)) (IK:InitK P w K mg C fI "number"):FnOk P w K mg base (CXE P w) 5 f fd ["thing"] (spLookWs C T):=by
 refine F.zokE scLw (fun vs H Q E h=>?_) (fun cdv A outer s H vs Q E hr h=>?_)
 ·obtain ⟨x,rfl,_⟩:=h
  rfl
 ·obtain ⟨x,rfl,hx,hT,q,qe⟩:=h
  refine ⟨_,(zpss_cons (zps_if (zpw_or (zpt_not (zpt_val (zpe_callB call_isi (by rfl) B.isi boot_isi (zpac_n (zpv 0) (zpac_n (zpe_bltn (by rfl) B.list boot_list (v:=.ty "list") rfl) zpa_nil)))))
     (zpw_or (zpt_cmpR op_lt (zpe_callB call_len_seq (by rfl) B.len PySem.boot_len (zpac_n (zpv 0) zpa_nil)) zpe_int (nomark _))
     (zpw_or1 (zpt_cmpR op_gt (zpe_callB call_len_seq (by rfl) B.len PySem.boot_len (zpac_n (zpv 0) zpa_nil)) (zpe_glob (by rfl) mM (v:=.int 20) ⟨_,rfl⟩) (nomark _))))).pt (zpss_one (zps_raiseI (k:=3) hr (by rfl) mC IK (zpac_c zpe_non zpa_nil))) zpss_nil)
   (zpss_cons (zps_set (i:=1) scLw.nd rfl (Or.inl rfl) (zpe_callTy0 call_set0 (by rfl) B.set boot_set))
   (zpss_one (zps_for PassesOwn.leaving rfl (zpi_enum (by rfl) B.enum (zpac_n (zpv 0) zpa_nil)) (zpg_tup rfl (zpgs_cons (zpg_name (i:=2) scLw.nd rfl (Or.inl rfl)) (zpgs_cons (zpg_name (i:=3) scLw.nd rfl (Or.inl rfl)) zpgs_nil)))
     (zpss_cons (zps_if (zpw_or (zpt_not (zpt_val (zpe_call GW hr (by rfl) mW kW bW .nil passE0 (zpac_n (zpv 3) zpa_nil))))
       (zpw_or1 (zpt_cmpR op_in_set (zpe_ix ix_tup (zpv 3) zpe_int (fun _ _=>rfl)) (zpv 1) rfl))).pt (zpss_one (zps_raiseI (k:=3) hr (by rfl) mC IK (zpac_n (zpv 2) zpa_nil))) zpss_nil)
   (zpss_one (zps_expr (zpe_setadd (zpv 1) (zpac_s (zpe_ix ix_tup (zpv 3) zpe_int (fun _ _=>rfl)) zpa_nil))))))))),?_⟩
  have bad:∀{v:V} {H':Hp},outW H x=some v→Kp H H'→TbK H H'→(∃y,Shown v y∧y.length≤700)→∃u,[v]=[u]∧(∃y,Shown u y∧y.length≤700)∧∀dx,H' dx=none→E (.ref C) (some dx) (upd H' dx (.xd [("number",u)])):=fun {v H'} e k t sh=>
   ⟨v,rfl,sh,fun dx hd=>qe v e dx _ (k.trans (Kp.new hd)) (t.new hd) upd_same⟩
  have non:∃y,Shown V.non y∧y.length≤700:=⟨_,.non,by decide⟩
  refine ⟨_,rfl,_,_,_,_,rfl,hx.th.tyQ,.inl ⟨_,rfl,kit_lst hx.th⟩,_,rfl,?_⟩
  by_cases ht:tyN H x = "list"
  ·rw [decide_eq_true ht]
   obtain ⟨a,xs,rfl,ha⟩:=hx.th.isLst ht
   have sq:SqL K H a xs:=SqL.of ha
   have ow:=outW_lst ha
   refine iteF ⟨_,rfl,a,xs,rfl,.inl sq,_,_,rfl,rfl,_,rfl,?_⟩
   refine ite2 (fun e=>?_) (fun e=>?_)
   ·have l0:(xs.length:Int) < 1:=of_decide_eq_true e
    rw [if_neg (by omega)] at ow
    exact bad ow Kp.refl TbK.refl non
   ·have l0:¬(xs.length:Int) < 1:=fun z=>e (decide_eq_true z)
    refine ⟨_,rfl,a,xs,rfl,.inl sq,_,_,rfl,rfl,_,rfl,?_⟩
    refine ite2 (fun e2=>?_) (fun e2=>?_)
    ·have l1:(20:Int) < (xs.length:Int):=of_decide_eq_true e2
     rw [if_neg (by omega)] at ow
     exact bad ow Kp.refl TbK.refl non
    ·have l1:¬(20:Int) < (xs.length:Int):=fun z=>e2 (decide_eq_true z)
     rw [if_pos (by omega)] at ow
     refine ⟨rfl,fun p hp=>?_⟩
     have kp0:Kp H (upd H p (SetT P w p [])):=Kp.new hp
     have Tp:T≠p:=fun z=>by obtain ⟨ps,h,_⟩:=hT; rw [z,hp] at h; cases h
     refine ⟨_,rfl,a,rfl,⟨_,SqL.of (kp0.lst ha)⟩,for_enum (K:=K) (a:=a) (xs:=xs)
      (fun i σ H2=>(∃v1 v2,σ=[some (.ref a),some (.ref p),v1,v2])∧H2 p=some (SetT P w p (nms H xs i))∧Kp H H2∧TbK H H2∧bA H xs 0=bA H xs i) ⟨⟨_,_,rfl⟩,upd_same,kp0,TbK.refl.new hp,rfl⟩ ?_ ?_ ?_⟩
     ·rintro i σ H2 _ ⟨_,_,k2,_⟩
      exact SqL.of (k2.lst ha)
     ·rintro i y t σ H2 hi ⟨⟨v1,v2,rfl⟩,hp2,k2,T2,b2⟩ ht2
      have il:=(List.getElem?_eq_some_iff.mp hi).1
      have hy:=hx.els a xs rfl ha y (List.mem_of_getElem? hi)
      have pt:p≠t:=fun z=>by rw [z,ht2] at hp2; cases hp2
      have k3:Kp H (upd H2 t (.tup [.int i,y])):=k2.trans (Kp.new ht2)
      have T3:TbK H (upd H2 t (.tup [.int i,y])):=T2.new ht2
      have st:=bA_step (H:=H) hi
      have shi:∃z,Shown (V.int (i:Int)) z∧z.length≤700:=by
       refine ⟨_,.int ?_,?_⟩
       ·exact Nat.lt_of_le_of_lt (Nat.log2_le_self _) (by omega)
       ·exact fig20 ⟨i,by omega⟩
      refine ⟨t,_,rfl,SqT.of upd_same,rfl,_,_,rfl,_,_,rfl,rfl,?_⟩
      refine ⟨_,rfl,y,rfl,hy.kp k3,T3 _ hT,fun H4 k4 T4' o4=>?_⟩
      have T4:TbK H H4:=T3.trans (TbK.one T4' o4)
      have k5:Kp H H4:=k3.trans k4
      have oe:okW (upd H2 t (.tup [.int i,y])) y=okW H y:=okW_kp hy.th k3
      rw [oe]
      have raise:bA H xs i=some i→outW H (.ref a)=some (V.int i):=fun z=>by rw [ow,b2,z]; rfl
      refine ⟨_,rfl,?_⟩
      cases ok:okW H y with
      | false=>
       refine iteT ⟨_,rfl,bad (raise ?_) k5 T4 shi⟩
       rw [st,if_neg (fun z=>by rw [ok] at z; cases z.1)]
      | true=>
       obtain ⟨b,c,rfl,hb,hn⟩:=okW_str ok
       have hb4:=k5.tup hb
       have hp4:H4 p=some (SetT P w p (nms H xs i)):=by
        rw [o4 p (Ne.symm Tp),upd_ne pt]; exact hp2
       refine iteF ⟨_,rfl,b,_,_,_,rfl,rfl,SqT.of hb4,rfl,_,rfl,_,p,_,rfl,rfl,hp4,_,rfl,?_⟩
       by_cases mem:nmS H (.ref b)∈nms H xs i
       ·refine ite2 (fun _=>⟨_,rfl,bad (raise ?_) k5 T4 shi⟩) (fun z=>absurd (decide_eq_true mem) z)
        rw [st,if_neg (fun z=>z.2 mem)]
       ·refine ite2 (fun z=>absurd (of_decide_eq_true z) mem) (fun _=>?_)
        refine ⟨_,rfl,⟨p,_,rfl,hp4⟩,_,rfl,b,_,_,_,rfl,rfl,SqT.of hb4,rfl,p,_,_,rfl,rfl,hp4,?_,?_⟩
        ·have:=nms_len (H:=H) (xs:=xs) (i:=i); omega
        ·refine ⟨⟨_,_,rfl⟩,?_,?_,?_,?_⟩
         ·have z:insT (nmS H (.ref b)) (nms H xs i)=nms H xs (i + 1):=by
           unfold insT
           rw [if_neg mem,nms_succ hi]
          rw [z]; exact upd_same
         ·exact Kp_new k5 hp
         ·exact T4.set hp4 nofun
         ·rw [b2,st,if_pos ⟨ok,mem⟩]
     ·rintro σ H2 ⟨⟨v1,v2,rfl⟩,_,k2,T2,b2⟩
      refine q ?_ H2 k2 T2
      rw [ow,b2,bA_end]; rfl
  ·rw [decide_eq_false ht]
   exact iteT (bad (outW_no hx.th ht) Kp.refl TbK.refl non)
end
end G1
namespace L2
open PySem PySem.Spec PyProof.Rows
def repS (c n:Nat):Str:=⟨(List.replicate n c).toArray⟩
theorem repS_len (c n:Nat):(repS c n).length=n:=by simp [repS,Str.length]
theorem fold_rep (c:Nat):∀(n:Nat) (a:Array Nat),(List.replicate n #[c]).foldl (· ++ ·) a=a ++ (List.replicate n c).toArray
 | 0,a=>by simp
 | n + 1,a=>by
  rw [List.replicate_succ,List.foldl_cons,fold_rep c n,List.replicate_succ]
  apply Array.ext'
  simp
theorem op_mulS {X:Cx}:OpR X (binaryOp .Mult) (fun x y H Q=>∃(c:Nat) (n:Nat),x = .str ⟨#[c]⟩∧y = .int n∧n≤1000∧Q (.str (repS c n)) H):=by
 intro pins s σ H x y v u Q I rx ry h
 obtain ⟨c,n,rfl,rfl,hn,q⟩:=h
 obtain ⟨t,rfl⟩:=rx
 obtain ⟨t',rfl⟩:=ry
 have len:∀m:Nat,m≤1000→m≤sizeLine:=fun m h=>Nat.le_trans h (by rw [sizeLine_eq]; decide)
 refine PySem.P.mul_str ?_ ?_ ?_ ?_
 ·have h1:¬((n:Int) < -(2 ^ 63:Int)):=by omega
  have h2:¬((n:Int) ≥ 2 ^ 63):=by omega
  rw [decide_eq_false h1,decide_eq_false h2]; rfl
 ·intro h1 _
  show ¬((1:Int) > (2 ^ 63 - 1) / (n:Int))
  have:(1:Int)≤(2 ^ 63 - 1) / (n:Int):=by
   apply Int.le_ediv_of_mul_le
   ·omega
   ·omega
  omega
 ·intro _ _
  have:=len (1 * n) (by omega)
  show decide (1 * ((n:Int).toNat) > sizeLine)=false
  exact decide_eq_false (by omega)
 ·split
  ·have e:n=0:=by omega
   subst e
   exact ⟨by decide,.str (repS c 0),H,I.tok _,⟨_,rfl⟩,q⟩
  ·split
   ·rename_i h1 h2
    have e:n=1:=by
     rcases Bool.or_eq_true_iff.mp h2 with z | z
     ·have:=eq_of_beq z; omega
     ·cases z
    subst e
    exact ⟨.str (repS c 1),H,I,⟨_,rfl⟩,q⟩
   ·have e:(⟨(List.replicate (n:Int).toNat (#[c]:Array Nat)).foldl (· ++ ·) #[]⟩:Str)=repS c n:=by
     unfold repS
     rw [fold_rep]
     simp
    rw [e]
    exact ⟨by rw [repS_len]; exact len n hn,.str (repS c n),H,I.tok _,⟨_,rfl⟩,q⟩
end L2
namespace G1
open PySem L2 GM
theorem app_list (a b:Str):(a ++ b).cps.toList=a.cps.toList ++ b.cps.toList:=by
 show (a.cps ++ b.cps).toList=_
 simp
def nmAt (k s:Nat):Nat:=(37 * k + s) % 61
def suf (j:Nat):Str:=["","a","zz"].getD j ""
def tell (a:Nat):Str:=sg1 (ltr (a % 26)) ++ suf (a / 26)
def more (s:Nat):Str:=repS (ltr (s % 26)) (s / 26 % 6)
def nmT (k s:Nat):Str:=if s % 2=0 then more s ++ tell (nmAt k s) else tell (nmAt k s) ++ more s
theorem tell_inj:∀a b:Fin 61,tell a.val=tell b.val→a=b:=by decide +kernel
theorem tell_name:∀a:Fin 61,(tell a.val).length≤3∧(tell a.val).length≠0∧(tell a.val).cps.toList.all occ=true:=by decide +kernel
theorem nmAt_lt (k s:Nat):nmAt k s < 61:=Nat.mod_lt _ (by decide)
theorem nmAt_inj {k j s:Nat} (hk:k < 61) (hj:j < 61) (h:nmAt k s=nmAt j s):k=j:=by
 unfold nmAt at h
 omega
theorem str_ext {a b:Str} (h:a.cps.toList=b.cps.toList):a=b:=PyProof.Rows.ext_toList h
theorem nmT_inj {k j s:Nat} (hk:k < 61) (hj:j < 61) (h:nmT k s=nmT j s):k=j:=by
 have t:tell (nmAt k s)=tell (nmAt j s):=by
  unfold nmT at h
  split at h
  ·have:=congrArg (fun z:Str=>z.cps.toList) h
   simp only [app_list] at this
   exact str_ext (List.append_cancel_left this)
  ·have:=congrArg (fun z:Str=>z.cps.toList) h
   simp only [app_list] at this
   exact str_ext (List.append_cancel_right this)
 have:=tell_inj ⟨_,nmAt_lt k s⟩ ⟨_,nmAt_lt j s⟩ t
 exact nmAt_inj hk hj (congrArg Fin.val this)
theorem nmT_name (k s:Nat):nameB (.str (nmT k s))=true:=by
 obtain ⟨t1,t2,t3⟩:(tell (nmAt k s)).length≤3∧(tell (nmAt k s)).length≠0∧(tell (nmAt k s)).cps.toList.all occ=true:=tell_name ⟨_,nmAt_lt k s⟩
 have m1:(more s).length≤5:=by unfold more; rw [repS_len]; omega
 have m2:(more s).cps.toList.all occ=true:=by
  unfold more repS
  rw [List.all_eq_true]
  intro c hc
  have:c=ltr (s % 26):=(List.mem_replicate.mp (by simpa using hc)).2
  rw [this]
  exact ltr_occ ⟨s % 26,by omega⟩
 have z:∀x:Str,x.length≠0→x.length≤8→x.cps.toList.all occ=true→nameB (.str x)=true:=fun x h1 h2 h3=>by
  have ne:x≠"":=fun y=>h1 (by rw [y]; rfl)
  simp only [nameB,decide_eq_true ne,decide_eq_true h2,h3,Bool.and_self]
 unfold nmT
 split
 ·exact z _ (by rw [strLen]; omega) (by rw [strLen]; omega) (by rw [app_list,List.all_append,m2,t3]; rfl)
 ·exact z _ (by rw [strLen]; omega) (by rw [strLen]; omega) (by rw [app_list,List.all_append,m2,t3]; rfl)
theorem nmT_len (k s:Nat):(nmT k s).length≤8:=by
 have h:=nmT_name k s
 unfold nameB at h
 exact of_decide_eq_true (Bool.and_eq_true_iff.mp (Bool.and_eq_true_iff.mp h).2).1
section
variable {P:Program} {w:World} {K:PySem.W.Frag} {mg:Str→Option Value} {base:Heap}
def spNm:Sp:=fun vs H Q _=>∃k s:Nat,vs=[.int k,.int s]∧k≤1000∧s≤100000∧∀H',Same H H'→Q (.str (nmT k s)) H'
theorem scNm:FnScope ["_law_k","_law_salt","_law_letters","_law_at","_law_tell","_law_more"] ["_law_k","_law_salt"] (defScope sLName):=⟨rfl,rfl,rfl,by decide +kernel,rfl,by decide +kernel,by decide +kernel⟩
theorem suf_at {j:Nat} (h:j < 3):atI [V.str "",V.str "a",V.str "zz"] (j:Int)=some (.str (suf j)):=by
 match j,h with
 | 0,_=>rfl
 | 1,_=>rfl
 | 2,_=>rfl
theorem ok_nm {f:Addr} {fd:FuncData} (F:FunG K "_law_name" "_law_name" sLName .none f fd):FnOk P w K mg base (CXE P w) 1 f fd ["_law_k","_law_salt"] spNm:=by
 refine F.zokN scNm (fun vs H Q E h=>?_) (fun cdv A outer s H vs Q E hr h=>?_)
 ·obtain ⟨k,s,rfl,_⟩:=h
  rfl
 ·obtain ⟨k,s,rfl,hk,hs,q⟩:=h
  refine ⟨_,(zpss_cons (zps_set (i:=2) scNm.nd rfl (Or.inl rfl) zpe_str)
   (zpss_cons (zps_set (i:=3) scNm.nd rfl (Or.inl rfl) (zpe_op op_mod (zpe_op op_add (zpe_op op_mul zpe_int (zpv 0)) (zpv 1)) zpe_int))
   (zpss_cons (zps_set (i:=4) scNm.nd rfl (Or.inl rfl) (zpe_op op_add_str (zpe_ix ix_str (zpv 2) (zpe_op op_mod (zpv 3) zpe_int) (fun _ _=>rfl)) (zpe_ix ix_list (zpe_lst (zpac_c zpe_str (zpac_c zpe_str (zpac_c zpe_str zpa_nil)))) (zpe_op op_fdiv (zpv 3) zpe_int) (fun _ _=>rfl))))
   (zpss_cons (zps_set (i:=5) scNm.nd rfl (Or.inl rfl) (zpe_op op_mulS (zpe_ix ix_str (zpv 2) (zpe_op op_mod (zpv 1) zpe_int) (fun _ _=>rfl)) (zpe_op op_mod (zpe_op op_fdiv (zpv 1) zpe_int) zpe_int)))
   (zpss_cons (zps_if (zpt_cmpR op_eq (zpe_op op_mod (zpv 1) zpe_int) zpe_int (nomark _)) (zpss_one (zps_ret (zpe_op op_add_str (zpv 5) (zpv 4)))) zpss_nil)
   (zpss_one (zps_ret (zpe_op op_add_str (zpv 4) (zpv 5))))))))),?_⟩
  have ea:((37:Int) * k + s) % 61=((nmAt k s:Nat):Int):=by unfold nmAt; omega
  have al:=nmAt_lt k s
  have c26:(0:Int) < 26:=by decide
  refine ⟨_,rfl,_,_,rfl,rfl,.inl ⟨by decide,by decide⟩,_,rfl,_,_,rfl,rfl,_,_,rfl,rfl,(by show (0:Int) < 61; decide),?_⟩
  rw [show ((fun i j:Int=>V.int (i % j)) (37 * (k:Int) + (s:Int)) 61)=V.int ((nmAt k s:Nat):Int) from congrArg V.int ea]
  generalize ha:nmAt k s=a at *
  have e1:((a:Int)) % 26=((a % 26:Nat):Int):=by omega
  have e2:((a:Int)) / 26=((a / 26:Nat):Int):=by omega
  have e3:((s:Int)) % 26=((s % 26:Nat):Int):=by omega
  have e4:((s:Int)) / 26 % 6=((s / 26 % 6:Nat):Int):=by omega
  have ll:letters.length≤sizeLine:=by decide +kernel
  refine ⟨_,rfl,_,rfl,_,_,rfl,rfl,c26,letters,_,ltr (a % 26),rfl,rfl,ll,(show atI letters.cps.toList ((a:Int) % 26)=_ by rw [e1]; exact ltr_at (by omega)),by show 3≤sizeLine; decide,fun L hL=>?_⟩
  have k1:=same_upd (o:=.lst [V.str "",V.str "a",V.str "zz"]) hL
  have tl:(tell a).length≤3:=(tell_name ⟨a,al⟩).1
  have sl:(sg1 (ltr (a % 26))).length + (suf (a / 26)).length≤sizeLine:=by
   have e:(tell a).length=(sg1 (ltr (a % 26))).length + (suf (a / 26)).length:=strLen _ _
   exact Nat.le_trans (show _≤3 by omega) (by decide)
  refine ⟨_,rfl,_,_,rfl,rfl,⟨by decide,by decide⟩,L,_,_,_,rfl,rfl,SqL.of upd_same,(show atI _ ((a:Int) / 26)=_ by rw [e2]; exact suf_at (by omega)),_,_,rfl,rfl,sl,?_⟩
  refine ⟨_,rfl,_,rfl,_,_,rfl,rfl,c26,letters,_,ltr (s % 26),rfl,rfl,ll,(show atI letters.cps.toList ((s:Int) % 26)=_ by rw [e3]; exact ltr_at (by omega)),_,rfl,_,_,rfl,rfl,⟨by decide,by decide⟩,_,_,rfl,rfl,(by show (0:Int) < 6; decide),ltr (s % 26),s / 26 % 6,rfl,congrArg V.int e4,by omega,?_⟩
  have ml:(more s).length≤5:=by unfold more; rw [repS_len]; omega
  have nm:nmT k s=if s % 2=0 then more s ++ tell a else tell a ++ more s:=by unfold nmT; rw [ha]
  have both:(more s).length + (tell a).length≤sizeLine:=Nat.le_trans (show _≤8 by omega) (by decide)
  refine ⟨_,rfl,_,_,rfl,rfl,(by show (0:Int) < 2; decide),rfl,_,rfl,?_⟩
  by_cases ev:s % 2=0
  ·refine ite2 (fun _=>?_) (fun e=>absurd (show decide (V.int ((s:Int) % 2)=V.int 0)=true from decide_eq_true (by rw [show ((s:Int) % 2)=0 by omega])) e)
   rw [if_pos ev] at nm
   refine ⟨_,rfl,_,rfl,more s,tell a,rfl,rfl,both,?_⟩
   rw [← nm]; exact q _ k1
  ·refine ite2 (fun e=>absurd (of_decide_eq_true (show decide (V.int ((s:Int) % 2)=V.int 0)=true from e)) (fun z=>by injection z with z; omega)) (fun _=>?_)
   rw [if_neg ev] at nm
   refine ⟨_,rfl,_,rfl,tell a,more s,rfl,rfl,by omega,?_⟩
   rw [← nm]; exact q _ k1
end
structure Wl (H:Hp) (L:Addr) (n s:Nat):Prop where
 ex:∃xs,H L=some (.lst xs)∧xs.length=n∧∀(i:Nat) (y:V),xs[i]? = some y→∃a c,y = .ref a∧H a=some (.tup [.str (nmT i s),.int c])∧0≤c∧c≤wM
theorem Wl.to {H H':Hp} {L:Addr} {n s:Nat} (h:Wl H L n s) (k:∀b xs,(H b=some (.lst xs)→b=L→H' b=some (.lst xs))∧(H b=some (.tup xs)→H' b=some (.tup xs))):Wl H' L n s:=by
 obtain ⟨xs,h1,h2,h3⟩:=h.ex
 refine ⟨xs,(k L xs).1 h1 rfl,h2,fun i y e=>?_⟩
 obtain ⟨a,c,e1,e2,r⟩:=h3 i y e
 exact ⟨a,c,e1,(k a _).2 e2,r⟩
theorem Wl.kp {H H':Hp} {L:Addr} {n s:Nat} (h:Wl H L n s) (k:Kp H H'):Wl H' L n s:=h.to fun b xs=>⟨fun e _=>k b _ e nofun,fun e=>k b _ e nofun⟩
theorem Wl.ext {H H':Hp} {L p:Addr} {n s:Nat} (h:Wl H L n s) (sr:Src H p) (ne:L≠p) (k:Ext p H H'):Wl H' L n s:=by
 obtain ⟨z1,z2,hp,_⟩:=sr.ex
 exact h.to fun b xs=>⟨fun e z=>k b _ (z ▸ ne) e,fun e=>k b _ (fun z=>by rw [z,hp] at e; cases e) e⟩
section
variable {P:Program} {w:World} {K:PySem.W.Frag} {mg:Str→Option Value} {base:Heap}
def spWants:Sp:=fun vs H Q _=>∃(p:Addr) (n:Nat),vs=[.ref p,.int n]∧Src H p∧n≤20∧∀L s H',H L=none→Wl H' L n s→L≠p→Src H' p→Ext p H H'→Q (.ref L) H'
theorem scWs:FnScope ["_law_pool_here","_law_many","_law_salt","_law_wants_here","_law_k","_law_way","_law_count"] ["_law_pool_here","_law_many"] (defScope sWants):=⟨rfl,rfl,rfl,by decide +kernel,rfl,by decide +kernel,by decide +kernel⟩
theorem pick4 {d:Int} (h0:0≤d) (h1:d < 4):∃m:Int,atI [V.int 1,V.int 10,V.int 1000000001,V.int 3] d=some (.int m)∧0 < m∧m≤1000000001∧(d=3→m=3):=by
 rcases (show d=0∨d=1∨d=2∨d=3 by omega) with rfl | rfl | rfl | rfl
 ·exact ⟨1,rfl,by decide,by decide,by decide⟩
 ·exact ⟨10,rfl,by decide,by decide,by decide⟩
 ·exact ⟨1000000001,rfl,by decide,by decide,by decide⟩
 ·exact ⟨3,rfl,by decide,by decide,by decide⟩
theorem ok_wants {f fD fN:Addr} {fd fdD fdN:FuncData} (F:FunG K "_law_wants" "_law_wants" sWants .none f fd) (B:Bl mg)
  (GD:FnOk P w K mg base (CXE P w) 1 fD fdD ["_law_pool_here","_law_many"] spDraw) (mD:mg "_law_take" = some (.ref fD)) (kD:PySem.W.keepIn K (.ref fD)=true) (bD:Binds K fdD ["_law_pool_here","_law_many"] [])
  (GN:FnOk P w K mg base (CXE P w) 1 fN fdN ["_law_k","_law_salt"] spNm) (mN:mg "_law_name" = some (.ref fN)) (kN:PySem.W.keepIn K (.ref fN)=true) (bN:Binds K fdN ["_law_k","_law_salt"] []) :
  FnOk P w K mg base (CXE P w) 2 f fd ["_law_pool_here","_law_many"] spWants:=by
 refine F.zokN scWs (fun vs H Q E h=>?_) (fun cdv A outer s H vs Q E hr h=>?_)
 ·obtain ⟨p,n,rfl,_⟩:=h
  rfl
 ·obtain ⟨p,n,rfl,hs,hn,q⟩:=h
  refine ⟨_,(zpss_cons (zps_set (i:=2) scWs.nd rfl (Or.inl rfl) (zpe_call GD hr (by rfl) mD kD bD .nil passE0 (zpac_n (zpv 0) (zpac_c zpe_int zpa_nil))))
   (zpss_cons (zps_set (i:=3) scWs.nd rfl (Or.inl rfl) (zpe_lst zpa_nil))
   (zpss_cons (zps_for PassesOwn.never rfl (zpi_range1 (by rfl) B.range (zpac_n (zpv 1) zpa_nil)) (zpg_name (i:=4) scWs.nd rfl (Or.inl rfl))
     (zpss_cons (zps_set (i:=5) scWs.nd rfl (Or.inl rfl) (zpe_call GD hr (by rfl) mD kD bD .nil passE0 (zpac_n (zpv 0) (zpac_c zpe_int zpa_nil))))
   (zpss_cons (zps_set (i:=6) scWs.nd rfl (Or.inl rfl) (zpe_call GD hr (by rfl) mD kD bD .nil passE0 (zpac_n (zpv 0) (zpac_s (zpe_ix ix_list (zpe_lst (zpac_c zpe_int (zpac_c zpe_int (zpac_b (zpe_op op_add (zpe_op op_pow zpe_int zpe_int) zpe_int) (zpac_c zpe_int zpa_nil))))) (zpv 5) (fun _ _=>rfl)) zpa_nil))))
   (zpss_cons (zps_cut (zps_if (zpt_cmpR op_eq (zpv 5) zpe_int (nomark _)) (zpss_one (zps_set (i:=6) scWs.nd rfl (Or.inl rfl) (zpe_op op_sub (zpe_op op_pow zpe_int zpe_int) (zpv 6)))) zpss_nil))
   (zpss_one (zps_expr (zpe_bm PySem.F.plainAttrs_list PySem.F.slot_list_append PySem.F.type_list_append mt_append (zpv 3) (zpac_t (zpe_tup (zpac_f (zpe_call GN hr (by rfl) mN kN bN .nil passE0 (zpac_n (zpv 4) (zpac_n (zpv 2) zpa_nil))) (zpac_n (zpv 6) zpa_nil))) zpa_nil))))))))
   (zpss_one (zps_ret (zpv 3)))))),?_⟩
  refine ⟨_,rfl,p,_,rfl,hs,by decide,by decide,fun d H1 d0 d1 s1 k1=>?_⟩
  obtain ⟨sa,rfl⟩:=Int.eq_ofNat_of_zero_le d0
  refine ⟨by decide,fun L hL=>?_⟩
  have Lp:L≠p:=fun z=>by obtain ⟨_,_,e,_⟩:=s1.ex; rw [z,e] at hL; cases hL
  have hL0:H L=none:=by rw [← k1 L Lp]; exact hL
  have e1:Ext p H (upd H1 L (.lst [])):=fun b o nb e=>by
   rw [upd_ne (ne_of_none e hL0),k1 b nb]; exact e
  have s2:Src (upd H1 L (.lst [])) p:=s1.new hL
  refine ⟨_,rfl,_,rfl,by omega,by omega,?_⟩
  refine for_range (lo:=0) (n:=n) (fun i σ H2=>(∃v1 v2 v3,σ=[some (.ref p),some (.int n),some (.int sa),some (.ref L),v1,v2,v3])∧Src H2 p∧Wl H2 L i sa∧Ext p H H2) ⟨⟨_,_,_,rfl⟩,s2,⟨[],upd_same,rfl,fun i y e=>by simp at e⟩,e1⟩ ?_ ?_
  ·rintro i σ H2 hi ⟨⟨v1,v2,v3,rfl⟩,sr,wl,ex⟩
   rw [show (0:Int) + (i:Int)=(i:Int) from Int.zero_add _]
   refine ⟨_,rfl,p,_,rfl,sr,by decide,by decide,fun d H3 d0 d1 s3 k3=>?_⟩
   have ex3:Ext p H H3:=fun b o nb e=>(k3 b nb).trans (ex b o nb e)
   have wl3:Wl H3 L i sa:=wl.ext sr Lp fun b o nb e=>(k3 b nb).trans e
   refine ⟨_,rfl,⟨_,_,rfl,rfl,⟨by decide,by decide,by decide⟩,_,_,rfl,rfl,by show 4≤sizeLine; decide,fun M hM=>?_⟩⟩
   obtain ⟨m,em,m0,m1,m3⟩:=pick4 d0 d1
   have s4:Src (upd H3 M (.lst [V.int 1,V.int 10,V.int ((10:Int) ^ (9:Int).toNat + 1),V.int 3])) p:=s3.new hM
   have em':atI [V.int 1,V.int 10,V.int ((10:Int) ^ (9:Int).toNat + 1),V.int 3] d=some (.int m):=by rw [pw9]; exact em
   refine ⟨_,rfl,M,_,_,_,rfl,rfl,SqL.of upd_same,em',p,m,rfl,s4,m0,?_,fun c H5 c0 c1 s5 k5=>?_⟩
   ·exact Nat.lt_of_le_of_lt (show m.natAbs≤1000000001 by omega) (by decide +kernel)
   ·have ex5:Ext p H H5:=fun b o nb e=>by
     have e3:=ex3 b o nb e
     rw [k5 b nb,upd_ne (ne_of_none e3 hM)]; exact e3
    have wl5:Wl H5 L i sa:=by
     refine (wl3.kp (Kp.new hM)).ext s4 Lp fun b o nb e=>(k5 b nb).trans e
    refine ⟨fun σ H6=>H6=H5∧∃(v5:Option V) (cc:Int),σ=[some (.ref p),some (.int n),some (.int sa),some (.ref L),some (.int i),v5,some (.int cc)]∧0≤cc∧cc≤wM,?_,?_⟩
    ·refine ⟨_,rfl,rfl,_,rfl,?_⟩
     refine ite2 (fun e=>?_) (fun e=>?_)
     ·have e':V.int d=V.int 3:=of_decide_eq_true e
      injection e' with e'
      have:=m3 e'
      refine ⟨_,_,rfl,rfl,⟨by decide,by decide,by decide⟩,_,rfl,_,_,rfl,rfl,rfl,_,(10:Int) ^ (9:Int).toNat - c,rfl,by rw [pw9]; omega,by rw [pw9]; unfold wM; omega⟩
     ·exact ⟨rfl,_,c,rfl,c0,by unfold wM; omega⟩
    ·rintro σ H6 ⟨rfl,v5,cc,rfl,cc0,cc1⟩
     obtain ⟨xs,hx1,hx2,hx3⟩:=wl5.ex
     refine ⟨_,rfl,.inl ⟨rfl,_,SqL.of hx1⟩,_,rfl,_,rfl,i,sa,rfl,by omega,by omega,fun H7 k7=>?_⟩
     refine ⟨_,rfl,by show 2≤sizeLine; decide,fun t ht=>?_⟩
     have k8:Same H6 (upd H7 t (.tup [.str (nmT i sa),.int cc])):=k7.trans (same_upd ht)
     refine ⟨L,xs,_,rfl,rfl,k8 _ _ hx1,?_,?_⟩
     ·rw [hx2]; exact Nat.lt_of_lt_of_le (show i < 21 by omega) (by decide)
     ·have tL:t≠L:=fun z=>by rw [z,k7 _ _ hx1] at ht; cases ht
      refine ⟨⟨_,_,_,rfl⟩,?_,?_,?_⟩
      ·obtain ⟨z1,z2,z3,z4⟩:=s5.ex
       exact ⟨z1,z2,by rw [upd_ne (Ne.symm Lp)]; exact k8 _ _ z3,z4⟩
      ·refine ⟨xs ++ [.ref t],upd_same,by rw [List.length_append,hx2]; rfl,fun j y e=>?_⟩
       by_cases hj:j < xs.length
       ·rw [List.getElem?_append_left hj] at e
        obtain ⟨a,c',f1,f2,f3⟩:=hx3 j y e
        exact ⟨a,c',f1,by rw [upd_ne (fun z=>by rw [z,hx1] at f2; cases f2)]; exact k8 _ _ f2,f3⟩
       ·rw [List.getElem?_append_right (by omega)] at e
        have ej:j=i:=by
         have:=(List.getElem?_eq_some_iff.mp e).1
         simp at this; omega
        subst ej
        rw [hx2,Nat.sub_self] at e
        have:y = .ref t:=(Option.some.inj e).symm
        exact ⟨t,cc,this,by rw [upd_ne tL]; exact upd_same,cc0,cc1⟩
      ·intro b o nb e
       rw [upd_ne (ne_of_none e hL0)]; exact k8 _ _ (ex5 b o nb e)
  ·rintro σ H2 ⟨⟨v1,v2,v3,rfl⟩,sr,wl,ex⟩
   exact ⟨_,rfl,q L sa H2 hL0 wl Lp sr ex⟩
end
def lastS (x:Str):Str:=sg1 (x.cps.toList.getLastD 0)
def mayB (fs ps:List Str) (a s:Str):Bool:=if a = "" then !decide (s∈fs) else !decide (lastS a ++ s∈ps)
theorem last_at {x:Str} (h:x≠""):atI x.cps.toList (-1)=some (x.cps.toList.getLastD 0):=by
 have ne:x.cps.toList≠[]:=fun z=>h (PyProof.Rows.ext_toList (by rw [z]; rfl))
 have l:0 < x.cps.toList.length:=List.length_pos_iff.mpr ne
 unfold atI ixN
 rw [if_neg (by decide),if_pos (by omega)]
 show x.cps.toList[((-1:Int) + (x.cps.toList.length:Int)).toNat]? = _
 rw [show ((-1:Int) + (x.cps.toList.length:Int)).toNat=x.cps.toList.length - 1 by omega,← List.getLast?_eq_getElem?,List.getLastD_eq_getLast?,List.getLast?_eq_some_getLast ne]
 rfl
section
variable {P:Program} {w:World} {K:PySem.W.Frag} {mg:Str→Option Value} {base:Heap}
def spMay:Sp:=fun vs H Q _=>∃(t:Addr) (cs:List Nat) (fs ps:List Str) (lg:Int) (a s:Str),vs=[.ref t,.str a,.str s]∧Tg H t cs fs ps lg∧a.length≤1000∧s.length≤1000∧Q (.bl (mayB fs ps a s)) H
theorem scMc:FnScope ["_law_tongue_here","_law_ahead","_law_sign"] ["_law_tongue_here","_law_ahead","_law_sign"] (defScope sMay):=⟨rfl,rfl,rfl,by decide +kernel,rfl,by decide +kernel,by decide +kernel⟩
theorem ok_may {f:Addr} {fd:FuncData} (F:FunG K "_law_may_come" "_law_may_come" sMay .none f fd) :
  FnOk P w K mg base (CXE P w) 1 f fd ["_law_tongue_here","_law_ahead","_law_sign"] spMay:=by
 refine F.zokN scMc (fun vs H Q E h=>?_) (fun cdv A outer s H vs Q E hr h=>?_)
 ·obtain ⟨t,cs,fs,ps,lg,a,s,rfl,_⟩:=h
  rfl
 ·obtain ⟨t,cs,fs,ps,lg,a,s,rfl,tg,al,sl,q⟩:=h
  refine ⟨_,(zpss_cons (zps_if (zpt_cmpR op_eq (zpv 1) zpe_str (nomark _)) (zpss_one (zps_ret (zpe_cmpR op_notIn_seq (zpv 2) (zpe_ix ix_tup (zpv 0) zpe_int (fun _ _=>rfl)) rfl))) zpss_nil)
   (zpss_one (zps_ret (zpe_cmpR op_notIn_seq (zpe_op op_add_str (zpe_ix ix_str (zpv 1) (zpe_un un_neg zpe_int) (fun _ _=>rfl)) (zpv 2)) (zpe_ix ix_tup (zpv 0) zpe_int (fun _ _=>rfl)) rfl)))),?_⟩
  obtain ⟨S,Fa,Pp,xs,ht,_,_,hF,hP⟩:=tg.ex
  refine ⟨_,rfl,rfl,_,rfl,ite2 (fun e=>?_) (fun e=>?_)⟩
  ·have e:=of_decide_eq_true e
   injection e with e
   refine ⟨_,rfl,_,rfl,t,_,_,_,rfl,rfl,SqT.of ht,rfl,Fa,_,rfl,.inl (SqL.of hF),rfl,txs_flat fs,?_⟩
   rw [if_pos rfl,inV_txs]
   unfold mayB at q
   rw [if_pos e] at q
   exact q
  ·have ne:a≠"":=fun z=>e (decide_eq_true (by rw [z]))
   refine ⟨_,rfl,_,rfl,a,_,_,rfl,rfl,Nat.le_trans al (by decide),last_at ne,_,rfl,_,_,rfl,rfl,?_,_,rfl,t,_,_,_,rfl,rfl,SqT.of ht,rfl,Pp,_,rfl,.inl (SqL.of hP),rfl,txs_flat ps,?_⟩
   ·exact Nat.le_trans (show 1 + s.length≤2000 by omega) (by decide)
   rw [if_pos rfl,inV_txs]
   unfold mayB at q
   rw [if_neg ne] at q
   exact q
end
def comeB (fs ps:List Str) (a s:Str):Bool:=if a = "" then !decide (s∈fs) else !decide (a ++ s∈ps)
def prv (z:Str) (i:Nat):Str:=match i with
 | 0=>""
 | j + 1=>match z.cps[j]? with
  | some c=>sg1 c
  | none=>""
def okAt (cs:List Nat) (fs ps:List Str) (z:Str) (i:Nat):Bool:=match z.cps[i]? with
 | some c=>decide (sg1 c∈sgs cs) && comeB fs ps (prv z i) (sg1 c)
 | none=>true
def stB (cs:List Nat) (fs ps:List Str) (lg:Int):V→Bool
 | .str z=>decide ((z.length:Int)≤lg) && (List.range z.cps.size).all (okAt cs fs ps z)
 | _=>false
theorem all_upto {f:Nat→Bool} {n:Nat} (h:∀j,j < n→f j=true):(List.range n).all f=true:=List.all_eq_true.mpr fun j hj=>h j (List.mem_range.mp hj)
def lastV (H:Hp):V→V
 | .ref a=>match H a with
  | some (.tup [_,_,l])=>l
  | _=>.non
 | _=>.non
theorem Row.last {H:Hp} {x:V} {c:Nat} (h:Row H x c):∃a p,x = .ref a∧H a=some (.tup [.str (sg1 c),p,lastV H x])∧(lastV H x = .non∨PrA H (lastV H x)):=by
 obtain ⟨a,p,l,rfl,ha,hp,hl⟩:=h.ex
 have e:lastV H (.ref a)=l:=by
  show (match H a with | some (.tup [_,_,l])=>l | _=>.non)=l
  rw [ha]
 exact ⟨a,p,rfl,by rw [e]; exact ha,by rw [e]; exact hl⟩
theorem Row.last_kp {H H':Hp} {x:V} {c:Nat} (h:Row H x c) (k:Kp H H'):lastV H' x=lastV H x:=by
 obtain ⟨a,p,rfl,ha,_⟩:=h.last
 have h':=k.tup ha
 show (match H' a with | some (.tup [_,_,l])=>l | _=>.non)=_
 rw [h']
noncomputable def endB (H:Hp) (xs:List V) (cs:List Nat) (c:Nat):Bool:=@decide (∃(i:Nat) (x:V),xs[i]? = some x∧cs[i]? = some c∧lastV H x≠.non) (Classical.propDecidable _)
theorem endB_t {H:Hp} {xs:List V} {cs:List Nat} {c:Nat} (h:∃(i:Nat) (x:V),xs[i]? = some x∧cs[i]? = some c∧lastV H x≠.non):endB H xs cs c=true:=by unfold endB; exact @decide_eq_true _ (Classical.propDecidable _) h
theorem endB_f {H:Hp} {xs:List V} {cs:List Nat} {c:Nat} (h:¬∃(i:Nat) (x:V),xs[i]? = some x∧cs[i]? = some c∧lastV H x≠.non):endB H xs cs c=false:=by unfold endB; exact @decide_eq_false _ (Classical.propDecidable _) h
theorem nd_at {cs:List Nat} (h:cs.Nodup) {i j c:Nat} (e1:cs[i]? = some c) (e2:cs[j]? = some c):i=j:=by
 obtain ⟨h1,q1⟩:=List.getElem?_eq_some_iff.mp e1
 obtain ⟨h2,q2⟩:=List.getElem?_eq_some_iff.mp e2
 exact (List.getElem_inj (h₀:=h1) (h₁:=h2) h).mp (by rw [q1,q2])
theorem endB_at {H:Hp} {xs:List V} {cs:List Nat} {c i:Nat} {x:V} (nd:cs.Nodup) (e1:xs[i]? = some x) (e2:cs[i]? = some c):endB H xs cs c = !decide (lastV H x = .non):=by
 by_cases h:lastV H x = .non
 ·rw [decide_eq_true h]
  refine endB_f ?_
  rintro ⟨j,y,f1,f2,ne⟩
  have:=nd_at nd e2 f2
  subst this
  rw [e1] at f1; cases f1
  exact ne h
 ·rw [decide_eq_false h]
  exact endB_t ⟨i,x,e1,e2,h⟩
theorem endB_kp {H H':Hp} {xs:List V} {cs:List Nat} {c:Nat} (r:Rows H xs cs) (k:Kp H H'):endB H' xs cs c=endB H xs cs c:=by
 by_cases h:∃(i:Nat) (x:V),xs[i]? = some x∧cs[i]? = some c∧lastV H x≠.non
 ·rw [endB_t h]
  obtain ⟨i,x,e1,e2,ne⟩:=h
  exact endB_t ⟨i,x,e1,e2,by rw [(r.row i x c e1 e2).last_kp k]; exact ne⟩
 ·rw [endB_f h]
  refine endB_f ?_
  rintro ⟨i,x,e1,e2,ne⟩
  exact h ⟨i,x,e1,e2,by rw [← (r.row i x c e1 e2).last_kp k]; exact ne⟩
noncomputable def wdB (H:Hp) (xs:List V) (cs:List Nat) (fs ps:List Str) (lg:Int):V→Bool
 | .str z=>stB cs fs ps lg (.str z) && match z.cps[z.cps.size - 1]? with
  | some c=>endB H xs cs c
  | none=>false
 | _=>false
theorem wdB_kp {H H':Hp} {xs:List V} {cs:List Nat} {fs ps:List Str} {lg:Int} (x:V) (r:Rows H xs cs) (k:Kp H H'):wdB H' xs cs fs ps lg x=wdB H xs cs fs ps lg x:=by
 cases x with
 | str z=>
  rcases hh:z.cps[z.cps.size - 1]? with _ | c
  ·simp only [wdB,hh]
  ·simp only [wdB,hh,endB_kp r k]
 | _=>rfl
theorem str_nil {z:Str}:z = ""↔z.cps.size=0:=by
 constructor
 ·rintro rfl; rfl
 ·intro h
  cases z with
  | mk cps=>
   have:cps = #[]:=Array.size_eq_zero_iff.mp h
   rw [this]; rfl
theorem sg1_ne (c:Nat):sg1 c≠"":=fun h=>by
 have:=str_nil.mp h
 exact absurd this (by show (1:Nat)≠0; decide)
theorem prv_succ {z:Str} {i c:Nat} (h:z.cps[i]? = some c):prv z (i + 1)=sg1 c:=by
 show (match z.cps[i]? with | some c=>sg1 c | none=>"")=sg1 c
 rw [h]
structure TgX (H:Hp) (t:Addr) (xs:List V) (cs:List Nat):Prop where
 ex:∃S F Pp lg,H t=some (.tup [.ref S,F,Pp,lg])∧H S=some (.lst xs)
 rows:Rows H xs cs
theorem TgX.kp {H H':Hp} {t:Addr} {xs:List V} {cs:List Nat} (h:TgX H t xs cs) (k:Kp H H'):TgX H' t xs cs:=by
 obtain ⟨S,F,Pp,lg,h1,h2⟩:=h.ex
 exact ⟨⟨S,F,Pp,lg,k.tup h1,k.lst h2⟩,h.rows.kp k⟩
theorem Tg.x {H:Hp} {t:Addr} {cs:List Nat} {fs ps:List Str} {lg:Int} (h:Tg H t cs fs ps lg):∃xs,TgX H t xs cs:=by
 obtain ⟨S,F,Pp,xs,h1,h2,h3,_⟩:=h.ex
 exact ⟨xs,⟨S,_,_,_,h1,h2⟩,h3⟩
theorem at_last {z:Str} (h:0 < z.cps.size):∃c,z.cps[z.cps.size - 1]? = some c∧atI z.cps.toList (-1)=some c:=by
 have h1:z.cps.size - 1 < z.cps.size:=by omega
 refine ⟨z.cps[z.cps.size - 1],Array.getElem?_eq_getElem h1,?_⟩
 unfold atI ixN
 have e:z.cps.toList.length=z.cps.size:=by simp
 rw [e,if_neg (by decide),if_pos (by omega)]
 simp only [Option.bind_some]
 have:(-1 + (z.cps.size:Int)).toNat=z.cps.size - 1:=by omega
 simp [this,h1]
theorem wd_no {H:Hp} {xs:List V} {cs:List Nat} {fs ps:List Str} {lg:Int} {x:V} (h:stB cs fs ps lg x=false):wdB H xs cs fs ps lg x=false:=by
 cases x with
 | str z=>
  rcases hh:z.cps[z.cps.size - 1]? with _ | c <;> simp only [wdB,hh,h,Bool.false_and]
 | _=>rfl
theorem wd_at {H:Hp} {xs:List V} {cs:List Nat} {fs ps:List Str} {lg:Int} {z:Str} {c:Nat} (h:stB cs fs ps lg (.str z)=true) (e:z.cps[z.cps.size - 1]? = some c):wdB H xs cs fs ps lg (.str z)=endB H xs cs c:=by
 simp only [wdB,e,h,Bool.true_and]
theorem snoc_size (t:Str) (c:Nat):(t ++ sg1 c:Str).cps.size=t.cps.size + 1:=by
 show (t.cps ++ #[c]).size=_
 simp
theorem snoc_at (t:Str) (c:Nat):(t ++ sg1 c:Str).cps[t.cps.size]? = some c:=by
 show (t.cps ++ #[c])[t.cps.size]? = _
 simp
theorem snoc_low (t:Str) (c:Nat) {i:Nat} (h:i < t.cps.size):(t ++ sg1 c:Str).cps[i]? = t.cps[i]?:=by
 show (t.cps ++ #[c])[i]? = _
 rw [Array.getElem?_append_left h]
theorem prv_low {t:Str} {c j:Nat} (h:j≤t.cps.size):prv (t ++ sg1 c) j=prv t j:=by
 cases j with
 | zero=>rfl
 | succ k=>
  show (match (t ++ sg1 c:Str).cps[k]? with | some c=>sg1 c | none=>("" : Str))=match t.cps[k]? with | some c=>sg1 c | none=>("" : Str)
  rw [snoc_low t c (by omega)]
theorem last_prv {t:Str} (h:t≠""):prv t t.cps.size=lastS t:=by
 have h0:t.cps.size≠0:=fun z=>h (str_nil.mpr z)
 obtain ⟨k,hk⟩:∃k,t.cps.size=k + 1:=⟨t.cps.size - 1,by omega⟩
 have l:k < t.cps.size:=by omega
 rw [hk,prv_succ (Array.getElem?_eq_getElem l)]
 unfold lastS
 congr 1
 rw [List.getLastD_eq_getLast?,List.getLast?_eq_getElem?]
 have:t.cps.toList.length - 1=k:=by
  have:t.cps.toList.length=t.cps.size:=by simp
  omega
 rw [this]
 simp [l]
theorem may_come {fs ps:List Str} (t s:Str):comeB fs ps (prv t t.cps.size) s=mayB fs ps t s:=by
 unfold mayB
 by_cases h:t = ""
 ·subst h
  rfl
 ·rw [if_neg h,last_prv h]
  unfold comeB
  have:lastS t≠"":=sg1_ne _
  rw [if_neg this]
theorem st_snoc {cs:List Nat} {fs ps:List Str} {lg:Int} {t:Str} {c:Nat} (h:stB cs fs ps lg (.str t)=true) (hc:c∈cs) (m:mayB fs ps t (sg1 c)=true) (l:(t.cps.size:Int) < lg):stB cs fs ps lg (.str (t ++ sg1 c))=true:=by
 have a:(decide ((t.length:Int)≤lg) && (List.range t.cps.size).all (okAt cs fs ps t))=true:=h
 have a:=(Bool.and_eq_true _ _ ▸ a:_∧_).2
 have e:stB cs fs ps lg (.str (t ++ sg1 c))=(decide (((t ++ sg1 c:Str).length:Int)≤lg) && (List.range (t ++ sg1 c:Str).cps.size).all (okAt cs fs ps (t ++ sg1 c))):=rfl
 rw [e]
 have l2:(t ++ sg1 c:Str).length=t.cps.size + 1:=snoc_size t c
 rw [l2,decide_eq_true (by omega),Bool.true_and,snoc_size]
 refine all_upto fun j hj=>?_
 by_cases hjt:j < t.cps.size
 ·have o:=List.all_eq_true.mp a j (List.mem_range.mpr hjt)
  unfold okAt at o ⊢
  rw [snoc_low t c hjt,prv_low (by omega)]
  exact o
 ·have:j=t.cps.size:=by omega
  subst this
  unfold okAt
  rw [snoc_at]
  show (decide (sg1 c∈sgs cs) && comeB fs ps (prv (t ++ sg1 c) t.cps.size) (sg1 c))=true
  have mem:sg1 c∈sgs cs:=List.mem_map.mpr ⟨c,hc,rfl⟩
  rw [prv_low (Nat.le_refl _),may_come,m,decide_eq_true mem]
  rfl
theorem st_nil {cs:List Nat} {fs ps:List Str} {lg:Int} (h:1≤lg):stB cs fs ps lg (.str "")=true:=by
 show (decide ((("" : Str).length:Int)≤lg) && (List.range 0).all (okAt cs fs ps ""))=true
 have:(("" : Str).length:Int)=0:=rfl
 rw [this,decide_eq_true (by omega)]; rfl
theorem wd_snoc {H:Hp} {xs:List V} {cs:List Nat} {fs ps:List Str} {lg:Int} {t:Str} {c:Nat} (h:stB cs fs ps lg (.str (t ++ sg1 c))=true):wdB H xs cs fs ps lg (.str (t ++ sg1 c))=endB H xs cs c:=by
 refine wd_at h ?_
 rw [snoc_size]
 exact snoc_at t c
def lkv (xs:List V) (cs:List Nat) (H:Hp):List (Key × V):=(cs.zip xs).map fun p=>((Sum.inr (sg1 p.1):Key),lastV H p.2)
theorem putAll_nd:∀(kvs acc:List (Key × V)),(kvs.map (·.1)).Nodup→(∀k∈kvs.map (·.1),valV acc k=none)→kvs.foldl (fun m p=>putK m p.1 p.2) acc=acc ++ kvs
 | [],acc,_,_=>by simp
 | p :: kvs,acc,nd,h=>by
  rw [List.foldl_cons,putK_new p.2 (h p.1 (by simp)),putAll_nd kvs _ (List.nodup_cons.mp nd).2 fun k hk=>?_]
  ·simp
  ·rw [← putK_new p.2 (h p.1 (by simp)),valV_put]
   have:k≠p.1:=fun z=>(List.nodup_cons.mp nd).1 (by rw [z] at hk; exact hk)
   rw [if_neg this]
   exact h k (by rw [List.map_cons]; exact List.mem_cons_of_mem _ hk)
theorem valV_nil (k:Key):valV ([]:List (Key × V)) k=none:=rfl
theorem lkv_at {xs:List V} {cs:List Nat} {H:Hp} {i:Nat} {k:Key} {v:V} (h:(lkv xs cs H)[i]? = some (k,v)):∃c x,cs[i]? = some c∧xs[i]? = some x∧k=Sum.inr (sg1 c)∧v=lastV H x:=by
 unfold lkv at h
 rw [List.getElem?_map] at h
 obtain ⟨p,hp,e⟩:=Option.map_eq_some_iff.mp h
 obtain ⟨h1,h2⟩:=List.getElem?_zip_eq_some.mp hp
 injection e with e1 e2
 exact ⟨p.1,p.2,h1,h2,e1.symm,e2.symm⟩
theorem lkv_keys {xs:List V} {cs:List Nat} {H:Hp} (l:cs.length=xs.length):(lkv xs cs H).map (·.1)=cs.map fun c=>(Sum.inr (sg1 c):Key):=by
 unfold lkv
 rw [List.map_map]
 have:((fun p:Key × V=>p.1) ∘ fun p:Nat × V=>((Sum.inr (sg1 p.1):Key),lastV H p.2))=(fun c=>(Sum.inr (sg1 c):Key)) ∘ Prod.fst:=rfl
 rw [this,← List.map_map,List.map_fst_zip (by omega)]
theorem lkv_nd {xs:List V} {cs:List Nat} {H:Hp} (l:cs.length=xs.length) (nd:cs.Nodup):((lkv xs cs H).map (·.1)).Nodup:=by
 rw [lkv_keys l]
 exact List.Pairwise.map _ (fun a b h z=>h (sg1_inj (Sum.inr.inj z))) nd
theorem lkv_all {xs:List V} {cs:List Nat} {H:Hp} (l:cs.length=xs.length) (nd:cs.Nodup):putAll (lkv xs cs H)=lkv xs cs H:=by
 exact (putAll_nd (lkv xs cs H) [] (lkv_nd l nd) (fun k _=>valV_nil k)).trans (List.nil_append _)
theorem val_mem:∀{kvs:List (Key × V)} {k:Key} {v:V} {i:Nat},(kvs.map (·.1)).Nodup→kvs[i]? = some (k,v)→valV kvs k=some v:=by
 intro kvs k v i nd h
 have e:kvs=kvs.take i ++ (k,v) :: kvs.drop (i + 1):=by
  obtain ⟨hl,e⟩:=List.getElem?_eq_some_iff.mp h
  rw [← e]; simp
 have f:kvs.foldl (fun m p=>putK m p.1 p.2) ([]:List (Key × V))=kvs:=by simpa using putAll_nd kvs [] nd (fun k _=>valV_nil k)
 have nd2:=nd
 rw [e,List.map_append,List.map_cons] at nd2
 rw [← f]
 conv=>lhs; rw [e]
 rw [List.foldl_append,List.foldl_cons]
 have keep:∀(l acc:List (Key × V)),k∉l.map (·.1)→valV (l.foldl (fun m p=>putK m p.1 p.2) acc) k=valV acc k:=by
  intro l
  induction l with
  | nil=>intro acc _; rfl
  | cons p l ih=>
   intro acc hn
   rw [List.foldl_cons,ih _ fun z=>hn (by rw [List.map_cons]; exact List.mem_cons_of_mem _ z),valV_put,if_neg fun z=>hn (by rw [z]; simp)]
 have nk:k∉(kvs.drop (i + 1)).map (·.1):=(List.nodup_cons.mp (List.nodup_append.mp nd2).2.1).1
 rw [keep _ _ nk,valV_put,if_pos rfl]
section
variable {P:Program} {w:World} {K:PySem.W.Frag} {mg:Str→Option Value} {base:Heap}
def Wds (H:Hp) (xs:List V) (cs:List Nat) (fs ps:List Str) (lg:Int) (ws:List Str):Prop:=∀z∈ws,wdB H xs cs fs ps lg (.str z)=true
def W0 (H:Hp) (xs:List V) (cs:List Nat) (fs:List Str):Prop:=fs=[]∧∀c∈cs,endB H xs cs c=true
def ExW (w0:Prop) (c n:Nat) (bs ws:List Str):Prop:=bs[0]? = some ("" : Str)∧(n=0→bs.length≤c)∧(w0→0 < n→ws≠[])
def spWords:Sp:=fun vs H Q _=>∃(t:Addr) (xs:List V) (cs:List Nat) (fs ps:List Str) (lg:Int),vs=[.ref t]∧Tg H t cs fs ps lg∧TgX H t xs cs∧
 ∀b ws H',Same H H'→H b=none→H' b=some (.lst (txs ws))→Wds H xs cs fs ps lg ws→ws.length≤3000→(W0 H xs cs fs→ws≠[])→Q (.ref b) H'
theorem scWo:FnScope ["_law_tongue_here","_law_ends","_law_begins","_law_words_here","_law_at","_law_sign","_law_text"] ["_law_tongue_here"] (defScope sWords):=⟨rfl,rfl,rfl,by decide +kernel,rfl,by decide +kernel,by decide +kernel⟩
theorem ok_words {f fY:Addr} {fd fdY:FuncData} (F:FunG K "_law_words" "_law_words" sWords .none f fd) (B:Bl mg) (mdict:mg "dict" = none)
  (GY:FnOk P w K mg base (CXE P w) 1 fY fdY ["_law_tongue_here","_law_ahead","_law_sign"] spMay) (mY:mg "_law_may_come" = some (.ref fY)) (kY:PySem.W.keepIn K (.ref fY)=true) (bY:Binds K fdY ["_law_tongue_here","_law_ahead","_law_sign"] []):FnOk P w K mg base (CXE P w) 2 f fd ["_law_tongue_here"] spWords:=by
 refine F.zokN scWo (fun vs H Q E h=>?_) (fun cdv A outer s H vs Q E hr h=>?_)
 ·obtain ⟨t,xs,cs,fs,ps,lg,rfl,_⟩:=h
  rfl
 ·obtain ⟨t,xs,cs,fs,ps,lg,rfl,hg,hx,q⟩:=h
  refine ⟨_,(zpss_cons (zps_set (i:=1) scWo.nd rfl (Or.inl rfl) (zpe_callTy (call_dictP rfl) (by rfl) mdict boot_dict (zpac_x (zpe_compL ["_law_tongue_here","_law_ends","_law_begins","_law_words_here","_law_at","_law_sign","_law_text"] ["_law_row"] [] (defScope sWords) rfl rfl rfl ⟨by decide +kernel,by decide +kernel,by decide +kernel,by decide +kernel,by decide +kernel⟩ (zpi_list (zpe_ix ix_tup (zpv 0) zpe_int (fun _ _=>rfl))) (fun s H fp=>(zpg_name (i:=0) (show List.Nodup [("_law_row" : Str)] by decide +kernel) rfl (Or.inl rfl))) (fun s H fp=>zpts_nil) (fun s H fp=>(zpe_tup (zpac_s (zpe_ix (ix_tupK K rfl) (zpv 0) zpe_int (fun _ _=>rfl)) (zpac_s (zpe_ix (ix_tupK K rfl) (zpv 0) zpe_int (fun _ _=>rfl)) zpa_nil))))) zpa_nil)))
   (zpss_cons (zps_set (i:=2) scWo.nd rfl (Or.inl rfl) (zpe_lst (zpac_c zpe_str zpa_nil)))
   (zpss_cons (zps_set (i:=3) scWo.nd rfl (Or.inl rfl) (zpe_lst zpa_nil))
   (zpss_cons (zps_set (i:=4) scWo.nd rfl (Or.inl rfl) zpe_int)
   (zpss_cons (zps_while PassesOwn.never (zpt_cmpR op_lt (zpv 4) (zpe_callB call_len_seq (by rfl) B.len PySem.boot_len (zpac_n (zpv 2) zpa_nil)) (nomark _)) (zpss_cons (zps_for PassesOwn.never rfl (zpi_keys (zpv 1)) (zpg_name (i:=5) scWo.nd rfl (Or.inl rfl))
       (zpss_one (zps_if (SPW.pt (zpw_and (zpt_val (zpe_call GY hr (by rfl) mY kY bY .nil passE0 (zpac_n (zpv 0) (zpac_s (zpe_ix ix_list (zpv 2) (zpv 4) (fun _ _=>rfl)) (zpac_n (zpv 5) zpa_nil))))) (zpw_and1 (zpt_cmpR op_lt (zpe_callB call_len_seq (by rfl) B.len PySem.boot_len (zpac_n (zpv 2) zpa_nil)) zpe_int (nomark _))))) (zpss_cons (zps_set (i:=6) scWo.nd rfl (Or.inl rfl) (zpe_op op_add_str (zpe_ix ix_list (zpv 2) (zpv 4) (fun _ _=>rfl)) (zpv 5)))
   (zpss_cons (zps_cut (zps_if (zpt_cmpR op_lt (zpe_callB call_len_str (by rfl) B.len PySem.boot_len (zpac_n (zpv 6) zpa_nil)) (zpe_ix ix_tup (zpv 0) zpe_int (fun _ _=>rfl)) (nomark _)) (zpss_one (zps_expr (zpe_bm PySem.F.plainAttrs_list PySem.F.slot_list_append PySem.F.type_list_append mt_append (zpv 2) (zpac_n (zpv 6) zpa_nil)))) zpss_nil))
   (zpss_one (zps_if (zpt_cmp (zpc_notN (zpe_dget hr.units1 (zpv 1) (zpv 5) (fun _ _=>rfl)))) (zpss_one (zps_expr (zpe_bm PySem.F.plainAttrs_list PySem.F.slot_list_append PySem.F.type_list_append mt_append (zpv 3) (zpac_n (zpv 6) zpa_nil)))) zpss_nil)))) zpss_nil)))
   (zpss_one (zps_set (i:=4) scWo.nd rfl (Or.inl rfl) (zpe_op op_add (zpv 4) zpe_int)))))
   (zpss_one (zps_ret (zpv 3)))))))),?_⟩
  obtain ⟨S,F',Pp,lgv,h1,h2⟩:=hx.ex
  have xl:cs.length=xs.length:=hx.rows.len.symm
  have c6:=hg.c6
  refine ⟨_,rfl,t,_,_,_,rfl,rfl,SqT.of h1,rfl,S,rfl,⟨_,SqL.of h2⟩,?_⟩
  (intro l gl; generalize hEq:upd _ l _=H1; refine newC hEq gl ?_; clear hEq; intro S1 e1 o1)
  refine lr_list (K:=K) (S:=S) (xs:=xs) (fun i σ H2=>(∃v,σ=[v])∧Same H H2∧∃ts:List Addr,H2 l=some (.lst (ts.map V.ref))∧ts.length=i∧∀(j:Nat) (a:Addr),ts[j]? = some a→∃c x,cs[j]? = some c∧xs[j]? = some x∧H2 a=some (.tup [.str (sg1 c),lastV H x])) ⟨⟨_,rfl⟩,S1,[],e1,rfl,fun j a h=>by simp at h⟩ (fun i σ H2 p=>SqL.of (p.2.1 _ _ h2)) ?_ ?_
  ·rintro i x σ H2 C hi ⟨⟨v,rfl⟩,k2,ts,hl,tl,ok⟩ nx
   obtain ⟨c,hc,row⟩:=hx.rows.at hi
   obtain ⟨a,p,rfl,ha,_⟩:=row.last
   have ha2:=k2 _ _ ha
   refine ⟨_,rfl,a,_,_,_,rfl,rfl,SqT.of ha2,rfl,_,rfl,a,_,_,_,rfl,rfl,SqT.of ha2,rfl,by show 2≤sizeLine; decide,?_⟩
   (intro u gu; generalize hEq:upd _ u _=H3; refine newC hEq gu ?_; clear hEq; intro S3 e3 o3)
   have il:i < 7:=by
    have:=(List.getElem?_eq_some_iff.mp hc).1
    omega
   have hl3:=S3 _ _ hl
   refine ⟨_,hl3,by rw [List.length_map,tl]; exact Nat.lt_of_lt_of_le il (by decide),nx _ _ ⟨⟨_,rfl⟩,fun b o e=>?_,ts ++ [u],?_,by rw [List.length_append,tl]; rfl,fun j b hj=>?_⟩⟩
   ·rw [upd_ne (ne_of_none e gl)]; exact S3 _ _ (k2 _ _ e)
   ·rw [List.map_append]; exact upd_same
   ·have nl:∀{d:Addr} {ys:List V},H3 d=some (.tup ys)→d≠l:=fun h z=>by rw [z,hl3] at h; cases h
    by_cases jl:j < ts.length
    ·rw [List.getElem?_append_left jl] at hj
     obtain ⟨c',x',f1,f2,f3⟩:=ok j b hj
     have f4:=S3 _ _ f3
     exact ⟨c',x',f1,f2,by rw [upd_ne (nl f4)]; exact f4⟩
    ·have jlt:=(List.getElem?_eq_some_iff.mp hj).1
     rw [List.length_append] at jlt
     have je:j=ts.length:=by simp at jlt; omega
     subst je
     rw [List.getElem?_append_right (Nat.le_refl _)] at hj
     simp at hj
     subst hj
     rw [tl]
     exact ⟨c,_,hc,hi,by rw [upd_ne (nl e3)]; exact e3⟩
  rintro σ1 H2 ⟨_,k2,ts,hl2,tl,ok⟩
  have kl:(lkv xs cs H).length=xs.length:=by unfold lkv; rw [List.length_map,List.length_zip,xl,Nat.min_self]
  refine ⟨l,ts,lkv xs cs H,rfl,hl2,by rw [tl,kl],fun j a k v e5 e6=>?_,?_⟩
  ·obtain ⟨c,x,f1,f2,f3⟩:=ok j a e5
   obtain ⟨c',x',g1,g2,rfl,rfl⟩:=lkv_at e6
   rw [f1] at g1; cases g1
   rw [f2] at g2; cases g2
   exact f3
  rw [lkv_all xl hg.nd]
  have knd:=lkv_nd (H:=H) xl hg.nd
  generalize hkvs:lkv xs cs H=kvs at kl knd
  (intro D gD; generalize hEq:upd _ D _=H3; refine newC hEq gD ?_; clear hEq; intro S3 eD o3)
  refine ⟨by show 1≤sizeLine; decide,?_⟩
  (intro bg gB; generalize hEq:upd _ bg _=H4; refine newC hEq gB ?_; clear hEq; intro S4 eB o4)
  refine ⟨by show 0≤sizeLine; decide,?_⟩
  (intro wd gW; generalize hEq:upd _ wd _=H5; refine newC hEq gW ?_; clear hEq; intro S5 eW o5)
  have K5:Same H H5:=((k2.trans S3).trans S4).trans S5
  have D5:H5 D=some (.dK kvs):=S5 _ _ (S4 _ _ eD)
  have B5:=S5 _ _ eB
  have DH:H D=none:=by
   cases z:H D with
   | none=>rfl
   | some u=>have:=k2 _ _ z; rw [gD] at this; cases this
  have BH:H bg=none:=by
   cases z:H bg with
   | none=>rfl
   | some u=>have:=S3 _ _ (k2 _ _ z); rw [gB] at this; cases this
  have WH:H wd=none:=by
   cases z:H wd with
   | none=>rfl
   | some u=>have:=S4 _ _ (S3 _ _ (k2 _ _ z)); rw [gW] at this; cases this
  have nDB:D≠bg:=fun z=>by rw [z,gB] at eD; cases eD
  have nDW:D≠wd:=fun z=>by have:=S4 _ _ eD; rw [z,gW] at this; cases this
  have nBW:bg≠wd:=fun z=>by rw [z,gW] at eB; cases eB
  let Iv:Nat→Nat→Nat→Hp→Prop:=fun at_ n c H'=>Same H H'∧∃bs ws:List Str,H' bg=some (.lst (txs bs))∧H' wd=some (.lst (txs ws))∧bs.length≤400∧ws.length≤n∧at_≤bs.length∧0 < bs.length∧
   (∀b∈bs,stB cs fs ps lg (.str b)=true∧(b.cps.size:Int) < lg)∧Wds H xs cs fs ps lg ws∧ExW (W0 H xs cs fs) c n bs ws
  refine while_by (fun σ H'=>∃at_:Nat,(∃v5 v6,σ=[some (.ref t),some (.ref D),some (.ref bg),some (.ref wd),some (.int (at_:Int)),v5,v6])∧Rd H' D (.dK kvs)∧Iv at_ (6 * at_) 1 H')
   (fun σ _=>match σ with | [_,_,_,_,some (.int n),_,_]=>(401 - n).toNat | _=>0) ⟨0,⟨_,_,rfl⟩,.inl D5,K5,[""],[],B5,eW,by decide,by decide,by decide,by decide,fun b hb=>?_,nofun,rfl,fun _=>by decide,fun _ z=>absurd z (by decide)⟩ ?_ ?_
  ·rw [List.mem_singleton.mp hb]
   exact ⟨st_nil hg.l1,by have:=hg.l1; show (0:Int) < lg; omega⟩
  ·rintro σ H6 ⟨at_,⟨v5,v6,rfl⟩,rd,kp,bs,ws,hB,hW,bl,wl,al,b0,okb,okw,ex⟩
   have cl:(txs bs).length=bs.length:=txs_len bs
   refine ⟨_,rfl,_,rfl,bg,_,rfl,.inl (SqL.of hB),_,_,rfl,rfl,_,rfl,?_⟩
   rw [cl]
   refine ite2 (fun e=>?_) (fun e=>?_)
   ·have lt:at_ < bs.length:=by
     have:((at_:Nat):Int) < (bs.length:Int):=of_decide_eq_true e
     omega
    refine ⟨_,rfl,D,kvs,rfl,rd,fun o H7 hD7 ne7=>?_⟩
    refine for_keys (a:=D) (o:=o) (kvs:=kvs) (fun i σ H'=>(∃v5 v6,σ=[some (.ref t),some (.ref D),some (.ref bg),some (.ref wd),some (.int (at_:Int)),v5,v6])∧H' D=some (.frz o (.dK kvs))∧Iv (at_ + 1) (6 * at_ + i) 1 H') ⟨⟨_,_,rfl⟩,hD7,?_⟩ (fun i σ H _ p=>p.2.1) ?_ ?_
    ·refine ⟨fun b u h=>?_,bs,ws,?_,?_,bl,wl,lt,b0,okb,okw,ex⟩
     ·rw [ne7 b (fun z=>by rw [z,DH] at h; cases h)]; exact kp b u h
     ·rw [ne7 bg (Ne.symm nDB)]; exact hB
     ·rw [ne7 wd (Ne.symm nDW)]; exact hW
    ·rintro i k v σ H8 hk ⟨⟨v5,v6,rfl⟩,hD8,kp8,bs,ws,hB,hW,bl,wl,al,b0,okb,okw,ex⟩
     rw [← hkvs] at hk
     obtain ⟨c,x,hc,hx',rfl,rfl⟩:=lkv_at hk
     rw [hkvs] at hk
     have dv:valV kvs (Sum.inr (sg1 c):Key)=some (lastV H x):=val_mem knd hk
     have hcur:bs[at_]? = some bs[at_]:=List.getElem?_eq_getElem (by omega)
     generalize bs[at_]=cur at hcur
     obtain ⟨stc,szc⟩:=okb cur (List.mem_of_getElem? hcur)
     have cur8:cur.length≤8:=by
      have:=hg.l8
      show cur.cps.size≤8
      omega
     have tg8:=hg.kp (.same kp8)
     have wl7:∀{n:Nat},n≤6 * at_ + i→n < 3000:=fun h=>by
      have:=(List.getElem?_eq_some_iff.mp hc).1
      omega
     have stay:(W0 H xs cs fs→6 * at_ + i=0→False)→Iv (at_ + 1) (6 * at_ + (i + 1)) 1 H8:=fun no=>⟨kp8,bs,ws,hB,hW,bl,by omega,al,b0,okb,okw,ex.1,fun z=>by omega,fun w0 _=>by
      by_cases n0:6 * at_ + i=0
      ·exact (no w0 n0).elim
      ·exact ex.2.2 w0 (by omega)⟩
     refine ⟨_,rfl,_,rfl,_,rfl,bg,_,_,_,rfl,rfl,SqL.of hB,atI_nat (txs_at hcur),_,rfl,t,cs,fs,ps,lg,cur,sg1 c,rfl,tg8,by omega,by show (1:Nat)≤1000; decide,_,rfl,?_⟩
     cases hm:mayB fs ps cur (sg1 c) with
     | false=>
      refine iteF (iteF ⟨⟨_,_,rfl⟩,hD8,stay fun w0 n0=>?_⟩)
      have a0:at_=0:=by omega
      subst a0
      have c0:=hcur.symm.trans ex.1
      cases c0
      rw [w0.1] at hm
      revert hm
      simp [mayB]
     | true=>
      refine iteT ⟨_,rfl,bg,_,rfl,.inl (SqL.of hB),_,_,rfl,rfl,_,rfl,?_⟩
      rw [txs_len]
      refine ite2 (fun e4=>?_) (fun e4=>⟨⟨_,_,rfl⟩,hD8,stay fun w0 n0=>e4 (decide_eq_true (by have:=ex.2.1 n0; omega))⟩)
      have l4:bs.length < 400:=by
       have:((bs.length:Nat):Int) < 400:=of_decide_eq_true e4
       omega
      have stn:=st_snoc (c:=c) stc (List.mem_of_getElem? hc) hm szc
      have szn:=snoc_size cur c
      have wdn:=wd_snoc (H:=H) (xs:=xs) stn
      refine ⟨_,rfl,_,rfl,bg,_,_,_,rfl,rfl,SqL.of hB,atI_nat (txs_at hcur),_,rfl,_,_,rfl,rfl,?_,?_⟩
      ·exact Nat.le_trans (show cur.length + 1≤9 by omega) (by decide)
      refine ⟨fun σ H'=>σ=[some (.ref t),some (.ref D),some (.ref bg),some (.ref wd),some (.int (at_:Int)),some (.str (sg1 c)),some (.str (cur ++ sg1 c))]∧H' D=some (.frz o (.dK kvs))∧Iv (at_ + 1) (6 * at_ + i) 2 H',?_,?_⟩
      ·obtain ⟨S8,F8,P8,xs8,ht8,_⟩:=tg8.ex
       refine ⟨_,rfl,_,rfl,Nat.le_trans (show (cur ++ sg1 c:Str).cps.size≤9 by rw [szn]; have:cur.cps.size≤8:=cur8; omega) (by decide),_,rfl,t,_,_,_,rfl,rfl,SqT.of ht8,rfl,_,_,rfl,rfl,_,rfl,?_⟩
       refine ite2 (fun e5=>?_) (fun _=>⟨rfl,hD8,kp8,bs,ws,hB,hW,bl,wl,al,b0,okb,okw,ex.1,fun z=>Nat.le_trans (ex.2.1 z) (by decide),ex.2.2⟩)
       have l5:((cur ++ sg1 c:Str).cps.size:Int) < lg:=of_decide_eq_true e5
       refine ⟨_,rfl,.inl ⟨rfl,_,SqL.of hB⟩,_,rfl,bg,_,_,rfl,rfl,hB,?_,rfl,?_,?_,bs ++ [cur ++ sg1 c],ws,?_,?_,?_,wl,?_,?_,?_,okw,?_,?_,ex.2.2⟩
       ·rw [txs_len]; exact Nat.lt_of_lt_of_le l4 (by decide)
       ·rw [upd_ne nDB]; exact hD8
       ·exact fun b u h=>by rw [upd_ne (fun z=>by rw [z,BH] at h; cases h)]; exact kp8 b u h
       ·rw [txs_app]; exact upd_same
       ·rw [upd_ne (Ne.symm nBW)]; exact hW
       ·rw [List.length_append]; simp; omega
       ·rw [List.length_append]; omega
       ·rw [List.length_append]; omega
       ·intro b hb
        rcases List.mem_append.mp hb with hb | hb
        ·exact okb b hb
        ·rw [List.mem_singleton.mp hb]; exact ⟨stn,l5⟩
       ·rw [List.getElem?_append_left b0]; exact ex.1
       ·intro z
        have:=ex.2.1 z
        rw [List.length_append]; simp; omega
      ·rintro σ H9 ⟨rfl,hD9,kp9,bs9,ws9,hB9,hW9,bl9,wl9,al9,b09,okb9,okw9,ex9⟩
       refine ⟨_,rfl,_,rfl,D,lastV H x,rfl,.inl ⟨kvs,(Sum.inr (sg1 c):Key),.inr ⟨o,hD9⟩,rfl,dv.symm⟩,_,rfl,?_⟩
       refine ite2 (fun e6=>?_) (fun e6=>⟨⟨_,_,rfl⟩,hD9,kp9,bs9,ws9,hB9,hW9,bl9,by omega,al9,b09,okb9,okw9,ex9.1,fun z=>by omega,fun w0 _=>absurd (by
        have:=w0.2 c (List.mem_of_getElem? hc)
        rw [endB_at hg.nd hx' hc] at this
        exact this) e6⟩)
       refine ⟨_,rfl,.inl ⟨rfl,_,SqL.of hW9⟩,_,rfl,wd,_,_,rfl,rfl,hW9,?_,⟨_,_,rfl⟩,?_,?_,bs9,ws9 ++ [cur ++ sg1 c],?_,?_,bl9,?_,al9,b09,okb9,?_,ex9.1,fun z=>by omega,fun _ _=>by simp⟩
       ·rw [txs_len]; exact Nat.lt_of_lt_of_le (wl7 wl9) (by decide)
       ·rw [upd_ne nDW]; exact hD9
       ·exact fun b u h=>by rw [upd_ne (fun z=>by rw [z,WH] at h; cases h)]; exact kp9 b u h
       ·rw [upd_ne nBW]; exact hB9
       ·rw [txs_app]; exact upd_same
       ·rw [List.length_append]; simp; omega
       ·intro b hb
        rcases List.mem_append.mp hb with hb | hb
        ·exact okw9 b hb
        ·rw [List.mem_singleton.mp hb,wdn,endB_at hg.nd hx' hc]
         exact e6
    ·rintro σ H8 ⟨⟨v5,v6,rfl⟩,hD8,kp8,bs,ws,hB,hW,bl,wl,al,b0,okb,okw,ex⟩
     have kl6:kvs.length≤6:=by rw [kl,← xl]; exact c6
     have at4:at_ < 400:=by omega
     refine ⟨_,rfl,_,_,rfl,rfl,⟨at_ + 1,⟨_,_,rfl⟩,.inr ⟨o,hD8⟩,kp8,bs,ws,hB,hW,bl,by omega,al,b0,okb,okw,ex.1,fun z=>by omega,fun w0 _=>ex.2.2 w0 (by have:=hg.c2; omega)⟩,?_⟩
     show (401 - ((at_:Int) + 1)).toNat < (401 - (at_:Int)).toNat
     omega
   ·exact ⟨_,rfl,q wd ws H6 kp WH hW okw (by omega) fun w0=>ex.2.2 w0 (by have:¬((at_:Int) < (bs.length:Int)):=fun z=>e (decide_eq_true z); omega)⟩
  ·rintro σ H' Q1 Q2 h ⟨v,e,v2,e2,p,xs3,e3,sq,i,j,e4,e5,b,e6,z⟩
   exact ⟨v,e,v2,e2,p,xs3,e3,sq,i,j,e4,e5,b,e6,h _ _ z⟩
end
end G1
namespace L2
open PySem PySem.Spec PyProof.Rows
section
variable {X:Cx} {e tg iter:Expr} {ifs:List Expr} {scope esc:Scope} {pos:Pos} {N os:List Str} {fi:List Nat} {wi:TI} {g:TG} {tt:TT} {tb:Addr→TB} {body:Addr→Env→Sem Fi→Sem Fi} {o0:Addr→HO} {mk:Sem Value} {p:Pos} {elt:Expr} {te:TE}
end
end L2
namespace L2
open PySem
theorem FnOk.or {P:Program} {w:World} {K:PySem.W.Frag} {mg:Str→Option Value} {base:Heap} {CX:CXT} {k:Nat} {f:Addr} {fd:FuncData} {ps:List Str} {s1 s2:Sp} (F1:FnOk P w K mg base CX k f fd ps s1) (F2:FnOk P w K mg base CX k f fd ps s2) :
  FnOk P w K mg base CX k f fd ps (fun vs H Q E=>s1 vs H Q E∨s2 vs H Q E):=
 ⟨fun vs H Q E q=>q.elim (F1.len vs H Q E) (F2.len vs H Q E),fun A outer s H args us vs Q E hr he hb hv hs=>hs.elim (F1.run A outer s H args us vs Q E hr he hb hv) (F2.run A outer s H args us vs Q E hr he hb hv)⟩
end L2
namespace G1
open PySem L2 GM
section
variable {P:Program} {w:World} {K:PySem.W.Frag} {mg:Str→Option Value} {base:Heap}
def spSignsE:Sp:=fun vs H Q _=>∃(L:Addr) (ys:List V),vs=[.ref L]∧H L=some (.lst ys)∧ys.length < 2∧Q (.bl false) H
theorem ok_signsE {T1 T2 f c fR:Addr} {fdR:FuncData} {kV doc pm ct oc:Value} {an od:Option Addr} {osl:Array (Option Value)} {t1 t2:Tok}
  (lk:K.lookup f=some ⟨oc,od,.func (PySem.W.fnOf "are_signs" "are_signs" (defArgs sSigns) (defBody sSigns) (defScope sSigns) .none kV doc pm an (.ref c) ct),osl⟩) (hcd:PySem.W.codeIn K (.ref c) "are_signs" = true)
  (B:Bl mg) (CK:CodeK K c T2) (hbm:BmOf mg base) (mF:mg "FEWEST_SIGNS" = some (.int 2 t1)) (mM:mg "MOST_SIGNS" = some (.int 6 t2))
  (GR:FnOk P w K mg base (CXE P w) 4 fR fdR ["thing"] (spRow T1)) (mR:mg "is_sign_row" = some (.ref fR)) (kR:PySem.W.keepIn K (.ref fR)=true) (bR:Binds K fdR ["thing"] []) :
  FnOk P w K mg base (CXE P w) 6 f (PySem.W.fnOf "are_signs" "are_signs" (defArgs sSigns) (defBody sSigns) (defScope sSigns) .none kV doc pm an (.ref c) ct) ["thing"] spSignsE:=by
 refine okC lk hcd scSi (fun vs H Q E h=>?_) (fun A outer s H vs Q E hr h=>?_)
 ·obtain ⟨L,ys,rfl,_⟩:=h
  rfl
 ·obtain ⟨L,ys,rfl,hL,ly,q⟩:=h
  refine ⟨_,zpss_cons (zps_if (zpw_or (zpt_not (zpt_val (zpe_callB call_isi (by rfl) B.isi boot_isi (zpac_n (zpv 0) (zpac_n (zpe_bltn (by rfl) B.list boot_list (v:=.ty "list") rfl) zpa_nil)))))
    (zpw_or (zpt_cmpR op_lt (zpe_callB call_len_seq (by rfl) B.len PySem.boot_len (zpac_n (zpv 0) zpa_nil)) (zpe_glob (by rfl) mF (v:=.int 2) ⟨_,rfl⟩) (nomark _))
    (zpw_or1 (zpt_cmpR op_gt (zpe_callB call_len_seq (by rfl) B.len PySem.boot_len (zpac_n (zpv 0) zpa_nil)) (zpe_glob (by rfl) mM (v:=.int 6) ⟨_,rfl⟩) (nomark _))))).pt (zpss_one (zps_ret zpe_bl)) zpss_nil)
   (zpss_cons (zps_if (zpt_not (zpt_val (zpe_all ["thing"] ["row"] [] (defScope sSigns) rfl hr (by rfl) B.all rfl CK ⟨hbm⟩ rfl rfl ⟨by decide +kernel,by decide +kernel,by decide +kernel,by decide +kernel,by decide +kernel⟩ (by decide +kernel) (by decide +kernel) (zpi_list (zpv 0))
     (fun code s H fp=>zpg_name (i:=0) (show List.Nodup [("row" : Str)] by decide +kernel) rfl (Or.inl rfl)) (fun code s H fp=>zpe_call GR hr.gen (by rfl) mR kR bR .nil passE0 (zpac_n (zpv 0) zpa_nil))))) zpss_never zpss_nil)
   (zpss_one (zps_ret (zpe_cmpR op_eq (zpe_callB call_len_setT (by rfl) B.len PySem.boot_len (zpac_x (zpe_setcomp ["thing"] ["row"] [] (defScope sSigns) rfl rfl rfl ⟨by decide +kernel,by decide +kernel,by decide +kernel,by decide +kernel,by decide +kernel⟩ (zpi_list (zpv 0))
     (fun s H fp=>zpg_name (i:=0) (show List.Nodup [("row" : Str)] by decide +kernel) rfl (Or.inl rfl)) (fun s H fp=>zpts_nil) (fun s H fp=>zpe_ix (ix_tupK K rfl) (zpv 0) zpe_int (fun _ _=>rfl))) zpa_nil))
    (zpe_callB call_len_seq (by rfl) B.len PySem.boot_len (zpac_n (zpv 0) zpa_nil)) (nomark _))))),?_⟩
  refine ⟨_,rfl,_,_,_,true,rfl,.of (.lst hL),.inl ⟨_,rfl,kl1⟩,_,rfl,iteF ?_⟩
  refine ⟨_,rfl,L,_,rfl,.inl (SqL.of hL),_,_,rfl,rfl,_,rfl,?_⟩
  refine ite2 (fun _=>iteT q) (fun e=>absurd (decide_eq_true (show (ys.length:Int) < 2 by omega)) e)
def spSignsD (T1 T2:Addr):Sp:=fun vs H Q _=>∃(L:Addr) (xs:List V) (cs:List Nat) (x:V) (c:Nat),vs=[.ref L]∧H L=some (.lst (xs ++ [x]))∧Rows H xs cs∧cs.Nodup∧2≤cs.length∧cs.length≤6∧Row H x c∧c∈cs∧Tab T1 H∧Tab T2 H∧∀H',Kp H H'→Tab T1 H'→Tab T2 H'→Q (.bl false) H'
theorem ok_signsD {T1 T2 f c fR:Addr} {fdR:FuncData} {kV doc pm ct oc:Value} {an od:Option Addr} {osl:Array (Option Value)} {t1 t2:Tok}
  (lk:K.lookup f=some ⟨oc,od,.func (PySem.W.fnOf "are_signs" "are_signs" (defArgs sSigns) (defBody sSigns) (defScope sSigns) .none kV doc pm an (.ref c) ct),osl⟩) (hcd:PySem.W.codeIn K (.ref c) "are_signs" = true)
  (B:Bl mg) (CK:CodeK K c T2) (hbm:BmOf mg base) (mF:mg "FEWEST_SIGNS" = some (.int 2 t1)) (mM:mg "MOST_SIGNS" = some (.int 6 t2))
  (GR:FnOk P w K mg base (CXE P w) 4 fR fdR ["thing"] (spRow T1)) (mR:mg "is_sign_row" = some (.ref fR)) (kR:PySem.W.keepIn K (.ref fR)=true) (bR:Binds K fdR ["thing"] []) :
  FnOk P w K mg base (CXE P w) 6 f (PySem.W.fnOf "are_signs" "are_signs" (defArgs sSigns) (defBody sSigns) (defScope sSigns) .none kV doc pm an (.ref c) ct) ["thing"] (spSignsD T1 T2):=by
 refine okC lk hcd scSi (fun vs H Q E h=>?_) (fun A outer s H vs Q E hr h=>?_)
 ·obtain ⟨L,xs,cs,x,c,rfl,_⟩:=h
  rfl
 ·obtain ⟨L,xs0,cs0,x0,c0,rfl,hL,rows0,nd,c2,c6,row0,cin,ht1,ht2,q⟩:=h
  obtain ⟨xs,hxs⟩:∃xs,xs=xs0 ++ [x0]:=⟨_,rfl⟩
  obtain ⟨cs,hcs⟩:∃cs,cs=cs0 ++ [c0]:=⟨_,rfl⟩
  have rows:Rows H xs cs:=by rw [hxs,hcs]; exact rows0.snoc row0
  rw [← hxs] at hL
  have cl:cs.length=cs0.length + 1:=by rw [hcs,List.length_append]; rfl
  refine ⟨_,zpss_cons (zps_if (zpw_or (zpt_not (zpt_val (zpe_callB call_isi (by rfl) B.isi boot_isi (zpac_n (zpv 0) (zpac_n (zpe_bltn (by rfl) B.list boot_list (v:=.ty "list") rfl) zpa_nil)))))
    (zpw_or (zpt_cmpR op_lt (zpe_callB call_len_seq (by rfl) B.len PySem.boot_len (zpac_n (zpv 0) zpa_nil)) (zpe_glob (by rfl) mF (v:=.int 2) ⟨_,rfl⟩) (nomark _))
    (zpw_or1 (zpt_cmpR op_gt (zpe_callB call_len_seq (by rfl) B.len PySem.boot_len (zpac_n (zpv 0) zpa_nil)) (zpe_glob (by rfl) mM (v:=.int 6) ⟨_,rfl⟩) (nomark _))))).pt (zpss_one (zps_ret zpe_bl)) zpss_nil)
   (zpss_cons (zps_if (zpt_not (zpt_val (zpe_all ["thing"] ["row"] [] (defScope sSigns) rfl hr (by rfl) B.all rfl CK ⟨hbm⟩ rfl rfl ⟨by decide +kernel,by decide +kernel,by decide +kernel,by decide +kernel,by decide +kernel⟩ (by decide +kernel) (by decide +kernel) (zpi_list (zpv 0))
     (fun code s H fp=>zpg_name (i:=0) (show List.Nodup [("row" : Str)] by decide +kernel) rfl (Or.inl rfl)) (fun code s H fp=>zpe_call GR hr.gen (by rfl) mR kR bR .nil passE0 (zpac_n (zpv 0) zpa_nil))))) zpss_never zpss_nil)
   (zpss_one (zps_ret (zpe_cmpR op_eq (zpe_callB call_len_setT (by rfl) B.len PySem.boot_len (zpac_x (zpe_setcomp ["thing"] ["row"] [] (defScope sSigns) rfl rfl rfl ⟨by decide +kernel,by decide +kernel,by decide +kernel,by decide +kernel,by decide +kernel⟩ (zpi_list (zpv 0))
     (fun s H fp=>zpg_name (i:=0) (show List.Nodup [("row" : Str)] by decide +kernel) rfl (Or.inl rfl)) (fun s H fp=>zpts_nil) (fun s H fp=>zpe_ix (ix_tupK K rfl) (zpv 0) zpe_int (fun _ _=>rfl))) zpa_nil))
    (zpe_callB call_len_seq (by rfl) B.len PySem.boot_len (zpac_n (zpv 0) zpa_nil)) (nomark _))))),?_⟩
  have ln:xs.length=cs.length:=rows.len
  refine ⟨_,rfl,_,_,_,true,rfl,.of (.lst hL),.inl ⟨_,rfl,kl1⟩,_,rfl,iteF ?_⟩
  refine ⟨_,rfl,L,_,rfl,.inl (SqL.of hL),_,_,rfl,rfl,_,rfl,?_⟩
  refine ite2 (fun e=>absurd (of_decide_eq_true e) (by omega)) (fun _=>?_)
  refine ⟨_,rfl,L,_,rfl,.inl (SqL.of hL),_,_,rfl,rfl,_,rfl,?_⟩
  refine ite2 (fun _=>q _ Kp.refl ht1 ht2) (fun c7=>?_)
  have c7:cs.length≤6:=by
   have:¬(6:Int) < (xs.length:Int):=fun z=>c7 (decide_eq_true z)
   omega
  obtain ⟨ps2,hT2,tr2⟩:=id ht2
  refine ⟨_,rfl,L,rfl,⟨_,SqL.of hL⟩,ps2,hT2,tr2,fun ps' tr'=>?_⟩
  refine ⟨fun i m σ2 H2=>i≤cs.length∧m=cs.length - i∧(∃v,σ2=[v])∧Kp H H2∧Tab T1 H2∧Tab T2 H2,⟨_,Nat.zero_le _,rfl,⟨_,rfl⟩,Kp.tab ht2,ht1.put tr',ht2.put tr'⟩,?_⟩
  rintro i m σ2 H2 ⟨hi,rfl,⟨v,rfl⟩,k2,a2,b2⟩
  by_cases hlt:i < cs.length
  ·refine .inr ⟨⟨_,_,SqL.of (k2.lst hL),List.getElem?_eq_getElem (show i < xs.length by omega)⟩,?_⟩
   rintro x H3 ⟨rfl,hx⟩
   obtain ⟨cc,hc,row⟩:=rows.at (hx _ (SqL.of (k2.lst hL)))
   refine ⟨_,rfl,x,cc,rfl,row.kp k2,a2,fun ps'' tr''=>⟨_,rfl,iteT ⟨cs.length - (i + 1),by omega,hlt,rfl,⟨_,rfl⟩,k2.trans (Kp.tab a2),a2.put tr'',b2.put tr''⟩⟩⟩
  ·refine .inl ⟨⟨_,SqL.of (k2.lst hL),by omega⟩,_,rfl,iteF ?_⟩
   clear hlt
   have hL2:=k2.lst hL
   refine ⟨_,rfl,L,rfl,⟨_,SqL.of hL2⟩,fun l hl=>?_⟩
   refine ⟨fun i m σ3 H3=>i≤cs.length∧m=cs.length - i∧(∃v,σ3=[v])∧H3 l=some (SetT P w l ((cs0.take i).map sg1))∧Kp H H3∧Tab T1 H3∧Tab T2 H3,
    ⟨_,Nat.zero_le _,rfl,⟨_,rfl⟩,upd_same,k2.trans (Kp.new hl),a2.new hl,b2.new hl⟩,?_⟩
   rintro j m σ3 H3 ⟨hj,rfl,⟨v,rfl⟩,hs3,k3,a3,b3⟩
   have hL3:=k3.lst hL
   by_cases hlt:j < cs.length
   ·refine .inr ⟨⟨_,_,SqL.of hL3,List.getElem?_eq_getElem (show j < xs.length by omega)⟩,?_⟩
    rintro x H4 ⟨rfl,hx⟩
    obtain ⟨cc,hc,row⟩:=rows.at (hx _ (SqL.of hL3))
    obtain ⟨a,p,la,rfl,ha,_⟩:=(row.kp k3).ex
    dsimp only [gName]
    rw [if_pos rfl]
    refine ⟨_,rfl,a,_,_,_,rfl,rfl,SqT.of ha,rfl,sg1 cc,_,rfl,hs3,?_,?_⟩
    ·rw [List.length_map,List.length_take]; omega
    have ins:insT (sg1 cc) ((cs0.take j).map sg1)=(cs0.take (j + 1)).map sg1:=by
     by_cases jl:j < cs0.length
     ·have hc':cs0[j]? = some cc:=by
       rw [hcs,List.getElem?_append_left jl] at hc; exact hc
      unfold insT
      rw [if_neg (take_fresh nd hc'),List.take_add_one,hc',List.map_append]
      rfl
     ·have ej:j=cs0.length:=by omega
      have:cc=c0:=by
       rw [hcs,ej,List.getElem?_append_right (Nat.le_refl _),Nat.sub_self] at hc
       exact (Option.some.inj hc).symm
      subst this
      rw [List.take_of_length_le (by omega),List.take_of_length_le (by omega)]
      unfold insT
      rw [if_pos (List.mem_map.mpr ⟨cc,cin,rfl⟩)]
    have no:∀q,SetT P w l ((cs0.take j).map sg1)≠.tbl q:=nofun
    refine ⟨cs.length - (j + 1),by omega,hlt,rfl,⟨_,rfl⟩,by rw [ins]; exact upd_same,k2.upd_new hl k3,a3.set hs3 no,b3.set hs3 no⟩
   ·have e:j=cs.length:=by omega
    subst e
    refine .inl ⟨⟨_,SqL.of hL3,by omega⟩,l,_,rfl,hs3,_,rfl,L,_,rfl,.inl (SqL.of hL3),rfl,?_⟩
    have l0:(List.map sg1 (List.take cs.length cs0)).length=cs0.length:=by rw [List.length_map,List.length_take]; omega
    have ne:¬(V.int ((List.map sg1 (List.take cs.length cs0)).length:Nat))=V.int (xs.length:Nat):=fun z=>by
     injection z with z
     rw [l0,ln,cl] at z
     omega
    rw [decide_eq_false ne]
    exact q _ k3 a3 b3
def BadS (H:Hp) (ys:List V):Prop:=ys.length < 2∨∃xs cs x c,ys=xs ++ [x]∧Rows H xs cs∧cs.Nodup∧2≤cs.length∧cs.length≤6∧Row H x c∧c∈cs
def spSO (T1 T2:Addr):Sp:=fun vs H Q E=>spSigns T1 T2 [] vs H Q E∨(spSignsE vs H Q E∨spSignsD T1 T2 vs H Q E)
theorem spSO.bad {T1 T2 L:Addr} {ys:List V} {H:Hp} {Q:VK} {E:XK} (hL:H L=some (.lst ys)) (bs:BadS H ys) (t1:Tab T1 H) (t2:Tab T2 H) (q:∀H',Kp H H'→Tab T1 H'→Tab T2 H'→Q (.bl false) H'):spSO T1 T2 [.ref L] H Q E:=by
 rcases bs with h | ⟨xs,cs,x,c,rfl,r,nd,c2,c6,row,m⟩
 ·exact .inr (.inl ⟨L,ys,rfl,hL,h,q _ Kp.refl t1 t2⟩)
 ·exact .inr (.inr ⟨L,xs,cs,x,c,rfl,hL,r,nd,c2,c6,row,m,t1,t2,q⟩)
def spUnlikeB:Sp:=fun vs H Q _=>∃(C L:Addr) (ks:List Str) (t:Str),vs=[.ref C,.ref L]∧H C=some (.lst (txs ks))∧H L=some (.lst [.str t])∧t∉ks∧∀H',Same H H'→Q (.bl false) H'
theorem scUl2:FnScope ["choices","thing","seen","text"] ["choices","thing"] (defScope sUnlike):=⟨rfl,rfl,rfl,by decide +kernel,rfl,by decide +kernel,by decide +kernel⟩
theorem ok_unlikeB {f:Addr} {fd:FuncData} (F:FunG K "are_unlike_texts_of" "are_unlike_texts_of" sUnlike .none f fd) (B:Bl mg):FnOk P w K mg base (CXE P w) 1 f fd ["choices","thing"] spUnlikeB:=by
 refine F.zokN scUl2 (fun vs H Q E h=>?_) (fun cdv A outer s H vs Q E hr h=>?_)
 ·obtain ⟨C,L,ks,t,rfl,_⟩:=h
  rfl
 ·obtain ⟨C,L,ks,t,rfl,hC,hL,nin,q⟩:=h
  refine ⟨_,(zpss_cons (zps_if (zpt_not (zpt_val (zpe_callB call_isi (by rfl) B.isi boot_isi (zpac_n (zpv 1) (zpac_n (zpe_bltn (by rfl) B.list boot_list (v:=.ty "list") rfl) zpa_nil))))) (zpss_one (zps_ret zpe_bl)) zpss_nil)
   (zpss_cons (zps_set (i:=2) scUl2.nd rfl (Or.inl rfl) (zpe_callTy0 call_set0 (by rfl) B.set boot_set))
   (zpss_cons (zps_for PassesOwn.never rfl (zpi_list (zpv 1)) (zpg_name (i:=3) scUl2.nd rfl (Or.inl rfl))
     (zpss_cons (zps_if (SPW.pt (zpw_or (zpt_not (zpt_val (zpe_callB call_isi (by rfl) B.isi boot_isi (zpac_n (zpv 3) (zpac_n (zpe_bltn (by rfl) B.str boot_str (v:=.ty "str") rfl) zpa_nil))))) (zpw_or (zpt_cmpR op_notIn_seq (zpv 3) (zpv 0) rfl) (zpw_or1 (zpt_cmpR op_in_set (zpv 3) (zpv 2) rfl))))) (zpss_one (zps_ret zpe_bl)) zpss_nil)
   (zpss_one (zps_expr (zpe_setadd (zpv 2) (zpac_n (zpv 3) zpa_nil))))))
   (zpss_one (zps_ret zpe_bl))))),?_⟩
  refine ⟨_,rfl,_,_,_,true,rfl,.of (.lst hL),.inl ⟨_,rfl,kl1⟩,_,rfl,iteF ?_⟩
  refine ⟨rfl,fun p hp=>?_⟩
  have s1:=same_upd (o:=SetT P w p []) hp
  show ∃_,_
  refine ⟨_,rfl,L,rfl,⟨_,SqL.of (s1 _ _ hL)⟩,for_list (K:=K) (a:=L) (xs:=[.str t]) (fun i σ H2=>i=0∧(∃v,σ=[some (.ref C),some (.ref L),some (.ref p),v])∧Same H H2) ⟨rfl,⟨_,rfl⟩,s1⟩ ?_ ?_ ?_⟩
  ·rintro i σ H2 _ ⟨_,_,s1⟩
   exact SqL.of (s1 _ _ hL)
  ·rintro i x σ H2 hx ⟨rfl,⟨v,rfl⟩,s1⟩
   cases hx
   refine ⟨_,rfl,_,_,_,true,rfl,.of (.str t),.inl ⟨_,rfl,kst1⟩,_,rfl,iteF ?_⟩
   refine ⟨_,rfl,_,rfl,C,_,rfl,.inl (SqL.of (s1 _ _ hC)),rfl,txs_flat ks,_,rfl,?_⟩
   have m1:inV (.str t) (txs ks)=false:=by rw [inV_txs]; exact decide_eq_false nin
   refine ite2 (fun _=>iteT (q _ s1)) (fun e=>absurd (by
    show (!inV (.str t) (txs ks))=true
    rw [m1]; rfl) e)
  ·rintro σ H2 ⟨z,_⟩
   exact absurd z (Nat.succ_ne_zero 0)
def spUO (K:PySem.W.Frag):Sp:=fun vs H Q E=>spUnlike K vs H Q E∨spUnlikeB vs H Q E
structure Gd (H:Hp) (S:Addr) (cs:List Nat):Prop where
 ex:∃xs,H S=some (.lst xs)∧Rows H xs cs
 nd:cs.Nodup
 c2:2≤cs.length
 c6:cs.length≤6
inductive BadT (H:Hp):V→V→Prop
 | no:BadT H .non .non
 | lst {a:Addr} {xs:List V} (h:H a=some (.lst xs)):BadT H (.ref a) .non
 | few {a:Addr} {xs:List V} (h:H a=some (.tup xs)) (l:xs.length≠4):BadT H (.ref a) .non
 | signs {t S:Addr} {f p l:V} {ys:List V} (h:H t=some (.tup [.ref S,f,p,l])) (hS:H S=some (.lst ys)) (bs:BadS H ys):BadT H (.ref t) (.str "signs")
 | firsts {t S F:Addr} {p l:V} {cs:List Nat} {x:Str} (h:H t=some (.tup [.ref S,.ref F,p,l])) (g:Gd H S cs) (hF:H F=some (.lst [.str x])) (n:x∉sgs cs):BadT H (.ref t) (.str "firsts")
 | late {t S F P:Addr} {l v:V} {cs:List Nat} {fs qs:List Str} (h:H t=some (.tup [.ref S,.ref F,.ref P,l])) (g:Gd H S cs) (hF:H F=some (.lst (txs fs))) (fnd:fs.Nodup) (fsub:∀f∈fs,f∈sgs cs) (fl:fs.length≤100) (hP:H P=some (.lst (txs qs)))
  (alt:(∃x,qs=[x]∧x∉prs (sgs cs)∧v = .str "pairs")∨((qs.Nodup∧(∀f∈qs,f∈prs (sgs cs))∧qs.length≤100)∧l = .int 9∧v = .str "longest")):BadT H (.ref t) v
def spBadT (C T1 T2:Addr):Sp:=fun vs H _ E=>∃x v,vs=[x]∧BadT H x v∧Tab T1 H∧Tab T2 H∧∀dx H',Kp H H'→Tab T1 H'→Tab T2 H'→H' dx=some (.xd [("part",v)])→E (.ref C) (some dx) H'
theorem scLk2:FnScope ["thing","signs","firsts","pairs","longest","letters"] ["thing"] (defScope sLook):=⟨rfl,rfl,rfl,by decide +kernel,rfl,by decide +kernel,by decide +kernel⟩
theorem ok_lookB {T1 T2 C fI':Addr} {f fS fO fU fI:Addr} {fd fdS fdO fdU fdI:FuncData} (F:FunG K "look_at_tongue" "look_at_tongue" sLook .none f fd) (B:Bl mg) {tk:Tok} (mM:mg "LONGEST_WORD" = some (.int 8 tk)) (mC:mg "NoTongue" = some (.ref C)) (IK:InitK P w K mg C fI' "part")
  (GS:FnOk P w K mg base (CXE P w) 6 fS fdS ["thing"] (spSO T1 T2)) (mS:mg "are_signs" = some (.ref fS)) (kS:PySem.W.keepIn K (.ref fS)=true) (bS:Binds K fdS ["thing"] [])
  (GO:FnOk P w K mg base (CXE P w) 1 fO fdO ["tongue"] (spSignsOf K)) (mO:mg "signs_of" = some (.ref fO)) (kO:PySem.W.keepIn K (.ref fO)=true) (bO:Binds K fdO ["tongue"] [])
  (GU:FnOk P w K mg base (CXE P w) 1 fU fdU ["choices","thing"] (spUO K)) (mU:mg "are_unlike_texts_of" = some (.ref fU)) (kU:PySem.W.keepIn K (.ref fU)=true) (bU:Binds K fdU ["choices","thing"] [])
  (GI:FnOk P w K mg base (CXE P w) 2 fI fdI ["thing","least","most"] spWithin) (mI:mg "is_whole_within" = some (.ref fI)) (kI:PySem.W.keepIn K (.ref fI)=true) (bI:Binds K fdI ["thing","least","most"] []):FnOk P w K mg base (CXE P w) 7 f fd ["thing"] (spBadT C T1 T2):=by
 refine F.zokE scLk2 (fun vs H Q E h=>?_) (fun cdv A outer s H vs Q E hr h=>?_)
 ·obtain ⟨x,v,rfl,_⟩:=h
  rfl
 ·obtain ⟨x,v,rfl,bt,ht1,ht2,qe⟩:=h
  refine ⟨_,(zpss_cons (zps_if (SPW.pt (zpw_or (zpt_not (zpt_val (zpe_callB call_isi (by rfl) B.isi boot_isi (zpac_n (zpv 0) (zpac_n (zpe_bltn (by rfl) B.tuple boot_tuple (v:=.ty "tuple") rfl) zpa_nil))))) (zpw_or1 (zpt_cmpR op_ne (zpe_callB call_len_seq (by rfl) B.len PySem.boot_len (zpac_n (zpv 0) zpa_nil)) zpe_int (nomark _))))) (zpss_one (zps_raiseI (k:=5) hr (by rfl) mC IK (zpac_c zpe_non zpa_nil))) zpss_nil)
   (zpss_cons (zps_asg (zpv 0) (zpg_tup rfl (zpgs_cons (zpg_name (i:=1) scLk2.nd rfl (Or.inl rfl)) (zpgs_cons (zpg_name (i:=2) scLk2.nd rfl (Or.inl rfl)) (zpgs_cons (zpg_name (i:=3) scLk2.nd rfl (Or.inl rfl)) (zpgs_cons (zpg_name (i:=4) scLk2.nd rfl (Or.inl rfl)) zpgs_nil))))))
   (zpss_cons (zps_if (zpt_not (zpt_val (zpe_call GS hr (by rfl) mS kS bS .nil passE0 (zpac_n (zpv 1) zpa_nil)))) (zpss_one (zps_raiseI (k:=5) hr (by rfl) mC IK (zpac_c zpe_str zpa_nil))) zpss_nil)
   (zpss_cons (zps_set (i:=5) scLk2.nd rfl (Or.inr rfl) (zpe_call GO (hr.mono (by decide)) (by rfl) mO kO bO .nil passE0 (zpac_n (zpv 0) zpa_nil)))
   (zpss_cons (zps_if (zpt_not (zpt_val (zpe_call GU (hr.mono (by decide)) (by rfl) mU kU bU .nil passE0 (zpac_n (zpv 5) (zpac_n (zpv 2) zpa_nil))))) (zpss_one (zps_raiseI (k:=5) hr (by rfl) mC IK (zpac_c zpe_str zpa_nil))) zpss_nil)
   (zpss_cons (zps_if (zpt_not (zpt_val (zpe_call GU (hr.mono (by decide)) (by rfl) mU kU bU .nil passE0 (zpac_x (zpe_comp2 ["thing","signs","firsts","pairs","longest","letters"] ["one","other"] [5] (defScope sLook) rfl rfl rfl ⟨by decide +kernel,by decide +kernel,by decide +kernel,by decide +kernel,by decide +kernel⟩ (zpi_list (zpv 5)) (fun s H fp=>zpg_name (i:=0) (show List.Nodup [("one" : Str),"other","letters"] by decide +kernel) rfl (Or.inl rfl)) (fun s H fp=>zpts_nil) (fun s H fp=>zpi_listK K rfl (zpv 2)) (fun s H fp=>zpg_name (i:=1) (show List.Nodup [("one" : Str),"other","letters"] by decide +kernel) rfl (Or.inl rfl)) (fun s H fp=>zpts_nil) (fun s H fp=>zpe_op op_add_str (zpv 0) (zpv 1))) (zpac_n (zpv 3) zpa_nil))))) (zpss_one (zps_raiseI (k:=5) hr (by rfl) mC IK (zpac_c zpe_str zpa_nil))) zpss_nil)
   (zpss_one (zps_if (zpt_not (zpt_val (zpe_call GI (hr.mono (by decide)) (by rfl) mI kI bI .nil passE0 (zpac_n (zpv 4) (zpac_c zpe_int (zpac_n (zpe_glob (by rfl) mM (v:=.int 8) ⟨_,rfl⟩) zpa_nil)))))) (zpss_one (zps_raiseI (k:=5) hr (by rfl) mC IK (zpac_c zpe_str zpa_nil))) zpss_nil)))))))),?_⟩
  have bad:∀{H':Hp},Kp H H'→Tab T1 H'→Tab T2 H'→(∃y,Shown v y∧y.length≤700)→∃u,[v]=[u]∧(∃y,Shown u y∧y.length≤700)∧∀dx,H' dx=none→E (.ref C) (some dx) (upd H' dx (.xd [("part",u)])):=fun {H'} k t u sh=>
   ⟨v,rfl,sh,fun dx hd=>qe dx _ (k.trans (Kp.new hd)) (t.new hd) (u.new hd) upd_same⟩
  have non:∃y,Shown V.non y∧y.length≤700:=⟨_,.non,by decide⟩
  have st:∀{z:Str},z.length≤700→∃y,Shown (V.str z) y∧y.length≤700:=fun {z} h=>⟨_,.str (Nat.le_trans h (by decide)),h⟩
  cases bt with
  | no=>
   refine ⟨_,rfl,_,_,_,false,rfl,.of .non,.inl ⟨_,rfl,kit_tup (H:=H) .non⟩,_,rfl,?_⟩
   exact iteT (bad Kp.refl ht1 ht2 non)
  | lst h=>
   have kt:=kit_tup (K:=K) (Th.lst h)
   rw [tyN_lst h] at kt
   refine ⟨_,rfl,_,_,_,false,rfl,.of (.lst h),.inl ⟨_,rfl,kt⟩,_,rfl,?_⟩
   exact iteT (bad Kp.refl ht1 ht2 non)
  | few h l=>
   rename_i a ys
   refine ⟨_,rfl,_,_,_,true,rfl,.of (.tup h),.inl ⟨_,rfl,kt1⟩,_,rfl,iteF ?_⟩
   refine ⟨_,rfl,_,_,rfl,.inr (SqT.of h),rfl,_,rfl,?_⟩
   refine ite2 (fun _=>bad Kp.refl ht1 ht2 non) (fun e=>?_)
   refine absurd ?_ e
   have:¬V.int ((ys.length:Nat):Int)=V.int 4:=fun z=>by injection z with z; exact l (by omega)
   show (!decide _)=true
   rw [decide_eq_false this]; rfl
  | signs h hS bs=>
   refine ⟨_,rfl,_,_,_,true,rfl,.of (.tup h),.inl ⟨_,rfl,kt1⟩,_,rfl,iteF ?_⟩
   refine ⟨_,rfl,_,_,rfl,.inr (SqT.of h),rfl,_,rfl,iteF ?_⟩
   refine ⟨_,rfl,_,_,rfl,SqT.of h,rfl,_,_,rfl,_,_,rfl,_,_,rfl,_,_,rfl,rfl,?_⟩
   refine ⟨_,rfl,spSO.bad hS bs ht1 ht2 fun H1 k1 a1 b1=>⟨_,rfl,iteT ?_⟩⟩
   exact bad k1 a1 b1 (st (by decide))
  | firsts h g hF n=>
   refine ⟨_,rfl,_,_,_,true,rfl,.of (.tup h),.inl ⟨_,rfl,kt1⟩,_,rfl,iteF ?_⟩
   refine ⟨_,rfl,_,_,rfl,.inr (SqT.of h),rfl,_,rfl,iteF ?_⟩
   refine ⟨_,rfl,_,_,rfl,SqT.of h,rfl,_,_,rfl,_,_,rfl,_,_,rfl,_,_,rfl,rfl,?_⟩
   obtain ⟨xs,g2,g3⟩:=g.ex
   refine ⟨_,rfl,.inl ⟨_,xs,_,rfl,g2,g3,g.nd,g.c2,g.c6,ht1,⟨ht2,nofun⟩,fun H1 k1 a1 b1=>⟨_,rfl,iteF ?_⟩⟩⟩
   refine ⟨_,rfl,_,_,_,_,_,xs,_,rfl,SqT.of (k1.tup h),k1.lst g2,g3.kp k1,g.c6,fun l H2 hl s2 hl2=>?_⟩
   have k2:Kp H H2:=k1.trans (Kp.same s2)
   refine ⟨_,rfl,_,rfl,.inr ⟨l,_,_,_,rfl,hl2,k2.lst hF,n,fun H3 s3=>⟨_,rfl,iteT ?_⟩⟩⟩
   exact bad (k2.trans (.same s3)) ((a1.same s2).same s3) ((b1.h.same s2).same s3) (st (by decide))
  | late h g hF fnd fsub fl hP alt=>
   rename_i t S F' Pp lv cs fs qs
   refine ⟨_,rfl,_,_,_,true,rfl,.of (.tup h),.inl ⟨_,rfl,kt1⟩,_,rfl,iteF ?_⟩
   refine ⟨_,rfl,_,_,rfl,.inr (SqT.of h),rfl,_,rfl,iteF ?_⟩
   refine ⟨_,rfl,_,_,rfl,SqT.of h,rfl,_,_,rfl,_,_,rfl,_,_,rfl,_,_,rfl,rfl,?_⟩
   obtain ⟨xs,g2,g3⟩:=g.ex
   refine ⟨_,rfl,.inl ⟨_,xs,_,rfl,g2,g3,g.nd,g.c2,g.c6,ht1,⟨ht2,nofun⟩,fun H1 k1 a1 b1=>⟨_,rfl,iteF ?_⟩⟩⟩
   refine ⟨_,rfl,_,_,_,_,_,xs,_,rfl,SqT.of (k1.tup h),k1.lst g2,g3.kp k1,g.c6,fun l H2 hl s2 hl2=>?_⟩
   have k2:Kp H H2:=k1.trans (Kp.same s2)
   refine ⟨_,rfl,_,rfl,.inl ⟨l,F',sgs cs,fs,rfl,hl2,k2.lst hF,fnd,fsub,fl,fun H3 s3=>⟨_,rfl,iteF ?_⟩⟩⟩
   have k3:=k2.trans (Kp.same s3)
   have hl3:=s3 _ _ hl2
   refine ⟨_,rfl,l,rfl,⟨_,SqL.of hl3⟩,fun p hp=>?_⟩
   have kl:(sgs cs).length≤6:=by unfold sgs; rw [List.length_map]; exact g.c6
   refine ⟨fun i m σ2 H4=>i≤(sgs cs).length∧m=(sgs cs).length - i∧(∃v1 v2,σ2=[v1,v2,some (.ref l)])∧H4 p=some (.lst (txs (((sgs cs).take i).flatMap fun a=>(sgs cs).map fun b=>a ++ b)))∧Same H3 H4,
    ⟨_,Nat.zero_le _,rfl,⟨_,_,rfl⟩,upd_same,same_upd hp⟩,?_⟩
   rintro i m σ2 H4 ⟨hi,rfl,⟨v1,v2,rfl⟩,hp4,s4⟩
   have hl4:=s4 _ _ hl3
   have len:(txs (sgs cs)).length=(sgs cs).length:=List.length_map ..
   by_cases hlt:i < (sgs cs).length
   ·refine .inr ⟨⟨_,_,SqL.of hl4,List.getElem?_eq_getElem (show i < (txs (sgs cs)).length by rw [len]; exact hlt)⟩,?_⟩
    rintro x H5 ⟨rfl,hx⟩
    obtain ⟨a,ha,rfl⟩:∃a,(sgs cs)[i]? = some a∧x = .str a:=by
     have hx:=hx _ (SqL.of hl4)
     unfold txs at hx
     rw [List.getElem?_map] at hx
     obtain ⟨t,h1,h2⟩:=Option.map_eq_some_iff.mp hx
     exact ⟨t,h1,h2.symm⟩
    dsimp only [gName]
    rw [if_pos rfl]
    refine ⟨_,rfl,l,rfl,⟨_,SqL.of hl4⟩,?_⟩
    refine ⟨fun j m σ3 H6=>j≤(sgs cs).length∧m=(sgs cs).length - j∧(∃v2,σ3=[some (.str a),v2,some (.ref l)])∧H6 p=some (.lst (txs (((sgs cs).take i).flatMap (fun a=>(sgs cs).map fun b=>a ++ b) ++ ((sgs cs).take j).map fun b=>a ++ b)))∧Same H3 H6,
     ⟨_,Nat.zero_le _,rfl,⟨_,rfl⟩,by simpa using hp4,s4⟩,?_⟩
    rintro j m σ3 H6 ⟨hj,rfl,⟨v2,rfl⟩,hp6,s6⟩
    have hl6:=s6 _ _ hl3
    by_cases hjt:j < (sgs cs).length
    ·refine .inr ⟨⟨_,_,SqL.of hl6,List.getElem?_eq_getElem (show j < (txs (sgs cs)).length by rw [len]; exact hjt)⟩,?_⟩
     rintro y H7 ⟨rfl,hy⟩
     obtain ⟨b,hb,rfl⟩:∃b,(sgs cs)[j]? = some b∧y = .str b:=by
      have hy:=hy _ (SqL.of hl6)
      unfold txs at hy
      rw [List.getElem?_map] at hy
      obtain ⟨t,h1,h2⟩:=Option.map_eq_some_iff.mp hy
      exact ⟨t,h1,h2.symm⟩
     have one:∀z∈sgs cs,z.length=1:=fun z hz=>by
      obtain ⟨c,_,rfl⟩:=List.mem_map.mp hz
      rfl
     dsimp only [gName]
     rw [if_pos rfl]
     refine ⟨_,rfl,_,rfl,a,b,rfl,rfl,?_,_,hp6,?_,(sgs cs).length - (j + 1),by omega,hjt,rfl,⟨_,rfl⟩,?_,?_⟩
     ·rw [one a (List.mem_of_getElem? ha),one b (List.mem_of_getElem? hb)]; decide
     ·unfold txs
      rw [List.length_map,List.length_append,flat_len _ _ (sgs cs).length (fun a=>by rw [List.length_map]),List.length_map,List.length_take,List.length_take]
      have:min i (sgs cs).length * (sgs cs).length≤6 * 6:=Nat.mul_le_mul (by omega) kl
      exact Nat.lt_of_le_of_lt (show _≤42 by omega) (by decide)
     ·have:((sgs cs).take i).flatMap (fun a=>(sgs cs).map fun b=>a ++ b) ++ ((sgs cs).take (j + 1)).map (fun b=>a ++ b)=(((sgs cs).take i).flatMap (fun a=>(sgs cs).map fun b=>a ++ b) ++ ((sgs cs).take j).map fun b=>a ++ b) ++ [a ++ b]:=by
       rw [List.take_add_one,hb,List.map_append,List.append_assoc]; rfl
      rw [this]
      unfold txs
      rw [List.map_append (l₂:=[a ++ b])]
      exact upd_same
     ·intro c o hc
      rw [upd_ne (ne_of_none hc hp)]; exact s6 c o hc
    ·have e:j=(sgs cs).length:=by omega
     subst e
     refine .inl ⟨⟨_,SqL.of hl6,by rw [len]; exact Nat.le_refl _⟩,(sgs cs).length - (i + 1),by omega,hlt,rfl,⟨_,_,rfl⟩,?_,s6⟩
     rw [prs_snoc ha]
     rw [List.take_length] at hp6
     exact hp6
   ·have e:i=(sgs cs).length:=by omega
    subst e
    refine .inl ⟨⟨_,SqL.of hl4,by rw [len]; exact Nat.le_refl _⟩,?_⟩
    rw [List.take_length] at hp4
    have k4:=k3.trans (Kp.same s4)
    rcases alt with ⟨x,rfl,nin,rfl⟩ | ⟨⟨qnd,qsub,ql⟩,rfl,rfl⟩
    ·refine ⟨_,rfl,.inr ⟨p,Pp,_,x,rfl,hp4,k4.lst hP,nin,fun H5 s5=>⟨_,rfl,iteT ?_⟩⟩⟩
     have sT:Same H1 H5:=((s2.trans s3).trans s4).trans s5
     exact bad (k4.trans (.same s5)) (a1.same sT) (b1.h.same sT) (st (by decide))
    ·refine ⟨_,rfl,.inl ⟨p,Pp,_,qs,rfl,hp4,k4.lst hP,qnd,qsub,ql,fun H5 s5=>⟨_,rfl,iteF ?_⟩⟩⟩
     have sT:Same H1 H5:=((s2.trans s3).trans s4).trans s5
     refine ⟨_,rfl,.int 9,1,8,rfl,.int 9,_,rfl,iteT ?_⟩
     exact bad (k4.trans (.same s5)) (a1.same sT) (b1.h.same sT) (st (by decide))
end
end G1
namespace GM
open G1
theorem frac_red {a b c d:Int} (hb:0 < b) (f:FracOf a b c d):c=a / gd a b∧d=b / gd a b:=by
 obtain ⟨g,g0,e1,e2⟩:=f.g
 have dp:=f.pos
 have gp:0 < g:=by
  rcases Int.lt_trichotomy g 0 with z | z | z
  ·have:=Int.mul_neg_of_neg_of_pos z dp
   omega
  ·exact absurd z g0
  ·exact z
 have eg:gd a b=g:=by
  unfold gd
  rw [e1,e2,Int.natAbs_mul,Int.natAbs_mul,Nat.gcd_mul_left,f.low,Nat.mul_one]
  omega
 rw [eg,e1,e2]
 exact ⟨(Int.mul_ediv_cancel_left _ g0).symm,(Int.mul_ediv_cancel_left _ g0).symm⟩
def red (a b:Int):Int × Int:=(a / gd a b,b / gd a b)
theorem frac_eq {a b c d:Int} (hb:0 < b) (f:FracOf a b c d):(c,d)=red a b:=by
 obtain ⟨e1,e2⟩:=frac_red hb f
 unfold red
 rw [← e1,← e2]
end GM
namespace G1
open PySem L2 GM
structure Two (a b c d:Int):Prop where
 bp:0 < b
 dp:0 < d
 ab:a.natAbs < big
 bb:b.natAbs < big
 cb:c.natAbs < big
 db:d.natAbs < big
 bot:(b * d).natAbs < big
section
variable {P:Program} {w:World} {K:PySem.W.Frag} {mg:Str→Option Value} {base:Heap}
def spTwo (K:PySem.W.Frag) (tp:Int→Int→Int→Int→Int):Sp:=fun vs H Q _=>∃(p q:Addr) (a b c d:Int),vs=[.ref p,.ref q]∧SqT K H p [.int a,.int b]∧SqT K H q [.int c,.int d]∧Two a b c d∧
 ∀t n m,H t=none→FracOf (tp a b c d) (b * d) n m→Q (.ref t) (upd H t (.tup [.int n,.int m]))
def spFr:Sp:=fun vs H Q _=>∃a b:Int,vs=[.int a,.int b]∧0 < b∧b.natAbs < big∧∀t n m,H t=none→FracOf a b n m→Q (.ref t) (upd H t (.tup [.int n,.int m]))
theorem scF:FnScope ["top","bottom","shared"] ["top","bottom"] (defScope sFrac):=⟨rfl,rfl,rfl,by decide +kernel,rfl,by decide +kernel,by decide +kernel⟩
theorem ok_fr {f fW fG:Addr} {fd fdW fdG:FuncData} {dV:Value} (F:FunG K "fraction" "fraction" sFrac dV f fd)
  (GW:FnOk P w K mg base (CXE P w) 1 fW fdW ["thing"] spWhole) (mW:mg "is_whole" = some (.ref fW)) (kW:PySem.W.keepIn K (.ref fW)=true) (bW:Binds K fdW ["thing"] [])
  (GG:FnOk P w K mg base (CXE P w) 1 fG fdG ["one","other"] spGcd) (mG:mg "common_divisor" = some (.ref fG)) (kG:PySem.W.keepIn K (.ref fG)=true) (bG:Binds K fdG ["one","other"] []) :
  FnOk P w K mg base (CXE P w) 2 f fd ["top","bottom"] spFr:=by
 refine F.zokN scF (fun vs H Q E h=>?_) (fun cdv A outer s H vs Q E hr h=>?_)
 ·obtain ⟨a,b,rfl,_⟩:=h
  rfl
 ·obtain ⟨a,b,rfl,b0,bb,q⟩:=h
  refine ⟨_,zpss_cons (zps_if (zpw_or (zpt_not (zpt_val (zpe_call GW hr (by rfl) mW kW bW .nil passE0 (zpac_n (zpv 0) zpa_nil)))) (zpw_or1 (zpt_not (zpt_val (zpe_call GW hr (by rfl) mW kW bW .nil passE0 (zpac_n (zpv 1) zpa_nil)))))).pt zpss_never zpss_nil)
   (zpss_cons (zps_if (zpt_cmpR op_eq (zpv 1) zpe_int (nomark _)) zpss_never zpss_nil)
   (zpss_cons (zps_set (i:=2) scF.nd rfl (Or.inl rfl) (zpe_call GG hr (by rfl) mG kG bG .nil passE0 (zpac_n (zpv 0) (zpac_n (zpv 1) zpa_nil))))
   (zpss_cons (zps_if (zpt_cmpR op_lt (zpv 1) zpe_int (nomark _)) zpss_never zpss_nil)
   (zpss_one (zps_ret (zpe_tup (zpac_b (zpe_op op_fdivB (zpv 0) (zpv 2)) (zpac_b (zpe_op op_fdivB (zpv 1) (zpv 2)) zpa_nil)))))))),?_⟩
  refine ⟨_,rfl,.int a,rfl,.int a,_,rfl,iteF ?_⟩
  refine ⟨_,rfl,.int b,rfl,.int b,_,rfl,iteF ?_⟩
  refine ⟨_,rfl,rfl,_,rfl,ite2 (fun e=>?_) (fun _=>?_)⟩
  ·have e':V.int b=V.int 0:=of_decide_eq_true e
   injection e' with e'
   omega
  refine ⟨_,rfl,_,rfl,a,b,rfl,?_⟩
  refine ⟨_,rfl,_,_,rfl,rfl,_,rfl,ite2 (fun e=>absurd (of_decide_eq_true e) (by omega)) (fun _=>?_)⟩
  have nb:b≠0:=by omega
  have gp:=gd_pos (a:=a) nb
  have gl:=gd_le (a:=a) nb
  obtain ⟨c,d,e1,e2,e3,e4,dp,gg,la,lb⟩:=parted (a:=a) (b:=b) (g:=gd a b) nb (.inl rfl) (by omega)
  have g0:gd a b≠0:=by omega
  have gb:(gd a b).natAbs < big:=Nat.lt_of_le_of_lt (by omega) bb
  refine ⟨_,rfl,_,rfl,_,_,rfl,rfl,⟨g0,gb⟩,_,rfl,_,rfl,_,_,rfl,rfl,⟨g0,gb⟩,by show 2≤sizeLine; decide,fun p hp=>?_⟩
  show Q (V.ref p) (upd H p (HO.tup [V.int (a.fdiv (gd a b)),V.int (b.fdiv (gd a b))]))
  rw [e1,e2]
  exact q p c d hp ⟨⟨_,g0,e3,e4⟩,dp,gg,la,lb⟩
theorem scPl:FnScope ["one","other"] ["one","other"] (defScope sPlus):=⟨rfl,rfl,rfl,by decide +kernel,rfl,by decide +kernel,by decide +kernel⟩
theorem ok_plus {f fF:Addr} {fd fdF:FuncData} (F:FunG K "plus" "plus" sPlus .none f fd)
  (GF:FnOk P w K mg base (CXE P w) 2 fF fdF ["top","bottom"] spFr) (mF:mg "fraction" = some (.ref fF)) (kF:PySem.W.keepIn K (.ref fF)=true) (b2:Binds K fdF ["top","bottom"] []) :
  FnOk P w K mg base (CXE P w) 3 f fd ["one","other"] (spTwo K fun a b c d=>a * d + c * b):=by
 refine F.zokN scPl (fun vs H Q E h=>?_) (fun cdv A outer s H vs Q E hr h=>?_)
 ·obtain ⟨p,q,a,b,c,d,rfl,_⟩:=h
  rfl
 ·obtain ⟨p,q,a,b,c,d,rfl,h1,h2,t,q'⟩:=h
  refine ⟨_,zpss_one (zps_ret (zpe_call GF hr (by rfl) mF kF b2 .nil passE0 (zpac_b (zpe_op op_add (zpe_op op_mulB (zpe_ix ix_tup (zpv 0) zpe_int (fun _ _=>rfl)) (zpe_ix ix_tup (zpv 1) zpe_int (fun _ _=>rfl)))
    (zpe_op op_mulB (zpe_ix ix_tup (zpv 1) zpe_int (fun _ _=>rfl)) (zpe_ix ix_tup (zpv 0) zpe_int (fun _ _=>rfl)))) (zpac_b (zpe_op op_mulB (zpe_ix ix_tup (zpv 0) zpe_int (fun _ _=>rfl)) (zpe_ix ix_tup (zpv 1) zpe_int (fun _ _=>rfl))) zpa_nil)))),?_⟩
  refine ⟨_,rfl,p,_,_,_,rfl,rfl,h1,rfl,_,rfl,q,_,_,_,rfl,rfl,h2,rfl,_,_,rfl,rfl,⟨t.ab,t.db⟩,_,rfl,q,_,_,_,rfl,rfl,h2,rfl,_,rfl,p,_,_,_,rfl,rfl,h1,rfl,_,_,rfl,rfl,⟨t.cb,t.bb⟩,_,_,rfl,rfl,
   _,rfl,p,_,_,_,rfl,rfl,h1,rfl,_,rfl,q,_,_,_,rfl,rfl,h2,rfl,_,_,rfl,rfl,⟨t.bb,t.db⟩,?_⟩
  exact ⟨_,_,rfl,Int.mul_pos t.bp t.dp,t.bot,q'⟩
theorem scTi:FnScope ["one","other"] ["one","other"] (defScope sTimes):=⟨rfl,rfl,rfl,by decide +kernel,rfl,by decide +kernel,by decide +kernel⟩
theorem ok_times {f fF:Addr} {fd fdF:FuncData} (F:FunG K "times" "times" sTimes .none f fd)
  (GF:FnOk P w K mg base (CXE P w) 2 fF fdF ["top","bottom"] spFr) (mF:mg "fraction" = some (.ref fF)) (kF:PySem.W.keepIn K (.ref fF)=true) (bF:Binds K fdF ["top","bottom"] []):FnOk P w K mg base (CXE P w) 3 f fd ["one","other"] (spTwo K fun a b c d=>a * c):=by
 refine F.zokN scTi (fun vs H Q E h=>?_) (fun cdv A outer s H vs Q E hr h=>?_)
 ·obtain ⟨p,q,a,b,c,d,rfl,_⟩:=h
  rfl
 ·obtain ⟨p,q,a,b,c,d,rfl,h1,h2,t,q'⟩:=h
  refine ⟨_,(zpss_one (zps_ret (zpe_call GF hr (by rfl) mF kF bF .nil passE0 (zpac_b (zpe_op op_mulB (zpe_ix ix_tup (zpv 0) zpe_int (fun _ _=>rfl)) (zpe_ix ix_tup (zpv 1) zpe_int (fun _ _=>rfl))) (zpac_b (zpe_op op_mulB (zpe_ix ix_tup (zpv 0) zpe_int (fun _ _=>rfl)) (zpe_ix ix_tup (zpv 1) zpe_int (fun _ _=>rfl))) zpa_nil))))),?_⟩
  refine ⟨_,rfl,p,_,_,_,rfl,rfl,h1,rfl,_,rfl,q,_,_,_,rfl,rfl,h2,rfl,_,_,rfl,rfl,⟨t.ab,t.cb⟩,_,rfl,p,_,_,_,rfl,rfl,h1,rfl,_,rfl,q,_,_,_,rfl,rfl,h2,rfl,_,_,rfl,rfl,⟨t.bb,t.db⟩,?_⟩
  exact ⟨_,_,rfl,Int.mul_pos t.bp t.dp,t.bot,q'⟩
theorem frac_re {e f n m M C:Int} (h:FracOf e f n m) (f0:f≠0) (M0:0 < M) (eq:e * M=f * C):FracOf C M n m:=by
 obtain ⟨g,g0,e1,e2⟩:=h.g
 have nM:n * M=m * C:=by
  have:g * (n * M)=g * (m * C):=by
   rw [← Int.mul_assoc,← Int.mul_assoc,← e1,← e2]; exact eq
  exact Int.eq_of_mul_eq_mul_left g0 this
 have mp:=h.pos
 have dv:m.natAbs ∣ n.natAbs * M.natAbs:=by
  rw [← Int.natAbs_mul,nM,Int.natAbs_mul]
  exact Nat.dvd_mul_right _ _
 have co:Nat.Coprime m.natAbs n.natAbs:=by
  show Nat.gcd _ _=1
  rw [Nat.gcd_comm]; exact h.low
 have dM:m.natAbs ∣ M.natAbs:=co.dvd_of_dvd_mul_left dv
 obtain ⟨k,hk⟩:=dM
 have Mk:M=m * (k:Int):=by
  have a:(M.natAbs:Int)=M:=by omega
  have b:(m.natAbs:Int)=m:=by omega
  rw [← a,hk,Int.natCast_mul,b]
 have k0:(k:Int)≠0:=fun z=>by
  rw [z,Int.mul_zero] at Mk; omega
 have Ck:C=(k:Int) * n:=by
  have:m * C=m * ((k:Int) * n):=by
   rw [← nM,Mk,← Int.mul_assoc,Int.mul_comm n m,Int.mul_assoc,Int.mul_comm n]
  exact Int.eq_of_mul_eq_mul_left (by omega) this
 have kp:1≤k:=by
  rcases Nat.eq_zero_or_pos k with z | z
  ·rw [z] at k0; exact absurd rfl k0
  ·exact z
 refine ⟨⟨k,k0,Ck,by rw [Mk,Int.mul_comm]⟩,mp,h.low,?_,?_⟩
 ·rw [Ck,Int.natAbs_mul]
  exact Nat.le_mul_of_pos_left _ kp
 ·rw [Mk,Int.natAbs_mul]
  exact Nat.le_mul_of_pos_right _ kp
end
theorem cut_butlast {z:Str}:(cutS z none (some (-1))).cps.toList=z.cps.toList.dropLast:=by
 unfold cutS
 have n:z.length=z.cps.toList.length:=by unfold Str.length; simp
 have a:HT.sIx z.length z.length (some (-1))=z.length - 1:=by
  show (if (-1:Int) < 0 then ((-1:Int) + ((z.length:Nat):Int)).toNat else min (-1:Int).toNat z.length)=z.length - 1
  rw [if_pos (by decide)]
  omega
 rw [a]
 show ((z.cps.toList.drop 0).take (z.length - 1 - 0)).toArray.toList=_
 rw [n]
 simp [List.dropLast_eq_take]
theorem last_mem {z:Str} {c:Nat} (h:z.cps[z.cps.size - 1]? = some c):c∈z.cps.toList:=by
 have:z.cps.toList[z.cps.size - 1]? = some c:=by simpa using h
 exact List.mem_of_getElem? this
theorem sqT_same {K:PySem.W.Frag} {H H':Hp} {p:Addr} {xs:List V} (k:Same H H') (h:SqT K H p xs):SqT K H' p xs:=by
 rcases h with (h | ⟨o,h⟩) | h
 ·exact .inl (.inl (k _ _ h))
 ·exact .inl (.inr ⟨o,k _ _ h⟩)
 ·exact .inr h
def FO (K:PySem.W.Frag) (H:Hp) (M C:Int) (x:V):Prop:=∃o n m,x = .ref o∧SqT K H o [.int n,.int m]∧FracOf C M n m
def FP (H:Hp) (M C:Int) (x:V):Prop:=∃o n m,x = .ref o∧H o=some (.tup [.int n,.int m])∧FracOf C M n m
theorem FP.fo {K:PySem.W.Frag} {H:Hp} {M C:Int} {x:V} (h:FP H M C x):FO K H M C x:=by
 obtain ⟨o,n,m,e,g,f⟩:=h
 exact ⟨o,n,m,e,SqT.of g,f⟩
theorem FP.kp {H H':Hp} {M C:Int} {x:V} (h:FP H M C x) (k:Kp H H'):FP H' M C x:=by
 obtain ⟨o,n,m,e,g,f⟩:=h
 exact ⟨o,n,m,e,k.tup g,f⟩
theorem FO.same {K:PySem.W.Frag} {H H':Hp} {M C:Int} {x:V} (h:FO K H M C x) (k:Same H H'):FO K H' M C x:=by
 obtain ⟨o,n,m,e,g,f⟩:=h
 exact ⟨o,n,m,e,sqT_same k g,f⟩
theorem frac_eqn {C M n m:Int} (h:FracOf C M n m):n * M=m * C:=by
 obtain ⟨g,_,e1,e2⟩:=h.g
 rw [e1,e2,← Int.mul_assoc,← Int.mul_assoc,Int.mul_comm n g,Int.mul_comm m g,Int.mul_assoc,Int.mul_assoc,Int.mul_comm n m]
theorem two_re {C1 C2 M a b c d:Int} (h1:FracOf C1 M a b) (h2:FracOf C2 M c d) (M0:0 < M) (M1:M≤10 ^ 108) (l1:C1.natAbs≤10 ^ 140) (l2:C2.natAbs≤10 ^ 140):Two a b c d:=by
 have b1:=h1.bot
 have b2:=h2.bot
 have t1:=h1.top
 have t2:=h2.top
 have mm:M.natAbs≤10 ^ 108:=by omega
 have g:(10 ^ 140:Nat) < big:=by decide +kernel
 have g2:(10 ^ 108:Nat)≤10 ^ 140:=by decide
 refine ⟨h1.pos,h2.pos,by omega,by omega,by omega,by omega,?_⟩
 rw [Int.natAbs_mul]
 exact Nat.lt_of_le_of_lt (Nat.mul_le_mul (Nat.le_trans b1 mm) (Nat.le_trans b2 mm)) (by decide +kernel)
theorem frac_add {C1 C2 M a b c d n m:Int} (fr:FracOf (a * d + c * b) (b * d) n m) (h1:FracOf C1 M a b) (h2:FracOf C2 M c d) (M0:0 < M):FracOf (C1 + C2) M n m:=by
  have p1:=h1.pos
  have p2:=h2.pos
  refine frac_re fr (Int.ne_of_gt (Int.mul_pos p1 p2)) M0 ?_
  have e1:=frac_eqn h1
  have e2:=frac_eqn h2
  calc (a * d + c * b) * M=(a * M) * d + (c * M) * b:=by rw [Int.add_mul,Int.mul_right_comm,Int.mul_right_comm c]
    _=(b * C1) * d + (d * C2) * b:=by rw [e1,e2]
    _=b * d * (C1 + C2):=by rw [Int.mul_add,Int.mul_right_comm b C1,Int.mul_right_comm d C2,Int.mul_comm d b]
theorem frac_mul {C M k b c d n m:Int} (fr:FracOf (k * c) (b * d) n m) (hb:b=1) (h2:FracOf C M c d) (M0:0 < M):FracOf (k * C) M n m:=by
 subst hb
 have p2:=h2.pos
 refine frac_re fr (by omega) M0 ?_
 have e2:=frac_eqn h2
 rw [Int.mul_assoc,e2,Int.one_mul,← Int.mul_assoc,← Int.mul_assoc,Int.mul_comm k d]
theorem frac_one {k n m:Int} (h:FracOf k 1 n m):n=k∧m=1:=by
 have b:=h.bot
 have p:=h.pos
 have m1:m=1:=by
  have:m.natAbs≤1:=b
  omega
 have e:=frac_eqn h
 rw [m1] at e
 exact ⟨by omega,m1⟩
theorem frac_nought {M:Int} (M0:0 < M):FracOf 0 M 0 1:=⟨⟨M,by omega,by rw [Int.mul_zero],by rw [Int.mul_one]⟩,by decide,by decide,by decide,by
 show 1≤M.natAbs
 omega⟩
structure TgM (H:Hp) (t:Addr) (cs:List Nat) (pa pl:Nat→V) (M:Int) (A L:Nat→Int):Prop where
 ex:∃S F Pp lg xs,H t=some (.tup [.ref S,F,Pp,lg])∧H S=some (.lst xs)∧xs.length=cs.length∧∀(i c:Nat),cs[i]? = some c→∃a,xs[i]? = some (.ref a)∧H a=some (.tup [.str (sg1 c),pa c,pl c])
 fa:∀c∈cs,FP H M (A c) (pa c)
 fl:∀c∈cs,pl c = .non∨FP H M (L c) (pl c)
 nd:cs.Nodup
 c6:cs.length≤6
 M0:0 < M
 M1:M≤10 ^ 108
 bA:∀c∈cs,0≤A c∧A c≤10 ^ 118
 bL:∀c∈cs,0≤L c∧L c≤10 ^ 118
theorem TgM.kp {H H':Hp} {t:Addr} {cs:List Nat} {pa pl:Nat→V} {M:Int} {A L:Nat→Int} (h:TgM H t cs pa pl M A L) (k:Kp H H'):TgM H' t cs pa pl M A L:=by
 obtain ⟨S,F,Pp,lg,xs,h1,h2,h3,h4⟩:=h.ex
 exact {h with ex:=⟨S,F,Pp,lg,xs,k.tup h1,k.lst h2,h3,fun i c e=>by
  obtain ⟨a,e1,e2⟩:=h4 i c e
  exact ⟨a,e1,k.tup e2⟩⟩,fa:=fun c hc=>(h.fa c hc).kp k,fl:=fun c hc=>(h.fl c hc).imp id fun z=>z.kp k}
def PC (A L:Nat→Int) (z:Str):Int:=(z.cps.toList.dropLast.map A).sum + match z.cps[z.cps.size - 1]? with
 | some c=>L c
 | none=>0
def WdM (cs:List Nat) (pl:Nat→V) (z:Str):Prop:=(∀c∈z.cps.toList,c∈cs)∧z.length≤8∧0 < z.cps.size∧∃c,z.cps[z.cps.size - 1]? = some c∧pl c≠.non
theorem sumI_bd:∀(l:List Int),(∀C∈l,0≤C∧C≤10 ^ 118)→0≤l.sum∧l.sum≤(l.length:Int) * 10 ^ 118
 | [],_=>by simp
 | C :: l,h=>by
  have h1:=h C List.mem_cons_self
  have h2:=sumI_bd l fun D hD=>h D (List.mem_cons_of_mem _ hD)
  rw [List.sum_cons,List.length_cons,Int.natCast_add,Int.add_mul]
  omega
section
variable {P:Program} {w:World} {K:PySem.W.Frag} {mg:Str→Option Value} {base:Heap}
def spSum (K:PySem.W.Frag):Sp:=fun vs H Q _=>∃(l:Addr) (xs:List V) (Cs:List Int) (M:Int),vs=[.ref l]∧H l=some (.lst xs)∧0 < M∧M≤10 ^ 108∧xs.length=Cs.length∧xs.length≤100∧(∀(i:Nat) (x:V) (C:Int),xs[i]? = some x→Cs[i]? = some C→FO K H M C x∧0≤C∧C≤10 ^ 130)∧
 ∀u H',Same H H'→FO K H' M Cs.sum u→Q u H'
theorem scSu:FnScope ["some","total","one"] ["some"] (defScope sSum):=⟨rfl,rfl,rfl,by decide +kernel,rfl,by decide +kernel,by decide +kernel⟩
theorem sum_bd2 {Cs:List Int} (h:∀C∈Cs,0≤C∧C≤10 ^ 130) (l:Cs.length≤100):0≤Cs.sum∧Cs.sum≤10 ^ 133:=by
 have:∀(l:List Int),(∀C∈l,0≤C∧C≤10 ^ 130)→0≤l.sum∧l.sum≤(l.length:Int) * 10 ^ 130:=by
  intro l
  induction l with
  | nil=>intro _; simp
  | cons C l ih=>
   intro h
   have h1:=h C List.mem_cons_self
   have h2:=ih fun D hD=>h D (List.mem_cons_of_mem _ hD)
   rw [List.sum_cons,List.length_cons,Int.natCast_add,Int.add_mul]
   omega
 have h1:=this Cs h
 have h2:(Cs.length:Int) * 10 ^ 130≤100 * 10 ^ 130:=Int.mul_le_mul_of_nonneg_right (by omega) (by decide)
 omega
theorem ok_sum {aN:Addr} {f fP:Addr} {fd fdP:FuncData} (F:FunG K "sum_of" "sum_of" sSum .none f fd) (mO:mg "NOUGHT" = some (.ref aN)) (sO:∀H,SqT K H aN [.int 0,.int 1])
  (GP:FnOk P w K mg base (CXE P w) 3 fP fdP ["one","other"] (spTwo K fun a b c d=>a * d + c * b)) (mP:mg "plus" = some (.ref fP)) (kP:PySem.W.keepIn K (.ref fP)=true) (bP:Binds K fdP ["one","other"] []):FnOk P w K mg base (CXE P w) 4 f fd ["some"] (spSum K):=by
 refine F.zokN scSu (fun vs H Q E h=>?_) (fun cdv A outer s H vs Q E hr h=>?_)
 ·obtain ⟨l,xs,Cs,M,rfl,_⟩:=h
  rfl
 ·obtain ⟨l,xs,Cs,M,rfl,hl,M0,M1,ln,l100,ok,q⟩:=h
  refine ⟨_,(zpss_cons (zps_set (i:=1) scSu.nd rfl (Or.inl rfl) (zpe_glob (by rfl) mO (v:=.ref aN) rfl))
   (zpss_cons (zps_for PassesOwn.never rfl (zpi_list (zpv 0)) (zpg_name (i:=2) scSu.nd rfl (Or.inl rfl))
     (zpss_one (zps_set (i:=1) scSu.nd rfl (Or.inl rfl) (zpe_call GP hr (by rfl) mP kP bP .nil passE0 (zpac_n (zpv 1) (zpac_n (zpv 2) zpa_nil))))))
   (zpss_one (zps_ret (zpv 1))))),?_⟩
  refine ⟨_,rfl,l,rfl,⟨_,SqL.of hl⟩,for_list (K:=K) (a:=l) (xs:=xs)
   (fun i σ H2=>∃(t:Addr) (v2:Option V),σ=[some (.ref l),some (.ref t),v2]∧Same H H2∧FO K H2 M (Cs.take i).sum (.ref t)) ⟨aN,_,rfl,fun _ _ h=>h,aN,0,1,rfl,sO _,frac_nought M0⟩ ?_ ?_ ?_⟩
  ·rintro i σ H2 _ ⟨t,v2,_,s2,_⟩
   exact SqL.of (s2 _ _ hl)
  ·rintro i x σ H2 hi ⟨t,v2,rfl,s2,o1,a1,b1,e1,g1,f1⟩
   cases e1
   have il:=(List.getElem?_eq_some_iff.mp hi).1
   have hC:Cs[i]? = some (Cs[i]'(by omega)):=List.getElem?_eq_getElem _
   obtain ⟨fo,c0,c1⟩:=ok i x _ hi hC
   generalize Cs[i]'(by omega)=C at hC fo c0 c1
   obtain ⟨o2,a2,b2,rfl,g2,f2⟩:=fo.same s2
   have tk:=sum_bd2 (Cs:=Cs.take i) (fun D hD=>by
    obtain ⟨j,hj⟩:=List.getElem?_of_mem (List.mem_of_mem_take hD)
    have jl:=(List.getElem?_eq_some_iff.mp hj).1
    exact (ok j _ D (List.getElem?_eq_getElem (show j < xs.length by omega)) hj).2) (by rw [List.length_take]; omega)
   refine ⟨_,rfl,_,rfl,t,o2,_,_,_,_,rfl,g1,g2,two_re f1 f2 M0 M1 (by omega) (by omega),fun u n m hu fr=>?_⟩
   refine ⟨u,_,rfl,s2.trans (same_upd hu),u,n,m,rfl,SqT.of upd_same,?_⟩
   rw [List.take_add_one,hC,List.sum_append]
   have:(some C).toList.sum=C:=by simp
   rw [this]
   exact frac_add fr f1 f2 M0
  ·rintro σ H2 ⟨t,v2,rfl,s2,ht⟩
   rw [ln,List.take_length] at ht
   exact ⟨_,rfl,q _ H2 s2 ht⟩
def spLasts:Sp:=fun vs H Q _=>∃(t:Addr) (cs:List Nat) (pa pl:Nat→V) (M:Int) (A L:Nat→Int),vs=[.ref t]∧TgM H t cs pa pl M A L∧∀D kvs H',H D=none→Same H H'→H' D=some (.dK kvs)→(∀c∈cs,valV kvs (Sum.inr (sg1 c):Key)=some (pl c))→Q (.ref D) H'
theorem scLt:FnScope ["tongue"] ["tongue"] (defScope sLasts):=⟨rfl,rfl,rfl,by decide +kernel,rfl,by decide +kernel,by decide +kernel⟩
theorem nd3:List.Nodup [("sign" : Str),"price","last"]:=by decide +kernel
theorem ok_lasts {f:Addr} {fd:FuncData} (F:FunG K "lasts_of" "lasts_of" sLasts .none f fd):FnOk P w K mg base (CXE P w) 1 f fd ["tongue"] spLasts:=by
 refine F.zokN scLt (fun vs H Q E h=>?_) (fun cdv A outer s H vs Q E hr h=>?_)
 ·obtain ⟨t,cs,pa,pl,M,A,L,rfl,_⟩:=h
  rfl
 ·obtain ⟨t,cs,pa,pl,M,A,L,rfl,hx,q⟩:=h
  refine ⟨_,(zpss_one (zps_ret (zpe_dictcomp ["tongue"] ["sign","price","last"] [] (defScope sLasts) rfl rfl rfl ⟨by decide +kernel,by decide +kernel,by decide +kernel,by decide +kernel,by decide +kernel⟩ (zpi_list (zpe_ix ix_tup (zpv 0) zpe_int (fun _ _=>rfl)))
    (fun s H fp=>zpg_tupK K 3 rfl rfl (zpgs_cons (zpg_name (i:=0) nd3 rfl (Or.inl rfl)) (zpgs_cons (zpg_name (i:=1) nd3 rfl (Or.inl rfl)) (zpgs_cons (zpg_name (i:=2) nd3 rfl (Or.inl rfl)) zpgs_nil))))
    (fun s H fp=>zpts_nil) (fun s H fp=>zpv 0) (fun s H fp=>zpv 2)))),?_⟩
  obtain ⟨S,F',Pp,lg,xs,h1,h2,xl,rws⟩:=hx.ex
  have c6:=hx.c6
  refine ⟨_,rfl,t,_,_,_,rfl,rfl,SqT.of h1,rfl,S,rfl,⟨_,SqL.of h2⟩,fun D hD=>?_⟩
  refine ⟨fun i m σ2 H2=>i≤cs.length∧m=cs.length - i∧(∃v1 v2 v3,σ2=[v1,v2,v3])∧(∃kvs:List (Key × V),H2 D=some (.dK kvs)∧kvs.length≤i∧∀(j c:Nat),j < i→cs[j]? = some c→valV kvs (Sum.inr (sg1 c):Key)=some (pl c))∧Same H H2,
   ⟨_,Nat.zero_le _,rfl,⟨_,_,_,rfl⟩,⟨[],upd_same,Nat.le_refl _,fun j _ hj=>absurd hj (Nat.not_lt_zero _)⟩,same_upd hD⟩,?_⟩
  rintro i m σ2 H2 ⟨hi,rfl,⟨v1,v2,v3,rfl⟩,⟨kvs,hD2,kl,ok⟩,s2⟩
  have hS2:=s2 _ _ h2
  by_cases hlt:i < cs.length
  ·refine .inr ⟨⟨_,_,SqL.of hS2,List.getElem?_eq_getElem (show i < xs.length by rw [xl]; exact hlt)⟩,?_⟩
   rintro x H3 ⟨rfl,hxx⟩
   have hxi:=hxx _ (SqL.of hS2)
   obtain ⟨cc,hc⟩:∃cc,cs[i]? = some cc:=⟨_,List.getElem?_eq_getElem hlt⟩
   obtain ⟨a,e,ha⟩:=rws i _ hc
   rw [e] at hxi
   injection hxi with hxi
   subst hxi
   refine ⟨a,_,rfl,SqT.of (s2 _ _ ha),rfl,_,_,rfl,_,_,rfl,_,_,rfl,rfl,?_⟩
   dsimp only
   rw [if_pos rfl]
   refine ⟨_,rfl,_,rfl,Sum.inr (sg1 cc),kvs,rfl,hD2,Nat.lt_of_le_of_lt (show kvs.length≤6 by omega) (by decide),cs.length - (i + 1),by omega,hlt,rfl,⟨_,_,_,rfl⟩,⟨_,upd_same,?_,?_⟩,?_⟩
   ·have:=length_putK kvs (Sum.inr (sg1 cc):Key) (pl cc)
    omega
   ·intro j d hj hd
    rw [valV_put]
    by_cases e:(Sum.inr (sg1 d):Key)=Sum.inr (sg1 cc)
    ·rw [if_pos e]
     have e':d=cc:=sg1_inj (Sum.inr.inj e)
     subst e'
     rfl
    ·rw [if_neg e]
     have:j≠i:=fun z=>e (by subst z; rw [hc] at hd; cases hd; rfl)
     exact ok j d (by omega) hd
   ·intro b o hb
    rw [upd_ne (ne_of_none hb hD)]; exact s2 b o hb
  have ei:i=cs.length:=by omega
  subst ei
  refine .inl ⟨⟨_,SqL.of hS2,by rw [xl]; exact Nat.le_refl _⟩,?_⟩
  refine q D kvs H2 hD s2 hD2 fun c hc=>?_
  obtain ⟨j,hj⟩:=List.getElem?_of_mem hc
  exact ok j c (List.getElem?_eq_some_iff.mp hj).1 hj
theorem prices_core {H:Hp} {D l:Addr} {kvs:List (Key × V)} {cs:List Nat} {pa:Nat→V} {z:Str} {Q:VK} (hD:H D=some (.dK kvs)) (ok:∀c∈cs,valV kvs (Sum.inr (sg1 c):Key)=some (pa c)) (lz:∀c∈z.cps.toList,c∈cs) (z8:z.length≤8) (hl:H l=none)
  (q:∀H',Same H H'→H' l=some (.lst (z.cps.toList.map pa))→Q (.ref l) H') (v0:Option V) :
  LCr l (Its z) (gName 0) (fun _ H Q=>Q true H) (tDGet (tVar 1) (tVar 0)) [v0,some (.ref D)] (upd H l (.lst [])) Q:=by
 refine ⟨fun i m σ2 H2=>i≤z.cps.size∧m=z.cps.size - i∧(∃v,σ2=[v,some (.ref D)])∧H2 l=some (.lst ((z.cps.toList.map pa).take i))∧Same H H2,⟨_,Nat.zero_le _,rfl,⟨_,rfl⟩,upd_same,same_upd hl⟩,?_⟩
 rintro i m σ2 H2 ⟨hi,rfl,⟨v,rfl⟩,hl2,s2⟩
 have hD2:=s2 _ _ hD
 have zs:z.cps.size=z.length:=rfl
 by_cases hlt:i < z.cps.size
 ·refine .inr ⟨hlt,?_⟩
  rintro x H3 ⟨rfl,c,hc,rfl⟩
  have hc':z.cps.toList[i]? = some c:=by simpa using hc
  have cm:c∈cs:=lz c (List.mem_of_getElem? hc')
  dsimp only [gName]
  rw [if_pos rfl]
  have hr:(z.cps.toList.map pa)[i]? = some (pa c):=by rw [List.getElem?_map,hc']; rfl
  refine ⟨_,rfl,_,rfl,D,pa c,rfl,?_,_,hl2,?_,z.cps.size - (i + 1),by omega,hlt,rfl,⟨_,rfl⟩,?_,?_⟩
  ·rw [← ok c cm]
   exact DGet.k (k:=Sum.inr (sg1 c)) hD2
  ·rw [List.length_take]
   exact Nat.lt_of_le_of_lt (show min i _≤8 by omega) (by decide)
  ·rw [List.take_add_one,hr]; exact upd_same
  ·intro b o hb
   rw [upd_ne (ne_of_none hb hl)]; exact s2 b o hb
 ·have e:i=z.cps.size:=by omega
  have:(z.cps.toList.map pa).take i=z.cps.toList.map pa:=List.take_of_length_le (by rw [List.length_map,e]; simp)
  rw [this] at hl2
  exact .inl ⟨e,q H2 s2 hl2⟩
def spRWay (K:PySem.W.Frag):Sp:=fun vs H Q _=>∃(t:Addr) (cs:List Nat) (pa pl:Nat→V) (M:Int) (A L:Nat→Int) (z:Str),vs=[.ref t,.str z]∧TgM H t cs pa pl M A L∧(∀c∈z.cps.toList,c∈cs)∧z.length≤8∧∀u H',Same H H'→FO K H' M (z.cps.toList.map A).sum u→Q u H'
abbrev nmW:List Str:=["tongue","text","prices"]
theorem scRW:FnScope nmW ["tongue","text"] (defScope sRWay):=⟨rfl,rfl,rfl,by decide +kernel,rfl,by decide +kernel,by decide +kernel⟩
theorem ok_rway {f fS:Addr} {fd fdS:FuncData} (F:FunG K "reckon_way" "reckon_way" sRWay .none f fd)
  (GS:FnOk P w K mg base (CXE P w) 4 fS fdS ["some"] (spSum K)) (mS:mg "sum_of" = some (.ref fS)) (kS:PySem.W.keepIn K (.ref fS)=true) (bS:Binds K fdS ["some"] []) :
  FnOk P w K mg base (CXE P w) 5 f fd ["tongue","text"] (spRWay K):=by
 refine F.zokN scRW (fun vs H Q E h=>?_) (fun cdv A outer s H vs Q E hr h=>?_)
 ·obtain ⟨t,cs,pa,pl,M,A,L,z,rfl,_⟩:=h
  rfl
 ·obtain ⟨t,cs,pa,pl,M,A,L,z,rfl,hx,lz,z8,q⟩:=h
  have hu:=hr.units1
  refine ⟨_,(zpss_cons (zps_set (i:=2) scRW.nd rfl (Or.inr rfl) (zpe_dictcomp nmW ["sign","price","last"] [] (defScope sRWay) rfl rfl rfl ⟨by decide +kernel,by decide +kernel,by decide +kernel,by decide +kernel,by decide +kernel⟩ (zpi_list (zpe_ix ix_tup (zpv 0) zpe_int (fun _ _=>rfl)))
    (fun s H fp=>zpg_tupK K 3 rfl rfl (zpgs_cons (zpg_name (i:=0) nd3 rfl (Or.inl rfl)) (zpgs_cons (zpg_name (i:=1) nd3 rfl (Or.inl rfl)) (zpgs_cons (zpg_name (i:=2) nd3 rfl (Or.inl rfl)) zpgs_nil))))
    (fun s H fp=>zpts_nil) (fun s H fp=>zpv 0) (fun s H fp=>zpv 1)))
   (zpss_one (zps_ret (zpe_call GS hr (by rfl) mS kS bS .nil passE0 (zpac_x (zpe_comp nmW ["sign"] [2] (defScope sRWay) rfl rfl rfl ⟨by decide +kernel,by decide +kernel,by decide +kernel,by decide +kernel,by decide +kernel⟩ (zpi_str (zpv 1))
     (fun s H fp=>zpg_name (i:=0) (show List.Nodup [("sign" : Str),"prices"] by decide +kernel) rfl (Or.inl rfl)) (fun s H fp=>zpts_nil) (fun s H fp=>zpe_dget hu (zpv 1) (zpv 0) (fun _ _=>rfl))) zpa_nil))))),?_⟩
  obtain ⟨S,F',Pp,lg,xs,h1,h2,xl,rws⟩:=hx.ex
  have c6:=hx.c6
  refine ⟨_,rfl,t,_,_,_,rfl,rfl,SqT.of h1,rfl,S,rfl,⟨_,SqL.of h2⟩,fun D hD=>?_⟩
  refine ⟨fun i m σ2 H2=>i≤cs.length∧m=cs.length - i∧(∃v1 v2 v3,σ2=[v1,v2,v3])∧(∃kvs:List (Key × V),H2 D=some (.dK kvs)∧kvs.length≤i∧∀(j c:Nat),j < i→cs[j]? = some c→valV kvs (Sum.inr (sg1 c):Key)=some (pa c))∧Same H H2,
   ⟨_,Nat.zero_le _,rfl,⟨_,_,_,rfl⟩,⟨[],upd_same,Nat.le_refl _,fun j _ hj=>absurd hj (Nat.not_lt_zero _)⟩,same_upd hD⟩,?_⟩
  rintro i m σ2 H2 ⟨hi,rfl,⟨v1,v2,v3,rfl⟩,⟨kvs,hD2,kl,ok⟩,s2⟩
  have hS2:=s2 _ _ h2
  by_cases hlt:i < cs.length
  ·refine .inr ⟨⟨_,_,SqL.of hS2,List.getElem?_eq_getElem (show i < xs.length by rw [xl]; exact hlt)⟩,?_⟩
   rintro x H3 ⟨rfl,hxx⟩
   have hxi:=hxx _ (SqL.of hS2)
   obtain ⟨cc,hc⟩:∃cc,cs[i]? = some cc:=⟨_,List.getElem?_eq_getElem hlt⟩
   obtain ⟨a,e,ha⟩:=rws i _ hc
   rw [e] at hxi
   injection hxi with hxi
   subst hxi
   refine ⟨a,_,rfl,SqT.of (s2 _ _ ha),rfl,_,_,rfl,_,_,rfl,_,_,rfl,rfl,?_⟩
   dsimp only
   rw [if_pos rfl]
   refine ⟨_,rfl,_,rfl,Sum.inr (sg1 cc),kvs,rfl,hD2,Nat.lt_of_le_of_lt (show kvs.length≤6 by omega) (by decide),cs.length - (i + 1),by omega,hlt,rfl,⟨_,_,_,rfl⟩,⟨_,upd_same,?_,?_⟩,?_⟩
   ·have:=length_putK kvs (Sum.inr (sg1 cc):Key) (pa cc)
    omega
   ·intro j d hj hd
    rw [valV_put]
    by_cases e:(Sum.inr (sg1 d):Key)=Sum.inr (sg1 cc)
    ·rw [if_pos e]
     have e':d=cc:=sg1_inj (Sum.inr.inj e)
     subst e'
     rfl
    ·rw [if_neg e]
     have:j≠i:=fun z=>e (by subst z; rw [hc] at hd; cases hd; rfl)
     exact ok j d (by omega) hd
   ·intro b o hb
    rw [upd_ne (ne_of_none hb hD)]; exact s2 b o hb
  have ei:i=cs.length:=by omega
  subst ei
  refine .inl ⟨⟨_,SqL.of hS2,by rw [xl]; exact Nat.le_refl _⟩,?_⟩
  refine ⟨_,rfl,z,rfl,fun l hl=>?_⟩
  refine prices_core (cs:=cs) (pa:=pa) hD2 (fun c hc=>?_) lz z8 hl (fun H3 s3 hl3=>?_) _
  ·obtain ⟨j,hj⟩:=List.getElem?_of_mem hc
   exact ok j c (List.getElem?_eq_some_iff.mp hj).1 hj
  ·have hx3:=hx.kp (Kp.same (s2.trans s3))
   have zl:(z.cps.toList.map pa).length≤100:=by
    have:z.cps.toList.length=z.length:=by simp [Str.length]
    rw [List.length_map]; omega
   refine ⟨l,_,z.cps.toList.map A,M,rfl,hl3,hx.M0,hx.M1,by rw [List.length_map,List.length_map],zl,fun i x C h1 h2=>?_,fun u H4 s4 h4=>q u H4 ((s2.trans s3).trans s4) h4⟩
   rw [List.getElem?_map] at h1 h2
   obtain ⟨c,hc,rfl⟩:=Option.map_eq_some_iff.mp h1
   rw [hc] at h2
   cases h2
   have cm:=lz c (List.mem_of_getElem? hc)
   have:=hx.bA c cm
   exact ⟨(hx3.fa c cm).fo,by omega⟩
def spRPrice (K:PySem.W.Frag):Sp:=fun vs H Q _=>∃(t:Addr) (cs:List Nat) (pa pl:Nat→V) (M:Int) (A L:Nat→Int) (z:Str),vs=[.ref t,.str z]∧TgM H t cs pa pl M A L∧WdM cs pl z∧∀u H',Same H H'→FO K H' M (PC A L z) u→Q u H'
theorem scRP:FnScope ["tongue","word"] ["tongue","word"] (defScope sRPrice):=⟨rfl,rfl,rfl,by decide +kernel,rfl,by decide +kernel,by decide +kernel⟩
theorem ok_rprice {f fW fL fP:Addr} {fd fdW fdL fdP:FuncData} (F:FunG K "reckon_price" "reckon_price" sRPrice .none f fd)
  (GP:FnOk P w K mg base (CXE P w) 3 fP fdP ["one","other"] (spTwo K fun a b c d=>a * d + c * b)) (mP:mg "plus" = some (.ref fP)) (kP:PySem.W.keepIn K (.ref fP)=true) (bP:Binds K fdP ["one","other"] [])
  (GW:FnOk P w K mg base (CXE P w) 5 fW fdW ["tongue","text"] (spRWay K)) (mW:mg "reckon_way" = some (.ref fW)) (kW:PySem.W.keepIn K (.ref fW)=true) (bW:Binds K fdW ["tongue","text"] [])
  (GL:FnOk P w K mg base (CXE P w) 1 fL fdL ["tongue"] spLasts) (mL:mg "lasts_of" = some (.ref fL)) (kL:PySem.W.keepIn K (.ref fL)=true) (bL:Binds K fdL ["tongue"] []) :
  FnOk P w K mg base (CXE P w) 6 f fd ["tongue","word"] (spRPrice K):=by
 refine F.zokN scRP (fun vs H Q E h=>?_) (fun cdv A outer s H vs Q E hr h=>?_)
 ·obtain ⟨t,cs,pa,pl,M,A,L,z,rfl,_⟩:=h
  rfl
 ·obtain ⟨t,cs,pa,pl,M,A,L,z,rfl,hx,wz,q⟩:=h
  have hu:=hr.units1
  have hr1:Room 1 _:=hr.mono (by decide)
  have hr3:Room 3 _:=hr.mono (by decide)
  refine ⟨_,(zpss_one (zps_ret (zpe_call GP hr3 (by rfl) mP kP bP .nil passE0 (zpac_f (zpe_call GW hr (by rfl) mW kW bW .nil passE0 (zpac_n (zpv 0) (zpac_s (zpe_slice sl_str (zpv 1) zpo_none (zpo_some (zpe_un un_neg zpe_int))) zpa_nil)))
   (zpac_s (zpe_dget hu (zpe_call GL hr1 (by rfl) mL kL bL .nil passE0 (zpac_n (zpv 0) zpa_nil)) (zpe_ix ix_str (zpv 1) (zpe_un un_neg zpe_int) (fun _ _=>rfl)) (fun _ _=>rfl)) zpa_nil))))),?_⟩
  obtain ⟨lz,z8,z0,c,hc,lr⟩:=wz
  have zz:z.length≤sizeLine:=Nat.le_trans z8 (by decide)
  obtain ⟨c',hc',hat⟩:=at_last z0
  rw [hc] at hc'
  cases hc'
  have cm:c∈cs:=lz c (last_mem hc)
  have kl:=cutS_len z none (some (-1))
  refine ⟨_,rfl,_,rfl,_,rfl,_,rfl,z,rfl,zz,?_⟩
  refine ⟨t,cs,pa,pl,M,A,L,_,rfl,hx,fun d hd=>lz d (by rw [cut_butlast] at hd; exact List.dropLast_subset _ hd),by omega,fun u H1 s1 h1=>?_⟩
  have hx1:=hx.kp (Kp.same s1)
  refine ⟨_,rfl,t,cs,pa,pl,M,A,L,rfl,hx1,fun D kvs H2 hD s2 hD2 ok=>?_⟩
  have hx2:=hx1.kp (Kp.same s2)
  refine ⟨_,rfl,_,rfl,z,-1,c,rfl,rfl,zz,hat,D,pl c,rfl,?_,?_⟩
  ·rw [← ok c cm]
   exact DGet.k (k:=Sum.inr (sg1 c)) hD2
  have fl:=(hx2.fl c cm).resolve_left lr
  obtain ⟨o1,a1,b1,rfl,g1,f1⟩:=h1
  obtain ⟨o2,a2,b2,e2,g2,f2⟩:=fl
  have bw:(z.cps.toList.dropLast.map A).sum≤10 ^ 120∧0≤(z.cps.toList.dropLast.map A).sum:=by
   have:=sumI_bd (z.cps.toList.dropLast.map A) fun C hC=>by
    obtain ⟨d,hd,rfl⟩:=List.mem_map.mp hC
    exact hx.bA d (lz d (List.dropLast_subset _ hd))
   have l:(z.cps.toList.dropLast.map A).length≤8:=by
    rw [List.length_map,List.length_dropLast]
    have:z.cps.toList.length=z.length:=by simp [Str.length]
    omega
   have h3:((z.cps.toList.dropLast.map A).length:Int) * 10 ^ 118≤8 * 10 ^ 118:=Int.mul_le_mul_of_nonneg_right (by omega) (by decide)
   omega
  rw [cut_butlast] at f1
  rw [e2]
  have bl:=hx.bL c cm
  refine ⟨o1,o2,_,_,_,_,rfl,sqT_same s2 g1,SqT.of g2,two_re f1 f2 hx.M0 hx.M1 (by omega) (by omega),fun v n m hv fr=>?_⟩
  refine q (.ref v) _ ((s1.trans s2).trans (same_upd hv)) ⟨v,n,m,rfl,SqT.of upd_same,?_⟩
  have e:PC A L z=(z.cps.toList.dropLast.map A).sum + L c:=by
   unfold PC
   rw [hc]
  rw [e]
  exact frac_add fr f1 f2 hx.M0
end
end G1
namespace L2
open PySem
theorem zpi_zipL {X:Cx} {es:List Expr} {tk:Nat} {tpos:Pos} {a b:Expr} {ta:TA} {p pos:Pos} (hg:Gl X "zip") (hm:X.mg "zip" = none) (ha:SPA X [a,b] ta) (hs:starEach [a,b] X.env=[(false,eval a X.env),(false,eval b X.env)]:=by rfl) (hs2:starEach [b] X.env=[(false,eval b X.env)]:=by rfl) :
  SPI X (.Tuple es tk tpos) (.Call (.Name "zip" p) [a,b] [] pos) (iZipL X.K ta):=⟨pi_zipL hg hm ha.out hs hs2⟩
end L2
namespace G1
open PySem L2 GM
def prodI:List Int→Int
 | []=>1
 | d :: ds=>d * prodI ds
theorem prodI_dvd:∀{ds:List Int} {d:Int},d∈ds→d ∣ prodI ds
 | e :: ds,d,h=>by
  rcases List.mem_cons.mp h with rfl | h
  ·exact Int.dvd_mul_right _ _
  ·exact Int.dvd_trans (prodI_dvd h) (Int.dvd_mul_left _ _)
theorem prodI_bd (B:Int):∀(ds:List Int),(∀d∈ds,1≤d∧d≤B)→1≤prodI ds∧prodI ds≤B ^ ds.length
 | [],_=>by simp [prodI]
 | d :: ds,h=>by
  obtain ⟨h1,h2⟩:=h d List.mem_cons_self
  obtain ⟨h3,h4⟩:=prodI_bd B ds fun e he=>h e (List.mem_cons_of_mem _ he)
  rw [prodI,List.length_cons,Int.pow_succ,Int.mul_comm (B ^ ds.length)]
  refine ⟨?_,Int.mul_le_mul h2 h4 (by omega) (by omega)⟩
  have:=Int.mul_le_mul h1 h3 (by decide) (by omega:(0:Int)≤d)
  simpa using this
def amidV (H:Hp):V→V
 | .ref a=>match H a with
  | some (.tup [_,p,_])=>p
  | _=>.non
 | _=>.non
def fracV (H:Hp):V→Int × Int
 | .ref a=>match H a with
  | some (.tup [.int n,.int d])=>(n,d)
  | _=>(0,1)
 | _=>(0,1)
structure Fine (p:Int × Int):Prop where
 n0:0≤p.1
 n1:p.1≤1000000000
 d0:1≤p.2
 d1:p.2≤1000000000
 low:Nat.gcd p.1.natAbs p.2.natAbs=1
theorem PrA.fine {H:Hp} {x:V} (h:PrA H x):Fine (fracV H x)∧∃a,x = .ref a∧H a=some (.tup [.int (fracV H x).1,.int (fracV H x).2]):=by
 obtain ⟨a,n,d,rfl,ha,n0,d0,g,n1,d1⟩:=h.ex
 have e:fracV H (.ref a)=(n,d):=by simp [fracV,ha]
 rw [e]
 exact ⟨⟨by show 0≤n; omega,n1,by show 1≤d; omega,d1,g⟩,a,rfl,ha⟩
theorem fine_non {H:Hp}:Fine (fracV H .non):=by
 have e:fracV H .non=(0,1):=rfl
 rw [e]
 exact ⟨by decide,by decide,by decide,by decide,by decide⟩
theorem fine_over {p:Int × Int} {M:Int} (f:Fine p) (M0:0 < M) (d:p.2 ∣ M):FracOf (p.1 * (M / p.2)) M p.1 p.2∧0≤p.1 * (M / p.2)∧p.1 * (M / p.2)≤1000000000 * M:=by
 have d0:=f.d0
 have n0:=f.n0
 have e:M=M / p.2 * p.2:=(Int.ediv_mul_cancel d).symm
 have q0:1≤M / p.2:=by
  rcases Int.lt_or_le (M / p.2) 1 with z | z
  ·have h1:M / p.2≤0:=by omega
   have h2:=Int.mul_nonpos_of_nonpos_of_nonneg h1 (show 0≤p.2 by omega)
   omega
  ·exact z
 have qM:M / p.2≤M:=Int.ediv_le_self _ (by omega)
 refine ⟨⟨⟨M / p.2,by omega,Int.mul_comm _ _,e⟩,by omega,f.low,?_,?_⟩,Int.mul_nonneg n0 (by omega),Int.mul_le_mul f.n1 qM (by omega) (by decide)⟩
 ·rw [Int.natAbs_mul]
  exact Nat.le_mul_of_pos_right _ (by omega)
 ·have h:=Int.le_of_dvd M0 d
  omega
theorem wd_st {H:Hp} {xs:List V} {cs:List Nat} {fs ps:List Str} {lg:Int} {z:Str} (h:wdB H xs cs fs ps lg (.str z)=true):stB cs fs ps lg (.str z)=true:=by
 cases e:stB cs fs ps lg (.str z) with
 | true=>rfl
 | false=>rw [wd_no e] at h; cases h
theorem sg_mem {cs:List Nat} {c:Nat}:sg1 c∈sgs cs↔c∈cs:=by
 unfold sgs
 constructor
 ·intro h
  obtain ⟨d,hd,e⟩:=List.mem_map.mp h
  rw [← sg1_inj e]; exact hd
 ·exact fun h=>List.mem_map.mpr ⟨c,h,rfl⟩
theorem wd_in {H:Hp} {xs:List V} {cs:List Nat} {fs ps:List Str} {lg:Int} {z:Str} (h:wdB H xs cs fs ps lg (.str z)=true):∀c∈z.cps.toList,c∈cs:=by
 have:=wd_st h
 simp only [stB,Bool.and_eq_true] at this
 intro c hc
 obtain ⟨i,hi⟩:=List.getElem?_of_mem hc
 have il:i < z.cps.size:=by
  have:=(List.getElem?_eq_some_iff.mp hi).1
  simpa using this
 have h3:=List.all_eq_true.mp this.2 i (List.mem_range.mpr il)
 rw [Array.getElem?_toList] at hi
 unfold okAt at h3
 rw [hi] at h3
 simp only [Bool.and_eq_true,decide_eq_true_eq] at h3
 exact sg_mem.mp h3.1
theorem wd_len {H:Hp} {xs:List V} {cs:List Nat} {fs ps:List Str} {lg:Int} {z:Str} (h:wdB H xs cs fs ps lg (.str z)=true):(z.length:Int)≤lg:=by
 have:=wd_st h
 simp only [stB,Bool.and_eq_true,decide_eq_true_eq] at this
 exact this.1
theorem wd_end {H:Hp} {xs:List V} {cs:List Nat} {fs ps:List Str} {lg:Int} {z:Str} (h:wdB H xs cs fs ps lg (.str z)=true):∃c,z.cps[z.cps.size - 1]? = some c∧endB H xs cs c=true:=by
 have e:wdB H xs cs fs ps lg (.str z)=(stB cs fs ps lg (.str z) && match z.cps[z.cps.size - 1]? with | some c=>endB H xs cs c | none=>false):=rfl
 rw [e,wd_st h,Bool.true_and] at h
 cases q:z.cps[z.cps.size - 1]? with
 | none=>rw [q] at h; cases h
 | some c=>rw [q] at h; exact ⟨c,rfl,h⟩
theorem Tg.m {H:Hp} {t:Addr} {cs:List Nat} {fs ps:List Str} {lg:Int} (h:Tg H t cs fs ps lg) {xs:List V} (tx:TgX H t xs cs):∃pa pl M A L,TgM H t cs pa pl M A L∧∀z,wdB H xs cs fs ps lg (.str z)=true→WdM cs pl z:=by
 obtain ⟨S,F,Pp,lgv,ht,hS⟩:=tx.ex
 have rows:=tx.rows
 have at_:∀{i c:Nat},cs[i]? = some c→cs.idxOf c=i∧∃a p l,xs[i]? = some (.ref a)∧H a=some (.tup [.str (sg1 c),p,l])∧PrA H p∧(l = .non∨PrA H l):=fun {i c} e=>by
  have il:=(List.getElem?_eq_some_iff.mp e).1
  have hx:xs[i]? = some (xs[i]'(by rw [rows.len]; exact il)):=List.getElem?_eq_getElem _
  obtain ⟨a,p,l,ea,ha,hp,hl⟩:=(rows.row i _ c hx e).ex
  refine ⟨?_,a,p,l,by rw [hx,ea],ha,hp,hl⟩
  have m:=List.mem_of_getElem? e
  exact nd_at h.nd (by rw [List.getElem?_eq_getElem (List.idxOf_lt_length_of_mem m),List.getElem_idxOf]) e
 let pa:Nat→V:=fun c=>amidV H (xs.getD (cs.idxOf c) .non)
 let pl:Nat→V:=fun c=>lastV H (xs.getD (cs.idxOf c) .non)
 have pv:∀{i c:Nat},cs[i]? = some c→∃a,xs[i]? = some (.ref a)∧H a=some (.tup [.str (sg1 c),pa c,pl c])∧PrA H (pa c)∧(pl c = .non∨PrA H (pl c)):=fun {i c} e=>by
  obtain ⟨ei,a,p,l,hx,ha,hp,hl⟩:=at_ e
  have e1:pa c=p:=by
   show amidV H (xs.getD (cs.idxOf c) .non)=p
   rw [ei,List.getD_eq_getElem?_getD,hx]; simp [amidV,ha]
  have e2:pl c=l:=by
   show lastV H (xs.getD (cs.idxOf c) .non)=l
   rw [ei,List.getD_eq_getElem?_getD,hx]; simp [lastV,ha]
  rw [e1,e2]
  exact ⟨a,hx,ha,hp,hl⟩
 have pm:∀{c:Nat},c∈cs→PrA H (pa c)∧(pl c = .non∨PrA H (pl c)):=fun {c} hc=>by
  obtain ⟨i,hi⟩:=List.getElem?_of_mem hc
  obtain ⟨_,_,_,r⟩:=pv hi
  exact r
 have f1:∀{c:Nat},c∈cs→Fine (fracV H (pa c)):=fun hc=>(pm hc).1.fine.1
 have f2:∀{c:Nat},c∈cs→Fine (fracV H (pl c)):=fun {c} hc=>by
  rcases (pm hc).2 with e | e
  ·rw [e]; exact fine_non
  ·exact e.fine.1
 let ds:List Int:=cs.map fun c=>(fracV H (pa c)).2 * (fracV H (pl c)).2
 have dsb:∀d∈ds,1≤d∧d≤10 ^ 18:=fun d hd=>by
  obtain ⟨c,hc,rfl⟩:=List.mem_map.mp hd
  have a:=f1 hc
  have b:=f2 hc
  have a0:=a.d0
  have b0:=b.d0
  refine ⟨?_,?_⟩
  ·have:=Int.mul_le_mul a.d0 b.d0 (by decide) (by omega:(0:Int)≤(fracV H (pa c)).2)
   simpa using this
  ·exact Int.le_trans (Int.mul_le_mul a.d1 b.d1 (by omega) (by decide)) (by decide)
 obtain ⟨M0,M1⟩:=prodI_bd (10 ^ 18) ds dsb
 have M2:prodI ds≤10 ^ 108:=by
  refine Int.le_trans M1 ?_
  have l6:ds.length≤6:=by show (cs.map _).length≤6; rw [List.length_map]; exact h.c6
  rw [← Int.pow_mul]
  have k:=Nat.pow_le_pow_right (n:=10) (by decide) (show 18 * ds.length≤108 by omega)
  have a:((10 ^ (18 * ds.length):Nat):Int)=(10:Int) ^ (18 * ds.length):=Int.natCast_pow 10 _
  have b:((10 ^ 108:Nat):Int)=(10:Int) ^ 108:=Int.natCast_pow 10 _
  rw [← a,← b]
  exact Int.ofNat_le.mpr k
 have dA:∀{c:Nat},c∈cs→(fracV H (pa c)).2 ∣ prodI ds:=fun {c} hc=>Int.dvd_trans (Int.dvd_mul_right _ _) (prodI_dvd (List.mem_map.mpr ⟨c,hc,rfl⟩))
 have dL:∀{c:Nat},c∈cs→(fracV H (pl c)).2 ∣ prodI ds:=fun {c} hc=>Int.dvd_trans (Int.dvd_mul_left _ _) (prodI_dvd (List.mem_map.mpr ⟨c,hc,rfl⟩))
 have big_:(1000000000:Int) * prodI ds≤10 ^ 118:=Int.le_trans (Int.mul_le_mul_of_nonneg_left M2 (by decide)) (by decide)
 refine ⟨pa,pl,prodI ds,fun c=>(fracV H (pa c)).1 * (prodI ds / (fracV H (pa c)).2),fun c=>(fracV H (pl c)).1 * (prodI ds / (fracV H (pl c)).2),⟨⟨S,F,Pp,lgv,xs,ht,hS,rows.len,fun i c e=>?_⟩,fun c hc=>?_,fun c hc=>?_,h.nd,h.c6,by omega,M2,fun c hc=>?_,fun c hc=>?_⟩,fun z hz=>?_⟩
 ·obtain ⟨a,hx,ha,_⟩:=pv e
  exact ⟨a,hx,ha⟩
 ·obtain ⟨_,a,e,ha⟩:=(pm hc).1.fine
  exact ⟨a,_,_,e,ha,(fine_over (f1 hc) (by omega) (dA hc)).1⟩
 ·rcases (pm hc).2 with e | e
  ·exact .inl e
  ·obtain ⟨_,a,ea,ha⟩:=e.fine
   exact .inr ⟨a,_,_,ea,ha,(fine_over (f2 hc) (by omega) (dL hc)).1⟩
 ·have:=(fine_over (f1 hc) (by omega) (dA hc)).2
  exact ⟨this.1,Int.le_trans this.2 big_⟩
 ·have:=(fine_over (f2 hc) (by omega) (dL hc)).2
  exact ⟨this.1,Int.le_trans this.2 big_⟩
 ·obtain ⟨c,ec,en⟩:=wd_end hz
  have l:=wd_len hz
  have l8:=h.l8
  have ci:c∈cs:=wd_in hz c (last_mem ec)
  refine ⟨wd_in hz,by omega,by have:=(Array.getElem?_eq_some_iff.mp ec).1; omega,c,ec,fun ne=>?_⟩
  obtain ⟨i,hi⟩:=List.getElem?_of_mem ci
  have il:=(List.getElem?_eq_some_iff.mp hi).1
  have hx:xs[i]? = some (xs[i]'(by rw [rows.len]; exact il)):=List.getElem?_eq_getElem _
  rw [endB_at h.nd hx hi] at en
  have e2:pl c=lastV H (xs[i]'(by rw [rows.len]; exact il)):=by
   show lastV H (xs.getD (cs.idxOf c) .non)=_
   rw [(at_ hi).1,List.getD_eq_getElem?_getD,hx]; rfl
  rw [e2] at ne
  rw [ne] at en
  revert en; decide
structure Wt (H:Hp) (a:Addr) (ws:List (Str × Int)):Prop where
 ex:∃ts:List Addr,H a=some (.lst (ts.map V.ref))∧ts.length=ws.length∧∀(i:Nat) (b:Addr) (p:Str × Int),ts[i]? = some b→ws[i]? = some p→H b=some (.tup [.str p.1,.int p.2])
 nd:(ws.map (·.1)).Nodup
 nm:∀p∈ws,nameB (.str p.1)=true∧p.1.length≤8
 ct:∀p∈ws,0≤p.2∧p.2≤1000000000
 l1:1≤ws.length
 l20:ws.length≤20
theorem Wt.kp {H H':Hp} {a:Addr} {ws:List (Str × Int)} (h:Wt H a ws) (k:Kp H H'):Wt H' a ws:=by
 obtain ⟨ts,h1,h2,h3⟩:=h.ex
 exact {h with ex:=⟨ts,k.lst h1,h2,fun i b p e1 e2=>k.tup (h3 i b p e1 e2)⟩}
theorem okW_tup {H:Hp} {a:Addr} {s:Str} {c:Int} (h:H a=some (.tup [.str s,.int c])) (n:nameB (.str s)=true) (c0:0≤c) (c1:c≤wM):okW H (.ref a)=true∧nmS H (.ref a)=s:=by
 constructor
 ·unfold okW
  rw [pairOf_tup h]
  show (nameB (.str s) && (decide (0≤c) && decide (c≤wM)))=true
  rw [n,decide_eq_true c0,decide_eq_true c1]; rfl
 ·unfold nmS
  rw [pairOf_tup h]
theorem Wt.at {H:Hp} {a:Addr} {ws:List (Str × Int)} (h:Wt H a ws):∃xs:List V,H a=some (.lst xs)∧xs.length=ws.length∧∀(i:Nat) (x:V) (p:Str × Int),xs[i]? = some x→ws[i]? = some p→∃b,x = .ref b∧H b=some (.tup [.str p.1,.int p.2]):=by
 obtain ⟨ts,h1,h2,h3⟩:=h.ex
 refine ⟨ts.map V.ref,h1,by rw [List.length_map]; exact h2,fun i x p e1 e2=>?_⟩
 rw [List.getElem?_map] at e1
 obtain ⟨b,hb,rfl⟩:=Option.map_eq_some_iff.mp e1
 exact ⟨b,rfl,h3 i b p hb e2⟩
theorem Wt.out {H:Hp} {L:Addr} {ws:List (Str × Int)} (h:Wt H L ws):outW H (.ref L)=none:=by
 obtain ⟨xs,h1,h2,h3⟩:=h.at
 have l1:=h.l1
 have l20:=h.l20
 rw [outW_lst h1,if_pos (by omega)]
 have el:∀(j:Nat) (y:V),xs[j]? = some y→∃p,ws[j]? = some p∧okW H y=true∧nmS H y=p.1:=fun j y e=>by
  have jl:=(List.getElem?_eq_some_iff.mp e).1
  have ep:ws[j]? = some (ws[j]'(by omega)):=List.getElem?_eq_getElem _
  obtain ⟨b,rfl,hb⟩:=h3 j y _ e ep
  have m:=List.mem_of_getElem? ep
  have:=h.ct _ m
  exact ⟨_,ep,okW_tup hb (h.nm _ m).1 this.1 this.2⟩
 have all:∀j,j≤xs.length→bA H xs 0=bA H xs j:=by
  intro j
  induction j with
  | zero=>intro _; rfl
  | succ j ih=>
   intro hj
   rw [ih (by omega)]
   have e:xs[j]? = some xs[j]:=List.getElem?_eq_getElem (by omega)
   obtain ⟨p,ep,o1,o2⟩:=el j _ e
   suffices nm:nmS H xs[j]∉nms H xs j by rw [bA_step e,if_pos ⟨o1,nm⟩]
   rw [o2]
   intro mem
   unfold nms at mem
   obtain ⟨y,hy,ey⟩:=List.mem_map.mp mem
   obtain ⟨m,hm⟩:=List.getElem?_of_mem hy
   have ml:=(List.getElem?_eq_some_iff.mp hm).1
   rw [List.length_take] at ml
   rw [List.getElem?_take_of_lt (by omega)] at hm
   obtain ⟨p',ep',_,o2'⟩:=el m y hm
   rw [o2'] at ey
   have nd:=h.nd
   have q1:(ws.map (·.1))[j]? = some p.1:=by rw [List.getElem?_map,ep]; rfl
   have q2:(ws.map (·.1))[m]? = some p.1:=by rw [List.getElem?_map,ep',← ey]; rfl
   obtain ⟨a1,b1⟩:=List.getElem?_eq_some_iff.mp q1
   obtain ⟨a2,b2⟩:=List.getElem?_eq_some_iff.mp q2
   have:=(List.getElem_inj (h₀:=a2) (h₁:=a1) nd).mp (by rw [b1,b2])
   omega
 rw [all xs.length (Nat.le_refl _),bA_end]; rfl
theorem Wt.thw {H:Hp} {L:Addr} {ws:List (Str × Int)} (h:Wt H L ws):ThW H (.ref L):=by
 obtain ⟨xs,h1,h2,h3⟩:=h.at
 refine ⟨.lst h1,fun a ys e e' y hy=>?_⟩
 cases e
 rw [h1] at e'; cases e'
 obtain ⟨i,hi⟩:=List.getElem?_of_mem hy
 have il:=(List.getElem?_eq_some_iff.mp hi).1
 have ep:ws[i]? = some (ws[i]'(by omega)):=List.getElem?_eq_getElem _
 obtain ⟨b,rfl,e2⟩:=h3 i y _ hi ep
 have n8:=(h.nm _ (List.mem_of_getElem? ep)).2
 refine ⟨.tup e2,fun b zs f f' z hz=>?_⟩
 cases f
 rw [e2] at f'; cases f'
 rcases List.mem_cons.mp hz with rfl | hz
 ·exact ⟨.str _,fun x ex=>by injection ex with ex; rw [← ex]; exact Nat.le_trans n8 (by decide)⟩
 ·rw [List.mem_singleton.mp hz]; exact ⟨.int _,nofun⟩
def costs (A L:Nat→Int) (ws:List (Str × Int)) (zs:List Str):List Int:=(ws.zip zs).map fun p=>p.1.2 * PC A L p.2
theorem costs_len {A L:Nat→Int} {ws:List (Str × Int)} {zs:List Str} (h:zs.length=ws.length):(costs A L ws zs).length=ws.length:=by
 unfold costs
 rw [List.length_map,List.length_zip,h,Nat.min_self]
theorem costs_at {A L:Nat→Int} {ws:List (Str × Int)} {zs:List Str} {i:Nat} {p:Str × Int} {z:Str} (h1:ws[i]? = some p) (h2:zs[i]? = some z):(costs A L ws zs)[i]? = some (p.2 * PC A L z):=by
 unfold costs
 have e:(ws.zip zs)[i]? = some (p,z):=List.getElem?_zip_eq_some.mpr ⟨h1,h2⟩
 rw [List.getElem?_map,e]; rfl
theorem PC_bd {H:Hp} {t:Addr} {cs:List Nat} {pa pl:Nat→V} {M:Int} {A L:Nat→Int} {z:Str} (h:TgM H t cs pa pl M A L) (wz:WdM cs pl z):0≤PC A L z∧PC A L z≤10 ^ 119:=by
 obtain ⟨lz,z8,z0,c,hc,_⟩:=wz
 have cm:c∈cs:=lz c (last_mem hc)
 have s:=sumI_bd (z.cps.toList.dropLast.map A) fun C hC=>by
  obtain ⟨d,hd,rfl⟩:=List.mem_map.mp hC
  exact h.bA d (lz d (List.dropLast_subset _ hd))
 have l:(z.cps.toList.dropLast.map A).length≤8:=by
  rw [List.length_map,List.length_dropLast]
  have:z.cps.toList.length=z.length:=by simp [Str.length]
  omega
 have h3:((z.cps.toList.dropLast.map A).length:Int) * 10 ^ 118≤8 * 10 ^ 118:=Int.mul_le_mul_of_nonneg_right (by omega) (by decide)
 have bl:=h.bL c cm
 have e:PC A L z=(z.cps.toList.dropLast.map A).sum + L c:=by
  unfold PC
  rw [hc]
 rw [e]
 omega
theorem cost_bd {k C:Int} (k0:0≤k) (k1:k≤1000000000) (c:0≤C∧C≤10 ^ 119):0≤k * C∧k * C≤10 ^ 128:=
 ⟨Int.mul_nonneg k0 c.1,Int.le_trans (Int.mul_le_mul k1 c.2 c.1 (by decide)) (by decide)⟩
section
variable {P:Program} {w:World} {K:PySem.W.Frag} {mg:Str→Option Value} {base:Heap}
def spCost (K:PySem.W.Frag) (T1 T2:Addr):Sp:=fun vs H Q _=>∃(t W Bk:Addr) (cs:List Nat) (fs ps:List Str) (lg:Int) (pa pl:Nat→V) (M:Int) (A L:Nat→Int) (ws:List (Str × Int)) (zs:List Str),vs=[.ref t,.ref W,.ref Bk]∧Tg H t cs fs ps lg∧TgM H t cs pa pl M A L∧Wt H W ws∧H Bk=some (.lst (txs zs))∧zs.length=ws.length∧(∀z∈zs,WdM cs pl z)∧Tab T1 H∧Tab T2 H∧
 ∀u H',Kp H H'→Tab T1 H'→Tab T2 H'→FO K H' M (costs A L ws zs).sum u→Q u H'
theorem scCst:FnScope ["tongue","wants","book"] ["tongue","wants","book"] (defScope sCost):=⟨rfl,rfl,rfl,by decide +kernel,rfl,by decide +kernel,by decide +kernel⟩
theorem ok_cost {C T1 T2:Addr} {f fL fW fX fF fR fS:Addr} {fd fdL fdW fdX fdF fdR fdS:FuncData} (F:FunG K "cost_of" "cost_of" sCost .none f fd) (mzip:mg "zip" = none)
  (GL:FnOk P w K mg base (CXE P w) 7 fL fdL ["thing"] (spLook T1 T2 [])) (mL:mg "look_at_tongue" = some (.ref fL)) (kL:PySem.W.keepIn K (.ref fL)=true) (bL:Binds K fdL ["thing"] [])
  (GW:FnOk P w K mg base (CXE P w) 5 fW fdW ["thing"] (spLookWs C T1)) (mW:mg "look_at_wants" = some (.ref fW)) (kW:PySem.W.keepIn K (.ref fW)=true) (bW:Binds K fdW ["thing"] [])
  (GX:FnOk P w K mg base (CXE P w) 3 fX fdX ["one","other"] (spTwo K fun a b c d=>a * c)) (mX:mg "times" = some (.ref fX)) (kX:PySem.W.keepIn K (.ref fX)=true) (bX:Binds K fdX ["one","other"] [])
  (GF:FnOk P w K mg base (CXE P w) 2 fF fdF ["top","bottom"] spFr) (mF:mg "fraction" = some (.ref fF)) (kF:PySem.W.keepIn K (.ref fF)=true) (bF:Binds K fdF ["top","bottom"] [])
  (GR:FnOk P w K mg base (CXE P w) 6 fR fdR ["tongue","word"] (spRPrice K)) (mR:mg "reckon_price" = some (.ref fR)) (kR:PySem.W.keepIn K (.ref fR)=true) (bR:Binds K fdR ["tongue","word"] [])
  (GS:FnOk P w K mg base (CXE P w) 4 fS fdS ["some"] (spSum K)) (mS:mg "sum_of" = some (.ref fS)) (kS:PySem.W.keepIn K (.ref fS)=true) (bS:Binds K fdS ["some"] []) {tk1:Tok} (dF:Binds K fdF ["top","bottom"] [.int 1 tk1]):FnOk P w K mg base (CXE P w) 8 f fd ["tongue","wants","book"] (spCost K T1 T2):=by
 refine F.zokN scCst (fun vs H Q E h=>?_) (fun cdv A outer s H vs Q E hr h=>?_)
 ·obtain ⟨t,W,Bk,cs,fs,ps,lg,pa,pl,M,A,L,ws,zs,rfl,_⟩:=h
  rfl
 ·obtain ⟨t,W,Bk,cs,fs,ps,lg,pa,pl,M,A,L,ws,zs,rfl,tg,tm,wt,hB,zl,wz,h1,h2,q⟩:=h
  refine ⟨_,(zpss_cons (zps_expr (zpe_call GL hr (by rfl) mL kL bL .nil passE0 (zpac_n (zpv 0) zpa_nil)))
   (zpss_cons (zps_expr (zpe_call GW (hr.mono (by decide)) (by rfl) mW kW bW .nil passE0 (zpac_n (zpv 1) zpa_nil)))
   (zpss_one (zps_ret (zpe_call GS (hr.mono (by decide)) (by rfl) mS kS bS .nil passE0 (zpac_x (zpe_compL ["tongue","wants","book"] ["want","word"] [0] (defScope sCost) rfl rfl rfl ⟨by decide +kernel,by decide +kernel,by decide +kernel,by decide +kernel,by decide +kernel⟩ (zpi_zipL (by rfl) mzip (zpac_n (zpv 1) (zpac_n (zpv 2) zpa_nil))) (fun s H fp=>(zpg_tupK K 2 rfl rfl (zpgs_cons (zpg_name (i:=0) (show List.Nodup [("want" : Str),"word","tongue"] by decide +kernel) rfl (Or.inl rfl)) (zpgs_cons (zpg_name (i:=1) (show List.Nodup [("want" : Str),"word","tongue"] by decide +kernel) rfl (Or.inl rfl)) zpgs_nil)))) (fun s H fp=>zpts_nil) (fun s H fp=>(zpe_call GX (hr.mono (by decide)) (by rfl) mX kX bX .nil passE0 (zpac_f (zpe_call GF (hr.mono (by decide)) (by rfl) mF kF dF (.cons (a:=V.int 1) ⟨_,rfl⟩ .nil) passE0 (zpac_s (zpe_ix (ix_tupK K rfl) (zpv 0) zpe_int (fun _ _=>rfl)) zpa_nil)) (zpac_f (zpe_call GR (hr.mono (by decide)) (by rfl) mR kR bR .nil passE0 (zpac_n (zpv 2) (zpac_n (zpv 1) zpa_nil))) zpa_nil))))) zpa_nil)))))),?_⟩
  refine ⟨_,rfl,t,cs,fs,ps,lg,rfl,tg,h1,⟨h2,nofun⟩,fun H1 k1 a1 b1=>?_⟩
  refine ⟨_,rfl,.ref W,rfl,(wt.kp k1).thw,a1,fun _ H2 k2 tb=>?_,fun v e=>?_⟩
  ·have k02:=k1.trans k2
   have wt2:=wt.kp k02
   have tm2:=tm.kp k02
   have hB2:=k02.lst hB
   have a2:=tb _ a1
   have b2:=tb _ b1.h
   obtain ⟨xs,hW,xl,hx⟩:=wt2.at
   have l20:=wt.l20
   refine ⟨_,rfl,_,rfl,W,Bk,rfl,⟨_,SqL.of hW⟩,⟨_,SqL.of hB2⟩,?_⟩
   (intro l gl; generalize hEq:upd _ l _=H3; refine newC hEq gl ?_; clear hEq; intro S3 el o3)
   refine lr_zipL (K:=K) (a:=W) (b:=Bk) (xs:=xs) (ys:=txs zs) (fun i σ H'=>(∃v w,σ=[v,w,some (.ref t)])∧Same H2 H'∧∃us,H' l=some (.lst us)∧us.length=i∧∀(j:Nat) (x:V) (C:Int),us[j]? = some x→(costs A L ws zs)[j]? = some C→FO K H' M C x) ⟨⟨_,_,rfl⟩,S3,[],el,rfl,fun j x C e=>by simp at e⟩ (by unfold txs; rw [List.length_map]; omega) ?_ ?_ ?_
   ·rintro i σ H' ⟨_,k,_⟩
    exact ⟨SqL.of (k _ _ hW),SqL.of (k _ _ hB2)⟩
   ·rintro i x y tt σ H' Cn hxi hyi gt ⟨⟨v,w,rfl⟩,k,us,hu,ul,uf⟩ nx
    have il:=(List.getElem?_eq_some_iff.mp hxi).1
    have ep:ws[i]? = some (ws[i]'(by omega)):=List.getElem?_eq_getElem _
    generalize ws[i]'(by omega)=pp at ep
    obtain ⟨b,rfl,hb⟩:=hx i x pp hxi ep
    obtain ⟨z,hz,rfl⟩:∃z,zs[i]? = some z∧y = .str z:=by
     unfold txs at hyi
     rw [List.getElem?_map] at hyi
     obtain ⟨z,e1,e2⟩:=Option.map_eq_some_iff.mp hyi
     exact ⟨z,e1,e2.symm⟩
    obtain ⟨c0,c1⟩:=wt.ct pp (List.mem_of_getElem? ep)
    have wzz:=wz z (List.mem_of_getElem? hz)
    have k4:Same H' (upd H' tt (.tup [.ref b,.str z])):=same_upd gt
    have et:(upd H' tt (.tup [.ref b,.str z])) tt=some (.tup [.ref b,.str z]):=upd_same
    generalize upd H' tt (.tup [.ref b,.str z])=H4 at k4 et
    have S4:=k.trans k4
    refine ⟨tt,_,rfl,SqT.of et,rfl,_,_,rfl,_,_,rfl,rfl,?_⟩
    refine ⟨_,rfl,b,_,_,.int pp.2,rfl,rfl,SqT.of (S4 _ _ hb),rfl,pp.2,1,rfl,by decide,by decide +kernel,fun u n m hu' fr=>?_⟩
    obtain ⟨rfl,rfl⟩:=frac_one fr
    have S5:=S4.trans (same_upd (o:=.tup [.int pp.2,.int 1]) hu')
    have eu:(upd H4 u (.tup [.int pp.2,.int 1])) u=some (.tup [.int pp.2,.int 1]):=upd_same
    have k5:=k4.trans (same_upd (o:=.tup [.int pp.2,.int 1]) hu')
    generalize upd H4 u (.tup [.int pp.2,.int 1])=H5 at S5 eu k5
    refine ⟨_,rfl,_,rfl,t,cs,pa,pl,M,A,L,z,rfl,tm2.kp (.same S5),wzz,fun r H6 s6 fo=>?_⟩
    obtain ⟨o2,a2',b2',rfl,g2,f2⟩:=fo
    have pb:=PC_bd tm wzz
    have M0:=tm.M0
    have tw:Two pp.2 1 a2' b2':=by
     have f1:FracOf (pp.2 * M) M pp.2 1:=⟨⟨M,by omega,Int.mul_comm _ _,by rw [Int.mul_one]⟩,by decide,by simp,by
      rw [Int.natAbs_mul]
      exact Nat.le_mul_of_pos_right _ (by omega),by
      show 1≤M.natAbs
      omega⟩
     have M1:=tm.M1
     have:pp.2 * M≤1000000000 * 10 ^ 108:=Int.mul_le_mul c1 M1 (by omega) (by decide)
     have p0:0≤pp.2 * M:=Int.mul_nonneg c0 (by omega)
     exact two_re f1 f2 tm.M0 tm.M1 (by omega) (by omega)
    refine ⟨u,o2,_,_,_,_,rfl,SqT.of (s6 _ _ eu),g2,tw,fun r n m hr fr=>?_⟩
    have fin:FracOf (pp.2 * PC A L z) M n m:=frac_mul fr rfl f2 tm.M0
    have k7:=(k5.trans s6).trans (same_upd (o:=.tup [.int n,.int m]) hr)
    have er:(upd H6 r (.tup [.int n,.int m])) r=some (.tup [.int n,.int m]):=upd_same
    have gl7:∀{b:Addr} {o:HO},H2 b=some o→b≠l:=fun e=>ne_of_none e gl
    refine ⟨us,k7 _ _ hu,Nat.lt_of_le_of_lt (show us.length≤20 by omega) (by decide),nx _ _ ⟨⟨_,_,rfl⟩,fun c o e=>?_,us ++ [.ref r],upd_same,by rw [List.length_append,ul]; rfl,fun j x C e1 e2=>?_⟩⟩
    ·rw [upd_ne (gl7 e)]; exact k7 _ _ (k _ _ e)
    ·have lk:∀{p:Addr} {ys:List V},SqT K (upd H6 r (.tup [.int n,.int m])) p ys→SqT K (upd (upd H6 r (.tup [.int n,.int m])) l (.lst (us ++ [.ref r]))) p ys:=fun {p ys} h=>by
      rcases h with (h | ⟨o,h⟩) | h
      ·exact .inl (.inl (by rw [upd_ne (fun q=>by rw [q,k7 _ _ hu] at h; cases h)]; exact h))
      ·exact .inl (.inr ⟨o,by rw [upd_ne (fun q=>by rw [q,k7 _ _ hu] at h; cases h)]; exact h⟩)
      ·exact .inr h
     by_cases jl:j < us.length
     ·rw [List.getElem?_append_left jl] at e1
      obtain ⟨o,n',m',ex,g,f⟩:=(uf j x C e1 e2).same k7
      exact ⟨o,n',m',ex,lk g,f⟩
     ·rw [List.getElem?_append_right (by omega)] at e1
      have ej:j=i:=by
       have:=(List.getElem?_eq_some_iff.mp e1).1
       simp at this; omega
      subst ej
      rw [ul,Nat.sub_self] at e1
      cases e1
      rw [costs_at ep hz] at e2
      cases e2
      exact ⟨r,n,m,rfl,lk (SqT.of er),fin⟩
   ·rintro σ H' ⟨_,k,us,hu,ul,uf⟩
    refine ⟨l,us,costs A L ws zs,M,rfl,hu,tm.M0,tm.M1,by rw [costs_len zl]; omega,by omega,fun i x C e1 e2=>⟨uf i x C e1 e2,?_⟩,fun u H'' s'' fo=>q u H'' ((k02.trans (.same k)).trans (.same s'')) ((a2.same k).same s'') ((b2.same k).same s'') fo⟩
    have il:i < ws.length:=by
     have:=(List.getElem?_eq_some_iff.mp e1).1
     omega
    have ep:ws[i]? = some ws[i]:=List.getElem?_eq_getElem il
    have ez:zs[i]? = some (zs[i]'(by omega)):=List.getElem?_eq_getElem _
    rw [costs_at ep ez] at e2
    cases e2
    have:=wt.ct _ (List.mem_of_getElem? ep)
    have:=cost_bd this.1 this.2 (PC_bd tm (wz _ (List.mem_of_getElem? ez)))
    omega
  ·rw [(wt.kp k1).out] at e; cases e
end
def kvF (cs:List Nat) (f:Nat→V):List (Key × V):=cs.map fun c=>((Sum.inr (sg1 c):Key),f c)
theorem kvF_all {cs:List Nat} {f:Nat→V} (nd:cs.Nodup):putAll (kvF cs f)=kvF cs f∧∀c∈cs,valV (kvF cs f) (Sum.inr (sg1 c):Key)=some (f c):=by
 have keys:(kvF cs f).map (·.1)=cs.map fun c=>(Sum.inr (sg1 c):Key):=by unfold kvF; rw [List.map_map]; rfl
 have knd:((kvF cs f).map (·.1)).Nodup:=by
  rw [keys]
  exact List.Pairwise.map _ (fun a b h e=>h (sg1_inj (Sum.inr.inj e))) nd
 refine ⟨?_,fun c hc=>?_⟩
 ·have:=putAll_nd (kvF cs f) [] knd fun k _=>valV_nil k
  rw [List.nil_append] at this
  exact this
 ·obtain ⟨i,hi⟩:=List.getElem?_of_mem hc
  exact val_mem (i:=i) knd (by unfold kvF; rw [List.getElem?_map,hi]; rfl)
theorem pairs_lr {K:PySem.W.Frag} {H H1:Hp} {S l:Addr} {xs:List V} {cs:List Nat} {pa pl f:Nat→V} {k:Int} {v0:Option V} {N:St→Hp→Prop} (hS:H S=some (.lst xs)) (xl:xs.length=cs.length) (c6:cs.length≤6)
  (ex:∀(i c:Nat),cs[i]? = some c→∃a,xs[i]? = some (.ref a)∧H a=some (.tup [.str (sg1 c),pa c,pl c])) (hk:∀c,atI [V.str (sg1 c),pa c,pl c] k=some (f c)) (gl:H l=none) (S1:Same H H1) (e1:H1 l=some (.lst []))
  (fin:∀σ H' (ts:List Addr),Same H H'→H' l=some (.lst (ts.map V.ref))→ts.length=(kvF cs f).length→(∀(j:Nat) (a:Addr) (k:Key) (v:V),ts[j]? = some a→(kvF cs f)[j]? = some (k,v)→H' a=some (.tup [kV k,v]))→N σ H') :
  LR (Itl K S) (gName 0) (fun _ H Q=>Q true H) (tEmL l (tTup (tCons (tOp (rIxT K) (tVar 0) (tC (.int 0))) (tCons (tOp (rIxT K) (tVar 0) (tC (.int k))) tNil)))) [v0] H1 N:=by
 refine lr_list (K:=K) (S:=S) (xs:=xs) (fun i σ H2=>(∃v,σ=[v])∧Same H H2∧∃ts:List Addr,H2 l=some (.lst (ts.map V.ref))∧ts.length=i∧∀(j:Nat) (a:Addr) (c:Nat),ts[j]? = some a→cs[j]? = some c→H2 a=some (.tup [.str (sg1 c),f c])) ⟨⟨_,rfl⟩,S1,[],e1,rfl,fun j a c h=>by simp at h⟩ (fun i σ H2 p=>SqL.of (p.2.1 _ _ hS)) ?_ ?_
 ·rintro i x σ H2 C hi ⟨⟨v,rfl⟩,k2,ts,hl,tl,ok⟩ nx
  have il:=(List.getElem?_eq_some_iff.mp hi).1
  obtain ⟨c,hc⟩:∃c,cs[i]? = some c:=⟨_,List.getElem?_eq_getElem (show i < cs.length by omega)⟩
  obtain ⟨a,ea,ha⟩:=ex i c hc
  rw [hi] at ea
  cases ea
  have ha2:=k2 _ _ ha
  refine ⟨_,rfl,a,_,_,_,rfl,rfl,SqT.of ha2,rfl,_,rfl,a,_,_,_,rfl,rfl,SqT.of ha2,hk c,by show 2≤sizeLine; decide,?_⟩
  (intro u gu; generalize hEq:upd _ u _=H3; refine newC hEq gu ?_; clear hEq; intro S3 e3 o3)
  have hl3:=S3 _ _ hl
  refine ⟨_,hl3,by rw [List.length_map,tl]; exact Nat.lt_of_lt_of_le (show i < 7 by omega) (by decide),nx _ _ ⟨⟨_,rfl⟩,fun b o e=>?_,ts ++ [u],?_,by rw [List.length_append,tl]; rfl,fun j b d hj hd=>?_⟩⟩
  ·rw [upd_ne (ne_of_none e gl)]; exact S3 _ _ (k2 _ _ e)
  ·rw [List.map_append]; exact upd_same
  ·have nl:∀{d:Addr} {ys:List V},H3 d=some (.tup ys)→d≠l:=fun h z=>by rw [z,hl3] at h; cases h
   by_cases jl:j < ts.length
   ·rw [List.getElem?_append_left jl] at hj
    have f4:=S3 _ _ (ok j b d hj hd)
    rw [upd_ne (nl f4)]; exact f4
   ·have jlt:=(List.getElem?_eq_some_iff.mp hj).1
    rw [List.length_append] at jlt
    have je:j=ts.length:=by simp at jlt; omega
    subst je
    rw [List.getElem?_append_right (Nat.le_refl _)] at hj
    simp at hj
    subst hj
    rw [tl,hc] at hd
    cases hd
    rw [upd_ne (nl e3)]; exact e3
 ·rintro σ1 H2 ⟨_,k2,ts,hl2,tl,ok⟩
  refine fin σ1 H2 ts k2 hl2 (by unfold kvF; rw [List.length_map]; omega) fun j a k v e5 e6=>?_
  unfold kvF at e6
  rw [List.getElem?_map] at e6
  obtain ⟨c,hc,e⟩:=Option.map_eq_some_iff.mp e6
  cases e
  exact ok j a c e5 hc
theorem frac_nn {C M n m:Int} (h:FracOf C M n m) (M0:0 < M) (C0:0≤C):0≤n:=by
 have e:=frac_eqn h
 have p:=h.pos
 have:0≤n * M:=by rw [e]; exact Int.mul_nonneg (by omega) C0
 rcases Int.lt_or_le n 0 with z | z
 ·have:=Int.mul_neg_of_neg_of_pos z M0
  omega
 ·exact z
theorem frac_step {S C D M k n m pn pd n2 m2:Int} (fr:FracOf (n * pd + k * pn * m) (m * pd) n2 m2) (h1:FracOf (S + k * C) M n m) (h2:FracOf D M pn pd) (M0:0 < M):FracOf (S + k * (C + D)) M n2 m2:=by
  have p1:=h1.pos
  have p2:=h2.pos
  refine frac_re fr (Int.ne_of_gt (Int.mul_pos p1 p2)) M0 ?_
  have e1:=frac_eqn h1
  have e2:=frac_eqn h2
  calc (n * pd + k * pn * m) * M=(n * M) * pd + k * (pn * M) * m:=by
        rw [Int.add_mul,Int.mul_right_comm n,Int.mul_right_comm (k * pn),Int.mul_assoc k pn M]
    _=(m * (S + k * C)) * pd + k * (pd * D) * m:=by rw [e1,e2]
    _=m * pd * (S + k * C) + m * pd * (k * D):=by
        rw [Int.mul_right_comm m (S + k * C) pd]
        congr 1
        rw [Int.mul_comm (k * (pd * D)) m,← Int.mul_assoc k pd D,Int.mul_comm k pd,Int.mul_assoc pd k D,← Int.mul_assoc m pd]
    _=m * pd * (S + k * (C + D)):=by rw [← Int.mul_add,Int.mul_add k,Int.add_assoc]
section
variable {P:Program} {w:World} {K:PySem.W.Frag} {mg:Str→Option Value} {base:Heap}
def spLCost (K:PySem.W.Frag):Sp:=fun vs H Q _=>∃(t W Bk:Addr) (cs:List Nat) (pa pl:Nat→V) (M:Int) (A L:Nat→Int) (ws:List (Str × Int)) (zs:List Str),vs=[.ref t,.ref W,.ref Bk]∧TgM H t cs pa pl M A L∧Wt H W ws∧H Bk=some (.lst (txs zs))∧zs.length=ws.length∧(∀z∈zs,WdM cs pl z)∧
 ∀u H',Same H H'→FP H' M (costs A L ws zs).sum u→Q u H'
theorem scLc:FnScope ["_law_tongue_here","_law_wants_here","_law_book_here","_law_amid","_law_ends","_law_top","_law_bottom","_law_k","_law_price_here"] ["_law_tongue_here","_law_wants_here","_law_book_here"] (defScope sLCost):=⟨rfl,rfl,rfl,by decide +kernel,rfl,by decide +kernel,by decide +kernel⟩
theorem ok_lcost {f fL:Addr} {fd fdL:FuncData} (F:FunG K "_law_cost" "_law_cost" sLCost .none f fd) (B:Bl mg) (mdict:mg "dict" = none)
  (GL:FnOk P w K mg base (CXE P w) 1 fL fdL ["_law_top","_law_bottom"] spLow) (mL:mg "_law_low" = some (.ref fL)) (kL:PySem.W.keepIn K (.ref fL)=true) (bL:Binds K fdL ["_law_top","_law_bottom"] []):FnOk P w K mg base (CXE P w) 2 f fd ["_law_tongue_here","_law_wants_here","_law_book_here"] (spLCost K):=by
 refine F.zokN scLc (fun vs H Q E h=>?_) (fun cdv A outer s H vs Q E hr h=>?_)
 ·obtain ⟨t,W,Bk,cs,pa,pl,M,A,L,ws,zs,rfl,_⟩:=h
  rfl
 ·obtain ⟨t,W,Bk,cs,pa,pl,M,A,L,ws,zs,rfl,tm,wt,hB,zl,wz,q⟩:=h
  refine ⟨_,(zpss_cons (zps_set (i:=3) scLc.nd rfl (Or.inr rfl) (zpe_callTy (call_dictP rfl) (by rfl) mdict boot_dict (zpac_x (zpe_compL ["_law_tongue_here","_law_wants_here","_law_book_here","_law_amid","_law_ends","_law_top","_law_bottom","_law_k","_law_price_here"] ["_law_row"] [] (defScope sLCost) rfl rfl rfl ⟨by decide +kernel,by decide +kernel,by decide +kernel,by decide +kernel,by decide +kernel⟩ (zpi_list (zpe_ix ix_tup (zpv 0) zpe_int (fun _ _=>rfl))) (fun s H fp=>(zpg_name (i:=0) (show List.Nodup [("_law_row" : Str)] by decide +kernel) rfl (Or.inl rfl))) (fun s H fp=>zpts_nil) (fun s H fp=>(zpe_tup (zpac_s (zpe_ix (ix_tupK K rfl) (zpv 0) zpe_int (fun _ _=>rfl)) (zpac_s (zpe_ix (ix_tupK K rfl) (zpv 0) zpe_int (fun _ _=>rfl)) zpa_nil))))) zpa_nil)))
   (zpss_cons (zps_set (i:=4) scLc.nd rfl (Or.inl rfl) (zpe_callTy (call_dictP rfl) (by rfl) mdict boot_dict (zpac_x (zpe_compL ["_law_tongue_here","_law_wants_here","_law_book_here","_law_amid","_law_ends","_law_top","_law_bottom","_law_k","_law_price_here"] ["_law_row"] [] (defScope sLCost) rfl rfl rfl ⟨by decide +kernel,by decide +kernel,by decide +kernel,by decide +kernel,by decide +kernel⟩ (zpi_list (zpe_ix ix_tup (zpv 0) zpe_int (fun _ _=>rfl))) (fun s H fp=>(zpg_name (i:=0) (show List.Nodup [("_law_row" : Str)] by decide +kernel) rfl (Or.inl rfl))) (fun s H fp=>zpts_nil) (fun s H fp=>(zpe_tup (zpac_s (zpe_ix (ix_tupK K rfl) (zpv 0) zpe_int (fun _ _=>rfl)) (zpac_s (zpe_ix (ix_tupK K rfl) (zpv 0) zpe_int (fun _ _=>rfl)) zpa_nil))))) zpa_nil)))
   (zpss_cons (zps_set (i:=5) scLc.nd rfl (Or.inl rfl) zpe_int)
   (zpss_cons (zps_set (i:=6) scLc.nd rfl (Or.inl rfl) zpe_int)
   (zpss_cons (zps_for PassesOwn.never rfl (zpi_range1 (by rfl) B.range (zpac_f (zpe_callB call_len_seq (by rfl) B.len PySem.boot_len (zpac_n (zpv 2) zpa_nil)) zpa_nil)) (zpg_name (i:=7) scLc.nd rfl (Or.inl rfl))
     (zpss_one (zps_for PassesOwn.never rfl (zpi_list (zpe_op op_cat (zpe_compL ["_law_tongue_here","_law_wants_here","_law_book_here","_law_amid","_law_ends","_law_top","_law_bottom","_law_k","_law_price_here"] ["_law_sign"] [3] (defScope sLCost) rfl rfl rfl ⟨by decide +kernel,by decide +kernel,by decide +kernel,by decide +kernel,by decide +kernel⟩ (zpi_str (zpe_slice sl_str (zpe_ix ix_list (zpv 2) (zpv 7) (fun _ _=>rfl)) zpo_none (zpo_some (zpe_un un_neg zpe_int)))) (fun s H fp=>(zpg_name (i:=0) (show List.Nodup [("_law_sign" : Str),"_law_amid"] by decide +kernel) rfl (Or.inl rfl))) (fun s H fp=>zpts_nil) (fun s H fp=>(zpe_dget hr.units1 (zpv 1) (zpv 0) (fun _ _=>rfl)))) (zpe_lst (zpac_s (zpe_dget hr.units1 (zpv 4) (zpe_ix ix_str (zpe_ix ix_list (zpv 2) (zpv 7) (fun _ _=>rfl)) (zpe_un un_neg zpe_int) (fun _ _=>rfl)) (fun _ _=>rfl)) zpa_nil)))) (zpg_name (i:=8) scLc.nd rfl (Or.inl rfl))
     (zpss_cons (zps_set (i:=5) scLc.nd rfl (Or.inl rfl) (zpe_op op_add (zpe_op op_mulB (zpv 5) (zpe_ix ix_tup (zpv 8) zpe_int (fun _ _=>rfl))) (zpe_op op_mulB (zpe_op op_mulB (zpe_ix ix_tup (zpe_ix ix_list (zpv 1) (zpv 7) (fun _ _=>rfl)) zpe_int (fun _ _=>rfl)) (zpe_ix ix_tup (zpv 8) zpe_int (fun _ _=>rfl))) (zpv 6))))
   (zpss_one (zps_asg (zpe_call GL hr (by rfl) mL kL bL .nil passE0 (zpac_n (zpv 5) (zpac_b (zpe_op op_mulB (zpv 6) (zpe_ix ix_tup (zpv 8) zpe_int (fun _ _=>rfl))) zpa_nil))) (zpg_tup rfl (zpgs_cons (zpg_name (i:=5) scLc.nd rfl (Or.inl rfl)) (zpgs_cons (zpg_name (i:=6) scLc.nd rfl (Or.inl rfl)) zpgs_nil)))))))))
   (zpss_one (zps_ret (zpe_tup (zpac_n (zpv 5) (zpac_n (zpv 6) zpa_nil)))))))))),?_⟩
  obtain ⟨S,F',Pp,lgv,xs,h1,h2,xl,rws⟩:=tm.ex
  have c6:=tm.c6
  refine ⟨_,rfl,t,_,_,_,rfl,rfl,SqT.of h1,rfl,S,rfl,⟨_,SqL.of h2⟩,?_⟩
  (intro l gl; generalize hEq:upd _ l _=H1; refine newC hEq gl ?_; clear hEq; intro S1 e1 o1)
  refine pairs_lr (f:=pa) (k:=1) h2 xl c6 rws (fun _=>rfl) gl S1 e1 fun σ1 H2 ts k2 hl2 tl ok=>?_
  obtain ⟨pall,vall⟩:=kvF_all (f:=pa) tm.nd
  refine ⟨l,ts,kvF cs pa,rfl,hl2,tl,ok,?_⟩
  rw [pall]
  (intro D gD; generalize hEq:upd _ D _=H3; refine newC hEq gD ?_; clear hEq; intro S3 eD o3)
  have S03:=k2.trans S3
  refine ⟨_,rfl,t,_,_,_,rfl,rfl,SqT.of (S03 _ _ h1),rfl,S,rfl,⟨_,SqL.of (S03 _ _ h2)⟩,?_⟩
  (intro l2 gl2; generalize hEq:upd _ l2 _=H4; refine newC hEq gl2 ?_; clear hEq; intro S4 e4 o4)
  have rws3:∀(i c:Nat),cs[i]? = some c→∃a,xs[i]? = some (.ref a)∧H3 a=some (.tup [.str (sg1 c),pa c,pl c]):=fun i c e=>by
   obtain ⟨a,e1,e2⟩:=rws i c e
   exact ⟨a,e1,S03 _ _ e2⟩
  refine pairs_lr (f:=pl) (k:=2) (S03 _ _ h2) xl c6 rws3 (fun _=>rfl) gl2 S4 e4 fun σ2 H5 ts2 k5 hl5 tl2 ok2=>?_
  obtain ⟨plall,vall2⟩:=kvF_all (f:=pl) tm.nd
  refine ⟨l2,ts2,kvF cs pl,rfl,hl5,tl2,ok2,?_⟩
  rw [plall]
  (intro D2 gD2; generalize hEq:upd _ D2 _=H6; refine newC hEq gD2 ?_; clear hEq; intro S6 eD2 o6)
  have S36:=k5.trans S6
  have S06:=S03.trans S36
  have hD6:=S36 _ _ eD
  have hB6:=S06 _ _ hB
  have wt6:=wt.kp (.same S06)
  obtain ⟨vs,hW6,vl,hv⟩:=wt6.at
  have l20:=wt.l20
  have M0:=tm.M0
  have M1:=tm.M1
  refine ⟨_,rfl,Bk,_,rfl,.inl (SqL.of hB6),_,rfl,by unfold txs; rw [List.length_map]; omega,by unfold txs; rw [List.length_map]; omega,?_⟩
  have tl_:((txs zs).length:Int).toNat=zs.length:=by unfold txs; rw [List.length_map]; omega
  rw [tl_]
  refine for_range (lo:=0) (n:=zs.length) (fun i σ H'=>(∃v7 v8,∃n m:Int,σ=[some (.ref t),some (.ref W),some (.ref Bk),some (.ref D),some (.ref D2),some (.int n),some (.int m),v7,v8]∧FracOf ((costs A L ws zs).take i).sum M n m)∧Same H6 H') ⟨⟨_,_,0,1,rfl,frac_nought M0⟩,Same.refl _⟩ ?_ ?_
  ·rintro i σ H7 hi ⟨⟨v7,v8,n,m,rfl,fr⟩,S7⟩
   have ep:ws[i]? = some (ws[i]'(by omega)):=List.getElem?_eq_getElem _
   have ez:zs[i]? = some zs[i]:=List.getElem?_eq_getElem hi
   have cst:=costs_at (A:=A) (L:=L) ep ez
   generalize ws[i]'(by omega)=pp at ep cst
   generalize zs[i]=z at ez cst
   obtain ⟨lz,z8,z0,c,hc,lne⟩:=wz z (List.mem_of_getElem? ez)
   have zz:z.length≤sizeLine:=Nat.le_trans z8 (by decide)
   obtain ⟨c',hc',hat⟩:=at_last z0
   rw [hc] at hc'
   cases hc'
   have cm:c∈cs:=lz c (last_mem hc)
   have kl:=cutS_len z none (some (-1))
   have zl8:z.cps.toList.length≤8:=by
    have:z.cps.toList.length=z.length:=by simp [Str.length]
    omega
   have hB7:=S7 _ _ hB6
   have hD7:=S7 _ _ hD6
   have ezt:(txs zs)[i]? = some (.str z):=txs_at ez
   have eI:(0:Int) + (i:Int)=(i:Int):=Int.zero_add _
   rw [eI]
   refine ⟨_,rfl,_,rfl,Bk,_,_,_,rfl,rfl,SqL.of hB7,atI_nat ezt,_,rfl,_,rfl,z,rfl,zz,cutS z none (some (-1)),rfl,?_⟩
   (intro pl_ gpl; generalize hEq:upd _ pl_ _=H8; refine newC hEq gpl ?_; clear hEq; intro S8 epl o8)
   have cutL:(cutS z none (some (-1))).cps.toList=z.cps.toList.dropLast:=cut_butlast
   refine lr_str (z:=cutS z none (some (-1))) (fun j σ H'=>(∃v,σ=[v,some (.ref D)])∧Same H7 H'∧H' pl_=some (.lst ((z.cps.toList.dropLast.map pa).take j))) ⟨⟨_,rfl⟩,S8,epl⟩ ?_ ?_
   ·rintro j d σ H' Cn hd ⟨⟨v,rfl⟩,k,hpl⟩ nx
    have hd':(cutS z none (some (-1))).cps.toList[j]? = some d:=by simpa using hd
    rw [cutL] at hd'
    have dm:d∈cs:=lz d (List.dropLast_subset _ (List.mem_of_getElem? hd'))
    refine ⟨_,rfl,_,rfl,D,pa d,rfl,?_,_,hpl,?_,nx _ _ ⟨⟨_,rfl⟩,fun b o e=>?_,?_⟩⟩
    ·rw [← vall d dm]
     exact DGet.k (k:=Sum.inr (sg1 d)) (k _ _ hD7)
    ·rw [List.length_take,List.length_map,List.length_dropLast]
     exact Nat.lt_of_le_of_lt (show min j (z.cps.toList.length - 1)≤8 by omega) (by decide)
    ·rw [upd_ne (ne_of_none e gpl)]; exact k _ _ e
    ·rw [List.take_add_one,List.getElem?_map,hd']; exact upd_same
   rintro σ9 H9 ⟨_,S9,hpl⟩
   rw [List.take_of_length_le (by
    rw [List.length_map,← cutL]; simp)] at hpl
   have hB9:=S9 _ _ hB7
   refine ⟨_,rfl,_,rfl,_,rfl,Bk,_,_,_,rfl,rfl,SqL.of hB9,atI_nat ezt,_,rfl,z,-1,c,rfl,rfl,zz,hat,D2,pl c,rfl,?_,by show 1≤sizeLine; decide,?_⟩
   ·rw [← vall2 c cm]
    exact DGet.k (k:=Sum.inr (sg1 c)) (S9 _ _ (S7 _ _ eD2))
   (intro el_ gel; generalize hEq:upd _ el_ _=H10; refine newC hEq gel ?_; clear hEq; intro S10 eel o10)
   refine ⟨_,_,_,_,rfl,rfl,S10 _ _ hpl,eel,?_,?_⟩
   ·rw [List.length_map,List.length_dropLast]
    exact Nat.le_trans (show z.cps.toList.length - 1 + 1≤9 by omega) (by decide)
   (intro pz gpz; generalize hEq:upd _ pz _=H11; refine newC hEq gpz ?_; clear hEq; intro S11 epz o11)
   have S711:=(S9.trans S10).trans S11
   have S611:=S7.trans S711
   obtain ⟨Cz,hCz⟩:∃Cz,Cz=z.cps.toList.dropLast.map A ++ [L c]:=⟨_,rfl⟩
   have Csum:Cz.sum=PC A L z:=by
    rw [hCz,List.sum_append]
    unfold PC
    rw [hc]
    simp
   have pzl:(z.cps.toList.dropLast.map pa ++ [pl c]).length=Cz.length:=by rw [hCz]; simp
   have S0_11:=S06.trans S611
   have pzf:∀(j:Nat) (x:V),(z.cps.toList.dropLast.map pa ++ [pl c])[j]? = some x→∃Cj,Cz[j]? = some Cj∧FP H11 M Cj x∧0≤Cj∧Cj≤10 ^ 118:=fun j x e=>by
    have tm11:=tm.kp (.same S0_11)
    by_cases jl:j < z.cps.toList.dropLast.length
    ·rw [List.getElem?_append_left (by rw [List.length_map]; exact jl),List.getElem?_map] at e
     obtain ⟨d,hd,rfl⟩:=Option.map_eq_some_iff.mp e
     have dm:d∈cs:=lz d (List.dropLast_subset _ (List.mem_of_getElem? hd))
     refine ⟨A d,?_,tm11.fa d dm,tm.bA d dm⟩
     rw [hCz,List.getElem?_append_left (by rw [List.length_map]; exact jl),List.getElem?_map,hd]; rfl
    ·rw [List.getElem?_append_right (by rw [List.length_map]; omega),List.length_map] at e
     have ej:j - z.cps.toList.dropLast.length=0:=by
      have:j - z.cps.toList.dropLast.length < 1:=(List.getElem?_eq_some_iff.mp e).1
      omega
     rw [ej] at e
     cases e
     refine ⟨L c,?_,(tm11.fl c cm).resolve_left lne,tm.bL c cm⟩
     rw [hCz,List.getElem?_append_right (by rw [List.length_map]; omega),List.length_map,ej]; rfl
   have Czb:∀j,0≤(Cz.take j).sum∧(Cz.take j).sum≤9 * 10 ^ 118:=fun j=>by
    have h3:=sumI_bd (Cz.take j) fun C hC=>by
     obtain ⟨i,hi⟩:=List.getElem?_of_mem (List.mem_of_mem_take hC)
     have il:=(List.getElem?_eq_some_iff.mp hi).1
     obtain ⟨C',e,_,r⟩:=pzf i _ (List.getElem?_eq_getElem (show i < (z.cps.toList.dropLast.map pa ++ [pl c]).length by omega))
     rw [hi] at e
     cases e
     exact r
    have ll:(Cz.take j).length≤9:=by
     rw [List.length_take,hCz,List.length_append,List.length_map,List.length_dropLast]
     exact Nat.le_trans (Nat.min_le_right _ _) (show z.cps.toList.length - 1 + 1≤9 by omega)
    have:((Cz.take j).length:Int) * 10 ^ 118≤9 * 10 ^ 118:=Int.mul_le_mul_of_nonneg_right (by omega) (by decide)
    omega
   obtain ⟨k0,k1⟩:=wt.ct pp (List.mem_of_getElem? ep)
   have Sb:0≤((costs A L ws zs).take i).sum∧((costs A L ws zs).take i).sum≤10 ^ 133:=by
    refine sum_bd2 (fun C hC=>?_) (by rw [List.length_take]; omega)
    obtain ⟨j,hj⟩:=List.getElem?_of_mem (List.mem_of_mem_take hC)
    have jl:=(List.getElem?_eq_some_iff.mp hj).1
    rw [costs_len zl] at jl
    have ep':ws[j]? = some (ws[j]'jl):=List.getElem?_eq_getElem _
    have ez':zs[j]? = some (zs[j]'(by omega)):=List.getElem?_eq_getElem _
    rw [costs_at ep' ez'] at hj
    cases hj
    have:=wt.ct _ (List.mem_of_getElem? ep')
    have:=cost_bd this.1 this.2 (PC_bd tm (wz _ (List.mem_of_getElem? ez')))
    omega
   obtain ⟨S0,hS0⟩:∃S0,S0=((costs A L ws zs).take i).sum:=⟨_,rfl⟩
   rw [← hS0] at fr Sb
   have hvx:vs[i]? = some (vs[i]'(by omega)):=List.getElem?_eq_getElem _
   obtain ⟨wb,ewb,hwb⟩:=hv i _ pp hvx ep
   have hW11:=S611 _ _ hW6
   have hwb11:=S611 _ _ hwb
   rw [ewb] at hvx
   refine ⟨pz,rfl,⟨_,SqL.of epz⟩,for_list (K:=K) (a:=pz) (xs:=z.cps.toList.dropLast.map pa ++ [pl c]) (fun j σ H'=>(∃v8,∃n m:Int,σ=[some (.ref t),some (.ref W),some (.ref Bk),some (.ref D),some (.ref D2),some (.int n),some (.int m),some (.int i),v8]∧FracOf (S0 + pp.2 * (Cz.take j).sum) M n m)∧Same H11 H') ⟨⟨_,n,m,rfl,by simpa using fr⟩,Same.refl _⟩ ?_ ?_ ?_⟩
   ·rintro j σ H' _ ⟨_,k⟩
    exact SqL.of (k _ _ epz)
   ·rintro j x σ H12 hx ⟨⟨v8,n,m,rfl,fr⟩,k12⟩
    obtain ⟨Cj,eCj,fp,cj0,cj1⟩:=pzf j x hx
    obtain ⟨o,pn,pd,rfl,ho,fpr⟩:=fp
    have ho12:=k12 _ _ ho
    have Cb:=Czb j
    have kS:0≤pp.2 * (Cz.take j).sum∧pp.2 * (Cz.take j).sum≤10 ^ 128:=⟨Int.mul_nonneg k0 Cb.1,Int.le_trans (Int.mul_le_mul k1 Cb.2 Cb.1 (by decide)) (by decide)⟩
    have tw:=two_re fr fpr M0 M1 (by omega) (by omega)
    have n0:0≤n:=frac_nn fr M0 (by omega)
    have pn0:0≤pn:=frac_nn fpr M0 cj0
    have pnb:pn≤10 ^ 118:=by
     have:=fpr.top
     omega
    have kpn:0≤pp.2 * pn∧pp.2 * pn≤10 ^ 128:=⟨Int.mul_nonneg k0 pn0,Int.le_trans (Int.mul_le_mul k1 pnb pn0 (by decide)) (by decide)⟩
    have b9:(1000000000:Nat) < big:=by decide +kernel
    have b128:(10 ^ 128:Nat) < big:=by decide +kernel
    refine ⟨_,rfl,_,rfl,o,_,_,_,rfl,rfl,SqT.of ho12,rfl,_,_,rfl,rfl,⟨tw.ab,tw.db⟩,_,rfl,_,rfl,W,_,_,_,rfl,rfl,SqL.of (k12 _ _ hW11),atI_nat hvx,wb,_,_,_,rfl,rfl,SqT.of (k12 _ _ hwb11),rfl,_,rfl,o,_,_,_,rfl,rfl,SqT.of ho12,rfl,_,_,rfl,rfl,⟨by omega,tw.cb⟩,_,rfl,_,_,rfl,rfl,⟨by omega,tw.bb⟩,_,_,rfl,rfl,?_⟩
    have bp:=tw.bp
    have dp:=tw.dp
    refine ⟨_,rfl,_,rfl,_,rfl,o,_,_,_,rfl,rfl,SqT.of ho12,rfl,_,_,rfl,rfl,⟨tw.bb,tw.db⟩,_,_,rfl,Int.add_nonneg (Int.mul_nonneg n0 (by omega)) (Int.mul_nonneg kpn.1 (by omega)),Int.mul_pos bp dp,tw.bot,fun r n2 m2 hr fr2 _=>?_⟩
    have fin:FracOf (S0 + pp.2 * (Cz.take (j + 1)).sum) M n2 m2:=by
     rw [List.take_add_one,eCj,List.sum_append]
     have:(some Cj).toList.sum=Cj:=by simp
     rw [this]
     exact frac_step fr2 fr fpr M0
    have k13:=k12.trans (same_upd (o:=.tup [.int n2,.int m2]) hr)
    exact ⟨r,_,rfl,SqT.of upd_same,rfl,_,_,rfl,_,_,rfl,rfl,⟨_,n2,m2,rfl,fin⟩,k13⟩
   ·rintro σ H12 ⟨⟨v8,n,m,rfl,fr⟩,k12⟩
    rw [pzl,List.take_length,Csum] at fr
    refine ⟨⟨_,_,n,m,rfl,?_⟩,(S7.trans S711).trans k12⟩
    have e:((costs A L ws zs).take (i + 1)).sum=((costs A L ws zs).take i).sum + pp.2 * PC A L z:=by
     rw [List.take_add_one,cst,List.sum_append]
     simp
    rw [e,← hS0]; exact fr
  ·rintro σ H7 ⟨⟨v7,v8,n,m,rfl,fr⟩,S7⟩
   have cl:=costs_len (A:=A) (L:=L) zl
   rw [show zs.length=(costs A L ws zs).length by omega,List.take_length] at fr
   refine ⟨_,rfl,_,rfl,by show 2≤sizeLine; decide,?_⟩
   (intro u gu; generalize hEq:upd _ u _=H8; refine newC hEq gu ?_; clear hEq; intro S8 eu o8)
   exact q (.ref u) H8 ((S06.trans S7).trans S8) ⟨u,n,m,rfl,eu,fr⟩
end
end G1
namespace L2
open PySem
theorem zpe_bmK {X:Cx} {e o:Expr} {es:List Expr} {to:TE} {t:TA} {name:Str} {apos cpos:Pos} {T id:String} {r:V→List V→Hp→VK→Prop} (K:PySem.W.Frag) (hK:X.K=K) (pa:PlainAttrs T) (slot:Slot T name id) (hty:typeOf (.builtin id)=pure (.type "method_descriptor")) (hm:MtR X id r) (ho:SPE X o to) (ha:SPA X (e :: es) t) (hbase:attributeBase o name X.env (eval o X.env)=eval o X.env:=by rfl) (hfew:((backTo cpos (starEach (e :: es) X.env)).all (fun x=>!x.1) && (backToKw cpos (keywordEach [] X.env)).all (fun x=>x.1.isSome)
   && decide ((e :: es).length + ([]:List Keyword).length + (if ([]:List Keyword).isEmpty then 0 else 1) < 30))=true:=by rfl) (hline:(apos.endLine == cpos.line)=true:=by rfl) (hs:starEach (e :: es) X.env=(false,eval e X.env) :: starEach es X.env:=by rfl) (hplain:(backTo cpos (starEach es X.env)).any (·.1)=false:=by rfl):SPE X (.Call (.Attribute o name apos) (e :: es) [] cpos) (tBM K T r to t):=by
 subst hK
 exact zpe_bm pa slot hty hm ho ha hbase hfew hline hs hplain
theorem call_isiK {X:Cx} (K:PySem.W.Frag) (h:X.K=K):CallR X (.builtin "isinstance") (rIsi K):=h ▸ call_isi
end L2
namespace G1
open PySem L2 GM
theorem kb2 {K:PySem.W.Frag}:PySem.W.kitOne K (.type "int") (.type "bool")=some false:=by kernel_rfl
theorem Kp.seq {K:PySem.W.Frag} {H H':Hp} {a:Addr} {xs:List V} (k:Kp H H') (h:SqL K H a xs):SqL K H' a xs:=by
 rcases h with (h | ⟨o,h⟩) | h
 ·exact .inl (.inl (k _ _ h nofun))
 ·exact .inl (.inr ⟨o,k _ _ h nofun⟩)
 ·exact .inr h
def nearB (x z:Str):Bool:=Txt.startswith z x || Txt.startswith x z
section
variable {P:Program} {w:World} {K:PySem.W.Frag} {mg:Str→Option Value} {base:Heap}
def spBook (K:PySem.W.Frag):Sp:=fun vs H Q _=>∃(a b:Addr) (ns:List Int) (ws:List Str),vs=[.ref a,.ref b]∧SqL K H a (ns.map V.int)∧ns.length≤63∧H b=some (.lst (txs ws))∧1≤ws.length∧ws.length≤3000∧
 ∀c ts H',Same H H'→H' c=some (.lst (txs ts))→H c=none→1≤ts.length→ts.length≤20→(∀t∈ts,t∈ws)→Q (.ref c) H'
theorem scBo:FnScope ["_law_script","_law_words_here","_law_book_here","_law_k","_law_pool_here","_law_word","_law_near"] ["_law_script","_law_words_here"] (defScope sBook):=⟨rfl,rfl,rfl,by decide +kernel,rfl,by decide +kernel,by decide +kernel⟩
theorem ok_book {f fP fD:Addr} {fd fdP fdD:FuncData} (F:FunG K "_law_book" "_law_book" sBook .none f fd) (B:Bl mg)
  (GP:FnOk P w K mg base (CXE P w) 1 fP fdP ["_law_script","_law_k"] (spPool K)) (mP:mg "_law_pool" = some (.ref fP)) (kP:PySem.W.keepIn K (.ref fP)=true) (bP:Binds K fdP ["_law_script","_law_k"] [])
  (GD:FnOk P w K mg base (CXE P w) 1 fD fdD ["_law_pool_here","_law_many"] spDraw) (mD:mg "_law_take" = some (.ref fD)) (kD:PySem.W.keepIn K (.ref fD)=true) (bD:Binds K fdD ["_law_pool_here","_law_many"] []):FnOk P w K mg base (CXE P w) 2 f fd ["_law_script","_law_words_here"] (spBook K):=by
 refine F.zokN scBo (fun vs H Q E h=>?_) (fun cdv A outer s H vs Q E hr h=>?_)
 ·obtain ⟨a,b,ns,ws,rfl,_⟩:=h
  rfl
 ·obtain ⟨a,b,ns,ws,rfl,ha,nl,hb,w1,w3,q⟩:=h
  have hu:=hr.units0
  refine ⟨_,(zpss_cons (zps_set (i:=2) scBo.nd rfl (Or.inl rfl) (zpe_lst zpa_nil))
   (zpss_cons (zps_for PassesOwn.never rfl (zpi_range2 (by rfl) B.range (zpac_c zpe_int (zpac_f (zpe_callB (call_max2 rfl) (by rfl) B.max boot_max (zpac_c zpe_int (zpac_f (zpe_callB (call_min2 rfl) (by rfl) B.min boot_min (zpac_f (zpe_callB call_len_seq (by rfl) B.len PySem.boot_len (zpac_n (zpv 0) zpa_nil)) (zpac_c zpe_int zpa_nil))) zpa_nil))) zpa_nil))) (zpg_name (i:=3) scBo.nd rfl (Or.inl rfl))
     (zpss_cons (zps_set (i:=4) scBo.nd rfl (Or.inl rfl) (zpe_call GP hr (by rfl) mP kP bP .nil passE0 (zpac_n (zpv 0) (zpac_n (zpv 3) zpa_nil))))
   (zpss_cons (zps_set (i:=5) scBo.nd rfl (Or.inr rfl) (zpe_ix ix_list (zpv 1) (zpe_call GD hr (by rfl) mD kD bD .nil passE0 (zpac_n (zpv 4) (zpac_f (zpe_callB call_len_seq (by rfl) B.len PySem.boot_len (zpac_n (zpv 1) zpa_nil)) zpa_nil))) (fun _ _=>rfl)))
   (zpss_cons (zps_compL (i:=6) ["_law_script","_law_words_here","_law_book_here","_law_k","_law_pool_here","_law_word","_law_near"] ["_law_one"] [5] (defScope sBook) rfl rfl rfl ⟨by decide +kernel,by decide +kernel,by decide +kernel,by decide +kernel,by decide +kernel⟩ scBo.nd rfl (Or.inl rfl) (zpi_list (zpv 2)) (fun s H fp=>(zpg_name (i:=0) (show List.Nodup [("_law_one" : Str),"_law_word"] by decide +kernel) rfl (Or.inl rfl))) (fun s H fp=>(zpts_one (SPW.pt (zpw_or (zpt_val (zpe_bmK K rfl PySem.F.plainAttrs_str PySem.F.slot_str_startswith PySem.F.type_str_startswith mt_startswith (zpv 0) (zpac_n (zpv 1) zpa_nil))) (zpw_or1 (zpt_val (zpe_bmK K rfl PySem.F.plainAttrs_str PySem.F.slot_str_startswith PySem.F.type_str_startswith mt_startswith (zpv 1) (zpac_n (zpv 0) zpa_nil)))))))) (fun s H fp=>(zpv 0)))
   (zpss_one (zps_if (SPW.pt (zpw_and (zpt_cmpR op_lt (zpe_callB call_len_seq (by rfl) B.len PySem.boot_len (zpac_n (zpv 2) zpa_nil)) zpe_int (nomark _)) (zpw_and1 (zpt_cmpR (op_eqL hu) (zpv 6) (zpe_lst zpa_nil) (nomark _))))) (zpss_one (zps_expr (zpe_bm PySem.F.plainAttrs_list PySem.F.slot_list_append PySem.F.type_list_append mt_append (zpv 2) (zpac_n (zpv 5) zpa_nil)))) zpss_nil))))))
   (zpss_one (zps_ret (zpv 2))))),?_⟩
  refine ⟨by show 0≤sizeLine; decide,?_⟩
  (intro L0 g0; generalize hEq:upd _ L0 _=H1; refine newC hEq g0 ?_; clear hEq; intro S1 e1 o1)
  have sq:∀{H':Hp},Same H H'→SqL K H' a (ns.map V.int):=fun k=>(Kp.same k).seq ha
  refine ⟨_,rfl,a,_,rfl,.inl (sq S1),_,_,rfl,_,_,rfl,_,_,rfl,⟨by decide,by decide,?_,?_⟩,?_⟩
  ·rw [List.length_map]; repeat' split <;> omega
  ·rw [List.length_map]; repeat' split <;> omega
  have cnt:∀z:Int,0≤z→((if (if (63:Int) < z then 63 else z) > 2 then (if (63:Int) < z then 63 else z) else 2) - 1).toNat≤62∧1≤((if (if (63:Int) < z then 63 else z) > 2 then (if (63:Int) < z then 63 else z) else 2) - 1).toNat:=fun z _=>by repeat' split <;> omega
  obtain ⟨c1,c2⟩:=cnt _ (Int.natCast_nonneg (ns.map V.int).length)
  generalize ((if (if (63:Int) < ((ns.map V.int).length:Int) then 63 else ((ns.map V.int).length:Int)) > 2 then (if (63:Int) < ((ns.map V.int).length:Int) then 63 else ((ns.map V.int).length:Int)) else 2) - 1).toNat=N at c1 c2 ⊢
  refine for_range (lo:=1) (n:=N) (fun i σ H'=>∃L ts,(∃v1 v2 v3 v4,σ=[some (.ref a),some (.ref b),some (.ref L),v1,v2,v3,v4])∧H' L=some (.lst (txs ts))∧H L=none∧Same H H'∧(0 < i→1≤ts.length)∧ts.length≤20∧(∀t∈ts,t∈ws)) ⟨L0,[],⟨_,_,_,_,rfl⟩,e1,g0,S1,fun z=>absurd z (Nat.lt_irrefl 0),by decide,nofun⟩ ?_ ?_
  ·rintro i σ H3 hi ⟨L,ts,⟨v1,v2,v3,v4,rfl⟩,hL,Ln,S3,pos,l20,sub⟩
   refine ⟨_,rfl,_,rfl,a,ns,_,rfl,sq S3,by omega,by omega,fun p H4 hp s4 k4=>?_⟩
   have S34:Same H3 H4:=fun b o e=>(k4 b (ne_of_none e hp)).trans e
   have hb4:=S34 _ _ (S3 _ _ hb)
   have hL4:=S34 _ _ hL
   have np:∀{b:Addr} {o:HO},H3 b=some o→b≠p:=fun e=>ne_of_none e hp
   refine ⟨_,rfl,_,rfl,_,rfl,b,_,rfl,.inl (SqL.of hb4),p,_,rfl,s4,by rw [txs_len]; omega,?_,fun d H5 d0 d1 s5 k5=>?_⟩
   ·rw [txs_len]; exact Nat.lt_of_le_of_lt (show (ws.length:Int).natAbs≤3000 by omega) (by decide +kernel)
   have S35:Same H3 H5:=fun b o e=>(k5 b (np e)).trans (S34 b o e)
   rw [txs_len] at d1
   obtain ⟨dn,rfl⟩:=Int.eq_ofNat_of_zero_le d0
   have dl:dn < ws.length:=by omega
   obtain ⟨x,hx⟩:∃x,ws[dn]? = some x:=⟨ws[dn],List.getElem?_eq_getElem dl⟩
   refine ⟨b,_,_,_,rfl,rfl,SqL.of (S35 _ _ (S3 _ _ hb)),atI_nat (txs_at hx),?_⟩
   have S36:=S35
   have hL6:=S36 _ _ hL
   refine ⟨_,rfl,L,rfl,⟨_,SqL.of hL6⟩,?_⟩
   (intro N0 gN; generalize hEq:upd _ N0 _=H7; refine newC hEq gN ?_; clear hEq; intro S7 eN o7)
   refine lr_list (K:=K) (S:=L) (xs:=txs ts) (fun i σ H'=>(∃v,σ=[v,some (.str x)])∧Same H5 H'∧H' N0=some (.lst (txs ((ts.take i).filter (nearB x))))) ⟨⟨_,rfl⟩,S7,eN⟩ ?_ ?_ ?_
   ·rintro i σ H' ⟨_,k,_⟩
    exact SqL.of (k _ _ hL6)
   ·rintro i y σ H' C hi' ⟨⟨v,rfl⟩,k,hN⟩ nx
    unfold txs at hi'
    rw [List.getElem?_map] at hi'
    obtain ⟨z,hz,rfl⟩:=Option.map_eq_some_iff.mp hi'
    have il:=(List.getElem?_eq_some_iff.mp hz).1
    have tk:ts.take (i + 1)=ts.take i ++ [z]:=by rw [List.take_add_one,hz]; rfl
    have yes:nearB x z=true→(txs ((ts.take (i + 1)).filter (nearB x)))=txs ((ts.take i).filter (nearB x)) ++ [.str z]:=fun e=>by
     rw [tk,List.filter_append,List.filter_cons_of_pos e,txs_app]; rfl
    have no:nearB x z=false→(txs ((ts.take (i + 1)).filter (nearB x)))=txs ((ts.take i).filter (nearB x)):=fun e=>by
     rw [tk,List.filter_append,List.filter_cons_of_neg (by rw [e]; decide),List.filter_nil,List.append_nil]
    have small:(txs ((ts.take i).filter (nearB x))).length < sizeLine:=by
     rw [txs_len]
     refine Nat.lt_of_le_of_lt (List.length_filter_le _ _) ?_
     rw [List.length_take]
     exact Nat.lt_of_le_of_lt (show min i ts.length≤20 by omega) (by decide)
    have put:∀{H'':Hp},H''=upd H' N0 (.lst (txs ((ts.take i).filter (nearB x)) ++ [.str z]))→nearB x z=true→(∃v,[some (V.str z),some (.str x)]=[v,some (.str x)])∧Same H5 H''∧H'' N0=some (.lst (txs ((ts.take (i + 1)).filter (nearB x)))):=fun {H''} e nb=>by
     subst e
     refine ⟨⟨_,rfl⟩,fun c o e=>?_,?_⟩
     ·rw [upd_ne (ne_of_none e gN)]; exact k _ _ e
     ·rw [yes nb]; exact upd_same
    refine ⟨_,rfl,rfl,_,rfl,z,x,rfl,rfl,_,rfl,?_⟩
    refine ite2 (fun e=>?_) (fun e=>?_)
    ·have nb:nearB x z=true:=by unfold nearB; rw [e]; rfl
     exact ⟨_,rfl,_,hN,small,nx _ _ (put rfl nb)⟩
    ·refine ⟨_,rfl,rfl,_,rfl,x,z,rfl,rfl,_,rfl,?_⟩
     refine ite2 (fun e2=>?_) (fun e2=>?_)
     ·have nb:nearB x z=true:=by unfold nearB; rw [e2,Bool.or_true]
      exact ⟨_,rfl,_,hN,small,nx _ _ (put rfl nb)⟩
     ·have nb:nearB x z=false:=by
       unfold nearB
       rw [Bool.eq_false_iff.mpr e,Bool.eq_false_iff.mpr e2]; rfl
      exact nx _ _ ⟨⟨_,rfl⟩,k,by rw [no nb]; exact hN⟩
   rintro σ8 H9 ⟨_,k9,hN9⟩
   rw [txs_len,List.take_length] at hN9
   refine ⟨_,rfl,L,_,rfl,.inl (SqL.of (k9 _ _ hL6)),_,_,rfl,rfl,_,rfl,?_⟩
   have stay:∀{H'':Hp},Same H3 H''→Same H H'':=fun k=>S3.trans k
   have S39:=S36.trans k9
   refine ite2 (fun e20=>?_) (fun n20=>?_)
   ·have l20':((txs ts).length:Int) < 20:=of_decide_eq_true e20
    rw [txs_len] at l20'
    refine ⟨_,rfl,by show 0≤sizeLine; decide,?_⟩
    (intro E0 gE; generalize hEq:upd _ E0 _=H10; refine newC hEq gE ?_; clear hEq; intro S10 eE o10)
    have S310:=S39.trans S10
    refine ⟨N0,E0,_,_,rfl,rfl,SqL.of (S10 _ _ hN9),SqL.of eE,txs_flat _,rfl,_,rfl,?_⟩
    have hL10:=S310 _ _ hL
    refine ite2 (fun en=>?_) (fun en=>?_)
    ·refine ⟨_,rfl,.inl ⟨rfl,_,SqL.of hL10⟩,_,rfl,L,_,_,rfl,rfl,hL10,?_,?_⟩
     ·rw [txs_len]; exact Nat.lt_of_le_of_lt (show ts.length≤20 by omega) (by decide)
     refine ⟨L,ts ++ [x],⟨_,_,_,_,rfl⟩,?_,Ln,fun b o e=>?_,fun _=>by rw [List.length_append]; simp,by rw [List.length_append]; simp; omega,fun t ht=>?_⟩
     ·rw [txs_app]; exact upd_same
     ·rw [upd_ne (ne_of_none e Ln)]; exact stay S310 _ _ e
     ·rcases List.mem_append.mp ht with ht | ht
      ·exact sub t ht
      ·rw [List.mem_singleton.mp ht]; exact List.mem_of_getElem? hx
    ·refine ⟨L,ts,⟨_,_,_,_,rfl⟩,hL10,Ln,stay S310,fun _=>?_,l20,sub⟩
     rcases Nat.eq_zero_or_pos ts.length with z | z
     ·obtain rfl:=List.length_eq_zero_iff.mp z
      exact absurd rfl en
     ·exact z
   ·refine ⟨L,ts,⟨_,_,_,_,rfl⟩,S39 _ _ hL,Ln,stay S39,fun _=>?_,l20,sub⟩
    have:¬((txs ts).length:Int) < 20:=fun z=>n20 (decide_eq_true z)
    rw [txs_len] at this
    omega
  ·rintro σ H3 ⟨L,ts,⟨v1,v2,v3,v4,rfl⟩,hL,Ln,S3,pos,l20,sub⟩
   exact ⟨_,rfl,q L ts H3 S3 hL Ln (pos (by omega)) l20 sub⟩
def spTold (K:PySem.W.Frag) (T1 T2:Addr):Sp:=fun vs H Q _=>∃(t W Bk:Addr) (cs:List Nat) (fs ps:List Str) (lg:Int) (pa pl:Nat→V) (M:Int) (A L:Nat→Int) (ws:List (Str × Int)) (zs:List Str),vs=[.ref t,.ref W,.ref Bk]∧Tg H t cs fs ps lg∧TgM H t cs pa pl M A L∧Wt H W ws∧H Bk=some (.lst (txs zs))∧zs.length=ws.length∧(∀z∈zs,WdM cs pl z)∧Tab T1 H∧Tab T2 H∧
 ∀H',Kp H H'→Tab T1 H'→Tab T2 H'→Q (.bl true) H'
theorem scIt:FnScope ["_law_tongue_here","_law_wants_here","_law_book_here","_law_found"] ["_law_tongue_here","_law_wants_here","_law_book_here"] (defScope sTold):=⟨rfl,rfl,rfl,by decide +kernel,rfl,by decide +kernel,by decide +kernel⟩
theorem ok_told {T1 T2:Addr} {f fC fU:Addr} {fd fdC fdU:FuncData} (F:FunG K "_law_is_told" "_law_is_told" sTold .none f fd) (B:Bl mg)
  (GC:FnOk P w K mg base (CXE P w) 8 fC fdC ["tongue","wants","book"] (spCost K T1 T2)) (mC:mg "cost_of" = some (.ref fC)) (kC:PySem.W.keepIn K (.ref fC)=true) (bC:Binds K fdC ["tongue","wants","book"] [])
  (GU:FnOk P w K mg base (CXE P w) 2 fU fdU ["_law_tongue_here","_law_wants_here","_law_book_here"] (spLCost K)) (mU:mg "_law_cost" = some (.ref fU)) (kU:PySem.W.keepIn K (.ref fU)=true) (bU:Binds K fdU ["_law_tongue_here","_law_wants_here","_law_book_here"] []):FnOk P w K mg base (CXE P w) 9 f fd ["_law_tongue_here","_law_wants_here","_law_book_here"] (spTold K T1 T2):=by
 refine F.zokN scIt (fun vs H Q E h=>?_) (fun cdv A outer s H vs Q E hr h=>?_)
 ·obtain ⟨t,W,Bk,cs,fs,ps,lg,pa,pl,M,A,L,ws,zs,rfl,_⟩:=h
  rfl
 ·obtain ⟨t,W,Bk,cs,fs,ps,lg,pa,pl,M,A,L,ws,zs,rfl,tg,tm,wt,hB,zl,wz,h1,h2,q⟩:=h
  have hu:=hr.units0
  refine ⟨_,(zpss_cons (zps_set (i:=3) scIt.nd rfl (Or.inl rfl) (zpe_call GC hr (by rfl) mC kC bC .nil passE0 (zpac_n (zpv 0) (zpac_n (zpv 1) (zpac_n (zpv 2) zpa_nil)))))
   (zpss_cons (zps_if (SPW.pt (zpw_or (zpt_not (zpt_val (zpe_callB call_isiT (by rfl) B.isi boot_isi (zpac_n (zpv 3) (zpac_n (zpe_bltn (by rfl) B.tuple boot_tuple (v:=.ty "tuple") rfl) zpa_nil))))) (zpw_or1 (zpt_cmpR (op_neV hu) (zpe_compL ["_law_tongue_here","_law_wants_here","_law_book_here","_law_found"] ["_law_one"] [] (defScope sTold) rfl rfl rfl ⟨by decide +kernel,by decide +kernel,by decide +kernel,by decide +kernel,by decide +kernel⟩ (zpi_tup (zpv 3)) (fun s H fp=>(zpg_name (i:=0) (show List.Nodup [("_law_one" : Str)] by decide +kernel) rfl (Or.inl rfl))) (fun s H fp=>(zpts_one (zpt_val (zpe_callB (call_isiK K rfl) (by rfl) B.isi boot_isi (zpac_n (zpv 0) (zpac_n (zpe_bltn (by rfl) B.bool boot_bool (v:=.ty "bool") rfl) zpa_nil)))))) (fun s H fp=>(zpv 0))) (zpe_lst zpa_nil) (nomark _))))) (zpss_one (zps_ret zpe_bl)) zpss_nil)
   (zpss_one (zps_ret (zpe_cmpR (op_eqT hu) (zpv 3) (zpe_call GU (hr.mono (by decide)) (by rfl) mU kU bU .nil passE0 (zpac_n (zpv 0) (zpac_n (zpv 1) (zpac_n (zpv 2) zpa_nil)))) (nomark _)))))),?_⟩
  refine ⟨_,rfl,_,rfl,_,rfl,t,W,Bk,cs,fs,ps,lg,pa,pl,M,A,L,ws,zs,rfl,tg,tm,wt,hB,zl,wz,h1,h2,fun u H1 k1 a1 b1 fo=>?_⟩
  obtain ⟨o,n,m,rfl,ho,fr⟩:=fo
  refine ⟨_,rfl,o,_,_,_,true,rfl,ho,rfl,kt1,_,rfl,iteF ?_⟩
  refine ⟨_,rfl,o,rfl,⟨_,ho⟩,?_⟩
  (intro l gl; generalize hEq:upd _ l _=H2; refine newC hEq gl ?_; clear hEq; intro S2 el o2)
  refine lr_tup (K:=K) (S:=o) (xs:=[.int n,.int m]) (fun i σ H'=>(∃v,σ=[v])∧H'=H2) ⟨⟨_,rfl⟩,rfl⟩ ?_ ?_ ?_
  ·rintro i σ H' ⟨_,rfl⟩
   exact sqT_same S2 ho
  ·rintro i x σ H' C hi ⟨⟨v,rfl⟩,rfl⟩ nx
   obtain ⟨y,rfl⟩:∃y,x = .int y:=by
    match i,hi with
    | 0,hi=>cases hi; exact ⟨_,rfl⟩
    | 1,hi=>cases hi; exact ⟨_,rfl⟩
    | i + 2,hi=>simp at hi
   exact ⟨_,rfl,_,_,_,false,rfl,.of (.int y),.inl ⟨_,rfl,kb2⟩,_,rfl,iteF (nx _ _ ⟨⟨_,rfl⟩,rfl⟩)⟩
  rintro σ3 H3 ⟨_,rfl⟩
  refine ⟨by show 0≤sizeLine; decide,?_⟩
  (intro e2 ge; generalize hEq:upd _ e2 _=H4; refine newC hEq ge ?_; clear hEq; intro S4 ee o4)
  refine ⟨l,e2,[],[],rfl,rfl,SqL.of (S4 _ _ el),SqL.of ee,rfl,rfl,_,rfl,iteF ?_⟩
  have S14:=S2.trans S4
  have k4:=k1.trans (.same S14)
  refine ⟨_,rfl,_,rfl,_,rfl,_,rfl,t,W,Bk,cs,pa,pl,M,A,L,ws,zs,rfl,tm.kp k4,wt.kp k4,k4.lst hB,zl,wz,fun u H5 s5 fp=>?_⟩
  obtain ⟨o2,n2,m2,rfl,ho2,fr2⟩:=fp
  have e:(n,m)=(n2,m2):=(frac_eq tm.M0 fr).trans (frac_eq tm.M0 fr2).symm
  injection e with e1 e2
  subst e1 e2
  refine ⟨o,o2,_,_,rfl,rfl,sqT_same (S14.trans s5) ho,SqT.of ho2,rfl,rfl,?_⟩
  have e:eqVs [V.int n,V.int m] [V.int n,V.int m]=true:=by simp [eqVs,eqV]
  rw [e]
  exact q H5 (k4.trans (.same s5)) ((a1.same S14).same s5) ((b1.same S14).same s5)
end
structure Cl2 (K:PySem.W.Frag) (mg:Str→Option Value) (D N M:Addr):Prop where
 dear:mg "DearError" = some (.ref D)
 nt:mg "NoTongue" = some (.ref N)
 nw:mg "NoWants" = some (.ref M)
 clsN:ClsX K N
 clsM:ClsX K M
 upN:PySem.W.mroIn K N (.ref D)=some true
 upM:PySem.W.mroIn K M (.ref D)=some true
 catch_:CatchK K D
 NM:PySem.W.kitOne K (.ref N) (.ref M)=some false
 MN:PySem.W.kitOne K (.ref M) (.ref N)=some false
theorem kit_self {K:PySem.W.Frag} {C:Addr}:PySem.W.kitOne K (.ref C) (.ref C)=some true:=by
 unfold PySem.W.kitOne
 rw [if_pos (by simp)]
theorem kit_no {K:PySem.W.Frag} {CN C:Addr} (self:PySem.W.mroIn K CN (.ref CN)=some true) (no:PySem.W.mroIn K CN (.ref C)=some false) (hd:PySem.W.hasDictIn K C=true) (ty:PySem.W.typeIn K (.ref C)=some (.type "type")):PySem.W.kitOne K (.ref CN) (.ref C)=some false:=by
 have ne:¬((Value.ref CN == Value.ref C)=true):=fun z=>by
  have e:CN=C:=Value.ref.inj (beq_iff_eq.mp z)
  have h:=no
  rw [← e,self] at h
  cases h
 obtain ⟨cd,q,_⟩:=PySem.W.any_some hd
 unfold PySem.W.kitOne
 rw [if_neg ne]
 show (if ((PySem.W.clsIn K C).isSome && PySem.W.typeIn K (.ref C) == some (.type "type"))=true then PySem.W.subIn K (.ref CN) (.ref C) else none)=some false
 rw [if_pos (by rw [q,ty]; simp)]
 exact no
theorem badAt_kp {H H':Hp} (k:Kp H H'):∀(xs:List V) (sn:List Str) (n:Nat),(∀y∈xs,ThE H y)→badAt H' xs sn n=badAt H xs sn n
 | [],_,_,_=>rfl
 | y :: ys,sn,n,h=>by
  have hy:=(h y List.mem_cons_self).th
  rw [badAt,badAt,okW_kp hy k,nmS_kp hy k,badAt_kp k ys _ _ fun z hz=>h z (List.mem_cons_of_mem _ hz)]
theorem outW_kp {H H':Hp} {x:V} (h:ThW H x) (k:Kp H H'):outW H' x=outW H x:=by
 have th:=h.th
 have els:=h.els
 cases th with
 | lst e=>
  rename_i a xs
  rw [outW_lst e,outW_lst (k.lst e)]
  have:bA H' xs 0=bA H xs 0:=by
   unfold bA
   exact badAt_kp k _ _ _ fun y hy=>els _ xs rfl e y (by simpa using hy)
  rw [this]
 | tup e=>simp [outW,e,k _ _ e nofun]
 | dK e=>simp [outW,e,k _ _ e nofun]
 | _=>rfl
def spLookA (N T1 T2:Addr):Sp:=fun vs H Q E=>spLook T1 T2 [] vs H Q E∨spBadT N T1 T2 vs H Q E
def BadX (H:Hp) (x y:V) (b:Bool):Prop:=(b=true∧∃v,BadT H x v)∨(b=false∧∃t v cs fs ps lg,x = .ref t∧Tg H t cs fs ps lg∧ThW H y∧outW H y=some v)
section
variable {P:Program} {w:World} {K:PySem.W.Frag} {mg:Str→Option Value} {base:Heap} {c:List Addr}
def spCostB (N M T1 T2:Addr):Sp:=fun vs H _ E=>∃x y z b,vs=[x,y,z]∧BadX H x y b∧Tab T1 H∧Tab T2 H∧∀v dx H',Kp H H'→Tab T1 H'→Tab T2 H'→H' dx=some (.xd [((if b=true then "part" else "number" : Str),v)])→E (.ref (if b=true then N else M)) (some dx) H'
theorem scCst2:FnScope ["tongue","wants","book"] ["tongue","wants","book"] (defScope sCost):=⟨rfl,rfl,rfl,by decide +kernel,rfl,by decide +kernel,by decide +kernel⟩
theorem ok_costB {N M T1 T2:Addr} {f fL fW fY fF fR fS:Addr} {fd fdL fdW fdY fdF fdR fdS:FuncData} (F:FunG K "cost_of" "cost_of" sCost .none f fd) (mzip:mg "zip" = none)
  (GL:FnOk P w K mg base (CXE P w) 7 fL fdL ["thing"] (spLookA N T1 T2)) (mL:mg "look_at_tongue" = some (.ref fL)) (kL:PySem.W.keepIn K (.ref fL)=true) (bL:Binds K fdL ["thing"] [])
  (GW:FnOk P w K mg base (CXE P w) 5 fW fdW ["thing"] (spLookWs M T1)) (mW:mg "look_at_wants" = some (.ref fW)) (kW:PySem.W.keepIn K (.ref fW)=true) (bW:Binds K fdW ["thing"] [])
  (GY:FnOk P w K mg base (CXE P w) 3 fY fdY ["one","other"] (spTwo K fun a b c d=>a * c)) (mY:mg "times" = some (.ref fY)) (kY:PySem.W.keepIn K (.ref fY)=true) (bY:Binds K fdY ["one","other"] [])
  (GF:FnOk P w K mg base (CXE P w) 2 fF fdF ["top","bottom"] spFr) (mF:mg "fraction" = some (.ref fF)) (kF:PySem.W.keepIn K (.ref fF)=true) (bF:Binds K fdF ["top","bottom"] [])
  (GR:FnOk P w K mg base (CXE P w) 6 fR fdR ["tongue","word"] (spRPrice K)) (mR:mg "reckon_price" = some (.ref fR)) (kR:PySem.W.keepIn K (.ref fR)=true) (bR:Binds K fdR ["tongue","word"] [])
  (GS:FnOk P w K mg base (CXE P w) 4 fS fdS ["some"] (spSum K)) (mS:mg "sum_of" = some (.ref fS)) (kS:PySem.W.keepIn K (.ref fS)=true) (bS:Binds K fdS ["some"] []) {tk1:Tok} (dF:Binds K fdF ["top","bottom"] [.int 1 tk1]):FnOk P w K mg base (CXE P w) 8 f fd ["tongue","wants","book"] (spCostB N M T1 T2):=by
 refine F.zokE scCst2 (fun vs H Q E h=>?_) (fun cdv A outer s H vs Q E hr h=>?_)
 ·obtain ⟨x,y,z,b,rfl,_⟩:=h
  rfl
 ·obtain ⟨x,y,z,b,rfl,bc,ht1,ht2,qe⟩:=h
  refine ⟨_,(zpss_cons (zps_expr (zpe_call GL hr (by rfl) mL kL bL .nil (passes_fn fun _ _ _ z=>z) (zpac_n (zpv 0) zpa_nil)))
   (zpss_cons (zps_expr (zpe_call GW (hr.mono (by decide)) (by rfl) mW kW bW .nil (passes_fn fun _ _ _ z=>z) (zpac_n (zpv 1) zpa_nil)))
   (zpss_one (zps_ret (zpe_call GS (hr.mono (by decide)) (by rfl) mS kS bS .nil passE0 (zpac_x (zpe_compL ["tongue","wants","book"] ["want","word"] [0] (defScope sCost) rfl rfl rfl ⟨by decide +kernel,by decide +kernel,by decide +kernel,by decide +kernel,by decide +kernel⟩ (zpi_zipL (by rfl) mzip (zpac_n (zpv 1) (zpac_n (zpv 2) zpa_nil))) (fun s H fp=>(zpg_tupK K 2 rfl rfl (zpgs_cons (zpg_name (i:=0) (show List.Nodup [("want" : Str),"word","tongue"] by decide +kernel) rfl (Or.inl rfl)) (zpgs_cons (zpg_name (i:=1) (show List.Nodup [("want" : Str),"word","tongue"] by decide +kernel) rfl (Or.inl rfl)) zpgs_nil)))) (fun s H fp=>zpts_nil) (fun s H fp=>(zpe_call GY (hr.mono (by decide)) (by rfl) mY kY bY .nil passE0 (zpac_f (zpe_call GF (hr.mono (by decide)) (by rfl) mF kF dF (.cons (a:=V.int 1) ⟨_,rfl⟩ .nil) passE0 (zpac_s (zpe_ix (ix_tupK K rfl) (zpv 0) zpe_int (fun _ _=>rfl)) zpa_nil)) (zpac_f (zpe_call GR (hr.mono (by decide)) (by rfl) mR kR bR .nil passE0 (zpac_n (zpv 2) (zpac_n (zpv 1) zpa_nil))) zpa_nil))))) zpa_nil)))))),?_⟩
  rcases bc with ⟨rfl,v,bt⟩ | ⟨rfl,t,v,cs,fs,ps,lg,rfl,tg,th,ow⟩
  ·exact ⟨_,rfl,.inr ⟨x,v,rfl,bt,ht1,ht2,fun dx H' k a b h=>qe v dx H' k a b h⟩⟩
  ·refine ⟨_,rfl,.inl ⟨t,cs,fs,ps,lg,rfl,tg,ht1,⟨ht2,nofun⟩,fun H1 k1 a1 b1=>?_⟩⟩
   have ow1:outW H1 y=some v:=by rw [outW_kp th k1]; exact ow
   exact ⟨_,rfl,y,rfl,th.kp k1,a1,fun e=>(by rw [ow1] at e; cases e),fun v' e dx H' k tb h=>qe v' dx H' (k1.trans k) (tb _ a1) (tb _ b1.h) h⟩
def spRefl (T1 T2:Addr):Sp:=fun vs H Q _=>∃x y z b,vs=[x,y,z]∧BadX H x y b∧Tab T1 H∧Tab T2 H∧∀L H',Kp H H'→Tab T1 H'→Tab T2 H'→H' L=some (.lst [.bl b,.bl (!b)])→Q (.ref L) H'
theorem scRl:FnScope ["_law_tongue_here","_law_wants_here","_law_book_here","_law_error","e"] ["_law_tongue_here","_law_wants_here","_law_book_here"] (defScope sRefl):=⟨rfl,rfl,rfl,by decide +kernel,rfl,by decide +kernel,by decide +kernel⟩
theorem ok_refl {D N M T1 T2:Addr} {f fX:Addr} {fd fdX:FuncData} (F:FunG K "_law_refusal" "_law_refusal" sRefl .none f fd) (B:Bl mg) (C:Cl2 K mg D N M)
  (GX:FnOk P w K mg base (CXE P w) 8 fX fdX ["tongue","wants","book"] (spCostB N M T1 T2)) (mX:mg "cost_of" = some (.ref fX)) (kX:PySem.W.keepIn K (.ref fX)=true) (bX:Binds K fdX ["tongue","wants","book"] []):FnOk P w K mg base (CXE P w) 9 f fd ["_law_tongue_here","_law_wants_here","_law_book_here"] (spRefl T1 T2):=by
 refine F.zokN scRl (fun vs H Q E h=>?_) (fun cdv A outer s H vs Q E hr h=>?_)
 ·obtain ⟨x,y,z,b,rfl,_⟩:=h
  rfl
 ·obtain ⟨x,y,z,b,rfl,bc,h1,h2,q⟩:=h
  refine ⟨_,(zpss_cons (zps_set (i:=3) scRl.nd rfl (Or.inl rfl) zpe_non)
   (zpss_cons (zps_try_as (j:=4) (zpsx_expr (zpex_call GX hr (by rfl) mX kX bX .nil (zpac_n (zpv 0) (zpac_n (zpv 1) (zpac_n (zpv 2) zpa_nil))))) scRl.nd rfl rfl rfl rfl (by rfl) C.dear C.catch_ (fun e=>(zpss_one (zps_set (i:=3) scRl.nd rfl (Or.inl rfl) (zpv 4)))))
   (zpss_one (zps_ret (zpe_lst (zpac_f (zpe_callB call_isi (by rfl) B.isi boot_isi (zpac_n (zpv 3) (zpac_n (zpe_glob (by rfl) C.nt (v:=.ref _) rfl) zpa_nil))) (zpac_f (zpe_callB call_isi (by rfl) B.isi boot_isi (zpac_n (zpv 3) (zpac_n (zpe_glob (by rfl) C.nw (v:=.ref _) rfl) zpa_nil))) zpa_nil))))))),?_⟩
  refine ⟨_,rfl,_,rfl,_,rfl,x,y,z,b,rfl,bc,h1,h2,fun v dx H1 k1 a1 a2 hd=>?_⟩
  refine ⟨if b=true then N else M,rfl,by cases b; exact C.upM; exact C.upN,fun e he=>?_⟩
  have s2:Same H1 (upd H1 e (ExcD (if b=true then N else M) e (some dx))):=same_upd he
  have hd2:=s2 _ _ hd
  have he2:upd H1 e (ExcD (if b=true then N else M) e (some dx)) e=some (ExcD (if b=true then N else M) e (some dx)):=upd_same
  have k2:=k1.trans (Kp.same s2)
  have b1:=a1.same s2
  have b2:=a2.same s2
  generalize upd H1 e (ExcD (if b=true then N else M) e (some dx))=H2 at hd2 he2 k2 b1 b2
  clear s2 hd k1 a1 a2
  have ty:TyX K H2 (.ref e) (.ref (if b=true then N else M)):=.excD he2 hd2 (by cases b; exact C.clsM; exact C.clsN)
  refine ⟨_,rfl,_,rfl,_,_,_,b,rfl,ty,.inl ⟨_,rfl,by cases b; exact C.MN; exact kit_self⟩,?_⟩
  refine ⟨_,rfl,_,_,_,(!b),rfl,ty,.inl ⟨_,rfl,by cases b; exact kit_self; exact C.NM⟩,?_⟩
  refine ⟨by show 2≤sizeLine; decide,?_⟩
  (intro L gL; generalize hEq:upd _ L _=H3; refine newC hEq gL ?_; clear hEq; intro S3 eL oL)
  exact q L H3 (k2.trans (.same S3)) (b1.same S3) (b2.same S3) eL
def spCopyT (K:PySem.W.Frag):Sp:=fun vs H Q _=>∃(t S F Pp:Addr) (lg:V) (xs fs ps:List V),vs=[.ref t]∧H t=some (.tup [.ref S,.ref F,.ref Pp,lg])∧H S=some (.lst xs)∧H F=some (.lst fs)∧H Pp=some (.lst ps)∧
 ∀u S' F' P' H',H u=none→H S'=none→H F'=none→H P'=none→H' u=some (.tup [.ref S',.ref F',.ref P',lg])→H' S'=some (.lst xs)→H' F'=some (.lst fs)→H' P'=some (.lst ps)→Same H H'→Q (.ref u) H'
theorem scCpT:FnScope ["_law_tongue_here"] ["_law_tongue_here"] (defScope sCopy):=⟨rfl,rfl,rfl,by decide +kernel,rfl,by decide +kernel,by decide +kernel⟩
theorem ok_copyT {f:Addr} {fd:FuncData} (F:FunG K "_law_copy" "_law_copy" sCopy .none f fd) (B:Bl mg):FnOk P w K mg base (CXE P w) 1 f fd ["_law_tongue_here"] (spCopyT K):=by
 refine F.zokN scCpT (fun vs H Q E h=>?_) (fun cdv A outer s H vs Q E hr h=>?_)
 ·obtain ⟨t,S,F',Pp,lg,xs,fs,ps,rfl,_⟩:=h
  rfl
 ·obtain ⟨t,S,F',Pp,lg,xs,fs,ps,rfl,ht,hS,hF,hP,q⟩:=h
  refine ⟨_,(zpss_one (zps_ret (zpe_tup (zpac_f (zpe_callTy call_list_of (by rfl) B.list boot_list (zpac_s (zpe_ix ix_tup (zpv 0) zpe_int (fun _ _=>rfl)) zpa_nil)) (zpac_f (zpe_callTy call_list_of (by rfl) B.list boot_list (zpac_s (zpe_ix ix_tup (zpv 0) zpe_int (fun _ _=>rfl)) zpa_nil))
    (zpac_f (zpe_callTy call_list_of (by rfl) B.list boot_list (zpac_s (zpe_ix ix_tup (zpv 0) zpe_int (fun _ _=>rfl)) zpa_nil)) (zpac_s (zpe_ix ix_tup (zpv 0) zpe_int (fun _ _=>rfl)) zpa_nil))))))),?_⟩
  refine ⟨_,rfl,t,_,_,_,rfl,rfl,SqT.of ht,rfl,S,_,rfl,.inl (SqL.of hS),fun l1 h1=>?_⟩
  have s1:=same_upd (o:=.lst xs) h1
  refine ⟨_,rfl,t,_,_,_,rfl,rfl,SqT.of (s1 _ _ ht),rfl,F',_,rfl,.inl (SqL.of (s1 _ _ hF)),fun l2 h2=>?_⟩
  have s2:=same_upd (o:=.lst fs) h2
  have S2:=s1.trans s2
  refine ⟨_,rfl,t,_,_,_,rfl,rfl,SqT.of (S2 _ _ ht),rfl,Pp,_,rfl,.inl (SqL.of (S2 _ _ hP)),fun l3 h3=>?_⟩
  have s3:=same_upd (o:=.lst ps) h3
  have S3:=S2.trans s3
  refine ⟨_,rfl,t,_,_,_,rfl,rfl,SqT.of (S3 _ _ ht),rfl,by show 4≤sizeLine; decide,fun u hu=>?_⟩
  have s4:=same_upd (o:=.tup [.ref l1,.ref l2,.ref l3,lg]) hu
  have back:∀{G:Hp} {l:Addr},Same H G→G l=none→H l=none:=fun {G l} s n=>by
   cases e:H l with
   | none=>rfl
   | some o=>
    have:=s l o e
    rw [n] at this; cases this
  exact q u l1 l2 l3 _ (back S3 hu) h1 (back s1 h2) (back S2 h3) upd_same (s4 _ _ (s3 _ _ (s2 _ _ upd_same))) (s4 _ _ (s3 _ _ upd_same)) (s4 _ _ upd_same) (S3.trans s4)
end
theorem cut_to (xs:List V) (k:Nat):cutV xs none (some (k:Int))=xs.take k:=by
 unfold cutV
 rw [HT.sIx_nat,HT.sIx_none,List.drop_zero,Nat.sub_zero]
 by_cases h:k≤xs.length
 ·rw [Nat.min_eq_left h]
 ·rw [Nat.min_eq_right (by omega),List.take_of_length_le (by omega),List.take_of_length_le (by omega)]
theorem mem_cut {xs:List V} {lo hi:Option Int} {y:V} (h:y∈cutV xs lo hi):y∈xs:=by
 unfold cutV at h
 exact List.mem_of_mem_drop (List.mem_of_mem_take h)
theorem thw_non {H:Hp}:ThW H .non:=⟨.non,nofun⟩
theorem thw_lst {H:Hp} {a:Addr} {xs:List V} (h:H a=some (.lst xs)) (k:∀y∈xs,ThE H y):ThW H (.ref a):=⟨.lst h,fun b ys e e' y hy=>by cases e; rw [h] at e'; cases e'; exact k y hy⟩
theorem odd_len {H:Hp} {a:Addr} {xs:List V} (h:H a=some (.lst xs)) (l:¬(1≤xs.length∧xs.length≤20)):outW H (.ref a)=some .non:=by
 rw [outW_lst h,if_neg l]
theorem bad_none {H:Hp}:∀(xs:List V) (sn:List Str) (k:Nat),badAt H xs sn k=none→(xs.map (nmS H)).Nodup∧(∀y∈xs,nmS H y∉sn)∧∀y∈xs,okW H y=true
 | [],_,_,_=>⟨List.nodup_nil,nofun,nofun⟩
 | y :: ys,sn,k,h=>by
  rw [badAt] at h
  by_cases c:okW H y=true∧nmS H y∉sn
  ·rw [if_pos c] at h
   obtain ⟨h1,h2,h3⟩:=bad_none ys _ _ h
   refine ⟨?_,fun z hz=>?_,fun z hz=>?_⟩
   ·rw [List.map_cons,List.nodup_cons]
    refine ⟨fun m=>?_,h1⟩
    obtain ⟨z,hz,e⟩:=List.mem_map.mp m
    exact h2 z hz (by rw [e]; exact List.mem_append_right _ (List.mem_singleton.mpr rfl))
   ·rcases List.mem_cons.mp hz with rfl | hz
    ·exact c.2
    ·exact fun m=>h2 z hz (List.mem_append_left _ m)
   ·rcases List.mem_cons.mp hz with rfl | hz
    ·exact c.1
    ·exact h3 z hz
  ·rw [if_neg c] at h; cases h
theorem odd_any {H:Hp} {a:Addr} {xs:List V} (h:H a=some (.lst xs)) (o:¬(xs.map (nmS H)).Nodup∨∃y∈xs,okW H y=false):∃v,outW H (.ref a)=some v:=by
 rw [outW_lst h]
 by_cases l:1≤xs.length∧xs.length≤20
 ·rw [if_pos l]
  cases e:bA H xs 0 with
  | some k=>exact ⟨_,rfl⟩
  | none=>
   unfold bA at e
   rw [List.drop_zero] at e
   obtain ⟨n1,_,n3⟩:=bad_none _ _ _ e
   rcases o with o | ⟨y,hy,o⟩
   ·exact absurd n1 o
   ·rw [n3 y hy] at o; cases o
 ·rw [if_neg l]; exact ⟨_,rfl⟩
theorem okW_bad {H:Hp} {a:Addr} {n c:V} (h:H a=some (.tup [n,c])) (b:inB c 0 wM=false):okW H (.ref a)=false:=by
 unfold okW
 rw [pairOf_tup h]
 show (nameB n && inB c 0 wM)=false
 rw [b,Bool.and_false]
theorem noA {H:Hp} {xs:List V} {cs:List Nat} (g3:Rows H xs cs):("A" : Str)∉sgs cs:=fun m=>by
 obtain ⟨d,hd,e⟩:=List.mem_map.mp m
 obtain ⟨i,hi⟩:=List.getElem?_of_mem hd
 have il:=(List.getElem?_eq_some_iff.mp hi).1
 have hx:xs[i]? = some (xs[i]'(by rw [g3.len]; exact il)):=List.getElem?_eq_getElem _
 have oc:=(g3.row i _ _ hx hi).oc
 have e65:("A" : Str)=sg1 65:=by decide +kernel
 rw [e65] at e
 rw [sg1_inj e] at oc
 revert oc; decide +kernel
end G1
namespace L2
open PySem
theorem op_neVK {X:Cx} (K:PySem.W.Frag) (h:X.K=K) (hu:X.A.units < cLine):OpR X (compareOp .NotEq) (rEqL K true):=h ▸ op_neV hu
end L2
namespace G1
open PySem L2 GM
section
variable {P:Program} {w:World} {K:PySem.W.Frag} {mg:Str→Option Value} {base:Heap}
def spRefs (T1 T2:Addr):Sp:=fun vs H Q _=>∃(t W:Addr) (Bk:V) (cs:List Nat) (fs ps:List Str) (lg:Int) (ws:List (Str × Int)),vs=[.ref t,.ref W,Bk]∧Tg H t cs fs ps lg∧Wt H W ws∧Tab T1 H∧Tab T2 H∧∀H',Kp H H'→Tab T1 H'→Tab T2 H'→Q (.bl true) H'
theorem scRe:FnScope ["_law_tongue_here","_law_wants_here","_law_book_here","_law_bad","_law_odd"] ["_law_tongue_here","_law_wants_here","_law_book_here"] (defScope sRefs):=⟨rfl,rfl,rfl,by decide +kernel,rfl,by decide +kernel,by decide +kernel⟩
theorem ok_refs {T1 T2:Addr} {f fR:Addr} {fd fdR:FuncData} (F:FunG K "_law_are_refused" "_law_are_refused" sRefs .none f fd) (B:Bl mg)
  (GR:FnOk P w K mg base (CXE P w) 9 fR fdR ["_law_tongue_here","_law_wants_here","_law_book_here"] (spRefl T1 T2)) (mR:mg "_law_refusal" = some (.ref fR)) (kR:PySem.W.keepIn K (.ref fR)=true) (bR:Binds K fdR ["_law_tongue_here","_law_wants_here","_law_book_here"] []):FnOk P w K mg base (CXE P w) 10 f fd ["_law_tongue_here","_law_wants_here","_law_book_here"] (spRefs T1 T2):=by
 refine F.zokN scRe (fun vs H Q E h=>?_) (fun cdv A outer s H vs Q E hr h=>?_)
 ·obtain ⟨t,W,Bk,cs,fs,ps,lg,ws,rfl,_⟩:=h
  rfl
 ·obtain ⟨t,W,Bk,cs,fs,ps,lg,ws,rfl,tg,wt,h1,h2,q⟩:=h
  have hu:=hr.units0
  refine ⟨_,(zpss_cons (zps_for PassesOwn.never rfl (zpi_list (zpe_lst (zpac_c zpe_non (zpac_b (zpe_op op_catT (zpe_slice sl_tup (zpv 0) zpo_none (zpo_some zpe_int)) (zpe_tup (zpac_c zpe_int zpa_nil))) (zpac_t (zpe_tup (zpac_s (zpe_ix ix_tup (zpv 0) zpe_int (fun _ _=>rfl)) (zpac_l (zpe_lst (zpac_c zpe_str zpa_nil)) (zpac_l (zpe_lst zpa_nil) (zpac_c zpe_int zpa_nil))))) (zpac_t (zpe_tup (zpac_s (zpe_slice sl_list (zpe_ix ix_tup (zpv 0) zpe_int (fun _ _=>rfl)) zpo_none (zpo_some zpe_int)) (zpac_l (zpe_lst zpa_nil) (zpac_l (zpe_lst zpa_nil) (zpac_c zpe_int zpa_nil))))) zpa_nil)))))) (zpg_name (i:=3) scRe.nd rfl (Or.inl rfl))
     (zpss_one (zps_if (SPW.pt (zpw_or (zpt_cmpR (op_neV hu) (zpe_call GR hr (by rfl) mR kR bR .nil passE0 (zpac_n (zpv 3) (zpac_c zpe_non (zpac_n (zpv 2) zpa_nil)))) (zpe_lst (zpac_c zpe_bl (zpac_c zpe_bl zpa_nil))) (nomark _)) (zpw_or1 (zpt_cmpR (op_neV hu) (zpe_call GR hr (by rfl) mR kR bR .nil passE0 (zpac_n (zpv 3) (zpac_n (zpv 1) (zpac_n (zpv 2) zpa_nil)))) (zpe_lst (zpac_c zpe_bl (zpac_c zpe_bl zpa_nil))) (nomark _))))) (zpss_one (zps_ret zpe_bl)) zpss_nil)))
   (zpss_cons (zps_set (i:=4) scRe.nd rfl (Or.inl rfl) (zpe_lst (zpac_c zpe_non (zpac_l (zpe_lst zpa_nil) (zpac_b (zpe_op op_cat (zpv 1) (zpe_slice sl_list (zpv 1) zpo_none (zpo_some zpe_int))) (zpac_b (zpe_op op_cat (zpe_lst (zpac_t (zpe_tup (zpac_s (zpe_ix ix_tup (zpe_ix ix_list (zpv 1) zpe_int (fun _ _=>rfl)) zpe_int (fun _ _=>rfl)) (zpac_u (zpe_un un_neg zpe_int) zpa_nil))) zpa_nil)) (zpe_slice sl_list (zpv 1) (zpo_some zpe_int) zpo_none)) (zpac_b (zpe_op op_cat (zpe_slice sl_list (zpv 1) zpo_none (zpo_some (zpe_un un_neg zpe_int))) (zpe_lst (zpac_t (zpe_tup (zpac_c zpe_str (zpac_c zpe_bl zpa_nil))) zpa_nil))) zpa_nil)))))))
   (zpss_one (zps_ret (zpe_cmpR (op_eqL hu) (zpe_compL ["_law_tongue_here","_law_wants_here","_law_book_here","_law_bad","_law_odd"] ["_law_thing"] [0,2] (defScope sRefs) rfl rfl rfl ⟨by decide +kernel,by decide +kernel,by decide +kernel,by decide +kernel,by decide +kernel⟩ (zpi_list (zpv 4)) (fun s H fp=>(zpg_name (i:=0) (show List.Nodup [("_law_thing" : Str),"_law_tongue_here","_law_book_here"] by decide +kernel) rfl (Or.inl rfl))) (fun s H fp=>(zpts_one (zpt_cmpR (op_neVK K rfl hu) (zpe_call GR hr (by rfl) mR kR bR .nil passE0 (zpac_n (zpv 1) (zpac_n (zpv 0) (zpac_n (zpv 2) zpa_nil)))) (zpe_lst (zpac_c zpe_bl (zpac_c zpe_bl zpa_nil))) (nomark _)))) (fun s H fp=>(zpv 0))) (zpe_lst zpa_nil) (nomark _)))))),?_⟩
  obtain ⟨S,F',Pp,xs,g1,g2,g3,g4,g5⟩:=tg.ex
  refine ⟨_,rfl,_,rfl,t,_,rfl,SqT.of g1,(show ¬(HT.sIx 4 0 none=0∧HT.sIx 4 4 (some 3)=4) by decide),?_⟩
  (intro B0 gB0; generalize hEq:upd _ B0 _=H1; refine newC hEq gB0 ?_; clear hEq; intro S1 eB0 o1)
  refine ⟨by show 1≤sizeLine; decide,?_⟩
  (intro N1 gN1; generalize hEq:upd _ N1 _=H2; refine newC hEq gN1 ?_; clear hEq; intro S2 eN1 o2)
  refine ⟨B0,N1,_,_,rfl,rfl,SqT.of (S2 _ _ eB0),SqT.of eN1,?_,by show 3 + 1≤sizeLine; decide,nofun,fun _=>?_⟩
  ·intro z; cases z
  (intro B1 gB1; generalize hEq:upd _ B1 _=H3; refine newC hEq gB1 ?_; clear hEq; intro S3 eB1 o3)
  have T3:=(S1.trans S2).trans S3
  refine ⟨_,rfl,t,_,_,_,rfl,rfl,SqT.of (T3 _ _ g1),rfl,by show 1≤sizeLine; decide,?_⟩
  (intro A2 gA2; generalize hEq:upd _ A2 _=H4; refine newC hEq gA2 ?_; clear hEq; intro S4 eA2 o4)
  refine ⟨by show 0≤sizeLine; decide,?_⟩
  (intro E1 gE1; generalize hEq:upd _ E1 _=H5; refine newC hEq gE1 ?_; clear hEq; intro S5 eE1 o5)
  refine ⟨by show 4≤sizeLine; decide,?_⟩
  (intro B2 gB2; generalize hEq:upd _ B2 _=H6; refine newC hEq gB2 ?_; clear hEq; intro S6 eB2 o6)
  have S36:=(S4.trans S5).trans S6
  have T6:=T3.trans S36
  refine ⟨_,rfl,t,_,_,_,rfl,rfl,SqT.of (T6 _ _ g1),rfl,_,rfl,S,xs,rfl,SqL.of (T6 _ _ g2),?_⟩
  (intro A3 gA3; generalize hEq:upd _ A3 _=H7; refine newC hEq gA3 ?_; clear hEq; intro S7 eA3 o7)
  refine ⟨by show 0≤sizeLine; decide,?_⟩
  (intro E2 gE2; generalize hEq:upd _ E2 _=H8; refine newC hEq gE2 ?_; clear hEq; intro S8 eE2 o8)
  refine ⟨by show 0≤sizeLine; decide,?_⟩
  (intro E3 gE3; generalize hEq:upd _ E3 _=H9; refine newC hEq gE3 ?_; clear hEq; intro S9 eE3 o9)
  refine ⟨by show 4≤sizeLine; decide,?_⟩
  (intro B3 gB3; generalize hEq:upd _ B3 _=H10; refine newC hEq gB3 ?_; clear hEq; intro S10 eB3 o10)
  refine ⟨by show 4≤sizeLine; decide,?_⟩
  (intro BB gBB; generalize hEq:upd _ BB _=H11; refine newC hEq gBB ?_; clear hEq; intro S11 eBB o11)
  have S711:=((S8.trans S9).trans S10).trans S11
  have S611:=S7.trans S711
  have S311:=S36.trans S611
  have T11:=T3.trans S311
  have tg11:=tg.kp (.same T11)
  have fl:=tg.flen
  have pl:=tg.plen
  have xl:xs.length=cs.length:=g3.len
  have c2:=tg.c2
  have tk1:(cutV xs none (some 1)).length < 2:=by
   rw [show cutV xs none (some 1)=xs.take 1 from cut_to _ 1,List.length_take]; omega
  have bads:∀{H':Hp},Kp H11 H'→∀(i:Nat) (x:V),[V.non,.ref B1,.ref B2,.ref B3][i]? = some x→∃v,BadT H' x v:=fun {H'} k i x e=>by
   have k0:=(Kp.same T11).trans k
   have gd:Gd H' S cs:=⟨⟨xs,k0.lst g2,g3.kp k0⟩,tg.nd,tg.c2,tg.c6⟩
   match i,e with
   | 0,e=>cases e; exact ⟨_,.no⟩
   | 1,e=>cases e; exact ⟨_,.late (k.tup (S311 _ _ eB1)) gd (k0.lst g4) tg.fnd tg.fsub (by omega) (k0.lst g5) (.inr ⟨⟨tg.pnd,tg.psub,by omega⟩,rfl,rfl⟩)⟩
   | 2,e=>cases e; exact ⟨_,.firsts (k.tup (S611 _ _ eB2)) gd (k.lst (S611 _ _ (S6 _ _ (S5 _ _ eA2)))) (noA g3)⟩
   | 3,e=>cases e; exact ⟨_,.signs (k.tup (S11 _ _ eB3)) (k.lst (S711 _ _ eA3)) (.inl tk1)⟩
   | i + 4,e=>simp at e
  refine ⟨BB,rfl,⟨_,SqL.of eBB⟩,for_list (K:=K) (a:=BB) (xs:=[V.non,.ref B1,.ref B2,.ref B3]) (fun i σ H'=>(∃v3 v4,σ=[some (.ref t),some (.ref W),some Bk,v3,v4])∧Kp H11 H'∧Tab T1 H'∧Tab T2 H') ⟨⟨_,_,rfl⟩,Kp.refl,h1.same T11,h2.same T11⟩ ?_ ?_ ?_⟩
  ·rintro i σ H' _ ⟨_,k,_⟩
   exact SqL.of (k.lst eBB)
  ·rintro i x σ H12 hx ⟨⟨v3,v4,rfl⟩,k12,a12,b12⟩
   obtain ⟨v,bt⟩:=bads k12 i x hx
   refine ⟨_,rfl,_,rfl,x,_,_,true,rfl,.inl ⟨rfl,v,bt⟩,a12,b12,fun L1 H13 k13 a13 b13 hL1=>?_⟩
   refine ⟨by show 2≤sizeLine; decide,?_⟩
   (intro M1 gM1; generalize hEq:upd _ M1 _=H14; refine newC hEq gM1 ?_; clear hEq; intro S14 eM1 o14)
   refine ⟨L1,M1,_,_,rfl,rfl,SqL.of (S14 _ _ hL1),SqL.of eM1,rfl,rfl,_,rfl,iteF ?_⟩
   have k14:=(k12.trans k13).trans (.same S14)
   obtain ⟨v',bt'⟩:=bads k14 i x hx
   refine ⟨_,rfl,_,rfl,_,rfl,x,_,_,true,rfl,.inl ⟨rfl,v',bt'⟩,a13.same S14,b13.same S14,fun L2 H15 k15 a15 b15 hL2=>?_⟩
   refine ⟨by show 2≤sizeLine; decide,?_⟩
   (intro M2 gM2; generalize hEq:upd _ M2 _=H16; refine newC hEq gM2 ?_; clear hEq; intro S16 eM2 o16)
   refine ⟨L2,M2,_,_,rfl,rfl,SqL.of (S16 _ _ hL2),SqL.of eM2,rfl,rfl,_,rfl,iteF ?_⟩
   exact ⟨⟨_,_,rfl⟩,(k14.trans k15).trans (.same S16),a15.same S16,b15.same S16⟩
  rintro σ H12 ⟨⟨v3,v4,rfl⟩,k12,a12,b12⟩
  have K12:=(Kp.same T11).trans k12
  clear bads tk1 eB1 eB2 eB3 eA2 eA3 eBB S1 S2 S3 S4 S5 S6 S7 S8 S9 S10 S11 o1 o2 o3 o4 o5 o6 o7 o8 o9 o10 o11 gB0 gN1 gB1 gA2 gE1 gB2 gA3 gE2 gE3 gB3 gBB S36 S711 S611 S311 T3 T6 eB0 eN1 eE1 eE2 eE3
  have tg12:=tg.kp K12
  have wt12:=wt.kp K12
  obtain ⟨vs,hW,vl,hv⟩:=wt12.at
  have l1:=wt.l1
  have l20:=wt.l20
  have hv0:vs[0]? = some (vs[0]'(by omega)):=List.getElem?_eq_getElem _
  have hp0:ws[0]? = some (ws[0]'(by omega)):=List.getElem?_eq_getElem _
  obtain ⟨b0,eb0,hb0⟩:=hv 0 _ _ hv0 hp0
  generalize ws[0]'(by omega)=p0 at hp0 hb0
  rw [eb0] at hv0
  refine ⟨by show 0≤sizeLine; decide,?_⟩
  (intro O1 gO1; generalize hEq:upd _ O1 _=H13; refine newC hEq gO1 ?_; clear hEq; intro S13 eO1 o13)
  refine ⟨_,rfl,_,rfl,_,rfl,W,vs,rfl,SqL.of (S13 _ _ hW),?_⟩
  (intro W1 gW1; generalize hEq:upd _ W1 _=H14; refine newC hEq gW1 ?_; clear hEq; intro S14 eW1 o14)
  have T14:=S13.trans S14
  have c1:=cutV_length vs none (some 1)
  refine ⟨_,_,_,_,rfl,rfl,T14 _ _ hW,eW1,Nat.le_trans (show _≤40 by omega) (by decide),?_⟩
  (intro O2 gO2; generalize hEq:upd _ O2 _=H15; refine newC hEq gO2 ?_; clear hEq; intro S15 eO2 o15)
  have T15:=T14.trans S15
  refine ⟨_,rfl,W,_,_,_,rfl,rfl,SqL.of (T15 _ _ hW),atI_nat (j:=0) hv0,b0,_,_,_,rfl,rfl,SqT.of (T15 _ _ hb0),rfl,_,rfl,by show 2≤sizeLine; decide,?_⟩
  (intro X1 gX1; generalize hEq:upd _ X1 _=H16; refine newC hEq gX1 ?_; clear hEq; intro S16 eX1 o16)
  refine ⟨by show 1≤sizeLine; decide,?_⟩
  (intro Y1 gY1; generalize hEq:upd _ Y1 _=H17; refine newC hEq gY1 ?_; clear hEq; intro S17 eY1 o17)
  have T17:=(T15.trans S16).trans S17
  refine ⟨_,rfl,_,rfl,W,vs,rfl,SqL.of (T17 _ _ hW),?_⟩
  (intro W2 gW2; generalize hEq:upd _ W2 _=H18; refine newC hEq gW2 ?_; clear hEq; intro S18 eW2 o18)
  have c2_:=cutV_length vs (some 1) none
  refine ⟨_,_,_,_,rfl,rfl,S18 _ _ eY1,eW2,Nat.le_trans (show 1 + _≤40 by omega) (by decide),?_⟩
  (intro O3 gO3; generalize hEq:upd _ O3 _=H19; refine newC hEq gO3 ?_; clear hEq; intro S19 eO3 o19)
  have T19:=(T17.trans S18).trans S19
  refine ⟨_,rfl,_,rfl,_,rfl,W,vs,rfl,SqL.of (T19 _ _ hW),?_⟩
  (intro W3 gW3; generalize hEq:upd _ W3 _=H20; refine newC hEq gW3 ?_; clear hEq; intro S20 eW3 o20)
  refine ⟨by show 2≤sizeLine; decide,?_⟩
  (intro X2 gX2; generalize hEq:upd _ X2 _=H21; refine newC hEq gX2 ?_; clear hEq; intro S21 eX2 o21)
  refine ⟨by show 1≤sizeLine; decide,?_⟩
  (intro Y2 gY2; generalize hEq:upd _ Y2 _=H22; refine newC hEq gY2 ?_; clear hEq; intro S22 eY2 o22)
  have c3:=cutV_length vs none (some (-1))
  refine ⟨_,_,_,_,rfl,rfl,S22 _ _ (S21 _ _ eW3),eY2,Nat.le_trans (show _ + 1≤40 by omega) (by decide),?_⟩
  (intro O4 gO4; generalize hEq:upd _ O4 _=H23; refine newC hEq gO4 ?_; clear hEq; intro S23 eO4 o23)
  refine ⟨by show 5≤sizeLine; decide,?_⟩
  (intro OO gOO; generalize hEq:upd _ OO _=H24; refine newC hEq gOO ?_; clear hEq; intro S24 eOO o24)
  have S1924:=((((S20.trans S21).trans S22).trans S23).trans S24)
  have S1524:=((((S16.trans S17).trans S18).trans S19).trans S1924)
  have S1224:=T15.trans S1524
  have th:ThW H24 (.ref W):=(wt12.kp (.same S1224)).thw
  have hW24:=S1224 _ _ hW
  have odds:∀(i:Nat) (x:V),[V.non,.ref O1,.ref O2,.ref O3,.ref O4][i]? = some x→ThW H24 x∧∃v,outW H24 x=some v:=fun i x e=>by
   have el:∀y∈vs,ThE H24 y:=fun y hy=>th.els W vs rfl hW24 y hy
   match i,e with
   | 0,e=>cases e; exact ⟨thw_non,_,rfl⟩
   | 1,e=>
    cases e
    have h:=S1524 _ _ (S15 _ _ (S14 _ _ eO1))
    exact ⟨thw_lst h nofun,_,odd_len h (by decide)⟩
   | 2,e=>
    cases e
    have h:=S1524 _ _ eO2
    have tk2:cutV vs none (some 1)=[.ref b0]:=by
     rw [show cutV vs none (some 1)=vs.take 1 from cut_to _ 1,show 1=0 + 1 from rfl,List.take_add_one,hv0]; rfl
    refine ⟨thw_lst h fun y hy=>?_,odd_any h (.inl fun n=>?_)⟩
    ·rcases List.mem_append.mp hy with hy | hy
     ·exact el y hy
     ·exact el y (mem_cut hy)
    ·rw [tk2,List.map_append,List.nodup_append] at n
     exact absurd rfl (n.2.2 (nmS H24 (.ref b0)) (List.mem_map.mpr ⟨_,List.mem_of_getElem? hv0,rfl⟩) (nmS H24 (.ref b0)) (by simp))
   | 3,e=>
    cases e
    have h:=S1924 _ _ eO3
    have hx:=S1924 _ _ (S19 _ _ (S18 _ _ (S17 _ _ eX1)))
    have nm8:=(wt.nm p0 (List.mem_of_getElem? hp0)).2
    have tx:ThE H24 (.ref X1):=by
     refine ⟨.tup hx,fun a ys e e' z hz=>?_⟩
     cases e
     rw [hx] at e'; cases e'
     rcases List.mem_cons.mp hz with rfl | hz
     ·exact ⟨.str _,fun x ex=>by injection ex with ex; rw [← ex]; exact Nat.le_trans nm8 (by decide)⟩
     ·rw [List.mem_singleton.mp hz]; exact ⟨.int _,nofun⟩
    refine ⟨thw_lst h fun y hy=>?_,odd_any h (.inr ⟨.ref X1,by simp,okW_bad hx (by
     show (decide ((0:Int)≤-1) && decide ((-1:Int)≤wM))=false
     rw [decide_eq_false (by decide),Bool.false_and])⟩)⟩
    rcases List.mem_append.mp hy with hy | hy
    ·rw [List.mem_singleton.mp hy]; exact tx
    ·exact el y (mem_cut hy)
   | 4,e=>
    cases e
    have h:=S24 _ _ eO4
    have hx:=S24 _ _ (S23 _ _ (S22 _ _ eX2))
    have tx:ThE H24 (.ref X2):=by
     refine ⟨.tup hx,fun a ys e e' z hz=>?_⟩
     cases e
     rw [hx] at e'; cases e'
     rcases List.mem_cons.mp hz with rfl | hz
     ·exact ⟨.str _,fun x ex=>by injection ex with ex; rw [← ex]; decide⟩
     ·rw [List.mem_singleton.mp hz]; exact ⟨.bl _,nofun⟩
    refine ⟨thw_lst h fun y hy=>?_,odd_any h (.inr ⟨.ref X2,by simp,okW_bad hx rfl⟩)⟩
    rcases List.mem_append.mp hy with hy | hy
    ·exact el y (mem_cut hy)
    ·rw [List.mem_singleton.mp hy]; exact tx
   | i + 5,e=>simp at e
  clear eO1 eO2 eO3 eO4 eW1 eW2 eW3 eX1 eX2 eY1 eY2
  refine ⟨_,rfl,OO,rfl,⟨_,SqL.of eOO⟩,?_⟩
  (intro N0 gN0; generalize hEq:upd _ N0 _=H25; refine newC hEq gN0 ?_; clear hEq; intro S25 eN0 o25)
  have a25:=(a12.same S1224).same S25
  have b25:=(b12.same S1224).same S25
  refine lr_list (K:=K) (S:=OO) (xs:=[V.non,.ref O1,.ref O2,.ref O3,.ref O4]) (fun i σ H'=>(∃v,σ=[v,some (.ref t),some Bk])∧Kp H25 H'∧Tab T1 H'∧Tab T2 H') ⟨⟨_,rfl⟩,Kp.refl,a25,b25⟩ ?_ ?_ ?_
  ·rintro i σ H' ⟨_,k,_⟩
   exact SqL.of (k.lst (S25 _ _ eOO))
  ·rintro i x σ H' C hi ⟨⟨v,rfl⟩,k,a,b⟩ nx
   obtain ⟨tx,u,ou⟩:=odds i x hi
   have kk:Kp H24 H':=(Kp.same S25).trans k
   have tg':=tg12.kp ((Kp.same S1224).trans kk)
   refine ⟨_,rfl,_,rfl,_,rfl,.ref t,x,Bk,false,rfl,.inr ⟨rfl,t,u,cs,fs,ps,lg,rfl,tg',tx.kp kk,by rw [outW_kp tx kk]; exact ou⟩,a,b,fun L1 H26 k26 a26 b26 hL1=>?_⟩
   refine ⟨by show 2≤sizeLine; decide,?_⟩
   (intro M1 gM1; generalize hEq:upd _ M1 _=H27; refine newC hEq gM1 ?_; clear hEq; intro S27 eM1 o27)
   refine ⟨L1,M1,_,_,rfl,rfl,SqL.of (S27 _ _ hL1),SqL.of eM1,rfl,rfl,_,rfl,iteF (nx _ _ ⟨⟨_,rfl⟩,(k.trans k26).trans (.same S27),a26.same S27,b26.same S27⟩)⟩
  rintro σ1 H26 ⟨_,k26,a26,b26⟩
  refine ⟨by show 0≤sizeLine; decide,?_⟩
  (intro E9 gE9; generalize hEq:upd _ E9 _=H27; refine newC hEq gE9 ?_; clear hEq; intro S27 eE9 o27)
  refine ⟨N0,E9,[],[],rfl,rfl,SqL.of (S27 _ _ (k26.lst eN0)),SqL.of eE9,rfl,rfl,?_⟩
  exact q H27 (((K12.trans (.same (S1224.trans S25))).trans k26).trans (.same S27)) (a26.same S27) (b26.same S27)
end
end G1
namespace L2
open PySem
theorem all_true (n:Nat):((List.range n).all fun _=>true)=true:=List.all_eq_true.2 fun _ _=>rfl
theorem ix_listK {X:Cx} (K:PySem.W.Frag) (h:X.K=K):IxR X (rIxL K):=h ▸ ix_list
end L2
namespace G1
open PySem L2 GM
def plainV (x:V):Prop:=flatV x=true∨∃a,x = .ref a
theorem flat_self {x:V} (h:plainV x):(flatV x=true∧flatV x=true∧true=eqV x x)∨∃a,x = .ref a∧x = .ref a∧true=true:=by
 rcases h with h | ⟨a,rfl⟩
 ·refine .inl ⟨h,h,?_⟩
  cases x with
  | non=>rfl
  | bl b=>show true=(b == b); simp
  | int i=>show true=(i == i); simp
  | str z=>show true=(z == z); simp
  | _=>cases h
 ·exact .inr ⟨a,rfl,rfl,rfl⟩
theorem eqdn {K:PySem.W.Frag} {H:Hp}:∀{n:Nat} {x:V},plainV x→EqD K H n x x true
 | 0,_,h=>flat_self h
 | _ + 1,_,h=>.inl (flat_self h)
theorem top_lists {K:PySem.W.Frag} {H:Hp} {n:Nat} {a c:Addr} {xs:List V} (ha:SqL K H a xs) (hc:SqL K H c xs) (hp:∀x∈xs,plainV x):TopR K H (EqD K H n) (.ref a) (.ref c) true:=by
 have z:=TopR.lsts (K:=K) (H:=H) (R:=EqD K H n) (fun _=>true) ha hc rfl fun j x y h1 h2=>by
  rw [h1] at h2; cases h2
  exact eqdn (hp x (List.mem_of_getElem? h1))
 rw [all_true] at z
 exact z
theorem eqd_lists {K:PySem.W.Frag} {H:Hp} {n:Nat} {a c:Addr} {xs:List V} (ha:SqL K H a xs) (hc:SqL K H c xs) (ne:a≠c) (hp:∀x∈xs,plainV x):EqD K H (n + 1) (.ref a) (.ref c) true:=
 .inr ⟨a,c,rfl,rfl,ne,top_lists ha hc hp⟩
theorem Rows.plain {H:Hp} {xs:List V} {cs:List Nat} (h:Rows H xs cs):∀x∈xs,plainV x:=fun x hx=>by
 obtain ⟨i,hi⟩:=List.getElem?_of_mem hx
 obtain ⟨c,_,row⟩:=h.at hi
 obtain ⟨a,_,_,e,_⟩:=row.ex
 exact .inr ⟨a,e⟩
theorem txs_plain (ts:List Str):∀x∈txs ts,plainV x:=fun x hx=>by
 obtain ⟨t,_,rfl⟩:=List.mem_map.mp hx
 exact .inl rfl
theorem Wt.of {H:Hp} {a:Addr} {xs:List V} {ws:List (Str × Int)} (h:H a=some (.lst xs)) (len:xs.length=ws.length) (els:∀(i:Nat) (x:V) (p:Str × Int),xs[i]? = some x→ws[i]? = some p→∃b,x = .ref b∧H b=some (.tup [.str p.1,.int p.2]))
  (nd:(ws.map (·.1)).Nodup) (nm:∀p∈ws,nameB (.str p.1)=true∧p.1.length≤8) (ct:∀p∈ws,0≤p.2∧p.2≤1000000000) (l1:1≤ws.length) (l20:ws.length≤20):Wt H a ws:=by
 have e:((xs.map fun x=>match x with | .ref b=>b | _=>0).map V.ref)=xs:=by
  refine List.ext_getElem? fun i=>?_
  rw [List.getElem?_map,List.getElem?_map]
  cases q:xs[i]? with
  | none=>rfl
  | some x=>
   have il:=(List.getElem?_eq_some_iff.mp q).1
   obtain ⟨b,rfl,_⟩:=els i x _ q (List.getElem?_eq_getElem (show i < ws.length by omega))
   rfl
 refine ⟨⟨_,by rw [e]; exact h,by rw [List.length_map]; exact len,fun i b p e1 e2=>?_⟩,nd,nm,ct,l1,l20⟩
 have q:xs[i]? = some (.ref b):=by rw [← e,List.getElem?_map,e1]; rfl
 obtain ⟨b',eb,hb⟩:=els i _ p q e2
 cases eb
 exact hb
theorem Wt.rev {H H':Hp} {a b:Addr} {xs:List V} {ws:List (Str × Int)} (h:Wt H a ws) (hx:H a=some (.lst xs)) (k:Same H H') (hb:H' b=some (.lst xs.reverse)):Wt H' b ws.reverse:=by
 obtain ⟨ys,h1,h2,h3⟩:=h.at
 rw [hx] at h1
 cases h1
 refine Wt.of hb (by simp [h2]) (fun i x p e1 e2=>?_) (by rw [List.map_reverse]; exact (List.reverse_perm _).nodup_iff.mpr h.nd) (fun p hp=>h.nm p (List.mem_reverse.mp hp)) (fun p hp=>h.ct p (List.mem_reverse.mp hp)) (by rw [List.length_reverse]; exact h.l1) (by rw [List.length_reverse]; exact h.l20)
 have il:=(List.getElem?_eq_some_iff.mp e1).1
 rw [List.length_reverse] at il
 rw [List.getElem?_reverse il] at e1
 rw [List.getElem?_reverse (by omega),← h2] at e2
 obtain ⟨c,ec,hc⟩:=h3 _ x p e1 e2
 exact ⟨c,ec,k _ _ hc⟩
theorem Wt.take {H H':Hp} {a b:Addr} {xs:List V} {ws:List (Str × Int)} {n:Nat} (h:Wt H a ws) (hx:H a=some (.lst xs)) (k:Same H H') (hb:H' b=some (.lst (xs.take n))) (n1:1≤n):Wt H' b (ws.take n):=by
 obtain ⟨ys,h1,h2,h3⟩:=h.at
 rw [hx] at h1
 cases h1
 have l1:=h.l1
 have l20:=h.l20
 refine Wt.of hb (by rw [List.length_take,List.length_take,h2]) (fun i x p e1 e2=>?_) (by rw [List.map_take]; exact (List.take_sublist _ _).nodup h.nd) (fun p hp=>h.nm p (List.mem_of_mem_take hp)) (fun p hp=>h.ct p (List.mem_of_mem_take hp)) (by rw [List.length_take]; omega) (by rw [List.length_take]; omega)
 have il:=(List.getElem?_eq_some_iff.mp e1).1
 rw [List.length_take] at il
 rw [List.getElem?_take_of_lt (by omega)] at e1 e2
 obtain ⟨c,ec,hc⟩:=h3 _ x p e1 e2
 exact ⟨c,ec,k _ _ hc⟩
theorem Wt.drop {H H':Hp} {a b:Addr} {xs:List V} {ws:List (Str × Int)} {n:Nat} (h:Wt H a ws) (hx:H a=some (.lst xs)) (k:Same H H') (hb:H' b=some (.lst (xs.drop n))) (n1:n < ws.length):Wt H' b (ws.drop n):=by
 obtain ⟨ys,h1,h2,h3⟩:=h.at
 rw [hx] at h1
 cases h1
 have l20:=h.l20
 refine Wt.of hb (by rw [List.length_drop,List.length_drop,h2]) (fun i x p e1 e2=>?_) (by rw [List.map_drop]; exact (List.drop_sublist _ _).nodup h.nd) (fun p hp=>h.nm p (List.mem_of_mem_drop hp)) (fun p hp=>h.ct p (List.mem_of_mem_drop hp)) (by rw [List.length_drop]; omega) (by rw [List.length_drop]; omega)
 rw [List.getElem?_drop] at e1 e2
 obtain ⟨c,ec,hc⟩:=h3 _ x p e1 e2
 exact ⟨c,ec,k _ _ hc⟩
theorem costs_nought {A L:Nat→Int} {pp:List (Str × Int)} {zs:List Str}:(costs A L (pp.map fun p=>(p.1,(0:Int))) zs).sum=0:=by
 have:∀C∈costs A L (pp.map fun p=>(p.1,(0:Int))) zs,C=0:=fun C hC=>by
  unfold costs at hC
  obtain ⟨q,hq,rfl⟩:=List.mem_map.mp hC
  have:=(List.of_mem_zip hq).1
  obtain ⟨p,_,e⟩:=List.mem_map.mp this
  rw [← e,Int.zero_mul]
 generalize costs A L (pp.map fun p=>(p.1,(0:Int))) zs=l at this
 induction l with
 | nil=>rfl
 | cons c l ih=>rw [List.sum_cons,this c List.mem_cons_self,ih fun C hC=>this C (List.mem_cons_of_mem _ hC)]; rfl
theorem cut_from (xs:List V) (k:Nat):cutV xs (some (k:Int)) none=xs.drop k:=by
 unfold cutV
 rw [HT.sIx_nat,HT.sIx_none,List.take_of_length_le (by rw [List.length_drop]; omega)]
 by_cases h:k≤xs.length
 ·rw [Nat.min_eq_left h]
 ·rw [Nat.min_eq_right (by omega),List.drop_of_length_le (by omega),List.drop_of_length_le (by omega)]
section
variable {P:Program} {w:World} {K:PySem.W.Frag} {mg:Str→Option Value} {base:Heap} {c:List Addr}
def spLaw (T1 T2:Addr) (K:PySem.W.Frag):Sp:=fun vs H Q _=>∃(a:Addr) (ns:List Int),vs=[.ref a]∧SqL K H a (ns.map V.int)∧ns.length≤63∧Tab T1 H∧Tab T2 H∧∀H',Q (.bl true) H'
theorem scLa:FnScope ["_law_script","_law_tongue_here","_law_words_here","_law_book_here","_law_wants_here","_law_counts","_law_kept","_law_at"] ["_law_script"] (defScope sLaw):=⟨rfl,rfl,rfl,by decide +kernel,rfl,by decide +kernel,by decide +kernel⟩
theorem ok_law {T1 T2:Addr} {f fP fD fT fV fB fW fY fI fC fR:Addr} {fd fdP fdD fdT fdV fdB fdW fdY fdI fdC fdR:FuncData} (F:FunG K "law" "law" sLaw .none f fd) (B:Bl mg)
  (GP:FnOk P w K mg base (CXE P w) 1 fP fdP ["_law_script","_law_k"] (spPool K)) (mP:mg "_law_pool" = some (.ref fP)) (kP:PySem.W.keepIn K (.ref fP)=true) (bP:Binds K fdP ["_law_script","_law_k"] [])
  (GD:FnOk P w K mg base (CXE P w) 1 fD fdD ["_law_pool_here","_law_many"] spDraw) (mD:mg "_law_take" = some (.ref fD)) (kD:PySem.W.keepIn K (.ref fD)=true) (bD:Binds K fdD ["_law_pool_here","_law_many"] [])
  (GT:FnOk P w K mg base (CXE P w) 3 fT fdT ["_law_pool_here","_law_most_signs","_law_most_long"] spTongue) (mT:mg "_law_tongue" = some (.ref fT)) (kT:PySem.W.keepIn K (.ref fT)=true) (bT:Binds K fdT ["_law_pool_here","_law_most_signs","_law_most_long"] [])
  (GV:FnOk P w K mg base (CXE P w) 2 fV fdV ["_law_tongue_here"] spWords) (mV:mg "_law_words" = some (.ref fV)) (kV:PySem.W.keepIn K (.ref fV)=true) (bV:Binds K fdV ["_law_tongue_here"] [])
  (GB:FnOk P w K mg base (CXE P w) 2 fB fdB ["_law_script","_law_words_here"] (spBook K)) (mB:mg "_law_book" = some (.ref fB)) (kB:PySem.W.keepIn K (.ref fB)=true) (bB:Binds K fdB ["_law_script","_law_words_here"] [])
  (GW:FnOk P w K mg base (CXE P w) 2 fW fdW ["_law_pool_here","_law_many"] spWants) (mW:mg "_law_wants" = some (.ref fW)) (kW:PySem.W.keepIn K (.ref fW)=true) (bW:Binds K fdW ["_law_pool_here","_law_many"] [])
  (GY:FnOk P w K mg base (CXE P w) 1 fY fdY ["_law_tongue_here"] (spCopyT K)) (mY:mg "_law_copy" = some (.ref fY)) (kY:PySem.W.keepIn K (.ref fY)=true) (bY:Binds K fdY ["_law_tongue_here"] [])
  (GI:FnOk P w K mg base (CXE P w) 9 fI fdI ["_law_tongue_here","_law_wants_here","_law_book_here"] (spTold K T1 T2)) (mI:mg "_law_is_told" = some (.ref fI)) (kI:PySem.W.keepIn K (.ref fI)=true) (bI:Binds K fdI ["_law_tongue_here","_law_wants_here","_law_book_here"] [])
  (GC:FnOk P w K mg base (CXE P w) 8 fC fdC ["tongue","wants","book"] (spCost K T1 T2)) (mC:mg "cost_of" = some (.ref fC)) (kC:PySem.W.keepIn K (.ref fC)=true) (bC:Binds K fdC ["tongue","wants","book"] [])
  (GR:FnOk P w K mg base (CXE P w) 10 fR fdR ["_law_tongue_here","_law_wants_here","_law_book_here"] (spRefs T1 T2)) (mR:mg "_law_are_refused" = some (.ref fR)) (kR:PySem.W.keepIn K (.ref fR)=true) (bR:Binds K fdR ["_law_tongue_here","_law_wants_here","_law_book_here"] []) :
  FnOk P w K mg base (CXE P w) 11 f fd ["_law_script"] (spLaw T1 T2 K):=by
 refine F.zokN scLa (fun vs H Q E h=>?_) (fun cdv A outer s H vs Q E hr h=>?_)
 ·obtain ⟨a,ns,rfl,_⟩:=h
  rfl
 ·obtain ⟨a,ns,rfl,ha,hlen,hT1,hT2,q⟩:=h
  have hu:=hr.units0
  have hu60:=hr.units60
  refine ⟨_,(zpss_cons (zps_set (i:=1) scLa.nd rfl (Or.inl rfl) (zpe_call GT (hr.mono (by decide)) (by rfl) mT kT bT .nil passE0 (zpac_f (zpe_call GP (hr.mono (by decide)) (by rfl) mP kP bP .nil passE0 (zpac_n (zpv 0) (zpac_c zpe_int zpa_nil))) (zpac_c zpe_int (zpac_c zpe_int zpa_nil)))))
   (zpss_cons (zps_set (i:=2) scLa.nd rfl (Or.inl rfl) (zpe_call GV (hr.mono (by decide)) (by rfl) mV kV bV .nil passE0 (zpac_n (zpv 1) zpa_nil)))
   (zpss_cons (zps_cut (zps_if (zpt_cmpR (op_eqL hu) (zpv 2) (zpe_lst zpa_nil) (nomark _)) (zpss_cons (zps_set (i:=1) scLa.nd rfl (Or.inl rfl) (zpe_tup (zpac_l (zpe_lst (zpac_t (zpe_tup (zpac_c zpe_str (zpac_t (zpe_tup (zpac_c zpe_int (zpac_c zpe_int zpa_nil))) (zpac_t (zpe_tup (zpac_c zpe_int (zpac_c zpe_int zpa_nil))) zpa_nil)))) (zpac_t (zpe_tup (zpac_c zpe_str (zpac_t (zpe_tup (zpac_c zpe_int (zpac_c zpe_int zpa_nil))) (zpac_t (zpe_tup (zpac_c zpe_int (zpac_c zpe_int zpa_nil))) zpa_nil)))) zpa_nil))) (zpac_l (zpe_lst zpa_nil) (zpac_l (zpe_lst zpa_nil) (zpac_c zpe_int zpa_nil))))))
   (zpss_one (zps_set (i:=2) scLa.nd rfl (Or.inl rfl) (zpe_call GV (hr.mono (by decide)) (by rfl) mV kV bV .nil passE0 (zpac_n (zpv 1) zpa_nil))))) zpss_nil))
   (zpss_cons (zps_set (i:=3) scLa.nd rfl (Or.inl rfl) (zpe_call GB (hr.mono (by decide)) (by rfl) mB kB bB .nil passE0 (zpac_n (zpv 0) (zpac_n (zpv 2) zpa_nil))))
   (zpss_cons (zps_set (i:=4) scLa.nd rfl (Or.inr rfl) (zpe_call GW (hr.mono (by decide)) (by rfl) mW kW bW .nil passE0 (zpac_f (zpe_call GP (hr.mono (by decide)) (by rfl) mP kP bP .nil passE0 (zpac_n (zpv 0) (zpac_f (zpe_callB (call_max2 rfl) (by rfl) B.max boot_max (zpac_c zpe_int (zpac_b (zpe_op op_sub (zpe_callB call_len_seq (by rfl) B.len PySem.boot_len (zpac_n (zpv 0) zpa_nil)) zpe_int) zpa_nil))) zpa_nil))) (zpac_f (zpe_callB call_len_seq (by rfl) B.len PySem.boot_len (zpac_n (zpv 3) zpa_nil)) zpa_nil))))
   (zpss_cons (zps_set (i:=5) scLa.nd rfl (Or.inr rfl) (zpe_compL ["_law_script","_law_tongue_here","_law_words_here","_law_book_here","_law_wants_here","_law_counts","_law_kept","_law_at"] ["_law_k"] [0] (defScope sLaw) rfl rfl rfl ⟨by decide +kernel,by decide +kernel,by decide +kernel,by decide +kernel,by decide +kernel⟩ (zpi_range1 (by rfl) B.range (zpac_f (zpe_callB call_len_seq (by rfl) B.len PySem.boot_len (zpac_n (zpv 3) zpa_nil)) zpa_nil)) (fun s H fp=>(zpg_name (i:=0) (show List.Nodup [("_law_k" : Str),"_law_script"] by decide +kernel) rfl (Or.inl rfl))) (fun s H fp=>zpts_nil) (fun s H fp=>(zpe_call GD (hr.mono (by decide)) (by rfl) mD kD bD .nil passE0 (zpac_f (zpe_call GP (hr.mono (by decide)) (by rfl) mP kP bP .nil passE0 (zpac_n (zpv 1) (zpac_b (zpe_op op_add (zpv 0) zpe_int) zpa_nil))) (zpac_b (zpe_op op_add (zpe_op op_pow zpe_int zpe_int) zpe_int) zpa_nil))))))
   (zpss_cons (zps_set (i:=4) scLa.nd rfl (Or.inr rfl) (zpe_compL ["_law_script","_law_tongue_here","_law_words_here","_law_book_here","_law_wants_here","_law_counts","_law_kept","_law_at"] ["_law_k"] [4,5] (defScope sLaw) rfl rfl rfl ⟨by decide +kernel,by decide +kernel,by decide +kernel,by decide +kernel,by decide +kernel⟩ (zpi_range1 (by rfl) B.range (zpac_f (zpe_callB call_len_seq (by rfl) B.len PySem.boot_len (zpac_n (zpv 3) zpa_nil)) zpa_nil)) (fun s H fp=>(zpg_name (i:=0) (show List.Nodup [("_law_k" : Str),"_law_wants_here","_law_counts"] by decide +kernel) rfl (Or.inl rfl))) (fun s H fp=>zpts_nil) (fun s H fp=>(zpe_tup (zpac_s (zpe_ix (ix_tupK K rfl) (zpe_ix (ix_listK K rfl) (zpv 1) (zpv 0) (fun _ _=>rfl)) zpe_int (fun _ _=>rfl)) (zpac_s (zpe_ix (ix_listK K rfl) (zpe_lst (zpac_s (zpe_ix (ix_tupK K rfl) (zpe_ix (ix_listK K rfl) (zpv 1) (zpv 0) (fun _ _=>rfl)) zpe_int (fun _ _=>rfl)) (zpac_s (zpe_ix (ix_listK K rfl) (zpv 2) (zpv 0) (fun _ _=>rfl)) zpa_nil))) (zpe_op op_mod (zpv 0) zpe_int) (fun _ _=>rfl)) zpa_nil))))))
   (zpss_cons (zps_set (i:=6) scLa.nd rfl (Or.inl rfl) (zpe_lst (zpac_f (zpe_call GY (hr.mono (by decide)) (by rfl) mY kY bY .nil passE0 (zpac_n (zpv 1) zpa_nil)) (zpac_f (zpe_callTy call_list_of (by rfl) B.list boot_list (zpac_n (zpv 4) zpa_nil)) (zpac_f (zpe_callTy call_list_of (by rfl) B.list boot_list (zpac_n (zpv 3) zpa_nil)) zpa_nil)))))
   (zpss_cons (zps_if (SPW.pt (zpw_or (zpt_not (zpt_val (zpe_call GI (hr.mono (by decide)) (by rfl) mI kI bI .nil passE0 (zpac_n (zpv 1) (zpac_n (zpv 4) (zpac_n (zpv 3) zpa_nil)))))) (zpw_or1 (zpt_not (zpt_val (zpe_call GI (hr.mono (by decide)) (by rfl) mI kI bI .nil passE0 (zpac_n (zpv 1) (zpac_s (zpe_rev (zpv 4)) (zpac_s (zpe_rev (zpv 3)) zpa_nil))))))))) (zpss_one (zps_ret zpe_bl)) zpss_nil)
   (zpss_cons (zps_set (i:=7) scLa.nd rfl (Or.inl rfl) (zpe_op op_add zpe_int (zpe_call GD (hr.mono (by decide)) (by rfl) mD kD bD .nil passE0 (zpac_f (zpe_call GP (hr.mono (by decide)) (by rfl) mP kP bP .nil passE0 (zpac_n (zpv 0) (zpac_c zpe_int zpa_nil))) (zpac_f (zpe_callB call_len_seq (by rfl) B.len PySem.boot_len (zpac_n (zpv 3) zpa_nil)) zpa_nil)))))
   (zpss_cons (zps_if (zpt_not (zpt_val (zpe_call GI (hr.mono (by decide)) (by rfl) mI kI bI .nil passE0 (zpac_n (zpv 1) (zpac_s (zpe_slice sl_list (zpv 4) zpo_none (zpo_some (zpv 7))) (zpac_s (zpe_slice sl_list (zpv 3) zpo_none (zpo_some (zpv 7))) zpa_nil)))))) (zpss_one (zps_ret zpe_bl)) zpss_nil)
   (zpss_cons (zps_cut (zps_if (SPW.pt (zpw_and (zpt_cmpR op_lt (zpv 7) (zpe_callB call_len_seq (by rfl) B.len PySem.boot_len (zpac_n (zpv 3) zpa_nil)) (nomark _)) (zpw_and1 (zpt_not (zpt_val (zpe_call GI (hr.mono (by decide)) (by rfl) mI kI bI .nil passE0 (zpac_n (zpv 1) (zpac_s (zpe_slice sl_list (zpv 4) (zpo_some (zpv 7)) zpo_none) (zpac_s (zpe_slice sl_list (zpv 3) (zpo_some (zpv 7)) zpo_none) zpa_nil))))))))) (zpss_one (zps_ret zpe_bl)) zpss_nil))
   (zpss_cons (zps_if (zpt_cmpR (op_neT hu) (zpe_call GC (hr.mono (by decide)) (by rfl) mC kC bC .nil passE0 (zpac_n (zpv 1) (zpac_x (zpe_compL ["_law_script","_law_tongue_here","_law_words_here","_law_book_here","_law_wants_here","_law_counts","_law_kept","_law_at"] ["_law_name_here","_law_count"] [] (defScope sLaw) rfl rfl rfl ⟨by decide +kernel,by decide +kernel,by decide +kernel,by decide +kernel,by decide +kernel⟩ (zpi_list (zpv 4)) (fun s H fp=>(zpg_tupK K 2 rfl rfl (zpgs_cons (zpg_name (i:=0) (show List.Nodup [("_law_name_here" : Str),"_law_count"] by decide +kernel) rfl (Or.inl rfl)) (zpgs_cons (zpg_name (i:=1) (show List.Nodup [("_law_name_here" : Str),"_law_count"] by decide +kernel) rfl (Or.inl rfl)) zpgs_nil)))) (fun s H fp=>zpts_nil) (fun s H fp=>(zpe_tup (zpac_n (zpv 0) (zpac_c zpe_int zpa_nil))))) (zpac_n (zpv 3) zpa_nil)))) (zpe_tup (zpac_c zpe_int (zpac_c zpe_int zpa_nil))) (nomark _)) (zpss_one (zps_ret zpe_bl)) zpss_nil)
   (zpss_cons (zps_if (zpt_not (zpt_val (zpe_call GR hr (by rfl) mR kR bR .nil passE0 (zpac_n (zpv 1) (zpac_n (zpv 4) (zpac_n (zpv 3) zpa_nil)))))) (zpss_one (zps_ret zpe_bl)) zpss_nil)
   (zpss_one (zps_ret (zpe_cmpR (op_eqD hu60) (zpe_lst (zpac_n (zpv 1) (zpac_n (zpv 4) (zpac_n (zpv 3) zpa_nil)))) (zpv 6) (nomark _)))))))))))))))))),?_⟩
  refine ⟨_,rfl,a,ns,0,rfl,ha,by decide,by decide,fun p H1 hp s1 k1=>?_⟩
  refine ⟨p,6,8,rfl,s1,by decide,by decide,by decide,by decide,fun t cs fs ps lg H2 tg tp s2 E2=>?_⟩
  have S2:Same H H2:=fun b o e=>E2 b o (ne_of_none e hp) ((k1 b (ne_of_none e hp)).trans e)
  obtain ⟨xs,tx⟩:=tg.x
  refine ⟨_,rfl,t,xs,cs,fs,ps,lg,rfl,tg,tx,fun b ws H3 S3 bn hb wds w3 _=>?_⟩
  refine ⟨fun σ H'=>∃t xs cs fs ps lg b ws,σ=[some (.ref a),some (.ref t),some (.ref b),none,none,none,none,none]∧Tg H' t cs fs ps lg∧TgX H' t xs cs∧H' b=some (.lst (txs ws))∧Wds H' xs cs fs ps lg ws∧1≤ws.length∧ws.length≤3000∧Same H H',?_,?_⟩
  ·refine ⟨_,rfl,by show 0≤sizeLine; decide,?_⟩
   (intro Z0 gZ0; generalize hEq:upd _ Z0 _=H3'; refine newC hEq gZ0 ?_; clear hEq; intro S3' eZ0 oZ0)
   have S3:=S3.trans S3'
   have hb:=S3' _ _ hb
   refine ⟨b,Z0,_,_,rfl,rfl,SqL.of hb,SqL.of eZ0,txs_flat _,rfl,_,rfl,?_⟩
   refine ite2 (fun en=>?_) (fun en=>?_)
   ·skip
    refine ⟨by show 2≤sizeLine; decide,?_⟩
    (intro A1 gA1; generalize hEq:upd _ A1 _=H4; refine newC hEq gA1 ?_; clear hEq; intro S4 eA1 oA1)
    refine ⟨by show 2≤sizeLine; decide,?_⟩
    (intro A2 gA2; generalize hEq:upd _ A2 _=H5; refine newC hEq gA2 ?_; clear hEq; intro S5 eA2 oA2)
    refine ⟨by show 3≤sizeLine; decide,?_⟩
    (intro R1 gR1; generalize hEq:upd _ R1 _=H6; refine newC hEq gR1 ?_; clear hEq; intro S6 eR1 oR1)
    refine ⟨by show 2≤sizeLine; decide,?_⟩
    (intro A3 gA3; generalize hEq:upd _ A3 _=H7; refine newC hEq gA3 ?_; clear hEq; intro S7 eA3 oA3)
    refine ⟨by show 2≤sizeLine; decide,?_⟩
    (intro A4 gA4; generalize hEq:upd _ A4 _=H8; refine newC hEq gA4 ?_; clear hEq; intro S8 eA4 oA4)
    refine ⟨by show 3≤sizeLine; decide,?_⟩
    (intro R2 gR2; generalize hEq:upd _ R2 _=H9; refine newC hEq gR2 ?_; clear hEq; intro S9 eR2 oR2)
    refine ⟨by show 2≤sizeLine; decide,?_⟩
    (intro L1 gL1; generalize hEq:upd _ L1 _=H10; refine newC hEq gL1 ?_; clear hEq; intro S10 eL1 oL1)
    refine ⟨by show 0≤sizeLine; decide,?_⟩
    (intro F1 gF1; generalize hEq:upd _ F1 _=H11; refine newC hEq gF1 ?_; clear hEq; intro S11 eF1 oF1)
    refine ⟨by show 0≤sizeLine; decide,?_⟩
    (intro P1 gP1; generalize hEq:upd _ P1 _=H12; refine newC hEq gP1 ?_; clear hEq; intro S12 eP1 oP1)
    refine ⟨by show 4≤sizeLine; decide,?_⟩
    (intro T1_ gT1_; generalize hEq:upd _ T1_ _=H13; refine newC hEq gT1_ ?_; clear hEq; intro S13 eT1_ oT1_)
    have fA1:=S13 _ _ (S12 _ _ (S11 _ _ (S10 _ _ (S9 _ _ (S8 _ _ (S7 _ _ (S6 _ _ (S5 _ _ (eA1)))))))))
    have fA2:=S13 _ _ (S12 _ _ (S11 _ _ (S10 _ _ (S9 _ _ (S8 _ _ (S7 _ _ (S6 _ _ (eA2))))))))
    have fR1:=S13 _ _ (S12 _ _ (S11 _ _ (S10 _ _ (S9 _ _ (S8 _ _ (S7 _ _ (eR1)))))))
    have fA3:=S13 _ _ (S12 _ _ (S11 _ _ (S10 _ _ (S9 _ _ (S8 _ _ (eA3))))))
    have fA4:=S13 _ _ (S12 _ _ (S11 _ _ (S10 _ _ (S9 _ _ (eA4)))))
    have fR2:=S13 _ _ (S12 _ _ (S11 _ _ (S10 _ _ (eR2))))
    have fL1:=S13 _ _ (S12 _ _ (S11 _ _ (eL1)))
    have fF1:=S13 _ _ (S12 _ _ (eF1))
    have fP1:=S13 _ _ (eP1)
    have fT1_:=eT1_
    have S2L:Same H2 H13:=S3.trans (((((((((S4.trans S5).trans S6).trans S7).trans S8).trans S9).trans S10).trans S11).trans S12).trans S13)
    have b98:("b" : Str)=sg1 98:=by decide +kernel
    have b97:("a" : Str)=sg1 97:=by decide +kernel
    rw [b98] at fR1
    rw [b97] at fR2
    have pr:∀{A:Addr} {n d:Int},H13 A=some (.tup [.int n,.int d])→0 < n→0 < d→Nat.gcd n.natAbs d.natAbs=1→n≤1000000000→d≤1000000000→PrA H13 (.ref A):=fun e a b c d f=>⟨⟨_,_,_,rfl,e,a,b,c,d,f⟩⟩
    have p1:=pr fA1 (by decide) (by decide) (by decide) (by decide) (by decide)
    have p2:=pr fA2 (by decide) (by decide) (by decide) (by decide) (by decide)
    have p3:=pr fA3 (by decide) (by decide) (by decide) (by decide) (by decide)
    have p4:=pr fA4 (by decide) (by decide) (by decide) (by decide) (by decide)
    have r1:Row H13 (.ref R1) 98:=⟨⟨R1,_,_,rfl,fR1,p1,.inr p2⟩,by decide +kernel⟩
    have r2:Row H13 (.ref R2) 97:=⟨⟨R2,_,_,rfl,fR2,p3,.inr p4⟩,by decide +kernel⟩
    have rows:Rows H13 [.ref R1,.ref R2] [98,97]:=⟨rfl,fun i x c e1 e2=>by
     match i,e1,e2 with
     | 0,e1,e2=>cases e1; cases e2; exact r1
     | 1,e1,e2=>cases e1; cases e2; exact r2
     | i + 2,e1,_=>simp at e1⟩
    have tg':Tg H13 T1_ [98,97] [] [] 2:=⟨⟨L1,F1,P1,_,fT1_,fL1,rows,fF1,fP1⟩,by decide,by decide,by decide,.nil,nofun,.nil,nofun,by decide,by decide⟩
    have tx':TgX H13 T1_ [.ref R1,.ref R2] [98,97]:=⟨⟨L1,_,_,_,fT1_,fL1⟩,rows⟩
    refine ⟨_,rfl,T1_,_,_,[],[],2,rfl,tg',tx',fun b ws H14 S14 bn hb wds w3 ne=>?_⟩
    refine ⟨T1_,_,_,[],[],2,b,ws,rfl,tg'.kp (.same S14),tx'.kp (.same S14),hb,fun z hz=>by rw [wdB_kp _ rows (.same S14)]; exact wds z hz,?_,w3,(S2.trans S2L).trans S14⟩
    have w0:W0 H13 [.ref R1,.ref R2] [98,97] []:=⟨rfl,fun c hc=>by
     rcases List.mem_cons.mp hc with rfl | hc
     ·exact endB_t ⟨0,_,rfl,rfl,by simp [lastV,fR1]⟩
     ·rw [List.mem_singleton.mp hc]
      exact endB_t ⟨1,_,rfl,rfl,by simp [lastV,fR2]⟩⟩
    exact List.length_pos_iff.mpr (ne w0)
   ·refine ⟨t,xs,cs,fs,ps,lg,b,ws,rfl,tg.kp (.same S3),tx.kp (.same S3),hb,fun z hz=>by rw [wdB_kp _ tx.rows (.same S3)]; exact wds z hz,?_,w3,S2.trans S3⟩
    rcases Nat.eq_zero_or_pos ws.length with z | z
    ·obtain rfl:=List.length_eq_zero_iff.mp z
     exact absurd rfl en
    ·exact z
  rintro σ H4 ⟨t,xs,cs,fs,ps,lg,b,ws,rfl,tg,tx,hb,wds,w1,w3,S4⟩
  obtain ⟨pa,pl,M,A,L,tm,wdm⟩:=tg.m tx
  have sq:∀{H':Hp},Same H4 H'→SqL K H' a (ns.map V.int):=fun k=>(Kp.same (S4.trans k)).seq ha
  refine ⟨_,rfl,_,rfl,a,b,ns,ws,rfl,sq (Same.refl _),hlen,hb,w1,w3,fun Bk zs H5 S5 hBk Bn z1 z20 zsub=>?_⟩
  have wz:∀z∈zs,WdM cs pl z:=fun z hz=>wdm z (wds z (zsub z hz))
  have max0:0≤(if ((ns.map V.int).length:Int) - 1 > 0 then ((ns.map V.int).length:Int) - 1 else 0)∧(if ((ns.map V.int).length:Int) - 1 > 0 then ((ns.map V.int).length:Int) - 1 else 0)≤1000:=by
   rw [List.length_map]; split <;> omega
  refine ⟨_,rfl,_,rfl,a,_,rfl,.inl (sq S5),_,_,rfl,rfl,_,_,rfl,a,ns,_,rfl,sq S5,max0.1,max0.2,fun p6 H6 hp6 s6 k6=>?_⟩
  have S56:Same H5 H6:=fun b o e=>(k6 b (ne_of_none e hp6)).trans e
  refine ⟨_,rfl,Bk,_,rfl,.inl (SqL.of (S56 _ _ hBk)),p6,zs.length,by rw [txs_len]; rfl,s6,z20,fun W sa H7 gW wl Wp s7 E7=>?_⟩
  have S57:Same H5 H7:=fun b o e=>E7 b o (ne_of_none e hp6) (S56 _ _ e)
  obtain ⟨us,hW,ul,hu_⟩:=wl.ex
  refine ⟨_,rfl,Bk,_,rfl,.inl (SqL.of (S57 _ _ hBk)),?_⟩
  refine ⟨_,rfl,by rw [txs_len]; omega,by rw [txs_len]; omega,?_⟩
  (intro C gC; generalize hEq:upd _ C _=H8; refine newC hEq gC ?_; clear hEq; intro S8 eC oC)
  have S58:=S57.trans S8
  have zn:((txs zs).length:Int).toNat=zs.length:=by rw [txs_len]; omega
  rw [zn]
  refine lr_range (fun i σ H'=>(∃v,σ=[v,some (.ref a)])∧Same H7 H'∧∃cts:List Int,H' C=some (.lst (cts.map V.int))∧cts.length=i∧∀d∈cts,0≤d∧d≤1000000000) ⟨⟨_,rfl⟩,S8,[],eC,rfl,nofun⟩ ?_ ?_
  ·rintro i σ H' Cn hi ⟨⟨v,rfl⟩,k,cts,hC,cl,cb⟩ nx
   have hi:i < zs.length:=hi
   have S5_:=S57.trans k
   refine ⟨_,rfl,_,rfl,_,_,rfl,rfl,a,ns,_,rfl,sq (S5.trans S5_),by omega,by omega,fun p9 H9 hp9 s9 k9=>?_⟩
   have np:∀{b:Addr} {o:HO},H' b=some o→b≠p9:=fun e=>ne_of_none e hp9
   refine ⟨_,_,rfl,rfl,⟨by decide,by decide,by decide⟩,_,_,rfl,rfl,p9,_,rfl,s9,by decide,by decide +kernel,fun d H10 d0 d1 s10 k10=>?_⟩
   have S910:Same H' H10:=fun b o e=>(k10 b (np e)).trans ((k9 b (np e)).trans e)
   have d9:d≤1000000000:=by
    have e:(10:Int) ^ (9:Int).toNat=1000000000:=pw9
    rw [e] at d1
    omega
   refine ⟨_,S910 _ _ hC,?_,nx _ _ ⟨⟨_,rfl⟩,fun b o e=>?_,cts ++ [d],?_,by rw [List.length_append,cl]; rfl,fun y my=>?_⟩⟩
   ·rw [List.length_map,cl]; exact Nat.lt_of_le_of_lt (show i≤20 by omega) (by decide)
   ·rw [upd_ne (ne_of_none e gC)]; exact S910 _ _ (k _ _ e)
   ·rw [List.map_append]; exact upd_same
   ·rcases List.mem_append.mp my with my | my
    ·exact cb y my
    ·rw [List.mem_singleton.mp my]; exact ⟨d0,d9⟩
  rintro σ9 H9 ⟨_,S9,cts,hC,cl,cb⟩
  have S59:=S57.trans S9
  refine ⟨_,rfl,Bk,_,rfl,.inl (SqL.of (S59 _ _ hBk)),_,rfl,by rw [txs_len]; omega,by rw [txs_len]; omega,?_⟩
  (intro W2 gW2; generalize hEq:upd _ W2 _=H10; refine newC hEq gW2 ?_; clear hEq; intro S10 eW2 oW2)
  rw [zn]
  have hW9:=S9 _ _ hW
  refine lr_range (fun i σ H'=>(∃v,σ=[v,some (.ref W),some (.ref C)])∧Same H9 H'∧∃(vs:List V) (pp:List (Str × Int)),H' W2=some (.lst vs)∧vs.length=i∧pp.length=i∧∀(j:Nat) (x:V) (p:Str × Int),vs[j]? = some x→pp[j]? = some p→(∃b,x = .ref b∧H' b=some (.tup [.str p.1,.int p.2]))∧p.1=nmT j sa∧0≤p.2∧p.2≤1000000000) ⟨⟨_,rfl⟩,S10,[],[],eW2,rfl,rfl,fun j x p e=>by simp at e⟩ ?_ ?_
  ·rintro i σ H' Cn hi ⟨⟨v,rfl⟩,k,vs,pp,hV,vl,ppl,vf⟩ nx
   have hi:i < zs.length:=hi
   have hui:us[i]? = some (us[i]'(by omega)):=List.getElem?_eq_getElem _
   obtain ⟨wa,wc,ewa,hwa,wc0,wc1⟩:=hu_ i _ hui
   rw [ewa] at hui
   have hci:cts[i]? = some (cts[i]'(by omega)):=List.getElem?_eq_getElem _
   obtain ⟨cc0,cc1⟩:=cb _ (List.mem_of_getElem? hci)
   generalize cts[i]'(by omega)=cc at hci cc0 cc1
   have hci':(cts.map V.int)[i]? = some (.int cc):=by rw [List.getElem?_map,hci]; rfl
   have hW':=k _ _ hW9
   have hwa':=k _ _ (S9 _ _ hwa)
   have hC':=k _ _ hC
   have eI:(0:Int) + (i:Int)=(i:Int):=Int.zero_add _
   rw [eI]
   refine ⟨_,rfl,_,rfl,W,_,_,_,rfl,rfl,SqL.of hW',atI_nat hui,wa,_,_,_,rfl,rfl,SqT.of hwa',rfl,?_⟩
   refine ⟨_,rfl,_,rfl,W,_,_,_,rfl,rfl,SqL.of hW',atI_nat hui,wa,_,_,_,rfl,rfl,SqT.of hwa',rfl,_,rfl,_,rfl,C,_,_,_,rfl,rfl,SqL.of hC',atI_nat hci',by show 2≤sizeLine; decide,?_⟩
   (intro l gl; generalize hEq:upd _ l _=H11; refine newC hEq gl ?_; clear hEq; intro S11 el o11)
   obtain ⟨m,em,m0,m1⟩:∃m:Int,atI [V.int wc,V.int cc] ((i:Int) % 2)=some (.int m)∧0≤m∧m≤1000000000:=by
    rcases (show (i:Int) % 2=0∨(i:Int) % 2=1 by omega) with e | e
    ·rw [e]; exact ⟨wc,rfl,wc0,wc1⟩
    ·rw [e]; exact ⟨cc,rfl,cc0,cc1⟩
   refine ⟨_,rfl,_,_,rfl,rfl,(by show (0:Int) < 2; decide),l,_,_,_,rfl,rfl,SqL.of el,em,by show 2≤sizeLine; decide,?_⟩
   (intro tt gt; generalize hEq:upd _ tt _=H12; refine newC hEq gt ?_; clear hEq; intro S12 et o12)
   have S1112:=S11.trans S12
   have hV12:=S1112 _ _ hV
   have nl:∀{d:Addr} {ys:List V},H12 d=some (.tup ys)→d≠W2:=fun h z=>by rw [z,hV12] at h; cases h
   refine ⟨_,hV12,?_,nx _ _ ⟨⟨_,rfl⟩,fun b o e=>?_,vs ++ [.ref tt],pp ++ [(nmT i sa,m)],upd_same,by rw [List.length_append,vl]; rfl,by rw [List.length_append,ppl]; rfl,fun j x p e1 e2=>?_⟩⟩
   ·rw [vl]; exact Nat.lt_of_le_of_lt (show i≤20 by omega) (by decide)
   ·rw [upd_ne (ne_of_none e gW2)]; exact S1112 _ _ (k _ _ e)
   ·by_cases jl:j < i
    ·rw [List.getElem?_append_left (by omega)] at e1 e2
     obtain ⟨⟨b,eb,hb⟩,r⟩:=vf j x p e1 e2
     have h12:=S1112 _ _ hb
     exact ⟨⟨b,eb,by rw [upd_ne (nl h12)]; exact h12⟩,r⟩
    ·rw [List.getElem?_append_right (by omega)] at e1 e2
     have ej:j=i:=by
      have:=(List.getElem?_eq_some_iff.mp e1).1
      simp at this; omega
     subst ej
     rw [vl,Nat.sub_self] at e1
     rw [ppl,Nat.sub_self] at e2
     cases e1; cases e2
     exact ⟨⟨tt,rfl,by rw [upd_ne (nl et)]; exact et⟩,rfl,m0,m1⟩
  rintro σ11 H11 ⟨_,S11,vs,pp,hV,vl,ppl,vf⟩
  have vl:vs.length=zs.length:=vl
  have ppl:pp.length=zs.length:=ppl
  have S511:=S59.trans S11
  have S411:=S5.trans S511
  have ppf:∀(j:Nat) (p:Str × Int),pp[j]? = some p→p.1=nmT j sa∧0≤p.2∧p.2≤1000000000:=fun j p e=>by
   have jl:=(List.getElem?_eq_some_iff.mp e).1
   exact (vf j _ p (List.getElem?_eq_getElem (show j < vs.length by omega)) e).2
  have ppm:∀p∈pp,∃j,p.1=nmT j sa∧0≤p.2∧p.2≤1000000000:=fun p hp=>by
   obtain ⟨j,hj⟩:=List.getElem?_of_mem hp
   exact ⟨j,ppf j p hj⟩
  have wt:Wt H11 W2 pp:=by
   refine Wt.of hV (by omega) (fun i x p e1 e2=>(vf i x p e1 e2).1) ?_ (fun p hp=>?_) (fun p hp=>?_) (by omega) (by omega)
   ·rw [List.nodup_iff_pairwise_ne,List.pairwise_iff_getElem]
    intro i j hi hj ij e
    rw [List.length_map] at hi hj
    rw [List.getElem_map,List.getElem_map,(ppf i _ (List.getElem?_eq_getElem hi)).1,(ppf j _ (List.getElem?_eq_getElem hj)).1] at e
    have:=nmT_inj (by omega) (by omega) e
    omega
   ·obtain ⟨j,e,_⟩:=ppm p hp
    rw [e]; exact ⟨nmT_name j sa,nmT_len j sa⟩
   ·obtain ⟨j,_,r⟩:=ppm p hp
    exact r
  obtain ⟨S,F',Pp,xs',g1,g2,g3,g4,g5⟩:=tg.ex
  have hBk11:=S511 _ _ hBk
  refine ⟨_,rfl,t,S,F',Pp,_,xs',txs fs,txs ps,rfl,S411 _ _ g1,S411 _ _ g2,S411 _ _ g4,S411 _ _ g5,fun u Su Fu Pu H12 nu nS nF nP e1 e2 e3 e4 S12=>?_⟩
  refine ⟨_,rfl,W2,_,rfl,.inl (SqL.of (S12 _ _ hV)),?_⟩
  (intro CW gCW; generalize hEq:upd _ CW _=H13; refine newC hEq gCW ?_; clear hEq; intro S13 eCW o13)
  refine ⟨_,rfl,Bk,_,rfl,.inl (SqL.of (S13 _ _ (S12 _ _ hBk11))),?_⟩
  (intro CB gCB; generalize hEq:upd _ CB _=H14; refine newC hEq gCB ?_; clear hEq; intro S14 eCB o14)
  refine ⟨by show 3≤sizeLine; decide,?_⟩
  (intro KK gKK; generalize hEq:upd _ KK _=H15; refine newC hEq gKK ?_; clear hEq; intro S15 eKK o15)
  have S1115:=((S12.trans S13).trans S14).trans S15
  have S415:=S411.trans S1115
  have hV15:=S1115 _ _ hV
  have hB15:=S1115 _ _ hBk11
  have tg15:=tg.kp (.same S415)
  have tm15:=tm.kp (.same S415)
  have wt15:=wt.kp (.same S1115)
  have t15a:=(hT1.same S4).same S415
  have t15b:=(hT2.same S4).same S415
  have fu:=S15 _ _ (S14 _ _ (S13 _ _ e1))
  have fSu:=S15 _ _ (S14 _ _ (S13 _ _ e2))
  have fFu:=S15 _ _ (S14 _ _ (S13 _ _ e3))
  have fPu:=S15 _ _ (S14 _ _ (S13 _ _ e4))
  have fCW:=S15 _ _ (S14 _ _ eCW)
  have fCB:=S15 _ _ eCB
  have ntu:t≠u:=ne_of_none (S411 _ _ g1) nu
  have nSu:S≠Su:=ne_of_none (S411 _ _ g2) nS
  have nFu:F'≠Fu:=ne_of_none (S411 _ _ g4) nF
  have nPu:Pp≠Pu:=ne_of_none (S411 _ _ g5) nP
  have nWc:W2≠CW:=ne_of_none (S12 _ _ hV) gCW
  have nBc:Bk≠CB:=ne_of_none (S13 _ _ (S12 _ _ hBk11)) gCB
  have sq15:∀{H':Hp},Kp H15 H'→SqL K H' a (ns.map V.int):=fun k=>((Kp.same (S4.trans S415)).trans k).seq ha
  have h15:H15 t=some (.tup [.ref S,.ref F',.ref Pp,.int lg]):=S415 _ _ g1
  have hS15:=S415 _ _ g2
  have hF15:=S415 _ _ g4
  have hP15:=S415 _ _ g5
  have rows15:=g3.kp (.same S415)
  clear e1 e2 e3 e4 S12 S13 S14 S15 o13 o14 o15 nu nS nF nP gCW gCB eCW eCB S511 S411 S59 S9 S58 S8 S57 S56 S11 S10 vf eC oC eW2 oW2 wl
  refine ⟨_,rfl,_,rfl,_,rfl,t,W2,Bk,cs,fs,ps,lg,pa,pl,M,A,L,pp,zs,rfl,tg15,tm15,wt15,hB15,by omega,wz,t15a,t15b,fun H16 k16 a16 b16=>⟨_,rfl,iteF ?_⟩⟩
  refine ⟨_,rfl,_,rfl,W2,vs,rfl,SqL.of (k16.lst hV15),?_⟩
  (intro R1 gR1; generalize hEq:upd _ R1 _=H17; refine newC hEq gR1 ?_; clear hEq; intro S17 eR1 o17)
  refine ⟨_,rfl,Bk,_,rfl,SqL.of (S17 _ _ (k16.lst hB15)),?_⟩
  (intro R2 gR2; generalize hEq:upd _ R2 _=H18; refine newC hEq gR2 ?_; clear hEq; intro S18 eR2 o18)
  have S1618:=S17.trans S18
  have k18:=k16.trans (.same S1618)
  have er:(txs zs).reverse=txs zs.reverse:=by unfold txs; rw [List.map_reverse]
  rw [er] at eR2
  refine ⟨t,R1,R2,cs,fs,ps,lg,pa,pl,M,A,L,pp.reverse,zs.reverse,rfl,tg15.kp k18,tm15.kp k18,(wt15.kp k16).rev (k16.lst hV15) S1618 (S18 _ _ eR1),eR2,by simp; omega,fun z hz=>wz z (List.mem_reverse.mp hz),a16.same S1618,b16.same S1618,fun H19 k19 a19 b19=>⟨_,rfl,iteF ?_⟩⟩
  have K19:=k18.trans k19
  refine ⟨_,rfl,a,ns,1,rfl,sq15 K19,by decide,by decide,fun p20 H20 hp20 s20 k20=>?_⟩
  have kp20:Kp H19 H20:=fun b o e _=>(k20 b (ne_of_none e hp20)).trans e
  refine ⟨_,rfl,Bk,_,rfl,.inl (SqL.of ((K19.trans kp20).lst hB15)),p20,_,rfl,s20,by rw [txs_len]; omega,by rw [txs_len]; exact Nat.lt_of_le_of_lt (show ((zs.length:Nat):Int).natAbs≤20 by omega) (by decide +kernel),fun d H21 d0 d1 s21 k21=>⟨_,_,rfl,rfl,?_⟩⟩
  rw [txs_len] at d1
  have kp21:Kp H19 H21:=fun b o e _=>(k21 b (ne_of_none e hp20)).trans ((k20 b (ne_of_none e hp20)).trans e)
  have tb21:∀{T:Addr},Tab T H19→Tab T H21:=fun h=>by
   obtain ⟨ps,e,r⟩:=h
   have np:=ne_of_none e hp20
   exact ⟨ps,(k21 _ np).trans ((k20 _ np).trans e),r⟩
  obtain ⟨n,hn⟩:∃n:Nat,1 + d=n:=⟨(1 + d).toNat,by omega⟩
  rw [show ((fun i j:Int=>V.int (i + j)) 1 d)=V.int (n:Int) from congrArg V.int hn]
  have K21:=K19.trans kp21
  have n1:1≤n:=by omega
  have nz:n≤zs.length:=by omega
  refine ⟨_,rfl,_,rfl,_,rfl,_,rfl,W2,vs,rfl,SqL.of (K21.lst hV15),?_⟩
  (intro P1 gP1; generalize hEq:upd _ P1 _=H22; refine newC hEq gP1 ?_; clear hEq; intro S22 eP1 o22)
  refine ⟨_,rfl,_,rfl,_,rfl,Bk,_,rfl,SqL.of (S22 _ _ (K21.lst hB15)),?_⟩
  (intro P2 gP2; generalize hEq:upd _ P2 _=H23; refine newC hEq gP2 ?_; clear hEq; intro S23 eP2 o23)
  have S2123:=S22.trans S23
  have K23:=K21.trans (.same S2123)
  rw [cut_to] at eP1 eP2
  have et:(txs zs).take n=txs (zs.take n):=txs_take _ _
  rw [et] at eP2
  refine ⟨t,P1,P2,cs,fs,ps,lg,pa,pl,M,A,L,pp.take n,zs.take n,rfl,tg15.kp K23,tm15.kp K23,(wt15.kp K21).take (K21.lst hV15) S2123 (S23 _ _ eP1) n1,eP2,by rw [List.length_take,List.length_take]; omega,fun z hz=>wz z (List.mem_of_mem_take hz),(tb21 a19).same S2123,(tb21 b19).same S2123,fun H24 k24 a24 b24=>⟨_,rfl,iteF ?_⟩⟩
  have K24:=K23.trans k24
  refine ⟨fun σ H'=>σ=[some (.ref a),some (.ref t),some (.ref b),some (.ref Bk),some (.ref W2),some (.ref C),some (.ref KK),some (.int n)]∧Kp H15 H'∧Tab T1 H'∧Tab T2 H',?_,?_⟩
  ·refine ⟨_,rfl,_,rfl,Bk,_,rfl,.inl (SqL.of (K24.lst hB15)),_,_,rfl,rfl,_,rfl,?_⟩
   refine ite2 (fun lt=>?_) (fun _=>⟨rfl,K24,a24,b24⟩)
   have lt:(n:Int) < ((txs zs).length:Int):=of_decide_eq_true lt
   rw [txs_len] at lt
   refine ⟨_,rfl,_,rfl,_,rfl,_,rfl,W2,vs,rfl,SqL.of (K24.lst hV15),?_⟩
   (intro Q1 gQ1; generalize hEq:upd _ Q1 _=H25; refine newC hEq gQ1 ?_; clear hEq; intro S25 eQ1 o25)
   refine ⟨_,rfl,_,rfl,_,rfl,Bk,_,rfl,SqL.of (S25 _ _ (K24.lst hB15)),?_⟩
   (intro Q2 gQ2; generalize hEq:upd _ Q2 _=H26; refine newC hEq gQ2 ?_; clear hEq; intro S26 eQ2 o26)
   have S2426:=S25.trans S26
   have K26:=K24.trans (.same S2426)
   rw [cut_from] at eQ1 eQ2
   have et:(txs zs).drop n=txs (zs.drop n):=txs_drop _ _
   rw [et] at eQ2
   refine ⟨t,Q1,Q2,cs,fs,ps,lg,pa,pl,M,A,L,pp.drop n,zs.drop n,rfl,tg15.kp K26,tm15.kp K26,(wt15.kp K24).drop (K24.lst hV15) S2426 (S26 _ _ eQ1) (by omega),eQ2,by rw [List.length_drop,List.length_drop]; omega,fun z hz=>wz z (List.mem_of_mem_drop hz),a24.same S2426,b24.same S2426,fun H27 k27 a27 b27=>⟨_,rfl,iteF ⟨rfl,K26.trans k27,a27,b27⟩⟩⟩
  rintro σ H25 ⟨rfl,K25,a25,b25⟩
  have wt25:=wt15.kp K25
  obtain ⟨vs',hV',vl',hv'⟩:=wt25.at
  have hV25:=K25.lst hV15
  rw [hV25] at hV'
  cases hV'
  refine ⟨_,rfl,_,rfl,W2,rfl,⟨_,SqL.of hV25⟩,?_⟩
  (intro Z gZ; generalize hEq:upd _ Z _=H26; refine newC hEq gZ ?_; clear hEq; intro S26 eZ o26)
  refine lr_list (K:=K) (S:=W2) (xs:=vs) (fun i σ H'=>(∃v w,σ=[v,w])∧Same H25 H'∧∃us:List V,H' Z=some (.lst us)∧us.length=i∧∀(j:Nat) (x:V) (p:Str × Int),us[j]? = some x→pp[j]? = some p→∃b,x = .ref b∧H' b=some (.tup [.str p.1,.int 0])) ⟨⟨_,_,rfl⟩,S26,[],eZ,rfl,fun j x p e=>by simp at e⟩ (fun i σ H' h=>SqL.of (h.2.1 _ _ hV25)) ?_ ?_
  ·rintro i x σ H' Cn hi ⟨⟨v,w,rfl⟩,k,us',hZ,ul',uf⟩ nx
   have il:=(List.getElem?_eq_some_iff.mp hi).1
   have ep:pp[i]? = some (pp[i]'(by omega)):=List.getElem?_eq_getElem _
   obtain ⟨wb,rfl,hwb⟩:=hv' i x _ hi ep
   generalize pp[i]'(by omega)=p0 at ep hwb
   refine ⟨wb,_,rfl,SqT.of (k _ _ hwb),rfl,_,_,rfl,_,_,rfl,rfl,?_⟩
   refine ⟨_,rfl,by show 2≤sizeLine; decide,?_⟩
   (intro tt gt; generalize hEq:upd _ tt _=H27; refine newC hEq gt ?_; clear hEq; intro S27 et o27)
   have hZ27:=S27 _ _ hZ
   have nl:∀{d:Addr} {ys:List V},H27 d=some (.tup ys)→d≠Z:=fun h z=>by rw [z,hZ27] at h; cases h
   refine ⟨_,hZ27,?_,nx _ _ ⟨⟨_,_,rfl⟩,fun b o e=>?_,us' ++ [.ref tt],upd_same,by rw [List.length_append,ul']; rfl,fun j x p e1 e2=>?_⟩⟩
   ·rw [ul']; exact Nat.lt_of_le_of_lt (show i≤20 by omega) (by decide)
   ·rw [upd_ne (ne_of_none e gZ)]; exact S27 _ _ (k _ _ e)
   ·by_cases jl:j < i
    ·rw [List.getElem?_append_left (by omega)] at e1
     obtain ⟨b,eb,hb⟩:=uf j x p e1 e2
     have h27:=S27 _ _ hb
     exact ⟨b,eb,by rw [upd_ne (nl h27)]; exact h27⟩
    ·rw [List.getElem?_append_right (by omega)] at e1
     have ej:j=i:=by
      have:=(List.getElem?_eq_some_iff.mp e1).1
      simp at this; omega
     subst ej
     rw [ul',Nat.sub_self] at e1
     cases e1
     rw [ep] at e2
     cases e2
     exact ⟨tt,rfl,by rw [upd_ne (nl et)]; exact et⟩
  rintro σ27 H27 ⟨_,S27,us',hZ,ul',uf⟩
  have K27:=K25.trans (.same S27)
  have wt0:Wt H27 Z (pp.map fun p=>(p.1,(0:Int))):=by
   refine Wt.of hZ (by rw [List.length_map]; omega) (fun i x p e1 e2=>?_) ?_ (fun p hp=>?_) (fun p hp=>?_) (by rw [List.length_map]; omega) (by rw [List.length_map]; omega)
   ·rw [List.getElem?_map] at e2
    obtain ⟨p',hp',rfl⟩:=Option.map_eq_some_iff.mp e2
    exact uf i x p' e1 hp'
   ·rw [List.map_map]
    exact wt.nd
   ·obtain ⟨p',hp',rfl⟩:=List.mem_map.mp hp
    exact wt.nm p' hp'
   ·obtain ⟨p',hp',rfl⟩:=List.mem_map.mp hp
    exact ⟨Int.le_refl 0,show (0:Int)≤1000000000 by decide⟩
  refine ⟨_,rfl,t,Z,Bk,cs,fs,ps,lg,pa,pl,M,A,L,_,zs,rfl,tg15.kp K27,tm15.kp K27,wt0,K27.lst hB15,by rw [List.length_map]; omega,wz,a25.same S27,b25.same S27,fun u0 H28 k28 a28 b28 fo=>?_⟩
  obtain ⟨o,n0,m0,rfl,ho,fr⟩:=fo
  rw [costs_nought] at fr
  have e01:(n0,m0)=((0,1):Int × Int):=(frac_eq tm.M0 fr).trans (frac_eq tm.M0 (frac_nought tm.M0)).symm
  injection e01 with e0 e1
  subst e0 e1
  refine ⟨by show 2≤sizeLine; decide,?_⟩
  (intro N1 gN1; generalize hEq:upd _ N1 _=H29; refine newC hEq gN1 ?_; clear hEq; intro S29 eN1 o29)
  refine ⟨o,N1,_,_,rfl,rfl,sqT_same S29 ho,SqT.of eN1,rfl,rfl,_,rfl,iteF ?_⟩
  have K29:=(K27.trans k28).trans (.same S29)
  refine ⟨_,rfl,_,rfl,_,rfl,t,W2,.ref Bk,cs,fs,ps,lg,pp,rfl,tg15.kp K29,wt15.kp K29,a28.same S29,b28.same S29,fun H30 k30 a30 b30=>⟨_,rfl,iteF ?_⟩⟩
  have K30:=K29.trans k30
  refine ⟨_,rfl,_,rfl,_,rfl,by show 3≤sizeLine; decide,?_⟩
  (intro FF gFF; generalize hEq:upd _ FF _=H31; refine newC hEq gFF ?_; clear hEq; intro S31 eFF o31)
  have K31:=K30.trans (.same S31)
  have tt:EqD K H31 2 (.ref t) (.ref u) true:=by
   refine .inr ⟨_,_,rfl,rfl,ntu,?_⟩
   have z:=TopR.tups (K:=K) (H:=H31) (R:=EqD K H31 1) (fun _=>true) (SqT.of (K31.tup h15)) (SqT.of (K31.tup fu)) fun j x y h1 h2=>by
    match j,h1,h2 with
    | 0,h1,h2=>
     cases h1; cases h2
     exact eqd_lists (SqL.of (K31.lst hS15)) (SqL.of (K31.lst fSu)) nSu rows15.plain
    | 1,h1,h2=>
     cases h1; cases h2
     exact eqd_lists (SqL.of (K31.lst hF15)) (SqL.of (K31.lst fFu)) nFu (txs_plain _)
    | 2,h1,h2=>
     cases h1; cases h2
     exact eqd_lists (SqL.of (K31.lst hP15)) (SqL.of (K31.lst fPu)) nPu (txs_plain _)
    | 3,h1,h2=>
     cases h1; cases h2
     exact eqdn (.inl rfl)
    | _ + 4,h1,h2=>cases h1
   exact z
  have vplain:∀x∈vs,plainV x:=fun x hx=>by
   obtain ⟨i,hi⟩:=List.getElem?_of_mem hx
   have il:=(List.getElem?_eq_some_iff.mp hi).1
   obtain ⟨b,e,_⟩:=hv' i x _ hi (List.getElem?_eq_getElem (show i < pp.length by omega))
   exact .inr ⟨b,e⟩
  have z:=TopR.lsts (K:=K) (H:=H31) (R:=EqD K H31 2) (fun _=>true) (SqL.of eFF) (SqL.of (K31.lst eKK)) rfl fun j x y h1 h2=>by
   match j,h1,h2 with
   | 0,h1,h2=>cases h1; cases h2; exact tt
   | 1,h1,h2=>
    cases h1; cases h2
    exact eqd_lists (SqL.of (K31.lst hV15)) (SqL.of (K31.lst fCW)) nWc vplain
   | 2,h1,h2=>
    cases h1; cases h2
    exact eqd_lists (SqL.of (K31.lst hB15)) (SqL.of (K31.lst fCB)) nBc (txs_plain _)
   | _ + 3,h1,h2=>cases h1
  exact ⟨_,rfl,2,_,by decide,z,q H31⟩
end
end G1
namespace L2
open PySem PySem.Spec PyProof.Rows PySem.W PySem.W.X
def keepP (p:Addr × Obj):Bool:=match p.2.data with | .fields vs=>!vs.isEmpty | _=>true
def filt (K:Frag):Frag:=K.filter keepP
theorem filt_look {a:Addr} {o:Obj}:∀{K:Frag},K.lookup a=some o→keepP (a,o)=true→(filt K).lookup a=some o
 | [],e,_=>nomatch e
 | (b,u) :: K,e,k=>by
  by_cases q:a=b
  ·subst q
   have e':some u=some o:=by rw [List.lookup_cons,beq_self_eq_true] at e; exact e
   cases e'
   have z:filt ((a,o) :: K)=(a,o) :: filt K:=List.filter_cons_of_pos k
   rw [z,List.lookup_cons,beq_self_eq_true]
  ·have f:(a == b)=false:=beq_eq_false_iff_ne.mpr q
   have e':K.lookup a=some o:=by rw [List.lookup_cons,f] at e; exact e
   have r:=filt_look e' k
   cases hk:keepP (b,u) with
   | true=>
    have z:filt ((b,u) :: K)=(b,u) :: filt K:=List.filter_cons_of_pos hk
    rw [z,List.lookup_cons,f]; exact r
   | false=>
    have z:filt ((b,u) :: K)=filt K:=List.filter_cons_of_neg (by rw [hk]; exact Bool.false_ne_true)
    rw [z]; exact r
theorem filt_ns {K:Frag} {ns:Addr} {x:Str} {v:Option Value} (e:nsIn K ns x=some v):nsIn (filt K) ns x=some v:=by
 unfold nsIn at e ⊢
 split at e
 next cls d es ep sl l=>rw [filt_look l rfl]; exact e
 next=>cases e
theorem filt_code {K:Frag} {cd:Value} {q:Str} (e:codeIn K cd q=true):codeIn (filt K) cd q=true:=by
 unfold codeIn at e ⊢
 split at e
 next c=>
  split at e
  next cls d vs sl l=>
   rw [filt_look l (by
    show (!vs.isEmpty)=true
    cases hv:vs.isEmpty with
    | false=>rfl
    | true=>
     rw [Array.isEmpty_iff] at hv
     subst hv
     exact e)]
   exact e
  next=>cases e
 next=>cases e
theorem filt_mem {a:Addr} {o:Obj}:∀{K:Frag},(filt K).lookup a=some o→(a,o)∈K
 | [],e=>nomatch e
 | (b,u) :: K,e=>by
  cases hk:keepP (b,u) with
  | true=>
   have z:filt ((b,u) :: K)=(b,u) :: filt K:=List.filter_cons_of_pos hk
   rw [z,List.lookup_cons] at e
   by_cases q:a=b
   ·subst q
    rw [beq_self_eq_true] at e
    cases e
    exact List.mem_cons_self ..
   ·rw [beq_eq_false_iff_ne.mpr q] at e
    exact List.mem_cons_of_mem _ (filt_mem e)
  | false=>
   have z:filt ((b,u) :: K)=filt K:=List.filter_cons_of_neg (by rw [hk]; exact Bool.false_ne_true)
   rw [z] at e
   exact List.mem_cons_of_mem _ (filt_mem e)
theorem allIn_mem {h:Heap}:∀{K:Frag} {p:Addr × Obj},AllIn h K→p∈K→h.get? p.1=some p.2
 | [],_,_,m=>nomatch m
 | q :: K,p,A,m=>by
  rcases List.mem_cons.mp m with rfl | m
  ·exact A.1
  ·exact allIn_mem A.2 m
theorem walkX_of {q:Program} {loose:List Str} {XP:(Str→Option Value)→Heap→Prop} {K:Params→Frag} {as:List Addr} {n t:Nat} {r:RowW} {d:DefRec} {kwd:List (Str × PySem.Expr)} {run:Value→List Value→Sem Value}
  (e:∀P,as=(K P).map (·.1)) (h:WalkO q loose XP (fun w h=>(filt (K w.params)).In h) r d kwd run):WalkX q loose XP (obsZ as) (valZ K n t) r d kwd run:=
 fun w s₀ s₁ mg mb G Y a o pm cd doc dV kV ho hd hcd hD hmg hg args vals as L hpre hlay hrd hwl hlo=>
  h w s₀ s₁ mg mb G (fun b u l=>L.keeps _ _ (allIn_mem (z_facts e Y).1 (filt_mem l))) a o pm cd doc dV kV ho hd hcd hD hmg hg args vals as hpre hlay hrd hwl hlo
theorem filt_own {K:Frag} {x:Str} {v:Value} {r:Option Value} (e:ownIn K x v=some r):ownIn (filt K) x v=some r:=by
 unfold ownIn at e ⊢
 split at e
 next n=>exact e
 next a=>
  split at e
  next cls d cd sl l=>rw [filt_look l rfl]; exact filt_ns e
  next=>cases e
 next h1 h2=>exact e
theorem filt_along {K:Frag} {x:Str}:∀{l:List Value} {r:Option Value},alongIn K x l=some r→alongIn (filt K) x l=some r
 | [],r,e=>by rw [alongIn.eq_1] at e ⊢; exact e
 | c :: l,r,e=>by
  rw [alongIn.eq_2] at e ⊢
  cases h:ownIn K x c with
  | none=>rw [h] at e; cases e
  | some o=>
   rw [h] at e
   rw [filt_own h]
   cases o with
   | some v=>exact e
   | none=>exact filt_along e
theorem filt_find {K:Frag} {t:Value} {x:Str} {r:Option Value} (e:findIn K t x=some r):findIn (filt K) t x=some r:=by
 unfold findIn at e ⊢
 split at e
 next n=>exact e
 next a=>
  split at e
  next cls d cd sl l=>rw [filt_look l rfl]; exact filt_along e
  next=>cases e
 next=>cases e
end L2
namespace G1
open PySem PySem.Spec PyProof.Rows L2 GM
theorem keep_of {K:PySem.W.Frag} {f:Addr} {oc:Value} {od:Option Addr} {fd:FuncData} {sl:Array (Option Value)} (l:K.lookup f=some ⟨oc,od,.func fd,sl⟩):PySem.W.keepIn K (.ref f)=true:=by
 unfold PySem.W.keepIn
 simp only [l]
theorem cd_of {K:PySem.W.Frag} {n x q:Str} {f c T:Addr} {fd:FuncData} {oc:Value} {od:Option Addr} {sl:Array (Option Value)} {ar:Arguments} {bo:List Stmt} {sc:Scope} {dV kV dc pm cd ct:Value} {an:Option Addr} (C:CodeN K n f c T fd) (l:K.lookup f=some ⟨oc,od,.func (PySem.W.fnOf x q ar bo sc dV kV dc pm an cd ct),sl⟩):cd = .ref c:=by
 obtain ⟨oc',od',sl',l'⟩:=C.l
 rw [l] at l'
 injection l' with l'; injection l' with _ _ l' _; injection l' with l'
 rw [← C.hc,← l']
theorem len1 {us:List Value} (h:us.length=1):∃a0,us=[a0]:=by
 match us,h with
 | [a0],_=>exact ⟨a0,rfl⟩
theorem len2 {us:List Value} (h:us.length=2):∃a0 a1,us=[a0,a1]:=by
 match us,h with
 | [a0,a1],_=>exact ⟨a0,a1,rfl⟩
theorem len3 {us:List Value} (h:us.length=3):∃a0 a1 a2,us=[a0,a1,a2]:=by
 match us,h with
 | [a0,a1,a2],_=>exact ⟨a0,a1,a2,rfl⟩
theorem all_mk {l:PySem.W.OpenLaw} {w:World} {K:PySem.W.Frag} {h:Heap} {mg:Str→Option Value} {fa:Addr} (X:K.In h) (G:h.Ns mainGlobals mg) (hfa:mg "law" = some (.ref fa))
  {f0:Addr} {od0 an0:Option Addr} {sl0:Array (Option Value)} {oc0 kV0 dc0 pm0 cd0 ct0:Value}
  {f1:Addr} {od1 an1:Option Addr} {sl1:Array (Option Value)} {oc1 kV1 dc1 pm1 cd1 ct1:Value}
  {f2:Addr} {od2 an2:Option Addr} {sl2:Array (Option Value)} {oc2 kV2 dc2 pm2 cd2 ct2:Value}
  {f3:Addr} {od3 an3:Option Addr} {sl3:Array (Option Value)} {oc3 kV3 dc3 pm3 cd3 ct3:Value}
  {f4:Addr} {od4 an4:Option Addr} {sl4:Array (Option Value)} {oc4 kV4 dc4 pm4 cd4 ct4:Value}
  {cc4 T4:Addr} {fdT4:FuncData}
  {f5:Addr} {od5 an5:Option Addr} {sl5:Array (Option Value)} {oc5 kV5 dc5 pm5 cd5 ct5:Value}
  {f6:Addr} {od6 an6:Option Addr} {sl6:Array (Option Value)} {oc6 kV6 dc6 pm6 cd6 ct6:Value}
  {f7:Addr} {od7 an7:Option Addr} {sl7:Array (Option Value)} {oc7 kV7 dc7 pm7 cd7 ct7:Value}
  {f8:Addr} {od8 an8:Option Addr} {sl8:Array (Option Value)} {oc8 kV8 dc8 pm8 cd8 ct8:Value}
  {f9:Addr} {od9 an9:Option Addr} {sl9:Array (Option Value)} {oc9 kV9 dc9 pm9 cd9 ct9:Value}
  {f10:Addr} {od10 an10:Option Addr} {sl10:Array (Option Value)} {oc10 kV10 dc10 pm10 cd10 ct10:Value}
  {f11:Addr} {od11 an11:Option Addr} {sl11:Array (Option Value)} {oc11 kV11 dc11 pm11 cd11 ct11:Value}
  {f12:Addr} {od12 an12:Option Addr} {sl12:Array (Option Value)} {oc12 kV12 dc12 pm12 cd12 ct12:Value}
  {cc12 T12:Addr} {fdT12:FuncData}
  {f13:Addr} {od13 an13:Option Addr} {sl13:Array (Option Value)} {oc13 kV13 dc13 pm13 cd13 ct13:Value}
  {f14:Addr} {od14 an14:Option Addr} {sl14:Array (Option Value)} {oc14 kV14 dc14 pm14 cd14 ct14:Value}
  {f15:Addr} {od15 an15:Option Addr} {sl15:Array (Option Value)} {oc15 kV15 dc15 pm15 cd15 ct15:Value}
  {f16:Addr} {od16 an16:Option Addr} {sl16:Array (Option Value)} {oc16 kV16 dc16 pm16 cd16 ct16:Value}
  {f17:Addr} {od17 an17:Option Addr} {sl17:Array (Option Value)} {oc17 kV17 dc17 pm17 cd17 ct17:Value}
  {f18:Addr} {od18 an18:Option Addr} {sl18:Array (Option Value)} {oc18 kV18 dc18 pm18 cd18 ct18:Value}
  {f19:Addr} {od19 an19:Option Addr} {sl19:Array (Option Value)} {oc19 kV19 dc19 pm19 cd19 ct19:Value}
  {f20:Addr} {od20 an20:Option Addr} {sl20:Array (Option Value)} {oc20 kV20 dc20 pm20 cd20 ct20:Value}
  {f21:Addr} {od21 an21:Option Addr} {sl21:Array (Option Value)} {oc21 kV21 dc21 pm21 cd21 ct21:Value}
  {f22:Addr} {od22 an22:Option Addr} {sl22:Array (Option Value)} {oc22 kV22 dc22 pm22 cd22 ct22:Value}
  {f23:Addr} {od23 an23:Option Addr} {sl23:Array (Option Value)} {oc23 kV23 dc23 pm23 cd23 ct23:Value}
  {f24:Addr} {od24 an24:Option Addr} {sl24:Array (Option Value)} {oc24 kV24 dc24 pm24 cd24 ct24:Value}
  {f25:Addr} {od25 an25:Option Addr} {sl25:Array (Option Value)} {oc25 kV25 dc25 pm25 cd25 ct25:Value}
  {f26:Addr} {od26 an26:Option Addr} {sl26:Array (Option Value)} {oc26 kV26 dc26 pm26 cd26 ct26:Value}
  {f27:Addr} {od27 an27:Option Addr} {sl27:Array (Option Value)} {oc27 kV27 dc27 pm27 cd27 ct27:Value}
  {f28:Addr} {od28 an28:Option Addr} {sl28:Array (Option Value)} {oc28 kV28 dc28 pm28 cd28 ct28:Value}
  {f29:Addr} {od29 an29:Option Addr} {sl29:Array (Option Value)} {oc29 kV29 dc29 pm29 cd29 ct29:Value}
  {f30:Addr} {od30 an30:Option Addr} {sl30:Array (Option Value)} {oc30 kV30 dc30 pm30 cd30 ct30:Value}
  {f31:Addr} {od31 an31:Option Addr} {sl31:Array (Option Value)} {oc31 kV31 dc31 pm31 cd31 ct31:Value}
  {f32:Addr} {od32 an32:Option Addr} {sl32:Array (Option Value)} {oc32 kV32 dc32 pm32 cd32 ct32:Value}
  {f33:Addr} {od33 an33:Option Addr} {sl33:Array (Option Value)} {oc33 kV33 dc33 pm33 cd33 ct33:Value}
  {f34:Addr} {od34 an34:Option Addr} {sl34:Array (Option Value)} {oc34 kV34 dc34 pm34 cd34 ct34:Value}
  {f35:Addr} {od35 an35:Option Addr} {sl35:Array (Option Value)} {oc35 kV35 dc35 pm35 cd35 ct35:Value}
  {f36:Addr} {od36 an36:Option Addr} {sl36:Array (Option Value)} {oc36 kV36 dc36 pm36 cd36 ct36:Value}
  {f37:Addr} {od37 an37:Option Addr} {sl37:Array (Option Value)} {oc37 kV37 dc37 pm37 cd37 ct37:Value}
  {f38:Addr} {od38 an38:Option Addr} {sl38:Array (Option Value)} {oc38 kV38 dc38 pm38 cd38 ct38:Value}
  {tkA tkB tkC tkD tkE tkH tkI:Tok}
  {C0 C1 C2:Addr}
  {fI1:Addr}
  {fI2:Addr}
  {tkF tkG:Tok} {aN:Addr} {odN:Option Addr} {nN:Nat} {slN:Array (Option Value)}
  {dT:Addr} {oT:Value} {odT:Option Addr} {nT:Nat} {slT:Array (Option Value)} {tk:Tok}
  (CN4:CodeN K "is_name" f4 cc4 T4 fdT4)
  (CN12:CodeN K "are_signs" f12 cc12 T12 fdT12)
  (a0:PySem.W.nsIn K mainGlobals "is_whole" = some (some (.ref f0)))
  (l0:K.lookup f0=some ⟨oc0,od0,.func (PySem.W.fnOf "is_whole" "is_whole" (defArgs sWhole) (defBody sWhole) (defScope sWhole) .none kV0 dc0 pm0 an0 cd0 ct0),sl0⟩)
  (c0:PySem.W.codeIn K cd0 "is_whole" = true)
  (a1:PySem.W.nsIn K mainGlobals "is_whole_within" = some (some (.ref f1)))
  (l1:K.lookup f1=some ⟨oc1,od1,.func (PySem.W.fnOf "is_whole_within" "is_whole_within" (defArgs sWithin) (defBody sWithin) (defScope sWithin) .none kV1 dc1 pm1 an1 cd1 ct1),sl1⟩)
  (c1:PySem.W.codeIn K cd1 "is_whole_within" = true)
  (a2:PySem.W.nsIn K mainGlobals "is_fraction" = some (some (.ref f2)))
  (l2:K.lookup f2=some ⟨oc2,od2,.func (PySem.W.fnOf "is_fraction" "is_fraction" (defArgs sIsF) (defBody sIsF) (defScope sIsF) .none kV2 dc2 pm2 an2 cd2 ct2),sl2⟩)
  (c2:PySem.W.codeIn K cd2 "is_fraction" = true)
  (a3:PySem.W.nsIn K mainGlobals "is_above_nought" = some (some (.ref f3)))
  (l3:K.lookup f3=some ⟨oc3,od3,.func (PySem.W.fnOf "is_above_nought" "is_above_nought" (defArgs sAbove) (defBody sAbove) (defScope sAbove) .none kV3 dc3 pm3 an3 cd3 ct3),sl3⟩)
  (c3:PySem.W.codeIn K cd3 "is_above_nought" = true)
  (a4:PySem.W.nsIn K mainGlobals "is_name" = some (some (.ref f4)))
  (l4:K.lookup f4=some ⟨oc4,od4,.func (PySem.W.fnOf "is_name" "is_name" (defArgs sName) (defBody sName) (defScope sName) .none kV4 dc4 pm4 an4 cd4 ct4),sl4⟩)
  (c4:PySem.W.codeIn K cd4 "is_name" = true)
  (a5:PySem.W.nsIn K mainGlobals "is_letter" = some (some (.ref f5)))
  (l5:K.lookup f5=some ⟨oc5,od5,.func (PySem.W.fnOf "is_letter" "is_letter" (defArgs sLetter) (defBody sLetter) (defScope sLetter) .none kV5 dc5 pm5 an5 cd5 ct5),sl5⟩)
  (c5:PySem.W.codeIn K cd5 "is_letter" = true)
  (a6:PySem.W.nsIn K mainGlobals "common_divisor" = some (some (.ref f6)))
  (l6:K.lookup f6=some ⟨oc6,od6,.func (PySem.W.fnOf "common_divisor" "common_divisor" (defArgs sGcd) (defBody sGcd) (defScope sGcd) .none kV6 dc6 pm6 an6 cd6 ct6),sl6⟩)
  (c6:PySem.W.codeIn K cd6 "common_divisor" = true)
  (a7:PySem.W.nsIn K mainGlobals "fraction" = some (some (.ref f7)))
  (l7:K.lookup f7=some ⟨oc7,od7,.func (PySem.W.fnOf "fraction" "fraction" (defArgs sFrac) (defBody sFrac) (defScope sFrac) (.ref dT) kV7 dc7 pm7 an7 cd7 ct7),sl7⟩)
  (c7:PySem.W.codeIn K cd7 "fraction" = true)
  (a8:PySem.W.nsIn K mainGlobals "plus" = some (some (.ref f8)))
  (l8:K.lookup f8=some ⟨oc8,od8,.func (PySem.W.fnOf "plus" "plus" (defArgs sPlus) (defBody sPlus) (defScope sPlus) .none kV8 dc8 pm8 an8 cd8 ct8),sl8⟩)
  (c8:PySem.W.codeIn K cd8 "plus" = true)
  (a9:PySem.W.nsIn K mainGlobals "times" = some (some (.ref f9)))
  (l9:K.lookup f9=some ⟨oc9,od9,.func (PySem.W.fnOf "times" "times" (defArgs sTimes) (defBody sTimes) (defScope sTimes) .none kV9 dc9 pm9 an9 cd9 ct9),sl9⟩)
  (c9:PySem.W.codeIn K cd9 "times" = true)
  (a10:PySem.W.nsIn K mainGlobals "sum_of" = some (some (.ref f10)))
  (l10:K.lookup f10=some ⟨oc10,od10,.func (PySem.W.fnOf "sum_of" "sum_of" (defArgs sSum) (defBody sSum) (defScope sSum) .none kV10 dc10 pm10 an10 cd10 ct10),sl10⟩)
  (c10:PySem.W.codeIn K cd10 "sum_of" = true)
  (a11:PySem.W.nsIn K mainGlobals "look_at_tongue" = some (some (.ref f11)))
  (l11:K.lookup f11=some ⟨oc11,od11,.func (PySem.W.fnOf "look_at_tongue" "look_at_tongue" (defArgs sLook) (defBody sLook) (defScope sLook) .none kV11 dc11 pm11 an11 cd11 ct11),sl11⟩)
  (c11:PySem.W.codeIn K cd11 "look_at_tongue" = true)
  (a12:PySem.W.nsIn K mainGlobals "are_signs" = some (some (.ref f12)))
  (l12:K.lookup f12=some ⟨oc12,od12,.func (PySem.W.fnOf "are_signs" "are_signs" (defArgs sSigns) (defBody sSigns) (defScope sSigns) .none kV12 dc12 pm12 an12 cd12 ct12),sl12⟩)
  (c12:PySem.W.codeIn K cd12 "are_signs" = true)
  (a13:PySem.W.nsIn K mainGlobals "is_sign_row" = some (some (.ref f13)))
  (l13:K.lookup f13=some ⟨oc13,od13,.func (PySem.W.fnOf "is_sign_row" "is_sign_row" (defArgs sRow) (defBody sRow) (defScope sRow) .none kV13 dc13 pm13 an13 cd13 ct13),sl13⟩)
  (c13:PySem.W.codeIn K cd13 "is_sign_row" = true)
  (a14:PySem.W.nsIn K mainGlobals "are_unlike_texts_of" = some (some (.ref f14)))
  (l14:K.lookup f14=some ⟨oc14,od14,.func (PySem.W.fnOf "are_unlike_texts_of" "are_unlike_texts_of" (defArgs sUnlike) (defBody sUnlike) (defScope sUnlike) .none kV14 dc14 pm14 an14 cd14 ct14),sl14⟩)
  (c14:PySem.W.codeIn K cd14 "are_unlike_texts_of" = true)
  (a15:PySem.W.nsIn K mainGlobals "signs_of" = some (some (.ref f15)))
  (l15:K.lookup f15=some ⟨oc15,od15,.func (PySem.W.fnOf "signs_of" "signs_of" (defArgs sSignsOf) (defBody sSignsOf) (defScope sSignsOf) .none kV15 dc15 pm15 an15 cd15 ct15),sl15⟩)
  (c15:PySem.W.codeIn K cd15 "signs_of" = true)
  (a16:PySem.W.nsIn K mainGlobals "look_at_wants" = some (some (.ref f16)))
  (l16:K.lookup f16=some ⟨oc16,od16,.func (PySem.W.fnOf "look_at_wants" "look_at_wants" (defArgs sLookW) (defBody sLookW) (defScope sLookW) .none kV16 dc16 pm16 an16 cd16 ct16),sl16⟩)
  (c16:PySem.W.codeIn K cd16 "look_at_wants" = true)
  (a17:PySem.W.nsIn K mainGlobals "is_want" = some (some (.ref f17)))
  (l17:K.lookup f17=some ⟨oc17,od17,.func (PySem.W.fnOf "is_want" "is_want" (defArgs sWant) (defBody sWant) (defScope sWant) .none kV17 dc17 pm17 an17 cd17 ct17),sl17⟩)
  (c17:PySem.W.codeIn K cd17 "is_want" = true)
  (a18:PySem.W.nsIn K mainGlobals "is_count" = some (some (.ref f18)))
  (l18:K.lookup f18=some ⟨oc18,od18,.func (PySem.W.fnOf "is_count" "is_count" (defArgs sCount) (defBody sCount) (defScope sCount) .none kV18 dc18 pm18 an18 cd18 ct18),sl18⟩)
  (c18:PySem.W.codeIn K cd18 "is_count" = true)
  (a19:PySem.W.nsIn K mainGlobals "reckon_way" = some (some (.ref f19)))
  (l19:K.lookup f19=some ⟨oc19,od19,.func (PySem.W.fnOf "reckon_way" "reckon_way" (defArgs sRWay) (defBody sRWay) (defScope sRWay) .none kV19 dc19 pm19 an19 cd19 ct19),sl19⟩)
  (c19:PySem.W.codeIn K cd19 "reckon_way" = true)
  (a20:PySem.W.nsIn K mainGlobals "reckon_price" = some (some (.ref f20)))
  (l20:K.lookup f20=some ⟨oc20,od20,.func (PySem.W.fnOf "reckon_price" "reckon_price" (defArgs sRPrice) (defBody sRPrice) (defScope sRPrice) .none kV20 dc20 pm20 an20 cd20 ct20),sl20⟩)
  (c20:PySem.W.codeIn K cd20 "reckon_price" = true)
  (a21:PySem.W.nsIn K mainGlobals "lasts_of" = some (some (.ref f21)))
  (l21:K.lookup f21=some ⟨oc21,od21,.func (PySem.W.fnOf "lasts_of" "lasts_of" (defArgs sLasts) (defBody sLasts) (defScope sLasts) .none kV21 dc21 pm21 an21 cd21 ct21),sl21⟩)
  (c21:PySem.W.codeIn K cd21 "lasts_of" = true)
  (a22:PySem.W.nsIn K mainGlobals "cost_of" = some (some (.ref f22)))
  (l22:K.lookup f22=some ⟨oc22,od22,.func (PySem.W.fnOf "cost_of" "cost_of" (defArgs sCost) (defBody sCost) (defScope sCost) .none kV22 dc22 pm22 an22 cd22 ct22),sl22⟩)
  (c22:PySem.W.codeIn K cd22 "cost_of" = true)
  (a23:PySem.W.nsIn K mainGlobals "_law_pool" = some (some (.ref f23)))
  (l23:K.lookup f23=some ⟨oc23,od23,.func (PySem.W.fnOf "_law_pool" "_law_pool" (defArgs sPool) (defBody sPool) (defScope sPool) .none kV23 dc23 pm23 an23 cd23 ct23),sl23⟩)
  (c23:PySem.W.codeIn K cd23 "_law_pool" = true)
  (a24:PySem.W.nsIn K mainGlobals "_law_take" = some (some (.ref f24)))
  (l24:K.lookup f24=some ⟨oc24,od24,.func (PySem.W.fnOf "_law_take" "_law_take" (defArgs sDraw) (defBody sDraw) (defScope sDraw) .none kV24 dc24 pm24 an24 cd24 ct24),sl24⟩)
  (c24:PySem.W.codeIn K cd24 "_law_take" = true)
  (a25:PySem.W.nsIn K mainGlobals "_law_low" = some (some (.ref f25)))
  (l25:K.lookup f25=some ⟨oc25,od25,.func (PySem.W.fnOf "_law_low" "_law_low" (defArgs sLow) (defBody sLow) (defScope sLow) .none kV25 dc25 pm25 an25 cd25 ct25),sl25⟩)
  (c25:PySem.W.codeIn K cd25 "_law_low" = true)
  (a26:PySem.W.nsIn K mainGlobals "_law_price" = some (some (.ref f26)))
  (l26:K.lookup f26=some ⟨oc26,od26,.func (PySem.W.fnOf "_law_price" "_law_price" (defArgs sPrice) (defBody sPrice) (defScope sPrice) .none kV26 dc26 pm26 an26 cd26 ct26),sl26⟩)
  (c26:PySem.W.codeIn K cd26 "_law_price" = true)
  (a27:PySem.W.nsIn K mainGlobals "_law_tongue" = some (some (.ref f27)))
  (l27:K.lookup f27=some ⟨oc27,od27,.func (PySem.W.fnOf "_law_tongue" "_law_tongue" (defArgs sTongue) (defBody sTongue) (defScope sTongue) .none kV27 dc27 pm27 an27 cd27 ct27),sl27⟩)
  (c27:PySem.W.codeIn K cd27 "_law_tongue" = true)
  (a28:PySem.W.nsIn K mainGlobals "_law_name" = some (some (.ref f28)))
  (l28:K.lookup f28=some ⟨oc28,od28,.func (PySem.W.fnOf "_law_name" "_law_name" (defArgs sLName) (defBody sLName) (defScope sLName) .none kV28 dc28 pm28 an28 cd28 ct28),sl28⟩)
  (c28:PySem.W.codeIn K cd28 "_law_name" = true)
  (a29:PySem.W.nsIn K mainGlobals "_law_wants" = some (some (.ref f29)))
  (l29:K.lookup f29=some ⟨oc29,od29,.func (PySem.W.fnOf "_law_wants" "_law_wants" (defArgs sWants) (defBody sWants) (defScope sWants) .none kV29 dc29 pm29 an29 cd29 ct29),sl29⟩)
  (c29:PySem.W.codeIn K cd29 "_law_wants" = true)
  (a30:PySem.W.nsIn K mainGlobals "_law_may_come" = some (some (.ref f30)))
  (l30:K.lookup f30=some ⟨oc30,od30,.func (PySem.W.fnOf "_law_may_come" "_law_may_come" (defArgs sMay) (defBody sMay) (defScope sMay) .none kV30 dc30 pm30 an30 cd30 ct30),sl30⟩)
  (c30:PySem.W.codeIn K cd30 "_law_may_come" = true)
  (a31:PySem.W.nsIn K mainGlobals "_law_words" = some (some (.ref f31)))
  (l31:K.lookup f31=some ⟨oc31,od31,.func (PySem.W.fnOf "_law_words" "_law_words" (defArgs sWords) (defBody sWords) (defScope sWords) .none kV31 dc31 pm31 an31 cd31 ct31),sl31⟩)
  (c31:PySem.W.codeIn K cd31 "_law_words" = true)
  (a32:PySem.W.nsIn K mainGlobals "_law_book" = some (some (.ref f32)))
  (l32:K.lookup f32=some ⟨oc32,od32,.func (PySem.W.fnOf "_law_book" "_law_book" (defArgs sBook) (defBody sBook) (defScope sBook) .none kV32 dc32 pm32 an32 cd32 ct32),sl32⟩)
  (c32:PySem.W.codeIn K cd32 "_law_book" = true)
  (a33:PySem.W.nsIn K mainGlobals "_law_cost" = some (some (.ref f33)))
  (l33:K.lookup f33=some ⟨oc33,od33,.func (PySem.W.fnOf "_law_cost" "_law_cost" (defArgs sLCost) (defBody sLCost) (defScope sLCost) .none kV33 dc33 pm33 an33 cd33 ct33),sl33⟩)
  (c33:PySem.W.codeIn K cd33 "_law_cost" = true)
  (a34:PySem.W.nsIn K mainGlobals "_law_is_told" = some (some (.ref f34)))
  (l34:K.lookup f34=some ⟨oc34,od34,.func (PySem.W.fnOf "_law_is_told" "_law_is_told" (defArgs sTold) (defBody sTold) (defScope sTold) .none kV34 dc34 pm34 an34 cd34 ct34),sl34⟩)
  (c34:PySem.W.codeIn K cd34 "_law_is_told" = true)
  (a35:PySem.W.nsIn K mainGlobals "_law_refusal" = some (some (.ref f35)))
  (l35:K.lookup f35=some ⟨oc35,od35,.func (PySem.W.fnOf "_law_refusal" "_law_refusal" (defArgs sRefl) (defBody sRefl) (defScope sRefl) .none kV35 dc35 pm35 an35 cd35 ct35),sl35⟩)
  (c35:PySem.W.codeIn K cd35 "_law_refusal" = true)
  (a36:PySem.W.nsIn K mainGlobals "_law_copy" = some (some (.ref f36)))
  (l36:K.lookup f36=some ⟨oc36,od36,.func (PySem.W.fnOf "_law_copy" "_law_copy" (defArgs sCopy) (defBody sCopy) (defScope sCopy) .none kV36 dc36 pm36 an36 cd36 ct36),sl36⟩)
  (c36:PySem.W.codeIn K cd36 "_law_copy" = true)
  (a37:PySem.W.nsIn K mainGlobals "_law_are_refused" = some (some (.ref f37)))
  (l37:K.lookup f37=some ⟨oc37,od37,.func (PySem.W.fnOf "_law_are_refused" "_law_are_refused" (defArgs sRefs) (defBody sRefs) (defScope sRefs) .none kV37 dc37 pm37 an37 cd37 ct37),sl37⟩)
  (c37:PySem.W.codeIn K cd37 "_law_are_refused" = true)
  (a38:PySem.W.nsIn K mainGlobals "law" = some (some (.ref f38)))
  (l38:K.lookup f38=some ⟨oc38,od38,.func (PySem.W.fnOf "law" "law" (defArgs sLaw) (defBody sLaw) (defScope sLaw) .none kV38 dc38 pm38 an38 cd38 ct38),sl38⟩)
  (c38:PySem.W.codeIn K cd38 "law" = true)
  (aLe:PySem.W.nsIn K mainGlobals "LETTERS" = some (some (.str letters tkA)))
  (aLo:PySem.W.nsIn K mainGlobals "LONGEST_NAME" = some (some (.int 8 tkB)))
  (aFe:PySem.W.nsIn K mainGlobals "FEWEST_SIGNS" = some (some (.int 2 tkC)))
  (aMo:PySem.W.nsIn K mainGlobals "MOST_SIGNS" = some (some (.int 6 tkD)))
  (aLw:PySem.W.nsIn K mainGlobals "LONGEST_WORD" = some (some (.int 8 tkE)))
  (aMt:PySem.W.nsIn K mainGlobals "MOST_THINGS" = some (some (.int 20 tkH)))
  (aMc:PySem.W.nsIn K mainGlobals "MOST_COUNT" = some (some (.int 1000000000 tkI)))
  (m0:PySem.W.nsIn K mainGlobals "DearError" = some (some (.ref C0)))
  (m1:PySem.W.nsIn K mainGlobals "NoTongue" = some (some (.ref C1)))
  (m2:PySem.W.nsIn K mainGlobals "NoWants" = some (some (.ref C2)))
  (q1:PySem.W.findIn K (.ref C1) "__getattribute__" = some (some (.builtin "BaseException.__getattribute__")))
  (q0:PySem.W.findIn K (.ref C1) "__getattr__" = some none)
  (q2:PySem.W.hasDictIn K C1=true)
  (q3:PySem.W.findIn K (.ref C1) "__class__" = some (some (.builtin "object.__class__")))
  (q6:PySem.W.mroIn K C1 (.type "object")=some true)
  (qb:PySem.W.mroIn K C1 (.type "BaseException")=some true)
  (q7:PySem.W.mroIn K C1 (.ref C1)=some true)
  (q9:PySem.W.mroIn K C1 (.ref C0)=some true)
  (qA:PySem.W.findIn K (.ref C2) "__getattribute__" = some (some (.builtin "BaseException.__getattribute__")))
  (qB:PySem.W.findIn K (.ref C2) "__getattr__" = some none)
  (qC:PySem.W.hasDictIn K C2=true)
  (qD:PySem.W.findIn K (.ref C2) "__class__" = some (some (.builtin "object.__class__")))
  (qG:PySem.W.mroIn K C2 (.type "object")=some true)
  (qH:PySem.W.mroIn K C2 (.type "BaseException")=some true)
  (qI:PySem.W.mroIn K C2 (.ref C2)=some true)
  (qJ:PySem.W.mroIn K C2 (.ref C0)=some true)
  (q4:PySem.W.specialIn K (.builtin "object.__class__") "__get__" = some (some (.builtin "getset_descriptor.__get__")))
  (q5:PySem.W.takesIn K (.builtin "object.__class__")=some true)
  (r1:PySem.W.instIn K (.ref C0) (.type "tuple")=some false)
  (r2:PySem.W.hasDictIn K C0=true)
  (r3:PySem.W.mroIn K C0 (.type "BaseException")=some true)
  (n12:PySem.W.mroIn K C1 (.ref C2)=some false)
  (n21:PySem.W.mroIn K C2 (.ref C1)=some false)
  (t1:PySem.W.typeIn K (.ref C1)=some (.type "type"))
  (t2:PySem.W.typeIn K (.ref C2)=some (.type "type"))
  (IKf:PySem.W.findIn K (.ref C1) "__init__" = some (some (.ref fI1)))
  (IK:InitK l.prog w K mg C1 fI1 "part")
  (IKbf:PySem.W.findIn K (.ref C2) "__init__" = some (some (.ref fI2)))
  (IKb:InitK l.prog w K mg C2 fI2 "number")
  (zzi:PySem.W.nsIn K mainGlobals "zip" = some none)
  (zdi:PySem.W.nsIn K mainGlobals "dict" = some none)
  (aNo:PySem.W.nsIn K mainGlobals "NOUGHT" = some (some (.ref aN)))
  (lNo:K.lookup aN=some ⟨.type "tuple",odN,.seq #[.int 0 tkF,.int 1 tkG] nN,slN⟩)
  (lT:K.lookup dT=some ⟨oT,odT,.seq #[.int 1 tk] nT,slT⟩)
  (z_isi:PySem.W.nsIn K mainGlobals "isinstance" = some none)
  (z_int:PySem.W.nsIn K mainGlobals "int" = some none)
  (z_bool:PySem.W.nsIn K mainGlobals "bool" = some none)
  (z_tuple:PySem.W.nsIn K mainGlobals "tuple" = some none)
  (z_abs:PySem.W.nsIn K mainGlobals "abs" = some none)
  (z_len:PySem.W.nsIn K mainGlobals "len" = some none)
  (z_enum:PySem.W.nsIn K mainGlobals "enumerate" = some none)
  (z_str:PySem.W.nsIn K mainGlobals "str" = some none)
  (z_range:PySem.W.nsIn K mainGlobals "range" = some none)
  (z_max:PySem.W.nsIn K mainGlobals "max" = some none)
  (z_all:PySem.W.nsIn K mainGlobals "all" = some none)
  (z_set:PySem.W.nsIn K mainGlobals "set" = some none)
  (z_list:PySem.W.nsIn K mainGlobals "list" = some none)
  (z_min:PySem.W.nsIn K mainGlobals "min" = some none) :
  ∃fd:FuncData,(∀(s:Shared) (v:Value),BindsTo s fd ⟨[v],[]⟩ [("_law_script",v)])∧∀base:Heap,K.In base→base.Ns mainGlobals mg→BmOf mg base→FnOk l.prog w K mg base (CXE l.prog w) 11 fa fd ["_law_script"] (spLaw (tbOf K "is_name") (tbOf K "are_signs") K):=by
 have e:=hfa.symm.trans (PySem.W.mg_of X G a38)
 cases e
 have B:Bl mg:=⟨PySem.W.mg_none_of X G z_isi,PySem.W.mg_none_of X G z_int,PySem.W.mg_none_of X G z_bool,PySem.W.mg_none_of X G z_tuple,PySem.W.mg_none_of X G z_abs,PySem.W.mg_none_of X G z_len,PySem.W.mg_none_of X G z_enum,PySem.W.mg_none_of X G z_str,PySem.W.mg_none_of X G z_range,PySem.W.mg_none_of X G z_max,PySem.W.mg_none_of X G z_all,PySem.W.mg_none_of X G z_set,PySem.W.mg_none_of X G z_list,PySem.W.mg_none_of X G z_min⟩
 have hcd4:=cd_of CN4 l4
 subst hcd4
 rw [CN4.tb]
 have hcd12:=cd_of CN12 l12
 subst hcd12
 rw [CN12.tb]
 have k0:=keep_of l0
 have F0:=fung_mk (st:=sWhole) l0 c0 k0
 have k1:=keep_of l1
 have F1:=fung_mk (st:=sWithin) l1 c1 k1
 have k2:=keep_of l2
 have F2:=fung_mk (st:=sIsF) l2 c2 k2
 have k3:=keep_of l3
 have F3:=fung_mk (st:=sAbove) l3 c3 k3
 have k4:=keep_of l4
 have F4:=fung_mk (st:=sName) l4 c4 k4
 have k5:=keep_of l5
 have F5:=fung_mk (st:=sLetter) l5 c5 k5
 have k6:=keep_of l6
 have F6:=fung_mk (st:=sGcd) l6 c6 k6
 have k7:=keep_of l7
 have F7:=fung_mk (st:=sFrac) l7 c7 k7
 have k8:=keep_of l8
 have F8:=fung_mk (st:=sPlus) l8 c8 k8
 have k9:=keep_of l9
 have F9:=fung_mk (st:=sTimes) l9 c9 k9
 have k10:=keep_of l10
 have F10:=fung_mk (st:=sSum) l10 c10 k10
 have k11:=keep_of l11
 have F11:=fung_mk (st:=sLook) l11 c11 k11
 have k12:=keep_of l12
 have F12:=fung_mk (st:=sSigns) l12 c12 k12
 have k13:=keep_of l13
 have F13:=fung_mk (st:=sRow) l13 c13 k13
 have k14:=keep_of l14
 have F14:=fung_mk (st:=sUnlike) l14 c14 k14
 have k15:=keep_of l15
 have F15:=fung_mk (st:=sSignsOf) l15 c15 k15
 have k16:=keep_of l16
 have F16:=fung_mk (st:=sLookW) l16 c16 k16
 have k17:=keep_of l17
 have F17:=fung_mk (st:=sWant) l17 c17 k17
 have k18:=keep_of l18
 have F18:=fung_mk (st:=sCount) l18 c18 k18
 have k19:=keep_of l19
 have F19:=fung_mk (st:=sRWay) l19 c19 k19
 have k20:=keep_of l20
 have F20:=fung_mk (st:=sRPrice) l20 c20 k20
 have k21:=keep_of l21
 have F21:=fung_mk (st:=sLasts) l21 c21 k21
 have k22:=keep_of l22
 have F22:=fung_mk (st:=sCost) l22 c22 k22
 have k23:=keep_of l23
 have F23:=fung_mk (st:=sPool) l23 c23 k23
 have k24:=keep_of l24
 have F24:=fung_mk (st:=sDraw) l24 c24 k24
 have k25:=keep_of l25
 have F25:=fung_mk (st:=sLow) l25 c25 k25
 have k26:=keep_of l26
 have F26:=fung_mk (st:=sPrice) l26 c26 k26
 have k27:=keep_of l27
 have F27:=fung_mk (st:=sTongue) l27 c27 k27
 have k28:=keep_of l28
 have F28:=fung_mk (st:=sLName) l28 c28 k28
 have k29:=keep_of l29
 have F29:=fung_mk (st:=sWants) l29 c29 k29
 have k30:=keep_of l30
 have F30:=fung_mk (st:=sMay) l30 c30 k30
 have k31:=keep_of l31
 have F31:=fung_mk (st:=sWords) l31 c31 k31
 have k32:=keep_of l32
 have F32:=fung_mk (st:=sBook) l32 c32 k32
 have k33:=keep_of l33
 have F33:=fung_mk (st:=sLCost) l33 c33 k33
 have k34:=keep_of l34
 have F34:=fung_mk (st:=sTold) l34 c34 k34
 have k35:=keep_of l35
 have F35:=fung_mk (st:=sRefl) l35 c35 k35
 have k36:=keep_of l36
 have F36:=fung_mk (st:=sCopy) l36 c36 k36
 have k37:=keep_of l37
 have F37:=fung_mk (st:=sRefs) l37 c37 k37
 have k38:=keep_of l38
 have F38:=fung_mk (st:=sLaw) l38 c38 k38
 have b0:=F0.binds (ps:=["thing"]) fun _ _ _ _ _ _ us hl=>by obtain ⟨_,rfl⟩:=len1 hl; rfl
 have b1:=F1.binds (ps:=["thing","least","most"]) fun _ _ _ _ _ _ us hl=>by obtain ⟨_,_,_,rfl⟩:=len3 hl; rfl
 have b2:=F2.binds (ps:=["thing"]) fun _ _ _ _ _ _ us hl=>by obtain ⟨_,rfl⟩:=len1 hl; rfl
 have b3:=F3.binds (ps:=["thing"]) fun _ _ _ _ _ _ us hl=>by obtain ⟨_,rfl⟩:=len1 hl; rfl
 have b4:=F4.binds (ps:=["thing"]) fun _ _ _ _ _ _ us hl=>by obtain ⟨_,rfl⟩:=len1 hl; rfl
 have b5:=F5.binds (ps:=["thing"]) fun _ _ _ _ _ _ us hl=>by obtain ⟨_,rfl⟩:=len1 hl; rfl
 have b6:=F6.binds (ps:=["one","other"]) fun _ _ _ _ _ _ us hl=>by obtain ⟨_,_,rfl⟩:=len2 hl; rfl
 have b8:=F8.binds (ps:=["one","other"]) fun _ _ _ _ _ _ us hl=>by obtain ⟨_,_,rfl⟩:=len2 hl; rfl
 have b9:=F9.binds (ps:=["one","other"]) fun _ _ _ _ _ _ us hl=>by obtain ⟨_,_,rfl⟩:=len2 hl; rfl
 have b10:=F10.binds (ps:=["some"]) fun _ _ _ _ _ _ us hl=>by obtain ⟨_,rfl⟩:=len1 hl; rfl
 have b11:=F11.binds (ps:=["thing"]) fun _ _ _ _ _ _ us hl=>by obtain ⟨_,rfl⟩:=len1 hl; rfl
 have b12:=F12.binds (ps:=["thing"]) fun _ _ _ _ _ _ us hl=>by obtain ⟨_,rfl⟩:=len1 hl; rfl
 have b13:=F13.binds (ps:=["thing"]) fun _ _ _ _ _ _ us hl=>by obtain ⟨_,rfl⟩:=len1 hl; rfl
 have b14:=F14.binds (ps:=["choices","thing"]) fun _ _ _ _ _ _ us hl=>by obtain ⟨_,_,rfl⟩:=len2 hl; rfl
 have b15:=F15.binds (ps:=["tongue"]) fun _ _ _ _ _ _ us hl=>by obtain ⟨_,rfl⟩:=len1 hl; rfl
 have b16:=F16.binds (ps:=["thing"]) fun _ _ _ _ _ _ us hl=>by obtain ⟨_,rfl⟩:=len1 hl; rfl
 have b17:=F17.binds (ps:=["thing"]) fun _ _ _ _ _ _ us hl=>by obtain ⟨_,rfl⟩:=len1 hl; rfl
 have b18:=F18.binds (ps:=["thing"]) fun _ _ _ _ _ _ us hl=>by obtain ⟨_,rfl⟩:=len1 hl; rfl
 have b19:=F19.binds (ps:=["tongue","text"]) fun _ _ _ _ _ _ us hl=>by obtain ⟨_,_,rfl⟩:=len2 hl; rfl
 have b20:=F20.binds (ps:=["tongue","word"]) fun _ _ _ _ _ _ us hl=>by obtain ⟨_,_,rfl⟩:=len2 hl; rfl
 have b21:=F21.binds (ps:=["tongue"]) fun _ _ _ _ _ _ us hl=>by obtain ⟨_,rfl⟩:=len1 hl; rfl
 have b22:=F22.binds (ps:=["tongue","wants","book"]) fun _ _ _ _ _ _ us hl=>by obtain ⟨_,_,_,rfl⟩:=len3 hl; rfl
 have b23:=F23.binds (ps:=["_law_script","_law_k"]) fun _ _ _ _ _ _ us hl=>by obtain ⟨_,_,rfl⟩:=len2 hl; rfl
 have b24:=F24.binds (ps:=["_law_pool_here","_law_many"]) fun _ _ _ _ _ _ us hl=>by obtain ⟨_,_,rfl⟩:=len2 hl; rfl
 have b25:=F25.binds (ps:=["_law_top","_law_bottom"]) fun _ _ _ _ _ _ us hl=>by obtain ⟨_,_,rfl⟩:=len2 hl; rfl
 have b26:=F26.binds (ps:=["_law_pool_here"]) fun _ _ _ _ _ _ us hl=>by obtain ⟨_,rfl⟩:=len1 hl; rfl
 have b27:=F27.binds (ps:=["_law_pool_here","_law_most_signs","_law_most_long"]) fun _ _ _ _ _ _ us hl=>by obtain ⟨_,_,_,rfl⟩:=len3 hl; rfl
 have b28:=F28.binds (ps:=["_law_k","_law_salt"]) fun _ _ _ _ _ _ us hl=>by obtain ⟨_,_,rfl⟩:=len2 hl; rfl
 have b29:=F29.binds (ps:=["_law_pool_here","_law_many"]) fun _ _ _ _ _ _ us hl=>by obtain ⟨_,_,rfl⟩:=len2 hl; rfl
 have b30:=F30.binds (ps:=["_law_tongue_here","_law_ahead","_law_sign"]) fun _ _ _ _ _ _ us hl=>by obtain ⟨_,_,_,rfl⟩:=len3 hl; rfl
 have b31:=F31.binds (ps:=["_law_tongue_here"]) fun _ _ _ _ _ _ us hl=>by obtain ⟨_,rfl⟩:=len1 hl; rfl
 have b32:=F32.binds (ps:=["_law_script","_law_words_here"]) fun _ _ _ _ _ _ us hl=>by obtain ⟨_,_,rfl⟩:=len2 hl; rfl
 have b33:=F33.binds (ps:=["_law_tongue_here","_law_wants_here","_law_book_here"]) fun _ _ _ _ _ _ us hl=>by obtain ⟨_,_,_,rfl⟩:=len3 hl; rfl
 have b34:=F34.binds (ps:=["_law_tongue_here","_law_wants_here","_law_book_here"]) fun _ _ _ _ _ _ us hl=>by obtain ⟨_,_,_,rfl⟩:=len3 hl; rfl
 have b35:=F35.binds (ps:=["_law_tongue_here","_law_wants_here","_law_book_here"]) fun _ _ _ _ _ _ us hl=>by obtain ⟨_,_,_,rfl⟩:=len3 hl; rfl
 have b36:=F36.binds (ps:=["_law_tongue_here"]) fun _ _ _ _ _ _ us hl=>by obtain ⟨_,rfl⟩:=len1 hl; rfl
 have b37:=F37.binds (ps:=["_law_tongue_here","_law_wants_here","_law_book_here"]) fun _ _ _ _ _ _ us hl=>by obtain ⟨_,_,_,rfl⟩:=len3 hl; rfl
 have cl:∀{D:Addr},PySem.W.hasDictIn K D=true→(PySem.W.clsIn K D).isSome=true:=fun q=>by
  obtain ⟨cd,z,_⟩:=PySem.W.any_some q
  rw [z]; rfl
 have C:Cl2 K mg C0 C1 C2:=⟨PySem.W.mg_of X G m0,PySem.W.mg_of X G m1,PySem.W.mg_of X G m2,⟨q1,q0,q2,q3,q4,q5,q6,qb⟩,⟨qA,qB,qC,qD,q4,q5,qG,qH⟩,q9,qJ,⟨r1,cl r2,r3⟩,kit_no q7 n12 qC t2,kit_no qI n21 q2 t1⟩
 have sO:∀H,SqT K H aN [.int 0,.int 1]:=fun H=>.inr ⟨_,_,_,lNo,rfl,rfl,by show 2≤sizeLine; decide,.cons ⟨_,rfl⟩ (.cons ⟨_,rfl⟩ .nil)⟩
 have b7:Binds K (PySem.W.fnOf "fraction" "fraction" (defArgs sFrac) (defBody sFrac) (defScope sFrac) (.ref dT) kV7 dc7 pm7 an7 cd7 ct7) ["top","bottom"] []:=fun s us KX hl=>by
  match us,(show us.length=2 by simpa using hl) with
  | [u,v],_=>exact PySem.W.binds_K KX rfl lT rfl rfl rfl
 have d7:Binds K (PySem.W.fnOf "fraction" "fraction" (defArgs sFrac) (defBody sFrac) (defScope sFrac) (.ref dT) kV7 dc7 pm7 an7 cd7 ct7) ["top","bottom"] [.int 1 tk]:=fun s us KX hl=>by
  match us,(show us.length=1 by simpa using hl) with
  | [u],_=>exact PySem.W.binds_K KX rfl lT rfl rfl rfl
 refine ⟨PySem.W.fnOf "law" "law" (defArgs sLaw) (defBody sLaw) (defScope sLaw) .none kV38 dc38 pm38 an38 cd38 ct38,fun s v=>.of_eq rfl,fun base _ _ BM=>?_⟩
 have GW:=ok_whole (P:=l.prog) (w:=w) (mg:=mg) (base:=base) F0 B
 have GI:=ok_within (P:=l.prog) (w:=w) (mg:=mg) (base:=base) F1 GW (PySem.W.mg_of X G a0) k0 b0
 have GG:=ok_gcd (P:=l.prog) (w:=w) (mg:=mg) (base:=base) F6 B
 have GF:=ok_isF (P:=l.prog) (w:=w) (mg:=mg) (base:=base) F2 B GW (PySem.W.mg_of X G a0) k0 b0 GG (PySem.W.mg_of X G a6) k6 b6
 have GN:=ok_name (P:=l.prog) (w:=w) (mg:=mg) (base:=base) l4 c4 B CN4.ck BM (PySem.W.mg_of X G aLe) (PySem.W.mg_of X G aLo)
 have GL:=ok_letter (P:=l.prog) (w:=w) (mg:=mg) (base:=base) F5 B GN (PySem.W.mg_of X G a4) k4 b4
 have GA:=ok_above (P:=l.prog) (w:=w) (mg:=mg) (base:=base) F3 GF (PySem.W.mg_of X G a2) k2 b2
 have GR:=ok_row (P:=l.prog) (w:=w) (mg:=mg) (base:=base) F13 B GL (PySem.W.mg_of X G a5) k5 b5 GA (PySem.W.mg_of X G a3) k3 b3
 have GSi:=ok_signs (P:=l.prog) (w:=w) (mg:=mg) (base:=base) (Ts:=[]) l12 c12 B CN12.ck BM (PySem.W.mg_of X G aFe) (PySem.W.mg_of X G aMo) GR (PySem.W.mg_of X G a13) k13 b13
 have GSe:=ok_signsE (P:=l.prog) (w:=w) (mg:=mg) (base:=base) l12 c12 B CN12.ck BM (PySem.W.mg_of X G aFe) (PySem.W.mg_of X G aMo) GR (PySem.W.mg_of X G a13) k13 b13
 have GSd:=ok_signsD (P:=l.prog) (w:=w) (mg:=mg) (base:=base) l12 c12 B CN12.ck BM (PySem.W.mg_of X G aFe) (PySem.W.mg_of X G aMo) GR (PySem.W.mg_of X G a13) k13 b13
 have GSo:=ok_signsOf (P:=l.prog) (w:=w) (mg:=mg) (base:=base) F15
 have GUl:=ok_unlike (P:=l.prog) (w:=w) (mg:=mg) (base:=base) F14 B
 have GUb:=ok_unlikeB (P:=l.prog) (w:=w) (mg:=mg) (base:=base) F14 B
 have GLk:=ok_look (P:=l.prog) (w:=w) (mg:=mg) (base:=base) (Ts:=[]) F11 B (PySem.W.mg_of X G aLw) GSi (PySem.W.mg_of X G a12) k12 b12 GSo (PySem.W.mg_of X G a15) k15 b15 GUl (PySem.W.mg_of X G a14) k14 b14 GI (PySem.W.mg_of X G a1) k1 b1
 have GLb:=ok_lookB (P:=l.prog) (w:=w) (mg:=mg) (base:=base) F11 B (PySem.W.mg_of X G aLw) (PySem.W.mg_of X G m1) IK (FnOk.or GSi (FnOk.or GSe GSd)) (PySem.W.mg_of X G a12) k12 b12 GSo (PySem.W.mg_of X G a15) k15 b15 (FnOk.or GUl GUb) (PySem.W.mg_of X G a14) k14 b14 GI (PySem.W.mg_of X G a1) k1 b1
 have GCo:=ok_count (P:=l.prog) (w:=w) (mg:=mg) (base:=base) F18 GI (PySem.W.mg_of X G a1) k1 b1 (PySem.W.mg_of X G aMc)
 have GWa:=ok_want (P:=l.prog) (w:=w) (mg:=mg) (base:=base) F17 B GN (PySem.W.mg_of X G a4) k4 b4 GCo (PySem.W.mg_of X G a18) k18 b18
 have GLw:=ok_lookWs (P:=l.prog) (w:=w) (mg:=mg) (base:=base) F16 B GWa (PySem.W.mg_of X G a17) k17 b17 (PySem.W.mg_of X G aMt) (PySem.W.mg_of X G m2) IKb
 have GFr:=ok_fr (P:=l.prog) (w:=w) (mg:=mg) (base:=base) F7 GW (PySem.W.mg_of X G a0) k0 b0 GG (PySem.W.mg_of X G a6) k6 b6
 have GPl:=ok_plus (P:=l.prog) (w:=w) (mg:=mg) (base:=base) F8 GFr (PySem.W.mg_of X G a7) k7 b7
 have GTi:=ok_times (P:=l.prog) (w:=w) (mg:=mg) (base:=base) F9 GFr (PySem.W.mg_of X G a7) k7 b7
 have GSm:=ok_sum (P:=l.prog) (w:=w) (mg:=mg) (base:=base) F10 (PySem.W.mg_of X G aNo) sO GPl (PySem.W.mg_of X G a8) k8 b8
 have GLa:=ok_lasts (P:=l.prog) (w:=w) (mg:=mg) (base:=base) F21
 have GRw:=ok_rway (P:=l.prog) (w:=w) (mg:=mg) (base:=base) F19 GSm (PySem.W.mg_of X G a10) k10 b10
 have GRp:=ok_rprice (P:=l.prog) (w:=w) (mg:=mg) (base:=base) F20 GPl (PySem.W.mg_of X G a8) k8 b8 GRw (PySem.W.mg_of X G a19) k19 b19 GLa (PySem.W.mg_of X G a21) k21 b21
 have GCs:=ok_cost (P:=l.prog) (w:=w) (mg:=mg) (base:=base) F22 (PySem.W.mg_none_of X G zzi) GLk (PySem.W.mg_of X G a11) k11 b11 GLw (PySem.W.mg_of X G a16) k16 b16 GTi (PySem.W.mg_of X G a9) k9 b9 GFr (PySem.W.mg_of X G a7) k7 b7 GRp (PySem.W.mg_of X G a20) k20 b20 GSm (PySem.W.mg_of X G a10) k10 b10 d7
 have GCb:=ok_costB (P:=l.prog) (w:=w) (mg:=mg) (base:=base) F22 (PySem.W.mg_none_of X G zzi) (FnOk.or GLk GLb) (PySem.W.mg_of X G a11) k11 b11 GLw (PySem.W.mg_of X G a16) k16 b16 GTi (PySem.W.mg_of X G a9) k9 b9 GFr (PySem.W.mg_of X G a7) k7 b7 GRp (PySem.W.mg_of X G a20) k20 b20 GSm (PySem.W.mg_of X G a10) k10 b10 d7
 have GP:=ok_pool (P:=l.prog) (w:=w) (mg:=mg) (base:=base) F23 B
 have GD:=ok_draw (P:=l.prog) (w:=w) (mg:=mg) (base:=base) F24
 have GLo:=ok_low (P:=l.prog) (w:=w) (mg:=mg) (base:=base) F25
 have GPr:=ok_price (P:=l.prog) (w:=w) (mg:=mg) (base:=base) F26 GD (PySem.W.mg_of X G a24) k24 b24 GLo (PySem.W.mg_of X G a25) k25 b25
 have GTo:=ok_tongue (P:=l.prog) (w:=w) (mg:=mg) (base:=base) F27 B GD (PySem.W.mg_of X G a24) k24 b24 GPr (PySem.W.mg_of X G a26) k26 b26
 have GNm:=ok_nm (P:=l.prog) (w:=w) (mg:=mg) (base:=base) F28
 have GWs:=ok_wants (P:=l.prog) (w:=w) (mg:=mg) (base:=base) F29 B GD (PySem.W.mg_of X G a24) k24 b24 GNm (PySem.W.mg_of X G a28) k28 b28
 have GMa:=ok_may (P:=l.prog) (w:=w) (mg:=mg) (base:=base) F30
 have GWo:=ok_words (P:=l.prog) (w:=w) (mg:=mg) (base:=base) F31 B (PySem.W.mg_none_of X G zdi) GMa (PySem.W.mg_of X G a30) k30 b30
 have GBo:=ok_book (P:=l.prog) (w:=w) (mg:=mg) (base:=base) F32 B GP (PySem.W.mg_of X G a23) k23 b23 GD (PySem.W.mg_of X G a24) k24 b24
 have GLc:=ok_lcost (P:=l.prog) (w:=w) (mg:=mg) (base:=base) F33 B (PySem.W.mg_none_of X G zdi) GLo (PySem.W.mg_of X G a25) k25 b25
 have GTl:=ok_told (P:=l.prog) (w:=w) (mg:=mg) (base:=base) F34 B GCs (PySem.W.mg_of X G a22) k22 b22 GLc (PySem.W.mg_of X G a33) k33 b33
 have GRl:=ok_refl (P:=l.prog) (w:=w) (mg:=mg) (base:=base) F35 B C GCb (PySem.W.mg_of X G a22) k22 b22
 have GCp:=ok_copyT (P:=l.prog) (w:=w) (mg:=mg) (base:=base) F36 B
 have GRe:=ok_refs (P:=l.prog) (w:=w) (mg:=mg) (base:=base) F37 B GRl (PySem.W.mg_of X G a35) k35 b35
 exact ok_law F38 B GP (PySem.W.mg_of X G a23) k23 b23 GD (PySem.W.mg_of X G a24) k24 b24 GTo (PySem.W.mg_of X G a27) k27 b27 GWo (PySem.W.mg_of X G a31) k31 b31 GBo (PySem.W.mg_of X G a32) k32 b32 GWs (PySem.W.mg_of X G a29) k29 b29 GCp (PySem.W.mg_of X G a36) k36 b36 GTl (PySem.W.mg_of X G a34) k34 b34 GCs (PySem.W.mg_of X G a22) k22 b22 GRe (PySem.W.mg_of X G a37) k37 b37
theorem walk {l:PySem.W.OpenLaw} {q:Program} {loose:List Str} {XP:(Str→Option Value)→Heap→Prop} {YP:World→Heap→Prop} {d:DefRec} {K:Params→PySem.W.Frag} (hn:l.most=some 63) (hdf:d.params.defaults=[])
  (hY:∀(w:World) (h:Heap),YP w h→(K w.params).In h) (hf:HF q ["is_name","are_signs"]) (hC:∀w:World,HC (K w.params) ["is_name","are_signs"]) (hKT:∀w:World,HT0 (K w.params) ["is_name","are_signs"])
  (F:∀(w:World) (mg:Str→Option Value) (fa:Addr) (h:Heap),(K w.params).In h→h.Ns mainGlobals mg→mg d.name=some (.ref fa)→
   ∃fd:FuncData,(∀(s:Shared) (u:Value),BindsTo s fd ⟨[u],[]⟩ [("_law_script",u)])∧∀base:Heap,(K w.params).In base→base.Ns mainGlobals mg→BmOf mg base→FnOk l.prog w (K w.params) mg base (CXE l.prog w) 11 fa fd ["_law_script"] (spLaw (tbOf (K w.params) "is_name") (tbOf (K w.params) "are_signs") (K w.params))) :
  PySem.W.WalkO q loose XP YP l.row.toRowW d [] (fun f vs=>PySem.call f vs):=by
 refine L2.walk_ofN ["is_name","are_signs"] (n:=63) (k:=11) (x:="_law_script") (CX:=fun w=>CXE l.prog w) (sp:=fun w=>spLaw (tbOf (K w.params) "is_name") (tbOf (K w.params) "are_signs") (K w.params)) hn (by decide) hdf ⟨rfl,by decide,by decide⟩ hY hf hC hKT F ?_ fun _ _ _ _ _ z=>?_
 ·intro w H a ns hl hT hS
  exact ⟨a,ns,rfl,hS,hl,⟨#[],hT "is_name" (by simp),trivial⟩,⟨#[],hT "are_signs" (by simp),trivial⟩,fun _=>rfl⟩
 ·obtain ⟨_,_,_,_,_,_,_,_,_,_,_,_,z⟩:=z
  exact z
theorem walkF {l:PySem.W.OpenLaw} {q:Program} {loose:List Str} {XP:(Str→Option Value)→Heap→Prop} {d:DefRec} {K:Params→PySem.W.Frag} (hn:l.most=some 63) (hdf:d.params.defaults=[])
  (hf:HF q ["is_name","are_signs"]) (hC:∀w:World,HC (filt (K w.params)) ["is_name","are_signs"]) (hKT:∀w:World,HT0 (filt (K w.params)) ["is_name","are_signs"])
  (F:∀(w:World) (mg:Str→Option Value) (fa:Addr) (h:Heap),(filt (K w.params)).In h→h.Ns mainGlobals mg→mg d.name=some (.ref fa)→
   ∃fd:FuncData,(∀(s:Shared) (u:Value),BindsTo s fd ⟨[u],[]⟩ [("_law_script",u)])∧∀base:Heap,(filt (K w.params)).In base→base.Ns mainGlobals mg→BmOf mg base→FnOk l.prog w (filt (K w.params)) mg base (CXE l.prog w) 11 fa fd ["_law_script"] (spLaw (tbOf (filt (K w.params)) "is_name") (tbOf (filt (K w.params)) "are_signs") (filt (K w.params)))) :
  PySem.W.WalkO q loose XP (fun w h=>(filt (K w.params)).In h) l.row.toRowW d [] (fun f vs=>PySem.call f vs):=
 walk (K:=fun P=>filt (K P)) hn hdf (fun w h Y=>Y) hf hC hKT F
end G1
open PySem PySem.W PyProof.Rows
local macro_rules | `(tactic| refine $t) => `(tactic| (refine' $t; try (case hl => exact HD.left_cut HP.e1 (by kernel_rfl) HP.e2 HP.pre HP.blk HP.body HP.chain (by kernel_rfl) HP.look1 (fun w => by kernel_rfl) (fun w => by kernel_rfl))))
set_option maxRecDepth 100000 in
set_option maxHeartbeats 0 in
theorem PySem.Challenge.cw_dearsigns_k13_costs_holds : PySem.Challenge.rw_dearsigns_k13_costs.Holds := by
 w_on; o_law; z_head; (case hw=>w_witness2)
 k_fill
 refine L2.walkX_of (fun _=>by kernel_rfl) (G1.walkF (l:=PySem.Challenge.rw_dearsigns_k13_costs) rfl rfl ⟨⟨_,rfl⟩,⟨_,rfl⟩,trivial⟩ ?C ?KT ?F)
 case C=>
  intro w
  refine' ⟨⟨_,_,_,_,L2.codeN_mk ?x0_a ?x0_l ?x0_hc ?x0_lc ?x0_h11 ?x0_h18 ?x0_h7 ?x0_h9 ?x0_h10 ?x0_ne⟩,⟨_,_,_,_,L2.codeN_mk ?x1_a ?x1_l ?x1_hc ?x1_lc ?x1_h11 ?x1_h18 ?x1_h7 ?x1_h9 ?x1_h10 ?x1_ne⟩,trivial⟩
  (case x0_a=>refine L2.filt_ns ?_; k_is)
  (case x0_l=>refine L2.filt_look ?zz1 ?zz2; (case zz1=>k_is); (case zz2=>rfl))
  (case x0_hc=>rfl)
  (case x0_lc=>refine L2.filt_look ?zz1 ?zz2; (case zz1=>k_is); (case zz2=>rfl))
  (case x0_h11=>rfl)
  (case x0_h18=>rfl)
  (case x0_h7=>rfl)
  (case x0_h9=>rfl)
  (case x0_h10=>rfl)
  (case x0_ne=>decide)
  (case x1_a=>refine L2.filt_ns ?_; k_is)
  (case x1_l=>refine L2.filt_look ?zz1 ?zz2; (case zz1=>k_is); (case zz2=>rfl))
  (case x1_hc=>rfl)
  (case x1_lc=>refine L2.filt_look ?zz1 ?zz2; (case zz1=>k_is); (case zz2=>rfl))
  (case x1_h11=>rfl)
  (case x1_h18=>rfl)
  (case x1_h7=>rfl)
  (case x1_h9=>rfl)
  (case x1_h10=>rfl)
  (case x1_ne=>decide)
 case KT=>
  intro w
  exact ⟨by kernel_rfl,by kernel_rfl,trivial⟩
 case F=>
  intro w mg fa h KX G hmg
  refine' G1.all_mk KX G hmg (L2.codeN_mk ?y0_a ?y0_l ?y0_hc ?y0_lc ?y0_h11 ?y0_h18 ?y0_h7 ?y0_h9 ?y0_h10 ?y0_ne) (L2.codeN_mk ?y1_a ?y1_l ?y1_hc ?y1_lc ?y1_h11 ?y1_h18 ?y1_h7 ?y1_h9 ?y1_h10 ?y1_ne) ?a0 ?l0 ?c0 ?a1 ?l1 ?c1 ?a2 ?l2 ?c2 ?a3 ?l3 ?c3 ?a4 ?l4 ?c4 ?a5 ?l5 ?c5 ?a6 ?l6 ?c6 ?a7 ?l7 ?c7 ?a8 ?l8 ?c8 ?a9 ?l9 ?c9 ?a10 ?l10 ?c10 ?a11 ?l11 ?c11 ?a12 ?l12 ?c12 ?a13 ?l13 ?c13 ?a14 ?l14 ?c14 ?a15 ?l15 ?c15 ?a16 ?l16 ?c16 ?a17 ?l17 ?c17 ?a18 ?l18 ?c18 ?a19 ?l19 ?c19 ?a20 ?l20 ?c20 ?a21 ?l21 ?c21 ?a22 ?l22 ?c22 ?a23 ?l23 ?c23 ?a24 ?l24 ?c24 ?a25 ?l25 ?c25 ?a26 ?l26 ?c26 ?a27 ?l27 ?c27 ?a28 ?l28 ?c28 ?a29 ?l29 ?c29 ?a30 ?l30 ?c30 ?a31 ?l31 ?c31 ?a32 ?l32 ?c32 ?a33 ?l33 ?c33 ?a34 ?l34 ?c34 ?a35 ?l35 ?c35 ?a36 ?l36 ?c36 ?a37 ?l37 ?c37 ?a38 ?l38 ?c38 ?aLe ?aLo ?aFe ?aMo ?aLw ?aMt ?aMc ?m0 ?m1 ?m2 ?q1 ?q0 ?q2 ?q3 ?q6 ?qb ?q7 ?q9 ?qA ?qB ?qC ?qD ?qG ?qH ?qI ?qJ ?q4 ?q5 ?r1 ?r2 ?r3 ?n12 ?n21 ?t1 ?t2 ?IKf ?IK ?IKbf ?IKb ?zzi ?zdi ?aNo ?lNo ?lT ?z_isi ?z_int ?z_bool ?z_tuple ?z_abs ?z_len ?z_enum ?z_str ?z_range ?z_max ?z_all ?z_set ?z_list ?z_min
  (case y0_a=>refine L2.filt_ns ?_; k_is)
  (case y0_l=>refine L2.filt_look ?zz1 ?zz2; (case zz1=>k_is); (case zz2=>rfl))
  (case y0_hc=>rfl)
  (case y0_lc=>refine L2.filt_look ?zz1 ?zz2; (case zz1=>k_is); (case zz2=>rfl))
  (case y0_h11=>rfl)
  (case y0_h18=>rfl)
  (case y0_h7=>rfl)
  (case y0_h9=>rfl)
  (case y0_h10=>rfl)
  (case y0_ne=>decide)
  (case y1_a=>refine L2.filt_ns ?_; k_is)
  (case y1_l=>refine L2.filt_look ?zz1 ?zz2; (case zz1=>k_is); (case zz2=>rfl))
  (case y1_hc=>rfl)
  (case y1_lc=>refine L2.filt_look ?zz1 ?zz2; (case zz1=>k_is); (case zz2=>rfl))
  (case y1_h11=>rfl)
  (case y1_h18=>rfl)
  (case y1_h7=>rfl)
  (case y1_h9=>rfl)
  (case y1_h10=>rfl)
  (case y1_ne=>decide)
  (case a0=>refine L2.filt_ns ?_; k_is)
  (case l0=>refine L2.filt_look ?zz1 ?zz2; (case zz1=>k_is); (case zz2=>rfl))
  (case c0=>refine L2.filt_code ?_; k_is)
  (case a1=>refine L2.filt_ns ?_; k_is)
  (case l1=>refine L2.filt_look ?zz1 ?zz2; (case zz1=>k_is); (case zz2=>rfl))
  (case c1=>refine L2.filt_code ?_; k_is)
  (case a2=>refine L2.filt_ns ?_; k_is)
  (case l2=>refine L2.filt_look ?zz1 ?zz2; (case zz1=>k_is); (case zz2=>rfl))
  (case c2=>refine L2.filt_code ?_; k_is)
  (case a3=>refine L2.filt_ns ?_; k_is)
  (case l3=>refine L2.filt_look ?zz1 ?zz2; (case zz1=>k_is); (case zz2=>rfl))
  (case c3=>refine L2.filt_code ?_; k_is)
  (case a4=>refine L2.filt_ns ?_; k_is)
  (case l4=>refine L2.filt_look ?zz1 ?zz2; (case zz1=>k_is); (case zz2=>rfl))
  (case c4=>refine L2.filt_code ?_; k_is)
  (case a5=>refine L2.filt_ns ?_; k_is)
  (case l5=>refine L2.filt_look ?zz1 ?zz2; (case zz1=>k_is); (case zz2=>rfl))
  (case c5=>refine L2.filt_code ?_; k_is)
  (case a6=>refine L2.filt_ns ?_; k_is)
  (case l6=>refine L2.filt_look ?zz1 ?zz2; (case zz1=>k_is); (case zz2=>rfl))
  (case c6=>refine L2.filt_code ?_; k_is)
  (case a7=>refine L2.filt_ns ?_; k_is)
  (case l7=>refine L2.filt_look ?zz1 ?zz2; (case zz1=>k_is); (case zz2=>rfl))
  (case c7=>refine L2.filt_code ?_; k_is)
  (case a8=>refine L2.filt_ns ?_; k_is)
  (case l8=>refine L2.filt_look ?zz1 ?zz2; (case zz1=>k_is); (case zz2=>rfl))
  (case c8=>refine L2.filt_code ?_; k_is)
  (case a9=>refine L2.filt_ns ?_; k_is)
  (case l9=>refine L2.filt_look ?zz1 ?zz2; (case zz1=>k_is); (case zz2=>rfl))
  (case c9=>refine L2.filt_code ?_; k_is)
  (case a10=>refine L2.filt_ns ?_; k_is)
  (case l10=>refine L2.filt_look ?zz1 ?zz2; (case zz1=>k_is); (case zz2=>rfl))
  (case c10=>refine L2.filt_code ?_; k_is)
  (case a11=>refine L2.filt_ns ?_; k_is)
  (case l11=>refine L2.filt_look ?zz1 ?zz2; (case zz1=>k_is); (case zz2=>rfl))
  (case c11=>refine L2.filt_code ?_; k_is)
  (case a12=>refine L2.filt_ns ?_; k_is)
  (case l12=>refine L2.filt_look ?zz1 ?zz2; (case zz1=>k_is); (case zz2=>rfl))
  (case c12=>refine L2.filt_code ?_; k_is)
  (case a13=>refine L2.filt_ns ?_; k_is)
  (case l13=>refine L2.filt_look ?zz1 ?zz2; (case zz1=>k_is); (case zz2=>rfl))
  (case c13=>refine L2.filt_code ?_; k_is)
  (case a14=>refine L2.filt_ns ?_; k_is)
  (case l14=>refine L2.filt_look ?zz1 ?zz2; (case zz1=>k_is); (case zz2=>rfl))
  (case c14=>refine L2.filt_code ?_; k_is)
  (case a15=>refine L2.filt_ns ?_; k_is)
  (case l15=>refine L2.filt_look ?zz1 ?zz2; (case zz1=>k_is); (case zz2=>rfl))
  (case c15=>refine L2.filt_code ?_; k_is)
  (case a16=>refine L2.filt_ns ?_; k_is)
  (case l16=>refine L2.filt_look ?zz1 ?zz2; (case zz1=>k_is); (case zz2=>rfl))
  (case c16=>refine L2.filt_code ?_; k_is)
  (case a17=>refine L2.filt_ns ?_; k_is)
  (case l17=>refine L2.filt_look ?zz1 ?zz2; (case zz1=>k_is); (case zz2=>rfl))
  (case c17=>refine L2.filt_code ?_; k_is)
  (case a18=>refine L2.filt_ns ?_; k_is)
  (case l18=>refine L2.filt_look ?zz1 ?zz2; (case zz1=>k_is); (case zz2=>rfl))
  (case c18=>refine L2.filt_code ?_; k_is)
  (case a19=>refine L2.filt_ns ?_; k_is)
  (case l19=>refine L2.filt_look ?zz1 ?zz2; (case zz1=>k_is); (case zz2=>rfl))
  (case c19=>refine L2.filt_code ?_; k_is)
  (case a20=>refine L2.filt_ns ?_; k_is)
  (case l20=>refine L2.filt_look ?zz1 ?zz2; (case zz1=>k_is); (case zz2=>rfl))
  (case c20=>refine L2.filt_code ?_; k_is)
  (case a21=>refine L2.filt_ns ?_; k_is)
  (case l21=>refine L2.filt_look ?zz1 ?zz2; (case zz1=>k_is); (case zz2=>rfl))
  (case c21=>refine L2.filt_code ?_; k_is)
  (case a22=>refine L2.filt_ns ?_; k_is)
  (case l22=>refine L2.filt_look ?zz1 ?zz2; (case zz1=>k_is); (case zz2=>rfl))
  (case c22=>refine L2.filt_code ?_; k_is)
  (case a23=>refine L2.filt_ns ?_; k_is)
  (case l23=>refine L2.filt_look ?zz1 ?zz2; (case zz1=>k_is); (case zz2=>rfl))
  (case c23=>refine L2.filt_code ?_; k_is)
  (case a24=>refine L2.filt_ns ?_; k_is)
  (case l24=>refine L2.filt_look ?zz1 ?zz2; (case zz1=>k_is); (case zz2=>rfl))
  (case c24=>refine L2.filt_code ?_; k_is)
  (case a25=>refine L2.filt_ns ?_; k_is)
  (case l25=>refine L2.filt_look ?zz1 ?zz2; (case zz1=>k_is); (case zz2=>rfl))
  (case c25=>refine L2.filt_code ?_; k_is)
  (case a26=>refine L2.filt_ns ?_; k_is)
  (case l26=>refine L2.filt_look ?zz1 ?zz2; (case zz1=>k_is); (case zz2=>rfl))
  (case c26=>refine L2.filt_code ?_; k_is)
  (case a27=>refine L2.filt_ns ?_; k_is)
  (case l27=>refine L2.filt_look ?zz1 ?zz2; (case zz1=>k_is); (case zz2=>rfl))
  (case c27=>refine L2.filt_code ?_; k_is)
  (case a28=>refine L2.filt_ns ?_; k_is)
  (case l28=>refine L2.filt_look ?zz1 ?zz2; (case zz1=>k_is); (case zz2=>rfl))
  (case c28=>refine L2.filt_code ?_; k_is)
  (case a29=>refine L2.filt_ns ?_; k_is)
  (case l29=>refine L2.filt_look ?zz1 ?zz2; (case zz1=>k_is); (case zz2=>rfl))
  (case c29=>refine L2.filt_code ?_; k_is)
  (case a30=>refine L2.filt_ns ?_; k_is)
  (case l30=>refine L2.filt_look ?zz1 ?zz2; (case zz1=>k_is); (case zz2=>rfl))
  (case c30=>refine L2.filt_code ?_; k_is)
  (case a31=>refine L2.filt_ns ?_; k_is)
  (case l31=>refine L2.filt_look ?zz1 ?zz2; (case zz1=>k_is); (case zz2=>rfl))
  (case c31=>refine L2.filt_code ?_; k_is)
  (case a32=>refine L2.filt_ns ?_; k_is)
  (case l32=>refine L2.filt_look ?zz1 ?zz2; (case zz1=>k_is); (case zz2=>rfl))
  (case c32=>refine L2.filt_code ?_; k_is)
  (case a33=>refine L2.filt_ns ?_; k_is)
  (case l33=>refine L2.filt_look ?zz1 ?zz2; (case zz1=>k_is); (case zz2=>rfl))
  (case c33=>refine L2.filt_code ?_; k_is)
  (case a34=>refine L2.filt_ns ?_; k_is)
  (case l34=>refine L2.filt_look ?zz1 ?zz2; (case zz1=>k_is); (case zz2=>rfl))
  (case c34=>refine L2.filt_code ?_; k_is)
  (case a35=>refine L2.filt_ns ?_; k_is)
  (case l35=>refine L2.filt_look ?zz1 ?zz2; (case zz1=>k_is); (case zz2=>rfl))
  (case c35=>refine L2.filt_code ?_; k_is)
  (case a36=>refine L2.filt_ns ?_; k_is)
  (case l36=>refine L2.filt_look ?zz1 ?zz2; (case zz1=>k_is); (case zz2=>rfl))
  (case c36=>refine L2.filt_code ?_; k_is)
  (case a37=>refine L2.filt_ns ?_; k_is)
  (case l37=>refine L2.filt_look ?zz1 ?zz2; (case zz1=>k_is); (case zz2=>rfl))
  (case c37=>refine L2.filt_code ?_; k_is)
  (case a38=>refine L2.filt_ns ?_; k_is)
  (case l38=>refine L2.filt_look ?zz1 ?zz2; (case zz1=>k_is); (case zz2=>rfl))
  (case c38=>refine L2.filt_code ?_; k_is)
  (case aLe=>refine L2.filt_ns ?_; k_is)
  (case aLo=>refine L2.filt_ns ?_; k_is)
  (case aFe=>refine L2.filt_ns ?_; k_is)
  (case aMo=>refine L2.filt_ns ?_; k_is)
  (case aLw=>refine L2.filt_ns ?_; k_is)
  (case aMt=>refine L2.filt_ns ?_; k_is)
  (case aMc=>refine L2.filt_ns ?_; k_is)
  (case m0=>refine L2.filt_ns ?_; k_is)
  (case m1=>refine L2.filt_ns ?_; k_is)
  (case m2=>refine L2.filt_ns ?_; k_is)
  (case q1=>kernel_rfl)
  (case q0=>kernel_rfl)
  (case q2=>kernel_rfl)
  (case q3=>kernel_rfl)
  (case q6=>kernel_rfl)
  (case qb=>kernel_rfl)
  (case q7=>kernel_rfl)
  (case q9=>kernel_rfl)
  (case qA=>kernel_rfl)
  (case qB=>kernel_rfl)
  (case qC=>kernel_rfl)
  (case qD=>kernel_rfl)
  (case qG=>kernel_rfl)
  (case qH=>kernel_rfl)
  (case qI=>kernel_rfl)
  (case qJ=>kernel_rfl)
  (case q4=>kernel_rfl)
  (case q5=>kernel_rfl)
  (case r1=>kernel_rfl)
  (case r2=>kernel_rfl)
  (case r3=>kernel_rfl)
  (case n12=>kernel_rfl)
  (case n21=>kernel_rfl)
  (case t1=>kernel_rfl)
  (case t2=>kernel_rfl)
  (case IKf=>refine L2.filt_find ?_; k_is)
  (case IK=>(refine' L2.initK_mk ?IK_lC ?IK_tl ?IK_no ?IK_ni ?IK_lf ?IK_cq ?IK_hb ?IK_hbi ?IK_hXs ?IK_hce ?IK_h1 ?IK_hX2 ?IK_h3 ?IK_h4 ?IK_g1 ?IK_g2 ?IK_g3 ?IK_hcl ?IK_hpa ?IK_har ?IK_hcd ?IK_lc2 ?IK_hc4 ?IK_hfi ?IK_hns ?IK_hgl ?IK_hbl ?IK_gs ?IK_lcc ?IK_m1 ?IK_m2 ?IK_op ?IK_hline ?IK_hin ?IK_hsw ?IK_hs ?IK_hp ?IK_ht ?IK_hh ?IK_hdb ?IK_hml; (case IK_lf=>refine L2.filt_look ?zz1 ?zz2; (case zz1=>k_is); (case zz2=>rfl)); (case IK_lC=>refine L2.filt_look ?zz1 ?zz2; (case zz1=>k_is); (case zz2=>rfl)); (case IK_ni=>refine L2.filt_ns ?_; k_is); (case IK_tl=>kernel_rfl); (case IK_no=>kernel_rfl); (case IK_cq=>refine L2.filt_code ?_; first | k_is | kernel_rfl); (case IK_hb=>rfl); (case IK_hbi=>exact fun s e u=>.of_eq rfl); (case IK_hXs=>decide); (case IK_hce=>decide); (case IK_h1=>rfl); (case IK_hX2=>rfl); (case IK_h3=>rfl); (case IK_h4=>rfl); (case IK_g1=>rfl); (case IK_g2=>rfl); (case IK_g3=>rfl); (case IK_hcl=>rfl); (case IK_hpa=>rfl); (case IK_har=>rfl); (case IK_hcd=>rfl); (case IK_lc2=>refine L2.filt_look ?zz1 ?zz2; (case zz1=>k_is); (case zz2=>rfl)); (case IK_hc4=>rfl); (case IK_hfi=>decide +kernel); (case IK_hns=>decide +kernel); (case IK_hgl=>rfl); (case IK_hbl=>rfl); (case IK_gs=>refine L2.filt_ns ?_; k_is); (case IK_lcc=>refine L2.filt_look ?zz1 ?zz2; (case zz1=>k_is); (case zz2=>rfl)); (case IK_m1=>kernel_rfl); (case IK_m2=>kernel_rfl); (case IK_op=>refine L2.filt_ns ?_; k_is); (case IK_hline=>rfl); (case IK_hin=>exact fun L=>rfl); (case IK_hsw=>exact fun L=>rfl); (case IK_hs=>kernel_rfl); (case IK_hp=>kernel_rfl); (case IK_ht=>kernel_rfl); (case IK_hh=>kernel_rfl); (case IK_hdb=>decide); (case IK_hml=>decide)))
  (case IKbf=>refine L2.filt_find ?_; k_is)
  (case IKb=>(refine' L2.initK_mk ?IKb_lC ?IKb_tl ?IKb_no ?IKb_ni ?IKb_lf ?IKb_cq ?IKb_hb ?IKb_hbi ?IKb_hXs ?IKb_hce ?IKb_h1 ?IKb_hX2 ?IKb_h3 ?IKb_h4 ?IKb_g1 ?IKb_g2 ?IKb_g3 ?IKb_hcl ?IKb_hpa ?IKb_har ?IKb_hcd ?IKb_lc2 ?IKb_hc4 ?IKb_hfi ?IKb_hns ?IKb_hgl ?IKb_hbl ?IKb_gs ?IKb_lcc ?IKb_m1 ?IKb_m2 ?IKb_op ?IKb_hline ?IKb_hin ?IKb_hsw ?IKb_hs ?IKb_hp ?IKb_ht ?IKb_hh ?IKb_hdb ?IKb_hml; (case IKb_lf=>refine L2.filt_look ?zz1 ?zz2; (case zz1=>k_is); (case zz2=>rfl)); (case IKb_lC=>refine L2.filt_look ?zz1 ?zz2; (case zz1=>k_is); (case zz2=>rfl)); (case IKb_ni=>refine L2.filt_ns ?_; k_is); (case IKb_tl=>kernel_rfl); (case IKb_no=>kernel_rfl); (case IKb_cq=>refine L2.filt_code ?_; first | k_is | kernel_rfl); (case IKb_hb=>rfl); (case IKb_hbi=>exact fun s e u=>.of_eq rfl); (case IKb_hXs=>decide); (case IKb_hce=>decide); (case IKb_h1=>rfl); (case IKb_hX2=>rfl); (case IKb_h3=>rfl); (case IKb_h4=>rfl); (case IKb_g1=>rfl); (case IKb_g2=>rfl); (case IKb_g3=>rfl); (case IKb_hcl=>rfl); (case IKb_hpa=>rfl); (case IKb_har=>rfl); (case IKb_hcd=>rfl); (case IKb_lc2=>refine L2.filt_look ?zz1 ?zz2; (case zz1=>k_is); (case zz2=>rfl)); (case IKb_hc4=>rfl); (case IKb_hfi=>decide +kernel); (case IKb_hns=>decide +kernel); (case IKb_hgl=>rfl); (case IKb_hbl=>rfl); (case IKb_gs=>refine L2.filt_ns ?_; k_is); (case IKb_lcc=>refine L2.filt_look ?zz1 ?zz2; (case zz1=>k_is); (case zz2=>rfl)); (case IKb_m1=>kernel_rfl); (case IKb_m2=>kernel_rfl); (case IKb_op=>refine L2.filt_ns ?_; k_is); (case IKb_hline=>rfl); (case IKb_hin=>exact fun L=>rfl); (case IKb_hsw=>exact fun L=>rfl); (case IKb_hs=>kernel_rfl); (case IKb_hp=>kernel_rfl); (case IKb_ht=>kernel_rfl); (case IKb_hh=>kernel_rfl); (case IKb_hdb=>decide); (case IKb_hml=>decide)))
  (case zzi=>refine L2.filt_ns ?_; k_is)
  (case zdi=>refine L2.filt_ns ?_; k_is)
  (case aNo=>refine L2.filt_ns ?_; k_is)
  (case lNo=>refine L2.filt_look ?zz1 ?zz2; (case zz1=>k_is); (case zz2=>rfl))
  (case lT=>refine L2.filt_look ?zz1 ?zz2; (case zz1=>k_is); (case zz2=>rfl))
  (case z_isi=>refine L2.filt_ns ?_; k_is)
  (case z_int=>refine L2.filt_ns ?_; k_is)
  (case z_bool=>refine L2.filt_ns ?_; k_is)
  (case z_tuple=>refine L2.filt_ns ?_; k_is)
  (case z_abs=>refine L2.filt_ns ?_; k_is)
  (case z_len=>refine L2.filt_ns ?_; k_is)
  (case z_enum=>refine L2.filt_ns ?_; k_is)
  (case z_str=>refine L2.filt_ns ?_; k_is)
  (case z_range=>refine L2.filt_ns ?_; k_is)
  (case z_max=>refine L2.filt_ns ?_; k_is)
  (case z_all=>refine L2.filt_ns ?_; k_is)
  (case z_set=>refine L2.filt_ns ?_; k_is)
  (case z_list=>refine L2.filt_ns ?_; k_is)
  (case z_min=>refine L2.filt_ns ?_; k_is)
