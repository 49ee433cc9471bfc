import PyProof.Rows.All
import Wide.All
import OpenK.AllK
import Wide.FinOn
import PyProof.EqAt
import PyProof.EqKinds
import PyProof.NeKinds
import PyProof.TupleCall
import PyProof.EnumFor
import PyProof.EnumMake
import PyProof.CompFree
import PyProof.Rows.SumAny
import PyProof.Rows.Range3
import PyProof.CompUse
import KE.LcSums
import PyProof.ListRange
import PyProof.Rows.MinMaxN
import KE.KIntText
import PyProof.StrCalls2
import PyProof.StrBlockH
import PyProof.Rows.ZipForRows
import PyProof.Rows.SortRev
import KE.KRevSl
import KE.KMinKey
import PyProof.Rows.SetFrom
import PyProof.Rows.SeqMore2
import Lean
import PyProof.WalkInts
import KE.KLam
import KE.KNest
import PyProof.Rows.SortRuns
import KE.KSortKey
import PyProof.Conv_int_bool
import KE.KListMore
import PyProof.DictWalks
import KE.KSortTup
import KE.KDictList
import KE.KRevIter
import PyProof.SetKind
import PyProof.SetScanFacts
import PySem.Challenge.RW_nearenough_k04_ties_of_points
set_option Elab.async false
set_option linter.all false
set_option maxRecDepth 100000
namespace L2
open PySem PySem.Spec PyProof.Rows
abbrev Key:=Sum Int Str
def keyIs:Key→Value→Bool
  | .inl k,v=>Value.isInt k v
  | .inr x,v=>Value.isStrOf x v
def keyH (w:World):Key→Int
  | .inl k=>hashInt k
  | .inr x=>hashStr w x
theorem keyIs_shape:∀ {k:Key} {v:Value},keyIs k v=true→(∃ i t,k=Sum.inl i∧v=Value.int i t) ∨ (∃ x t,k=Sum.inr x∧v=Value.str x t)
  | .inl i,v,h=>by
    obtain ⟨t,e⟩:=Value.isInt_shape (k:=i) (v:=v) h
    exact .inl ⟨i,t,rfl,e⟩
  | .inr x,v,h=>by
    obtain ⟨t,e⟩:=Value.isStrOf_shape (x:=x) (v:=v) h
    exact .inr ⟨x,t,rfl,e⟩
theorem keyIs_int (i:Int) (t:Tok):keyIs (.inl i) (.int i t)=true:=by simp [keyIs,Value.isInt]
theorem keyIs_str (x:Str) (t:Tok):keyIs (.inr x) (.str x t)=true:=by simp [keyIs,Value.isStrOf]
theorem key_ll (a b:Int):decide ((Sum.inl a:Key)=Sum.inl b)=(a == b):=by
  by_cases e:a=b
  · subst e; simp
  · have h : ¬ (Sum.inl a:Key)=Sum.inl b:=fun q=>e (Sum.inl.inj q)
    rw [decide_eq_false h]
    exact (beq_eq_false_iff_ne.mpr e).symm
theorem key_rr (a b:Str):decide ((Sum.inr a:Key)=Sum.inr b)=decide (a=b):=by
  by_cases e:a=b
  · subst e; simp
  · have h : ¬ (Sum.inr a:Key)=Sum.inr b:=fun q=>e (Sum.inr.inj q)
    rw [decide_eq_false h,decide_eq_false e]
theorem key_lr (a:Int) (b:Str):decide ((Sum.inl a:Key)=Sum.inr b)=false:=decide_eq_false (fun q=>nomatch q)
theorem key_rl (a:Str) (b:Int):decide ((Sum.inr a:Key)=Sum.inl b)=false:=decide_eq_false (fun q=>nomatch q)
def mixKind (prog:Program) (w:World):PySem.KeyKind prog w Key where
  is:=keyIs
  hash:=keyH w
  inj:=fun v a b ha hb=>by
    rcases keyIs_shape ha with ⟨i,t,rfl,rfl⟩ | ⟨x,t,rfl,rfl⟩
    · rcases keyIs_shape hb with ⟨j,u,rfl,e⟩ | ⟨y,u,rfl,e⟩
      · injection e with e1 _; rw [e1]
      · exact nomatch e
    · rcases keyIs_shape hb with ⟨j,u,rfl,e⟩ | ⟨y,u,rfl,e⟩
      · exact nomatch e
      · injection e with e1 _; rw [e1]
  byValue:=fun k v h=>by
    rcases keyIs_shape h with ⟨i,t,rfl,rfl⟩ | ⟨x,t,rfl,rfl⟩ <;> rfl
  pyHash:=fun hv h=>by
    rcases keyIs_shape hv with ⟨i,t,rfl,rfl⟩ | ⟨x,t,rfl,rfl⟩
    · exact wpAny_pyHash_int h
    · exact wpAny_pyHash_str h
  eqBool:=fun hu hv h=>by
    rcases keyIs_shape hu with ⟨i,t,rfl,rfl⟩ | ⟨x,t,rfl,rfl⟩
    · rcases keyIs_shape hv with ⟨j,u,rfl,rfl⟩ | ⟨y,u,rfl,rfl⟩
      · rw [key_ll] at h; exact wpAny_eqBool_int h
      · rw [key_lr] at h; exact SeqAt.EqAt.int_str i t y u _ _ _ _ h
    · rcases keyIs_shape hv with ⟨j,u,rfl,rfl⟩ | ⟨y,u,rfl,rfl⟩
      · rw [key_rl] at h; exact SeqAt.EqAt.str_int x t j u _ _ _ _ h
      · rw [key_rr] at h; exact wpAny_eqBool_str h
  «strs»:=fun k x t v h=>by
    rcases keyIs_shape h with ⟨i,u,rfl,e⟩ | ⟨y,u,rfl,e⟩
    · exact nomatch e
    · injection e with e1 _
      subst e1
      cases v <;> rfl
theorem mixKind_int (prog:Program) (w:World) (i:Int) (t:Tok):(mixKind prog w).is (.inl i) (.int i t)=true:=keyIs_int i t
theorem mixKind_str (prog:Program) (w:World) (x:Str) (t:Tok):(mixKind prog w).is (.inr x) (.str x t)=true:=keyIs_str x t
inductive V where
  | non | bl (b:Bool) | int (i:Int) | str (x:Str) | byt (b:Array UInt8) | flt (b:UInt64) | ref (a:Addr) | ty (n:String)
  deriving DecidableEq
def RelV:V→Value→Prop
  | .non,u=>u=Value.none
  | .bl b,u=>u=Value.bool b
  | .int i,u => ∃ t,u=Value.int i t
  | .str x,u => ∃ t,u=Value.str x t
  | .byt b,u => ∃ t,u=Value.bytes b t
  | .flt b,u => ∃ t,u=Value.float b t
  | .ref a,u=>u=Value.ref a
  | .ty n,u=>u=Value.type n
abbrev Vals:List V→List Value→Prop:=Paired RelV
theorem Vals.length {xs:List V} {us:List Value} (r:Vals xs us):xs.length=us.length:=Paired.length r
theorem Vals.get:∀ {xs:List V} {us:List Value} {i:Nat} {x:V},Vals xs us→xs[i]?=some x→∃ u,us[i]?=some u∧RelV x u
  | _,_,_,_, .nil,e=>by simp at e
  | _,_,0,_, .cons r _,e=>by simp at e; subst e; exact ⟨_,rfl,r⟩
  | _,_,i + 1,x, .cons _ t,e=>by
    obtain ⟨u,h1,h2⟩:=Vals.get (i:=i) (x:=x) t (by simpa using e)
    exact ⟨u,by simpa using h1,h2⟩
theorem Vals.append:∀ {xs ys:List V} {us ws:List Value},Vals xs us→Vals ys ws→Vals (xs ++ ys) (us ++ ws)
  | _,_,_,_, .nil,s=>s
  | _,_,_,_, .cons r t,s => .cons r (Vals.append t s)
theorem Vals.take:∀ {xs:List V} {us:List Value} (n:Nat),Vals xs us→Vals (xs.take n) (us.take n)
  | _,_,0,_ => .nil
  | _,_,_ + 1, .nil => .nil
  | _,_,n + 1, .cons r t => .cons r (Vals.take n t)
theorem Vals.drop:∀ {xs:List V} {us:List Value} (n:Nat),Vals xs us→Vals (xs.drop n) (us.drop n)
  | _,_,0,r=>r
  | _,_,_ + 1, .nil => .nil
  | _,_,n + 1, .cons _ t=>Vals.drop n t
def RelO:Option V→Option Value→Prop
  | some v,some u=>RelV v u
  | none,none=>True
  | _,_=>False
def KV {κ:Type}:List (κ × V)→List (κ × Value)→Prop:=Paired fun (p:κ × V) (q:κ × Value)=>p.1=q.1∧RelV p.2 q.2
def kV:Key→V
  | .inl i => .int i
  | .inr x => .str x
inductive HO where
  /-- a list -/
  | lst (xs:List V)
  /-- a tuple (never changes) -/
  | tup (xs:List V)
  /-- a dict whose keys are ints and texts; one whose keys are tuples of ints and texts (the empty one is both) -/
  | dK (kvs:List (Key × V)) | dT (kvs:List (List Key × V))
  /-- a set of ints: its members,its size -/
  | set (S:Int→Bool) (n:Nat)
  /-- an instance of the class at C,its dict at dx,its attributes -/
  | ins (C dx:Addr) (fs:List (Str × V))
  /-- the dict of the instance at x -/
  | own (x:Addr)
  /-- the dict of an exception -/
  | xd (fs:List (Str × V))
  /-- a bound method,f of x -/
  | met (f x:Addr)
  /-- a range object lo,lo + 1, .. below hi -/
  | rng (lo hi:Int)
  /-- a thing that is known to the object (the script; a dict while a loop walks it): read,never written while it is so -/
  | frz (o:Obj) (u:HO)
  /-- a code object's table -/
  | tbl (q:Str)
  /-- any other thing,by what is true of its one object (a def of one's own: SetO a S n:=HO.ext fun h => ..) -/
  | ext (φ:Heap→Prop)
abbrev Hp:=Addr→Option HO
def upd (H:Hp) (a:Addr) (o:HO):Hp:=fun b=>if b=a then some o else H b
theorem upd_same {H:Hp} {a:Addr} {o:HO}:upd H a o a=some o:=by unfold upd; rw [if_pos rfl]
theorem upd_ne {H:Hp} {a b:Addr} {o:HO} (h:b ≠ a):upd H a o b=H b:=by unfold upd; rw [if_neg h]
theorem ne_of {H:Hp} {a b:Addr} {o u:HO} (h:H a=some o) (h':H b=some u) (d:o ≠ u):a ≠ b:=by
  intro e; subst e; rw [h] at h'; exact d (Option.some.inj h')
theorem ne_of_none {H:Hp} {a b:Addr} {o:HO} (h:H a=some o) (h':H b=none):a ≠ b:=by
  intro e; subst e; rw [h] at h'; cases h'
section
variable (P:Program) (w:World)
def ObjOk (H:Hp) (h:Heap) (a:Addr):HO→Prop
  | .lst xs=>xs.length ≤ sizeLine∧∃ (its:List Value) (n:Nat),Vals xs its∧h.get? a=some { cls := .type "list",data := .seq its.toArray n }
  | .tup xs=>xs.length ≤ sizeLine∧∃ its:List Value,Vals xs its∧IsTup h a its.toArray
  | .dK kvs=>kvs.length ≤ sizeLine∧(a == sysModules)=false∧∃ vs,KV kvs vs∧h.DictOf (mixKind P w) a vs
  | .dT kvs=>kvs.length ≤ sizeLine∧(a == sysModules)=false∧∃ xs:List (List Key × Addr × Value),
      Paired (fun (p:List Key × V) (q:List Key × Addr × Value)=>p.1=q.1∧H q.2.1=some (.tup (p.1.map kV))∧RelV p.2 q.2.2) kvs xs ∧
      ∃ o es ep,h.get? a=some o∧o.ExactDict∧o.data = .dict es ep∧es.toList=xs.map (entryOfKey (tupleKind (mixKind P w)))∧(xs.map (·.1)).Nodup
  | .set S n=>h.SetOf (intKind P w) a S n
  | .ins C dx fs=>H dx=some (.own a)∧fs.length ≤ 1000∧dx ≠ a∧h.get? a=some (PySem.W.instObj C dx) ∧
      ∃ mA,h.Ns1 dx mA∧(∀ f,RelO (fs.lookup f) (mA f))∧PySem.Within mA (fs.map (·.1))
  | .own _ => ∃ o,h.get? a=some o
  | .xd fs => ∃ mA,h.Ns1 a mA∧∀ f,RelO (fs.lookup f) (mA f)
  | .rng lo hi => ∃ t u v,h.get? a=some { cls := .type "range",data := .fields #[.int lo t, .int hi u, .int 1 v] }
  | .frz o u=>h.get? a=some o∧ObjOk H h a u
  | .tbl q => ∃ ps:Array Value,h.get? a=some { cls := .none,data := .fields ps }∧TriplesOk ps.toList∧∀ pos cv,codeAmong pos ps.toList=some cv→∃ (c:Addr) (oc:Obj) (vs:Array Value) (tk:Tok),cv = .ref c∧H c=some (.frz oc (.own 0))∧oc.data = .fields vs∧vs[1]?=some (.str q tk)
  | .met f x=>h.get? a=some (PySem.W.methodObj (.ref f) (.ref x))
  | .ext φ=>φ h∧(∃ o,h.get? a=some o)∧∀ h1 h2:Heap,φ h1→(∀ o,h1.get? a=some o→h2.get? a=some o)→φ h2
def HOk (H:Hp) (h:Heap):Prop := ∀ a o,H a=some o→ObjOk P w H h a o
end
section
variable {P:Program} {w:World} {H H':Hp} {h h':Heap} {a:Addr} {o:HO}
theorem ObjOk.lt (x:ObjOk P w H h a o):a < h.objs.size:=by
  cases o with
  | lst xs=>obtain ⟨_,_,_,_,e⟩:=x; exact Heap.lt_size e
  | tup xs=>obtain ⟨_,_,_,p⟩:=x; exact p.lt
  | dK kvs=>obtain ⟨_,_,_,_,o,_,_,e,_⟩:=x; exact Heap.lt_size e
  | dT kvs=>obtain ⟨_,_,_,_,o,_,_,e,_⟩:=x; exact Heap.lt_size e
  | set S n=>obtain ⟨o,_,_,_,e,_⟩:=x; exact Heap.lt_size e
  | ins C dx fs=>obtain ⟨_,_,_,e,_⟩:=x; exact Heap.lt_size e
  | own y=>obtain ⟨_,e⟩:=x; exact Heap.lt_size e
  | xd fs=>obtain ⟨_,⟨_,_,_,e,_⟩,_⟩:=x; exact Heap.lt_size e
  | rng lo hi=>obtain ⟨_,_,_,e⟩:=x; exact Heap.lt_size e
  | frz ob u=>obtain ⟨e,_⟩:=x; exact Heap.lt_size e
  | tbl q=>obtain ⟨_,e,_⟩:=x; exact Heap.lt_size e
  | met f y=>exact Heap.lt_size (show h.get? a=some _ from x)
  | ext φ=>obtain ⟨_,⟨_,e⟩,_⟩:=x; exact Heap.lt_size e
theorem Paired.mapP {α β:Type} {F G:α→β→Prop}:∀ {l₁:List α} {l₂:List β},Paired F l₁ l₂→(∀ a b,F a b→G a b)→Paired G l₁ l₂
  | _,_, .nil,_ => .nil
  | _,_, .cons r t,f => .cons (f _ _ r) (Paired.mapP t f)
theorem ObjOk.stay (x:ObjOk P w H h a o) (k:∀ b u,(b=a ∨ H b=some (.own a))→h.get? b=some u→h'.get? b=some u)
    (ho:∀ b,H b=some (.own a)→H' b=some (.own a)) (ht:∀ b xs,H b=some (.tup xs)→H' b=some (.tup xs)) (hz:∀ b o u,H b=some (.frz o u)→H' b=some (.frz o u)):ObjOk P w H' h' a o:=by
  induction o with
  | lst xs=>obtain ⟨z,its,n,r,e⟩:=x; exact ⟨z,its,n,r,k _ _ (.inl rfl) e⟩
  | tup xs=>obtain ⟨z,its,r,ob,e,c⟩:=x; exact ⟨z,its,r,ob,k _ _ (.inl rfl) e,c⟩
  | dK kvs=>obtain ⟨z,y,vs,r,ob,es,ep,e,c⟩:=x; exact ⟨z,y,vs,r,ob,es,ep,k _ _ (.inl rfl) e,c⟩
  | dT kvs =>
    obtain ⟨z,y,xs,r,ob,es,ep,e,c⟩:=x
    exact ⟨z,y,xs,Paired.mapP r fun p q z=>⟨z.1,ht _ _ z.2.1,z.2.2⟩,ob,es,ep,k _ _ (.inl rfl) e,c⟩
  | set S n=>obtain ⟨ob,es,ep,t,e,c⟩:=x; exact ⟨ob,es,ep,t,k _ _ (.inl rfl) e,c⟩
  | ins C dx fs =>
    obtain ⟨d,z,ne,e,mA,⟨od,es,ep,e2,c⟩,r⟩:=x
    exact ⟨ho _ d,z,ne,k _ _ (.inl rfl) e,mA,⟨od,es,ep,k _ _ (.inr d) e2,c⟩,r⟩
  | own y=>obtain ⟨ob,e⟩:=x; exact ⟨ob,k _ _ (.inl rfl) e⟩
  | xd fs=>obtain ⟨mA,⟨od,es,ep,e,c⟩,r⟩:=x; exact ⟨mA,⟨od,es,ep,k _ _ (.inl rfl) e,c⟩,r⟩
  | rng lo hi=>obtain ⟨t,u,v,e⟩:=x; exact ⟨t,u,v,k _ _ (.inl rfl) e⟩
  | frz ob u ih=>obtain ⟨e,q⟩:=x; exact ⟨k _ _ (.inl rfl) e,ih q⟩
  | tbl q=>obtain ⟨ps,e,t,r⟩:=x; exact ⟨ps,k _ _ (.inl rfl) e,t,fun pos cv z=>let ⟨c,oc,vs,tk,a1,a2,a3⟩:=r pos cv z; ⟨c,oc,vs,tk,a1,hz _ _ _ a2,a3⟩⟩
  | met f y =>
    have e:h.get? a=some (PySem.W.methodObj (.ref f) (.ref y)):=x
    show h'.get? a=some (PySem.W.methodObj (.ref f) (.ref y))
    exact k a _ (.inl rfl) e
  | ext φ=>obtain ⟨p,⟨o,e⟩,st⟩:=x; exact ⟨st _ _ p fun o q=>k _ _ (.inl rfl) q,⟨o,k _ _ (.inl rfl) e⟩,st⟩
theorem HOk.lt (x:HOk P w H h) (e:H a=some o):a < h.objs.size:=(x a o e).lt
theorem HOk.fresh (x:HOk P w H h) (e:h.objs.size ≤ a):H a=none:=by
  cases q:H a with
  | none=>rfl
  | some u=>exact absurd (Nat.lt_of_lt_of_le (x.lt q) e) (Nat.lt_irrefl _)
theorem HOk.kept (x:HOk P w H h) (k:∀ b u,h.get? b=some u→h'.get? b=some u):HOk P w H h':=fun a o e =>
  (x a o e).stay (fun b u _ q=>k b u q) (fun _ q=>q) (fun _ _ q=>q) fun _ _ _ q=>q
theorem HOk.laid (x:HOk P w H h) (k:∀ b u,h.get? b=some u→h'.get? b=some u) (hp:h.objs.size ≤ a) (new:ObjOk P w (upd H a o) h' a o):HOk P w (upd H a o) h':=fun b u e=>by
  have hn:=x.fresh hp
  by_cases hb:b=a
  · subst hb; rw [upd_same] at e; cases e; exact new
  · rw [upd_ne hb] at e
    exact (x b u e).stay (fun c v _ q=>k c v q) (fun c q=>by rw [upd_ne (ne_of_none q hn)]; exact q) (fun c xs q=>by rw [upd_ne (ne_of_none q hn)]; exact q) fun c o u q=>by rw [upd_ne (ne_of_none q hn)]; exact q
end
def Rd (H:Hp) (a:Addr) (u:HO):Prop:=H a=some u ∨ ∃ o,H a=some (.frz o u)
theorem Rd.ok {P:Program} {w:World} {H:Hp} {h:Heap} {a:Addr} {u:HO} (r:Rd H a u) (x:HOk P w H h):ObjOk P w H h a u:=by
  rcases r with r | ⟨o,r⟩
  · exact x a u r
  · obtain ⟨_,q⟩:=x a _ r
    exact q
def Mut:Option HO→Prop
  | some (.lst _)=>True
  | some (.dK _)=>True
  | some (.dT _)=>True
  | some (.set _ _)=>True
  | some (.ins _ _ _)=>True
  | some (.ext _)=>True
  | _=>False
section
variable {P:Program} {w:World} {H:Hp} {h h':Heap} {x e:Addr} {o':HO}
theorem HOk.write (ok:HOk P w H h) (mu:Mut (H x)) (he:e=x ∨ H e=some (.own x)) (k:∀ b u,b ≠ e→h.get? b=some u→h'.get? b=some u) (heo:∃ u,h'.get? e=some u)
    (new:ObjOk P w (upd H x o') h' x o'):HOk P w (upd H x o') h':=fun b u q=>by
  have nown:∀ c y,H c=some (.own y)→c ≠ x:=fun c y r z=>by subst z; rw [r] at mu; exact mu
  have ntup:∀ c xs,H c=some (.tup xs)→c ≠ x:=fun c xs r z=>by subst z; rw [r] at mu; exact mu
  by_cases hb:b=x
  · subst hb; rw [upd_same] at q; cases q; exact new
  · rw [upd_ne hb] at q
    by_cases hbe:b=e
    · have q':H b=some (.own x):=by
        rcases he with z | z
        · exact absurd (hbe.trans z) hb
        · rw [hbe]; exact z
      rw [q] at q'; cases q'
      obtain ⟨v,hv⟩:=heo
      exact ⟨v,by rw [hbe]; exact hv⟩
    · refine (ok b u q).stay (fun c v hc r=>k c v ?_ r) (fun c r=>by rw [upd_ne (nown c b r)]; exact r) (fun c xs r=>by rw [upd_ne (ntup c xs r)]; exact r) fun c o u r=>by rw [upd_ne (fun z=>by subst z; rw [r] at mu; exact mu)]; exact r
      rcases hc with rfl | hc
      · exact hbe
      · rintro rfl
        rcases he with z | z
        · exact nown c b hc z
        · rw [hc] at z; cases z; exact hb rfl
end
structure Un (fs ex:List Addr) (H H':Hp) (h h':Heap):Prop where
  keep:∀ b o,h.get? b=some o→H b=none→b ∉ fs→b ∉ ex→h'.get? b=some o
  slot:∀ b o,h.get? b=some o→H b=none→b ∈ fs→b ∉ ex→∃ sl,h'.get? b=some { o with slots:=sl }
  free:∀ b o,h.get? b=some o→H b=none→b ∉ ex→H' b=none
  there:∀ b o,h.get? b=some o→b ∉ ex→∃ o',h'.get? b=some o'
  tups:∀ b xs,H b=some (.tup xs)→H' b=some (.tup xs)
  frzs:∀ b o u,H b=some (.frz o u)→H' b=some (.frz o u)
  tbls:∀ b q,H b=some (.tbl q)→H' b=some (.tbl q)
section
variable {fs fs' ex ex':List Addr} {H H1 H2:Hp} {h h1 h2 h':Heap} {a x e:Addr} {o:HO}
theorem Un.any (u:Un fs ex H H1 h h1) {b:Addr} {ob:Obj} (q:h.get? b=some ob) (n:H b=none) (hx:b ∉ ex):∃ sl,h1.get? b=some { ob with slots:=sl }:=by
  by_cases hb:b ∈ fs
  · exact u.slot b ob q n hb hx
  · exact ⟨ob.slots,u.keep b ob q n hb hx⟩
theorem Un.trans (a:Un fs ex H H1 h h1) (b:Un fs ex H1 H2 h1 h2):Un fs ex H H2 h h2 where
  keep:=fun c ob q n hc hx=>b.keep c ob (a.keep c ob q n hc hx) (a.free c ob q n hx) hc hx
  slot:=fun c ob q n hc hx=>by
    obtain ⟨sl,e1⟩:=a.slot c ob q n hc hx
    obtain ⟨sl',e2⟩:=b.slot c _ e1 (a.free c ob q n hx) hc hx
    exact ⟨sl',e2⟩
  free:=fun c ob q n hx=>by
    obtain ⟨o',e1⟩:=a.there c ob q hx
    exact b.free c o' e1 (a.free c ob q n hx) hx
  there:=fun c ob q hx=>by
    obtain ⟨o',e1⟩:=a.there c ob q hx
    exact b.there c o' e1 hx
  tups:=fun c xs q=>b.tups c xs (a.tups c xs q)
  frzs:=fun c ob xs q=>b.frzs c ob xs (a.frzs c ob xs q)
  tbls:=fun c q e=>b.tbls c q (a.tbls c q e)
theorem Un.kept (k:∀ b u,h.get? b=some u→h'.get? b=some u):Un fs ex H H h h' :=
  ⟨fun b ob q _ _ _=>k b ob q,fun b ob q _ _ _=>⟨ob.slots,k b ob q⟩,fun _ _ _ n _=>n,fun b ob q _=>⟨ob,k b ob q⟩,fun _ _ q=>q,fun _ _ _ q=>q,fun _ _ q=>q⟩
theorem Un.refl:Un fs ex H H h h:=Un.kept fun _ _ q=>q
theorem Un.laid (k:∀ b u,h.get? b=some u→h'.get? b=some u) (hp:h.objs.size ≤ a) (hn:H a=none):Un fs ex H (upd H a o) h h' where
  keep:=fun b u q _ _ _=>k b u q
  slot:=fun b u q _ _ _=>⟨u.slots,k b u q⟩
  free:=fun b u q n _=>by rw [upd_ne (Nat.ne_of_lt (Nat.lt_of_lt_of_le (Heap.lt_size q) hp))]; exact n
  there:=fun b u q _=>⟨u,k b u q⟩
  tups:=fun b xs q=>by rw [upd_ne (ne_of_none q hn)]; exact q
  frzs:=fun b u xs q=>by rw [upd_ne (ne_of_none q hn)]; exact q
  tbls:=fun b ps q=>by rw [upd_ne (ne_of_none q hn)]; exact q
theorem Un.write (mu:Mut (H x)) (he:e=x ∨ H e=some (.own x)) (k:∀ b u,b ≠ e→h.get? b=some u→h'.get? b=some u) (heo:∃ u,h'.get? e=some u):Un fs ex H (upd H x o) h h':=by
  have hx:∀ b,H b=none→b ≠ x:=fun b n z=>by subst z; rw [n] at mu; exact mu
  have hb:∀ b,H b=none→b ≠ e:=fun b n z=>by
    subst z
    rcases he with r | r
    · exact hx b n r
    · rw [n] at r; cases r
  have hm:∀ b u,H b=some u → ¬ Mut (some u)→b ≠ x:=fun b u q nm z=>by subst z; rw [q] at mu; exact nm mu
  refine ⟨fun b u q n _ _=>k b u (hb b n) q,fun b u q n _ _=>⟨u.slots,k b u (hb b n) q⟩,fun b u q n _=>by rw [upd_ne (hx b n)]; exact n,fun b u q _=>?_,
    fun b xs q=>by rw [upd_ne (hm b _ q fun z=>z)]; exact q,fun b u xs q=>by rw [upd_ne (hm b _ q fun z=>z)]; exact q,fun b ps q=>by rw [upd_ne (hm b _ q fun z=>z)]; exact q⟩
  by_cases hbe:b=e
  · subst hbe; exact heo
  · exact ⟨u,k b u hbe q⟩
end
def trk (h:Heap) (H:Hp):List Addr:=(List.range h.objs.size).filter fun a=>(H a).isSome
def hidT (h:Heap) (H:Hp):Heap:=PySem.W.hideAll h (trk h H)
theorem hidT_size (h:Heap) (H:Hp):(hidT h H).objs.size=h.objs.size:=PySem.W.hideAll_size _ _
theorem hidT_get {h:Heap} {H:Hp} {b:Addr} {o:Obj} (e:h.get? b=some o) (n:H b=none):(hidT h H).get? b=some o :=
  PySem.W.hideAll_get _ e fun hm=>by
    have q:(H b).isSome=true:=(List.mem_filter.mp hm).2
    rw [n] at q; simp at q
theorem of_hidT {h:Heap} {H:Hp} {b:Addr} {o:Obj} (e:(hidT h H).get? b=some o):h.get? b=some o∧H b=none:=by
  have e':h.get? b=some o:=PySem.W.of_hideAll (trk h H) e
  refine ⟨e',?_⟩
  cases q:H b with
  | none=>rfl
  | some x =>
    have hm:b ∈ trk h H:=List.mem_filter.mpr ⟨List.mem_range.mpr (Heap.lt_size e'),by simp [q]⟩
    have z:(hidT h H).get? b=none:=PySem.W.hideAll_none (trk h H) hm
    rw [z] at e; cases e
def allNews (g h:Heap) (L:Addr):List (Addr × Obj):=(List.range h.objs.size).filterMap fun a=>if a=L ∨ (g.get? a).isSome=true then none else (h.get? a).map fun o=>(a,o)
def rest (g h:Heap) (L d:Addr):List (Addr × Obj):=(allNews g h L).filter fun p=>decide (p.1 ≠ d)
end L2
namespace L2
open PySem PySem.Spec PyProof.Rows
structure BHeap extends Heap where
  tabs:List (Addr × Str)
instance:Coe BHeap Heap:=⟨BHeap.toHeap⟩
structure Mod (K:PySem.W.Frag) (mg:Str→Option Value) (base:BHeap):Prop where
  kin:K.In base
  glob:base.Ns mainGlobals mg
  blt:∃ mb,base.Ns builtinsNs mb∧∀ x:Str,x ≠ "__name__"→mb x=bootBuiltins x
  nolimit:base.NoLimit
  bm:∃ (bm:Addr) (ob:Obj),mg "__builtins__"=some (.ref bm)∧bm ≠ builtinsNs∧base.get? bm=some ob∧ob.cls = .type "module"∧ob.dict=some builtinsNs∧ob.data = .plain
structure Cx where
  prog:Program
  w:World
  K:PySem.W.Frag
  mg:Str→Option Value
  base:BHeap
  A:Around
  N:List Str
  s₀:Shared
  H₀:Hp
  env:Env
  outer:List Env
  stack:List Env
  ex:List Addr
  fn:Str→Bool
  calm:Bool
  pn:List (Addr × Obj)
  xe:Value→Shared→Prop
def frs (l:List Env):List Addr:=l.filterMap (·.frame)
abbrev Cx.fs (X:Cx):List Addr:=frs X.outer
def Vis (sc:Scope) (x:Str):Prop:=sc.names.lookup x=some .local ∨ sc.names.lookup x=some .cell ∨ sc.names.lookup x=some .free
def Loc (sc:Scope) (x:Str):Prop:=sc.names.lookup x=some .local ∨ sc.names.lookup x=some .cell
def Look (env:Env) (h:Heap) (m:Str→Option Value) (x:Str) (u:Value):Prop :=
  (env.kindOf x=some .local∧m x=some u) ∨ ((env.kindOf x=some .cell ∨ env.kindOf x=some .free)∧∃ c,env.cells.lookup x=some c∧h.IsCell c (some u))
structure Cx.Ok (X:Cx):Prop where
  mod:Mod X.K X.mg X.base
  kind:X.env.scope.kind = .function
  glob:X.env.globals=mainGlobals
  blt:X.env.builtins=builtinsNs
  above:X.s₀.heap.objs.size ≤ X.env.locals
  inj:∀ x y c,X.env.cells.lookup x=some c→X.env.cells.lookup y=some c→x=y
  has:∀ x,(X.env.kindOf x=some .cell ∨ X.env.kindOf x=some .free)→∃ c,X.env.cells.lookup x=some c
  cab:∀ x c,X.fn x=true→X.env.cells.lookup x=some c→X.s₀.heap.objs.size ≤ c
  hd:X.calm=true→X.A.handled=none
  frames:X.A.frames=some X.stack
  stk:X.stack=X.outer ∨ (X.stack=X.env :: X.outer∧X.env.frame=some X.env.locals)
  exf:∀ b ∈ X.ex,b ≠ X.env.locals∧∀ x c,X.env.cells.lookup x=some c→c ≠ b
  bs:∀ b o,X.base.get? b=some o→X.s₀.heap.get? b=some o∧X.H₀ b=none
  bsz:X.base.objs.size ≤ X.s₀.heap.objs.size
  noex:∀ b o,X.base.get? b=some o→b ∉ X.ex
  exfs:∀ b ∈ X.ex,b ∉ X.fs
  funs:X.s₀.heap.FunFrames X.base X.outer
  frf:∀ b ∈ X.fs,X.H₀ b=none
  tabs:∀ p ∈ X.base.tabs,X.H₀ p.1=some (.tbl p.2)
structure Inv (X:Cx) (pins:List (Addr × Obj)) (σ:List (Option V)) (H:Hp) (s:Shared):Prop where
  ok:X.Ok
  os:s.os=X.s₀.os
  bare:AllBare s.gens
  base:Un X.fs X.ex X.H₀ H X.s₀.heap s.heap
  loc:∃ m,s.heap.Ns X.env.locals m∧∀ (i:Nat) (x:Str) (v:V),X.N[i]?=some x→σ[i]?=some (some v)→Vis X.env.scope x→∃ u,RelV v u∧Look X.env s.heap m x u
  cell:∀ x c,X.env.cells.lookup x=some c→∃ v,s.heap.IsCell c v
  free:H X.env.locals=none
  freeC:∀ x c,X.env.cells.lookup x=some c→H c=none
  pin:∀ p ∈ X.pn ++ pins,s.heap.get? p.1=some p.2∧H p.1=none∧p.1 ≠ X.env.locals∧p.1 ∉ X.fs∧∀ v,p.2.data ≠ .cell v
  hok:HOk X.prog X.w H s.heap
  len:σ.length=X.N.length
section
variable {X:Cx} {pins:List (Addr × Obj)} {σ:List (Option V)} {H H':Hp} {s:Shared} {h':Heap}
theorem Cx.Ok.nofr (ok:X.Ok) {b:Addr} {o:Obj} (e:X.base.get? b=some o):b ∉ X.fs:=fun hb=>by
  have:=(ok.funs.mem hb).1
  rw [e] at this; cases this
theorem Inv.bs (I:Inv X pins σ H s):∀ b o,X.base.get? b=some o→s.heap.get? b=some o∧H b=none:=fun b o e =>
  ⟨I.base.keep b o (I.ok.bs b o e).1 (I.ok.bs b o e).2 (I.ok.nofr e) (I.ok.noex b o e),I.base.free b o (I.ok.bs b o e).1 (I.ok.bs b o e).2 (I.ok.noex b o e)⟩
theorem Inv.bk (I:Inv X pins σ H s):∀ b o,X.base.get? b=some o→s.heap.get? b=some o:=fun b o e=>(I.bs b o e).1
theorem Inv.mod (I:Inv X pins σ H s):Mod X.K X.mg X.base:=I.ok.mod
theorem Inv.kIn (I:Inv X pins σ H s):X.K.In s.heap:=I.ok.mod.kin.keeps I.bk
theorem Inv.lt (I:Inv X pins σ H s):X.env.locals < s.heap.objs.size:=let ⟨_,hn,_⟩:=I.loc; hn.lt
theorem Inv.sz (I:Inv X pins σ H s):X.s₀.heap.objs.size ≤ s.heap.objs.size:=Nat.le_trans I.ok.above (Nat.le_of_lt I.lt)
theorem Inv.nofs (I:Inv X pins σ H s) {a:Addr} (h:s.heap.objs.size ≤ a):a ∉ X.fs:=fun hb=>by
  obtain ⟨_,o,ho,_⟩:=I.ok.funs.mem hb
  exact absurd (Nat.lt_of_lt_of_le (Heap.lt_size ho) (Nat.le_trans I.sz h)) (Nat.lt_irrefl _)
theorem Inv.cne (I:Inv X pins σ H s):∀ x c,X.env.cells.lookup x=some c→c ≠ X.env.locals:=fun x c e z=>by
  obtain ⟨v,o,ho,hd⟩:=I.cell x c e
  obtain ⟨m,⟨o',es,ep,ho',hd',_⟩,_⟩:=I.loc
  rw [z,ho'] at ho; cases ho; rw [hd'] at hd; cases hd
theorem Inv.funs (I:Inv X pins σ H s):s.heap.FunFrames X.base X.outer:=by
  have all:∀ (l:List Env),(∀ b ∈ frs l,b ∈ X.fs)→X.s₀.heap.FunFrames X.base l→s.heap.FunFrames X.base l:=by
    intro l
    induction l with
    | nil=>intro _ _; trivial
    | cons env r ih =>
      intro hs hl
      obtain ⟨hk,⟨L,o,hf,hn,ho,hd⟩,hr⟩:=hl
      have hL:L ∈ X.fs:=hs L (by unfold frs; rw [List.filterMap_cons,hf]; exact List.mem_cons_self)
      obtain ⟨sl,e⟩:=I.base.slot L o ho (I.ok.frf L hL) hL fun z=>I.ok.exfs L z hL
      exact ⟨hk,⟨L,_,hf,hn,e,hd⟩,ih (fun b hb=>hs b (by unfold frs; rw [List.filterMap_cons,hf]; exact List.mem_cons_of_mem _ hb)) hr⟩
  exact all X.outer (fun _ hb=>hb) I.ok.funs
theorem Inv.stack (I:Inv X pins σ H s):s.heap.FunFrames X.base X.stack:=by
  rcases I.ok.stk with e | ⟨e,hf⟩
  · rw [e]; exact I.funs
  · rw [e]
    obtain ⟨m,hn,_⟩:=I.loc
    refine .cons (by rw [I.ok.kind]; decide) hf hn ?_ I.funs
    exact Heap.get?_none_of_le (Nat.le_trans I.ok.bsz I.ok.above)
theorem Inv.stkSub (I:Inv X pins σ H s):∀ b ∈ frs X.stack,b ∈ X.env.locals :: X.fs:=fun b hb=>by
  rcases I.ok.stk with e | ⟨e,hf⟩
  · rw [e] at hb; exact List.mem_cons_of_mem _ hb
  · rw [e] at hb
    unfold frs at hb
    rw [List.filterMap_cons,hf] at hb
    exact hb
theorem Inv.stkFree (I:Inv X pins σ H s):∀ b ∈ frs X.stack,H b=none:=fun b hb=>by
  rcases List.mem_cons.mp (I.stkSub b hb) with e | hb
  · rw [e]; exact I.free
  · obtain ⟨_,o,ho,_⟩:=I.ok.funs.mem hb
    exact I.base.free b o ho (I.ok.frf b hb) fun z=>I.ok.exfs b z hb
theorem Inv.step {g':Array GenState} {t':Nat} {d':Drawn} {ch:List Addr} (I:Inv X pins σ H s)
    (hch:∀ b ∈ ch,(b ∈ X.ex ∨ X.s₀.heap.objs.size ≤ b)∧b ≠ X.env.locals∧(∀ x c,X.env.cells.lookup x=some c→c ≠ b)∧∀ p ∈ X.pn ++ pins,p.1 ≠ b)
    (keep:∀ b o,b ≠ X.env.locals→b ∉ X.fs→b ∉ ch→s.heap.get? b=some o→H b=none→h'.get? b=some o)
    (slot:∀ b o,b ≠ X.env.locals→b ∈ X.fs→b ∉ ch→s.heap.get? b=some o→H b=none→∃ sl,h'.get? b=some { o with slots:=sl }) (free:∀ b o,b ∉ ch→s.heap.get? b=some o→H b=none→H' b=none)
    (there:∀ b o,b ∉ ch→s.heap.get? b=some o→∃ o',h'.get? b=some o')
    (tups:∀ b xs,H b=some (.tup xs)→H' b=some (.tup xs)) (frzs:∀ b o u,H b=some (.frz o u)→H' b=some (.frz o u)) (tbls:∀ b q,H b=some (.tbl q)→H' b=some (.tbl q))
    (ns:∀ m,s.heap.Ns X.env.locals m→h'.Ns X.env.locals m) (hok:HOk X.prog X.w H' h') (hg:AllBare g') :
    Inv X pins σ H' { s with heap:=h',gens:=g',drawn:=d',toks:=t' }:=by
  have neL:∀ b o,X.s₀.heap.get? b=some o→b ≠ X.env.locals:=fun b o e=>Nat.ne_of_lt (Nat.lt_of_lt_of_le (Heap.lt_size e) I.ok.above)
  have neC:∀ b o,X.s₀.heap.get? b=some o→b ∉ X.ex→b ∉ ch:=fun b o e hx hb=>by
    rcases (hch b hb).1 with z | z
    · exact hx z
    · exact absurd (Nat.lt_of_lt_of_le (Heap.lt_size e) z) (Nat.lt_irrefl _)
  have cellK:∀ x c,X.env.cells.lookup x=some c→∀ v,s.heap.IsCell c v→h'.IsCell c v:=fun x c e v ⟨o,ho,hd⟩=>by
    have nch:c ∉ ch:=fun z=>(hch c z).2.2.1 x c e rfl
    by_cases hc:c ∈ X.fs
    · obtain ⟨sl,q⟩:=slot c o (I.cne x c e) hc nch ho (I.freeC x c e)
      exact ⟨_,q,hd⟩
    · exact ⟨o,keep c o (I.cne x c e) hc nch ho (I.freeC x c e),hd⟩
  refine ⟨I.ok,I.os,hg,⟨fun b o e n hb hx=>?_,fun b o e n hb hx=>?_,fun b o e n hx=>?_,fun b o e hx=>?_,fun b xs e=>tups b xs (I.base.tups b xs e),fun b o xs e=>frzs b o xs (I.base.frzs b o xs e),fun b ps e=>?_⟩,?_,fun x c e=>?_,?_,fun x c e=>?_,fun p hp=>?_,hok,I.len⟩
  · exact keep b o (neL b o e) hb (neC b o e hx) (I.base.keep b o e n hb hx) (I.base.free b o e n hx)
  · obtain ⟨sl,e1⟩:=I.base.slot b o e n hb hx
    obtain ⟨sl',e2⟩:=slot b _ (neL b o e) hb (neC b o e hx) e1 (I.base.free b o e n hx)
    exact ⟨sl',e2⟩
  · obtain ⟨o',e1⟩:=I.base.there b o e hx
    exact free b o' (neC b o e hx) e1 (I.base.free b o e n hx)
  · obtain ⟨o',e1⟩:=I.base.there b o e hx
    exact there b o' (neC b o e hx) e1
  · exact tbls b _ (I.base.tbls b ps e)
  · obtain ⟨m,hn,hl⟩:=I.loc
    refine ⟨m,ns m hn,fun i x v e1 e2 e3=>?_⟩
    obtain ⟨u,r,l⟩:=hl i x v e1 e2 e3
    refine ⟨u,r,?_⟩
    rcases l with l | ⟨k,c,e,z⟩
    · exact .inl l
    · exact .inr ⟨k,c,e,cellK x c e _ z⟩
  · obtain ⟨v,z⟩:=I.cell x c e
    exact ⟨v,cellK x c e v z⟩
  · obtain ⟨m,⟨o,_,_,ho,_⟩,_⟩:=I.loc
    exact free _ o (fun z=>(hch _ z).2.1 rfl) ho I.free
  · obtain ⟨v,o,ho,hd⟩:=I.cell x c e
    exact free c o (fun z=>(hch c z).2.2.1 x c e rfl) ho (I.freeC x c e)
  · obtain ⟨e,n,ne,nf,d⟩:=I.pin p hp
    have nch:p.1 ∉ ch:=fun z=>(hch p.1 z).2.2.2 p hp rfl
    exact ⟨keep p.1 p.2 ne nf nch e n,free p.1 p.2 nch e n,ne,nf,d⟩
theorem Inv.un {t':Nat} (I:Inv X pins σ H s) (u:Un X.fs [] H H' s.heap h') (hok:HOk X.prog X.w H' h'):Inv X pins σ H' { s with heap:=h',toks:=t' }:=by
  obtain ⟨m,⟨o,es,ep,ho,r⟩,_⟩:=id I.loc
  obtain ⟨sl,hL⟩:=u.any ho I.free (by simp)
  exact I.step (g':=s.gens) (d':=s.drawn) (ch:=[]) (fun _ z=>nomatch z) (fun b o _ hb _ e n=>u.keep b o e n hb (by simp)) (fun b o _ hb _ e n=>u.slot b o e n hb (by simp)) (fun b o _ e n=>u.free b o e n (by simp)) (fun b o _ e=>u.there b o e (by simp)) u.tups u.frzs u.tbls (fun m' hm=>by
    obtain ⟨o',es',ep',ho',r'⟩:=hm
    rw [ho] at ho'; cases ho'
    exact ⟨_,es',ep',hL,r'⟩) hok I.bare
theorem Inv.call {g':Array GenState} {t':Nat} {d':Drawn} {ch:List Addr} (I:Inv X pins σ H s) (u:Un (frs X.stack) ch H H' s.heap h') (hok:HOk X.prog X.w H' h') (hg:AllBare g')
    (hch:∀ b ∈ ch,(b ∈ X.ex ∨ X.s₀.heap.objs.size ≤ b)∧b ≠ X.env.locals∧(∀ x c,X.env.cells.lookup x=some c→c ≠ b)∧∀ p ∈ X.pn ++ pins,p.1 ≠ b) :
    Inv X pins σ H' { s with heap:=h',gens:=g',drawn:=d',toks:=t' }:=by
  obtain ⟨m,⟨o,es,ep,ho,r⟩,_⟩:=id I.loc
  obtain ⟨sl,hL⟩:=u.any ho I.free fun z=>(hch _ z).2.1 rfl
  exact I.step (ch:=ch) hch (fun b o hL hb hc e n=>u.keep b o e n (fun z=>(List.mem_cons.mp (I.stkSub b z)).elim hL hb) hc) (fun b o _ _ hc e n=>u.any e n hc) (fun b o hc e n=>u.free b o e n hc) (fun b o hc e=>u.there b o e hc) u.tups u.frzs u.tbls (fun m' hm=>by
    obtain ⟨o',es',ep',ho',r'⟩:=hm
    rw [ho] at ho'; cases ho'
    exact ⟨_,es',ep',hL,r'⟩) hok hg
theorem Inv.turned {t':Nat} {it:Addr} (I:Inv X pins σ H s) (k:∀ b o,b ≠ it→s.heap.get? b=some o→h'.get? b=some o) (hn:H it=none) (hL:it ≠ X.env.locals)
    (h1:it ∈ X.ex ∨ X.s₀.heap.objs.size ≤ it) (h2:∀ x c,X.env.cells.lookup x=some c→c ≠ it) (h3:∀ p ∈ X.pn ++ pins,p.1 ≠ it):Inv X pins σ H { s with heap:=h',toks:=t' }:=by
  have nit:∀ b u,H b=some u→b ≠ it:=fun b u e z=>by rw [z,hn] at e; cases e
  refine I.step (g':=s.gens) (d':=s.drawn) (ch:=[it]) (fun b hb=>?_) (fun b o _ _ hc e _=>k b o (fun z=>hc (by simp [z])) e) (fun b o _ _ hc e _=>⟨o.slots,k b o (fun z=>hc (by simp [z])) e⟩) (fun _ _ _ _ n=>n)
    (fun b o hc e=>⟨o,k b o (fun z=>hc (by simp [z])) e⟩) (fun _ _ e=>e) (fun _ _ _ e=>e) (fun _ _ e=>e) (fun m hm=>?_) (fun b u e=>?_) I.bare
  · have e:b=it:=by simpa using hb
    subst e
    exact ⟨h1,hL,h2,h3⟩
  · obtain ⟨o,es,ep,ho,r⟩:=hm
    exact ⟨o,es,ep,k _ o (Ne.symm hL) ho,r⟩
  · refine (I.hok b u e).stay (fun c v hc q=>k c v ?_ q) (fun _ q=>q) (fun _ _ q=>q) fun _ _ _ q=>q
    rcases hc with z | z
    · rw [z]; exact nit b u e
    · exact nit c _ z
theorem Inv.tok (I:Inv X pins σ H s) (t:Nat):Inv X pins σ H { s with toks:=t }:=I.un (h':=s.heap) (t':=t) Un.refl I.hok
theorem Inv.kept {t':Nat} (I:Inv X pins σ H s) (k:∀ b u,s.heap.get? b=some u→h'.get? b=some u):Inv X pins σ H { s with heap:=h',toks:=t' }:=I.un (Un.kept k) (I.hok.kept k)
theorem Inv.laid {a:Addr} {o:HO} {t':Nat} (I:Inv X pins σ H s) (k:∀ b u,s.heap.get? b=some u→h'.get? b=some u) (hp:s.heap.objs.size ≤ a) (new:ObjOk X.prog X.w (upd H a o) h' a o) :
    Inv X pins σ (upd H a o) { s with heap:=h',toks:=t' }:=I.un (Un.laid k hp (I.hok.fresh hp)) (I.hok.laid k hp new)
theorem Inv.write {x e:Addr} {o:HO} {t':Nat} (I:Inv X pins σ H s) (mu:Mut (H x)) (he:e=x ∨ H e=some (.own x)) (k:∀ b u,b ≠ e→s.heap.get? b=some u→h'.get? b=some u) (heo:∃ u,h'.get? e=some u)
    (new:ObjOk X.prog X.w (upd H x o) h' x o):Inv X pins σ (upd H x o) { s with heap:=h',toks:=t' }:=I.un (Un.write mu he k heo) (I.hok.write mu he k heo new)
theorem Inv.pins_of {pins':List (Addr × Obj)} (I:Inv X pins σ H s) (h:∀ p ∈ pins',s.heap.get? p.1=some p.2∧H p.1=none∧p.1 ≠ X.env.locals∧p.1 ∉ X.fs∧∀ v,p.2.data ≠ .cell v):Inv X pins' σ H s :=
  ⟨I.ok,I.os,I.bare,I.base,I.loc,I.cell,I.free,I.freeC,fun p hp=>(List.mem_append.mp hp).elim (fun z=>I.pin p (List.mem_append_left _ z)) (h p),I.hok,I.len⟩
theorem nodup_ix {N:List Str} (hN:N.Nodup) {i j:Nat} {x:Str} (a:N[i]?=some x) (b:N[j]?=some x):i=j:=by
  obtain ⟨h1,e1⟩:=List.getElem?_eq_some_iff.mp a
  obtain ⟨h2,e2⟩:=List.getElem?_eq_some_iff.mp b
  exact (List.getElem_inj hN).mp (e1.trans e2.symm)
theorem store_ok2 {M:Model} {A:Around} {E:Value→Shared→Prop} {i:Nat} {x:Str} {v:V} {u:Value} {Q:Unit→Shared→Prop} (I:Inv X pins σ H s) (hN:X.N.Nodup) (hi:X.N[i]?=some x) (hx:Loc X.env.scope x) (r:RelV v u)
    (h:∀ s',Inv X pins (σ.set i (some v)) H s'→(∃ a,Heap.SameBut a s.heap s'.heap∧(a=X.env.locals ∨ X.env.cells.lookup x=some a))→Q () s') (hf:X.fn x=true ∨ X.env.scope.names.lookup x=some .local:=by first | exact .inl rfl | exact .inr rfl | assumption):wpAny M A (storeName X.env x u) Q E s:=by
  obtain ⟨m,hn,hl⟩:=id I.loc
  have hcls:(X.env.scope.kind == .class || (X.env.scope.kind == .module && X.env.locals != X.env.globals))=false:=by rw [I.ok.kind]; rfl
  have hiσ:i < σ.length:=by rw [I.len]; exact (List.getElem?_eq_some_iff.mp hi).1
  have cne:=I.cne
  have tracked:∀ {a:Addr} {h':Heap},(∃ o,s.heap.get? a=some o∧H a=none)→Heap.SameBut a s.heap h'→HOk X.prog X.w H h':=fun {a h'} ha hs b ob e=>by
    obtain ⟨_,_,hfree⟩:=ha
    refine (I.hok b ob e).stay (fun c w' hc q=>(hs.2 c ?_).trans q) (fun _ q=>q) (fun _ _ q=>q) fun _ _ _ q=>q
    rintro rfl
    rcases hc with rfl | hc
    · rw [hfree] at e; cases e
    · rw [hfree] at hc; cases hc
  rcases hx with hk | hk
  · refine wpAny_storeName_local hk hn (fun h' hn' hs=>?_) hcls
    obtain ⟨oL,_,_,hoL,_⟩:=id hn
    refine h _ ⟨I.ok,I.os,I.bare,⟨fun b o e n hb hx=>?_,fun b o e n hb hx=>?_,I.base.free,fun b o e hx=>?_,I.base.tups,I.base.frzs,I.base.tbls⟩,⟨_,hn',fun j y v' e1 e2 e3=>?_⟩,fun y c e=>?_,I.free,I.freeC,fun p hp=>?_,tracked ⟨oL,hoL,I.free⟩ hs,by simpa using I.len⟩ ⟨_,hs, .inl rfl⟩
    · exact (hs.2 b (Nat.ne_of_lt (Nat.lt_of_lt_of_le (Heap.lt_size e) I.ok.above))).trans (I.base.keep b o e n hb hx)
    · obtain ⟨sl,e1⟩:=I.base.slot b o e n hb hx
      exact ⟨sl,(hs.2 b (Nat.ne_of_lt (Nat.lt_of_lt_of_le (Heap.lt_size e) I.ok.above))).trans e1⟩
    · obtain ⟨o',e1⟩:=I.base.there b o e hx
      exact ⟨o',(hs.2 b (Nat.ne_of_lt (Nat.lt_of_lt_of_le (Heap.lt_size e) I.ok.above))).trans e1⟩
    · by_cases hj:j=i
      · subst hj
        rw [hi] at e1; cases e1
        rw [List.getElem?_set_self hiσ] at e2
        cases e2
        exact ⟨u,r, .inl ⟨hk,by simp⟩⟩
      · rw [List.getElem?_set_ne (Ne.symm hj)] at e2
        obtain ⟨u',r',q⟩:=hl j y v' e1 e2 e3
        refine ⟨u',r',?_⟩
        rcases q with ⟨k,e⟩ | ⟨k,c,e,z⟩
        · refine .inl ⟨k,?_⟩
          have:y ≠ x:=fun e=>hj (nodup_ix hN e1 (e ▸ hi))
          simp [this,e]
        · exact .inr ⟨k,c,e,z.sameBut hs (cne y c e)⟩
    · obtain ⟨w',z⟩:=I.cell y c e
      exact ⟨w',z.sameBut hs (cne y c e)⟩
    · obtain ⟨e,n,ne,nf,d⟩:=I.pin p hp
      exact ⟨(hs.2 p.1 ne).trans e,n,ne,nf,d⟩
  · have hfn:X.fn x=true:=by
      rcases hf with z | z
      · exact z
      · rw [z] at hk; cases hk
    obtain ⟨c,hc⟩:=I.ok.has x (.inl hk)
    obtain ⟨w',z⟩:=I.cell x c hc
    refine wpAny_storeName_cell I.ok.kind hk hc z (fun h' hc' hs=>?_)
    obtain ⟨oc,hoc,hocd⟩:=id z
    refine h { s with heap:=h' } ⟨I.ok,I.os,I.bare,⟨fun b o e n hb hx=>?_,fun b o e n hb hx=>?_,I.base.free,fun b o e hx=>?_,I.base.tups,I.base.frzs,I.base.tbls⟩,⟨m,hn.sameBut hs (Ne.symm (cne x c hc)),fun j y v' e1 e2 e3=>?_⟩,fun y c' e=>?_,I.free,I.freeC,fun p hp=>?_,tracked ⟨oc,hoc,I.freeC x c hc⟩ hs,by simpa using I.len⟩ ⟨c,hs, .inr hc⟩
    · exact (hs.2 b (Nat.ne_of_lt (Nat.lt_of_lt_of_le (Heap.lt_size e) (I.ok.cab x c hfn hc)))).trans (I.base.keep b o e n hb hx)
    · obtain ⟨sl,e1⟩:=I.base.slot b o e n hb hx
      exact ⟨sl,(hs.2 b (Nat.ne_of_lt (Nat.lt_of_lt_of_le (Heap.lt_size e) (I.ok.cab x c hfn hc)))).trans e1⟩
    · obtain ⟨o',e1⟩:=I.base.there b o e hx
      exact ⟨o',(hs.2 b (Nat.ne_of_lt (Nat.lt_of_lt_of_le (Heap.lt_size e) (I.ok.cab x c hfn hc)))).trans e1⟩
    · by_cases hj:j=i
      · subst hj
        rw [hi] at e1; cases e1
        rw [List.getElem?_set_self hiσ] at e2
        cases e2
        exact ⟨u,r, .inr ⟨.inl hk,c,hc,hc'⟩⟩
      · rw [List.getElem?_set_ne (Ne.symm hj)] at e2
        obtain ⟨u',r',q⟩:=hl j y v' e1 e2 e3
        refine ⟨u',r',?_⟩
        rcases q with q | ⟨k,c',e,z'⟩
        · exact .inl q
        · refine .inr ⟨k,c',e,z'.sameBut hs ?_⟩
          rintro rfl
          exact hj (nodup_ix hN e1 (I.ok.inj _ _ _ e hc ▸ hi))
    · by_cases hcc:c'=c
      · subst hcc; exact ⟨_,hc'⟩
      · obtain ⟨w2,z2⟩:=I.cell y c' e
        exact ⟨w2,z2.sameBut hs hcc⟩
    · obtain ⟨e,n,ne,nf,d⟩:=I.pin p hp
      refine ⟨(hs.2 p.1 ?_).trans e,n,ne,nf,d⟩
      intro q
      rw [q,hoc] at e
      have q':oc=p.2:=Option.some.inj e
      exact d w' (by rw [← q']; exact hocd)
theorem store_ok {M:Model} {A:Around} {E:Value→Shared→Prop} {i:Nat} {x:Str} {v:V} {u:Value} {Q:Unit→Shared→Prop} (I:Inv X pins σ H s) (hN:X.N.Nodup) (hi:X.N[i]?=some x) (hx:Loc X.env.scope x) (r:RelV v u)
    (h:∀ s',Inv X pins (σ.set i (some v)) H s'→Q () s') (hf:X.fn x=true ∨ X.env.scope.names.lookup x=some .local:=by first | exact .inl rfl | exact .inr rfl | assumption):wpAny M A (storeName X.env x u) Q E s :=
  store_ok2 I hN hi hx r (fun s' I' _=>h s' I') hf
end
abbrev XK:=Value→Option Addr→Hp→Prop
abbrev St:=List (Option V)
abbrev VK:=V→Hp→Prop
abbrev TE:=St→Hp→VK→Prop
abbrev TT:=St→Hp→(Bool→Hp→Prop)→Prop
abbrev TA:=St→Hp→(List V→Hp→Prop)→Prop
structure Ends where
  nx:St→Hp→Prop
  rt:VK
  bk:St→Hp→Prop:=fun _ _=>False
  ct:St→Hp→Prop:=fun _ _=>False
abbrev TS:=Ends→St→Hp→Prop
def EP (X:Cx) (pins:List (Addr × Obj)) (σ:St) (Q:VK) (u:Value) (s':Shared):Prop := ∃ v H',Inv X pins σ H' s'∧RelV v u∧Q v H'
def TP (X:Cx) (pins:List (Addr × Obj)) (σ:St) (Q:Bool→Hp→Prop) (b:Bool) (s':Shared):Prop := ∃ H',Inv X pins σ H' s'∧Q b H'
def AP (X:Cx) (pins:List (Addr × Obj)) (σ:St) (Q:List V→Hp→Prop) (us:List Value) (s':Shared):Prop := ∃ vs H',Inv X pins σ H' s'∧Vals vs us∧Q vs H'
def SP (X:Cx) (pins:List (Addr × Obj)) (D:Ends) (f:Flow) (s':Shared):Prop :=
  match f with
  | .next => ∃ σ' H',Inv X pins σ' H' s'∧D.nx σ' H'
  | .brk => ∃ σ' H',Inv X pins σ' H' s'∧D.bk σ' H'
  | .cont => ∃ σ' H',Inv X pins σ' H' s'∧D.ct σ' H'
  | .ret u => ∃ v σ' H',Inv X pins σ' H' s'∧RelV v u∧D.rt v H'
def PE (X:Cx) (e:Expr) (t:TE):Prop :=
  ∀ (pins:List (Addr × Obj)) (s:Shared) (σ:St) (H:Hp) (Q:VK),Inv X pins σ H s→t σ H Q→wpAny (model X.prog X.w) X.A (eval e X.env) (EP X pins σ Q) X.xe s
def PT (X:Cx) (e:Expr) (t:TT):Prop :=
  ∀ (pins:List (Addr × Obj)) (s:Shared) (σ:St) (H:Hp) (Q:Bool→Hp→Prop),Inv X pins σ H s→t σ H Q→wpAny (model X.prog X.w) X.A (isTrue e X.env (eval e X.env)) (TP X pins σ Q) X.xe s
def PW (X:Cx) (e:Expr) (t:TT):Prop :=
  ∀ (whole:Sem Value) (pins:List (Addr × Obj)) (s:Shared) (σ:St) (H:Hp) (Q:Bool→Hp→Prop),Inv X pins σ H s→t σ H Q→wpAny (model X.prog X.w) X.A (isTrue e X.env whole) (TP X pins σ Q) X.xe s
theorem PW.pt {X:Cx} {e:Expr} {t:TT} (h:PW X e t):PT X e t:=h _
def PA (X:Cx) (es:List Expr) (t:TA):Prop :=
  ∀ (pos:Pos) (pins:List (Addr × Obj)) (s:Shared) (σ:St) (H:Hp) (Q:List V→Hp→Prop),Inv X pins σ H s→t σ H Q→wpAny (model X.prog X.w) X.A (spliced (backTo pos (starEach es X.env))) (AP X pins σ Q) X.xe s
def PS (X:Cx) (st:Stmt) (t:TS):Prop :=
  ∀ (pins:List (Addr × Obj)) (s:Shared) (σ:St) (H:Hp) (D:Ends),Inv X pins σ H s→t D σ H→wpAny (model X.prog X.w) X.A (exec st X.env) (SP X pins D) X.xe s
def PSs (X:Cx) (st:List Stmt) (t:TS):Prop :=
  ∀ (pins:List (Addr × Obj)) (s:Shared) (σ:St) (H:Hp) (D:Ends),Inv X pins σ H s→t D σ H→wpAny (model X.prog X.w) X.A (execs st X.env) (SP X pins D) X.xe s
theorem thn {α:Type} {t:Sem α} {Q Q':α→Shared→Prop} {M:Model} {A:Around} {E:Value→Shared→Prop} {s:Shared} (h:wpAny M A t Q E s) (hQ:∀ a s,Q a s→Q' a s):wpAny M A t Q' E s:=wpAny_mono h hQ fun _ _ x=>x
end L2
namespace L2
open PySem PySem.Spec PyProof.Rows
section
variable {X:Cx}
theorem bin {a b:Expr} {ta tb:TE} (ha:PE X a ta) (hb:PE X b tb) {pins:List (Addr × Obj)} {s:Shared} {σ:St} {H:Hp} {R:V→V→Hp→Prop} (I:Inv X pins σ H s) (h:ta σ H fun x H1=>tb σ H1 fun y H2=>R x y H2)
    {α:Type} {Q:α→Shared→Prop} {f:Value→Value→Sem α}
    (hf:∀ v u s2 x y H2,Inv X pins σ H2 s2→RelV x v→RelV y u→R x y H2→wpAny (model X.prog X.w) X.A (f v u) Q X.xe s2) :
    wpAny (model X.prog X.w) X.A (eval a X.env) (fun v s₁=>wpAny (model X.prog X.w) X.A (eval b X.env) (fun u s₂=>wpAny (model X.prog X.w) X.A (f v u) Q X.xe s₂) X.xe s₁) X.xe s:=by
  refine thn (ha pins s σ H _ I h) fun v s1 ⟨x,H1,I1,r1,q1⟩=>?_
  refine thn (hb pins s1 σ H1 _ I1 q1) fun u s2 ⟨y,H2,I2,r2,q2⟩=>?_
  exact hf v u s2 x y H2 I2 r1 r2 q2
def tVar (i:Nat):TE:=fun σ H Q => ∃ v,σ[i]?=some (some v)∧Q v H
def tC (v:V):TE:=fun _ H Q=>Q v H
theorem pe_var {i:Nat} {x:Str} {pos:Pos} (hN:X.N[i]?=some x) (hv:Vis X.env.scope x) (hd:(x == ("__debug__":Str))=false:=by decide) (hcd:(x == ("__classdict__":Str))=false:=by decide):PE X (.Name x pos) (tVar i):=by
  intro pins s σ H Q I h
  obtain ⟨v,e,h⟩:=h
  obtain ⟨m,hn,hl⟩:=I.loc
  obtain ⟨u,r,l⟩:=hl i x v hN e hv
  have fin:EP X pins σ Q u s:=⟨v,H,I,r,h⟩
  rcases l with ⟨hk,hm⟩ | ⟨hk,c,hc,hcell⟩
  · exact wpAny_Name (wpAny_loadName_local I.ok.kind hk hn hm fin) hd
  · rcases hk with hk | hk
    · exact wpAny_Name (wpAny_loadName_cell I.ok.kind hk hc hcell fin) hd
    · exact wpAny_Name (wpAny_loadName_free I.ok.kind hk hc hcell fin hcd) hd
theorem pe_int {i j pos}:PE X (.Constant (.int i) j pos) (tC (.int i)):=fun _ _ _ H _ I h=>wpAny_Constant_int ⟨.int i,H,I.tok _,⟨_,rfl⟩,h⟩
theorem pe_bl {b j pos}:PE X (.Constant (.bool b) j pos) (tC (.bl b)):=fun _ _ _ H _ I h=>Constant_bool ⟨.bl b,H,I,rfl,h⟩
def Gl (X:Cx) (x:Str):Prop:=X.env.kindOf x=some .globalImplicit
theorem ld_glob {E:Value→Shared→Prop} {pins:List (Addr × Obj)} {s:Shared} {σ:St} {H:Hp} {x:Str} {u:Value} {pos:Pos} {Q:Value→Shared→Prop} (I:Inv X pins σ H s) (hg:Gl X x) (hm:X.mg x=some u) (h:Q u s)
    (hd:(x == ("__debug__":Str))=false:=by decide):wpAny (model X.prog X.w) X.A (eval (.Name x pos) X.env) Q E s :=
  Calls.Name_function_global I.ok.kind hg (Calls.loadGlobal_global (by rw [I.ok.glob]; exact I.mod.glob.keeps I.bk) hm h) hd
theorem ld_blt {E:Value→Shared→Prop} {pins:List (Addr × Obj)} {s:Shared} {σ:St} {H:Hp} {x:Str} {u:Value} {pos:Pos} {Q:Value→Shared→Prop} (I:Inv X pins σ H s) (hg:Gl X x) (hm:X.mg x=none) (hv:bootBuiltins x=some u) (h:Q u s)
    (hn:x ≠ "__name__":=by decide) (hd:(x == ("__debug__":Str))=false:=by decide):wpAny (model X.prog X.w) X.A (eval (.Name x pos) X.env) Q E s:=by
  obtain ⟨mb,h1,h2⟩:=I.mod.blt
  exact Calls.Name_function_global I.ok.kind hg (Calls.loadGlobal_builtin (by rw [I.ok.glob]; exact I.mod.glob.keeps I.bk) hm (by rw [I.ok.blt]; exact h1.keeps I.bk) ((h2 x hn).trans hv) h) hd
theorem pe_bltn {x:Str} {v:V} {u:Value} {pos:Pos} (hg:Gl X x) (hm:X.mg x=none) (hv:bootBuiltins x=some u) (r:RelV v u) (hn:x ≠ "__name__":=by decide) (hd:(x == ("__debug__":Str))=false:=by decide):PE X (.Name x pos) (tC v) :=
  fun _ _ _ H _ I h=>ld_blt I hg hm hv ⟨v,H,I,r,h⟩ hn hd
variable {a b:Expr} {ta tb:TE} {pos:Pos}
variable {tA tB':TT} {rest:List Expr}
def tOr (t u:TT):TT:=fun σ H Q=>t σ H fun c H1=>if c=true then Q true H1 else u σ H1 Q
def tNot (t:TT):TT:=fun σ H Q=>t σ H fun c H1=>Q (!c) H1
theorem pw_or1 (ha:PT X a tA):PW X (.BoolOp .Or [a] pos) tA:=by
  intro wh pins s σ H Q I h
  refine isTrue_or (thn (ha pins s σ H Q I h) fun c s1 e=>?_)
  cases c with
  | false=>exact isTrue_or_nil e
  | true=>exact e
theorem pw_or (ha:PT X a tA) (hb:PW X (.BoolOp .Or (b :: rest) pos) tB'):PW X (.BoolOp .Or (a :: b :: rest) pos) (tOr tA tB'):=by
  intro wh pins s σ H Q I h
  refine isTrue_or (thn (ha pins s σ H _ I h) fun c s1 ⟨H1,I1,q1⟩=>?_)
  cases c with
  | true=>exact ⟨H1,I1,q1⟩
  | false=>exact hb wh pins s1 σ H1 Q I1 q1
theorem pt_not (ha:PT X a tA):PT X (.UnaryOp .Not a pos) (tNot tA):=by
  intro pins s σ H Q I h
  exact isTrue_not (ha pins s σ H (fun c H1=>Q (!c) H1) I h)
def tAndV (ta tb:TE):TE:=fun σ H Q=>ta σ H fun x H1 => ∃ c,x = .bl c∧if c=true then tb σ H1 Q else Q (.bl false) H1
def tNotV (ta:TE):TE:=fun σ H Q=>ta σ H fun x H1 => ∃ c,x = .bl c∧Q (.bl (!c)) H1
theorem pe_one {op} {t:TE} (h:PE X a t):PE X (.BoolOp op [a] pos) t:=fun pins s σ H Q I hw=>BoolOp_one (h pins s σ H Q I hw)
theorem pe_and (ha:PE X a ta) (hb:PE X (.BoolOp .And (b :: rest) pos) tb):PE X (.BoolOp .And (a :: b :: rest) pos) (tAndV ta tb):=by
  intro pins s σ H Q I h
  refine BoolOp_and (thn (ha pins s σ H _ I h) fun v s1 ⟨x,H1,I1,r1,q1⟩=>?_)
  obtain ⟨c,rfl,q1⟩:=q1
  cases r1
  refine wpAny_truthy_bool ?_
  cases c with
  | true=>exact hb pins s1 σ H1 Q I1 q1
  | false=>exact ⟨.bl false,H1,I1,rfl,q1⟩
theorem pe_not (ha:PE X a ta):PE X (.UnaryOp .Not a pos) (tNotV ta):=by
  intro pins s σ H Q I h
  refine UnaryOp_ (thn (ha pins s σ H _ I h) fun v s1 ⟨x,H1,I1,r1,q1⟩=>?_)
  obtain ⟨c,rfl,q1⟩:=q1
  cases r1
  exact not_of (wpAny_truthy_bool ⟨.bl (!c),H1,I1,rfl,q1⟩)
end
end L2
namespace L2
open PySem PySem.Spec PyProof.Rows
def SqL (K:PySem.W.Frag) (H:Hp) (a:Addr) (xs:List V):Prop :=
  Rd H a (.lst xs) ∨
    ∃ (o:Obj) (its:Array Value) (n:Nat),K.lookup a=some o∧o.cls = .type "list"∧o.dict=none∧o.data = .seq its n∧its.size ≤ sizeLine∧Vals xs its.toList
def SqT (K:PySem.W.Frag) (H:Hp) (a:Addr) (xs:List V):Prop :=
  Rd H a (.tup xs) ∨
    ∃ (o:Obj) (its:Array Value) (n:Nat),K.lookup a=some o∧o.cls = .type "tuple"∧o.data = .seq its n∧its.size ≤ sizeLine∧Vals xs its.toList
def absV:Value→Option V
  | .none=>some .non
  | .bool b=>some (.bl b)
  | .int i _=>some (.int i)
  | .str x _=>some (.str x)
  | .bytes b _=>some (.byt b)
  | .float b _=>some (.flt b)
  | .ref a=>some (.ref a)
  | .type n=>some (.ty n)
  | _=>none
theorem RelV.abs {x:V} {u:Value} (r:RelV x u):absV u=some x:=by
  cases x with
  | non=>cases r; rfl
  | bl _=>cases r; rfl
  | int _=>obtain ⟨t,rfl⟩:=r; rfl
  | str _=>obtain ⟨t,rfl⟩:=r; rfl
  | byt _=>obtain ⟨t,rfl⟩:=r; rfl
  | flt _=>obtain ⟨t,rfl⟩:=r; rfl
  | ref _=>cases r; rfl
  | ty _=>cases r; rfl
theorem RelV.inj {x y:V} {u:Value} (r:RelV x u) (q:RelV y u):x=y:=Option.some.inj (r.abs.symm.trans q.abs)
theorem Vals.inj:∀ {xs ys:List V} {us:List Value},Vals xs us→Vals ys us→xs=ys
  | _,_,_, .nil, .nil=>rfl
  | _,_,_, .cons r t, .cons r' t'=>by rw [r.inj r',Vals.inj t t']
section
variable {X:Cx} {pins:List (Addr × Obj)} {σ:St} {H:Hp} {s:Shared} {a:Addr} {xs ys:List V}
theorem SqL.of {K:PySem.W.Frag} (h:H a=some (.lst xs)):SqL K H a xs := .inl (.inl h)
theorem SqT.of {K:PySem.W.Frag} (h:H a=some (.tup xs)):SqT K H a xs := .inl (.inl h)
theorem Inv.list (I:Inv X pins σ H s) (h:SqL X.K H a xs):∃ its:List Value,Vals xs its∧PlainL s.heap a its.toArray∧xs.length ≤ sizeLine:=by
  rcases h with h | ⟨o,its,n,hk,hc,hd,hs,hz,r⟩
  · obtain ⟨z,its,n,r,e⟩:=h.ok I.hok
    exact ⟨its,r,⟨_,n,e,rfl,rfl,rfl⟩,z⟩
  · refine ⟨its.toList,r,⟨o,n,I.kIn a o hk,hc,hd,by simpa using hs⟩,?_⟩
    have e:=r.length
    simp only [Array.length_toList] at e
    omega
theorem Inv.tuple (I:Inv X pins σ H s) (h:SqT X.K H a xs):∃ its:List Value,Vals xs its∧IsTup s.heap a its.toArray∧xs.length ≤ sizeLine:=by
  rcases h with h | ⟨o,its,n,hk,hc,hs,hz,r⟩
  · obtain ⟨z,its,r,p⟩:=h.ok I.hok
    exact ⟨its,r,p,z⟩
  · refine ⟨its.toList,r,⟨o,I.kIn a o hk,hc,n,by simpa using hs⟩,?_⟩
    have e:=r.length
    simp only [Array.length_toList] at e
    omega
theorem Inv.list_inj (I:Inv X pins σ H s) (h:SqL X.K H a xs) (h':SqL X.K H a ys):xs=ys:=by
  obtain ⟨its,r,⟨o,n,e,_,_,d⟩,_⟩:=I.list h
  obtain ⟨its',r',⟨o',n',e',_,_,d'⟩,_⟩:=I.list h'
  rw [e] at e'; cases e'
  rw [d] at d'
  injection d' with d1 _
  have:its=its':=by simpa using congrArg Array.toList d1
  subst this
  exact r.inj r'
theorem Inv.tuple_inj (I:Inv X pins σ H s) (h:SqT X.K H a xs) (h':SqT X.K H a ys):xs=ys:=by
  obtain ⟨its,r,⟨o,e,_,n,d⟩,_⟩:=I.tuple h
  obtain ⟨its',r',⟨o',e',_,n',d'⟩,_⟩:=I.tuple h'
  rw [e] at e'; cases e'
  rw [d] at d'
  injection d' with d1 _
  have:its=its':=by simpa using congrArg Array.toList d1
  subst this
  exact r.inj r'
end
abbrev Cx.wish (X:Cx) (E:Value→Shared→Prop):Cx:={ X with xe:=E }
abbrev Cx.nox (X:Cx):Cx:=X.wish fun _ _=>False
theorem Cx.Ok.wish {X:Cx} (ok:X.Ok) (E:Value→Shared→Prop):(X.wish E).Ok :=
  ⟨ok.mod,ok.kind,ok.glob,ok.blt,ok.above,ok.inj,ok.has,ok.cab,ok.hd,ok.frames,ok.stk,ok.exf,ok.bs,ok.bsz,ok.noex,ok.exfs,ok.funs,ok.frf,ok.tabs⟩
theorem Cx.Ok.unwish {X:Cx} {E:Value→Shared→Prop} (ok:(X.wish E).Ok):X.Ok :=
  ⟨ok.mod,ok.kind,ok.glob,ok.blt,ok.above,ok.inj,ok.has,ok.cab,ok.hd,ok.frames,ok.stk,ok.exf,ok.bs,ok.bsz,ok.noex,ok.exfs,ok.funs,ok.frf,ok.tabs⟩
section
variable {X:Cx} {pins:List (Addr × Obj)} {σ:St} {H:Hp} {s:Shared} {E:Value→Shared→Prop}
theorem Inv.wish (I:Inv X pins σ H s) (E:Value→Shared→Prop):Inv (X.wish E) pins σ H s:=⟨I.ok.wish E,I.os,I.bare,I.base,I.loc,I.cell,I.free,I.freeC,I.pin,I.hok,I.len⟩
theorem Inv.unwish (I:Inv (X.wish E) pins σ H s):Inv X pins σ H s:=⟨I.ok.unwish,I.os,I.bare,I.base,I.loc,I.cell,I.free,I.freeC,I.pin,I.hok,I.len⟩
theorem SP.unwish {D:Ends} {f:Flow} {s':Shared} (h:SP (X.wish E) pins D f s'):SP X pins D f s':=by
  cases f with
  | next=>obtain ⟨σ',H',I,q⟩:=h; exact ⟨σ',H',I.unwish,q⟩
  | brk=>obtain ⟨σ',H',I,q⟩:=h; exact ⟨σ',H',I.unwish,q⟩
  | cont=>obtain ⟨σ',H',I,q⟩:=h; exact ⟨σ',H',I.unwish,q⟩
  | ret u=>obtain ⟨v,σ',H',I,r,q⟩:=h; exact ⟨v,σ',H',I.unwish,r,q⟩
theorem PSs.nox {st:List Stmt} {t:TS} (h:PSs X.nox st t):PSs X st t:=fun pins s σ H D I hw =>
  wpAny_mono (h pins s σ H D (I.wish _) hw) (fun _ _ q=>q.unwish) fun _ _ z=>False.elim z
end
section
variable {X:Cx} {st:Stmt} {rest:List Stmt} {t u:TS} {e:Expr} {te:TE} {pos:Pos}
def tNext:TS:=fun D σ H=>D.nx σ H
def tSeq (t u:TS):TS:=fun D σ H=>t { D with nx:=u D } σ H
theorem pss_nil:PSs X [] tNext:=fun _ _ σ H _ I h=>wpAny_execs_nil ⟨σ,H,I,h⟩
theorem pss_cons (h1:PS X st t) (h2:PSs X rest u):PSs X (st :: rest) (tSeq t u):=by
  intro pins s σ H D I h
  refine wpAny_execs_cons (thn (h1 pins s σ H { D with nx:=u D } I h) fun f s1 q=>?_)
  cases f with
  | next =>
    obtain ⟨σ',H',I',q⟩:=q
    exact h2 pins s1 σ' H' D I' q
  | ret v=>exact q
  | brk=>exact q
  | cont=>exact q
theorem pss_one (h1:PS X st t):PSs X [st] t:=by
  intro pins s σ H D I h
  refine wpAny_execs_cons (thn (h1 pins s σ H D I h) fun f s1 q=>?_)
  cases f with
  | next=>exact wpAny_execs_nil q
  | ret v=>exact q
  | brk=>exact q
  | cont=>exact q
theorem Inv.quiet {pins:List (Addr × Obj)} {σ:St} {H:Hp} {s:Shared} (I:Inv X pins σ H s):interactive X.env=false:=by simp [interactive,I.ok.kind]
def tDrop (te:TE):TS:=fun D σ H=>te σ H fun _ H1=>D.nx σ H1
theorem ps_expr (he:PE X e te) (hs:swapsWith e none pos.line X.env=pure false:=by rfl):PS X (.Expr e pos) (tDrop te):=by
  intro pins s σ H D I h
  exact wpAny_Expr_any (thn (he pins s σ H _ I h) fun v s1 ⟨x,H1,I1,r1,q1⟩=>⟨σ,H1,I1,q1⟩) I.quiet hs
def tRet (te:TE):TS:=fun D σ H=>te σ H D.rt
theorem ps_ret (he:PE X e te):PS X (.Return (some e) pos) (tRet te):=by
  intro pins s σ H D I h
  exact wpAny_Return_some (thn (he pins s σ H _ I h) fun v s1 ⟨x,H1,I1,r1,q1⟩=>⟨x,σ,H1,I1,r1,q1⟩)
def tIfS (c:TT) (t u:TS):TS:=fun D σ H=>c σ H fun b H1=>if b=true then t D σ H1 else u D σ H1
theorem ps_if {c:Expr} {a b:List Stmt} {tc:TT} (hc:PT X c tc) (ha:PSs X a t) (hb:PSs X b u):PS X (.If c a b pos) (tIfS tc t u):=by
  intro pins s σ H D I h
  refine wpAny_If (thn (hc pins s σ H _ I h) fun d s1 ⟨H1,I1,q1⟩=>?_)
  cases d with
  | true=>exact ha pins s1 σ H1 D I1 q1
  | false=>exact hb pins s1 σ H1 D I1 q1
end
abbrev TG:=V→St→Hp→(St→Hp→Prop)→Prop
abbrev TGs:=List V→St→Hp→(St→Hp→Prop)→Prop
def PG (X:Cx) (target:Expr) (t:TG):Prop :=
  ∀ (pins:List (Addr × Obj)) (s:Shared) (σ:St) (H:Hp) (v:V) (u:Value) (Q:St→Hp→Prop),Inv X pins σ H s→RelV v u→t v σ H Q →
    wpAny (model X.prog X.w) X.A (assign target X.env u) (fun _ s' => ∃ σ' H',Inv X pins σ' H' s'∧Q σ' H') X.xe s
def PGs (X:Cx) (ts:List Expr) (t:TGs):Prop :=
  ∀ (pins:List (Addr × Obj)) (s:Shared) (σ:St) (H:Hp) (vs:List V) (us:List Value) (Q:St→Hp→Prop),Inv X pins σ H s→Vals vs us→t vs σ H Q →
    wpAny (model X.prog X.w) X.A (assignInOrder ((assignEach ts X.env).map (·.2)) us) (fun _ s' => ∃ σ' H',Inv X pins σ' H' s'∧Q σ' H') X.xe s
section
variable {X:Cx} {pos:Pos}
def gName (i:Nat):TG:=fun v σ H Q=>Q (σ.set i (some v)) H
theorem pg_name {i:Nat} {x:Str} (hN:X.N.Nodup) (hi:X.N[i]?=some x) (hx:Loc X.env.scope x) (hf:X.fn x=true ∨ X.env.scope.names.lookup x=some .local:=by first | exact .inl rfl | exact .inr rfl | assumption):PG X (.Name x pos) (gName i):=by
  intro pins s σ H v u Q I r h
  exact wpAny_assign_Name (store_ok I hN hi hx r (fun s' I'=>⟨_,H,I',h⟩) hf)
def gNil:TGs:=fun vs σ H Q=>vs=[]∧Q σ H
def gCons (t:TG) (u:TGs):TGs:=fun vs σ H Q => ∃ v r,vs=v :: r∧t v σ H fun σ' H'=>u r σ' H' Q
theorem pgs_nil:PGs X [] gNil:=by
  intro pins s σ H vs us Q I r h
  obtain ⟨e,h⟩:=h
  subst e
  cases r
  exact assignInOrder_nil ⟨σ,H,I,h⟩
theorem pgs_cons {e:Expr} {es:List Expr} {t:TG} {u:TGs} (h1:PG X e t) (h2:PGs X es u)
    (hs:(assignEach (e :: es) X.env).map (·.2)=assign e X.env :: (assignEach es X.env).map (·.2):=by rfl):PGs X (e :: es) (gCons t u):=by
  intro pins s σ H vs us Q I r h
  obtain ⟨v,vr,e1,h⟩:=h
  subst e1
  cases r with
  | cons r rr =>
    rw [hs]
    refine assignInOrder_cons (thn (h1 pins s σ H _ _ _ I r h) fun _ s1 ⟨σ1,H1,I1,q1⟩=>?_)
    exact h2 pins s1 σ1 H1 _ _ Q I1 rr q1
def gTup (K:PySem.W.Frag) (n:Nat) (t:TGs):TG:=fun v σ H Q => ∃ a xs,v = .ref a∧SqT K H a xs∧xs.length=n∧t xs σ H Q
theorem pg_tup {es:List Expr} {k:Nat} {t:TGs} {n:Nat} (hc:X.calm=true) (h:PGs X es t)
    (hn:(assignEach es X.env).length=n:=by rfl) (hst:(assignEach es X.env).findIdx? (·.1)=none:=by rfl):PG X (.Tuple es k pos) (gTup X.K n t):=by
  intro pins s σ H v u Q I r hw
  obtain ⟨a,xs,e1,hq,hl,hw⟩:=hw
  subst e1
  cases r
  obtain ⟨its,rv,ht,hz⟩:=I.tuple hq
  refine assign_Tuple_tuple (I.ok.hd hc) ht (by simp [hn, ← hl,rv.length]) hst fun h' hx=>?_
  have I1:Inv X pins σ H { s with heap:=h' }:=I.kept (t':=s.toks) fun b o e=>hx b o (Nat.ne_of_lt (Heap.lt_size e)) e
  exact h pins _ σ H xs _ Q I1 (by simpa using rv) hw
def tAsg (te:TE) (g:TG):TS:=fun D σ H=>te σ H fun x H1=>g x σ H1 D.nx
theorem ps_asg {tg e:Expr} {te:TE} {g:TG} (he:PE X e te) (hg:PG X tg g) (hs:swapsWithSole [tg] e pos.line X.env=pure false:=by rfl) (hw:swappedStores [tg] e X.env=pure none:=by rfl)
    (h1:(assignEach [tg] X.env).map (·.2)=[assign tg X.env]:=by rfl):PS X (.Assign [tg] e pos) (tAsg te g):=by
  intro pins s σ H D I h
  refine wpAny_Assign_stores (thn (he pins s σ H _ I h) fun v s1 ⟨x,H1,I1,r1,q1⟩=>?_) hs hw
  rw [h1]
  exact thn (hg pins s1 σ H1 x v _ I1 r1 q1) fun _ s2 q=>q
theorem ps_set {i:Nat} {x:Str} {e:Expr} {te:TE} {pos':Pos} (hN:X.N.Nodup) (hi:X.N[i]?=some x) (hx:Loc X.env.scope x) (he:PE X e te) (hs:swapsWith e (some (.Name x pos')) pos.line X.env=pure false:=by rfl) (hf:X.fn x=true ∨ X.env.scope.names.lookup x=some .local:=by first | exact .inl rfl | exact .inr rfl | assumption) :
    PS X (.Assign [.Name x pos'] e pos) (tAsg te (gName i)):=by
  intro pins s σ H D I h
  refine wpAny_Assign_Name (thn (he pins s σ H _ I h) fun v s1 ⟨y,H1,I1,r1,q1⟩=>?_) hs
  exact store_ok I1 hN hi hx r1 (fun s2 I2=>⟨_,H1,I2,q1⟩) hf
end
structure It where
  go:Nat→Hp→Prop
  yld:Nat→Hp→V→Hp→Prop
  stop:Nat→Hp→Prop
def FpOk (X:Cx) (pins:List (Addr × Obj)) (H:Hp) (b:Addr):Prop :=
  H b=none∧b ≠ X.env.locals∧b ∉ X.fs∧(b ∈ X.ex ∨ X.s₀.heap.objs.size ≤ b)∧(∀ x c,X.env.cells.lookup x=some c→c ≠ b)∧∀ p ∈ X.pn ++ pins,p.1 ≠ b
theorem Inv.fpOk {X:Cx} {pins:List (Addr × Obj)} {σ:St} {H H':Hp} {s:Shared} {b:Addr} (I:Inv X pins σ H s) (hb:s.heap.objs.size ≤ b) (hn:H' b=none):FpOk X pins H' b:=by
  refine ⟨hn,Nat.ne_of_gt (Nat.lt_of_lt_of_le I.lt hb),I.nofs hb, .inr (Nat.le_trans I.sz hb),fun x c e z=>?_,fun p hp z=>?_⟩
  · obtain ⟨v,q⟩:=I.cell x c e
    exact absurd (Nat.lt_of_lt_of_le q.lt (by rw [z]; exact hb)) (Nat.lt_irrefl _)
  · exact absurd (Nat.lt_of_lt_of_le (Heap.lt_size (I.pin p hp).1) (by rw [z]; exact hb)) (Nat.lt_irrefl _)
structure Turn (P:Program) (w:World) (K:PySem.W.Frag) (tg:Expr) (J:It) (fp:List Addr) (it:Addr) (tn:Nat→Heap→Prop):Prop where
  mem:it ∈ fp
  obj:∀ i h,tn i h→∀ b ∈ fp, ∃ o,h.get? b=some o∧∀ v,o.data ≠ .cell v
  keep:∀ i h h',tn i h→(∀ b ∈ fp, ∀ o,h.get? b=some o→h'.get? b=some o)→tn i h'
  item:∀ (X:Cx),X.prog=P→X.w=w→X.K=K→X.calm=true→∀ (i:Nat) (pins:List (Addr × Obj)) (s:Shared) (σ:St) (H:Hp) (E:Value→Shared→Prop),Inv X pins σ H s→(∀ b ∈ fp,FpOk X pins H b)→tn i s.heap→J.go i H →
    wpAny (model P w) X.A (pyNext (.ref it)) (fun r s1 => ∃ u,r=some u ∧
      wpAny (model P w) X.A (letOwnedTupleGo tg (.ref it) u) (fun _ s2 => ∃ x H',Inv X pins σ H' s2∧RelV x u∧J.yld i H x H'∧tn (i + 1) s2.heap∧∀ b ∈ fp,H' b=none) E s1) E s
  done:∀ (X:Cx),X.prog=P→X.w=w→X.K=K→X.calm=true→∀ (i:Nat) (pins:List (Addr × Obj)) (s:Shared) (σ:St) (H:Hp) (E:Value→Shared→Prop),Inv X pins σ H s→(∀ b ∈ fp,FpOk X pins H b)→tn i s.heap→J.stop i H →
    wpAny (model P w) X.A (pyNext (.ref it)) (fun r s1=>r=none∧Inv X pins σ H s1) E s
  self:∀ (A:Around) (i:Nat) (s:Shared) (Q:Value→Shared→Prop) (E:Value→Shared→Prop),tn i s.heap→Q (.ref it) s→wpAny (model P w) A (pyIter (.ref it)) Q E s
abbrev TI:=St→Hp→(It→Hp→Prop)→Prop
def PIE (X:Cx) (pins:List (Addr × Obj)) (σ:St) (tg:Expr) (R:It→Hp→Prop) (itv:Value) (s2:Shared):Prop :=
  ∃ (it:Addr) (fp:List Addr) (tn:Nat→Heap→Prop) (J:It) (H':Hp),itv = .ref it∧Inv X pins σ H' s2∧Turn X.prog X.w X.K tg J fp it tn∧tn 0 s2.heap∧(∀ b ∈ fp,FpOk X pins H' b)∧R J H'
def PI (X:Cx) (tg iter:Expr) (wi:TI):Prop :=
  ∀ (pins:List (Addr × Obj)) (s:Shared) (σ:St) (H:Hp) (R:It→Hp→Prop),Inv X pins σ H s→wi σ H R →
    wpAny (model X.prog X.w) X.A (eval iter X.env) (fun v s1=>wpAny (model X.prog X.w) X.A (pyIter v) (PIE X pins σ tg R) X.xe s1) X.xe s
theorem go_of {M:Model} {A:Around} {E:Value→Shared→Prop} {s:Shared} {tg:Expr} {it:Addr} {u:Value} {o:Obj} {n:String} {vs:Array Value} {Q:Unit→Shared→Prop} (ho:s.heap.get? it=some o) (hc:o.cls = .type n) (hd:o.data = .fields vs)
    (hn:["enumerate", "zip", "dict_itemiterator", "dict_reverseitemiterator", "odict_iterator", "itertools.zip_longest", "itertools.pairwise"].contains n=false) (hQ:Q () s):wpAny M A (letOwnedTupleGo tg (.ref it) u) Q E s:=by
  unfold letOwnedTupleGo
  cases tg <;> first
    | exact wpAny_pure hQ
    | (cases u <;> first
        | exact wpAny_pure hQ
        | (refine wpAny_bind (wpAny_load ho ?_)
           rw [hc,hd]
           show wpAny M A (if (["enumerate", "zip", "dict_itemiterator", "dict_reverseitemiterator", "odict_iterator", "itertools.zip_longest", "itertools.pairwise"].contains n && vs[0]? == some (rawInt _))=true then _ else _) Q E s
           rw [if_neg (by intro h; rw [hn,Bool.false_and] at h; cases h)]
           exact wpAny_pure hQ))
def Itl (K:PySem.W.Frag) (a:Addr):It :=
  ⟨fun i H => ∃ xs x,SqL K H a xs∧xs[i]?=some x,fun i H x H'=>H'=H∧∀ xs,SqL K H a xs→xs[i]?=some x,fun i H => ∃ xs,SqL K H a xs∧xs.length ≤ i⟩
def Itr (lo:Int) (n:Nat):It:=⟨fun i _=>i < n,fun i H x H'=>H'=H∧x = .int (lo + i),fun i _=>n ≤ i⟩
theorem turn_list {P:Program} {w:World} {K:PySem.W.Frag} {tg:Expr} (a it:Addr):Turn P w K tg (Itl K a) [it] it (fun i h=>h.IsListIter it a i) where
  mem:=by simp
  obj:=fun i h st b hb=>by
    have e:b=it:=by simpa using hb
    subst e
    obtain ⟨o,e,c,d⟩:=st
    exact ⟨o,e,fun v z=>by rw [d] at z; cases z⟩
  keep:=fun i h h' st k=>st.at fun o e=>k it (by simp) o e
  item:=by
    intro X hP hw hK hc i pins s σ H E I hf st hg
    subst hP hw hK
    obtain ⟨xs,x,hq,hx⟩:=hg
    obtain ⟨its,rv,p,hz⟩:=I.list hq
    obtain ⟨u,hu,ru⟩:=rv.get hx
    obtain ⟨f0,f1,f2,f3,f4,f5⟩:=hf it (by simp)
    refine wpAny_pyNext_list_item st p.isList (x:=u) (by simpa using hu) fun h' st' sb=>?_
    have I1:Inv X pins σ H { s with heap:=h' }:=I.turned (t':=s.toks) (fun b o hb e=>(sb.2 b hb).trans e) f0 f1 f3 f4 f5
    obtain ⟨o,e,c,d⟩:=id st'
    exact ⟨u,rfl,go_of (s:={ s with heap:=h' }) e c d (by decide) ⟨x,H,I1,ru,⟨rfl,fun ys hy=>by rw [I.list_inj hy hq]; exact hx⟩,st',fun b hb=>(hf b hb).1⟩⟩
  done:=by
    intro X hP hw hK hc i pins s σ H E I hf st hg
    subst hP hw hK
    obtain ⟨xs,hq,hx⟩:=hg
    obtain ⟨its,rv,p,hz⟩:=I.list hq
    obtain ⟨f0,f1,f2,f3,f4,f5⟩:=hf it (by simp)
    have hl:=rv.length
    exact wpAny_pyNext_list_end (I.ok.hd hc) st p.isList (by simp; omega) fun h' eb=>⟨rfl,I.turned (t':=s.toks) (fun b o hb e=>eb b o hb e) f0 f1 f3 f4 f5⟩
  self:=fun _ _ _ _ _ st h=>wpAny_pyIter_listiter st h
theorem turn_range {P:Program} {w:World} {K:PySem.W.Frag} {tg:Expr} (it:Addr) (lo:Int) (n:Nat):Turn P w K tg (Itr lo n) [it] it (fun i h=>IsRangeIter h it (lo + (i:Nat) * 1) ((n:Int) - (i:Nat)) 1) where
  mem:=by simp
  obj:=fun i h st b hb=>by
    have e:b=it:=by simpa using hb
    subst e
    exact ⟨_,st,fun v z=>by
      have z':Data.fields _=Data.cell v:=z
      cases z'⟩
  keep:=fun i h h' st k=>k it (by simp) _ st
  item:=by
    intro X hP hw hK hc i pins s σ H E I hf st hg
    subst hP hw hK
    obtain ⟨f0,f1,f2,f3,f4,f5⟩:=hf it (by simp)
    have W:=Walks.range (prog:=X.prog) (w:=X.w) (I.ok.hd hc) it lo 1 n
    refine W.item i s _ _ hg st fun v h' tk hv st' kk=>?_
    obtain ⟨t,rfl⟩:=hv
    have I1:Inv X pins σ H { s with heap:=h',toks:=tk }:=I.turned (fun b o hb e=>kk b o (by simpa using hb) e) f0 f1 f3 f4 f5
    refine ⟨_,rfl,go_of (s:={ s with heap:=h',toks:=tk }) (n := "range_iterator") st' rfl rfl (by decide) ⟨.int (lo + i),H,I1,⟨t,?_⟩,⟨rfl,rfl⟩,st',fun b hb=>(hf b hb).1⟩⟩
    rw [Int.mul_one]
  done:=by
    intro X hP hw hK hc i pins s σ H E I hf st hg
    subst hP hw hK
    obtain ⟨f0,f1,f2,f3,f4,f5⟩:=hf it (by simp)
    exact wpAny_pyNext_range_end (I.ok.hd hc) st (by have:n ≤ i:=hg; omega) fun h' eb=>⟨rfl,I.turned (t':=s.toks) (fun b o hb e=>eb b o hb e) f0 f1 f3 f4 f5⟩
  self:=fun _ _ _ _ _ st h=>wpAny_pyIter_rangeiter st h
end L2
namespace L2
open PySem PySem.Spec PyProof.Rows
section
variable {X:Cx} {tg:Expr}
def iList (K:PySem.W.Frag) (tl:TE):TI:=fun σ H R=>tl σ H fun x H1 => ∃ a,x = .ref a∧(∃ xs,SqL K H1 a xs)∧R (Itl K a) H1
theorem pi_list {l:Expr} {tl:TE} (hl:PE X l tl):PI X tg l (iList X.K tl):=by
  intro pins s σ H R I h
  refine thn (hl pins s σ H _ I h) fun v s1 ⟨x,H1,I1,r1,q1⟩=>?_
  obtain ⟨a,e,⟨xs,hq⟩,q⟩:=q1
  subst e
  cases r1
  obtain ⟨its,rv,p,hz⟩:=I1.list hq
  refine wpAny_pyIter_list p.isList ?_
  refine ⟨s1.heap.objs.size,[s1.heap.objs.size],_,_,H1,rfl,I1.kept (t':=s1.toks) fun b o e=>Heap.get?_push_of_some _ e,turn_list a _,⟨_,Heap.get?_push_size _ rfl,rfl,rfl⟩,fun b hb=>?_,q⟩
  have e:b=s1.heap.objs.size:=by simpa using hb
  subst e
  exact I1.fpOk (Nat.le_refl _) (I1.hok.fresh (Nat.le_refl _))
theorem range_it {pins:List (Addr × Obj)} {σ:St} {H:Hp} {s:Shared} {R:It→Hp→Prop} {E:Value→Shared→Prop} {lo hi:Int} {t u v:Tok} {tk:Nat} (I:Inv X pins σ H s) (h1 : -(2 ^ 62) ≤ lo) (h2:lo < 2 ^ 62) (h3 : -(2 ^ 62) ≤ hi) (h4:hi < 2 ^ 62)
    (q:R (Itr lo (hi - lo).toNat) H):wpAny (model X.prog X.w) X.A (pyIter (.ref s.heap.objs.size)) (PIE X pins σ tg R) E { s with heap:=s.heap.push { cls := .type "range",data := .fields #[.int lo t, .int hi u, .int 1 v] },toks:=tk }:=by
  refine wpAny_pyIter_range (IsRange.new ..) (small_one h1 h2 h3 h4) ?_
  have I1:Inv X pins σ H { s with heap:=s.heap.push { cls := .type "range",data := .fields #[.int lo t, .int hi u, .int 1 v] },toks:=tk }:=I.kept fun b o e=>Heap.get?_push_of_some _ e
  refine ⟨(s.heap.push { cls := .type "range",data := .fields #[.int lo t, .int hi u, .int 1 v] }).objs.size,[(s.heap.push { cls := .type "range",data := .fields #[.int lo t, .int hi u, .int 1 v] }).objs.size],_,_,H,rfl,
    I1.kept (t':=tk) fun b o e=>Heap.get?_push_of_some _ e,turn_range _ lo (hi - lo).toNat,?_,fun b hb=>?_,q⟩
  · have e1:lo + ((0:Nat):Int) * 1=lo:=by simp
    have e2:(((hi - lo).toNat:Nat):Int) - ((0:Nat):Int)=Builtin.Range.rangeSize lo hi 1:=by rw [rangeSize_one]; split <;> omega
    show IsRangeIter _ _ (lo + ((0:Nat):Int) * 1) ((((hi - lo).toNat:Nat):Int) - ((0:Nat):Int)) 1
    rw [e1,e2]
    exact Heap.get?_push_size _ rfl
  · have e:b=(s.heap.push { cls := .type "range",data := .fields #[.int lo t, .int hi u, .int 1 v] }).objs.size:=by simpa using hb
    subst e
    exact I1.fpOk (Nat.le_refl _) (I1.hok.fresh (Nat.le_refl _))
def iRng1 (ta:TA):TI:=fun σ H R=>ta σ H fun vs H1 => ∃ j:Int,vs=[.int j] ∧ -(2 ^ 62) ≤ j∧j < 2 ^ 62∧R (Itr 0 j.toNat) H1
theorem pi_range1 {a:Expr} {ta:TA} {p pos:Pos} (hg:Gl X "range") (hm:X.mg "range"=none) (ha:PA X [a] ta) (hs:starEach [a] X.env=[(false,eval a X.env)]:=by rfl):PI X tg (.Call (.Name "range" p) [a] [] pos) (iRng1 ta):=by
  intro pins s σ H R I h
  refine Call_ (ld_blt I hg hm boot_range (PyProof.Rows.callWith_type1 (thn (ha pos pins s σ H _ I h) fun us s1 ⟨vs,H1,I1,r1,q1⟩=>?_) hs rfl))
  obtain ⟨j,e,q1,q2,q⟩:=q1
  subst e
  cases r1 with
  | cons r rr =>
    cases rr
    obtain ⟨t,rfl⟩:=r
    exact call_range_1 (range_it I1 (by omega) (by omega) q1 q2 (by simpa using q))
def tFor (wi:TI) (g:TG) (tb:TS):TS:=fun D σ H=>wi σ H fun J H1 => ∃ W:Nat→Nat→St→Hp→Prop,(∃ m,W 0 m σ H1)∧∀ i m σ H,W i m σ H →
  (J.stop i H∧D.nx σ H) ∨ (J.go i H∧∃ N:St→Hp→Prop,(∀ σ' H',N σ' H'→∃ m',m' < m∧W (i + 1) m' σ' H')∧∀ x H',J.yld i H x H'→g x σ H' fun σ2 H2=>tb { D with nx:=N,ct:=N,bk:=D.nx } σ2 H2)
def pinsAt (fp:List Addr) (h:Heap):List (Addr × Obj):=fp.filterMap fun b=>(h.get? b).map fun o=>(b,o)
theorem mem_pinsAt {fp:List Addr} {h:Heap} {b:Addr} {o:Obj} (hb:b ∈ fp) (e:h.get? b=some o):(b,o) ∈ pinsAt fp h:=List.mem_filterMap.mpr ⟨b,hb,by rw [e]; rfl⟩
theorem of_pinsAt {fp:List Addr} {h:Heap} {p:Addr × Obj} (hp:p ∈ pinsAt fp h):p.1 ∈ fp∧h.get? p.1=some p.2:=by
  obtain ⟨b,hb,e⟩:=List.mem_filterMap.mp hp
  cases q:h.get? b with
  | none=>rw [q] at e; cases e
  | some o =>
    rw [q] at e
    have e':(b,o)=p:=Option.some.inj e
    subst e'
    exact ⟨hb,q⟩
theorem Inv.pinned {pins:List (Addr × Obj)} {σ:St} {H:Hp} {s:Shared} {fp:List Addr} (I:Inv X pins σ H s) (hf:∀ b ∈ fp,FpOk X pins H b) (ho:∀ b ∈ fp, ∃ o,s.heap.get? b=some o∧∀ v,o.data ≠ .cell v):Inv X (pins ++ pinsAt fp s.heap) σ H s :=
  I.pins_of fun p hp=>(List.mem_append.mp hp).elim (fun z=>I.pin p (List.mem_append_right _ z)) fun z=>by
    obtain ⟨hb,e⟩:=of_pinsAt z
    obtain ⟨f0,f1,f2,_⟩:=hf p.1 hb
    obtain ⟨o,e',d⟩:=ho p.1 hb
    rw [e] at e'; cases e'
    exact ⟨e,f0,f1,f2,d⟩
theorem Inv.unpinned {pins pl:List (Addr × Obj)} {σ:St} {H:Hp} {s:Shared} (I:Inv X (pins ++ pl) σ H s):Inv X pins σ H s:=I.pins_of fun p hp=>I.pin p (List.mem_append_right _ (List.mem_append_left _ hp))
theorem ps_for {iter:Expr} {body:List Stmt} {wi:TI} {g:TG} {tb:TS} {pos:Pos} (hp:PassesOwn (model X.prog X.w) X.A X.env X.xe) (hc:X.calm=true) (hi:PI X tg iter wi) (hg:PG X tg g) (hb:PSs X body tb)
    (hs:∀ x,foldedSetIterable iter X.env x=pure x:=by intro _; rfl):PS X (.For tg iter body [] pos) (tFor wi g tb):=by
  intro pins s σ H D I h
  refine wpAny_For (thn (hi pins s σ H _ I h) fun v s1 h1=>thn h1 fun itv s2 h2=>?_) hs
  obtain ⟨it,fp,tn,J,H2,e,I2,T,st2,f2,W,⟨m0,w0⟩,turn⟩:=h2
  subst e
  -- what stays true of the iterator's objects through the loop
  have stat:∀ {H':Hp},(∀ b ∈ fp,H' b=none)→∀ b ∈ fp,FpOk X pins H' b:=fun hn b hb=>⟨hn b hb,(f2 b hb).2⟩
  refine codeAny_forLoop_any (fun n s' => ∃ i σ' H',Inv X pins σ' H' s'∧tn i s'.heap∧(∀ b ∈ fp,H' b=none)∧W i n σ' H') ?_ m0 ⟨0,σ,H2,I2,st2,fun b hb=>(f2 b hb).1,w0⟩
  rintro n s3 ⟨i,σ3,H3,I3,st3,fr3,w3⟩
  rcases turn i n σ3 H3 w3 with ⟨stop,qn⟩ | ⟨go,N,hN,step⟩
  · refine wpAny_passesOwn hp (thn (T.done X rfl rfl rfl hc i pins s3 σ3 H3 X.xe I3 (stat fr3) st3 stop) fun r s4 ⟨hr,I4⟩=>?_)
    subst hr
    exact wpAny_execs_nil ⟨σ3,H3,I4,qn⟩
  · refine wpAny_passesOwn hp (thn (T.item X rfl rfl rfl hc i pins s3 σ3 H3 X.xe I3 (stat fr3) st3 go) fun r s4 ⟨u,hr,h4⟩=>?_)
    subst hr
    refine wpAny_passesOwn hp (thn h4 fun _ s5 ⟨x,H5,I5,r5,y5,st5,fr5⟩=>?_)
    have I5':=I5.pinned (stat fr5) (T.obj _ _ st5)
    refine wpAny_passesOwn hp (thn (hg _ s5 σ3 H5 x u _ I5' r5 (step x H5 y5)) fun _ s6 ⟨σ6,H6,I6,q6⟩=>?_)
    refine wpAny_passesOwn hp (thn (hb _ s6 σ6 H6 _ I6 q6) fun f s7 q7=>?_)
    have again:∀ {σ7:St} {H7:Hp},Inv X (pins ++ pinsAt fp s5.heap) σ7 H7 s7→N σ7 H7→∃ m,m < n∧∃ i σ' H',Inv X pins σ' H' s7∧tn i s7.heap∧(∀ b ∈ fp,H' b=none)∧W i m σ' H':=fun {σ7 H7} I7 n7=>by
      obtain ⟨m',hm,w7⟩:=hN σ7 H7 n7
      refine ⟨m',hm,i + 1,σ7,H7,I7.unpinned,T.keep _ _ _ st5 fun b hb o e=>(I7.pin (b,o) (List.mem_append_right _ (List.mem_append_right _ (mem_pinsAt hb e)))).1,fun b hb=>?_,w7⟩
      obtain ⟨o,e,d⟩:=T.obj _ _ st5 b hb
      exact (I7.pin (b,o) (List.mem_append_right _ (List.mem_append_right _ (mem_pinsAt hb e)))).2.1
    cases f with
    | next=>obtain ⟨σ7,H7,I7,n7⟩:=q7; exact again I7 n7
    | cont=>obtain ⟨σ7,H7,I7,n7⟩:=q7; exact again I7 n7
    | brk=>obtain ⟨σ7,H7,I7,q7⟩:=q7; exact ⟨σ7,H7,I7.unpinned,q7⟩
    | ret v=>obtain ⟨x7,σ7,H7,I7,r7,q7⟩:=q7; exact ⟨x7,σ7,H7,I7.unpinned,r7,q7⟩
end
end L2
namespace L2
open PySem PySem.Spec PyProof.Rows
abbrev R2:=V→V→Hp→VK→Prop
def OpR (X:Cx) (f:Value→Value→Sem Value) (r:R2):Prop :=
  ∀ (pins:List (Addr × Obj)) (s:Shared) (σ:St) (H:Hp) (x y:V) (v u:Value) (Q:VK),Inv X pins σ H s→RelV x v→RelV y u→r x y H Q →
    wpAny (model X.prog X.w) X.A (f v u) (EP X pins σ Q) X.xe s
def CallR (X:Cx) (f:Value) (r:List V→Hp→VK→Prop):Prop :=
  ∀ (pins:List (Addr × Obj)) (s:Shared) (σ:St) (H:Hp) (xs:List V) (us:List Value) (Q:VK),Inv X pins σ H s→Vals xs us→r xs H Q →
    wpAny (model X.prog X.w) X.A (call f us) (EP X pins σ Q) X.xe s
def TruR (X:Cx) (r:V→Hp→(Bool→Hp→Prop)→Prop):Prop :=
  ∀ (pins:List (Addr × Obj)) (s:Shared) (σ:St) (H:Hp) (x:V) (v:Value) (Q:Bool→Hp→Prop),Inv X pins σ H s→RelV x v→r x H Q →
    wpAny (model X.prog X.w) X.A (truthy v) (TP X pins σ Q) X.xe s
def tOp (r:R2) (ta tb:TE):TE:=fun σ H Q=>ta σ H fun x H1=>tb σ H1 fun y H2=>r x y H2 Q
def rI (C:Int→Int→Prop) (g:Int→Int→V):R2:=fun x y H Q => ∃ i j,x = .int i∧y = .int j∧C i j∧Q (g i j) H
def rI0 (g:Int→Int→V):R2:=fun x y H Q => ∃ i j,x = .int i∧y = .int j∧Q (g i j) H
section
variable {X:Cx} {a b c:Expr} {ta tb tc:TE} {pos:Pos}
theorem binT (ha:PE X a ta) (hb:PE X b tb) {pins:List (Addr × Obj)} {s:Shared} {σ:St} {H:Hp} {R:V→V→Hp→Prop} (I:Inv X pins σ H s)
    (h:ta σ H fun x H1=>tb σ H1 fun y H2=>R x y H2) {Q:Value→Shared→Prop} {f:Value→Value→Sem Value}
    (hf:∀ v u s2 x y H2,Inv X pins σ H2 s2→RelV x v→RelV y u→R x y H2→wpAny (model X.prog X.w) X.A (f v u) Q X.xe s2) :
    wpAny (model X.prog X.w) X.A (eval a X.env) (fun v s₁=>wpAny (model X.prog X.w) X.A (eval b X.env) (fun u s₂=>wpAny (model X.prog X.w) X.A (f v u) Q X.xe s₂) X.xe s₁) X.xe s:=by
  refine thn (ha pins s σ H _ I h) fun v s1 ⟨x,H1,I1,r1,q1⟩=>?_
  refine thn (hb pins s1 σ H1 _ I1 q1) fun u s2 ⟨y,H2,I2,r2,q2⟩=>?_
  exact hf v u s2 x y H2 I2 r1 r2 q2
theorem opI {f:Value→Value→Sem Value} {C:Int→Int→Prop} {g:Int→Int→Int}
    (rule:∀ (i j:Int) (t u:Tok) (s:Shared) (Q:Value→Shared→Prop) (E:Value→Shared→Prop),C i j→Q (.int (g i j) s.toks) { s with toks:=s.toks + 1 }→wpAny (model X.prog X.w) X.A (f (.int i t) (.int j u)) Q E s) :
    OpR X f (rI C fun i j => .int (g i j)):=by
  intro pins s σ H x y v u Q I rx ry h
  obtain ⟨i,j,rfl,rfl,hc,q⟩:=h
  obtain ⟨t,rfl⟩:=rx
  obtain ⟨t',rfl⟩:=ry
  exact rule i j t t' s _ _ hc ⟨.int (g i j),H,I.tok _,⟨_,rfl⟩,q⟩
theorem opI0 {f:Value→Value→Sem Value} {g:Int→Int→Int}
    (rule:∀ (i j:Int) (t u:Tok) (s:Shared) (Q:Value→Shared→Prop) (E:Value→Shared→Prop),Q (.int (g i j) s.toks) { s with toks:=s.toks + 1 }→wpAny (model X.prog X.w) X.A (f (.int i t) (.int j u)) Q E s) :
    OpR X f (rI0 fun i j => .int (g i j)):=by
  intro pins s σ H x y v u Q I rx ry h
  obtain ⟨i,j,rfl,rfl,q⟩:=h
  obtain ⟨t,rfl⟩:=rx
  obtain ⟨t',rfl⟩:=ry
  exact rule i j t t' s _ _ ⟨.int (g i j),H,I.tok _,⟨_,rfl⟩,q⟩
theorem opB0 {f:Value→Value→Sem Value} {g:Int→Int→Bool}
    (rule:∀ (i j:Int) (t u:Tok) (s:Shared) (Q:Value→Shared→Prop) (E:Value→Shared→Prop),Q (.bool (g i j)) s→wpAny (model X.prog X.w) X.A (f (.int i t) (.int j u)) Q E s) :
    OpR X f (rI0 fun i j => .bl (g i j)):=by
  intro pins s σ H x y v u Q I rx ry h
  obtain ⟨i,j,rfl,rfl,q⟩:=h
  obtain ⟨t,rfl⟩:=rx
  obtain ⟨t',rfl⟩:=ry
  exact rule i j t t' s _ _ ⟨.bl (g i j),H,I,rfl,q⟩
theorem op_add:OpR X (binaryOp .Add) (rI0 fun i j => .int (i + j)):=opI0 fun _ _ _ _ _ _ _ q=>add_int q
theorem op_modN:OpR X (binaryOp .Mod) (rI (fun _ j=>j ≠ 0) fun i j => .int (i.fmod j)):=opI fun _ _ _ _ _ _ _ hc q=>mod_int' hc q
end
def scal:V→V→Bool
  | .non, .non=>true | .non, .int _=>true | .int _, .non=>true | .non, .bl _=>true | .bl _, .non=>true | .non, .str _=>true | .str _, .non=>true
  | .int _, .int _=>true | .bl _, .bl _=>true | .str _, .str _=>true | .byt _, .byt _=>true
  | .int _, .str _=>true | .str _, .int _=>true | .bl _, .str _=>true | .str _, .bl _=>true
  | _,_=>false
def rEq:R2:=fun x y H Q=>scal x y=true∧Q (.bl (decide (x=y))) H
def rNe:R2:=fun x y H Q=>scal x y=true∧Q (.bl (!decide (x=y))) H
theorem dec_int {i j:Int}:decide (V.int i=V.int j)=(i == j):=by
  rw [Bool.eq_iff_iff]
  simp
theorem dec_bl {i j:Bool}:decide (V.bl i=V.bl j)=(i == j):=by
  rw [Bool.eq_iff_iff]
  simp
theorem dec_str {i j:Str}:decide (V.str i=V.str j)=(i == j):=by
  rw [Bool.eq_iff_iff]
  simp
theorem dec_byt {i j:Array UInt8}:decide (V.byt i=V.byt j)=(i.toList == j.toList):=by
  rw [Bool.eq_iff_iff]
  cases i
  cases j
  simp
section
variable {X:Cx} {a b c:Expr} {ta tb tc:TE} {pos:Pos}
theorem fin_bl {pins:List (Addr × Obj)} {σ:St} {H:Hp} {s:Shared} {Q:VK} {k k':Bool} (I:Inv X pins σ H s) (q:Q (.bl k) H) (e:k=k'):EP X pins σ Q (.bool k') s:=by
  subst e
  exact ⟨.bl k,H,I,rfl,q⟩
theorem op_eq:OpR X (compareOp .Eq) rEq:=by
  intro pins s σ H x y v u Q I rx ry h
  obtain ⟨hs,q⟩:=h
  cases x with
  | non =>
    cases rx
    cases y with
    | non=>cases ry; exact PySem.EqNone.eq_none_none (fin_bl I q (by simp))
    | bl j=>cases ry; exact PySem.EqNone.eq_none_bool (fin_bl I q (by simp))
    | int j=>obtain ⟨t',rfl⟩:=ry; exact PySem.EqNone.eq_none_int (fin_bl I q (by simp))
    | str j=>obtain ⟨t',rfl⟩:=ry; exact PySem.EqNone.eq_none_str (fin_bl I q (by simp))
    | _=>exact absurd (show false=true from hs) Bool.false_ne_true
  | bl i =>
    cases rx
    cases y with
    | non=>cases ry; exact PySem.EqNone.eq_bool_none (fin_bl I q (by simp))
    | bl j=>cases ry; exact eq_bool (fin_bl I q dec_bl)
    | str j=>obtain ⟨t',rfl⟩:=ry; exact PySem.EqMixed.eq_bool_str (fin_bl I q (by simp))
    | _=>exact absurd (show false=true from hs) Bool.false_ne_true
  | int i =>
    obtain ⟨t,rfl⟩:=rx
    cases y with
    | non=>cases ry; exact PySem.EqNone.eq_int_none (fin_bl I q (by simp))
    | int j=>obtain ⟨t',rfl⟩:=ry; exact eq_int (fin_bl I q dec_int)
    | str j=>obtain ⟨t',rfl⟩:=ry; exact PySem.EqMixed.eq_int_str (fin_bl I q (by simp))
    | _=>exact absurd (show false=true from hs) Bool.false_ne_true
  | str i =>
    obtain ⟨t,rfl⟩:=rx
    cases y with
    | non=>cases ry; exact PySem.EqNone.eq_str_none (fin_bl I q (by simp))
    | bl j=>cases ry; exact PySem.EqMixed.eq_str_bool (fin_bl I q (by simp))
    | int j=>obtain ⟨t',rfl⟩:=ry; exact PySem.EqMixed.eq_str_int (fin_bl I q (by simp))
    | str j=>obtain ⟨t',rfl⟩:=ry; exact eq_str (fin_bl I q dec_str)
    | _=>exact absurd (show false=true from hs) Bool.false_ne_true
  | byt i =>
    obtain ⟨t,rfl⟩:=rx
    cases y with
    | byt j=>obtain ⟨t',rfl⟩:=ry; exact PySem.W.eq_bytes (fin_bl I q dec_byt)
    | _=>exact absurd (show false=true from hs) Bool.false_ne_true
  | _=>cases y <;> exact absurd (show false=true from hs) Bool.false_ne_true
theorem op_ne:OpR X (compareOp .NotEq) rNe:=by
  intro pins s σ H x y v u Q I rx ry h
  obtain ⟨hs,q⟩:=h
  cases x with
  | non =>
    cases rx
    cases y with
    | non=>cases ry; exact PySem.EqNone.ne_none_none (fin_bl I q (by simp))
    | bl j=>cases ry; exact PySem.EqNone.ne_none_bool (fin_bl I q (by simp))
    | int j=>obtain ⟨t',rfl⟩:=ry; exact PySem.EqNone.ne_none_int (fin_bl I q (by simp))
    | str j=>obtain ⟨t',rfl⟩:=ry; exact PySem.EqNone.ne_none_str (fin_bl I q (by simp))
    | _=>exact absurd (show false=true from hs) Bool.false_ne_true
  | bl i =>
    cases rx
    cases y with
    | non=>cases ry; exact PySem.EqNone.ne_bool_none (fin_bl I q (by simp))
    | bl j=>cases ry; exact ne_bool (fin_bl I q (congrArg not dec_bl))
    | str j=>obtain ⟨t',rfl⟩:=ry; exact PySem.EqMixed.ne_bool_str (fin_bl I q (by simp))
    | _=>exact absurd (show false=true from hs) Bool.false_ne_true
  | int i =>
    obtain ⟨t,rfl⟩:=rx
    cases y with
    | non=>cases ry; exact PySem.EqNone.ne_int_none (fin_bl I q (by simp))
    | int j=>obtain ⟨t',rfl⟩:=ry; exact ne_int (fin_bl I q (congrArg not dec_int))
    | str j=>obtain ⟨t',rfl⟩:=ry; exact PySem.EqMixed.ne_int_str (fin_bl I q (by simp))
    | _=>exact absurd (show false=true from hs) Bool.false_ne_true
  | str i =>
    obtain ⟨t,rfl⟩:=rx
    cases y with
    | non=>cases ry; exact PySem.EqNone.ne_str_none (fin_bl I q (by simp))
    | bl j=>cases ry; exact PySem.EqMixed.ne_str_bool (fin_bl I q (by simp))
    | int j=>obtain ⟨t',rfl⟩:=ry; exact PySem.EqMixed.ne_str_int (fin_bl I q (by simp))
    | str j=>obtain ⟨t',rfl⟩:=ry; exact ne_str (fin_bl I q (congrArg not dec_str))
    | _=>exact absurd (show false=true from hs) Bool.false_ne_true
  | byt i =>
    obtain ⟨t,rfl⟩:=rx
    cases y with
    | byt j=>obtain ⟨t',rfl⟩:=ry; exact PySem.W.ne_bytes (fin_bl I q (congrArg not dec_byt))
    | _=>exact absurd (show false=true from hs) Bool.false_ne_true
  | _=>cases y <;> exact absurd (show false=true from hs) Bool.false_ne_true
theorem op_lt:OpR X (compareOp .Lt) (rI0 fun i j => .bl (decide (i < j))):=opB0 fun _ _ _ _ _ _ _ q=>lt_int q
theorem op_le:OpR X (compareOp .LtE) (rI0 fun i j => .bl (decide (i ≤ j))):=opB0 fun _ _ _ _ _ _ _ q=>le_int q
theorem nomark (b:Expr) {op:CmpOp} (h:op ≠ .In:=by decide) (h2:op ≠ .NotIn:=by decide):behindInMarks op b=false:=by
  have e1:(op == CmpOp.In)=false:=by cases op <;> first | rfl | exact absurd rfl h
  have e2:(op == CmpOp.NotIn)=false:=by cases op <;> first | rfl | exact absurd rfl h2
  cases b <;> simp [behindInMarks,e1,e2]
def TruV (K:PySem.W.Frag) (x:V) (H:Hp) (k:Bool):Prop :=
  match x with
  | .non=>k=false
  | .bl b=>k=b
  | .int i=>k=(i != 0)
  | .str y=>y.length ≤ sizeLine∧k=((y.length:Int) != 0)
  | .byt y=>y.size ≤ sizeLine∧k=((y.size:Int) != 0)
  | .ref p=>(∃ xs,SqL K H p xs∧k = !xs.isEmpty) ∨ (∃ xs,SqT K H p xs∧k = !xs.isEmpty) ∨ ∃ kvs,H p=some (.dK kvs)∧k = !kvs.isEmpty
  | _=>False
theorem isEmpty_kv {κ:Type} {kvs:List (κ × V)} {vs:List (κ × Value)} (r:KV kvs vs):(!vs.isEmpty) = !kvs.isEmpty:=by
  cases r <;> rfl
theorem isEmpty_of {xs:List V} {its:List Value} (r:Vals xs its):(!its.toArray.isEmpty) = !xs.isEmpty:=by
  cases r <;> simp
theorem line63:(sizeLine:Nat) < 2 ^ 63:=by rw [sizeLine_eq]; decide
theorem tru_ok:TruR X (fun x H Q => ∃ k,TruV X.K x H k∧Q k H):=by
  intro pins s σ H x v Q I rx h
  obtain ⟨k,e,q⟩:=h
  have hl:=line63
  have hs:sizeLine=16777216:=sizeLine_eq
  cases x with
  | non =>
    cases rx
    have e':k=false:=e
    subst e'
    exact truthy_none ⟨H,I,q⟩
  | bl b =>
    cases rx
    have e':k=b:=e
    subst e'
    exact wpAny_truthy_bool ⟨H,I,q⟩
  | int i =>
    obtain ⟨t,rfl⟩:=rx
    have e':k=(i != 0):=e
    subst e'
    exact PySem.P.truthy_int ⟨H,I,q⟩
  | str y =>
    obtain ⟨t,rfl⟩:=rx
    obtain ⟨hy,e'⟩:y.length ≤ sizeLine∧k=((y.length:Int) != 0):=e
    subst e'
    exact PySem.P.truthy_str (by omega) ⟨H,I.tok _,q⟩
  | byt y =>
    obtain ⟨t,rfl⟩:=rx
    obtain ⟨hy,e'⟩:y.size ≤ sizeLine∧k=((y.size:Int) != 0):=e
    subst e'
    exact PySem.W.truthy_bytes (by omega) ⟨H,I.tok _,q⟩
  | ref p =>
    cases rx
    have e':(∃ xs,SqL X.K H p xs∧k = !xs.isEmpty) ∨ (∃ xs,SqT X.K H p xs∧k = !xs.isEmpty) ∨ ∃ kvs,H p=some (.dK kvs)∧k = !kvs.isEmpty:=e
    rcases e' with ⟨xs,hx,e'⟩ | ⟨xs,hx,e'⟩ | ⟨kvs,hx,e'⟩
    · subst e'
      obtain ⟨its,r,pl,hz⟩:=I.list hx
      have hlen:=r.length
      exact wpAny_truthy_list pl.isList (by simp only [List.size_toArray]; omega) ⟨H,I.tok _,by rw [isEmpty_of r]; exact q⟩
    · subst e'
      obtain ⟨its,r,pl,hz⟩:=I.tuple hx
      have hlen:=r.length
      exact truthy_tuple pl (by simp only [List.size_toArray]; omega) ⟨H,I.tok _,by rw [isEmpty_of r]; exact q⟩
    · subst e'
      obtain ⟨hz,hS,vs,r,m⟩:kvs.length ≤ sizeLine∧(p == sysModules)=false∧∃ vs,KV kvs vs∧s.heap.DictOf (mixKind X.prog X.w) p vs:=I.hok p _ hx
      have hlen:kvs.length=vs.length:=Paired.length r
      exact wpAny_truthy_dict hS m (by omega) ⟨H,I.tok _,by rw [isEmpty_kv r]; exact q⟩
  | _=>exact (show False from e).elim
theorem pt_truth (ha:PE X a ta) (he:∀ whole,isTrue a X.env whole=(do let v ← whole; standAt a.pos; holding [v] (truthy v))) :
    PT X a (fun σ H Q=>ta σ H fun x H' => ∃ k,TruV X.K x H' k∧Q k H'):=by
  intro pins s σ H Q I h
  exact isTrue_plain (thn (ha pins s σ H _ I h) fun v s1 ⟨x,H1,I1,r1,q1⟩=>tru_ok pins s1 σ H1 x v Q I1 r1 q1) (he _)
theorem vals1 {x:V} {us:List Value} (r:Vals [x] us):∃ u,us=[u]∧RelV x u:=by
  cases r with
  | cons r1 r2=>cases r2; exact ⟨_,rfl,r1⟩
theorem vals2 {x y:V} {us:List Value} (r:Vals [x,y] us):∃ u w',us=[u,w']∧RelV x u∧RelV y w':=by
  cases r with
  | cons r1 r2 =>
    cases r2 with
    | cons r3 r4=>cases r4; exact ⟨_,_,rfl,r1,r3⟩
theorem call_max2 (hc:X.calm=true):CallR X (.builtin "max") (fun xs H Q => ∃ i j,xs=[.int i, .int j]∧Q (.int (if j > i then j else i)) H):=by
  intro pins s σ H xs us Q I r h
  obtain ⟨i,j,rfl,q⟩:=h
  obtain ⟨u,w',rfl,⟨t,rfl⟩,⟨t',rfl⟩⟩:=vals2 r
  refine max_two_ints (I.ok.hd hc) fun h' tk k=>⟨_,H,I.kept k,?_,q⟩
  by_cases hj:j > i
  · rw [if_pos hj,if_pos hj]; exact ⟨_,rfl⟩
  · rw [if_neg hj,if_neg hj]; exact ⟨_,rfl⟩
theorem call_min2 (hc:X.calm=true):CallR X (.builtin "min") (fun xs H Q => ∃ i j,xs=[.int i, .int j]∧Q (.int (if j < i then j else i)) H):=by
  intro pins s σ H xs us Q I r h
  obtain ⟨i,j,rfl,q⟩:=h
  obtain ⟨u,w',rfl,⟨t,rfl⟩,⟨t',rfl⟩⟩:=vals2 r
  refine min_two_ints (I.ok.hd hc) fun h' tk k=>⟨_,H,I.kept k,?_,q⟩
  by_cases hj:j < i
  · rw [if_pos hj,if_pos hj]; exact ⟨_,rfl⟩
  · rw [if_neg hj,if_neg hj]; exact ⟨_,rfl⟩
end
end L2
namespace L2
open PySem PySem.Spec PyProof.Rows
structure ObjM (h:Heap) (x dx C:Addr) (mA:Str→Option Value):Prop where
  obj:h.get? x=some (PySem.W.instObj C dx)
  ns:h.Ns1 dx mA
  ne:dx ≠ x
structure Cls (K:PySem.W.Frag) (C:Addr):Prop where
  pg:PySem.W.plainGet K C Str.empty=true
  hd:PySem.W.hasDictIn K C=true
  po:PySem.W.plainOver K C=true
  sa:PySem.W.findIn K (.ref C) "__setattr__"=some (some (.builtin "object.__setattr__"))
structure Con (K:PySem.W.Frag) (C:Addr) (f:Str) (v:V) (u:Value):Prop where
  at_:PySem.W.findIn K (.ref C) f=some (some u)
  rel:RelV v u
  get:PySem.W.specialIn K u "__get__"=some none
  cp:PySem.W.copiedNames.contains f=false
structure Meth (K:PySem.W.Frag) (C:Addr) (m:Str) (f:Addr):Prop where
  at_:PySem.W.findIn K (.ref C) m=some (some (.ref f))
  fn:PySem.W.isFn K (.ref f)=true
  kp:PySem.W.keepIn K (.ref f)=true
section
variable {X:Cx} {pins:List (Addr × Obj)} {σ:St} {H:Hp} {s:Shared} {A:Around} {E:Value→Shared→Prop} {Q:Value→Shared→Prop} {c:Value} {b:Bool}
inductive TyOf (K:PySem.W.Frag) (H:Hp):V→Value→Prop where
  | non:TyOf K H .non (.type "NoneType")
  | bl (x:Bool):TyOf K H (.bl x) (.type "bool")
  | int (i:Int):TyOf K H (.int i) (.type "int")
  | str (x:Str):TyOf K H (.str x) (.type "str")
  | flt (x:UInt64):TyOf K H (.flt x) (.type "float")
  | lst {a:Addr} {xs:List V} (e:H a=some (.lst xs)):TyOf K H (.ref a) (.type "list")
  | frz {a:Addr} {o:Obj} {xs:List V} (e:H a=some (.frz o (.lst xs))):TyOf K H (.ref a) (.type "list")
  | tup {a:Addr} {xs:List V} (e:H a=some (.tup xs)):TyOf K H (.ref a) (.type "tuple")
  | dK {a:Addr} {kvs:List (Key × V)} (e:H a=some (.dK kvs)):TyOf K H (.ref a) (.type "dict")
  | dT {a:Addr} {kvs:List (List Key × V)} (e:H a=some (.dT kvs)):TyOf K H (.ref a) (.type "dict")
  | ins {a C dx:Addr} {fs:List (Str × V)} (e:H a=some (.ins C dx fs)) (cl:Cls K C) (ha:PySem.W.findIn K (.ref C) "__class__"=some (some (.builtin "object.__class__")))
      (hn:PySem.W.specialIn K (.builtin "object.__class__") "__get__"=some (some (.builtin "getset_descriptor.__get__"))) (htk:PySem.W.takesIn K (.builtin "object.__class__")=some true)
      (hm:PySem.W.mroIn K C (.type "object")=some true):TyOf K H (.ref a) (.ref C)
end
end L2
namespace L2
open PySem PySem.Spec PyProof.Rows
structure Room (k:Nat) (A:Around):Prop where
  hd:A.handled=none
  dp:A.depth + 3 * k + 5 < recursionLimit
  un:A.units + 16 * k + 200 < cLine
theorem Room.mono {j k:Nat} {A:Around} (r:Room k A) (h:j ≤ k):Room j A:=⟨r.hd,by have:=r.dp; omega,by have:=r.un; omega⟩
theorem Room.deeper {k:Nat} {A:Around} (r:Room (k + 1) A) (env:Env):Room k (A.deeper env) :=
  ⟨r.hd,by have:=r.dp; show A.depth + 1 + 3 * k + 5 < _; omega,by have:=r.un; show A.units + 3 + 16 * k + 200 < _; omega⟩
theorem Room.depth {k:Nat} {A:Around} (r:Room k A):A.depth < recursionLimit:=by have:=r.dp; omega
theorem Room.units {k:Nat} {A:Around} (r:Room k A):A.units + 64 < cLine:=by have:=r.un; omega
def tNil:TA:=fun _ H Q=>Q [] H
def tCons (ta:TE) (tr:TA):TA:=fun σ H Q=>ta σ H fun x H1=>tr σ H1 fun xs H2=>Q (x :: xs) H2
section
variable {X:Cx} {e:Expr} {es:List Expr} {te:TE} {t:TA} {pos:Pos}
theorem pa_nil:PA X [] tNil:=fun _ _ _ _ H Q I h=>Calls.spliced_nil ⟨[],H,I, .nil,h⟩
theorem pa_cons (ha:PE X e te) (hr:PA X es t) (hs:starEach (e :: es) X.env=(false,eval e X.env) :: starEach es X.env:=by rfl):PA X (e :: es) (tCons te t):=by
  intro pos pins s σ H Q I h
  rw [hs]
  show wpAny _ _ (spliced ((false,eval e X.env) :: backTo pos (starEach es X.env))) _ _ s
  refine Calls.spliced_cons (thn (ha pins s σ H _ I h) fun u s1 ⟨x,H1,I1,r1,q1⟩=>?_)
  exact thn (hr pos pins s1 σ H1 _ I1 q1) fun us s2 ⟨xs,H2,I2,r2,q2⟩=>⟨x :: xs,H2,I2, .cons r1 r2,q2⟩
def tTup (t:TA):TE:=fun σ H Q=>t σ H fun xs H1=>xs.length ≤ sizeLine∧∀ p,H1 p=none→Q (.ref p) (upd H1 p (.tup xs))
def tLst (t:TA):TE:=fun σ H Q=>t σ H fun xs H1=>xs.length ≤ sizeLine∧∀ p,H1 p=none→Q (.ref p) (upd H1 p (.lst xs))
theorem pe_tup {x1} (h:PA X es t):PE X (.Tuple es x1 pos) (tTup t):=by
  intro pins s σ H Q I hq
  refine wpAny_Tuple_spliced (thn (h pos pins s σ H _ I hq) fun us s1 ⟨xs,H1,I1,r,z,q⟩=>⟨by rw [← r.length]; exact z,?_⟩)
  have hf:H1 s1.heap.objs.size=none:=I1.hok.fresh (Nat.le_refl _)
  refine ⟨.ref s1.heap.objs.size,upd H1 s1.heap.objs.size (.tup xs),I1.laid (t':=s1.toks) (fun b u e=>Heap.get?_push_of_some _ e) (Nat.le_refl _) ?_,rfl,q _ hf⟩
  exact ⟨z,us,r,⟨_,Heap.get?_push_size _ rfl,rfl,_,rfl⟩⟩
theorem pe_lst (h:PA X es t):PE X (.List es pos) (tLst t):=by
  intro pins s σ H Q I hq
  refine wpAny_List_spliced (thn (h pos pins s σ H _ I hq) fun us s1 ⟨xs,H1,I1,r,z,q⟩=>⟨by rw [← r.length]; exact z,?_⟩)
  have hf:H1 s1.heap.objs.size=none:=I1.hok.fresh (Nat.le_refl _)
  refine ⟨.ref s1.heap.objs.size,upd H1 s1.heap.objs.size (.lst xs),I1.laid (t':=s1.toks) (fun b u e=>Heap.get?_push_of_some _ e) (Nat.le_refl _) ?_,rfl,q _ hf⟩
  exact ⟨z,us,0,r,Heap.get?_push_size _ rfl⟩
end
abbrev Sp:=List V→Hp→VK→XK→Prop
abbrev CXT:=List Env→Hp→Shared→XK→Value→Shared→Prop
structure Env0 (P:Program) (w:World) (K:PySem.W.Frag) (mg:Str→Option Value) (base:BHeap) (A:Around) (outer:List Env) (s:Shared) (H:Hp):Prop where
  frames:A.frames=some outer
  mod:Mod K mg base
  bs:∀ b o,base.get? b=some o→s.heap.get? b=some o∧H b=none
  bsz:base.objs.size ≤ s.heap.objs.size
  funs:s.heap.FunFrames base outer
  frf:∀ b ∈ frs outer,H b=none
  hok:HOk P w H s.heap
  bare:AllBare s.gens
  tabs:∀ p ∈ base.tabs,H p.1=some (.tbl p.2)
def CE (outer:List Env) (P:Program) (w:World) (H:Hp) (s:Shared) (Q:VK) (u:Value) (s':Shared):Prop :=
  ∃ v H',s'.os=s.os∧AllBare s'.gens∧Un (frs outer) [] H H' s.heap s'.heap∧HOk P w H' s'.heap∧RelV v u∧Q v H'
def CR (CX:CXT) (outer:List Env) (P:Program) (w:World) (H:Hp) (s:Shared) (Q:VK) (E:XK) (r:Result) (s':Shared):Prop :=
  match r with
  | .ok (.ret u)=>CE outer P w H s Q u s'
  | .ok _=>False
  | .error e=>CX outer H s E e s'
structure FnOk (P:Program) (w:World) (K:PySem.W.Frag) (mg:Str→Option Value) (base:BHeap) (CX:CXT) (k:Nat) (f:Addr) (fd:FuncData) (ps:List Str) (sp:Sp):Prop where
  len:∀ vs H Q E,sp vs H Q E→vs.length=ps.length
  run:∀ (A:Around) (outer:List Env) (s:Shared) (H:Hp) (args:Args) (us:List Value) (vs:List V) (Q:VK) (E:XK),Room k A→Env0 P w K mg base A outer s H→BindsTo s fd args (ps.zip us)→Vals vs us→sp vs H Q E →
    codeAny (model P w) A (.call (.ref f) args) (CR CX outer P w H s Q E) s
section
variable {X:Cx} {pins:List (Addr × Obj)} {σ:St} {H:Hp} {s s':Shared}
theorem Inv.env0 (I:Inv X pins σ H s):Env0 X.prog X.w X.K X.mg X.base X.A X.stack s H :=
  ⟨I.ok.frames,I.ok.mod,I.bs,Nat.le_trans I.ok.bsz I.sz,I.stack,I.stkFree,I.hok,I.bare,fun p hp=>I.base.tbls _ _ (I.ok.tabs p hp)⟩
theorem Inv.after {Q:VK} {u:Value} (I:Inv X pins σ H s) (h:CE X.stack X.prog X.w H s Q u s'):EP X pins σ Q u s':=by
  obtain ⟨v,H',os,bare,un,hok,r,q⟩:=h
  obtain ⟨hh,g,d,t,os'⟩:=s'
  obtain rfl:os'=s.os:=os
  exact ⟨v,H',I.call (h':=hh) (g':=g) (d':=d) (t':=t) (ch:=[]) un hok bare (fun b z=>absurd z (by simp)),r,q⟩
end
def tCall (sp:Sp) (dvs:List V) (E:XK) (t:TA):TE:=fun σ H Q=>t σ H fun vs H1=>sp (vs ++ dvs) H1 Q E
def Binds (K:PySem.W.Frag) (fd:FuncData) (ps:List Str) (ds:List Value):Prop :=
  ∀ (s:Shared) (us:List Value),K.In s.heap→(us ++ ds).length=ps.length→BindsTo s fd ⟨us,[]⟩ (ps.zip (us ++ ds))
theorem Binds.all {K:PySem.W.Frag} {fd:FuncData} {ps:List Str} (h:∀ us:List Value,us.length=ps.length→bindArgs fd ⟨us,[]⟩=pure (ps.zip us)):Binds K fd ps []:=fun s us _ hl=>by
  rw [List.append_nil] at hl ⊢
  exact .of_eq (h us hl)
def Passes (CX:CXT) (X:Cx) (E:XK):Prop := ∀ (pins:List (Addr × Obj)) (σ:St) (H:Hp) (s:Shared) (e:Value) (s':Shared),Inv X pins σ H s→CX X.stack H s E e s'→X.xe e s'
section
variable {X:Cx} {CX:CXT} {k:Nat} {f C:Addr} {fd:FuncData} {ps:List Str} {sp:Sp} {dvs:List V} {ds:List Value} {E:XK} {x m:Str} {p pos apos:Pos} {e o:Expr} {es:List Expr} {ta:TE} {t:TA}
theorem run_fn {pins:List (Addr × Obj)} {σ:St} {H:Hp} {s:Shared} {Q:VK} {us:List Value} {vs:List V} (F:FnOk X.prog X.w X.K X.mg X.base CX k f fd ps sp) (hr:Room k X.A) (hb:Binds X.K fd ps ds) (hd:Vals dvs ds) (hx:Passes CX X E)
    (I:Inv X pins σ H s) (r:Vals vs us) (h:sp (vs ++ dvs) H Q E):wpAny (model X.prog X.w) X.A (call (.ref f) us) (EP X pins σ Q) X.xe s:=by
  have r2:Vals (vs ++ dvs) (us ++ ds):=r.append hd
  have hl:(us ++ ds).length=ps.length:=by rw [← r2.length]; exact F.len _ _ _ _ h
  refine wpAny_call (codeAny_mono (F.run X.A X.stack s H ⟨us,[]⟩ (us ++ ds) (vs ++ dvs) Q E hr I.env0 (hb s us I.kIn hl) r2 h) fun r s' hq=>?_)
  cases r with
  | error e=>exact hx pins σ H s e s' I hq
  | ok fl =>
    cases fl with
    | ret u=>exact I.after hq
    | next=>exact False.elim hq
    | brk=>exact False.elim hq
    | cont=>exact False.elim hq
theorem pe_call (F:FnOk X.prog X.w X.K X.mg X.base CX k f fd ps sp) (hr:Room k X.A) (hg:Gl X x) (hm:X.mg x=some (.ref f)) (hk:PySem.W.keepIn X.K (.ref f)=true) (hb:Binds X.K fd ps ds) (hd:Vals dvs ds) (hx:Passes CX X E)
    (ha:PA X (e :: es) t) (hdb:(x == ("__debug__":Str))=false:=by decide) (he:starEach (e :: es) X.env=(false,eval e X.env) :: starEach es X.env:=by rfl) (hpl:(backTo pos (starEach es X.env)).any (·.1)=false:=by rfl) :
    PE X (.Call (.Name x p) (e :: es) [] pos) (tCall sp dvs E t):=by
  intro pins s σ H Q I h
  refine wpAny_Call_Name_kw (ld_glob I hg hm ?_ hdb)
  refine PySem.W.callWith_K (h₀:=X.base) I.ok.mod.kin hk (thn (ha pos pins s σ H _ I h) fun us s1 ⟨vs,H1,I1,r,q⟩=>⟨I1.kIn,?_⟩) he hpl
  exact run_fn F hr hb hd hx I1 r q
structure Mk (K:PySem.W.Frag) (C f:Addr):Prop where
  makes:PySem.W.makesIn K C=true
  init:PySem.W.findIn K (.ref C) "__init__"=some (some (.ref f))
  fn:PySem.W.isFn K (.ref f)=true
  kp:PySem.W.keepIn K (.ref C)=true
end
section
variable {X:Cx} {CX:CXT} {k:Nat} {f C:Addr} {fd:FuncData} {ps ks:List Str} {sp:Sp} {E:XK} {x m:Str} {p pos apos kpos:Pos} {e o:Expr} {es:List Expr} {kws:List Keyword} {te ta:TE} {t tk:TA} {nm:Option Str}
structure KBinds (K:PySem.W.Frag) (fd:FuncData) (ps ks:List Str) (g:List Value→List Value→List Value) (gV:List V→List V→List V):Prop where
  to:∀ (s:Shared) (us ws:List Value),K.In s.heap→(g us ws).length=ps.length→BindsTo s fd ⟨us,ks.zip ws⟩ (ps.zip (g us ws))
  rel:∀ {vs:List V} {us:List Value} {zs:List V} {ws:List Value},Vals vs us→Vals zs ws→Vals (gV vs zs) (g us ws)
variable {g:List Value→List Value→List Value} {gV:List V→List V→List V}
end
structure FnScope (N P:List Str) (sc:Scope):Prop where
  kind:sc.kind = .function
  co:sc.isCoroutine=false
  gen:sc.isGenerator=false
  nd:N.Nodup
  pre:N.take P.length=P
  par:∀ x ∈ P,sc.names.lookup x=some .local ∨ sc.names.lookup x=some .cell
  nofree:∀ y ∈ sc.names,y.2 ≠ .free
theorem bindL_out {kindOf:Str→Option NameKind} {x:Str}:∀ {binds:List (Str × Value)} {m:Str→Option Value},(∀ v,(x,v) ∉ binds)→bindL kindOf binds m x=m x
  | [],_,_=>rfl
  | (n,v) :: r,m,h=>by
    unfold bindL
    rw [bindL_out fun w hw=>h w (List.mem_cons_of_mem _ hw)]
    split
    · have:x ≠ n:=by rintro rfl; exact h v List.mem_cons_self
      simp [this]
    · rfl
theorem bindC_out {kindOf:Str→Option NameKind} {x:Str}:∀ {binds:List (Str × Value)} {m:Str→Option Value},(∀ v,(x,v) ∉ binds)→bindC kindOf binds m x=m x
  | [],_,_=>rfl
  | (n,v) :: r,m,h=>by
    unfold bindC
    rw [bindC_out fun w hw=>h w (List.mem_cons_of_mem _ hw)]
    split
    · rfl
    · have:x ≠ n:=by rintro rfl; exact h v List.mem_cons_self
      simp [this]
theorem bindL_get {kindOf:Str→Option NameKind} {x:Str} {v:Value}:∀ {P:List Str} {vs:List Value} {i:Nat} {m:Str→Option Value},P.Nodup→P[i]?=some x→vs[i]?=some v→kindOf x=some .local →
    bindL kindOf (P.zip vs) m x=some v
  | [],_,_,_,_,h,_,_=>by simp at h
  | _ :: _,[],_,_,_,_,h,_=>by simp at h
  | p :: P,w :: vs,0,m,nd,h1,h2,hk=>by
    simp at h1 h2; subst h1; subst h2
    show bindL kindOf ((p,w) :: P.zip vs) m p=_
    unfold bindL
    rw [bindL_out fun v hv=>(List.nodup_cons.mp nd).1 (List.of_mem_zip hv).1,if_pos hk]
    simp
  | p :: P,w :: vs,i + 1,m,nd,h1,h2,hk=>by
    show bindL kindOf ((p,w) :: P.zip vs) m x=_
    unfold bindL
    exact bindL_get (i:=i) (List.nodup_cons.mp nd).2 (by simpa using h1) (by simpa using h2) hk
theorem bindC_get {kindOf:Str→Option NameKind} {x:Str} {v:Value}:∀ {P:List Str} {vs:List Value} {i:Nat} {m:Str→Option Value},P.Nodup→P[i]?=some x→vs[i]?=some v→kindOf x ≠ some .local →
    bindC kindOf (P.zip vs) m x=some v
  | [],_,_,_,_,h,_,_=>by simp at h
  | _ :: _,[],_,_,_,_,h,_=>by simp at h
  | p :: P,w :: vs,0,m,nd,h1,h2,hk=>by
    simp at h1 h2; subst h1; subst h2
    show bindC kindOf ((p,w) :: P.zip vs) m p=_
    unfold bindC
    rw [bindC_out fun v hv=>(List.nodup_cons.mp nd).1 (List.of_mem_zip hv).1,if_neg hk]
    simp
  | p :: P,w :: vs,i + 1,m,nd,h1,h2,hk=>by
    show bindC kindOf ((p,w) :: P.zip vs) m x=_
    unfold bindC
    exact bindC_get (i:=i) (List.nodup_cons.mp nd).2 (by simpa using h1) (by simpa using h2) hk
def start (N:List Str) (vs:List V):St:=vs.map some ++ List.replicate (N.length - vs.length) none
def cxOf (CX:CXT) (P:Program) (w:World) (K:PySem.W.Frag) (mg:Str→Option Value) (base:BHeap) (N:List Str) (qual:Str) (scope:Scope) (f:Addr) (cd:Value) (A:Around) (outer:List Env) (s:Shared) (H:Hp) (E:XK):Cx where
  prog:=P
  w:=w
  K:=K
  mg:=mg
  base:=base
  A:=A.deeper (envOfC qual scope s.heap.objs.size f cd)
  N:=N
  s₀:=s
  H₀:=H
  env:=envOfC qual scope s.heap.objs.size f cd
  outer:=outer
  stack:=envOfC qual scope s.heap.objs.size f cd :: outer
  ex:=[]
  calm:=true
  fn:=fun _=>true
  pn:=[]
  xe:=fun e s'=>wpAny (model P w) (A.deeper (envOfC qual scope s.heap.objs.size f cd)) (leaving (envOfC qual scope s.heap.objs.size f cd) e) (fun _ s''=>CX outer H s E e s'') (fun e' s''=>CX outer H s E e' s'') s'
theorem cell_has {sc:Scope} {n:Nat} {x:Str} (h:sc.names.lookup x=some .cell):∃ c,(cellsFrom n sc.names []).lookup x=some c:=by
  have q:=PySem.W.cellsFrom_some sc.names n [] (.inl h)
  exact Option.isSome_iff_exists.mp q
theorem inv_start {CX:CXT} {P:Program} {w:World} {K:PySem.W.Frag} {mg:Str→Option Value} {base:BHeap} {N ps:List Str} {qual:Str} {scope:Scope} {f:Addr} {cd:Value} {A:Around} {outer:List Env} {s s1:Shared} {H:Hp} {E:XK} {us:List Value} {vs:List V}
    (S:FnScope N ps scope) (hd:A.handled=none) (e0:Env0 P w K mg base A outer s H) (hl:vs.length=ps.length) (r:Vals vs us)
    (x:InCallC s s.heap.objs.size (bindL (envOfC qual scope s.heap.objs.size f cd).kindOf (ps.zip us) fun _=>none) (cellsFrom (s.heap.objs.size + 1) scope.names []) (bindC (envOfC qual scope s.heap.objs.size f cd).kindOf (ps.zip us) fun _=>none) s1) :
    Inv (cxOf CX P w K mg base N qual scope f cd A outer s H E) [] (start N vs) H s1:=by
  have hpl:ps.length ≤ N.length:=by have:=congrArg List.length S.pre; rw [List.length_take] at this; omega
  obtain ⟨h1,tk,rfl,hk⟩:=x.done
  have noA:∀ b:Addr,b ∉ (cxOf CX P w K mg base N qual scope f cd A outer s H E).ex:=fun b z=>absurd (show b ∈ ([]:List Addr) from z) (by simp)
  refine ⟨⟨e0.mod,S.kind,rfl,rfl,Nat.le_refl _,fun y z c h1 h2=>?_,fun y hy=>?_,fun y c _ h=>?_,fun _=>hd,Around.frames_deeper e0.frames, .inr ⟨rfl,rfl⟩,fun b z=>absurd z (noA b),e0.bs,e0.bsz,fun b _ _=>noA b,fun b z=>absurd z (noA b),e0.funs,e0.frf,e0.tabs⟩,
    rfl,e0.bare,Un.kept hk,⟨_,x.toInCall.ns,fun i y v h1 h2 h3=>?_⟩,fun y c h=>⟨_,x.cell y c h⟩,e0.hok.fresh (Nat.le_refl _),fun y c h=>?_,fun p hp=>absurd (show p ∈ ([]:List (Addr × Obj)) from hp) (by simp),e0.hok.kept hk,?_⟩
  · exact name_of_addr x.apart (PySem.mem_of_lookup h1) (PySem.mem_of_lookup h2)
  · have hy:scope.names.lookup y=some .cell ∨ scope.names.lookup y=some .free:=hy
    rcases hy with hy | hy
    · exact cell_has hy
    · exact absurd rfl (S.nofree _ (PySem.mem_of_lookup hy))
  · exact Nat.le_of_lt (x.above y c (PySem.mem_of_lookup h))
  · have hi:i < vs.length:=by
      unfold start at h2
      by_cases hi:i < vs.length
      · exact hi
      · rw [List.getElem?_append_right (by simpa using hi)] at h2
        rw [List.getElem?_replicate] at h2
        split at h2 <;> cases h2
    have ha:vs[i]?=some v:=by
      unfold start at h2
      rw [List.getElem?_append_left (by simpa using hi),List.getElem?_map] at h2
      cases e:vs[i]? with
      | none=>rw [e] at h2; cases h2
      | some a=>rw [e] at h2; cases h2; rfl
    obtain ⟨u,hu,rv⟩:=r.get ha
    have hp:ps[i]?=some y:=by
      rw [← S.pre,List.getElem?_take_of_lt (by omega)]; exact h1
    have ndP:ps.Nodup:=by rw [← S.pre]; exact S.nd.sublist (List.take_sublist _ _)
    refine ⟨u,rv,?_⟩
    rcases S.par y (List.mem_of_getElem? hp) with k | k
    · exact .inl ⟨k,bindL_get ndP hp hu k⟩
    · obtain ⟨c,e⟩:=cell_has (n:=s.heap.objs.size + 1) k
      refine .inr ⟨.inl k,c,e,?_⟩
      have q:=x.cell y c e
      rw [bindC_get ndP hp hu (by show scope.names.lookup y ≠ _; rw [k]; decide)] at q
      exact q
  · exact e0.hok.fresh (Nat.le_of_lt (x.above y c (PySem.mem_of_lookup h)))
  · unfold start
    show _=N.length
    rw [List.length_append,List.length_map,List.length_replicate]
    omega
theorem fn_of {CX:CXT} {P:Program} {w:World} {K:PySem.W.Frag} {mg:Str→Option Value} {base:BHeap} {k:Nat} {f:Addr} {name qual:Str} {params:Arguments} {body:List Stmt} {scope:Scope} {dV kV doc pm cdv ct oc:Value} {an od:Option Addr}
    {osl:Array (Option Value)} {N ps:List Str} {sp:Sp} (lk:K.lookup f=some ⟨oc,od, .func (PySem.W.fnOf name qual params body scope dV kV doc pm an cdv ct),osl⟩) (hcd:PySem.W.codeIn K cdv qual=true) (S:FnScope N ps scope)
    (len:∀ vs H Q E,sp vs H Q E→vs.length=ps.length)
    (hbody:∀ (A:Around) (outer:List Env) (s:Shared) (H:Hp) (vs:List V) (Q:VK) (E:XK),Room k (A.deeper (envOfC qual scope s.heap.objs.size f cdv))→sp vs H Q E →
      ∃ t,PSs (cxOf CX P w K mg base N qual scope f cdv A outer s H E) body t∧t { nx:=fun _ H'=>Q .non H',rt:=Q } (start N vs) H) :
    FnOk P w K mg base CX (k + 1) f (PySem.W.fnOf name qual params body scope dV kV doc pm an cdv ct) ps sp:=by
  refine ⟨len,fun A outer s H args us vs Q E hr e0 hb r hsp=>?_⟩
  have hl:=len _ _ _ _ hsp
  have KX:K.In s.heap:=e0.mod.kin.keeps fun b o e=>(e0.bs b o e).1
  have lim:s.heap.NoLimit:=e0.mod.nolimit.keeps fun b o e=>(e0.bs b o e).1
  have hkind:∀ y ∈ ps.zip us,scope.names.lookup y.1=some .local ∨ (scope.names.lookup y.1=some .cell∧((cellsFrom (s.heap.objs.size + 1) scope.names []).lookup y.1).isSome=true):=fun ⟨n,v⟩ hy=>by
    rcases S.par n (List.of_mem_zip hy).1 with q | q
    · exact .inl q
    · exact .inr ⟨q,PySem.W.cellsFrom_some _ _ _ (.inl q)⟩
  refine codeAny_call_function hr.depth (KX _ _ lk) rfl S.co S.gen rfl (PySem.W.codeRec_of KX hcd) (hb _ _ _ _ ?_)
  refine wpAny_newFunctionEnv_cells S.kind hkind fun env he s1 x=>?_
  subst he
  refine ⟨lim.keeps x.toInCall.keep,codeAny_func ?_⟩
  obtain ⟨t,ht,hq⟩:=hbody A outer s H vs Q E (hr.deeper _) hsp
  have I:Inv (cxOf CX P w K mg base N qual scope f cdv A outer s H E) [] (start N vs) H s1:=inv_start S hr.hd e0 hl r x
  refine wpAny_mono (ht [] s1 (start N vs) H _ I hq) (fun fl s' hs=>?_) fun e s' hs=>hs
  have fin:∀ {σ':St} {H':Hp} {v:V} {u:Value},Inv (cxOf CX P w K mg base N qual scope f cdv A outer s H E) [] σ' H' s'→RelV v u→Q v H'→CE outer P w H s Q u s' :=
    fun {σ' H' v u} J rv q=>⟨v,H',J.os,J.bare,J.base,J.hok,rv,q⟩
  cases fl with
  | ret u =>
    obtain ⟨v,σ',H',J,rv,q⟩:=hs
    exact fin J rv q
  | next =>
    obtain ⟨σ',H',J,q⟩:=hs
    exact fin (v:=V.non) (u:=Value.none) J rfl q
  | brk =>
    obtain ⟨_,_,_,q⟩:=hs
    exact False.elim q
  | cont =>
    obtain ⟨_,_,_,q⟩:=hs
    exact False.elim q
end L2
namespace L2
open PySem PySem.Spec PyProof.Rows
section
variable {X:Cx} {x:Str} {p pos:Pos} {e:Expr} {es:List Expr} {t:TA} {id T:String} {r:List V→Hp→VK→Prop}
def tCB (r:List V→Hp→VK→Prop) (t:TA):TE:=fun σ H Q=>t σ H fun vs H1=>r vs H1 Q
theorem pe_callB (hc:CallR X (.builtin id) r) (hg:Gl X x) (hm:X.mg x=none) (hv:bootBuiltins x=some (.builtin id)) (ha:PA X (e :: es) t) (hn:x ≠ "__name__":=by decide) (hdb:(x == ("__debug__":Str))=false:=by decide)
    (he:starEach (e :: es) X.env=(false,eval e X.env) :: starEach es X.env:=by rfl) (hpl:(backTo pos (starEach es X.env)).any (·.1)=false:=by rfl):PE X (.Call (.Name x p) (e :: es) [] pos) (tCB r t):=by
  intro pins s σ H Q I h
  refine wpAny_Call_Name_kw (ld_blt I hg hm hv ?_ hn hdb)
  exact PyProof.Rows.callWith_builtin1 (thn (ha pos pins s σ H _ I h) fun us s1 ⟨vs,H1,I1,r1,q1⟩=>hc pins s1 σ H1 vs us Q I1 r1 q1) he hpl
end
end L2
namespace HT
open PySem PyProof.Rows
section
variable {prog:Program} {w:World} {A:Around} {E:Value→Shared→Prop} {s:Shared}
def sIx (n d:Nat):Option Int→Nat
  | none=>d
  | some v=>if v < 0 then (v + (n:Int)).toNat else min v.toNat n
theorem sIx_none (n d:Nat):sIx n d none=d:=rfl
theorem sIx_nat (n d k:Nat):sIx n d (some (k:Int))=min k n:=by
  show (if (k:Int) < 0 then ((k:Int) + (n:Int)).toNat else min (k:Int).toNat n)=min k n
  rw [if_neg (by omega),Int.toNat_natCast]
end
end HT
namespace L2
open PySem PySem.Spec PyProof.Rows
abbrev TO:=St→Hp→(Option Int→Hp→Prop)→Prop
def PO (X:Cx) (e:Option Expr) (t:TO):Prop :=
  ∀ (pins:List (Addr × Obj)) (s:Shared) (σ:St) (H:Hp) (Q:Option Int→Hp→Prop),Inv X pins σ H s→t σ H Q →
    wpAny (model X.prog X.w) X.A (evalPart e X.env) (fun u s' => ∃ o H',Inv X pins σ H' s'∧IsPart u o∧Q o H') X.xe s
def tNoPart:TO:=fun _ H Q=>Q none H
def tPart (t:TE):TO:=fun σ H Q=>t σ H fun x H1 => ∃ i,x = .int i∧Q (some i) H1
section
variable {X:Cx} {e:Expr} {te:TE} {lo hi:Option Expr} {tl th:TO} {pos p2:Pos}
theorem po_none:PO X none tNoPart:=by
  intro pins s σ H Q I h
  rw [evalPart_none]
  exact wpAny_pure ⟨none,H,I, .none,h⟩
theorem po_some (h:PE X e te):PO X (some e) (tPart te):=by
  intro pins s σ H Q I hw
  rw [evalPart_some]
  refine thn (h pins s σ H _ I hw) fun u s1 ⟨x,H1,I1,r1,q1⟩=>?_
  obtain ⟨i,rfl,q⟩:=q1
  obtain ⟨t,rfl⟩:=r1
  exact ⟨some i,H1,I1, .int i t,q⟩
def SlR (X:Cx) (r:V→Option Int→Option Int→Hp→VK→Prop):Prop :=
  ∀ (pins:List (Addr × Obj)) (s:Shared) (σ:St) (H:Hp) (x:V) (v vl vu:Value) (lo hi:Option Int) (sl:Addr) (Q:VK),Inv X pins σ H s→RelV x v→s.heap.IsSliceOf sl vl vu .none→IsPart vl lo→IsPart vu hi→r x lo hi H Q →
    ∃ T id,typeLookup (.type T) "__getitem__"=pure (some (.builtin id))∧s.TypeIs v T∧wpAny (model X.prog X.w) X.A (getItem v (.ref sl)) (EP X pins σ Q) X.xe s
def tSl (r:V→Option Int→Option Int→Hp→VK→Prop) (te:TE) (tl th:TO):TE:=fun σ H Q=>te σ H fun x H1=>tl σ H1 fun l H2=>th σ H2 fun u H3=>r x l u H3 Q
theorem pe_slice {r:V→Option Int→Option Int→Hp→VK→Prop} (hr:SlR X r) (he:PE X e te) (hl:PO X lo tl) (hu:PO X hi th):PE X (.Subscript e (.Slice lo hi none p2) pos) (tSl r te tl th):=by
  intro pins s σ H Q I h
  refine Subscript_ (thn (he pins s σ H _ I h) fun v s1 ⟨x,H1,I1,r1,q1⟩=>?_)
  refine wpAny_Slice (thn (hl pins s1 σ H1 _ I1 q1) fun vl s2 ⟨l,H2,I2,pl,q2⟩=>thn (hu pins s2 σ H2 _ I2 q2) fun vu s3 ⟨u,H3,I3,pu,q3⟩=>?_)
  rw [evalPart_none]
  refine wpAny_pure ?_
  have I4:Inv X pins σ H3 { s3 with heap:=s3.heap.push { cls := .type "slice",data := .fields #[vl,vu, .none] } }:=I3.kept (t':=s3.toks) fun b ob q=>Heap.get?_push_of_some _ q
  obtain ⟨T,id,hT,ht,hg⟩:=hr pins { s3 with heap:=s3.heap.push { cls := .type "slice",data := .fields #[vl,vu, .none] } } σ H3 x v vl vu l u s3.heap.objs.size Q I4 r1 (Heap.IsSliceOf.new ..) pl pu q3
  show wpAny (model X.prog X.w) X.A (subscriptTail e (.Slice lo hi none p2) v (.ref s3.heap.objs.size)) (EP X pins σ Q) X.xe { s3 with heap:=s3.heap.push { cls := .type "slice",data := .fields #[vl,vu, .none] } }
  exact tail_any (ops:=[.ref s3.heap.objs.size,v]) ht hT hg (by with_unfolding_all rfl)
def cutV (xs:List V) (lo hi:Option Int):List V:=(xs.drop (HT.sIx xs.length 0 lo)).take (HT.sIx xs.length xs.length hi - HT.sIx xs.length 0 lo)
theorem cutV_length (xs:List V) (lo hi:Option Int):(cutV xs lo hi).length ≤ xs.length:=by
  unfold cutV
  rw [List.length_take,List.length_drop]
  omega
end
end L2
namespace L2
open PySem PySem.Spec PyProof.Rows
def ixN (n:Nat) (i:Int):Option Nat:=if 0 ≤ i then (if i < n then some i.toNat else none) else if -(n:Int) ≤ i then some (i + n).toNat else none
def atI {α:Type} (xs:List α) (i:Int):Option α:=(ixN xs.length i).bind fun j=>xs[j]?
theorem ixN_seq {n:Nat} {i:Int} {j:Nat} (h:ixN n i=some j):seqIndex? i n=some j∧j < n ∧ -(n:Int) ≤ i∧i < n:=by
  unfold ixN at h
  by_cases h0:0 ≤ i
  · rw [if_pos h0] at h
    by_cases h1:i < n
    · rw [if_pos h1] at h
      have e:i.toNat=j:=Option.some.inj h
      exact ⟨by rw [seqIndex_of h0 h1,e],by omega,by omega,h1⟩
    · rw [if_neg h1] at h; cases h
  · rw [if_neg h0] at h
    by_cases h1 : -(n:Int) ≤ i
    · rw [if_pos h1] at h
      have e:(i + n).toNat=j:=Option.some.inj h
      exact ⟨by rw [seqIndex_neg (by omega) h1,e],by omega,h1,by omega⟩
    · rw [if_neg h1] at h; cases h
theorem atI_get {α:Type} {xs:List α} {i:Int} {v:α} (h:atI xs i=some v):∃ j,seqIndex? i xs.length=some j∧xs[j]?=some v∧j < xs.length ∧ -(xs.length:Int) ≤ i∧i < xs.length:=by
  unfold atI at h
  cases e:ixN xs.length i with
  | none=>rw [e] at h; cases h
  | some j =>
    rw [e] at h
    obtain ⟨h1,h2,h3,h4⟩:=ixN_seq e
    exact ⟨j,h1,h,h2,h3,h4⟩
def PlainIx (b:Expr):Prop := ∀ o i,subscripted b false o i=operate [o,i] (getItem o i)
def IxR (X:Cx) (r:R2):Prop :=
  ∀ (value slice:Expr) (pins:List (Addr × Obj)) (s:Shared) (σ:St) (H:Hp) (x y:V) (v u:Value) (Q:VK),Inv X pins σ H s→RelV x v→RelV y u→r x y H Q →
    subscripted slice false v u=operate [v,u] (getItem v u)→wpAny (model X.prog X.w) X.A (subscriptTail value slice v u) (EP X pins σ Q) X.xe s
def MtR (X:Cx) (id:String) (r:V→List V→Hp→VK→Prop):Prop :=
  ∀ (pins:List (Addr × Obj)) (s:Shared) (σ:St) (H:Hp) (x:V) (xs:List V) (v:Value) (us:List Value) (Q:VK),Inv X pins σ H s→RelV x v→Vals xs us→r x xs H Q →
    wpAny (model X.prog X.w) X.A (call (.builtin id) (v :: us)) (EP X pins σ Q) X.xe s
section
variable {X:Cx} {a b:Expr} {ta tb:TE} {pos:Pos}
theorem IxR.or {r r':R2} (h:IxR X r) (h':IxR X r'):IxR X (fun x y H Q=>r x y H Q ∨ r' x y H Q):=by
  intro value slice pins s σ H x y v u Q I rx ry q hs
  rcases q with q | q
  · exact h value slice pins s σ H x y v u Q I rx ry q hs
  · exact h' value slice pins s σ H x y v u Q I rx ry q hs
theorem pe_ix {r:R2} (hr:IxR X r) (ha:PE X a ta) (hb:PE X b tb) (hs:PlainIx b):PE X (.Subscript a b pos) (tOp r ta tb):=by
  intro pins s σ H Q I h
  exact Subscript_ (binT ha hb I h fun v u s2 x y H2 I2 rx ry q=>hr a b pins s2 σ H2 x y v u Q I2 rx ry q (hs _ _))
def rIxL (K:PySem.W.Frag):R2:=fun x y H Q => ∃ p xs i v,x = .ref p∧y = .int i∧SqL K H p xs∧atI xs i=some v∧Q v H
def rIxT (K:PySem.W.Frag):R2:=fun x y H Q => ∃ p xs i v,x = .ref p∧y = .int i∧SqT K H p xs∧atI xs i=some v∧Q v H
theorem ix_list:IxR X (rIxL X.K):=by
  intro value slice pins s σ H x y v u Q I rx ry h hs
  obtain ⟨p,xs,i,z,rfl,rfl,hq,he,q⟩:=h
  cases rx
  obtain ⟨t,rfl⟩:=ry
  obtain ⟨its,r,pl,hz⟩:=I.list hq
  obtain ⟨j,h1,h2,h3,h4,h5⟩:=atI_get he
  obtain ⟨w,ew,rw'⟩:=r.get h2
  have hl:=r.length
  have hn:=line63
  have fin:EP X pins σ Q w s:=⟨z,H,I,rw',q⟩
  by_cases h0:0 ≤ i
  · have hj:i.toNat=j:=by
      rw [seqIndex_of h0 h5] at h1
      exact Option.some.inj h1
    exact item_listR pl.isList h0 (by omega) (by rw [hj]; simpa using ew) fin hs
  · have hj:(i + (its.toArray.size:Int)).toNat=j:=by
      rw [seqIndex_neg (by omega) h4] at h1
      rw [List.size_toArray, ← hl]
      exact Option.some.inj h1
    exact subscriptTail_builtinR (x:=w) pl.isList.typeIs slot_list_getitem.lookup
      (wpAny_getItem_list_neg (Q:=fun r s'=>r=w∧EP X pins σ Q r s') pl.isList (by omega) (by rw [List.size_toArray] <;> omega) (by omega) (by rw [hj]; simpa using ew) ⟨rfl,fin⟩) hs
theorem ix_tup:IxR X (rIxT X.K):=by
  intro value slice pins s σ H x y v u Q I rx ry h hs
  obtain ⟨p,xs,i,z,rfl,rfl,hq,he,q⟩:=h
  cases rx
  obtain ⟨t,rfl⟩:=ry
  obtain ⟨its,r,pl,hz⟩:=I.tuple hq
  obtain ⟨j,h1,h2,h3,h4,h5⟩:=atI_get he
  obtain ⟨w,ew,rw'⟩:=r.get h2
  have hl:=r.length
  have hn:=line63
  have fin:EP X pins σ Q w s:=⟨z,H,I,rw',q⟩
  exact subscriptTail_builtinR (x:=w) pl.typeIs slot_tuple_getitem.lookup
    (getItem_tuple (j:=j) (Q:=fun r s'=>r=w∧EP X pins σ Q r s') pl (by omega) (by omega) (by rw [List.size_toArray, ← hl]; exact h1) (by simpa using ew) ⟨rfl,fin⟩) hs
theorem Inv.lst {pins:List (Addr × Obj)} {σ:St} {H:Hp} {s:Shared} {p:Addr} {xs:List V} (I:Inv X pins σ H s) (h:H p=some (.lst xs)) :
    ∃ (its:List Value) (n:Nat),Vals xs its∧s.heap.get? p=some { cls := .type "list",data := .seq its.toArray n }∧xs.length ≤ sizeLine:=by
  obtain ⟨z,its,n,r,e⟩:=I.hok p _ h
  exact ⟨its,n,r,e,z⟩
theorem slice_bounds (lo hi:Option Int) (n:Nat):(sliceBounds lo hi none n).1=((HT.sIx n 0 lo:Nat):Int)∧(sliceBounds lo hi none n).2.1=((HT.sIx n n hi:Nat):Int)∧(sliceBounds lo hi none n).2.2=1:=by
  refine ⟨?_,?_,rfl⟩
  · cases lo with
    | none=>simp [sliceBounds,HT.sIx]
    | some i =>
      simp only [sliceBounds,HT.sIx,Option.getD_none,show (1:Int) > 0 by decide,if_true]
      by_cases h:i < 0
      · simp only [h,if_true] <;> omega
      · simp only [h,if_false] <;> omega
  · cases hi with
    | none=>simp [sliceBounds,HT.sIx]
    | some i =>
      simp only [sliceBounds,HT.sIx,Option.getD_none,show (1:Int) > 0 by decide,if_true]
      by_cases h:i < 0
      · simp only [h,if_true] <;> omega
      · simp only [h,if_false] <;> omega
theorem slicePick_cut (its:List Value) (lo hi:Option Int):slicePick its.toArray lo hi none=((its.drop (HT.sIx its.length 0 lo)).take (HT.sIx its.length its.length hi - HT.sIx its.length 0 lo)).toArray:=by
  obtain ⟨h1,h2,h3⟩:=slice_bounds lo hi its.toArray.size
  unfold slicePick
  rw [h1,h2,h3]
  simp only [sliceRange_one,pick_run,List.size_toArray] <;> rfl
def rSlL (K:PySem.W.Frag):V→Option Int→Option Int→Hp→VK→Prop:=fun x lo hi H Q => ∃ a xs,x = .ref a∧SqL K H a xs∧∀ p,H p=none→Q (.ref p) (upd H p (.lst (cutV xs lo hi)))
theorem sl_list:SlR X (rSlL X.K):=by
  intro pins s σ H x v vl vu lo hi sl Q I rx hs pl pu h
  obtain ⟨a,xs,rfl,hx,q⟩:=h
  cases rx
  obtain ⟨its,r,ht,hz⟩:=I.list hx
  have hlen:=r.length
  refine ⟨"list",_,slot_list_getitem.lookup,ht.isList.typeIs,?_⟩
  refine wpAny_getItem_list_slice ht.isList hs pl pu .none (by simp) ?_ (by rw [List.size_toArray] <;> omega)
  rw [slicePick_cut, ← hlen]
  refine ⟨.ref s.heap.objs.size,_,I.laid (t':=s.toks) (o := .lst (cutV xs lo hi)) (fun b ob q=>Heap.get?_push_of_some _ q) (Nat.le_refl _) ?_,rfl,q _ (I.hok.fresh (Nat.le_refl _))⟩
  exact ⟨Nat.le_trans (cutV_length xs lo hi) hz,_,0,(r.drop (HT.sIx xs.length 0 lo)).take (HT.sIx xs.length xs.length hi - HT.sIx xs.length 0 lo),Heap.get?_push_size _ rfl⟩
def flatV:V→Bool
  | .non=>true
  | .bl _=>true
  | .int _=>true
  | .str _=>true
  | _=>false
def eqV:V→V→Bool
  | .non, .non=>true
  | .bl a, .bl b=>a == b
  | .bl a, .int b=>(if a then 1 else 0) == b
  | .int a, .bl b=>a == (if b then 1 else 0)
  | .int a, .int b=>a == b
  | .str a, .str b=>a == b
  | _,_=>false
theorem eqAt_V {A:Around} {s:Shared} {y x:V} {u v:Value} (ry:RelV y u) (rx:RelV x v) (fy:flatV y=true) (fx:flatV x=true):SeqAt.EqAt A s u v (eqV y x):=by
  cases y with
  | non =>
    cases ry
    cases x with
    | non=>cases rx; exact SeqAt.EqAt.same _
    | bl b=>cases rx; exact SeqAt.EqAt.none_bool b
    | int b=>obtain ⟨t,rfl⟩:=rx; exact SeqAt.EqAt.none_int b t
    | str b=>obtain ⟨t,rfl⟩:=rx; exact SeqAt.EqAt.none_str b t
    | _=>exact absurd (show false=true from fx) Bool.false_ne_true
  | bl a =>
    cases ry
    cases x with
    | non=>cases rx; exact SeqAt.EqAt.bool_none a
    | bl b=>cases rx; exact SeqAt.EqAt.bool_bool a b
    | int b=>obtain ⟨t,rfl⟩:=rx; exact SeqAt.EqAt.bool_int a b t
    | str b=>obtain ⟨t,rfl⟩:=rx; exact SeqAt.EqAt.bool_str a b t
    | _=>exact absurd (show false=true from fx) Bool.false_ne_true
  | int a =>
    obtain ⟨t',rfl⟩:=ry
    cases x with
    | non=>cases rx; exact SeqAt.EqAt.int_none a t'
    | bl b=>cases rx; exact SeqAt.EqAt.int_bool a t' b
    | int b=>obtain ⟨t,rfl⟩:=rx; exact SeqAt.EqAt.int_int a t' b t
    | str b=>obtain ⟨t,rfl⟩:=rx; exact SeqAt.EqAt.int_str a t' b t
    | _=>exact absurd (show false=true from fx) Bool.false_ne_true
  | str a =>
    obtain ⟨t',rfl⟩:=ry
    cases x with
    | non=>cases rx; exact SeqAt.EqAt.str_none a t'
    | bl b=>cases rx; exact SeqAt.EqAt.str_bool a t' b
    | int b=>obtain ⟨t,rfl⟩:=rx; exact SeqAt.EqAt.str_int a t' b t
    | str b=>obtain ⟨t,rfl⟩:=rx; exact SeqAt.EqAt.str_str a t' b t
    | _=>exact absurd (show false=true from fx) Bool.false_ne_true
  | _=>exact absurd (show false=true from fy) Bool.false_ne_true
def eqU (x:V) (u:Value):Bool:=match u with
  | .none=>eqV .non x
  | .bool b=>eqV (.bl b) x
  | .int i _=>eqV (.int i) x
  | .str z _=>eqV (.str z) x
  | _=>false
theorem eqU_of {x y:V} {u:Value} (r:RelV y u) (f:flatV y=true):eqU x u=eqV y x:=by
  cases y with
  | non=>cases r; rfl
  | bl b=>cases r; rfl
  | int i=>obtain ⟨t,rfl⟩:=r; rfl
  | str z=>obtain ⟨t,rfl⟩:=r; rfl
  | _=>exact absurd (show false=true from f) Bool.false_ne_true
theorem any_eqU {x:V}:∀ {xs:List V} {us:List Value},Vals xs us→xs.all flatV=true→us.any (eqU x)=xs.any fun y=>eqV y x
  | _,_, .nil,_=>rfl
  | y :: xs,u :: us, .cons r t,f=>by
    rw [List.all_cons,Bool.and_eq_true] at f
    rw [List.any_cons,List.any_cons,eqU_of r f.1,any_eqU t f.2]
theorem mem_eqAt {A:Around} {s:Shared} {x:V} {v:Value} (rx:RelV x v) (fx:flatV x=true):∀ {xs:List V} {us:List Value},Vals xs us→xs.all flatV=true→∀ u ∈ us,SeqAt.EqAt A s u v (eqU x u)
  | _,_, .nil,_=>fun u hu=>by cases hu
  | y :: xs,u :: us, .cons r t,f=>fun u' hu=>by
    rw [List.all_cons,Bool.and_eq_true] at f
    rcases List.mem_cons.mp hu with rfl | hu
    · rw [eqU_of r f.1]; exact eqAt_V r rx f.1 fx
    · exact mem_eqAt rx fx t f.2 u' hu
def inV (x:V) (xs:List V):Bool:=xs.any fun y=>eqV y x
def rIn (K:PySem.W.Frag) (neg:Bool):R2:=fun x y H Q => ∃ p xs,y = .ref p∧(SqL K H p xs ∨ SqT K H p xs)∧flatV x=true∧xs.all flatV=true∧Q (.bl (if neg then !inV x xs else inV x xs)) H
theorem op_in_seq:OpR X (compareOp .In) (rIn X.K false):=by
  intro pins s σ H x y v u Q I rx ry h
  obtain ⟨p,xs,rfl,hq,fx,fs,q⟩:=h
  cases ry
  rcases hq with hq | hq
  · obtain ⟨its,r,pl,hz⟩:=I.list hq
    refine SeqAt.in_listAt (eqU x) pl.isList (fun w hw=>mem_eqAt rx fx r fs w (by simpa using hw)) ⟨.bl _,H,I,rfl,?_⟩
    rw [show its.toArray.any (eqU x)=its.any (eqU x) by simp,any_eqU r fs]
    exact q
  · obtain ⟨its,r,pl,hz⟩:=I.tuple hq
    refine SeqAt.in_tupleAt (eqU x) pl (fun w hw=>mem_eqAt rx fx r fs w (by simpa using hw)) ⟨.bl _,H,I,rfl,?_⟩
    rw [show its.toArray.any (eqU x)=its.any (eqU x) by simp,any_eqU r fs]
    exact q
theorem call_len_seq:CallR X (.builtin "len") (fun xs H Q => ∃ p ys,xs=[.ref p]∧(SqL X.K H p ys ∨ SqT X.K H p ys)∧Q (.int ys.length) H):=by
  intro pins s σ H xs us Q I r h
  obtain ⟨p,ys,rfl,hq,q⟩:=h
  obtain ⟨u,rfl,rx⟩:=vals1 r
  cases rx
  have hn:=line63
  rcases hq with hq | hq
  · obtain ⟨its,r',pl,hz⟩:=I.list hq
    have hlen:=r'.length
    exact Calls.call_len_list pl.isList (by simp only [List.size_toArray] <;> omega) ⟨.int ys.length,H,I.tok _,⟨s.toks + 1,by rw [List.size_toArray,hlen]⟩,q⟩
  · obtain ⟨its,r',pl,hz⟩:=I.tuple hq
    have hlen:=r'.length
    exact len_tuple pl (by simp only [List.size_toArray] <;> omega) ⟨.int ys.length,H,I.tok _,⟨s.toks + 1,by rw [List.size_toArray,hlen]⟩,q⟩
theorem call_list_of:CallR X (.type "list") (fun xs H Q => ∃ p ys,xs=[.ref p]∧(SqL X.K H p ys ∨ SqT X.K H p ys)∧∀ l,H l=none→Q (.ref l) (upd H l (.lst ys))):=by
  intro pins s σ H xs us Q I r h
  obtain ⟨p,ys,rfl,hq,q⟩:=h
  obtain ⟨u,rfl,rx⟩:=vals1 r
  cases rx
  have fin:∀ (its:List Value),Vals ys its→ys.length ≤ sizeLine→∀ (h':Heap) (c':Nat),(∀ b o',s.heap.get? b=some o'→h'.get? b=some o') →
      h'.get? s.heap.objs.size=some { cls := .type "list",dict:=none,data := .seq its.toArray c',slots := #[] }→EP X pins σ Q (.ref s.heap.objs.size) { s with heap:=h' }:=fun its r' hz h' c' kp e =>
    ⟨.ref s.heap.objs.size,_,I.laid (t':=s.toks) kp (Nat.le_refl _) (show ObjOk X.prog X.w _ h' _ (.lst ys) from ⟨hz,its,c',r',e⟩),rfl,q _ (I.hok.fresh (Nat.le_refl _))⟩
  rcases hq with hq | hq
  · obtain ⟨its,r',pl,hz⟩:=I.list hq
    have hlen:=r'.length
    obtain ⟨o,ho,hc,n,hd⟩:=pl.isList
    exact call_list_seq p (.inl rfl) ho hc hd (fun h' c' kp e=>fin its r' hz h' c' kp e) (by simp only [List.size_toArray] <;> omega)
  · obtain ⟨its,r',pl,hz⟩:=I.tuple hq
    have hlen:=r'.length
    obtain ⟨o,ho,hc,n,hd⟩:=pl
    exact call_list_seq p (.inr rfl) ho hc hd (fun h' c' kp e=>fin its r' hz h' c' kp e) (by simp only [List.size_toArray] <;> omega)
def tyV (K:PySem.W.Frag) (T:String) (x:V) (H:Hp):Prop:=match x with
  | .str _=>T = "str"
  | .int _=>T = "int"
  | .ref p=>(T = "list"∧∃ xs,SqL K H p xs) ∨ (T = "tuple"∧∃ o,K.lookup p=some o∧o.cls = .type "tuple"∧o.dict=none) ∨
      (T = "dict"∧((∃ kvs,H p=some (.dK kvs)) ∨ ∃ kvs,H p=some (.dT kvs))) ∨ (T = "set"∧∃ S n,H p=some (.set S n))
  | _=>False
theorem tyV_is {pins:List (Addr × Obj)} {σ:St} {H:Hp} {s:Shared} {T:String} {x:V} {v:Value} (I:Inv X pins σ H s) (r:RelV x v) (ty:tyV X.K T x H) :
    s.TypeIs v T∧∀ a,v = .ref a→∃ ob,s.heap.get? a=some ob∧ob.dict=none:=by
  cases x with
  | str z =>
    obtain ⟨t,rfl⟩:=r
    cases (show T = "str" from ty)
    exact ⟨typeIs_str s z t,fun _ e=>nomatch e⟩
  | int i =>
    obtain ⟨t,rfl⟩:=r
    cases (show T = "int" from ty)
    exact ⟨typeIs_int s i t,fun _ e=>nomatch e⟩
  | ref p =>
    cases r
    rcases ty with ⟨rfl,xs,hq⟩ | ⟨rfl,o,hk,hc,hd⟩ | ⟨rfl,hk⟩ | ⟨rfl,S,n,hk⟩
    · obtain ⟨its,_,pl,_⟩:=I.list hq
      refine ⟨pl.isList.typeIs,fun a e=>?_⟩
      cases e
      obtain ⟨o,n,e,c,hd,_⟩:=pl
      exact ⟨o,e,hd⟩
    · refine ⟨⟨o,I.kIn p o hk,hc⟩,fun a e=>?_⟩
      cases e
      exact ⟨o,I.kIn _ o hk,hd⟩
    · have z:∃ o,s.heap.get? p=some o∧o.ExactDict:=by
        rcases hk with ⟨kvs,hk⟩ | ⟨kvs,hk⟩
        · obtain ⟨_,_,_,_,o,_,_,e,ex,_⟩:=I.hok p _ hk
          exact ⟨o,e,ex⟩
        · obtain ⟨_,_,_,_,o,_,_,e,ex,_⟩:=I.hok p _ hk
          exact ⟨o,e,ex⟩
      obtain ⟨o,e,ex⟩:=z
      refine ⟨⟨o,e,ex.1⟩,fun a e2=>?_⟩
      cases e2
      exact ⟨o,e,ex.2.1⟩
    · obtain ⟨o,_,_,_,e,ex,_⟩:=I.hok p _ hk
      refine ⟨⟨o,e,ex.1⟩,fun a e2=>?_⟩
      cases e2
      exact ⟨o,e,ex.2.1⟩
  | _=>exact False.elim ty
def tBM (K:PySem.W.Frag) (T:String) (r:V→List V→Hp→VK→Prop) (to:TE) (t:TA):TE:=fun σ H Q=>to σ H fun x H1=>tyV K T x H1∧t σ H1 fun xs H2=>r x xs H2 Q
variable {o e:Expr} {es:List Expr} {to:TE} {t:TA} {name:Str} {apos cpos:Pos} {T id:String} {r:V→List V→Hp→VK→Prop}
theorem pe_bm (pa:PlainAttrs T) (slot:Slot T name id) (hty:typeOf (.builtin id)=pure (.type "method_descriptor")) (hm:MtR X id r) (ho:PE X o to) (ha:PA X (e :: es) t)
    (hbase:attributeBase o name X.env (eval o X.env)=eval o X.env:=by rfl)
    (hfew:((backTo cpos (starEach (e :: es) X.env)).all (fun x => !x.1) && (backToKw cpos (keywordEach [] X.env)).all (fun x=>x.1.isSome)
      && decide ((e :: es).length + ([]:List Keyword).length + (if ([]:List Keyword).isEmpty then 0 else 1) < 30))=true:=by rfl)
    (hline:(apos.endLine == cpos.line)=true:=by rfl) (hs:starEach (e :: es) X.env=(false,eval e X.env) :: starEach es X.env:=by rfl) (hplain:(backTo cpos (starEach es X.env)).any (·.1)=false:=by rfl) :
    PE X (.Call (.Attribute o name apos) (e :: es) [] cpos) (tBM X.K T r to t):=by
  intro pins s σ H Q I h
  refine wpAny_Call_method_late hbase hfew hline rfl (thn (ho pins s σ H _ I h) fun v s1 ⟨x,H1,I1,r1,ty,q1⟩=>?_)
  obtain ⟨h1,h2⟩:=tyV_is I1 r1 ty
  refine ⟨T,id,pa,slot,hty,h1,h2,?_⟩
  have hA:=ha cpos pins s1 σ H1 _ I1 q1
  rw [hs] at hA ⊢
  refine Calls.callWith_builtin (by show (false || (backTo cpos (starEach es X.env)).any (·.1))=false; rw [hplain] <;> rfl) (Calls.evalArgs_plain ?_)
  exact thn hA fun us s2 ⟨vs,H2,I2,r2,q2⟩=>hm pins s2 σ H2 x vs v us Q I2 r1 r2 q2
end
end L2
namespace L2
open PySem PySem.Spec PyProof.Rows
def MtM (X:Cx) (id:String) (r:V→List V→Hp→VK→Prop):Prop :=
  ∀ (pins:List (Addr × Obj)) (s:Shared) (σ:St) (H:Hp) (x:V) (xs:List V) (v:Value) (us:List Value) (Q:VK),Inv X pins σ H s→RelV x v→Vals xs us→r x xs H Q →
    wpAny (model X.prog X.w) X.A (call (.builtin id) (v :: us)) (EP X pins σ Q) X.xe s
theorem Vals.one:∀ {x:V} {us:List Value},Vals [x] us→∃ u,us=[u]∧RelV x u
  | _,_, .cons r .nil=>⟨_,rfl,r⟩
theorem Vals.rep {xs:List V} {us:List Value} (h:Vals xs us):∀ k:Nat,Vals (List.replicate k xs).flatten (List.replicate k us).flatten
  | 0 => .nil
  | k + 1=>by
    rw [List.replicate_succ,List.replicate_succ,List.flatten_cons,List.flatten_cons]
    exact Vals.append h (Vals.rep h k)
theorem foldl_rep (its:List Value):∀ (k:Nat) (acc:List Value),
    List.foldl (fun x1 x2=>x1 ++ x2) acc.toArray (List.replicate k its.toArray)=(acc ++ (List.replicate k its).flatten).toArray
  | 0,acc=>by simp
  | k + 1,acc=>by
    have e:acc.toArray ++ its.toArray=(acc ++ its).toArray:=by simp
    have e2:(acc ++ its) ++ (List.replicate k its).flatten=acc ++ (List.replicate (k + 1) its).flatten:=by
      rw [List.replicate_succ,List.flatten_cons,List.append_assoc]
    rw [← e2, ← foldl_rep its k (acc ++ its), ← e,List.replicate_succ,List.foldl_cons]
section
variable {X:Cx} {pins:List (Addr × Obj)} {σ:St} {H:Hp} {s:Shared} {l b:Addr} {xs ys zs:List V}
theorem Inv.lset {its its':List Value} {n:Nat} {f:Array Value→Array Value} {t':Nat} (I:Inv X pins σ H s) (hH:H l=some (.lst xs))
    (e:s.heap.get? l=some { cls := .type "list",data := .seq its.toArray n }) (hf:f its.toArray=its'.toArray) (hv:Vals ys its') (hz:ys.length ≤ sizeLine) :
    Inv X pins σ (upd H l (.lst ys)) { s with heap:=s.heap.update l (Obj.mapSeq f),toks:=t' }:=by
  have q:=PySem.IsL.update e f
  rw [hf] at q
  refine I.write (x:=l) (e:=l) (by rw [hH]; exact trivial) (.inl rfl) (fun b' u hb hu=>(Heap.get?_update_other s.heap (Obj.mapSeq f) (Ne.symm hb)).trans hu) ⟨_,q⟩ ?_
  exact ⟨hz,its',_,hv,q⟩
theorem Inv.lnew {its:List Value} {t':Nat} (I:Inv X pins σ H s) (hv:Vals ys its) (hz:ys.length ≤ sizeLine) :
    Inv X pins σ (upd H s.heap.objs.size (.lst ys)) { s with heap:=s.heap.push { cls := .type "list",data := .seq its.toArray },toks:=t' } :=
  I.laid (fun _ _ q=>Heap.get?_push_of_some _ q) (Nat.le_refl _) ⟨hz,its,0,hv,Heap.get?_push_size _ rfl⟩
theorem Inv.fresh (I:Inv X pins σ H s):H s.heap.objs.size=none:=I.hok.fresh (Nat.le_refl _)
theorem Inv.lstM (I:Inv X pins σ H s) (hH:H l=some (.lst xs)):xs.length ≤ sizeLine∧∃ (its:List Value) (n:Nat),Vals xs its∧xs.length=its.length∧s.heap.get? l=some { cls := .type "list",data := .seq its.toArray n }:=by
  obtain ⟨z,its,n,r,e⟩:=I.hok l _ hH
  exact ⟨z,its,n,r,r.length,e⟩
theorem notLongL {n:Nat} (h:n ≤ sizeLine):Builtin.List.listTooLong n=false:=by
  unfold Builtin.List.listTooLong
  exact decide_eq_false (by omega)
end
section
variable {X:Cx}
def rAppend:V→List V→Hp→VK→Prop:=fun x vs H Q => ∃ l xs y,x = .ref l∧vs=[y]∧H l=some (.lst xs)∧xs.length < sizeLine∧Q .non (upd H l (.lst (xs ++ [y])))
theorem mt_append:MtM X "list.append" rAppend:=by
  intro pins s σ H x vs v us Q I rx rv h
  obtain ⟨l,xs,y,rfl,rfl,hH,hz,q⟩:=h
  cases rx
  obtain ⟨u,rfl,ru⟩:=rv.one
  obtain ⟨z,its,n,r,hl,e⟩:=I.lstM hH
  refine call_meets F.slot_list_append ⟨_,e,rfl⟩ F.entry_list_append (F.args_list_append_2 _ _) (PySem.list_append l its.toArray n u (by rw [List.size_toArray]; omega)) ⟨e,?_⟩
  refine ⟨.non,_,I.lset (its':=its ++ [u]) hH e (by simp) (r.append (.cons ru .nil)) ?_,rfl,q⟩
  rw [List.length_append,List.length_singleton]
  omega
def rRep:R2:=fun x y H Q => ∃ l k xs,x = .ref l∧y = .int k∧H l=some (.lst xs) ∧ -(2 ^ 63) ≤ k∧k < 2 ^ 63∧xs.length * k.toNat ≤ sizeLine ∧
  ∀ p,H p=none→Q (.ref p) (upd H p (.lst (List.replicate k.toNat xs).flatten))
theorem len_rep {α:Type} (xs:List α) (k:Nat):(List.replicate k xs).flatten.length=k * xs.length:=by
  induction k with
  | zero=>simp
  | succ k ih=>rw [List.replicate_succ,List.flatten_cons,List.length_append,ih,Nat.succ_mul,Nat.add_comm]
theorem op_rep:OpR X (binaryOp .Mult) rRep:=by
  intro pins s σ H x y v u Q I rx ry h
  obtain ⟨l,k,xs,rfl,rfl,hH,h1,h2,hz,q⟩:=h
  cases rx
  obtain ⟨t,rfl⟩:=ry
  obtain ⟨z,its,n,r,hl,e⟩:=I.lstM hH
  have hlen:its.toArray.size * k.toNat ≤ sizeLine:=by rw [List.size_toArray, ← hl]; exact hz
  have hcap : ¬ its.toArray.size * k.toNat > (2 ^ 63 - 1) / 8:=by
    have:(sizeLine:Nat) ≤ (2 ^ 63 - 1) / 8:=by decide
    omega
  have hfit : ¬ (!Builtin.List.listFitsIndex k)=true:=by
    rw [fitsIndex_both h1 h2]
    exact Bool.false_ne_true
  have hlong : ¬ Builtin.List.listTooLong (its.toArray.size * k.toNat)=true:=by
    rw [notLongL hlen]
    exact Bool.false_ne_true
  have hnew:List.foldl (fun x1 x2=>x1 ++ x2) #[] (List.replicate (if its.toArray.isEmpty=true then 0 else k.toNat) its.toArray)=(List.replicate k.toNat its).flatten.toArray:=by
    have f0:∀ m:Nat,List.foldl (fun x1 x2=>x1 ++ x2) #[] (List.replicate m its.toArray)=(List.replicate m its).flatten.toArray:=fun m=>by
      have:=foldl_rep its m []
      rw [List.nil_append] at this
      exact this
    rw [f0]
    cases its with
    | nil=>simp
    | cons a r'=>rw [if_neg (by simp)]
  refine wpAny_binaryOp_repeat_ref (T := "list") (U := "int") (by decide) ⟨_,e,rfl⟩ (fun s'=>typeIs_int s' k t) noFill_list_mul F.fills_int_mul F.slot_int_rmul repeat_list F.slot_int_index.lookup
    (call_meets F.slot_int_rmul (typeIs_int s k t) F.entry_int_rmul (F.args_int_rmul_2 _ _) (int___rmul___int_list k t l its.toArray n)
      ⟨e,rfl,⟨_,e,rfl⟩,call_meets F.slot_list_mul ⟨_,e,rfl⟩ F.entry_list_mul (F.args_list_mul_2 _ _) (AutoListH.list___mul___list_int_3 l its.toArray n k t hfit hcap hlong) ⟨e,?_⟩⟩)
  rw [hnew]
  exact ⟨.ref _,_,I.lnew (t':=s.toks) (r.rep k.toNat) (by rw [len_rep,Nat.mul_comm]; exact hz),rfl,q _ I.fresh⟩
end
end L2
namespace Att
open PySem PySem.W PySem.Calls PyProof.Rows
theorem ints_of_wellAll {P:Params} {h:Heap}:∀ (ns:List Int) (vs:List Value),WellAll P h vs (ns.map WData.int)→IntsAre vs ns:=by
  intro ns
  induction ns with
  | nil =>
    intro vs w
    rw [List.map_nil] at w
    cases w
    exact .nil
  | cons n ns ih =>
    intro vs w
    rw [List.map_cons] at w
    cases w with
    | cons a b =>
      cases a
      exact .cons _ _ (ih _ b)
theorem script_of {l:OpenLaw} {n:Nat} (hn:l.most=some n) {P:Params} {h:Heap} {args:List WData} {vals:List Value}
    (hpre:l.row.toRowW.claim.pre args=true) (hwl:WellAll P h vals args) :
    ∃ a vs ns,vals=[Value.ref a]∧args=[WData.list (ns.map WData.int)]∧h.get? a=some { cls := .type "list",data := .seq vs.toArray }∧IntsAre vs ns∧ns.length ≤ n:=by
  have hsh:WShape.hasAll [] args [.list .int]=true:=(pre_splitW hpre).1
  have hc:l.pre.holds [] { args:=args }=true:=(pre_splitW hpre).2
  obtain ⟨d,r,rfl,h1,h2⟩:=hasAllW_cons hsh
  obtain rfl:=hasAllW_nil h2
  obtain ⟨xs,rfl,h3⟩:=hasW_list h1
  obtain ⟨ns,rfl⟩:=items_int h3
  have hlen:ns.length ≤ n:=by
    unfold OpenLaw.pre at hc
    have h4:(WTm.not (.lt (.lit (.int (n:Int))) (.len (.arg 0)))).holds [] { args:=[.list (ns.map .int)] }=true:=by
      have h4:=(holds_andW hc).1
      rw [hn] at h4
      exact h4
    have h5:=condW_of h4 (w_not (w_lt w_lit (w_len_list (w_arg rfl))))
    rw [List.length_map] at h5
    refine Nat.le_of_not_lt fun q=>?_
    have q':(n:Int) < ((ns.length:Nat):Int):=by omega
    first
      | (rw [decide_eq_true q'] at h5; exact absurd h5 (by decide))
      | (simp at h5; omega)
  cases hwl with
  | cons w1 w2 =>
    cases w2
    cases w1 with
    | list ho hall=>exact ⟨_,_,ns,rfl,rfl,ho,ints_of_wellAll ns _ hall,hlen⟩
theorem post_true (l:OpenLaw) (args:List WData):l.row.toRowW.claim.post args (.bool true) args=true :=
  postW_of (r:=l.row.toRowW) (X:=(true == true))
    (show WShape.has [] (.bool true) .bool=true by first | rfl | decide | simp [WShape.has,WShape.arms,WShape.armsAll])
    (show (WTm.eq .res (.lit (.bool true))).value [] { args:=args,res:=some (.bool true),after:=args }=some (.bool (true == true)) from w_eq_bool (w_res rfl) w_lit) rfl
end Att
namespace L2
open PySem PySem.Spec PyProof.Rows
theorem vals_ints:∀ {vs:List Value} {ns:List Int},IntsAre vs ns→Vals (ns.map V.int) vs
  | _,_, .nil => .nil
  | _,_, .cons n t h => .cons ⟨t,rfl⟩ (vals_ints h)
def defArgs (s:Stmt):Arguments:=match s with
  | .FunctionDef _ a _ _ _ _ _ _ _ _=>a
  | _=>{ posonlyargs:=[],args:=[],vararg:=none,kwonlyargs:=[],kw_defaults:=[],kwarg:=none,defaults:=[] }
def defBody (s:Stmt):List Stmt:=match s with
  | .FunctionDef _ _ b _ _ _ _ _ _ _=>b
  | _=>[]
def defScope (s:Stmt):Scope:=match s with
  | .FunctionDef _ _ _ _ _ _ sc _ _ _=>sc
  | _=>{ kind := .function,names:=[],isGenerator:=false,isCoroutine:=false }
abbrev CX0:CXT:=fun _ _ _ _ _ _=>False
abbrev E0:XK:=fun _ _ _=>False
theorem pass0 {X:Cx}:Passes CX0 X E0:=fun _ _ _ _ _ _ _ h=>h.elim
structure Fun (K:PySem.W.Frag) (x qual:Str) (st:Stmt) (f:Addr) (fd:FuncData):Prop where
  ex:∃ (oc:Value) (od:Option Addr) (kV doc pm:Value) (an:Option Addr) (cdv ct:Value) (osl:Array (Option Value)),
    fd=PySem.W.fnOf x qual (defArgs st) (defBody st) (defScope st) .none kV doc pm an cdv ct∧K.lookup f=some ⟨oc,od, .func fd,osl⟩∧PySem.W.codeIn K cdv qual=true
  kp:PySem.W.keepIn K (.ref f)=true
section
variable {P:Program} {w:World} {K:PySem.W.Frag} {mg:Str→Option Value} {base:BHeap}
theorem Fun.ok {x qual:Str} {st:Stmt} {f:Addr} {fd:FuncData} {N ps:List Str} {k:Nat} {sp:Sp} (F:Fun K x qual st f fd) (S:FnScope N ps (defScope st)) (len:∀ vs H Q E,sp vs H Q E→vs.length=ps.length)
    (hbody:∀ (cdv:Value) (A:Around) (outer:List Env) (s:Shared) (H:Hp) (vs:List V) (Q:VK) (E:XK),Room k (A.deeper (envOfC qual (defScope st) s.heap.objs.size f cdv))→sp vs H Q E →
      ∃ t,PSs (cxOf CX0 P w K mg base N qual (defScope st) f cdv A outer s H E).nox (defBody st) t∧t { nx:=fun _ H'=>Q .non H',rt:=Q } (start N vs) H):FnOk P w K mg base CX0 (k + 1) f fd ps sp:=by
  obtain ⟨oc,od,kV,doc,pm,an,cdv,ct,osl,rfl,lk,hcd⟩:=F.ex
  refine fn_of lk hcd S len fun A outer s H vs Q E hr hsp=>?_
  obtain ⟨t,h,q⟩:=hbody cdv A outer s H vs Q E hr hsp
  exact ⟨t,h.nox,q⟩
theorem Fun.binds {x qual:Str} {st:Stmt} {f:Addr} {fd:FuncData} {ps:List Str} (F:Fun K x qual st f fd)
    (h:∀ (kV doc pm:Value) (an:Option Addr) (cdv ct:Value) (us:List Value),us.length=ps.length→bindArgs (PySem.W.fnOf x qual (defArgs st) (defBody st) (defScope st) .none kV doc pm an cdv ct) ⟨us,[]⟩=pure (ps.zip us)):Binds K fd ps []:=by
  obtain ⟨oc,od,kV,doc,pm,an,cdv,ct,osl,rfl,lk,hcd⟩:=F.ex
  exact .all (h kV doc pm an cdv ct)
theorem fun_mk {x qual:Str} {st:Stmt} {f:Addr} {oc:Value} {od an:Option Addr} {osl:Array (Option Value)} {kV doc pm cdv ct:Value} (l:K.lookup f=some ⟨oc,od, .func (PySem.W.fnOf x qual (defArgs st) (defBody st) (defScope st) .none kV doc pm an cdv ct),osl⟩)
    (c:PySem.W.codeIn K cdv qual=true) (k:PySem.W.keepIn K (.ref f)=true):Fun K x qual st f (PySem.W.fnOf x qual (defArgs st) (defBody st) (defScope st) .none kV doc pm an cdv ct):=⟨⟨oc,od,kV,doc,pm,an,cdv,ct,osl,rfl,l,c⟩,k⟩
end
theorem iteF {A B:Prop} (h:B):if false=true then A else B:=by
  rw [if_neg Bool.false_ne_true]
  exact h
theorem iteT {A B:Prop} (h:A):if true=true then A else B:=by
  rw [if_pos rfl]
  exact h
def Same (H H':Hp):Prop := ∀ b o,H b=some o→H' b=some o
theorem Same.refl (H:Hp):Same H H:=fun _ _ h=>h
theorem Same.trans {H H1 H2:Hp} (a:Same H H1) (b:Same H1 H2):Same H H2:=fun c o h=>b c o (a c o h)
theorem Same.free {H H':Hp} (e:Same H H') {l:Addr} (h:H' l=Option.none):H l=Option.none:=by
  cases q:H l with
  | none=>rfl
  | some o =>
    rw [e l o q] at h
    cases h
theorem Same.seq {K:PySem.W.Frag} {H H':Hp} {a:Addr} {xs:List V} (e:Same H H') (h:SqL K H a xs):SqL K H' a xs:=by
  rcases h with (h | ⟨o,h⟩) | h
  · exact .inl (.inl (e _ _ h))
  · exact .inl (.inr ⟨o,e _ _ h⟩)
  · exact .inr h
end L2
set_option maxHeartbeats 4000000
namespace L2
open PySem PySem.Spec PyProof.Rows
section
variable {κ:Type} [DecidableEq κ]
def valV (kvs:List (κ × V)) (k:κ):Option V:=(kvs.find? fun kv=>decide (kv.1=k)).map (·.2)
def putK (kvs:List (κ × V)) (k:κ) (v:V):List (κ × V) :=
  if (kvs.any fun kv=>decide (kv.1=k))=true then kvs.map (fun kv=>if kv.1=k then (kv.1,v) else kv) else kvs ++ [(k,v)]
def dropK (kvs:List (κ × V)) (k:κ):List (κ × V):=kvs.filter fun kv=>decide (kv.1 ≠ k)
theorem valV_pos {p:κ × V} {r:List (κ × V)} {k:κ} (e:p.1=k):valV (p :: r) k=some p.2:=by simp [valV,List.find?_cons,e]
theorem valV_neg {p:κ × V} {r:List (κ × V)} {k:κ} (e : ¬ p.1=k):valV (p :: r) k=valV r k:=by simp [valV,List.find?_cons,e]
theorem valV_any (k:κ):∀ kvs:List (κ × V),(kvs.any fun kv=>decide (kv.1=k))=(valV kvs k).isSome
  | []=>rfl
  | p :: r=>by
    rw [List.any_cons]
    by_cases e:p.1=k
    · simp only [valV_pos e,decide_eq_true e,Bool.true_or,Option.isSome_some]
    · rw [valV_neg e,decide_eq_false e,Bool.false_or]; exact valV_any k r
theorem length_putK (kvs:List (κ × V)) (k:κ) (v:V):(putK kvs k v).length ≤ kvs.length + 1:=by
  unfold putK
  split
  · rw [List.length_map]; omega
  · rw [List.length_append,List.length_cons,List.length_nil]; omega
theorem RelO.isSome_eq {o:Option V} {u:Option Value} (r:RelO o u):o.isSome=u.isSome:=by
  cases o with
  | none=>cases u with
    | none=>rfl
    | some _=>exact (show False from r).elim
  | some _=>cases u with
    | none=>exact (show False from r).elim
    | some _=>rfl
theorem RelO.getD {o:Option V} {u:Option Value} {d:V} {d':Value} (r:RelO o u) (rd:RelV d d'):RelV (o.getD d) (u.getD d'):=by
  cases o with
  | none=>cases u with
    | none=>exact rd
    | some _=>exact (show False from r).elim
  | some _=>cases u with
    | none=>exact (show False from r).elim
    | some _=>exact r
theorem KV.val {kvs:List (κ × V)} {vs:List (κ × Value)} (r:KV kvs vs) (k:κ):RelO (valV kvs k) (valueAt vs k):=by
  unfold KV at r
  induction r with
  | nil=>exact True.intro
  | @cons p q ps qs h t ih =>
    obtain ⟨h1,h2⟩:=h
    by_cases e:p.1=k
    · have e':q.1=k:=h1.symm.trans e
      have b:valueAt (q :: qs) k=some q.2:=by simp [valueAt,List.find?_cons,e']
      rw [valV_pos e,b]; exact h2
    · have e' : ¬ q.1=k:=fun z=>e (h1.trans z)
      have b:valueAt (q :: qs) k=valueAt qs k:=by simp [valueAt,List.find?_cons,e']
      rw [valV_neg e,b]; exact ih
theorem KV.any {kvs:List (κ × V)} {vs:List (κ × Value)} (r:KV kvs vs) (k:κ):(kvs.any fun kv=>decide (kv.1=k))=vs.any fun kv=>decide (kv.1=k):=by
  unfold KV at r
  induction r with
  | nil=>rfl
  | cons h t ih=>rw [List.any_cons,List.any_cons,ih,h.1]
theorem KV.repl {kvs:List (κ × V)} {vs:List (κ × Value)} (r:KV kvs vs) (k:κ) {y:V} {u:Value} (ry:RelV y u) :
    KV (kvs.map fun kv=>if kv.1=k then (kv.1,y) else kv) (vs.map fun kv=>if kv.1=k then (kv.1,u) else kv):=by
  unfold KV at r ⊢
  induction r with
  | nil=>exact .nil
  | @cons p q ps qs h t ih =>
    rw [List.map_cons,List.map_cons]
    refine .cons ?_ ih
    obtain ⟨h1,h2⟩:=h
    by_cases e:p.1=k
    · rw [if_pos e,if_pos (h1.symm.trans e)]; exact ⟨h1,ry⟩
    · rw [if_neg e,if_neg (fun z=>e (h1.trans z))]; exact ⟨h1,h2⟩
theorem KV.put {kvs:List (κ × V)} {vs:List (κ × Value)} (r:KV kvs vs) (k:κ) {y:V} {u:Value} (ry:RelV y u):KV (putK kvs k y) (stored vs k u):=by
  unfold putK stored
  rw [r.any k]
  by_cases e:(vs.any fun kv=>decide (kv.1=k))=true
  · rw [if_pos e,if_pos e]; exact r.repl k ry
  · rw [if_neg e,if_neg e]; exact Paired.snoc r ⟨rfl,ry⟩
theorem KV.drop {kvs:List (κ × V)} {vs:List (κ × Value)} (r:KV kvs vs) (k:κ):KV (dropK kvs k) (without vs k):=by
  unfold KV at r ⊢
  unfold dropK without
  induction r with
  | nil=>exact .nil
  | @cons p q ps qs h t ih =>
    obtain ⟨h1,h2⟩:=h
    rw [List.filter_cons,List.filter_cons]
    by_cases e:p.1=k
    · have a : ¬ decide (p.1 ≠ k)=true:=by simp [e]
      have b : ¬ decide (q.1 ≠ k)=true:=by simp [h1.symm.trans e]
      rw [if_neg a,if_neg b]; exact ih
    · have e' : ¬ q.1=k:=fun z=>e (h1.trans z)
      have a:decide (p.1 ≠ k)=true:=by simp [e]
      have b:decide (q.1 ≠ k)=true:=by simp [e']
      rw [if_pos a,if_pos b]; exact .cons ⟨h1,h2⟩ ih
theorem KV.length {kvs:List (κ × V)} {vs:List (κ × Value)} (r:KV kvs vs):kvs.length=vs.length:=Paired.length r
end
theorem kV_is {P:Program} {w:World} {k:Key} {u:Value} (r:RelV (kV k) u):(mixKind P w).is k u=true:=by
  cases k with
  | inl i=>obtain ⟨t,e⟩:=(show ∃ t,u=Value.int i t from r); subst e; exact mixKind_int P w i t
  | inr x=>obtain ⟨t,e⟩:=(show ∃ t,u=Value.str x t from r); subst e; exact mixKind_str P w x t
theorem items_are {P:Program} {w:World}:∀ {ks:List Key} {us:List Value},Vals (ks.map kV) us→ItemsAre (mixKind P w) ks us
  | [],_,r=>by rw [List.map_nil] at r; cases r; exact .nil
  | k :: ks,_,r=>by
    rw [List.map_cons] at r
    cases r with
    | cons h t=>exact .cons (kV_is h) (items_are t)
abbrev KT (H:Hp):List (List Key × V)→List (List Key × Addr × Value)→Prop:=Paired fun p q=>p.1=q.1∧H q.2.1=some (.tup (p.1.map kV))∧RelV p.2 q.2.2
theorem KT.val {H:Hp} {kvs:List (List Key × V)} {xs:List (List Key × Addr × Value)} (r:KT H kvs xs) (k:List Key):RelO (valV kvs k) ((atKey xs k).map (·.2)):=by
  induction r with
  | nil=>exact True.intro
  | @cons p q ps qs h t ih =>
    obtain ⟨h1,_,h2⟩:=h
    by_cases e:p.1=k
    · have e':q.1=k:=h1.symm.trans e
      have b:atKey (q :: qs) k=some q.2:=by simp [atKey,List.find?_cons,e']
      rw [valV_pos e,b]; exact h2
    · have e' : ¬ q.1=k:=fun z=>e (h1.trans z)
      have b:atKey (q :: qs) k=atKey qs k:=by simp [atKey,List.find?_cons,e']
      rw [valV_neg e,b]; exact ih
theorem KT.repl {H:Hp} {kvs:List (List Key × V)} {xs:List (List Key × Addr × Value)} (r:KT H kvs xs) (k:List Key) {y:V} {u:Value} (ry:RelV y u) :
    KT H (kvs.map fun kv=>if kv.1=k then (kv.1,y) else kv) (xs.map (putAt k u)):=by
  induction r with
  | nil=>exact .nil
  | @cons p q ps qs h t ih =>
    rw [List.map_cons,List.map_cons]
    refine .cons ?_ ih
    obtain ⟨h1,h2,h3⟩:=h
    unfold putAt
    by_cases e:p.1=k
    · rw [if_pos e,if_pos (h1.symm.trans e)]; exact ⟨h1,h2,ry⟩
    · rw [if_neg e,if_neg (fun z=>e (h1.trans z))]; exact ⟨h1,h2,h3⟩
theorem KT.put {H:Hp} {kvs:List (List Key × V)} {xs:List (List Key × Addr × Value)} (r:KT H kvs xs) (k:List Key) {b:Addr} {y:V} {u:Value} (hb:H b=some (.tup (k.map kV))) (ry:RelV y u) :
    KT H (putK kvs k y) (storedH xs k b u):=by
  have e:(kvs.any fun kv=>decide (kv.1=k))=(atKey xs k).isSome:=by
    rw [valV_any,(r.val k).isSome_eq,Option.isSome_map]
  unfold putK storedH
  rw [e]
  by_cases q:(atKey xs k).isSome=true
  · rw [if_pos q,if_pos q]; exact r.repl k ry
  · rw [if_neg q,if_neg q]; exact Paired.snoc r ⟨rfl,hb,ry⟩
theorem KT.keeps {H H':Hp} {kvs:List (List Key × V)} {xs:List (List Key × Addr × Value)} (r:KT H kvs xs) (ht:∀ b ys,H b=some (.tup ys)→H' b=some (.tup ys)):KT H' kvs xs :=
  Paired.mapP r fun _ _ z=>⟨z.1,ht _ _ z.2.1,z.2.2⟩
section
variable {P:Program} {w:World} {H:Hp} {h:Heap} {a:Addr}
theorem rd_of {u:HO} (ok:HOk P w H h) (e:Rd H a u):ObjOk P w H h a u:=e.ok ok
theorem dk_rd {kvs:List (Key × V)} (ok:HOk P w H h) (e:Rd H a (.dK kvs)):kvs.length ≤ sizeLine∧(a == sysModules)=false∧∃ vs,KV kvs vs∧h.DictOf (mixKind P w) a vs :=
  show ObjOk P w H h a (.dK kvs) from rd_of ok e
theorem dk_of {kvs:List (Key × V)} (ok:HOk P w H h) (e:H a=some (.dK kvs)):kvs.length ≤ sizeLine∧(a == sysModules)=false∧∃ vs,KV kvs vs∧h.DictOf (mixKind P w) a vs:=dk_rd ok (.inl e)
theorem key_of {ks:List Key} (ok:HOk P w H h) (e:H a=some (.tup (ks.map kV))):(tupleKind (mixKind P w)).is h ks a:=by
  obtain ⟨_,its,r,o,h1,h2,n,h3⟩:=(show ObjOk P w H h a (.tup (ks.map kV)) from ok a _ e)
  exact ⟨o,its.toArray,n,h1,h2,h3,by simpa using items_are r⟩
theorem dt_rd {kvs:List (List Key × V)} (ok:HOk P w H h) (e:Rd H a (.dT kvs)):kvs.length ≤ sizeLine∧(a == sysModules)=false ∧
    ∃ xs,KT H kvs xs∧h.DictOfH (tupleKind (mixKind P w)) a xs:=by
  obtain ⟨z,y,xs,r,o,es,ep,h1,h2,h3,h4,h5⟩:=(show ObjOk P w H h a (.dT kvs) from rd_of ok e)
  refine ⟨z,y,xs,r,o,es,ep,h1,h2,h3,h4,fun x hx=>?_,h5⟩
  have all:∀ {l:List (List Key × V)} {m:List (List Key × Addr × Value)},KT H l m→∀ x ∈ m,(tupleKind (mixKind P w)).is h x.1 x.2.1:=by
    intro l m q
    induction q with
    | nil=>intro x hx; exact nomatch hx
    | @cons p q ps qs hq t ih =>
      intro x hx
      rcases List.mem_cons.mp hx with e | hx
      · subst e
        exact key_of ok (by rw [← hq.1]; exact hq.2.1)
      · exact ih x hx
  exact all r x hx
theorem dt_of {kvs:List (List Key × V)} (ok:HOk P w H h) (e:H a=some (.dT kvs)):kvs.length ≤ sizeLine∧(a == sysModules)=false ∧
    ∃ xs,KT H kvs xs∧h.DictOfH (tupleKind (mixKind P w)) a xs:=dt_rd ok (.inl e)
end
def DPut (H:Hp) (a:Addr) (y v:V) (H':Hp):Prop :=
  (∃ kvs k,H a=some (.dK kvs)∧y=kV k∧kvs.length < sizeLine∧H'=upd H a (.dK (putK kvs k v))) ∨
  ∃ kvs k b,H a=some (.dT kvs)∧y = .ref b∧H b=some (.tup (k.map kV))∧kvs.length < sizeLine∧H'=upd H a (.dT (putK kvs k v))
theorem DPut.t {H:Hp} {a b:Addr} {kvs:List (List Key × V)} {k:List Key} {v:V} (e:H a=some (.dT kvs)) (eb:H b=some (.tup (k.map kV))) (hl:kvs.length < sizeLine) :
    DPut H a (.ref b) v (upd H a (.dT (putK kvs k v))) := .inr ⟨kvs,k,b,e,rfl,eb,hl,rfl⟩
section
variable {X:Cx} {pins:List (Addr × Obj)} {σ:St} {H:Hp} {s:Shared} {a:Addr} {y v:V} {u r:Value} {o:Option V} {A:Around} {E:Value→Shared→Prop}
theorem Inv.big (I:Inv X pins σ H s):sysModules < s.heap.objs.size:=by
  have h:mainGlobals < s.heap.objs.size:=(I.mod.glob.keeps I.bk).lt
  exact Nat.lt_trans (by decide) h
theorem d_write {h':Heap} {t':Nat} {ob:HO} (I:Inv X pins σ H s) (mu:Mut (H a)) (hs:Heap.SameBut a s.heap h') (he:∃ q,h'.get? a=some q) (new:ObjOk X.prog X.w (upd H a ob) h' a ob) :
    Inv X pins σ (upd H a ob) { s with heap:=h',toks:=t' } :=
  I.write (x:=a) (e:=a) mu (.inl rfl) (fun b q hb z=>(hs.2 b hb).trans z) he new
theorem dk_new {P:Program} {w:World} {H':Hp} {h':Heap} {kvs:List (Key × V)} {vs:List (Key × Value)} (z:kvs.length ≤ sizeLine) (hd:(a == sysModules)=false) (rel:KV kvs vs) (dd:h'.DictOf (mixKind P w) a vs) :
    ObjOk P w H' h' a (.dK kvs):=⟨z,hd,vs,rel,dd⟩
theorem d_setItem {H':Hp} {Q:Unit→Shared→Prop} (hu:A.units + 1 < cLine) (I:Inv X pins σ H s) (g:DPut H a y v H') (ry:RelV y u) (rv:RelV v r) (h:∀ s',Inv X pins σ H' s'→Q () s') :
    wpAny (model X.prog X.w) A (setItem (.ref a) u r) Q E s:=by
  rcases g with ⟨kvs,k,e,ey,l,eH⟩ | ⟨kvs,k,b,e,ey,eb,l,eH⟩
  · subst ey eH
    obtain ⟨z,hd,vs,rel,dd⟩:=dk_of I.hok e
    have hz:vs.length ≤ sizeLine:=by rw [← rel.length]; exact z
    have hl:(putK kvs k v).length ≤ sizeLine:=by have:=length_putK kvs k v; omega
    refine wpAny_setItem_pairs (hsz:=hz) (kV_is ry) dd fun h' dd' hs=>h _ ?_
    have he:∃ q,h'.get? a=some q:=let ⟨q,_,_,hq,_⟩:=dd'; ⟨q,hq⟩
    exact d_write I (by rw [e]; exact True.intro) hs he (dk_new hl hd (rel.put k rv) dd')
  · subst ey eH
    cases (show u=Value.ref b from ry)
    obtain ⟨z,hd,xs,rel,dd⟩:=dt_of I.hok e
    have hz:xs.length ≤ sizeLine:=by rw [← Paired.length rel]; exact z
    have hl:(putK kvs k v).length ≤ sizeLine:=by have:=length_putK kvs k v; omega
    refine wpAny_setItem_heap (hsz:=hz) (tupleKind_room_in1 hu) (key_of I.hok eb) dd fun h' dd' hs=>h _ ?_
    obtain ⟨q,es,ep,hq,h2,h3,h4,_,h5⟩:=dd'
    refine d_write I (by rw [e]; exact True.intro) hs ⟨q,hq⟩ ⟨hl,hd,_,(rel.put k eb rv).keeps fun c ys ec=>?_,q,es,ep,hq,h2,h3,h4,h5⟩
    rw [upd_ne (ne_of ec e (fun z=>nomatch z))]
    exact ec
end
def sDPut (td ty tv:TE):TS:=fun D σ H=>tv σ H fun v H1=>td σ H1 fun x H2=>ty σ H2 fun y H3 => ∃ a H4,x = .ref a∧DPut H3 a y v H4∧D.nx σ H4
section
variable {X:Cx} {o i e value:Expr} {pos pos' tpos:Pos} {td ty tv:TE}
theorem ps_dput (hu:X.A.units + 1 < cLine) (ho:PE X o td) (hi:PE X i ty) (hv:PE X value tv) (hs:swapsWith value (some (.Subscript o i pos')) pos.line X.env=pure false) :
    PS X (.Assign [.Subscript o i pos'] value pos) (sDPut td ty tv):=by
  intro pins s σ H D I h
  refine wpAny_Assign_Subscript (thn (hv pins s σ H _ I h) fun r s1 ⟨v,H1,I1,rv,q1⟩=>thn (ho pins s1 σ H1 _ I1 q1) fun u s2 ⟨x,H2,I2,rx,q2⟩=>thn (hi pins s2 σ H2 _ I2 q2) fun iv s3 ⟨y,H3,I3,ry,a,H4,ex,g,q3⟩=>?_) hs
  subst ex
  obtain rfl:u=Value.ref a:=rx
  exact d_setItem hu I3 g ry rv fun s4 I4=>⟨σ,H4,I4,q3⟩
end
theorem dt_empty {P:Program} {w:World} {H:Hp} (h:Heap) (hb:sysModules < h.objs.size):ObjOk P w H (h.push { cls := .type "dict",data := .dict #[] }) h.objs.size (.dT []) :=
  ⟨Nat.zero_le _,beq_eq_false_iff_ne.mpr (Ne.symm (Nat.ne_of_lt hb)),[], .nil,_, #[],0,Heap.get?_push_size _ rfl,⟨rfl,rfl,rfl⟩,rfl,rfl,List.nodup_nil⟩
def tDNewT:TE:=fun _ H Q => ∀ p,H p=none→Q (.ref p) (upd H p (.dT []))
section
variable {X:Cx} {pos:Pos}
theorem pe_dnewT:PE X (.Dict [] [] pos) tDNewT:=fun pins s σ H Q I h =>
  wpAny_Dict_empty ⟨.ref s.heap.objs.size,_,I.laid (a:=s.heap.objs.size) (o := .dT []) (t':=s.toks) (fun _ _ q=>Heap.get?_push_of_some _ q) (Nat.le_refl _) (dt_empty s.heap I.big),rfl,h _ (I.hok.fresh (Nat.le_refl _))⟩
end
structure M1 (X:Cx) (o:Expr) (m:Str) (apos:Pos) (e:Expr) (cpos:Pos):Prop where
  base:attributeBase o m X.env (eval o X.env)=eval o X.env
  few:((backTo cpos (starEach [e] X.env)).all (fun x => !x.1) && (backToKw cpos (keywordEach [] X.env)).all (fun x=>x.1.isSome)
    && decide (([e]:List Expr).length + ([]:List Keyword).length + (if ([]:List Keyword).isEmpty then 0 else 1) < 30))=true
  line:(apos.endLine == cpos.line)=true
  trees:backTo cpos (starEach [e] X.env)=[(false,eval e X.env)]
structure M2 (X:Cx) (o:Expr) (m:Str) (apos:Pos) (e f:Expr) (cpos:Pos):Prop where
  base:attributeBase o m X.env (eval o X.env)=eval o X.env
  few:((backTo cpos (starEach [e,f] X.env)).all (fun x => !x.1) && (backToKw cpos (keywordEach [] X.env)).all (fun x=>x.1.isSome)
    && decide (([e,f]:List Expr).length + ([]:List Keyword).length + (if ([]:List Keyword).isEmpty then 0 else 1) < 30))=true
  line:(apos.endLine == cpos.line)=true
  trees:backTo cpos (starEach [e,f] X.env)=[(false,eval e X.env),(false,eval f X.env)]
end L2
namespace DL
open PySem PySem.Spec PyProof.Rows L2
inductive D where
  | non | bl (b:Bool) | int (i:Int) | str (x:Str) | tup (xs:List D) | lst (xs:List D) | dct (ks:List Key) (ds:List D) | pdc (ps:List (Int × Int))
def mkKV (ks:List Key) (vs:List V):List (Key × V):=ks.zip vs
def pkv (ps:List (Int × Int)):List (List Key × V):=ps.map fun q=>([Sum.inl q.1,Sum.inl q.2],V.bl true)
mutual
inductive Rep (K:PySem.W.Frag) (H:Hp):D→V→Prop
  | non:Rep K H .non .non
  | bl (b:Bool):Rep K H (.bl b) (.bl b)
  | int (i:Int):Rep K H (.int i) (.int i)
  | str (x:Str):Rep K H (.str x) (.str x)
  | tup {ds:List D} {p:Addr} {vs:List V}:SqT K H p vs→Reps K H ds vs→Rep K H (.tup ds) (.ref p)
  | lst {ds:List D} {p:Addr} {vs:List V}:SqL K H p vs→Reps K H ds vs→Rep K H (.lst ds) (.ref p)
  | dct {ks:List Key} {ds:List D} {p:Addr} {vs:List V}:ks.length=vs.length→H p=some (.dK (mkKV ks vs))→Reps K H ds vs→Rep K H (.dct ks ds) (.ref p)
  | pdc {ps:List (Int × Int)} {p:Addr}:H p=some (.dT (pkv ps))→Rep K H (.pdc ps) (.ref p)
inductive Reps (K:PySem.W.Frag) (H:Hp):List D→List V→Prop
  | nil:Reps K H [] []
  | cons {d:D} {v:V} {ds:List D} {vs:List V}:Rep K H d v→Reps K H ds vs→Reps K H (d :: ds) (v :: vs)
end
theorem SqL.mono {K:PySem.W.Frag} {H H':Hp} {a:Addr} {xs:List V} (e:Same H H') (h:SqL K H a xs):SqL K H' a xs:=e.seq h
theorem SqT.mono {K:PySem.W.Frag} {H H':Hp} {a:Addr} {xs:List V} (e:Same H H') (h:SqT K H a xs):SqT K H' a xs:=by
  rcases h with (h | ⟨o,h⟩) | h
  · exact .inl (.inl (e _ _ h))
  · exact .inl (.inr ⟨o,e _ _ h⟩)
  · exact .inr h
mutual
theorem Rep.mono {K:PySem.W.Frag} {H H':Hp} (e:Same H H'):∀ {d:D} {v:V},Rep K H d v→Rep K H' d v
  | _,_, .non => .non
  | _,_, .bl b => .bl b
  | _,_, .int i => .int i
  | _,_, .str x => .str x
  | _,_, .tup h r => .tup (SqT.mono e h) (Reps.mono e r)
  | _,_, .lst h r => .lst (SqL.mono e h) (Reps.mono e r)
  | _,_, .dct l h r => .dct l (e _ _ h) (Reps.mono e r)
  | _,_, .pdc h => .pdc (e _ _ h)
theorem Reps.mono {K:PySem.W.Frag} {H H':Hp} (e:Same H H'):∀ {ds:List D} {vs:List V},Reps K H ds vs→Reps K H' ds vs
  | _,_, .nil => .nil
  | _,_, .cons h r => .cons (Rep.mono e h) (Reps.mono e r)
end
theorem Reps.length {K:PySem.W.Frag} {H:Hp}:∀ {ds:List D} {vs:List V},Reps K H ds vs→vs.length=ds.length
  | _,_, .nil=>rfl
  | _,_, .cons _ r=>by simp [Reps.length r]
theorem Reps.get {K:PySem.W.Frag} {H:Hp}:∀ {ds:List D} {vs:List V},Reps K H ds vs→∀ {i:Nat} {d:D},ds[i]?=some d→∃ v,vs[i]?=some v∧Rep K H d v
  | _,_, .nil,i,d,e=>by simp at e
  | _,_, .cons (v:=v) h r,0,d,e=>by simp at e; subst e; exact ⟨v,rfl,h⟩
  | _,_, .cons h r,i + 1,d,e=>by
    obtain ⟨v,a,b⟩:=Reps.get r (i:=i) (d:=d) (by simpa using e)
    exact ⟨v,by simpa using a,b⟩
theorem Reps.getV {K:PySem.W.Frag} {H:Hp}:∀ {ds:List D} {vs:List V},Reps K H ds vs→∀ {i:Nat} {v:V},vs[i]?=some v→∃ d,ds[i]?=some d∧Rep K H d v
  | _,_, .nil,i,d,e=>by simp at e
  | _,_, .cons (d:=d) h r,0,v,e=>by simp at e; subst e; exact ⟨d,rfl,h⟩
  | _,_, .cons h r,i + 1,v,e=>by
    obtain ⟨d,a,b⟩:=Reps.getV r (i:=i) (v:=v) (by simpa using e)
    exact ⟨d,by simpa using a,b⟩
theorem Reps.app {K:PySem.W.Frag} {H:Hp}:∀ {ds:List D} {vs:List V} {es:List D} {us:List V},Reps K H ds vs→Reps K H es us→Reps K H (ds ++ es) (vs ++ us)
  | _,_,_,_, .nil,r=>r
  | _,_,_,_, .cons h r,q => .cons h (Reps.app r q)
theorem Reps.take {K:PySem.W.Frag} {H:Hp}:∀ {ds:List D} {vs:List V} (n:Nat),Reps K H ds vs→Reps K H (ds.take n) (vs.take n)
  | _,_,0,_=>by simp; exact .nil
  | _,_,n + 1, .nil=>by simp; exact .nil
  | _,_,n + 1, .cons h r=>by simpa using .cons h (Reps.take n r)
theorem Reps.drop {K:PySem.W.Frag} {H:Hp}:∀ {ds:List D} {vs:List V} (n:Nat),Reps K H ds vs→Reps K H (ds.drop n) (vs.drop n)
  | _,_,0,r=>by simpa using r
  | _,_,n + 1, .nil=>by simp; exact .nil
  | _,_,n + 1, .cons h r=>by simpa using Reps.drop n r
theorem Reps.one {K:PySem.W.Frag} {H:Hp} {d:D} {v:V} (h:Rep K H d v):Reps K H [d] [v] := .cons h .nil
theorem Reps.ints {K:PySem.W.Frag} {H:Hp}:∀ ns:List Int,Reps K H (ns.map D.int) (ns.map V.int)
  | [] => .nil
  | n :: ns => .cons (.int n) (Reps.ints ns)
mutual
def flat:D→Bool
  | .lst _=>false
  | .dct _ _=>false
  | .pdc _=>false
  | .tup xs=>flats xs
  | _=>true
def flats:List D→Bool
  | []=>true
  | d :: ds=>flat d && flats ds
end
def hide (P:List Addr) (H:Hp):Hp:=fun a=>if a ∈ P then none else H a
theorem hide_sub (P:List Addr) (H:Hp):Same (hide P H) H:=fun b o e=>by
  unfold hide at e
  split at e
  · cases e
  · exact e
theorem hide_get {P:List Addr} {H:Hp} {a:Addr} {o:HO} (h:H a=some o) (n:a ∉ P):hide P H a=some o:=by
  unfold hide; rw [if_neg n]; exact h
theorem of_hide {P:List Addr} {H:Hp} {a:Addr} {o:HO} (h:hide P H a=some o):a ∉ P∧H a=some o:=by
  unfold hide at h
  split at h
  · cases h
  · exact ⟨by assumption,h⟩
theorem hide_nil (H:Hp):hide [] H=H:=by funext a; simp [hide]
theorem hide_less {P P':List Addr} (H:Hp) (h:∀ a ∈ P',a ∈ P):Same (hide P H) (hide P' H):=fun b o e=>by
  obtain ⟨n,e⟩:=of_hide e
  exact hide_get e fun z=>n (h b z)
def mutO:HO→Bool
  | .lst _=>true
  | .dK _=>true
  | .dT _=>true
  | _=>false
abbrev MO:={o:HO // mutO o=true}
def mL (vs:List V):MO:=⟨.lst vs,rfl⟩
def mD (kvs:List (Key × V)):MO:=⟨.dK kvs,rfl⟩
def mT (kvs:List (List Key × V)):MO:=⟨.dT kvs,rfl⟩
def Lists (H:Hp) (P:List Addr):Prop := ∀ p ∈ P, ∃ o:MO,H p=some o.1
theorem Lists.mono {H H':Hp} {P:List Addr} (h:Lists H P) (e:Same H H'):Lists H' P:=fun p hp=>let ⟨vs,q⟩:=h p hp; ⟨vs,e _ _ q⟩
theorem SqT.hid {K:PySem.W.Frag} {H:Hp} {P:List Addr} {a:Addr} {xs:List V} (m:Lists H P) (h:SqT K H a xs):SqT K (hide P H) a xs:=by
  rcases h with (h | ⟨o,h⟩) | h
  · exact .inl (.inl (hide_get h fun z=>by obtain ⟨⟨vs,w⟩,q⟩:=m _ z; rw [q] at h; cases h; cases w))
  · exact .inl (.inr ⟨o,hide_get h fun z=>by obtain ⟨⟨vs,w⟩,q⟩:=m _ z; rw [q] at h; cases h; cases w⟩)
  · exact .inr h
mutual
theorem Rep.hid {K:PySem.W.Frag} {H:Hp} {P:List Addr} (m:Lists H P):∀ {d:D} {v:V},flat d=true→Rep K H d v→Rep K (hide P H) d v
  | _,_,_, .non => .non
  | _,_,_, .bl b => .bl b
  | _,_,_, .int i => .int i
  | _,_,_, .str x => .str x
  | _,_,f, .tup h r => .tup (SqT.hid m h) (Reps.hid m (by simpa [flat] using f) r)
  | _,_,f, .lst h r=>by simp [flat] at f
  | _,_,f, .dct _ h r=>by simp [flat] at f
  | _,_,f, .pdc h=>by simp [flat] at f
theorem Reps.hid {K:PySem.W.Frag} {H:Hp} {P:List Addr} (m:Lists H P):∀ {ds:List D} {vs:List V},flats ds=true→Reps K H ds vs→Reps K (hide P H) ds vs
  | _,_,_, .nil => .nil
  | _,_,f, .cons h r=>by
    simp [flats] at f
    exact .cons (Rep.hid m f.1 h) (Reps.hid m f.2 r)
end
mutual
inductive RepD (K:PySem.W.Frag) (H0 H:Hp):D→V→List Addr→Prop
  | flat {d:D} {v:V}:flat d=true→Rep K H0 d v→RepD K H0 H d v []
  | tup {ds:List D} {p:Addr} {vs:List V} {B:List Addr}:SqT K H0 p vs→RepDs K H0 H ds vs B→RepD K H0 H (.tup ds) (.ref p) B
  | lst {ds:List D} {p:Addr} {vs:List V} {B:List Addr}:H p=some (.lst vs)→RepDs K H0 H ds vs B→RepD K H0 H (.lst ds) (.ref p) (p :: B)
  | dct {ks:List Key} {ds:List D} {p:Addr} {vs:List V} {B:List Addr}:ks.length=vs.length→H p=some (.dK (mkKV ks vs))→RepDs K H0 H ds vs B→RepD K H0 H (.dct ks ds) (.ref p) (p :: B)
  | pdc {ps:List (Int × Int)} {p:Addr}:H p=some (.dT (pkv ps))→RepD K H0 H (.pdc ps) (.ref p) [p]
inductive RepDs (K:PySem.W.Frag) (H0 H:Hp):List D→List V→List Addr→Prop
  | nil:RepDs K H0 H [] [] []
  | cons {d:D} {v:V} {ds:List D} {vs:List V} {B C:List Addr}:RepD K H0 H d v B→RepDs K H0 H ds vs C→RepDs K H0 H (d :: ds) (v :: vs) (B ++ C)
end
mutual
theorem RepD.mono {K:PySem.W.Frag} {H0 H H0' H':Hp} (e:Same H0 H0'):∀ {d:D} {v:V} {B:List Addr},RepD K H0 H d v B→(∀ p ∈ B, ∀ o,H p=some o→H' p=some o)→RepD K H0' H' d v B
  | _,_,_, .flat f r,_ => .flat f (Rep.mono e r)
  | _,_,_, .tup h r,k => .tup (SqT.mono e h) (RepDs.mono e r k)
  | _,_,_, .lst h r,k => .lst (k _ (List.mem_cons_self ..) _ h) (RepDs.mono e r fun p hp=>k p (List.mem_cons_of_mem _ hp))
  | _,_,_, .dct l h r,k => .dct l (k _ (List.mem_cons_self ..) _ h) (RepDs.mono e r fun p hp=>k p (List.mem_cons_of_mem _ hp))
  | _,_,_, .pdc h,k => .pdc (k _ (List.mem_cons_self ..) _ h)
theorem RepDs.mono {K:PySem.W.Frag} {H0 H H0' H':Hp} (e:Same H0 H0'):∀ {ds:List D} {vs:List V} {B:List Addr},RepDs K H0 H ds vs B→(∀ p ∈ B, ∀ o,H p=some o→H' p=some o)→RepDs K H0' H' ds vs B
  | _,_,_, .nil,_ => .nil
  | _,_,_, .cons h r,k => .cons (RepD.mono e h fun p hp=>k p (List.mem_append_left _ hp)) (RepDs.mono e r fun p hp=>k p (List.mem_append_right _ hp))
end
mutual
theorem RepD.rep {K:PySem.W.Frag} {H0 H H1:Hp} (e:Same H0 H1):∀ {d:D} {v:V} {B:List Addr},RepD K H0 H d v B→(∀ p ∈ B, ∀ o,H p=some o→H1 p=some o)→Rep K H1 d v
  | _,_,_, .flat f r,_=>Rep.mono e r
  | _,_,_, .tup h r,k => .tup (SqT.mono e h) (RepDs.rep e r k)
  | _,_,_, .lst h r,k => .lst (SqL.of (k _ (List.mem_cons_self ..) _ h)) (RepDs.rep e r fun p hp=>k p (List.mem_cons_of_mem _ hp))
  | _,_,_, .dct l h r,k => .dct l (k _ (List.mem_cons_self ..) _ h) (RepDs.rep e r fun p hp=>k p (List.mem_cons_of_mem _ hp))
  | _,_,_, .pdc h,k => .pdc (k _ (List.mem_cons_self ..) _ h)
theorem RepDs.rep {K:PySem.W.Frag} {H0 H H1:Hp} (e:Same H0 H1):∀ {ds:List D} {vs:List V} {B:List Addr},RepDs K H0 H ds vs B→(∀ p ∈ B, ∀ o,H p=some o→H1 p=some o)→Reps K H1 ds vs
  | _,_,_, .nil,_ => .nil
  | _,_,_, .cons h r,k => .cons (RepD.rep e h fun p hp=>k p (List.mem_append_left _ hp)) (RepDs.rep e r fun p hp=>k p (List.mem_append_right _ hp))
end
mutual
theorem RepD.lists {K:PySem.W.Frag} {H0 H:Hp}:∀ {d:D} {v:V} {B:List Addr},RepD K H0 H d v B→Lists H B
  | _,_,_, .flat f r=>fun p hp=>by cases hp
  | _,_,_, .tup h r=>RepDs.lists r
  | _,_,_, .lst h r=>fun p hp=>by
    rcases List.mem_cons.mp hp with rfl | hp
    · exact ⟨mL _,h⟩
    · exact RepDs.lists r p hp
  | _,_,_, .dct _ h r=>fun p hp=>by
    rcases List.mem_cons.mp hp with rfl | hp
    · exact ⟨mD _,h⟩
    · exact RepDs.lists r p hp
  | _,_,_, .pdc h=>fun p hp=>by
    rw [List.mem_singleton] at hp
    subst hp
    exact ⟨mT _,h⟩
theorem RepDs.lists {K:PySem.W.Frag} {H0 H:Hp}:∀ {ds:List D} {vs:List V} {B:List Addr},RepDs K H0 H ds vs B→Lists H B
  | _,_,_, .nil=>fun p hp=>by cases hp
  | _,_,_, .cons h r=>fun p hp=>(List.mem_append.mp hp).elim (RepD.lists h p) (RepDs.lists r p)
end
mutual
theorem RepD.hid {K:PySem.W.Frag} {H0 H:Hp} {P:List Addr} (m:Lists H P) (e:Same H0 H):∀ {d:D} {v:V} {B:List Addr},RepD K H0 H d v B→RepD K (hide P H) H d v B
  | _,_,_, .flat f r => .flat f (Rep.hid m f (Rep.mono e r))
  | _,_,_, .tup h r => .tup (SqT.hid m (SqT.mono e h)) (RepDs.hid m e r)
  | _,_,_, .lst h r => .lst h (RepDs.hid m e r)
  | _,_,_, .dct l h r => .dct l h (RepDs.hid m e r)
  | _,_,_, .pdc h => .pdc h
theorem RepDs.hid {K:PySem.W.Frag} {H0 H:Hp} {P:List Addr} (m:Lists H P) (e:Same H0 H):∀ {ds:List D} {vs:List V} {B:List Addr},RepDs K H0 H ds vs B→RepDs K (hide P H) H ds vs B
  | _,_,_, .nil => .nil
  | _,_,_, .cons h r => .cons (RepD.hid m e h) (RepDs.hid m e r)
end
theorem RepDs.of_flat {K:PySem.W.Frag} {H0 H:Hp}:∀ {ds:List D} {vs:List V},flats ds=true→Reps K H0 ds vs→RepDs K H0 H ds vs []
  | _,_,_, .nil => .nil
  | _,_,f, .cons h r=>by
    simp [flats] at f
    exact .cons (B:=[]) (C:=[]) (.flat f.1 h) (RepDs.of_flat f.2 r)
theorem Lists.app {H:Hp} {P Q:List Addr} (h:Lists H P) (k:Lists H Q):Lists H (P ++ Q):=fun p hp=>(List.mem_append.mp hp).elim (h p) (k p)
inductive Ev where
  | cl (d:D) | tm (d:D) | nw (xs:List D) | dn (d:D)
def Ev.d:Ev→D
  | .cl d=>d
  | .tm d=>d
  | .nw xs => .lst xs
  | .dn d=>d
def RepEv (K:PySem.W.Frag) (F A:List Addr) (H H':Hp):Ev→V→Prop
  | .cl d,v=>Rep K (hide (A ++ F) H') d v
  | .tm d,v=>Rep K (hide F H') d v
  | .nw xs,v => ∃ p vs,v = .ref p∧H p=none∧H' p=some (.lst vs)∧Reps K (hide (p :: (A ++ F)) H') xs vs
  | .dn d,v => ∃ B,B.Nodup∧(∀ b ∈ B,H b=none)∧RepD K (hide (B ++ (A ++ F)) H') H' d v B
theorem same_hide {P:List Addr} {H H':Hp} (e:Same H H'):Same (hide P H) (hide P H'):=fun b o h=>by
  obtain ⟨n,h⟩:=of_hide h
  exact hide_get (e _ _ h) n
theorem RepEv.mono {K:PySem.W.Frag} {F A:List Addr} {H H1 H2:Hp} {r:Ev} {v:V} (h:RepEv K F A H H1 r v) (e:Same H1 H2):RepEv K F A H H2 r v:=by
  cases r with
  | cl d=>exact Rep.mono (same_hide e) h
  | tm d=>exact Rep.mono (same_hide e) h
  | nw xs =>
    obtain ⟨p,vs,rfl,h1,h2,h3⟩:=h
    exact ⟨p,vs,rfl,h1,e _ _ h2,Reps.mono (same_hide e) h3⟩
  | dn d =>
    obtain ⟨B,h1,h2,h3⟩:=h
    exact ⟨B,h1,h2,RepD.mono (same_hide e) h3 fun p _ o q=>e _ _ q⟩
theorem RepEv.back {K:PySem.W.Frag} {F A:List Addr} {H0 H H1:Hp} {r:Ev} {v:V} (h:RepEv K F A H H1 r v) (e:Same H0 H):RepEv K F A H0 H1 r v:=by
  cases r with
  | cl d=>exact h
  | tm d=>exact h
  | nw xs =>
    obtain ⟨p,vs,rfl,h1,h2,h3⟩:=h
    refine ⟨p,vs,rfl,?_,h2,h3⟩
    cases q:H0 p with
    | none=>rfl
    | some o=>rw [e _ _ q] at h1; cases h1
  | dn d =>
    obtain ⟨B,h1,h2,h3⟩:=h
    exact ⟨B,h1,fun b hb=>Same.free e (h2 b hb),h3⟩
theorem RepEv.full {K:PySem.W.Frag} {F A:List Addr} {H H':Hp} {r:Ev} {v:V} (h:RepEv K F A H H' r v):Rep K H' r.d v:=by
  cases r with
  | cl d=>exact Rep.mono (hide_sub _ _) h
  | tm d=>exact Rep.mono (hide_sub _ _) h
  | nw xs =>
    obtain ⟨p,vs,rfl,h1,h2,h3⟩:=h
    exact .lst (SqL.of h2) (Reps.mono (hide_sub _ _) h3)
  | dn d =>
    obtain ⟨B,h1,h2,h3⟩:=h
    exact h3.rep (hide_sub _ _) fun _ _ _ q=>q
theorem notin_lists {H:Hp} {P:List Addr} {p:Addr} (m:Lists H P) (h:H p=none):p ∉ P:=fun z=>by
  obtain ⟨vs,q⟩:=m _ z
  rw [q] at h; cases h
theorem RepEv.cleanF {K:PySem.W.Frag} {F A:List Addr} {H H':Hp} {r:Ev} {v:V} (m:Lists H (A ++ F)) (h:RepEv K F A H H' r v):Rep K (hide F H') r.d v:=by
  cases r with
  | cl d=>exact Rep.mono (hide_less H' fun a z=>List.mem_append_right _ z) h
  | tm d=>exact h
  | nw xs =>
    obtain ⟨p,vs,rfl,h1,h2,h3⟩:=h
    have n:p ∉ F:=fun z=>notin_lists m h1 (List.mem_append_right _ z)
    exact .lst (SqL.of (hide_get h2 n)) (Reps.mono (hide_less H' fun a z=>List.mem_cons_of_mem _ (List.mem_append_right _ z)) h3)
  | dn d =>
    obtain ⟨B,h1,h2,h3⟩:=h
    refine h3.rep (hide_less H' fun a z=>List.mem_append_right _ (List.mem_append_right _ z)) fun b hb o q=>hide_get q fun z=>?_
    exact notin_lists m (h2 b hb) (List.mem_append_right _ z)
def Ev.ok:Ev→Bool
  | .cl _=>true
  | .tm d=>flat d
  | .nw _=>true
  | .dn _=>true
theorem RepEv.clean {K:PySem.W.Frag} {F A:List Addr} {H H':Hp} {r:Ev} {v:V} (m:Lists H (A ++ F)) (e:Same H H') (h:RepEv K F A H H' r v) (c:r.ok=true):Rep K (hide (A ++ F) H') r.d v:=by
  cases r with
  | cl d=>exact h
  | tm d =>
    have m':Lists H' (A ++ F):=m.mono e
    exact Rep.hid m' c (Rep.mono (hide_sub _ _) h)
  | nw xs =>
    obtain ⟨p,vs,rfl,h1,h2,h3⟩:=h
    have n:p ∉ A ++ F:=notin_lists m h1
    exact .lst (SqL.of (hide_get h2 n)) (Reps.mono (hide_less H' fun a z=>List.mem_cons_of_mem _ z) h3)
  | dn d =>
    obtain ⟨B,h1,h2,h3⟩:=h
    exact h3.rep (hide_less H' fun a z=>List.mem_append_right _ z) fun b hb o q=>hide_get q fun z=>notin_lists m (h2 b hb) z
inductive Sl where
  | no | val (d:D) | own (xs:List D) | dp (d:D)
abbrev Th:=List Sl
inductive RSl (K:PySem.W.Frag) (H0 H:Hp):Th→L2.St→List Addr→Prop
  | nil:RSl K H0 H [] [] []
  | no {x:Option V} {t:Th} {σ:L2.St} {A:List Addr}:RSl K H0 H t σ A→RSl K H0 H (.no :: t) (x :: σ) A
  | val {d:D} {v:V} {t:Th} {σ:L2.St} {A:List Addr}:Rep K H0 d v→RSl K H0 H t σ A→RSl K H0 H (.val d :: t) (some v :: σ) A
  | own {p:Addr} {vs:List V} {ds:List D} {t:Th} {σ:L2.St} {A:List Addr}:H p=some (.lst vs)→Reps K H0 ds vs→RSl K H0 H t σ A→RSl K H0 H (.own ds :: t) (some (.ref p) :: σ) (p :: A)
  | dp {d:D} {v:V} {B:List Addr} {t:Th} {σ:L2.St} {A:List Addr}:RepD K H0 H d v B→RSl K H0 H t σ A→RSl K H0 H (.dp d :: t) (some v :: σ) (B ++ A)
structure RS (K:PySem.W.Frag) (F:List Addr) (H:Hp) (A:List Addr) (t:Th) (σ:L2.St):Prop where
  mu:Lists H (A ++ F)
  nd:A.Nodup
  dj:∀ p ∈ A,p ∉ F
  rel:RSl K (hide (A ++ F) H) H t σ A
theorem RSl.mono {K:PySem.W.Frag} {H0 H H0' H':Hp} (e0:Same H0 H0'):∀ {t:Th} {σ:L2.St} {A:List Addr},RSl K H0 H t σ A→(∀ p ∈ A, ∀ o,H p=some o→H' p=some o)→RSl K H0' H' t σ A
  | _,_,_, .nil,_ => .nil
  | _,_,_, .no r,e => .no (RSl.mono e0 r e)
  | _,_,_, .val h r,e => .val (Rep.mono e0 h) (RSl.mono e0 r e)
  | _,_,_, .own h1 h2 r,e => .own (e _ (List.mem_cons_self ..) _ h1) (Reps.mono e0 h2) (RSl.mono e0 r fun p hp=>e p (List.mem_cons_of_mem _ hp))
  | _,_,_, .dp h r,e => .dp (RepD.mono e0 h fun p hp=>e p (List.mem_append_left _ hp)) (RSl.mono e0 r fun p hp=>e p (List.mem_append_right _ hp))
theorem RS.grow {K:PySem.W.Frag} {F A:List Addr} {H H':Hp} {t:Th} {σ:L2.St} (h:RS K F H A t σ) (e:Same H H'):RS K F H' A t σ :=
  ⟨h.mu.mono e,h.nd,h.dj,h.rel.mono (same_hide e) fun p _ o q=>e _ _ q⟩
theorem RSl.len {K:PySem.W.Frag} {H0 H:Hp}:∀ {t:Th} {σ:L2.St} {A:List Addr},RSl K H0 H t σ A→σ.length=t.length
  | _,_,_, .nil=>rfl
  | _,_,_, .no r=>by simp [RSl.len r]
  | _,_,_, .val _ r=>by simp [RSl.len r]
  | _,_,_, .own _ _ r=>by simp [RSl.len r]
  | _,_,_, .dp _ r=>by simp [RSl.len r]
theorem RSl.getVal {K:PySem.W.Frag} {H0 H:Hp}:∀ {t:Th} {σ:L2.St} {A:List Addr},RSl K H0 H t σ A→∀ {i:Nat} {d:D},t[i]?=some (.val d)→∃ v,σ[i]?=some (some v)∧Rep K H0 d v
  | _,_,_, .nil,i,d,e=>by simp at e
  | _,_,_, .no r,0,d,e=>by simp at e
  | _,_,_, .no r,i + 1,d,e=>by simpa using RSl.getVal r (i:=i) (by simpa using e)
  | _,_,_, .val (v:=v) h r,0,d,e=>by simp at e; subst e; exact ⟨v,rfl,h⟩
  | _,_,_, .val h r,i + 1,d,e=>by simpa using RSl.getVal r (i:=i) (by simpa using e)
  | _,_,_, .own _ _ r,0,d,e=>by simp at e
  | _,_,_, .own _ _ r,i + 1,d,e=>by simpa using RSl.getVal r (i:=i) (by simpa using e)
  | _,_,_, .dp _ r,0,d,e=>by simp at e
  | _,_,_, .dp _ r,i + 1,d,e=>by simpa using RSl.getVal r (i:=i) (by simpa using e)
theorem RSl.getOwn {K:PySem.W.Frag} {H0 H:Hp}:∀ {t:Th} {σ:L2.St} {A:List Addr},RSl K H0 H t σ A→∀ {i:Nat} {ds:List D},t[i]?=some (.own ds)→∃ p vs,σ[i]?=some (some (.ref p))∧p ∈ A∧H p=some (.lst vs)∧Reps K H0 ds vs
  | _,_,_, .nil,i,d,e=>by simp at e
  | _,_,_, .no r,0,d,e=>by simp at e
  | _,_,_, .no r,i + 1,d,e=>by simpa using RSl.getOwn r (i:=i) (by simpa using e)
  | _,_,_, .val (v:=v) h r,0,d,e=>by simp at e
  | _,_,_, .val h r,i + 1,d,e=>by simpa using RSl.getOwn r (i:=i) (by simpa using e)
  | _,_,_, .own (p:=p) (vs:=vs) h1 h2 r,0,d,e=>by simp at e; subst e; exact ⟨p,vs,rfl,List.mem_cons_self ..,h1,h2⟩
  | _,_,_, .own h1 h2 r,i + 1,d,e=>by
    obtain ⟨p,vs,a,b,c,f⟩:=RSl.getOwn r (i:=i) (ds:=d) (by simpa using e)
    exact ⟨p,vs,by simpa using a,List.mem_cons_of_mem _ b,c,f⟩
  | _,_,_, .dp _ r,0,d,e=>by simp at e
  | _,_,_, .dp _ r,i + 1,d,e=>by
    obtain ⟨p,vs,a,b,c,f⟩:=RSl.getOwn r (i:=i) (ds:=d) (by simpa using e)
    exact ⟨p,vs,by simpa using a,List.mem_append_right _ b,c,f⟩
theorem RSl.getDp {K:PySem.W.Frag} {H0 H:Hp}:∀ {t:Th} {σ:L2.St} {A:List Addr},RSl K H0 H t σ A→A.Nodup→∀ {i:Nat} {d:D},t[i]?=some (.dp d)→∃ v B,σ[i]?=some (some v)∧(∀ b ∈ B,b ∈ A)∧B.Nodup∧RepD K H0 H d v B
  | _,_,_, .nil,n,i,d,e=>by simp at e
  | _,_,_, .no r,n,0,d,e=>by simp at e
  | _,_,_, .no r,n,i + 1,d,e=>by simpa using RSl.getDp r n (i:=i) (by simpa using e)
  | _,_,_, .val (v:=v) h r,n,0,d,e=>by simp at e
  | _,_,_, .val h r,n,i + 1,d,e=>by simpa using RSl.getDp r n (i:=i) (by simpa using e)
  | _,_,_, .own _ _ r,n,0,d,e=>by simp at e
  | _,_,_, .own _ _ r,n,i + 1,d,e=>by
    obtain ⟨v,B,a,b,n',c⟩:=RSl.getDp r (List.nodup_cons.mp n).2 (i:=i) (d:=d) (by simpa using e)
    exact ⟨v,B,by simpa using a,fun x hx=>List.mem_cons_of_mem _ (b x hx),n',c⟩
  | _,_,_, .dp (v:=v) (B:=B) h r,n,0,d,e=>by simp at e; subst e; exact ⟨v,B,rfl,fun x hx=>List.mem_append_left _ hx,(List.nodup_append.mp n).1,h⟩
  | _,_,_, .dp h r,n,i + 1,d,e=>by
    obtain ⟨v,B,a,b,n',c⟩:=RSl.getDp r (List.nodup_append.mp n).2.1 (i:=i) (d:=d) (by simpa using e)
    exact ⟨v,B,by simpa using a,fun x hx=>List.mem_append_right _ (b x hx),n',c⟩
structure Gr (A:List Addr) (H:Hp) (A':List Addr) (H':Hp):Prop where
  kp:∀ b o,b ∉ A→H b=some o→H' b=some o
  al:∀ b ∈ A,H' b ≠ none
  nw:∀ b ∈ A',b ∈ A ∨ H b=none
theorem Gr.refl {A:List Addr} {H:Hp} (m:Lists H A):Gr A H A H:=⟨fun _ _ _ h=>h,fun b hb=>by obtain ⟨vs,q⟩:=m b hb; rw [q]; simp,fun b h => .inl h⟩
theorem Gr.of_same {A:List Addr} {H H':Hp} (m:Lists H A) (e:Same H H'):Gr A H A H':=⟨fun _ _ _ h=>e _ _ h,fun b hb=>by obtain ⟨vs,q⟩:=m b hb; rw [e _ _ q]; simp,fun b h => .inl h⟩
theorem Gr.trans {A A1 A2:List Addr} {H H1 H2:Hp} (a:Gr A H A1 H1) (b:Gr A1 H1 A2 H2):Gr A H A2 H2 where
  kp:=fun x o n h=>b.kp x o (fun z=>by rcases a.nw x z with q | q; exact n q; rw [q] at h; cases h) (a.kp x o n h)
  al:=fun x hx=>by
    by_cases z:x ∈ A1
    · exact b.al x z
    · have:=a.al x hx
      cases q:H1 x with
      | none=>exact absurd q this
      | some o=>rw [b.kp x o z q]; simp
  nw:=fun x hx=>by
    rcases b.nw x hx with q | q
    · exact a.nw x q
    · by_cases z:x ∈ A
      · exact .inl z
      · refine .inr ?_
        cases w:H x with
        | none=>rfl
        | some o=>rw [a.kp x o z w] at q; cases q
theorem Gr.same {F A A':List Addr} {H H':Hp} (g:Gr A H A' H'):Same (hide (A ++ F) H) (hide (A' ++ F) H'):=fun b o h=>by
  obtain ⟨n,h⟩:=of_hide h
  have n1:b ∉ A:=fun z=>n (List.mem_append_left _ z)
  refine hide_get (g.kp b o n1 h) fun z=>?_
  rcases List.mem_append.mp z with z | z
  · rcases g.nw b z with q | q
    · exact n1 q
    · rw [q] at h; cases h
  · exact n (List.mem_append_right _ z)
end DL
namespace DL
open PySem PySem.Spec PyProof.Rows L2
abbrev DE:=Th→Option Ev
def dE (K:PySem.W.Frag) (F:List Addr) (f:DE):TE:=fun σ H Q => ∃ A t r,RS K F H A t σ∧f t=some r∧∀ v H',Same H H'→RepEv K F A H H' r v→Q v H'
theorem PE.imp {X:Cx} {e:Expr} {t t':TE} (h:PE X e t) (i:∀ σ H Q,t' σ H Q→t σ H Q):PE X e t':=fun pins s σ H Q I q=>h pins s σ H Q I (i σ H Q q)
section
variable {X:Cx} {F:List Addr} {a b c:Expr} {fa fb fc:DE} {pos:Pos}
def dVar (i:Nat):DE:=fun t=>match t[i]? with
  | some (.val d)=>some (.cl d)
  | some (.own xs)=>some (.tm (.lst xs))
  | some (.dp d)=>some (.tm d)
  | _=>none
theorem ped_var (i:Nat) {x:Str} (hN:X.N[i]?=some x:=by rfl) (hv:Vis X.env.scope x:=by first | exact Or.inl rfl | exact Or.inr (Or.inl rfl) | exact Or.inr (Or.inr rfl)) (hd:(x == ("__debug__":Str))=false:=by decide)
    (hcd:(x == ("__classdict__":Str))=false:=by decide):PE X (.Name x pos) (dE X.K F (dVar i)):=by
  refine PE.imp (pe_var (i:=i) hN hv hd hcd) ?_
  rintro σ H Q ⟨A,t,r,R,e,h⟩
  unfold dVar at e
  split at e
  · rename_i d q
    cases e
    obtain ⟨v,h1,h2⟩:=R.rel.getVal q
    exact ⟨v,h1,h v H (Same.refl H) h2⟩
  · rename_i ds q
    cases e
    obtain ⟨p,vs,h1,h2,h3,h4⟩:=R.rel.getOwn q
    refine ⟨_,h1,h _ H (Same.refl H) ?_⟩
    exact .lst (SqL.of (hide_get h3 (R.dj p h2))) (Reps.mono (hide_less H fun a z=>List.mem_append_right _ z) h4)
  · rename_i d q
    cases e
    obtain ⟨v,B,h1,h2,h0,h3⟩:=R.rel.getDp R.nd q
    refine ⟨_,h1,h _ H (Same.refl H) ?_⟩
    exact h3.rep (hide_less H fun a z=>List.mem_append_right _ z) fun b hb o w=>hide_get w (R.dj b (h2 b hb))
  · cases e
def dC (d:D):DE:=fun _=>some (.cl d)
theorem ped_int {i j pos}:PE X (.Constant (.int i) j pos) (dE X.K F (dC (.int i))):=PE.imp pe_int fun σ H Q ⟨A,t,r,R,e,h⟩=>by cases e; exact h _ H (Same.refl H) (.int i)
theorem ped_bl {b j pos}:PE X (.Constant (.bool b) j pos) (dE X.K F (dC (.bl b))):=PE.imp pe_bl fun σ H Q ⟨A,t,r,R,e,h⟩=>by cases e; exact h _ H (Same.refl H) (.bl b)
def OpD (X:Cx) (F:List Addr) (f:Value→Value→Sem Value) (k:Ev→Ev→Option Ev):Prop :=
  ∀ (pins:List (Addr × Obj)) (s:Shared) (σ:L2.St) (H0 H:Hp) (A:List Addr) (x y:V) (v u:Value) (Q:VK) (r1 r2 r:Ev),Inv X pins σ H s→Lists H0 (A ++ F)→Same H0 H→RelV x v→RelV y u →
    RepEv X.K F A H0 H r1 x→RepEv X.K F A H0 H r2 y→k r1 r2=some r→(∀ z H',Same H H'→RepEv X.K F A H0 H' r z→Q z H')→wpAny (model X.prog X.w) X.A (f v u) (EP X pins σ Q) X.xe s
def d2 (k:Ev→Ev→Option Ev) (fa fb:DE):DE:=fun t=>(fa t).bind fun r1=>(fb t).bind fun r2=>k r1 r2
theorem two {k:Ev→Ev→Option Ev} {σ:L2.St} {H:Hp} {Q:VK} (h:dE X.K F (d2 k fa fb) σ H Q):∃ A t r1 r2 r,RS X.K F H A t σ∧fa t=some r1∧fb t=some r2∧k r1 r2=some r ∧
    (∀ v H',Same H H'→RepEv X.K F A H H' r v→Q v H')∧dE X.K F fa σ H fun x H1=>dE X.K F fb σ H1 fun y H2=>Same H H2∧RepEv X.K F A H H2 r1 x∧RepEv X.K F A H H2 r2 y:=by
  obtain ⟨A,t,r,R,e,h⟩:=h
  unfold d2 at e
  cases e1:fa t with
  | none=>rw [e1] at e; cases e
  | some r1 =>
    cases e2:fb t with
    | none=>rw [e1,e2] at e; cases e
    | some r2 =>
      rw [e1,e2] at e
      exact ⟨A,t,r1,r2,r,R,e1,e2,e,h,A,t,r1,R,e1,fun x H1 g1 q1=>⟨A,t,r2,R.grow g1,e2,fun y H2 g2 q2=>⟨g1.trans g2,q1.mono g2,q2.back g1⟩⟩⟩
theorem ped_op {op:Operator} {k:Ev→Ev→Option Ev} (ho:OpD X F (binaryOp op) k) (ha:PE X a (dE X.K F fa)) (hb:PE X b (dE X.K F fb)):PE X (.BinOp a op b pos) (dE X.K F (d2 k fa fb)):=by
  intro pins s σ H Q I h
  obtain ⟨A,t,r1,r2,r,R,e1,e2,e,h,w⟩:=two h
  refine wpAny_BinOp (bin ha hb I w fun v u s2 x y H2 I2 rx ry q=>?_)
  obtain ⟨g,q1,q2⟩:=q
  exact ho pins s2 σ H H2 A x y v u Q r1 r2 r I2 R.mu g rx ry q1 q2 e fun z H' g'=>h z H' (g.trans g')
def kI (C:Int→Int→Bool) (g:Int→Int→D):Ev→Ev→Option Ev:=fun r1 r2=>match r1.d,r2.d with
  | .int i, .int j=>if C i j then some (.cl (g i j)) else none
  | _,_=>none
theorem rep_int {K:PySem.W.Frag} {H:Hp} {i:Int} {v:V} (h:Rep K H (.int i) v):v = .int i:=by cases h; rfl
theorem opd_I {f:Value→Value→Sem Value} {C:Int→Int→Prop} {g:Int→Int→V} {C':Int→Int→Bool} {g':Int→Int→D} (h:OpR X f (rI C g)) (hc:∀ i j,C' i j=true→C i j)
    (hg:∀ H i j,Rep X.K H (g' i j) (g i j)):OpD X F f (kI C' g'):=by
  intro pins s σ H0 H A x y v u Q r1 r2 r I m g0 rx ry q1 q2 e hq
  have p1:=q1.full
  have p2:=q2.full
  unfold kI at e
  split at e
  · rename_i i j d1 d2
    split at e
    · rename_i c
      cases e
      rw [d1] at p1; rw [d2] at p2
      cases rep_int p1; cases rep_int p2
      exact h pins s σ H _ _ v u Q I rx ry ⟨i,j,rfl,rfl,hc i j c,hq _ H (Same.refl H) (hg _ i j)⟩
    · cases e
  · cases e
theorem rI_of {f:Value→Value→Sem Value} {g:Int→Int→V} (h:OpR X f (rI0 g)):OpR X f (rI (fun _ _=>True) g):=fun pins s σ H x y v u Q I rx ry ⟨i,j,e1,e2,_,q⟩=>h pins s σ H x y v u Q I rx ry ⟨i,j,e1,e2,q⟩
def tt2:Int→Int→Bool:=fun _ _=>true
theorem od_add:OpD X F (binaryOp .Add) (kI tt2 fun i j => .int (i + j)):=opd_I (rI_of op_add) (fun _ _ _=>trivial) fun _ _ _ => .int _
def bnd:Nat:=2 ^ 4096
def sm (i:Int):Bool:=decide (i.natAbs < bnd)
def cMul (i j:Int):Bool:=sm i && sm j
def cDiv (_ j:Int):Bool:=sm j && decide (j ≠ 0)
theorem log2_le {n k:Nat} (h:n < 2 ^ k):n.log2 ≤ k:=by
  by_cases z:n=0
  · subst z; simp
  · exact Nat.le_of_lt ((Nat.log2_lt z).mpr h)
theorem cMul.ok {i j:Int} (h:cMul i j=true):IntMulOk i j:=by
  simp only [cMul,sm,Bool.and_eq_true,decide_eq_true_eq] at h
  refine mulOk_of_bits (m:=4097) (n:=4097) ?_ ?_ (by decide)
  · exact intBits_le (Nat.lt_of_lt_of_le h.1 (by unfold bnd; exact Nat.pow_le_pow_right (by decide) (by decide)))
  · exact intBits_le (Nat.lt_of_lt_of_le h.2 (by unfold bnd; exact Nat.pow_le_pow_right (by decide) (by decide)))
theorem od_mul:OpD X F (binaryOp .Mult) (kI cMul fun i j => .int (i * j)):=opd_I (C:=IntMulOk) (opI fun _ _ _ _ _ _ _ hc q=>mul_int q hc) (fun _ _ h=>cMul.ok h) fun _ _ _ => .int _
theorem cDiv.ok {i j:Int} (h:cDiv i j=true):j ≠ 0∧j.natAbs.log2 < 9000:=by
  simp only [cDiv,sm,Bool.and_eq_true,decide_eq_true_eq] at h
  have:=log2_le h.1
  exact ⟨h.2,by omega⟩
theorem od_div:OpD X F (binaryOp .FloorDiv) (kI cDiv fun i j => .int (i.fdiv j)):=opd_I (C:=fun _ j=>j ≠ 0∧j.natAbs.log2 < 9000) (opI fun _ _ _ _ _ _ _ hc q=>floordiv_int hc.1 q (.inl (PyProof.noPylong_of_log2 hc.2))) (fun _ _ h=>cDiv.ok h) fun _ _ _ => .int _
def cMod (_ j:Int):Bool:=decide (j ≠ 0)
theorem od_mod:OpD X F (binaryOp .Mod) (kI cMod fun i j => .int (i.fmod j)):=opd_I op_modN (fun i j h=>by simpa [cMod] using h) fun _ _ _ => .int _
theorem od_lt:OpD X F (compareOp .Lt) (kI tt2 fun i j => .bl (decide (i < j))):=opd_I (rI_of op_lt) (fun _ _ _=>trivial) fun _ _ _ => .bl _
theorem od_le:OpD X F (compareOp .LtE) (kI tt2 fun i j => .bl (decide (i ≤ j))):=opd_I (rI_of op_le) (fun _ _ _=>trivial) fun _ _ _ => .bl _
def kOr (k k':Ev→Ev→Option Ev):Ev→Ev→Option Ev:=fun r1 r2=>match k r1 r2 with
  | some r=>some r
  | none=>k' r1 r2
theorem OpD.or {f:Value→Value→Sem Value} {k k':Ev→Ev→Option Ev} (h:OpD X F f k) (h':OpD X F f k'):OpD X F f (kOr k k'):=by
  intro pins s σ H0 H A x y v u Q r1 r2 r I m g0 rx ry q1 q2 e hq
  unfold kOr at e
  split at e
  · rename_i z
    cases e
    exact h pins s σ H0 H A x y v u Q r1 r2 _ I m g0 rx ry q1 q2 z hq
  · exact h' pins s σ H0 H A x y v u Q r1 r2 _ I m g0 rx ry q1 q2 e hq
def d1 (k:Ev→Option Ev) (fa:DE):DE:=fun t=>(fa t).bind k
end
end DL
namespace DL
open PySem PySem.Spec PyProof.Rows L2
inductive RepEvs (K:PySem.W.Frag) (F A:List Addr) (H H':Hp):List Ev→List V→Prop
  | nil:RepEvs K F A H H' [] []
  | cons {r:Ev} {v:V} {rs:List Ev} {vs:List V}:RepEv K F A H H' r v→RepEvs K F A H H' rs vs→RepEvs K F A H H' (r :: rs) (v :: vs)
theorem RepEvs.back {K:PySem.W.Frag} {F A:List Addr} {H0 H H1:Hp} (e:Same H0 H):∀ {rs:List Ev} {vs:List V},RepEvs K F A H H1 rs vs→RepEvs K F A H0 H1 rs vs
  | _,_, .nil => .nil
  | _,_, .cons h r => .cons (h.back e) (RepEvs.back e r)
theorem RepEvs.cleanF {K:PySem.W.Frag} {F A:List Addr} {H H':Hp} (m:Lists H (A ++ F)):∀ {rs:List Ev} {vs:List V},RepEvs K F A H H' rs vs→Reps K (hide F H') (rs.map Ev.d) vs
  | _,_, .nil => .nil
  | _,_, .cons h r => .cons (h.cleanF m) (RepEvs.cleanF m r)
theorem RepEvs.clean {K:PySem.W.Frag} {F A:List Addr} {H H':Hp} (m:Lists H (A ++ F)) (e:Same H H'):∀ {rs:List Ev} {vs:List V},RepEvs K F A H H' rs vs→rs.all Ev.ok=true→Reps K (hide (A ++ F) H') (rs.map Ev.d) vs
  | _,_, .nil,_ => .nil
  | _,_, .cons h r,c=>by
    simp only [List.all_cons,Bool.and_eq_true] at c
    exact .cons (h.clean m e c.1) (RepEvs.clean m e r c.2)
abbrev DA:=Th→Option (List Ev)
def dA (K:PySem.W.Frag) (F:List Addr) (f:DA):TA:=fun σ H Q => ∃ A t rs,RS K F H A t σ∧f t=some rs∧∀ vs H',Same H H'→RepEvs K F A H H' rs vs→Q vs H'
theorem PA.imp {X:Cx} {e:List Expr} {t t':TA} (h:PA X e t) (i:∀ σ H Q,t' σ H Q→t σ H Q):PA X e t':=fun pos pins s σ H Q I q=>h pos pins s σ H Q I (i σ H Q q)
def dNil:DA:=fun _=>some []
def dCons (f:DE) (g:DA):DA:=fun t=>(f t).bind fun r=>(g t).bind fun rs=>some (r :: rs)
section
variable {X:Cx} {F:List Addr} {a b c:Expr} {es:List Expr} {fa fb fc:DE} {g:DA} {pos:Pos}
theorem pad_nil:PA X [] (dA X.K F dNil):=PA.imp pa_nil fun σ H Q ⟨A,t,rs,R,e,h⟩=>by cases e; exact h [] H (Same.refl H) .nil
theorem pad_cons (ha:PE X a (dE X.K F fa)) (hr:PA X es (dA X.K F g)) (hs:starEach (a :: es) X.env=(false,eval a X.env) :: starEach es X.env:=by rfl):PA X (a :: es) (dA X.K F (dCons fa g)):=by
  refine PA.imp (pa_cons ha hr hs) ?_
  rintro σ H Q ⟨A,t,rs,R,e,h⟩
  unfold dCons at e
  cases e1:fa t with
  | none=>rw [e1] at e; cases e
  | some r1 =>
    cases e2:g t with
    | none=>rw [e1,e2] at e; cases e
    | some rs2 =>
      rw [e1,e2] at e
      cases e
      exact ⟨A,t,r1,R,e1,fun x H1 g1 q1=>⟨A,t,rs2,R.grow g1,e2,fun xs H2 g2 q2=>h _ _ (g1.trans g2) (.cons (q1.mono g2) (q2.back g1))⟩⟩
def kTup:List Ev→Option Ev:=fun rs=>if rs.length ≤ 1000 then (if rs.all Ev.ok then some (.cl (.tup (rs.map Ev.d))) else some (.tm (.tup (rs.map Ev.d)))) else none
def dT1 (k:List Ev→Option Ev) (g:DA):DE:=fun t=>(g t).bind k
theorem RepEvs.length {K:PySem.W.Frag} {F A:List Addr} {H H':Hp}:∀ {rs:List Ev} {vs:List V},RepEvs K F A H H' rs vs→vs.length=rs.length
  | _,_, .nil=>rfl
  | _,_, .cons _ r=>by simp [RepEvs.length r]
theorem le_line {n:Nat} (h:n ≤ 100000):n ≤ sizeLine:=Nat.le_trans h (by rw [sizeLine_eq]; decide)
theorem upd_sameH {H:Hp} {p:Addr} {o:HO} (h:H p=none):Same H (upd H p o):=fun b u e=>by rw [upd_ne (fun z=>by rw [z,h] at e; cases e)]; exact e
theorem ped_tup {x1} (h:PA X es (dA X.K F g)):PE X (.Tuple es x1 pos) (dE X.K F (dT1 kTup g)):=by
  refine PE.imp (pe_tup h) ?_
  rintro σ H Q ⟨A,t,r,R,e,h⟩
  unfold dT1 at e
  cases e1:g t with
  | none=>rw [e1] at e; cases e
  | some rs =>
    rw [e1] at e
    have e:kTup rs=some r:=e
    unfold kTup at e
    split at e
    case isFalse=>cases e
    rename_i hl
    refine ⟨A,t,rs,R,e1,fun vs H1 g1 q1=>⟨by rw [q1.length]; exact le_line (by omega),fun p hp=>?_⟩⟩
    have s1:=upd_sameH (o:=HO.tup vs) hp
    refine h _ _ (g1.trans s1) ?_
    have np:p ∉ A ++ F:=notin_lists (R.mu.mono g1) hp
    split at e
    · rename_i c
      cases e
      exact .tup (SqT.of (hide_get upd_same np)) (Reps.mono (same_hide s1) (q1.clean R.mu g1 c))
    · cases e
      exact .tup (SqT.of (hide_get upd_same fun z=>np (List.mem_append_right _ z))) (Reps.mono (same_hide s1) (q1.cleanF R.mu))
def kLst:List Ev→Option Ev:=fun rs=>if rs.length ≤ 1000∧rs.all Ev.ok then some (.nw (rs.map Ev.d)) else none
theorem hide_upd {P:List Addr} {H:Hp} {p:Addr} {o:HO} (h:H p=none):Same (hide P H) (hide (p :: P) (upd H p o)):=fun b u e=>by
  obtain ⟨n,e⟩:=of_hide e
  have nb:b ≠ p:=fun z=>by rw [z,h] at e; cases e
  refine hide_get (by rw [upd_ne nb]; exact e) fun z=>?_
  rcases List.mem_cons.mp z with z | z
  · exact nb z
  · exact n z
theorem ped_lst (h:PA X es (dA X.K F g)):PE X (.List es pos) (dE X.K F (dT1 kLst g)):=by
  refine PE.imp (pe_lst h) ?_
  rintro σ H Q ⟨A,t,r,R,e,h⟩
  unfold dT1 at e
  cases e1:g t with
  | none=>rw [e1] at e; cases e
  | some rs =>
    rw [e1] at e
    have e:kLst rs=some r:=e
    unfold kLst at e
    split at e
    case isFalse=>cases e
    rename_i hl
    cases e
    refine ⟨A,t,rs,R,e1,fun vs H1 g1 q1=>⟨by rw [q1.length]; exact le_line (by omega),fun p hp=>?_⟩⟩
    have s1:=upd_sameH (o:=HO.lst vs) hp
    refine h _ _ (g1.trans s1) ⟨p,vs,rfl,?_,upd_same,Reps.mono (hide_upd hp) (q1.clean R.mu g1 hl.2)⟩
    exact Same.free g1 hp
def spD (K:PySem.W.Frag) (G:List D→Option Ev):Sp:=fun vs H Q _ => ∃ Fo ds r,Lists H Fo∧Reps K (hide Fo H) ds vs∧G ds=some r∧∀ v H',Same H H'→RepEv K Fo [] H H' r v→Q v H'
def upEv (ok:Bool) (r:Ev):Ev:=if ok then (match r with
    | .cl d => .cl d
    | .tm d => .cl d
    | .nw xs => .nw xs
    | .dn d => .dn d) else match r with
    | .cl d=>if flat d then .cl d else .tm d
    | .tm d=>if flat d then .cl d else .tm d
    | .nw xs=>if flats xs then .nw xs else .tm (.lst xs)
    | .dn d => .dn d
def kCall (G:List D→Option Ev):List Ev→Option Ev:=fun rs=>(G (rs.map Ev.d)).map (upEv (rs.all Ev.ok))
theorem call_up {K:PySem.W.Frag} {A:List Addr} {G:List D→Option Ev} {H0 H:Hp} {rs:List Ev} {r:Ev} {vs:List V} {Q:VK} {E:XK} (m:Lists H0 (A ++ F)) (g:Same H0 H) (q:RepEvs K F A H0 H rs vs) (e:kCall G rs=some r)
    (h:∀ v H',Same H H'→RepEv K F A H0 H' r v→Q v H'):spD K G vs H Q E:=by
  unfold kCall at e
  cases e1:G (rs.map Ev.d) with
  | none=>rw [e1] at e; cases e
  | some r0 =>
    rw [e1] at e
    have e:upEv (rs.all Ev.ok) r0=r:=by simpa using e
    have mH:=m.mono g
    by_cases c:rs.all Ev.ok=true
    · refine ⟨A ++ F,rs.map Ev.d,r0,mH,q.clean m g c,e1,fun v H' g' w=>h v H' g' ?_⟩
      rw [c] at e
      subst e
      cases r0 with
      | cl d=>exact w
      | tm d=>exact w
      | nw xs =>
        obtain ⟨p,us,rfl,h1,h2,h3⟩:=w
        exact ⟨p,us,rfl,Same.free g h1,h2,h3⟩
      | dn d =>
        obtain ⟨B,h1,h2,h3⟩:=w
        exact ⟨B,h1,fun b hb=>Same.free g (h2 b hb),h3⟩
    · refine ⟨F,rs.map Ev.d,r0,fun p hp=>mH p (List.mem_append_right _ hp),q.cleanF m,e1,fun v H' g' w=>h v H' g' ?_⟩
      have c:rs.all Ev.ok=false:=by simpa using c
      rw [c] at e
      subst e
      have m':=mH.mono g'
      cases r0 with
      | cl d =>
        show RepEv K F A H0 H' (if flat d then .cl d else .tm d) v
        split
        · rename_i f; exact Rep.hid m' f (Rep.mono (hide_sub _ _) w)
        · exact w
      | tm d =>
        show RepEv K F A H0 H' (if flat d then .cl d else .tm d) v
        split
        · rename_i f; exact Rep.hid m' f (Rep.mono (hide_sub _ _) w)
        · exact w
      | nw xs =>
        obtain ⟨p,us,rfl,h1,h2,h3⟩:=w
        have np:p ∉ A ++ F:=notin_lists mH h1
        show RepEv K F A H0 H' (if flats xs then .nw xs else .tm (.lst xs)) _
        split
        · rename_i f
          refine ⟨p,us,rfl,Same.free g h1,h2,Reps.hid (P:=p :: (A ++ F)) (fun b hb=>?_) f (Reps.mono (hide_sub _ _) h3)⟩
          rcases List.mem_cons.mp hb with rfl | hb
          · exact ⟨mL us,h2⟩
          · exact m' b hb
        · exact .lst (SqL.of (hide_get h2 fun z=>np (List.mem_append_right _ z))) (Reps.mono (hide_less H' fun b z=>List.mem_cons_of_mem _ z) h3)
      | dn d =>
        obtain ⟨B,h1,h2,h3⟩:=w
        exact ⟨B,h1,fun b hb=>Same.free g (h2 b hb),h3.hid (h3.lists.app m') (hide_sub _ _)⟩
theorem ped_call {k:Nat} {f:Addr} {fd:FuncData} {ps:List Str} {G:List D→Option Ev} {x:Str} {p:Pos} (Fn:FnOk X.prog X.w X.K X.mg X.base CX0 k f fd ps (spD X.K G)) (hr:Room k X.A) (hg:Gl X x) (hm:X.mg x=some (.ref f)) (hk:PySem.W.keepIn X.K (.ref f)=true)
    (hb:Binds X.K fd ps []) (ha:PA X (a :: es) (dA X.K F g)) (hdb:(x == ("__debug__":Str))=false:=by decide) (he:starEach (a :: es) X.env=(false,eval a X.env) :: starEach es X.env:=by rfl)
    (hpl:(backTo pos (starEach es X.env)).any (·.1)=false:=by rfl):PE X (.Call (.Name x p) (a :: es) [] pos) (dE X.K F (dT1 (kCall G) g)):=by
  refine PE.imp (pe_call Fn hr hg hm hk hb .nil (E:=E0) pass0 ha hdb he hpl) ?_
  rintro σ H Q ⟨A,t,r,R,e,h⟩
  unfold dT1 at e
  cases e1:g t with
  | none=>rw [e1] at e; cases e
  | some rs =>
    rw [e1] at e
    refine ⟨A,t,rs,R,e1,fun vs H1 g1 q1=>?_⟩
    show spD X.K G (vs ++ []) H1 Q E0
    rw [List.append_nil]
    exact call_up R.mu g1 q1 e fun v H' g' w=>h v H' (g1.trans g') w
def CallD (X:Cx) (F:List Addr) (f:Value) (k:List Ev→Option Ev):Prop :=
  ∀ (pins:List (Addr × Obj)) (s:Shared) (σ:L2.St) (H0 H:Hp) (A:List Addr) (xs:List V) (us:List Value) (Q:VK) (rs:List Ev) (r:Ev),Inv X pins σ H s→Lists H0 (A ++ F)→Same H0 H→Vals xs us→RepEvs X.K F A H0 H rs xs→k rs=some r →
    (∀ z H',Same H H'→RepEv X.K F A H0 H' r z→Q z H')→wpAny (model X.prog X.w) X.A (call f us) (EP X pins σ Q) X.xe s
theorem PA.run (ha:PA X es (dA X.K F g)) {k:List Ev→Option Ev} {f:Value} (hc:CallD X F f k) {pins:List (Addr × Obj)} {s:Shared} {σ:L2.St} {H:Hp} {Q:VK} (p:Pos) (I:Inv X pins σ H s) (h:dE X.K F (dT1 k g) σ H Q) :
    wpAny (model X.prog X.w) X.A (spliced (backTo p (starEach es X.env))) (fun us s1=>wpAny (model X.prog X.w) X.A (call f us) (EP X pins σ Q) X.xe s1) X.xe s:=by
  obtain ⟨A,t,r,R,e,h⟩:=h
  unfold dT1 at e
  cases e1:g t with
  | none=>rw [e1] at e; cases e
  | some rs =>
    rw [e1] at e
    refine thn (ha p pins s σ H (fun vs H1=>Same H H1∧RepEvs X.K F A H H1 rs vs) I ⟨A,t,rs,R,e1,fun vs H1 g1 q1=>⟨g1,q1⟩⟩) fun us s1 ⟨vs,H1,I1,r1,g1,q1⟩=>?_
    exact hc pins s1 σ H H1 A vs us Q rs r I1 R.mu g1 r1 q1 e fun z H' g'=>h z H' (g1.trans g')
theorem ped_callB {k:List Ev→Option Ev} {x:Str} {p:Pos} {id:String} (hc:CallD X F (.builtin id) k) (hg:Gl X x) (hm:X.mg x=none) (hv:bootBuiltins x=some (.builtin id)) (ha:PA X (a :: es) (dA X.K F g)) (hn:x ≠ "__name__":=by decide) (hdb:(x == ("__debug__":Str))=false:=by decide)
    (he:starEach (a :: es) X.env=(false,eval a X.env) :: starEach es X.env:=by rfl) (hpl:(backTo pos (starEach es X.env)).any (·.1)=false:=by rfl):PE X (.Call (.Name x p) (a :: es) [] pos) (dE X.K F (dT1 k g)):=by
  intro pins s σ H Q I h
  refine wpAny_Call_Name_kw (ld_blt I hg hm hv ?_ hn hdb)
  exact PyProof.Rows.callWith_builtin1 (PA.run ha hc pos I h) he hpl
theorem ped_callT {k:List Ev→Option Ev} {x:Str} {p:Pos} {T:String} (hc:CallD X F (.type T) k) (hg:Gl X x) (hm:X.mg x=none) (hv:bootBuiltins x=some (.type T)) (ha:PA X (a :: es) (dA X.K F g)) (hn:x ≠ "__name__":=by decide) (hdb:(x == ("__debug__":Str))=false:=by decide)
    (he:starEach (a :: es) X.env=(false,eval a X.env) :: starEach es X.env:=by rfl) (hpl:(backTo pos (starEach es X.env)).any (·.1)=false:=by rfl):PE X (.Call (.Name x p) (a :: es) [] pos) (dE X.K F (dT1 k g)):=by
  intro pins s σ H Q I h
  refine wpAny_Call_Name_kw (ld_blt I hg hm hv ?_ hn hdb)
  exact PyProof.Rows.callWith_type1 (PA.run ha hc pos I h) he hpl
theorem CallD.of {f:Value} {r:List V→Hp→VK→Prop} {k:List Ev→Option Ev} (h:CallR X f r)
    (i:∀ (H0 H:Hp) (A:List Addr) (xs:List V) (rs:List Ev) (e:Ev) (Q:VK),Lists H0 (A ++ F)→Same H0 H→RepEvs X.K F A H0 H rs xs→k rs=some e→(∀ z H',Same H H'→RepEv X.K F A H0 H' e z→Q z H')→r xs H Q):CallD X F f k :=
  fun pins s σ H0 H A xs us Q rs e I m g v q ek hq=>h pins s σ H xs us Q I v (i H0 H A xs rs e Q m g q ek hq)
def kLen:List Ev→Option Ev:=fun rs=>match rs with
  | [r]=>(match r.d with
    | .lst xs=>some (.cl (.int xs.length))
    | .tup xs=>some (.cl (.int xs.length))
    | _=>none)
  | _=>none
theorem cd_len:CallD X F (.builtin "len") kLen:=CallD.of call_len_seq fun H0 H A xs rs e Q m g q ek hq=>by
  unfold kLen at ek
  split at ek
  · rename_i r
    cases q with
    | cons q1 q2 =>
      cases q2
      have p:=q1.full
      split at ek
      · rename_i ds z
        cases ek
        rw [z] at p
        cases p with
        | lst h1 h2=>exact ⟨_,_,rfl, .inl h1,by rw [h2.length]; exact hq _ H (Same.refl H) (.int _)⟩
      · rename_i ds z
        cases ek
        rw [z] at p
        cases p with
        | tup h1 h2=>exact ⟨_,_,rfl, .inr h1,by rw [h2.length]; exact hq _ H (Same.refl H) (.int _)⟩
      · cases ek
  · cases ek
end
end DL
namespace DL
open PySem PySem.Spec PyProof.Rows L2
abbrev DT:=Th→Option Bool
def dT (K:PySem.W.Frag) (F:List Addr) (f:DT):TT:=fun σ H Q => ∃ A t b,RS K F H A t σ∧f t=some b∧∀ H',Same H H'→Q b H'
theorem PT.imp {X:Cx} {e:Expr} {t t':TT} (h:PT X e t) (i:∀ σ H Q,t' σ H Q→t σ H Q):PT X e t':=fun pins s σ H Q I q=>h pins s σ H Q I (i σ H Q q)
theorem PW.imp {X:Cx} {e:Expr} {t t':TT} (h:PW X e t) (i:∀ σ H Q,t' σ H Q→t σ H Q):PW X e t':=fun w pins s σ H Q I q=>h w pins s σ H Q I (i σ H Q q)
def truD:D→Option Bool
  | .non=>some false
  | .bl b=>some b
  | .int i=>some (i != 0)
  | .tup xs=>some (!xs.isEmpty)
  | .lst xs=>some (!xs.isEmpty)
  | .dct ks _=>some (!ks.isEmpty)
  | .pdc _=>none
  | .str y=>if y.length ≤ 100000 then some ((y.length:Int) != 0) else none
theorem isEmpty_len {α β:Type} {xs:List α} {ys:List β} (h:xs.length=ys.length):xs.isEmpty=ys.isEmpty:=by
  cases xs <;> cases ys <;> simp_all
theorem truV_of {K:PySem.W.Frag} {H:Hp} {d:D} {v:V} {b:Bool} (r:Rep K H d v) (e:truD d=some b):TruV K v H b:=by
  cases r with
  | non=>cases e; rfl
  | bl b=>cases e; rfl
  | int i=>cases e; rfl
  | str x =>
    simp only [truD] at e
    split at e
    · cases e; exact ⟨le_line (by assumption),rfl⟩
    · cases e
  | tup h1 h2=>cases e; exact .inr (.inl ⟨_,h1,by rw [isEmpty_len h2.length]⟩)
  | lst h1 h2=>cases e; exact .inl ⟨_,h1,by rw [isEmpty_len h2.length]⟩
  | @dct ks ds p vs l h1 h2 =>
    cases e
    have e1:(mkKV ks vs).length=ks.length:=by unfold mkKV; rw [List.length_zip]; omega
    exact .inr (.inr ⟨_,h1,by rw [isEmpty_len e1]⟩)
  | pdc h=>cases e
def dTr (f:DE):DT:=fun t=>(f t).bind fun r=>truD r.d
def dBo (f:DE):DT:=fun t=>(f t).bind fun r=>match r.d with
  | .bl b=>some b
  | _=>none
def dOr (f g:DT):DT:=fun t=>(f t).bind fun b=>if b then some true else g t
def dNot (f:DT):DT:=fun t=>(f t).bind fun b=>some (!b)
section
variable {X:Cx} {F:List Addr} {a b c:Expr} {es:List Expr} {fa fb fc:DE} {g g':DA} {ft fu:DT} {pos:Pos} {rest:List Expr}
theorem ptd_val (ha:PE X a (dE X.K F fa)) (he:∀ whole,isTrue a X.env whole=(do let v ← whole; standAt a.pos; holding [v] (truthy v)):=by intro _; rfl):PT X a (dT X.K F (dTr fa)):=by
  refine PT.imp (pt_truth ha he) ?_
  rintro σ H Q ⟨A,t,r,R,e,h⟩
  unfold dTr at e
  cases e1:fa t with
  | none=>rw [e1] at e; cases e
  | some r1 =>
    rw [e1] at e
    exact ⟨A,t,r1,R,e1,fun v H' g' q=>⟨r,truV_of q.full e,h H' g'⟩⟩
theorem ptd_cmp {op:CmpOp} {k:Ev→Ev→Option Ev} (ho:OpD X F (compareOp op) k) (ha:PE X a (dE X.K F fa)) (hb:PE X b (dE X.K F fb)) (hm:behindInMarks op b=false:=by first | exact nomark _ | (with_unfolding_all rfl)) :
    PT X (.Compare a [op] [b] pos) (dT X.K F (dBo (d2 k fa fb))):=by
  intro pins s σ H Q I h
  obtain ⟨A,t,b',R,e,h⟩:=h
  unfold dBo at e
  cases e1:d2 k fa fb t with
  | none=>rw [e1] at e; cases e
  | some r0 =>
    rw [e1] at e
    have w0:dE X.K F (d2 k fa fb) σ H (fun z H'=>Same H H'∧Rep X.K H' r0.d z):=⟨A,t,r0,R,e1,fun v H' g q=>⟨g,q.full⟩⟩
    obtain ⟨A2,t2,r1,r2,r,R2,e1',e2',e3,h3,w⟩:=two w0
    refine wpAny_isTrue_Compare1 (bin ha hb I w fun v u s2 x y H2 I2 rx ry q=>?_) hm
    obtain ⟨g,q1,q2⟩:=q
    refine thn (ho pins s2 σ H H2 A2 x y v u (fun z H'=>Same H H'∧Rep X.K H' r0.d z) r1 r2 r I2 R2.mu g rx ry q1 q2 e3 fun z H' g'=>h3 z H' (g.trans g')) fun cc s3 ⟨z,H3,I3,r3,g3,q3⟩=>?_
    have e:(match r0.d with | .bl b=>some b | _=>none)=some b':=e
    split at e
    · rename_i b2 z2
      cases e
      rw [z2] at q3
      cases q3
      cases r3
      exact wpAny_truthy_bool ⟨H3,I3,h H3 g3⟩
    · cases e
theorem pwd_or1 (ha:PT X a (dT X.K F ft)):PW X (.BoolOp .Or [a] pos) (dT X.K F ft):=pw_or1 ha
theorem pwd_or (ha:PT X a (dT X.K F ft)) (hb:PW X (.BoolOp .Or (b :: rest) pos) (dT X.K F fu)):PW X (.BoolOp .Or (a :: b :: rest) pos) (dT X.K F (dOr ft fu)):=by
  refine PW.imp (pw_or ha hb) ?_
  rintro σ H Q ⟨A,t,r,R,e,h⟩
  unfold dOr at e
  cases e1:ft t with
  | none=>rw [e1] at e; cases e
  | some r1 =>
    rw [e1] at e
    refine ⟨A,t,r1,R,e1,fun H1 g1=>?_⟩
    cases r1 with
    | true=>cases e; exact h H1 g1
    | false=>exact ⟨A,t,r,R.grow g1,e,fun H2 g2=>h H2 (g1.trans g2)⟩
theorem ptd_not (ha:PT X a (dT X.K F ft)):PT X (.UnaryOp .Not a pos) (dT X.K F (dNot ft)):=by
  refine PT.imp (pt_not ha) ?_
  rintro σ H Q ⟨A,t,r,R,e,h⟩
  unfold dNot at e
  cases e1:ft t with
  | none=>rw [e1] at e; cases e
  | some r1 =>
    rw [e1] at e
    cases e
    exact ⟨A,t,r1,R,e1,fun H1 g1=>h H1 g1⟩
def dAndV (f g:DE):DE:=fun t=>(f t).bind fun r=>match r.d with
  | .bl b=>if b then g t else some (.cl (.bl false))
  | _=>none
def kNotV:Ev→Option Ev:=fun r=>match r.d with
  | .bl b=>some (.cl (.bl (!b)))
  | _=>none
theorem ped_one {op} (h:PE X a (dE X.K F fa)):PE X (.BoolOp op [a] pos) (dE X.K F fa):=pe_one h
theorem ped_and (ha:PE X a (dE X.K F fa)) (hb:PE X (.BoolOp .And (b :: rest) pos) (dE X.K F fb)):PE X (.BoolOp .And (a :: b :: rest) pos) (dE X.K F (dAndV fa fb)):=by
  refine PE.imp (pe_and ha hb) ?_
  rintro σ H Q ⟨A,t,r,R,e,h⟩
  unfold dAndV at e
  cases e1:fa t with
  | none=>rw [e1] at e; cases e
  | some r1 =>
    rw [e1] at e
    refine ⟨A,t,r1,R,e1,fun v H1 g1 q1=>?_⟩
    have p:=q1.full
    have e:(match r1.d with | .bl b=>if b then fb t else some (.cl (.bl false)) | _=>none)=some r:=e
    split at e
    · rename_i b2 z
      rw [z] at p
      cases p
      refine ⟨b2,rfl,?_⟩
      cases b2 with
      | true=>exact ⟨A,t,r,R.grow g1,e,fun v2 H2 g2 q2=>h v2 H2 (g1.trans g2) (q2.back g1)⟩
      | false=>cases e; exact h _ H1 g1 (.bl false)
    · cases e
theorem ped_not (ha:PE X a (dE X.K F fa)):PE X (.UnaryOp .Not a pos) (dE X.K F (d1 kNotV fa)):=by
  refine PE.imp (pe_not ha) ?_
  rintro σ H Q ⟨A,t,r,R,e,h⟩
  unfold d1 at e
  cases e1:fa t with
  | none=>rw [e1] at e; cases e
  | some r1 =>
    rw [e1] at e
    refine ⟨A,t,r1,R,e1,fun x H1 g1 q1=>?_⟩
    have e:kNotV r1=some r:=e
    unfold kNotV at e
    split at e
    · rename_i i z
      cases e
      have p:=q1.full
      rw [z] at p
      cases p
      exact ⟨i,rfl,h _ H1 g1 (.bl _)⟩
    · cases e
end
inductive Out where
  | nx (t:Th) | rt (r:Ev) | bk (t:Th) | ct (t:Th)
abbrev DS:=Th→Option Out
def After (K:PySem.W.Frag) (F A:List Addr) (H:Hp) (N:L2.St→Hp→Prop) (t:Th):Prop := ∀ σ' H' A',Gr A H A' H'→RS K F H' A' t σ'→N σ' H'
def RetEv (K:PySem.W.Frag) (F A:List Addr) (H H':Hp):Ev→V→Prop
  | .cl d,v=>Rep K (hide F H') d v
  | .tm d,v=>Rep K (hide F H') d v
  | .nw xs,v => ∃ p vs,v = .ref p∧(p ∈ A ∨ H p=none)∧p ∉ F∧H' p=some (.lst vs)∧Reps K (hide (p :: F) H') xs vs
  | .dn d,v => ∃ B,B.Nodup∧(∀ b ∈ B,(b ∈ A ∨ H b=none)∧b ∉ F)∧RepD K (hide (B ++ F) H') H' d v B
def Back (K:PySem.W.Frag) (F A:List Addr) (H:Hp) (N:VK) (r:Ev):Prop := ∀ v H' A',Gr A H A' H'→RetEv K F A H H' r v→N v H'
def dS (K:PySem.W.Frag) (F:List Addr) (g:DS):TS:=fun E σ H => ∃ A t o,RS K F H A t σ∧g t=some o∧match o with
  | .nx t'=>After K F A H E.nx t'
  | .bk t'=>After K F A H E.bk t'
  | .ct t'=>After K F A H E.ct t'
  | .rt r=>Back K F A H E.rt r
end DL
namespace DL
open PySem PySem.Spec PyProof.Rows L2
theorem RetEv.back {K:PySem.W.Frag} {F A A1:List Addr} {H H1 H':Hp} {r:Ev} {v:V} (g:Gr A H A1 H1) (h:RetEv K F A1 H1 H' r v):RetEv K F A H H' r v:=by
  cases r with
  | cl d=>exact h
  | tm d=>exact h
  | nw xs =>
    obtain ⟨p,vs,rfl,h1,h2,h3,h4⟩:=h
    refine ⟨p,vs,rfl,?_,h2,h3,h4⟩
    rcases h1 with h1 | h1
    · exact g.nw p h1
    · by_cases z:p ∈ A
      · exact .inl z
      · refine .inr ?_
        cases w:H p with
        | none=>rfl
        | some o=>rw [g.kp p o z w] at h1; cases h1
  | dn d =>
    obtain ⟨B,h0,h1,h2⟩:=h
    refine ⟨B,h0,fun p hp=>⟨?_,(h1 p hp).2⟩,h2⟩
    rcases (h1 p hp).1 with h1 | h1
    · exact g.nw p h1
    · by_cases z:p ∈ A
      · exact .inl z
      · refine .inr ?_
        cases w:H p with
        | none=>rfl
        | some o=>rw [g.kp p o z w] at h1; cases h1
theorem After.back {K:PySem.W.Frag} {F A A1:List Addr} {H H1:Hp} {N:L2.St→Hp→Prop} {t:Th} (h:After K F A H N t) (g:Gr A H A1 H1):After K F A1 H1 N t:=fun σ' H' A' g' R=>h σ' H' A' (g.trans g') R
theorem Back.back {K:PySem.W.Frag} {F A A1:List Addr} {H H1:Hp} {N:VK} {r:Ev} (h:Back K F A H N r) (g:Gr A H A1 H1):Back K F A1 H1 N r:=fun v H' A' g' R=>h v H' A' (g.trans g') (R.back g)
theorem PS.imp {X:Cx} {e:Stmt} {t t':TS} (h:PS X e t) (i:∀ E σ H,t' E σ H→t E σ H):PS X e t':=fun pins s σ H D I q=>h pins s σ H D I (i D σ H q)
theorem PSs.imp {X:Cx} {e:List Stmt} {t t':TS} (h:PSs X e t) (i:∀ E σ H,t' E σ H→t E σ H):PSs X e t':=fun pins s σ H D I q=>h pins s σ H D I (i D σ H q)
theorem Lists.left {H:Hp} {A F:List Addr} (h:Lists H (A ++ F)):Lists H A:=fun p hp=>h p (List.mem_append_left _ hp)
def dSkip:DS:=fun t=>some (.nx t)
def dSeq (g1 g2:DS):DS:=fun t=>(g1 t).bind fun o=>match o with
  | .nx t'=>g2 t'
  | .rt r=>some (.rt r)
  | .bk t'=>some (.bk t')
  | .ct t'=>some (.ct t')
section
variable {X:Cx} {F:List Addr} {a b c:Expr} {es:List Expr} {fa fb fc:DE} {g g1 g2:DS} {ft fu:DT} {pos:Pos} {st:Stmt} {rest:List Stmt}
theorem psd_nil:PSs X [] (dS X.K F dSkip):=PSs.imp pss_nil fun E σ H ⟨A,t,o,R,e,h⟩=>by cases e; exact h σ H A (Gr.refl R.mu.left) R
theorem psd_cons (h1:PS X st (dS X.K F g1)) (h2:PSs X rest (dS X.K F g2)):PSs X (st :: rest) (dS X.K F (dSeq g1 g2)):=by
  refine PSs.imp (pss_cons h1 h2) ?_
  rintro E σ H ⟨A,t,o,R,e,h⟩
  unfold dSeq at e
  cases e1:g1 t with
  | none=>rw [e1] at e; cases e
  | some o1 =>
    rw [e1] at e
    refine ⟨A,t,o1,R,e1,?_⟩
    cases o1 with
    | nx t' =>
      intro σ' H' A' g' R'
      refine ⟨A',t',o,R',e,?_⟩
      cases o with
      | nx t2=>exact After.back h g'
      | bk t2=>exact After.back h g'
      | ct t2=>exact After.back h g'
      | rt r=>exact Back.back h g'
    | rt r=>cases e; exact h
    | bk t2=>cases e; exact h
    | ct t2=>cases e; exact h
theorem psd_one (h1:PS X st (dS X.K F g1)):PSs X [st] (dS X.K F g1):=pss_one h1
def dIfS (c:DT) (g1 g2:DS):DS:=fun t=>(c t).bind fun b=>if b then g1 t else g2 t
theorem psd_if {s1 s2:List Stmt} (hc:PT X c (dT X.K F ft)) (ha:PSs X s1 (dS X.K F g1)) (hb:PSs X s2 (dS X.K F g2)):PS X (.If c s1 s2 pos) (dS X.K F (dIfS ft g1 g2)):=by
  refine PS.imp (ps_if hc ha hb) ?_
  rintro E σ H ⟨A,t,o,R,e,h⟩
  unfold dIfS at e
  cases e1:ft t with
  | none=>rw [e1] at e; cases e
  | some r1 =>
    rw [e1] at e
    refine ⟨A,t,r1,R,e1,fun H1 gs=>?_⟩
    have gr:Gr A H A H1:=Gr.of_same R.mu.left gs
    cases r1 with
    | true =>
      refine ⟨A,t,o,R.grow gs,e,?_⟩
      cases o with
      | nx t2=>exact After.back h gr
      | bk t2=>exact After.back h gr
      | ct t2=>exact After.back h gr
      | rt r=>exact Back.back h gr
    | false =>
      refine ⟨A,t,o,R.grow gs,e,?_⟩
      cases o with
      | nx t2=>exact After.back h gr
      | bk t2=>exact After.back h gr
      | ct t2=>exact After.back h gr
      | rt r=>exact Back.back h gr
def dRet (f:DE):DS:=fun t=>(f t).bind fun r=>some (.rt r)
theorem RetEv.of {K:PySem.W.Frag} {F A:List Addr} {H H':Hp} {r:Ev} {v:V} (m:Lists H (A ++ F)) (h:RepEv K F A H H' r v):RetEv K F A H H' r v:=by
  cases r with
  | cl d=>exact Rep.mono (hide_less H' fun a z=>List.mem_append_right _ z) h
  | tm d=>exact h
  | nw xs =>
    obtain ⟨p,vs,rfl,h1,h2,h3⟩:=h
    have np:p ∉ A ++ F:=notin_lists m h1
    refine ⟨p,vs,rfl, .inr h1,fun z=>np (List.mem_append_right _ z),h2,Reps.mono (hide_less H' fun a z=>?_) h3⟩
    rcases List.mem_cons.mp z with z | z
    · rw [z]; exact List.mem_cons_self ..
    · exact List.mem_cons_of_mem _ (List.mem_append_right _ z)
  | dn d =>
    obtain ⟨B,h1,h2,h3⟩:=h
    refine ⟨B,h1,fun b hb=>⟨.inr (h2 b hb),fun z=>notin_lists m (h2 b hb) (List.mem_append_right _ z)⟩,RepD.mono (hide_less H' fun a z=>?_) h3 fun _ _ _ q=>q⟩
    rcases List.mem_append.mp z with z | z
    · exact List.mem_append_left _ z
    · exact List.mem_append_right _ (List.mem_append_right _ z)
theorem psd_ret (ha:PE X a (dE X.K F fa)):PS X (.Return (some a) pos) (dS X.K F (dRet fa)):=by
  refine PS.imp (ps_ret ha) ?_
  rintro E σ H ⟨A,t,o,R,e,h⟩
  unfold dRet at e
  cases e1:fa t with
  | none=>rw [e1] at e; cases e
  | some r1 =>
    rw [e1] at e
    cases e
    exact ⟨A,t,r1,R,e1,fun v H' gs q=>h v H' A (Gr.of_same R.mu.left gs) (RetEv.of R.mu q)⟩
end
theorem RSl.setVal {K:PySem.W.Frag} {H0 H:Hp} {d:D} {v:V} (h:Rep K H0 d v):∀ {t:Th} {σ:L2.St} {A:List Addr} (i:Nat),RSl K H0 H t σ A→i < t.length→∃ A',RSl K H0 H (t.set i (.val d)) (σ.set i (some v)) A'∧List.Sublist A' A
  | _,_,_,_, .nil,l=>by simp at l
  | _,_,_,0, .no r,_=>⟨_, .val h r,List.Sublist.refl _⟩
  | _,_,_,0, .val _ r,_=>⟨_, .val h r,List.Sublist.refl _⟩
  | _,_,_,0, .own _ _ r,_=>⟨_, .val h r,List.sublist_cons_self _ _⟩
  | _,_,_,0, .dp _ r,_=>⟨_, .val h r,List.sublist_append_right _ _⟩
  | _,_,_,i + 1, .no r,l=>let ⟨A',a,b⟩:=RSl.setVal h i r (by simpa using l); ⟨A', .no a,b⟩
  | _,_,_,i + 1, .val q r,l=>let ⟨A',a,b⟩:=RSl.setVal h i r (by simpa using l); ⟨A', .val q a,b⟩
  | _,_,_,i + 1, .own q1 q2 r,l=>let ⟨A',a,b⟩:=RSl.setVal h i r (by simpa using l); ⟨_, .own q1 q2 a,b.cons₂ _⟩
  | _,_,_,i + 1, .dp q r,l=>let ⟨A',a,b⟩:=RSl.setVal h i r (by simpa using l); ⟨_, .dp q a,List.Sublist.append (List.Sublist.refl _) b⟩
theorem RSl.setAny {K:PySem.W.Frag} {H0 H:Hp} {s:Sl} {v:V} {B:List Addr} (h:∀ {t:Th} {σ:L2.St} {A:List Addr},RSl K H0 H t σ A→RSl K H0 H (s :: t) (some v :: σ) (B ++ A)):∀ {t:Th} {σ:L2.St} {A:List Addr} (i:Nat),RSl K H0 H t σ A→i < t.length →
    ∃ A',RSl K H0 H (t.set i s) (σ.set i (some v)) A'∧(∀ x ∈ A',x ∈ B ∨ x ∈ A)∧(A.Nodup→B.Nodup→(∀ b ∈ B,b ∉ A)→A'.Nodup)
  | _,_,_,_, .nil,l=>by simp at l
  | _,_,A,0, .no r,_=>⟨_,h r,fun x hx=>List.mem_append.mp hx,fun n1 n2 d=>List.nodup_append.mpr ⟨n2,n1,fun a ha b hb e=>d a ha (e ▸ hb)⟩⟩
  | _,_,A,0, .val _ r,_=>⟨_,h r,fun x hx=>List.mem_append.mp hx,fun n1 n2 d=>List.nodup_append.mpr ⟨n2,n1,fun a ha b hb e=>d a ha (e ▸ hb)⟩⟩
  | _,_,_,0, .own _ _ r,_=>⟨_,h r,fun x hx=>(List.mem_append.mp hx).imp id (List.mem_cons_of_mem _),fun n1 n2 d=>List.nodup_append.mpr ⟨n2,(List.nodup_cons.mp n1).2,fun a ha b hb e=>d a ha (e ▸ List.mem_cons_of_mem _ hb)⟩⟩
  | _,_,_,0, .dp _ r,_=>⟨_,h r,fun x hx=>(List.mem_append.mp hx).imp id (List.mem_append_right _),fun n1 n2 d=>List.nodup_append.mpr ⟨n2,(List.nodup_append.mp n1).2.1,fun a ha b hb e=>d a ha (e ▸ List.mem_append_right _ hb)⟩⟩
  | _,_,_,i + 1, .no r,l=>let ⟨A',a,b,c⟩:=RSl.setAny h i r (by simpa using l); ⟨A', .no a,b,c⟩
  | _,_,_,i + 1, .val q r,l=>let ⟨A',a,b,c⟩:=RSl.setAny h i r (by simpa using l); ⟨A', .val q a,b,c⟩
  | _,_,_,i + 1, .own (p:=p2) q1 q2 r,l=>by
    obtain ⟨A',a,b,c⟩:=RSl.setAny h i r (by simpa using l)
    refine ⟨_, .own q1 q2 a,fun x hx=>?_,fun nd nb np=>?_⟩
    · rcases List.mem_cons.mp hx with z | z
      · exact .inr (z ▸ List.mem_cons_self ..)
      · exact (b x z).imp id (List.mem_cons_of_mem _)
    · have n1:=List.nodup_cons.mp nd
      refine List.nodup_cons.mpr ⟨fun z=>?_,c n1.2 nb fun x hx z=>np x hx (List.mem_cons_of_mem _ z)⟩
      rcases b _ z with z | z
      · exact np _ z (List.mem_cons_self ..)
      · exact n1.1 z
  | _,_,_,i + 1, .dp (B:=C) q r,l=>by
    obtain ⟨A',a,b,c⟩:=RSl.setAny h i r (by simpa using l)
    refine ⟨_, .dp q a,fun x hx=>?_,fun nd nb np=>?_⟩
    · rcases List.mem_append.mp hx with z | z
      · exact .inr (List.mem_append_left _ z)
      · exact (b x z).imp id (List.mem_append_right _)
    · have n1:=List.nodup_append.mp nd
      refine List.nodup_append.mpr ⟨n1.1,c n1.2.1 nb fun x hx z=>np x hx (List.mem_append_right _ z),fun x hx y hy e=>?_⟩
      subst e
      rcases b _ hy with z | z
      · exact np _ z (List.mem_append_left _ hx)
      · exact n1.2.2 _ hx _ z rfl
theorem RS.putAny {K:PySem.W.Frag} {F A:List Addr} {H H':Hp} {t:Th} {σ:L2.St} {i:Nat} {s:Sl} {v:V} {B:List Addr} (R:RS K F H A t σ) (g:Same H H') (fr:∀ b ∈ B,H b=none) (nb:B.Nodup) (lb:Lists H' B)
    (mk:∀ {t:Th} {σ:L2.St} {A':List Addr},RSl K (hide (B ++ (A ++ F)) H') H' t σ A'→RSl K (hide (B ++ (A ++ F)) H') H' (s :: t) (some v :: σ) (B ++ A')) (hi:i < t.length) :
    ∃ A',Gr A H A' H'∧RS K F H' A' (t.set i s) (σ.set i (some v)):=by
  have R':=R.grow g
  have np:∀ b ∈ B,b ∉ A ++ F:=fun b hb=>notin_lists R.mu (fr b hb)
  have r0:RSl K (hide (B ++ (A ++ F)) H') H' t σ A:=RSl.mono (fun b o h=>by
    obtain ⟨n,h⟩:=of_hide h
    refine hide_get (g _ _ h) fun z=>?_
    rcases List.mem_append.mp z with z | z
    · rw [fr b z] at h; cases h
    · exact n z) R.rel fun b _ o h=>g _ _ h
  obtain ⟨A',r1,sub,nd⟩:=RSl.setAny mk i r0 hi
  refine ⟨A',⟨fun b o _ h=>g b o h,fun b hb=>by obtain ⟨ws,z⟩:=R.mu b (List.mem_append_left _ hb); rw [g _ _ z]; simp,fun b hb=>?_⟩,?_,nd R.nd nb fun b hb z=>np b hb (List.mem_append_left _ z),fun b hb=>?_,?_⟩
  · rcases sub b hb with z | z
    · exact .inr (fr b z)
    · exact .inl z
  · intro b hb
    rcases List.mem_append.mp hb with z | z
    · rcases sub b z with z | z
      · exact lb b z
      · exact R'.mu b (List.mem_append_left _ z)
    · exact R'.mu b (List.mem_append_right _ z)
  · rcases sub b hb with z | z
    · exact fun w=>np b z (List.mem_append_right _ w)
    · exact R.dj b z
  · refine RSl.mono (hide_less H' fun b z=>?_) r1 fun _ _ _ h=>h
    rcases List.mem_append.mp z with z | z
    · rcases sub b z with z | z
      · exact List.mem_append_left _ z
      · exact List.mem_append_right _ (List.mem_append_left _ z)
    · exact List.mem_append_right _ (List.mem_append_right _ z)
def setSl (t:Th) (i:Nat) (r:Ev):Option Th:=if i < t.length then (match r with
  | .cl d=>some (t.set i (.val d))
  | .tm d=>if flat d then some (t.set i (.val d)) else none
  | .nw xs=>some (t.set i (.own xs))
  | .dn d=>some (t.set i (.dp d))) else none
theorem RS.put {K:PySem.W.Frag} {F A:List Addr} {H H':Hp} {t t':Th} {σ:L2.St} {i:Nat} {r:Ev} {v:V} (R:RS K F H A t σ) (g:Same H H') (q:RepEv K F A H H' r v) (e:setSl t i r=some t') :
    ∃ A',Gr A H A' H'∧RS K F H' A' t' (σ.set i (some v)):=by
  have R':=R.grow g
  have val:∀ d,Rep K (hide (A ++ F) H') d v→i < t.length→∃ A',Gr A H A' H'∧RS K F H' A' (t.set i (.val d)) (σ.set i (some v)):=fun d hd hi=>by
    obtain ⟨A',r1,sub⟩:=RSl.setVal hd i R'.rel hi
    have sub':∀ x ∈ A',x ∈ A:=fun x hx=>sub.subset hx
    refine ⟨A',⟨fun b o _ h=>g b o h,fun b hb=>by obtain ⟨vs,z⟩:=R.mu b (List.mem_append_left _ hb); rw [g _ _ z]; simp,fun b hb => .inl (sub' b hb)⟩,?_,R.nd.sublist sub,fun p hp=>R.dj p (sub' p hp),?_⟩
    · intro p hp
      rcases List.mem_append.mp hp with z | z
      · exact R'.mu p (List.mem_append_left _ (sub' p z))
      · exact R'.mu p (List.mem_append_right _ z)
    · refine RSl.mono (hide_less H' fun a z=>?_) r1 fun _ _ _ h=>h
      rcases List.mem_append.mp z with z | z
      · exact List.mem_append_left _ (sub' a z)
      · exact List.mem_append_right _ z
  unfold setSl at e
  split at e
  case isFalse=>cases e
  rename_i hi
  cases r with
  | cl d=>cases e; exact val d q hi
  | tm d =>
    simp only at e
    split at e
    · rename_i f
      cases e
      exact val d (Rep.hid R'.mu f (Rep.mono (hide_sub _ _) q)) hi
    · cases e
  | nw xs =>
    cases e
    obtain ⟨p,vs,rfl,h1,h2,h3⟩:=q
    exact R.putAny (B:=[p]) g (fun b hb=>by simp at hb; subst hb; exact h1) (by simp) (fun b hb=>by simp at hb; subst hb; exact ⟨mL vs,h2⟩) (fun r => .own h2 h3 r) hi
  | dn d =>
    cases e
    obtain ⟨B,h1,h2,h3⟩:=q
    exact R.putAny (B:=B) g h2 h1 h3.lists (fun r => .dp h3 r) hi
section
variable {X:Cx} {F:List Addr} {a b c:Expr} {es:List Expr} {fa fb fc:DE} {g g1 g2:DS} {ft fu:DT} {pos:Pos} {st:Stmt} {rest:List Stmt}
def dAsg (i:Nat) (f:DE):DS:=fun t=>(f t).bind fun r=>(setSl t i r).map Out.nx
theorem psd_set {i:Nat} {x:Str} {pos':Pos} (hN:X.N.Nodup) (hi:X.N[i]?=some x) (hx:Loc X.env.scope x) (he:PE X a (dE X.K F fa)) (hs:swapsWith a (some (.Name x pos')) pos.line X.env=pure false:=by rfl) (hf:X.fn x=true ∨ X.env.scope.names.lookup x=some .local:=by first | exact .inl rfl | exact .inr rfl | assumption) :
    PS X (.Assign [.Name x pos'] a pos) (dS X.K F (dAsg i fa)):=by
  refine PS.imp (ps_set hN hi hx he hs hf) ?_
  rintro E σ H ⟨A,t,o,R,e,h⟩
  unfold dAsg at e
  cases e1:fa t with
  | none=>rw [e1] at e; cases e
  | some r1 =>
    rw [e1] at e
    have e:(setSl t i r1).map Out.nx=some o:=e
    cases e2:setSl t i r1 with
    | none=>rw [e2] at e; cases e
    | some t' =>
      rw [e2] at e
      cases e
      refine ⟨A,t,r1,R,e1,fun v H' gs q=>?_⟩
      obtain ⟨A',g',R'⟩:=R.put gs q e2
      exact h _ _ _ g' R'
end
end DL
namespace DL
open PySem PySem.Spec PyProof.Rows L2
def TgOk (K:PySem.W.Frag) (F:List Addr) (g:TG) (k:D→Th→Option Th):Prop :=
  ∀ σ H A t t' d x (Q:L2.St→Hp→Prop),RS K F H A t σ→Rep K (hide (A ++ F) H) d x→k d t=some t'→(∀ σ2 A2,Gr A H A2 H→RS K F H A2 t' σ2→Q σ2 H)→g x σ H Q
def TgsOk (K:PySem.W.Frag) (F:List Addr) (g:TGs) (k:List D→Th→Option Th):Prop :=
  ∀ σ H A t t' ds xs (Q:L2.St→Hp→Prop),RS K F H A t σ→Reps K (hide (A ++ F) H) ds xs→k ds t=some t'→(∀ σ2 A2,Gr A H A2 H→RS K F H A2 t' σ2→Q σ2 H)→g xs σ H Q
def gkName (i:Nat):D→Th→Option Th:=fun d t=>setSl t i (.cl d)
def gkNil:List D→Th→Option Th:=fun ds t=>match ds with
  | []=>some t
  | _=>none
def gkCons (k:D→Th→Option Th) (k':List D→Th→Option Th):List D→Th→Option Th:=fun ds t=>match ds with
  | d :: r=>(k d t).bind (k' r)
  | []=>none
def gkTup (n:Nat) (k:List D→Th→Option Th):D→Th→Option Th:=fun d t=>match d with
  | .tup ds=>if ds.length=n then k ds t else none
  | _=>none
theorem tg_name {K:PySem.W.Frag} {F:List Addr} (i:Nat):TgOk K F (gName i) (gkName i):=by
  intro σ H A t t' d x Q R r e h
  obtain ⟨A',g,R'⟩:=R.put (i:=i) (r := .cl d) (Same.refl H) r e
  exact h _ _ g R'
theorem tgs_nil {K:PySem.W.Frag} {F:List Addr}:TgsOk K F gNil gkNil:=by
  intro σ H A t t' ds xs Q R r e h
  cases r with
  | nil=>cases e; exact ⟨rfl,h σ A (Gr.refl R.mu.left) R⟩
  | cons _ _=>cases e
theorem tgs_cons {K:PySem.W.Frag} {F:List Addr} {g:TG} {g':TGs} {k:D→Th→Option Th} {k':List D→Th→Option Th} (h1:TgOk K F g k) (h2:TgsOk K F g' k'):TgsOk K F (gCons g g') (gkCons k k'):=by
  intro σ H A t t' ds xs Q R r e h
  cases r with
  | nil=>cases e
  | @cons d v ds vs r1 r2 =>
    unfold gkCons at e
    cases e1:k d t with
    | none=>simp only [e1] at e; cases e
    | some t1 =>
      simp only [e1] at e
      refine ⟨v,vs,rfl,h1 σ H A t t1 d v _ R r1 e1 fun σ2 A2 g2 R2=>?_⟩
      exact h2 σ2 H A2 t1 t' ds vs Q R2 (Reps.mono g2.same r2) e fun σ3 A3 g3 R3=>h σ3 A3 (g2.trans g3) R3
theorem tg_tup {K:PySem.W.Frag} {F:List Addr} {n:Nat} {g':TGs} {k':List D→Th→Option Th} (h2:TgsOk K F g' k'):TgOk K F (gTup K n g') (gkTup n k'):=by
  intro σ H A t t' d x Q R r e h
  unfold gkTup at e
  split at e
  · rename_i ds
    split at e
    · rename_i hl
      cases r with
      | @tup _ p vs h1 hr=>exact ⟨p,vs,rfl,SqT.mono (hide_sub _ _) h1,by rw [hr.length]; exact hl,h2 σ H A t t' ds vs Q R hr e h⟩
    · cases e
  · cases e
def dAsgT (k:D→Th→Option Th) (f:DE):DS:=fun t=>(f t).bind fun r=>if r.ok then (k r.d t).map Out.nx else none
section
variable {X:Cx} {F:List Addr} {a b c:Expr} {es:List Expr} {fa fb fc:DE} {g g1 g2:DS} {ft fu:DT} {pos:Pos} {st:Stmt} {rest:List Stmt} {tg:Expr} {gt:TG} {kt:D→Th→Option Th}
theorem psd_asg (he:PE X a (dE X.K F fa)) (hg:PG X tg gt) (ht:TgOk X.K F gt kt) (hs:swapsWithSole [tg] a pos.line X.env=pure false:=by rfl) (hw:swappedStores [tg] a X.env=pure none:=by rfl)
    (h1:(assignEach [tg] X.env).map (·.2)=[assign tg X.env]:=by rfl):PS X (.Assign [tg] a pos) (dS X.K F (dAsgT kt fa)):=by
  refine PS.imp (ps_asg he hg hs hw h1) ?_
  rintro E σ H ⟨A,t,o,R,e,h⟩
  unfold dAsgT at e
  cases e1:fa t with
  | none=>rw [e1] at e; cases e
  | some r1 =>
    rw [e1] at e
    have e:(if r1.ok then (kt r1.d t).map Out.nx else none)=some o:=e
    split at e
    case isFalse=>cases e
    rename_i ok
    cases e2:kt r1.d t with
    | none=>rw [e2] at e; cases e
    | some t' =>
      rw [e2] at e
      cases e
      refine ⟨A,t,r1,R,e1,fun v H' gs q=>?_⟩
      exact ht σ H' A t t' r1.d v E.nx (R.grow gs) (q.clean R.mu gs ok) e2 fun σ2 A2 g2 R2=>h σ2 H' A2 ((Gr.of_same R.mu.left gs).trans g2) R2
end
def forD (k:D→Th→Option Th) (body:DS):List D→Th→Option Out
  | [],t=>some (.nx t)
  | d :: ds,t=>(k d t).bind fun t1=>(body t1).bind fun o=>match o with
    | .nx t'=>forD k body ds t'
    | .ct t'=>forD k body ds t'
    | .bk t'=>some (.nx t')
    | .rt r=>some (.rt r)
def Post (K:PySem.W.Frag) (F A:List Addr) (H:Hp) (E:Ends):Out→Prop
  | .nx t'=>After K F A H E.nx t'
  | .bk t'=>After K F A H E.bk t'
  | .ct t'=>After K F A H E.ct t'
  | .rt r=>Back K F A H E.rt r
theorem Post.back {K:PySem.W.Frag} {F A A1:List Addr} {H H1:Hp} {E:Ends} {o:Out} (h:Post K F A H E o) (g:Gr A H A1 H1):Post K F A1 H1 E o:=by
  cases o with
  | nx t2=>exact After.back h g
  | bk t2=>exact After.back h g
  | ct t2=>exact After.back h g
  | rt r=>exact Back.back h g
theorem dS_mk {K:PySem.W.Frag} {F A:List Addr} {g:DS} {E:Ends} {σ:L2.St} {H:Hp} {t:Th} {o:Out} (R:RS K F H A t σ) (e:g t=some o) (p:Post K F A H E o):dS K F g E σ H:=⟨A,t,o,R,e,by cases o <;> exact p⟩
theorem dS_of {K:PySem.W.Frag} {F:List Addr} {g:DS} {E:Ends} {σ:L2.St} {H:Hp} (h:dS K F g E σ H):∃ A t o,RS K F H A t σ∧g t=some o∧Post K F A H E o:=by
  obtain ⟨A,t,o,R,e,h⟩:=h
  exact ⟨A,t,o,R,e,by cases o <;> exact h⟩
section
variable {X:Cx} {F:List Addr} {a b c:Expr} {es:List Expr} {fa fb fc:DE} {g g1 g2:DS} {ft fu:DT} {pos:Pos} {st:Stmt} {rest:List Stmt} {tg:Expr} {gt:TG} {kt:D→Th→Option Th}
theorem for_core {K:PySem.W.Frag} {J:It} {ds:List D} {E:Ends} {σ:L2.St} {H:Hp} {A:List Addr} {t:Th} {o:Out} (Good:List Addr→Hp→Prop) (ht:TgOk K F gt kt) (R:RS K F H A t σ) (e:forD kt g ds t=some o) (h:Post K F A H E o) (g0:Good A H)
    (keep:∀ A H A' H',Good A H→Gr A H A' H'→Good A' H') (stop:∀ A H,Good A H→J.stop ds.length H) (go:∀ A H i,Good A H→i < ds.length→J.go i H)
    (yld:∀ A H i x H',Good A H→Lists H (A ++ F)→J.yld i H x H'→i < ds.length→Same H H'∧∃ d,ds[i]?=some d∧Rep K (hide (A ++ F) H') d x) :
    ∃ W:Nat→Nat→L2.St→Hp→Prop,(∃ m,W 0 m σ H)∧∀ i m σ H,W i m σ H →
      (J.stop i H∧E.nx σ H) ∨ (J.go i H∧∃ N:L2.St→Hp→Prop,(∀ σ' H',N σ' H'→∃ m',m' < m∧W (i + 1) m' σ' H')∧∀ x H',J.yld i H x H'→gt x σ H' fun σ2 H2=>dS K F g { E with nx:=N,ct:=N,bk:=E.nx } σ2 H2):=by
  refine ⟨fun i m σ H=>i + m=ds.length∧∃ A t o,forD kt g (ds.drop i) t=some o∧RS K F H A t σ∧Post K F A H E o∧Good A H,⟨ds.length,by omega,A,t,o,by simpa using e,R,h,g0⟩,?_⟩
  rintro i m σ H ⟨hm,A,t,o,e,R,h,gd⟩
  cases m with
  | zero =>
    have z:i=ds.length:=by omega
    subst z
    rw [List.drop_length] at e
    cases e
    exact .inl ⟨stop A H gd,h σ H A (Gr.refl R.mu.left) R⟩
  | succ m =>
    have hi:i < ds.length:=by omega
    refine .inr ⟨go A H i gd hi,fun σ' H'=>i + 1 + m=ds.length∧∃ A t o,forD kt g (ds.drop (i + 1)) t=some o∧RS K F H' A t σ'∧Post K F A H' E o∧Good A H',fun σ' H' q=>⟨m,Nat.lt_succ_self m,q⟩,fun x H' y=>?_⟩
    obtain ⟨gs,d,hd,rd⟩:=yld A H i x H' gd R.mu y hi
    have ed:ds.drop i=d :: ds.drop (i + 1):=by
      have hd':ds[i]=d:=by
        rw [List.getElem?_eq_getElem hi] at hd
        exact Option.some.inj hd
      rw [← hd']
      exact List.drop_eq_getElem_cons hi
    rw [ed] at e
    simp only [forD] at e
    cases e1:kt d t with
    | none=>rw [e1] at e; cases e
    | some t1 =>
      rw [e1] at e
      refine ht σ H' A t t1 d x _ (R.grow gs) rd e1 fun σ2 A2 gr3 R2=>?_
      have gr2:Gr A H A2 H':=(Gr.of_same R.mu.left gs).trans gr3
      have e:((g t1).bind fun o=>match o with
          | .nx t'=>forD kt g (ds.drop (i + 1)) t'
          | .ct t'=>forD kt g (ds.drop (i + 1)) t'
          | .bk t'=>some (.nx t')
          | .rt r=>some (.rt r))=some o:=e
      cases e2:g t1 with
      | none=>rw [e2] at e; cases e
      | some o2 =>
        rw [e2] at e
        refine dS_mk R2 e2 ?_
        cases o2 with
        | nx t'=>exact fun σ' H' A' g' R'=>⟨by omega,A',t',o,e,R',h.back (gr2.trans g'),keep _ _ _ _ gd (gr2.trans g')⟩
        | ct t'=>exact fun σ' H' A' g' R'=>⟨by omega,A',t',o,e,R',h.back (gr2.trans g'),keep _ _ _ _ gd (gr2.trans g')⟩
        | bk t'=>cases e; exact fun σ' H' A' g' R'=>h σ' H' A' (gr2.trans g') R'
        | rt r=>cases e; exact Back.back h gr2
def rngD (lo:Int) (n:Nat):List D:=(List.range n).map fun (i:Nat)=>D.int (lo + (i:Int))
def bigI (i:Int):Bool:=decide (-1000000000000 ≤ i∧i ≤ 1000000000000)
def dRng1 (k:D→Th→Option Th) (f:DE) (body:DS):DS:=fun t=>(f t).bind fun r=>match r.d with
  | .int n=>if bigI n then forD k body (rngD 0 n.toNat) t else none
  | _=>none
theorem rng_len (lo:Int) (n:Nat):(rngD lo n).length=n:=by simp [rngD]
theorem rng_core {K:PySem.W.Frag} {lo:Int} {n:Nat} {E:Ends} {σ:L2.St} {H:Hp} {A:List Addr} {t:Th} {o:Out} (ht:TgOk K F gt kt) (R:RS K F H A t σ) (e:forD kt g (rngD lo n) t=some o) (h:Post K F A H E o) :
    ∃ W:Nat→Nat→L2.St→Hp→Prop,(∃ m,W 0 m σ H)∧∀ i m σ H,W i m σ H →
      ((Itr lo n).stop i H∧E.nx σ H) ∨ ((Itr lo n).go i H∧∃ N:L2.St→Hp→Prop,(∀ σ' H',N σ' H'→∃ m',m' < m∧W (i + 1) m' σ' H')∧∀ x H',(Itr lo n).yld i H x H'→gt x σ H' fun σ2 H2=>dS K F g { E with nx:=N,ct:=N,bk:=E.nx } σ2 H2):=by
  refine for_core (fun _ _=>True) ht R e h trivial (fun _ _ _ _ _ _=>trivial) (fun A H _=>?_) (fun A H i _ hi=>?_) (fun A H i x H' _ _ y hi=>?_)
  · rw [rng_len]; exact Nat.le_refl n
  · rw [rng_len] at hi; exact hi
  · rw [rng_len] at hi
    obtain ⟨e1,e2⟩:=y
    subst e1
    refine ⟨Same.refl _, .int (lo + i),by simp [rngD,hi],?_⟩
    rw [e2]; exact .int _
theorem psd_rng1 {body:List Stmt} {p1 p2:Pos} (hp:PassesOwn (model X.prog X.w) X.A X.env X.xe) (hc:X.calm=true) (hgr:Gl X "range") (hm:X.mg "range"=none) (ha:PE X a (dE X.K F fa)) (hg:PG X tg gt) (ht:TgOk X.K F gt kt) (hb:PSs X body (dS X.K F g))
    (hst:starEach [a] X.env=[(false,eval a X.env)]:=by rfl) (hs:∀ x,foldedSetIterable (.Call (.Name "range" p1) [a] [] p2) X.env x=pure x:=by intro _; rfl):PS X (.For tg (.Call (.Name "range" p1) [a] [] p2) body [] pos) (dS X.K F (dRng1 kt fa g)):=by
  refine PS.imp (ps_for hp hc (pi_range1 hgr hm (pa_cons ha pa_nil hst) hst) hg hb hs) ?_
  intro E σ H hh
  obtain ⟨A,t,o,R,e,h⟩:=dS_of hh
  unfold dRng1 at e
  cases e1:fa t with
  | none=>rw [e1] at e; cases e
  | some r =>
    rw [e1] at e
    refine ⟨A,t,r,R,e1,fun v H1 gs q=>?_⟩
    have e:(match r.d with
      | .int n=>if bigI n then forD kt g (rngD 0 n.toNat) t else none
      | _=>none)=some o:=e
    split at e
    case h_2=>cases e
    rename_i n z
    split at e
    case isFalse=>cases e
    rename_i ok
    simp only [bigI,decide_eq_true_eq] at ok
    have p:=q.full
    rw [z] at p
    cases rep_int p
    exact ⟨n,rfl,by omega,by omega,rng_core ht (R.grow gs) e (h.back (Gr.of_same R.mu.left gs))⟩
end
end DL
namespace DL
open PySem PySem.Spec PyProof.Rows L2
theorem RSl.upd {K:PySem.W.Frag} {H0 H H':Hp} {ds es:List D} {ws:List V} {p:Addr} (hp:H' p=some (.lst ws)) (he:Reps K H0 es ws):∀ {t:Th} {σ:L2.St} {A:List Addr} (i:Nat),RSl K H0 H t σ A→A.Nodup→t[i]?=some (.own ds)→σ[i]?=some (some (.ref p)) →
    (∀ q ∈ A,q ≠ p→H' q=H q)→RSl K H0 H' (t.set i (.own es)) σ A
  | _,_,_,i, .nil,_,e,_,_=>by simp at e
  | _,_,_,0, .no r,_,e,_,_=>by simp at e
  | _,_,_,0, .val _ r,_,e,_,_=>by simp at e
  | _,_,_,0, .dp _ r,_,e,_,_=>by simp at e
  | _,_,_,i + 1, .dp (B:=B) h1 r,nd,e,e2,k=>by
    have n:=List.nodup_append.mp nd
    obtain ⟨p3,vs3,a1,a2,_⟩:=RSl.getOwn r (i:=i) (ds:=ds) (by simpa using e)
    have:p3=p:=by simpa [a1] using e2
    subst this
    refine .dp (RepD.mono (Same.refl _) h1 fun q hq o w=>?_) (RSl.upd hp he i r n.2.1 (by simpa using e) (by simpa using e2) fun q hq=>k q (List.mem_append_right _ hq))
    rw [k q (List.mem_append_left _ hq) (fun z=>n.2.2 q hq p3 a2 z)]; exact w
  | _,_,_,0, .own (p:=p2) (A:=A) h1 h2 r,nd,e,e2,k=>by
    simp at e2
    subst e2
    exact .own hp he (RSl.mono (Same.refl _) r fun q hq o h=>by
      have n:q ≠ p2:=fun z=>(List.nodup_cons.mp nd).1 (z ▸ hq)
      rw [k q (List.mem_cons_of_mem _ hq) n]; exact h)
  | _,_,_,i + 1, .no r,nd,e,e2,k => .no (RSl.upd hp he i r nd (by simpa using e) (by simpa using e2) k)
  | _,_,_,i + 1, .val h r,nd,e,e2,k => .val h (RSl.upd hp he i r nd (by simpa using e) (by simpa using e2) k)
  | _,_,_,i + 1, .own (p:=p2) h1 h2 r,nd,e,e2,k=>by
    have n:=List.nodup_cons.mp nd
    have e2':=(show _ from e2)
    obtain ⟨p3,vs3,a1,a2,_⟩:=RSl.getOwn r (i:=i) (ds:=ds) (by simpa using e)
    have:p3=p:=by simpa [a1] using e2
    subst this
    have np:p2 ≠ p3:=fun z=>n.1 (z ▸ a2)
    refine .own (by rw [k p2 (List.mem_cons_self ..) np]; exact h1) h2 (RSl.upd hp he i r n.2 (by simpa using e) (by simpa using e2) fun q hq=>k q (List.mem_cons_of_mem _ hq))
theorem RS.write {K:PySem.W.Frag} {F A:List Addr} {H:Hp} {t:Th} {σ:L2.St} {i:Nat} {ds es:List D} {ws:List V} {p:Addr} (R:RS K F H A t σ) (e:t[i]?=some (.own ds)) (e2:σ[i]?=some (some (.ref p))) (h:Reps K (hide (A ++ F) H) es ws) :
    RS K F (L2.upd H p (.lst ws)) A (t.set i (.own es)) σ∧Gr A H A (L2.upd H p (.lst ws)):=by
  obtain ⟨p',vs,a1,a2,a3,a4⟩:=R.rel.getOwn e
  have:p'=p:=by simpa [a1] using e2
  subst this
  have hh:Same (hide (A ++ F) H) (hide (A ++ F) (L2.upd H p' (.lst ws))):=fun b o q=>by
    obtain ⟨n,q⟩:=of_hide q
    have nb:b ≠ p':=fun z=>n (List.mem_append_left _ (z ▸ a2))
    exact hide_get (by rw [upd_ne nb]; exact q) n
  have mu:Lists (L2.upd H p' (.lst ws)) (A ++ F):=fun q hq=>by
    by_cases z:q=p'
    · exact ⟨mL ws,by rw [z]; exact upd_same⟩
    · obtain ⟨us,w⟩:=R.mu q hq
      exact ⟨us,by rw [upd_ne z]; exact w⟩
  refine ⟨⟨mu,R.nd,R.dj,RSl.upd upd_same (Reps.mono hh h) i (RSl.mono hh R.rel (H':=H) fun _ _ _ h=>h) R.nd e e2 fun q _ n=>upd_ne n⟩,?_⟩
  refine ⟨fun b o n q=>?_,fun b hb=>?_,fun b hb => .inl hb⟩
  · rw [upd_ne (fun z=>n (by rw [z]; exact a2))]; exact q
  · obtain ⟨us,w⟩:=mu b (List.mem_append_left _ hb)
    rw [w]; simp
def kApp (t:Th) (i:Nat) (r:Ev):Option Out:=match t[i]? with
  | some (.own xs)=>if r.ok && decide (xs.length < 100000) then some (.nx (t.set i (.own (xs ++ [r.d])))) else none
  | _=>none
def dApp (i:Nat) (f:DE):DS:=fun t=>(f t).bind (kApp t i)
section
variable {X:Cx} {F:List Addr} {a b c:Expr} {es:List Expr} {fa fb fc:DE} {g g1 g2:DS} {ft fu:DT} {pos:Pos} {st:Stmt} {rest:List Stmt} {tg:Expr} {gt:TG} {kt:D→Th→Option Th}
def kIx:Ev→Ev→Option Ev:=fun r1 r2=>match r1.d,r2.d with
  | .lst ds, .int i=>(atI ds i).map fun d=>if r1.ok || flat d then .cl d else .tm d
  | .tup ds, .int i=>(atI ds i).map fun d=>if r1.ok || flat d then .cl d else .tm d
  | _,_=>none
theorem Reps.atI {K:PySem.W.Frag} {H:Hp} {ds:List D} {vs:List V} (r:Reps K H ds vs) {i:Int} {d:D} (e:L2.atI ds i=some d):∃ v,L2.atI vs i=some v∧Rep K H d v:=by
  unfold L2.atI at e ⊢
  rw [r.length]
  cases e1:ixN ds.length i with
  | none=>rw [e1] at e; cases e
  | some j=>rw [e1] at e; exact r.get e
theorem ped_ix (ha:PE X a (dE X.K F fa)) (hb:PE X b (dE X.K F fb)) (hs:PlainIx b:=by intro _ _; rfl):PE X (.Subscript a b pos) (dE X.K F (d2 kIx fa fb)):=by
  refine PE.imp (pe_ix (ix_list.or ix_tup) ha hb hs) ?_
  intro σ H Q h
  obtain ⟨A,t,r1,r2,r,R,e1,e2,e,h,w⟩:=two h
  refine ⟨A,t,r1,R,e1,fun x H1 gs1 q1=>⟨A,t,r2,R.grow gs1,e2,fun y H2 gs2 q2=>?_⟩⟩
  have q1:=q1.mono gs2
  have gs:=gs1.trans gs2
  have p2:=q2.full
  have m2:=R.mu.mono gs
  have key:∀ (P:List Addr),Rep X.K (hide P H2) r1.d x→(∀ d v,Rep X.K (hide P H2) d v→RepEv X.K F A H H2 (if r1.ok || flat d then Ev.cl d else Ev.tm d) v)→rIxL X.K x y H2 Q ∨ rIxT X.K x y H2 Q:=fun P hP fin=>by
    unfold kIx at e
    split at e
    · rename_i ds i z1 z2
      rw [z2] at p2
      cases rep_int p2
      rw [z1] at hP
      cases hP with
      | @lst _ p vs h1 h2 =>
        cases e4:atI ds i with
        | none=>rw [e4] at e; cases e
        | some d =>
          rw [e4] at e
          have e:(if r1.ok || flat d then Ev.cl d else Ev.tm d)=r:=by simpa using e
          obtain ⟨v,e5,rv⟩:=Reps.atI h2 e4
          exact .inl ⟨p,vs,i,v,rfl,rfl,SqL.mono (hide_sub _ _) h1,e5,h v H2 gs (e ▸ fin d v rv)⟩
    · rename_i ds i z1 z2
      rw [z2] at p2
      cases rep_int p2
      rw [z1] at hP
      cases hP with
      | @tup _ p vs h1 h2 =>
        cases e4:atI ds i with
        | none=>rw [e4] at e; cases e
        | some d =>
          rw [e4] at e
          have e:(if r1.ok || flat d then Ev.cl d else Ev.tm d)=r:=by simpa using e
          obtain ⟨v,e5,rv⟩:=Reps.atI h2 e4
          exact .inr ⟨p,vs,i,v,rfl,rfl,SqT.mono (hide_sub _ _) h1,e5,h v H2 gs (e ▸ fin d v rv)⟩
    · cases e
  by_cases c:r1.ok=true
  · refine key (A ++ F) (q1.clean R.mu gs c) fun d v rv=>?_
    rw [c,Bool.true_or,if_pos rfl]
    exact rv
  · refine key F (q1.cleanF R.mu) fun d v rv=>?_
    have c:r1.ok=false:=by simpa using c
    rw [c,Bool.false_or]
    split
    · rename_i f; exact Rep.hid m2 f (Rep.mono (hide_sub _ _) rv)
    · exact rv
def dSl (lo hi:DE) (f:DE):DE:=fun t=>(f t).bind fun r=>(lo t).bind fun l=>(hi t).bind fun h=>match r.d,l.d,h.d with
  | .lst ds, .int i, .int j=>if r.ok || flats ds then some (.nw ((ds.drop (HT.sIx ds.length 0 (some i))).take (HT.sIx ds.length ds.length (some j) - HT.sIx ds.length 0 (some i)))) else none
  | _,_,_=>none
def kCat:Ev→Ev→Option Ev:=fun r1 r2=>match r1.d,r2.d with
  | .lst ds, .lst es=>if (r1.ok || flats ds) && (r2.ok || flats es) && decide (ds.length + es.length ≤ 100000) then some (.nw (ds ++ es)) else none
  | _,_=>none
theorem RepEv.items {K:PySem.W.Frag} {F A:List Addr} {H H':Hp} {r:Ev} {v:V} {ds:List D} (m:Lists H (A ++ F)) (gs:Same H H') (q:RepEv K F A H H' r v) (z:r.d = .lst ds) (c:(r.ok || flats ds)=true) :
    ∃ p vs,v = .ref p∧SqL K H' p vs∧Reps K (hide (A ++ F) H') ds vs:=by
  rcases Bool.or_eq_true _ _ ▸ c with c | c
  · have w:=q.clean m gs c
    rw [z] at w
    cases w with
    | @lst _ p vs h1 h2=>exact ⟨p,vs,rfl,SqL.mono (hide_sub _ _) h1,h2⟩
  · have w:=q.full
    rw [z] at w
    cases w with
    | @lst _ p vs h1 h2=>exact ⟨p,vs,rfl,h1,Reps.hid (m.mono gs) c h2⟩
theorem ped_slice {p2:Pos} (ha:PE X a (dE X.K F fa)) (hb:PE X b (dE X.K F fb)) (hc:PE X c (dE X.K F fc)):PE X (.Subscript a (.Slice (some b) (some c) none p2) pos) (dE X.K F (dSl fb fc fa)):=by
  refine PE.imp (pe_slice sl_list ha (po_some hb) (po_some hc)) ?_
  rintro σ H Q ⟨A,t,r,R,e,h⟩
  unfold dSl at e
  cases e1:fa t with
  | none=>rw [e1] at e; cases e
  | some r1 =>
    cases e2:fb t with
    | none=>rw [e1,e2] at e; cases e
    | some r2 =>
      cases e3:fc t with
      | none=>rw [e1,e2,e3] at e; cases e
      | some r3 =>
        rw [e1,e2,e3] at e
        refine ⟨A,t,r1,R,e1,fun x H1 gs1 q1=>⟨A,t,r2,R.grow gs1,e2,fun y H2 gs2 q2=>?_⟩⟩
        have e:(match r1.d,r2.d,r3.d with
          | .lst ds, .int i, .int j=>if r1.ok || flats ds then some (Ev.nw ((ds.drop (HT.sIx ds.length 0 (some i))).take (HT.sIx ds.length ds.length (some j) - HT.sIx ds.length 0 (some i)))) else none
          | _,_,_=>none)=some r:=e
        split at e
        case h_2=>cases e
        rename_i ds i j z1 z2 z3
        split at e
        case isFalse=>cases e
        rename_i c
        cases e
        have p2':=q2.full
        rw [z2] at p2'
        cases rep_int p2'
        refine ⟨i,rfl,A,t,r3,(R.grow gs1).grow gs2,e3,fun w H3 gs3 q3=>?_⟩
        have p3':=q3.full
        rw [z3] at p3'
        cases rep_int p3'
        have gs:=(gs1.trans gs2).trans gs3
        obtain ⟨p,vs,rfl,h1,h2⟩:=(q1.mono (gs2.trans gs3)).items R.mu gs z1 c
        refine ⟨j,rfl,p,vs,rfl,h1,fun l hl=>h _ _ (gs.trans (upd_sameH hl)) ⟨l,_,rfl,Same.free gs hl,upd_same,Reps.mono (hide_upd hl) ?_⟩⟩
        unfold cutV
        rw [h2.length]
        exact (h2.drop _).take _
theorem cat_any {E:Value→Shared→Prop} {A:Around} {prog:Program} {w:World} {s:Shared} {l b:Addr} {vs ws:List Value} {Q:Value→Shared→Prop} (hl:PlainL s.heap l vs.toArray) (hb:PlainL s.heap b ws.toArray)
    (h:Q (.ref s.heap.objs.size) { s with heap:=s.heap.push { cls := .type "list",data := .seq (vs ++ ws).toArray } }) (hsz:vs.length + ws.length ≤ sizeLine) :
    wpAny (model prog w) A (binaryOp .Add (.ref l) (.ref b)) Q E s:=by
  obtain ⟨⟨cls,dd,data,sl⟩,n,ho,hc,hdd,hd⟩:=id hl
  obtain ⟨⟨cls2,dd2,data2,sl2⟩,n2,ho2,hc2,hdd2,hd2⟩:=id hb
  simp only at hc hd hc2 hd2
  subst hc hd hc2 hd2
  have e:vs.toArray ++ ws.toArray=(vs ++ ws).toArray:=by simp
  refine concat_meets ⟨_,ho,rfl⟩ ⟨_,ho2,rfl⟩ noFill_list_add seq_list_add PySem.F.slot_list_add PySem.F.entry_list_add (PySem.F.args_list_add_2 _ _) (list_addW l b vs.toArray ws.toArray n n2 dd dd2 sl sl2 (by simpa using hsz)) ⟨ho,ho2,?_⟩
  rw [e]
  exact h
theorem od_cat:OpD X F (binaryOp .Add) kCat:=by
  intro pins s σ H0 H A x y v u Q r1 r2 r I m g0 rx ry q1 q2 e hq
  unfold kCat at e
  split at e
  case h_2=>cases e
  rename_i ds es' z1 z2
  split at e
  case isFalse=>cases e
  rename_i c
  simp only [Bool.and_eq_true,decide_eq_true_eq] at c
  cases e
  obtain ⟨p,vs,rfl,h1,h2⟩:=q1.items m g0 z1 c.1.1
  obtain ⟨p',ws,rfl,h1',h2'⟩:=q2.items m g0 z2 c.1.2
  cases rx
  cases ry
  obtain ⟨its,w1,w2,w3⟩:=I.list h1
  obtain ⟨its',w1',w2',w3'⟩:=I.list h1'
  have l1:=h2.length
  have l2:=h2'.length
  have l3:=w1.length
  have l4:=w1'.length
  have hz:vs.length + ws.length ≤ sizeLine:=le_line (by omega)
  refine cat_any w2 w2' ⟨.ref _,_,I.lnew (t':=s.toks) (w1.append w1') (by rw [List.length_append]; exact hz),rfl,?_⟩ (by omega)
  refine hq _ _ (upd_sameH I.fresh) ⟨_,_,rfl,Same.free g0 I.fresh,upd_same,Reps.mono (hide_upd I.fresh) (h2.app h2')⟩
mutual
def eqD:D→D→Bool
  | .non, .non=>true
  | .bl a, .bl b=>decide (a=b)
  | .int a, .int b=>decide (a=b)
  | .str a, .str b=>decide (a=b)
  | .tup a, .tup b=>eqDs a b
  | .lst a, .lst b=>eqDs a b
  | .dct ks a, .dct ks' b=>decide (ks=ks') && eqDs a b
  | .pdc a, .pdc b=>decide (a=b)
  | _,_=>false
def eqDs:List D→List D→Bool
  | [],[]=>true
  | a :: as,b :: bs=>eqD a b && eqDs as bs
  | _,_=>false
end
def eqOk:Nat→D→D→Bool
  | _, .non, .non=>true
  | _, .bl _, .bl _=>true
  | _, .int _, .int _=>true
  | _, .str _, .str _=>true
  | _, .non, .int _=>true
  | _, .int _, .non=>true
  | _, .non, .str _=>true
  | _, .str _, .non=>true
  | _, .non, .bl _=>true
  | _, .bl _, .non=>true
  | _, .int _, .str _=>true
  | _, .str _, .int _=>true
  | n + 1, .tup xs, .tup ys=>(xs.zip ys).all fun p=>eqOk n p.1 p.2
  | n + 1, .lst xs, .lst ys=>(xs.zip ys).all fun p=>eqOk n p.1 p.2
  | _,_,_=>false
theorem dct_cls {pins:List (Addr × Obj)} {s:Shared} {σ:L2.St} {H:Hp} {p:Addr} {kvs:List (Key × V)} (I:Inv X pins σ H s) (h:H p=some (.dK kvs)):∃ o,s.heap.get? p=some o∧o.cls = .type "dict":=by
  obtain ⟨_,_,vs,_,m⟩:kvs.length ≤ sizeLine∧(p == sysModules)=false∧∃ vs,KV kvs vs∧s.heap.DictOf (mixKind X.prog X.w) p vs:=I.hok p _ h
  exact m.typeIs
theorem pdc_cls {pins:List (Addr × Obj)} {s:Shared} {σ:L2.St} {H:Hp} {p:Addr} {kvs:List (List Key × V)} (I:Inv X pins σ H s) (h:H p=some (.dT kvs)):∃ o,s.heap.get? p=some o∧o.cls = .type "dict":=by
  obtain ⟨_,_,xs,_,o,es,ep,h1,h2,_⟩:=(show ObjOk X.prog X.w H s.heap p (.dT kvs) from I.hok p _ h)
  exact ⟨o,h1,h2.1⟩
theorem pkv_inj:∀ {a b:List (Int × Int)},pkv a=pkv b→a=b
  | [],[],_=>rfl
  | [],_ :: _,h=>by simp [pkv] at h
  | _ :: _,[],h=>by simp [pkv] at h
  | (x,y) :: a,(z,w) :: b,h=>by
    simp only [pkv,List.map_cons,List.cons.injEq,Prod.mk.injEq,Sum.inl.injEq,and_true] at h
    rw [h.1.1,h.1.2,pkv_inj (a:=a) (b:=b) h.2]
theorem zip_inj {ks ks':List Key} {vs vs':List V} (l:ks.length=vs.length) (l':ks'.length=vs'.length) (h:mkKV ks vs=mkKV ks' vs'):ks=ks'∧vs=vs':=by
  unfold mkKV at h
  have h1:=congrArg (List.map Prod.fst) h
  have h2:=congrArg (List.map Prod.snd) h
  rw [List.map_fst_zip (by omega),List.map_fst_zip (by omega)] at h1
  rw [List.map_snd_zip (by omega),List.map_snd_zip (by omega)] at h2
  exact ⟨h1,h2⟩
mutual
theorem Rep.inj {pins:List (Addr × Obj)} {s:Shared} {σ:L2.St} {H:Hp} (I:Inv X pins σ H s):∀ {d e:D} {v:V},Rep X.K H d v→Rep X.K H e v→d=e
  | _,_,_, .non, .non=>rfl
  | _,_,_, .bl _, .bl _=>rfl
  | _,_,_, .int _, .int _=>rfl
  | _,_,_, .str _, .str _=>rfl
  | _,_,_, .tup h1 r1, .tup h2 r2=>by
    have e:=I.tuple_inj h1 h2
    subst e
    rw [Reps.inj I r1 r2]
  | _,_,_, .lst h1 r1, .lst h2 r2=>by
    have e:=I.list_inj h1 h2
    subst e
    rw [Reps.inj I r1 r2]
  | _,_,_, .tup h1 r1, .lst h2 r2=>by
    obtain ⟨its,_,⟨o,e,c,_⟩,_⟩:=I.tuple h1
    obtain ⟨its',_,⟨o',n',e',c',_⟩,_⟩:=I.list h2
    rw [e] at e'; cases e'
    rw [c] at c'; exact absurd c' (by decide +kernel)
  | _,_,_, .lst h1 r1, .tup h2 r2=>by
    obtain ⟨its,_,⟨o,e,c,_⟩,_⟩:=I.tuple h2
    obtain ⟨its',_,⟨o',n',e',c',_⟩,_⟩:=I.list h1
    rw [e] at e'; cases e'
    rw [c] at c'; exact absurd c' (by decide +kernel)
  | _,_,_, .tup h1 r1, .dct _ h2 r2=>by
    obtain ⟨its,_,⟨o,e,c,_⟩,_⟩:=I.tuple h1
    obtain ⟨o',e',c'⟩:=dct_cls I h2
    rw [e] at e'; cases e'
    rw [c] at c'; exact absurd c' (by decide +kernel)
  | _,_,_, .dct _ h2 r2, .tup h1 r1=>by
    obtain ⟨its,_,⟨o,e,c,_⟩,_⟩:=I.tuple h1
    obtain ⟨o',e',c'⟩:=dct_cls I h2
    rw [e] at e'; cases e'
    rw [c] at c'; exact absurd c' (by decide +kernel)
  | _,_,_, .lst h1 r1, .dct _ h2 r2=>by
    obtain ⟨its,_,⟨o,n,e,c,_⟩,_⟩:=I.list h1
    obtain ⟨o',e',c'⟩:=dct_cls I h2
    rw [e] at e'; cases e'
    rw [c] at c'; exact absurd c' (by decide +kernel)
  | _,_,_, .dct _ h2 r2, .lst h1 r1=>by
    obtain ⟨its,_,⟨o,n,e,c,_⟩,_⟩:=I.list h1
    obtain ⟨o',e',c'⟩:=dct_cls I h2
    rw [e] at e'; cases e'
    rw [c] at c'; exact absurd c' (by decide +kernel)
  | _,_,_, .tup h1 r1, .pdc h2=>by
    obtain ⟨its,_,⟨o,e,c,_⟩,_⟩:=I.tuple h1
    obtain ⟨o',e',c'⟩:=pdc_cls I h2
    rw [e] at e'; cases e'
    rw [c] at c'; exact absurd c' (by decide +kernel)
  | _,_,_, .pdc h2, .tup h1 r1=>by
    obtain ⟨its,_,⟨o,e,c,_⟩,_⟩:=I.tuple h1
    obtain ⟨o',e',c'⟩:=pdc_cls I h2
    rw [e] at e'; cases e'
    rw [c] at c'; exact absurd c' (by decide +kernel)
  | _,_,_, .lst h1 r1, .pdc h2=>by
    obtain ⟨its,_,⟨o,n,e,c,_⟩,_⟩:=I.list h1
    obtain ⟨o',e',c'⟩:=pdc_cls I h2
    rw [e] at e'; cases e'
    rw [c] at c'; exact absurd c' (by decide +kernel)
  | _,_,_, .pdc h2, .lst h1 r1=>by
    obtain ⟨its,_,⟨o,n,e,c,_⟩,_⟩:=I.list h1
    obtain ⟨o',e',c'⟩:=pdc_cls I h2
    rw [e] at e'; cases e'
    rw [c] at c'; exact absurd c' (by decide +kernel)
  | _,_,_, .dct _ h1 r1, .pdc h2=>by rw [h1] at h2; cases h2
  | _,_,_, .pdc h2, .dct _ h1 r1=>by rw [h1] at h2; cases h2
  | _,_,_, .pdc h1, .pdc h2=>by
    rw [h1] at h2
    injection h2 with h2
    injection h2 with h2
    rw [pkv_inj h2]
  | _,_,_, .dct l1 h1 r1, .dct l2 h2 r2=>by
    rw [h1] at h2
    obtain ⟨e1,e2⟩:=zip_inj l1 l2 (by injection h2 with h2; injection h2)
    subst e1 e2
    rw [Reps.inj I r1 r2]
theorem Reps.inj {pins:List (Addr × Obj)} {s:Shared} {σ:L2.St} {H:Hp} (I:Inv X pins σ H s):∀ {ds es:List D} {vs:List V},Reps X.K H ds vs→Reps X.K H es vs→ds=es
  | _,_,_, .nil, .nil=>rfl
  | _,_,_, .cons h r, .cons h' r'=>by rw [Rep.inj I h h',Reps.inj I r r']
end
mutual
theorem eqD_iff:∀ {a b:D},eqD a b=true ↔ a=b
  | .non,b=>by cases b <;> simp [eqD]
  | .bl _,b=>by cases b <;> simp [eqD]
  | .int _,b=>by cases b <;> simp [eqD]
  | .str _,b=>by cases b <;> simp [eqD]
  | .tup xs,b=>by
    cases b with
    | tup ys=>simp only [eqD,D.tup.injEq]; exact eqDs_iff
    | _=>simp [eqD]
  | .lst xs,b=>by
    cases b with
    | lst ys=>simp only [eqD,D.lst.injEq]; exact eqDs_iff
    | _=>simp [eqD]
  | .dct ks xs,b=>by
    cases b with
    | dct ks' ys=>simp only [eqD,D.dct.injEq,Bool.and_eq_true,decide_eq_true_eq]; rw [eqDs_iff (a:=xs) (b:=ys)]
    | _=>simp [eqD]
  | .pdc a,b=>by cases b <;> simp [eqD]
theorem eqDs_iff:∀ {a b:List D},eqDs a b=true ↔ a=b
  | [],b=>by cases b <;> simp [eqDs]
  | x :: xs,b=>by
    cases b with
    | nil=>simp [eqDs]
    | cons y ys =>
      simp only [eqDs,Bool.and_eq_true,List.cons.injEq]
      rw [eqD_iff (a:=x) (b:=y),eqDs_iff (a:=xs) (b:=ys)]
end
theorem eqD_true {a b:D}:eqD a b=true ↔ a=b:=eqD_iff
theorem eqD_false {a b:D}:eqD a b=false ↔ ¬ a=b:=by rw [← eqD_true]; simp
def eAt (xs ys:List D) (j:Nat):Bool:=match xs[j]?,ys[j]? with
  | some a,some b=>eqD a b
  | _,_=>true
end
end DL
namespace DL
open PySem PySem.Spec PyProof.Rows L2
theorem PlainL.isL {h:Heap} {a:Addr} {its:Array Value} (p:PlainL h a its):h.IsList a its:=by
  obtain ⟨o,n,e,c,_,d⟩:=p
  exact ⟨o,e,c,n,d⟩
section
variable {X:Cx} {F:List Addr} {a b c:Expr} {es:List Expr} {fa fb fc:DE} {g g1 g2:DS} {ft fu:DT} {pos:Pos} {st:Stmt} {rest:List Stmt} {tg:Expr} {gt:TG} {kt:D→Th→Option Th}
def scD:D→Bool
  | .tup _=>false
  | .lst _=>false
  | .dct _ _=>false
  | .pdc _=>false
  | _=>true
theorem eqV_D {K:PySem.W.Frag} {H:Hp} {n:Nat} {d e:D} {v u:V} (r:Rep K H d v) (q:Rep K H e u) (s1:scD d=true) (s2:scD e=true) (ok:eqOk n d e=true):flatV v=true∧flatV u=true∧eqV v u=eqD d e:=by
  cases r <;> cases q <;> simp_all [scD,eqOk,flatV,eqV,eqD]
  all_goals (rw [Bool.eq_iff_iff]; simp)
theorem all_eAt {xs ys:List D} (h:xs.length=ys.length):(List.range xs.length).all (eAt xs ys)=eqD (.lst xs) (.lst ys):=by
  rw [Bool.eq_iff_iff,eqD_true,List.all_eq_true]
  constructor
  · intro hh
    congr 1
    apply List.ext_getElem h
    intro i h1 h2
    have:=hh i (List.mem_range.mpr h1)
    simp only [eAt,List.getElem?_eq_getElem h1,List.getElem?_eq_getElem h2] at this
    exact eqD_true.mp this
  · intro hh i hi
    injection hh with hh
    subst hh
    simp only [eAt]
    split
    · rename_i a b z1 z2
      rw [z1] at z2; cases z2
      exact eqD_true.mpr rfl
    · rfl
theorem all_eAtT {xs ys:List D}:((List.range (min xs.length ys.length)).all (eAt xs ys) && xs.length == ys.length)=eqD (.tup xs) (.tup ys):=by
  by_cases h:xs.length=ys.length
  · have e:min xs.length ys.length=xs.length:=by omega
    rw [e,all_eAt h,beq_iff_eq.mpr h,Bool.and_true]
    rw [Bool.eq_iff_iff,eqD_true,eqD_true]
    simp
  · have e:(xs.length == ys.length)=false:=by simpa using h
    rw [e,Bool.and_false]
    symm
    rw [eqD_false]
    intro z
    injection z with z
    exact h (by rw [z])
theorem zip_all {n:Nat} {xs ys:List D} (h:((xs.zip ys).all fun p=>eqOk n p.1 p.2)=true) {j:Nat} {x y:D} (hx:xs[j]?=some x) (hy:ys[j]?=some y):eqOk n x y=true:=by
  rw [List.all_eq_true] at h
  refine h (x,y) (List.mem_of_getElem? (i:=j) ?_)
  rw [List.getElem?_zip_eq_some]
  exact ⟨hx,hy⟩
theorem in1_units {A:Around}:A.in1.units=A.units + 1:=rfl
theorem Vals.getL {vs:List V} {us:List Value} (h:Vals vs us) {j:Nat} (hj:j < us.toArray.size):∃ v,vs[j]?=some v∧RelV v us.toArray[j]:=by
  have hj':j < vs.length:=by rw [h.length]; simpa using hj
  obtain ⟨u,e,r⟩:=Vals.get h (List.getElem?_eq_getElem hj')
  refine ⟨_,List.getElem?_eq_getElem hj',?_⟩
  have:us.toArray[j]=u:=by
    have hj2:j < us.length:=by simpa using hj
    have:=List.getElem?_eq_getElem hj2
    rw [e] at this
    simpa using (Option.some.inj this).symm
  rw [this]; exact r
theorem eqAt_D {pins:List (Addr × Obj)} {s:Shared} {σ:L2.St} {H:Hp} (I:Inv X pins σ H s):∀ (n:Nat) (A:Around) (d e:D) (v u:V) (y z:Value),A.units + n < cLine→eqOk n d e=true→Rep X.K H d v→Rep X.K H e u→RelV v y→RelV u z→SeqAt.EqAt A s y z (eqD d e):=by
  intro n
  induction n with
  | zero =>
    intro A d e v u y z hu ok r q ry rz
    have s1:scD d=true:=by cases d <;> cases e <;> simp_all [scD,eqOk]
    have s2:scD e=true:=by cases d <;> cases e <;> simp_all [scD,eqOk]
    obtain ⟨f1,f2,ee⟩:=eqV_D r q s1 s2 ok
    rw [← ee]
    exact eqAt_V ry rz f1 f2
  | succ n ih =>
    intro A d e v u y z hu ok r q ry rz
    by_cases s1:scD d=true
    · have s2:scD e=true:=by cases d <;> cases e <;> simp_all [scD,eqOk]
      obtain ⟨f1,f2,ee⟩:=eqV_D r q s1 s2 ok
      rw [← ee]
      exact eqAt_V ry rz f1 f2
    · have hu':A.in1.units + n < cLine:=by rw [in1_units]; omega
      have hu0:A.units < cLine:=by omega
      cases r with
      | @tup xs p vs h1 h2 =>
        cases q with
        | @tup ys p' ws h1' h2' =>
          cases ry; cases rz
          by_cases z:p=p'
          · subst z
            have e:=Rep.inj I (.tup h1 h2) (.tup h1' h2')
            rw [eqD_true.mpr e]
            exact SeqAt.EqAt.same _
          · obtain ⟨its,w1,w2,_⟩:=I.tuple h1
            obtain ⟨its',w1',w2',_⟩:=I.tuple h1'
            refine SeqAt.EqAt.of_refs z ?_
            have k:=SeqAt.RcAt.tuples (A:=A) (e:=eAt xs ys) w2 w2' hu0 (fun j g1 g2=>by
              obtain ⟨v1,a1,a2⟩:=Vals.getL w1 g1
              obtain ⟨v2,b1,b2⟩:=Vals.getL w1' g2
              obtain ⟨x1,c1,c2⟩:=h2.getV a1
              obtain ⟨x2,d1,d2⟩:=h2'.getV b1
              have:=ih A.in1 x1 x2 v1 v2 _ _ hu' (zip_all (by simpa [eqOk] using ok) c1 d1) c2 d2 a2 b2
              have ee:eAt xs ys j=eqD x1 x2:=by simp only [eAt,c1,d1]
              rw [ee]; exact this)
            have l1:its.toArray.size=xs.length:=by have:=w1.length; have:=h2.length; simp; omega
            have l2:its'.toArray.size=ys.length:=by have:=w1'.length; have:=h2'.length; simp; omega
            rw [l1,l2,all_eAtT] at k
            exact k
        | _=>simp_all [eqOk]
      | @lst xs p vs h1 h2 =>
        cases q with
        | @lst ys p' ws h1' h2' =>
          cases ry; cases rz
          by_cases z:p=p'
          · subst z
            have e:=Rep.inj I (.lst h1 h2) (.lst h1' h2')
            rw [eqD_true.mpr e]
            exact SeqAt.EqAt.same _
          · obtain ⟨its,w1,w2,_⟩:=I.list h1
            obtain ⟨its',w1',w2',_⟩:=I.list h1'
            refine SeqAt.EqAt.of_refs z ?_
            have l1:its.toArray.size=xs.length:=by have:=w1.length; have:=h2.length; simp; omega
            have l2:its'.toArray.size=ys.length:=by have:=w1'.length; have:=h2'.length; simp; omega
            by_cases hl:xs.length=ys.length
            · have k:=SeqAt.RcAt.lists (A:=A) (e:=eAt xs ys) (PlainL.isL w2) (PlainL.isL w2') (by rw [l1,l2]; exact hl) hu0 (fun j g1 g2=>by
                obtain ⟨v1,a1,a2⟩:=Vals.getL w1 g1
                obtain ⟨v2,b1,b2⟩:=Vals.getL w1' g2
                obtain ⟨x1,c1,c2⟩:=h2.getV a1
                obtain ⟨x2,d1,d2⟩:=h2'.getV b1
                have:=ih A.in1 x1 x2 v1 v2 _ _ hu' (zip_all (by simpa [eqOk] using ok) c1 d1) c2 d2 a2 b2
                have ee:eAt xs ys j=eqD x1 x2:=by simp only [eAt,c1,d1]
                rw [ee]; exact this)
              rw [l1,all_eAt hl] at k
              exact k
            · have ee:eqD (.lst xs) (.lst ys)=false:=eqD_false.mpr fun z=>hl (by injection z with z; rw [z])
              rw [ee]
              exact SeqAt.RcAt.lists_lengths (PlainL.isL w2) (PlainL.isL w2') (by rw [l1,l2]; simpa using hl) hu0
        | _=>simp_all [eqOk]
      | dct=>exact absurd ok (by cases e <;> simp [eqOk])
      | pdc=>exact absurd ok (by cases e <;> simp [eqOk])
      | _=>simp_all [scD]
theorem seqAts {pins:List (Addr × Obj)} {s:Shared} {σ:L2.St} {H:Hp} (I:Inv X pins σ H s) {n:Nat} {A:Around} {xs ys:List D} {vs ws:List V} {its its':List Value} (hu:A.units + n + 1 < cLine) (ok:((xs.zip ys).all fun p=>eqOk n p.1 p.2)=true)
    (h2:Reps X.K H xs vs) (h2':Reps X.K H ys ws) (w1:Vals vs its) (w1':Vals ws its'):∀ j (g1:j < its.toArray.size) (g2:j < its'.toArray.size),SeqAt.EqAt A.in1 s its.toArray[j] its'.toArray[j] (eAt xs ys j):=fun j g1 g2=>by
  obtain ⟨v1,a1,a2⟩:=Vals.getL w1 g1
  obtain ⟨v2,b1,b2⟩:=Vals.getL w1' g2
  obtain ⟨x1,c1,c2⟩:=h2.getV a1
  obtain ⟨x2,d1,d2⟩:=h2'.getV b1
  have:=eqAt_D I n A.in1 x1 x2 v1 v2 _ _ (by rw [in1_units]; omega) (zip_all ok c1 d1) c2 d2 a2 b2
  have ee:eAt xs ys j=eqD x1 x2:=by simp only [eAt,c1,d1]
  rw [ee]; exact this
def kEq:Ev→Ev→Option Ev:=fun r1 r2=>if eqOk 6 r1.d r2.d then some (.cl (.bl (eqD r1.d r2.d))) else none
def kNe:Ev→Ev→Option Ev:=fun r1 r2=>if eqOk 6 r1.d r2.d then some (.cl (.bl (!eqD r1.d r2.d))) else none
theorem scal_D {K:PySem.W.Frag} {H:Hp} {n:Nat} {d e:D} {v u:V} (r:Rep K H d v) (q:Rep K H e u) (s1:scD d=true) (ok:eqOk n d e=true):scal v u=true∧decide (v=u)=eqD d e:=by
  cases r <;> cases q <;> simp_all [scD,eqOk,scal,eqD]
theorem od_eq (hu:X.A.units + 64 < cLine):OpD X F (compareOp .Eq) kEq:=by
  intro pins s σ H0 H A x y v u Q r1 r2 r I m g0 rx ry q1 q2 e hq
  unfold kEq at e
  split at e
  case isFalse=>cases e
  rename_i ok
  cases e
  have p1:=q1.full
  have p2:=q2.full
  by_cases s1:scD r1.d=true
  · obtain ⟨a1,a2⟩:=scal_D p1 p2 s1 ok
    exact op_eq pins s σ H x y v u Q I rx ry ⟨a1,by rw [a2]; exact hq _ H (Same.refl H) (.bl _)⟩
  · generalize r1.d=d1 at *
    generalize r2.d=d2 at *
    have hu0:X.A.units < cLine:=by omega
    cases p1 with
    | @tup xs p vs h1 h2 =>
      cases p2 with
      | @tup ys p' ws h1' h2' =>
        cases rx; cases ry
        obtain ⟨its,w1,w2,_⟩:=I.tuple h1
        obtain ⟨its',w1',w2',_⟩:=I.tuple h1'
        have l1:its.toArray.size=xs.length:=by have:=w1.length; have:=h2.length; simp; omega
        have l2:its'.toArray.size=ys.length:=by have:=w1'.length; have:=h2'.length; simp; omega
        refine SeqAt.eq_tupleAt w2 w2' hu0 (seqAts I (n:=5) (by omega) (by simpa [eqOk] using ok) h2 h2' w1 w1') ?_
        rw [l1,l2,all_eAtT]
        exact ⟨.bl _,H,I,rfl,hq _ H (Same.refl H) (.bl _)⟩
      | _=>simp_all [eqOk]
    | @lst xs p vs h1 h2 =>
      cases p2 with
      | @lst ys p' ws h1' h2' =>
        cases rx; cases ry
        obtain ⟨its,w1,w2,_⟩:=I.list h1
        obtain ⟨its',w1',w2',_⟩:=I.list h1'
        have l1:its.toArray.size=xs.length:=by have:=w1.length; have:=h2.length; simp; omega
        have l2:its'.toArray.size=ys.length:=by have:=w1'.length; have:=h2'.length; simp; omega
        by_cases hl:xs.length=ys.length
        · refine SeqAt.eq_listAt (PlainL.isL w2) (PlainL.isL w2') (by rw [l1,l2]; exact hl) hu0 (seqAts I (n:=5) (by omega) (by simpa [eqOk] using ok) h2 h2' w1 w1') ?_
          rw [l1,all_eAt hl]
          exact ⟨.bl _,H,I,rfl,hq _ H (Same.refl H) (.bl _)⟩
        · have ee:eqD (.lst xs) (.lst ys)=false:=eqD_false.mpr fun z=>hl (by injection z with z; rw [z])
          rw [ee] at hq
          exact SeqAt.eq_list_lengthsAt (PlainL.isL w2) (PlainL.isL w2') (by rw [l1,l2]; simpa using hl) hu0 ⟨.bl _,H,I,rfl,hq _ H (Same.refl H) (.bl _)⟩
      | _=>simp_all [eqOk]
    | dct=>exact absurd ok (by cases d2 <;> simp [eqOk])
    | pdc=>exact absurd ok (by cases d2 <;> simp [eqOk])
    | _=>simp_all [scD]
theorem od_ne (hu:X.A.units + 64 < cLine):OpD X F (compareOp .NotEq) kNe:=by
  intro pins s σ H0 H A x y v u Q r1 r2 r I m g0 rx ry q1 q2 e hq
  unfold kNe at e
  split at e
  case isFalse=>cases e
  rename_i ok
  cases e
  have p1:=q1.full
  have p2:=q2.full
  by_cases s1:scD r1.d=true
  · obtain ⟨a1,a2⟩:=scal_D p1 p2 s1 ok
    exact op_ne pins s σ H x y v u Q I rx ry ⟨a1,by rw [a2]; exact hq _ H (Same.refl H) (.bl _)⟩
  · generalize r1.d=d1 at *
    generalize r2.d=d2 at *
    have hu0:X.A.units < cLine:=by omega
    cases p1 with
    | @tup xs p vs h1 h2 =>
      cases p2 with
      | @tup ys p' ws h1' h2' =>
        cases rx; cases ry
        obtain ⟨its,w1,w2,_⟩:=I.tuple h1
        obtain ⟨its',w1',w2',_⟩:=I.tuple h1'
        have l1:its.toArray.size=xs.length:=by have:=w1.length; have:=h2.length; simp; omega
        have l2:its'.toArray.size=ys.length:=by have:=w1'.length; have:=h2'.length; simp; omega
        have k:=SeqAt.RcNeAt.tuples (A:=X.A) w2 w2' hu0 (seqAts I (n:=5) (by omega) (by simpa [eqOk] using ok) h2 h2' w1 w1')
        rw [l1,l2,all_eAtT] at k
        exact k _ _ _ _ ⟨.bl _,H,I,rfl,hq _ H (Same.refl H) (.bl _)⟩
      | _=>simp_all [eqOk]
    | @lst xs p vs h1 h2 =>
      cases p2 with
      | @lst ys p' ws h1' h2' =>
        cases rx; cases ry
        obtain ⟨its,w1,w2,_⟩:=I.list h1
        obtain ⟨its',w1',w2',_⟩:=I.list h1'
        have l1:its.toArray.size=xs.length:=by have:=w1.length; have:=h2.length; simp; omega
        have l2:its'.toArray.size=ys.length:=by have:=w1'.length; have:=h2'.length; simp; omega
        by_cases hl:xs.length=ys.length
        · have k:=SeqAt.RcNeAt.lists (A:=X.A) (PlainL.isL w2) (PlainL.isL w2') (by rw [l1,l2]; exact hl) hu0 (seqAts I (n:=5) (by omega) (by simpa [eqOk] using ok) h2 h2' w1 w1')
          rw [l1,all_eAt hl] at k
          exact k _ _ _ _ ⟨.bl _,H,I,rfl,hq _ H (Same.refl H) (.bl _)⟩
        · have ee:eqD (.lst xs) (.lst ys)=false:=eqD_false.mpr fun z=>hl (by injection z with z; rw [z])
          rw [ee] at hq
          exact SeqAt.RcNeAt.lists_lengths (A:=X.A) (PlainL.isL w2) (PlainL.isL w2') (by rw [l1,l2]; simpa using hl) hu0 _ _ _ _ ⟨.bl _,H,I,rfl,hq _ H (Same.refl H) (.bl _)⟩
      | _=>simp_all [eqOk]
    | dct=>exact absurd ok (by cases d2 <;> simp [eqOk])
    | pdc=>exact absurd ok (by cases d2 <;> simp [eqOk])
    | _=>simp_all [scD]
def tyD:D→String
  | .non => "NoneType"
  | .bl _ => "bool"
  | .int _ => "int"
  | .str _ => "str"
  | .tup _ => "tuple"
  | .lst _ => "list"
  | .dct _ _ => "dict"
  | .pdc _ => "dict"
def isiT (d:D) (T:String):Bool:=tyD d == T || (tyD d == "bool" && T == "int")
def dIsi (T:String) (f:DE):DE:=fun t=>(f t).bind fun r=>some (.cl (.bl (isiT r.d T)))
def IsiOk (K:PySem.W.Frag) (T:String):Prop := ∀ d:D,PySem.W.kitOne K (.type (tyD d)) (.type T)=some (isiT d T)
theorem ped_isi {T:String} {x:Str} {p p2:Pos} (ok:IsiOk X.K T) (ha:PE X a (dE X.K F fa)) (hg:Gl X "isinstance") (hm:X.mg "isinstance"=none) (hgT:Gl X x) (hmT:X.mg x=none) (hvT:bootBuiltins x=some (.type T)) (hnT:x ≠ "__name__":=by decide) (hdT:(x == ("__debug__":Str))=false:=by decide)
    (he:starEach (a :: [Expr.Name x p2]) X.env=(false,eval a X.env) :: starEach [.Name x p2] X.env:=by rfl) (he2:starEach [Expr.Name x p2] X.env=[(false,eval (.Name x p2) X.env)]:=by rfl) (hpl:(backTo pos (starEach [Expr.Name x p2] X.env)).any (·.1)=false:=by rfl) :
    PE X (.Call (.Name "isinstance" p) [a, .Name x p2] [] pos) (dE X.K F (dIsi T fa)):=by
  have rule:CallR X (.builtin "isinstance") (fun xs H Q => ∃ v d,xs=[v, .ty T]∧Rep X.K H d v∧Q (.bl (isiT d T)) H):=by
    intro pins s σ H xs us Q I r h
    obtain ⟨v,d,rfl,rp,hq⟩:=h
    obtain ⟨u,w',rfl,r1,r2⟩:=vals2 r
    cases (show w'=Value.type T from r2)
    have fin:∀ tk,EP X pins σ Q (.bool (isiT d T)) { s with toks:=tk }:=fun tk=>⟨.bl _,H,I.tok tk,rfl,hq⟩
    have e:=ok d
    cases rp with
    | non=>cases (show u=Value.none from r1); exact PySem.W.kia_one PySem.W.kitx_none I.kIn True.intro e (fun z=>nomatch z) fin
    | bl y=>cases (show u=Value.bool y from r1); exact PySem.W.kia_one PySem.W.kitx_bool I.kIn True.intro e (fun z=>nomatch z) fin
    | int i=>obtain ⟨t,q⟩:=(show ∃ t,u=Value.int i t from r1); cases q; exact PySem.W.kia_one PySem.W.kitx_int I.kIn True.intro e (fun z=>nomatch z) fin
    | str y=>obtain ⟨t,q⟩:=(show ∃ t,u=Value.str y t from r1); cases q; exact PySem.W.kia_one PySem.W.kitx_str I.kIn True.intro e (fun z=>nomatch z) fin
    | @tup _ p _ h1 h2 =>
      cases (show u=Value.ref p from r1)
      obtain ⟨its,_,⟨o,e1,c1,_⟩,_⟩:=I.tuple h1
      exact PySem.W.kia_one PySem.W.kitx_tuple I.kIn ⟨o,e1,c1⟩ e (fun z=>nomatch z) fin
    | @lst _ p _ h1 h2 =>
      cases (show u=Value.ref p from r1)
      obtain ⟨its,_,⟨o,n,e1,c1,_⟩,_⟩:=I.list h1
      exact PySem.W.kia_one PySem.W.kitx_list I.kIn ⟨o,e1,c1⟩ e (fun z=>nomatch z) fin
    | @dct _ _ p _ _ h1 h2 =>
      cases (show u=Value.ref p from r1)
      exact PySem.W.kia_one PySem.W.kitx_dict I.kIn (dct_cls I h1) e (fun z=>nomatch z) fin
    | @pdc _ p h1 =>
      cases (show u=Value.ref p from r1)
      exact PySem.W.kia_one PySem.W.kitx_dict I.kIn (pdc_cls I h1) e (fun z=>nomatch z) fin
  refine PE.imp (pe_callB rule hg hm boot_isinstance (pa_cons ha (pa_cons (pe_bltn (v := .ty T) hgT hmT hvT rfl hnT hdT) pa_nil he2) he) (by decide) (by decide) he hpl) ?_
  rintro σ H Q ⟨A,t,r,R,e,h⟩
  unfold dIsi at e
  cases e1:fa t with
  | none=>rw [e1] at e; cases e
  | some r1 =>
    rw [e1] at e
    cases e
    exact ⟨A,t,r1,R,e1,fun v H' gs q=>⟨v,r1.d,rfl,q.full,h _ H' gs (.bl _)⟩⟩
end
def startD (N:List Str) (ds:List D):Th:=ds.map Sl.val ++ List.replicate (N.length - ds.length) Sl.no
theorem RSl.no_all {K:PySem.W.Frag} {H0 H:Hp}:∀ n,RSl K H0 H (List.replicate n Sl.no) (List.replicate n none) []
  | 0 => .nil
  | n + 1 => .no (RSl.no_all n)
theorem RSl.start {K:PySem.W.Frag} {H0 H:Hp} {t:Th} {σ:L2.St} (r0:RSl K H0 H t σ []):∀ {ds:List D} {vs:List V},Reps K H0 ds vs→RSl K H0 H (ds.map Sl.val ++ t) (vs.map some ++ σ) []
  | _,_, .nil=>r0
  | _,_, .cons h r => .val h (RSl.start r0 r)
def outEv:Out→Option Ev
  | .rt r=>some r
  | .nx _=>some (.cl .non)
  | _=>none
theorem fun_ok {P:Program} {w:World} {K:PySem.W.Frag} {mg:Str→Option Value} {base:BHeap} {x qual:Str} {st:Stmt} {f:Addr} {fd:FuncData} {N ps:List Str} {k:Nat} {G:List D→Option Ev} (Fn:L2.Fun K x qual st f fd) (S:FnScope N ps (defScope st))
    (hlen:∀ ds r,G ds=some r→ds.length=ps.length) (g:DS) (hG:∀ ds r,G ds=some r→∃ o,g (startD N ds)=some o∧outEv o=some r)
    (hbody:∀ (cdv:Value) (A:Around) (outer:List Env) (s:Shared) (H:Hp) (E:XK) (F:List Addr),Room k (A.deeper (envOfC qual (defScope st) s.heap.objs.size f cdv)) →
      PSs (cxOf CX0 P w K mg base N qual (defScope st) f cdv A outer s H E).nox (defBody st) (dS K F g)):FnOk P w K mg base CX0 (k + 1) f fd ps (spD K G):=by
  refine Fn.ok S (fun vs H Q E h=>?_) (fun cdv A outer s H vs Q E hr h=>?_)
  · obtain ⟨Fo,ds,r,_,hr,hg,_⟩:=h
    rw [hr.length]; exact hlen ds r hg
  · obtain ⟨Fo,ds,r,hl,hr',hg,cont⟩:=h
    obtain ⟨o,ho,hoe⟩:=hG ds r hg
    refine ⟨_,hbody cdv A outer s H E Fo hr,dS_mk (A:=[]) (t:=startD N ds) ⟨hl,List.nodup_nil,fun p hp=>(by cases hp),?_⟩ ho ?_⟩
    · unfold startD L2.start
      rw [hr'.length]
      exact RSl.start (RSl.no_all _) hr'
    · have sm:∀ {A' H'},Gr [] H A' H'→Same H H':=fun g b o q=>g.kp b o (by simp) q
      cases o with
      | nx t' =>
        cases hoe
        exact fun σ' H' A' g' R'=>cont .non H' (sm g') .non
      | bk t'=>cases hoe
      | ct t'=>cases hoe
      | rt r' =>
        cases hoe
        intro v H' A' g' q
        refine cont v H' (sm g') ?_
        cases r with
        | cl d=>exact q
        | tm d=>exact q
        | nw xs =>
          obtain ⟨p,vs',rfl,h1,h2,h3,h4⟩:=q
          rcases h1 with h1 | h1
          · cases h1
          · exact ⟨p,vs',rfl,h1,h3,h4⟩
        | dn d =>
          obtain ⟨B,h1,h2,h3⟩:=q
          exact ⟨B,h1,fun b hb=>by rcases (h2 b hb).1 with z | z; cases z; exact z,h3⟩
end DL
namespace DL
open PySem PySem.Spec PyProof.Rows L2
structure Cal (P:Program) (w:World) (K:PySem.W.Frag) (mg:Str→Option Value) (base:BHeap) (x:Str) (k:Nat) (G:List D→Option Ev):Prop where
  ex:∃ (a:Addr) (fd:FuncData) (ps:List Str),mg x=some (.ref a)∧PySem.W.keepIn K (.ref a)=true∧L2.Binds K fd ps []∧FnOk P w K mg base CX0 k a fd ps (spD K G)
section
variable {X:Cx} {F:List Addr} {a b c:Expr} {es:List Expr} {fa fb fc:DE} {ga:DA} {pos:Pos}
theorem ped_callC {k:Nat} {G:List D→Option Ev} {x:Str} {p:Pos} (c:Cal X.prog X.w X.K X.mg X.base x k G) (hr:Room k X.A) (ha:PA X (a :: es) (dA X.K F ga)) (hg:Gl X x:=by rfl) (hdb:(x == ("__debug__":Str))=false:=by decide)
    (he:starEach (a :: es) X.env=(false,eval a X.env) :: starEach es X.env:=by rfl) (hpl:(backTo pos (starEach es X.env)).any (·.1)=false:=by rfl):PE X (.Call (.Name x p) (a :: es) [] pos) (dE X.K F (dT1 (kCall G) ga)):=by
  obtain ⟨f,fd,ps,h1,h2,h3,h4⟩:=c.ex
  exact ped_call h4 hr hg h1 h2 h3 ha hdb he hpl
end
structure Df (K:PySem.W.Frag) (mg:Str→Option Value) (x:Str) (st:Stmt) (ps:List Str) (a:Addr) (fd:FuncData):Prop where
  fn:L2.Fun K x x st a fd
  mgx:mg x=some (.ref a)
  bd:L2.Binds K fd ps []
theorem Df.cal {P:Program} {w:World} {K:PySem.W.Frag} {mg:Str→Option Value} {base:BHeap} {x:Str} {st:Stmt} {ps:List Str} {a:Addr} {fd:FuncData} {k:Nat} {G:List D→Option Ev} (d:Df K mg x st ps a fd) (h:FnOk P w K mg base CX0 k a fd ps (spD K G)):Cal P w K mg base x k G :=
  ⟨a,fd,ps,d.mgx,d.fn.kp,d.bd,h⟩
theorem isi_int {K:PySem.W.Frag}:IsiOk K "int":=fun d=>by cases d <;> rfl
theorem isi_bool {K:PySem.W.Frag}:IsiOk K "bool":=fun d=>by cases d <;> rfl
theorem isi_list {K:PySem.W.Frag}:IsiOk K "list":=fun d=>by cases d <;> rfl
theorem bt_int:bootBuiltins "int"=some (.type "int"):=by decide +kernel
theorem bt_bool:bootBuiltins "bool"=some (.type "bool"):=by decide +kernel
theorem bt_list:bootBuiltins "list"=some (.type "list"):=by decide +kernel
end DL
namespace L2
open PySem PySem.Spec PyProof.Rows
section
variable {X:Cx} {pins:List (Addr × Obj)} {σ:L2.St} {H:Hp} {s:Shared} {h':Heap}
theorem Inv.turnedNew {t':Nat} {fp:List Addr} {a:Addr} {o:HO} (I:Inv X pins σ H s) (k:∀ b u,b ∉ fp→s.heap.get? b=some u→h'.get? b=some u) (hf:∀ b ∈ fp,FpOk X pins H b) (hp:s.heap.objs.size ≤ a)
    (new:ObjOk X.prog X.w (upd H a o) h' a o):Inv X pins σ (upd H a o) { s with heap:=h',toks:=t' }:=by
  have ha:H a=none:=I.hok.fresh hp
  have sm:∀ b u,H b=some u→upd H a o b=some u:=fun b u e=>by rw [upd_ne (fun z=>by rw [z,ha] at e; cases e)]; exact e
  have nfp:∀ b u,H b=some u→b ∉ fp:=fun b u e z=>by rw [(hf b z).1] at e; cases e
  refine I.step (g':=s.gens) (d':=s.drawn) (ch:=fp) (fun b hb=>?_) (fun b u _ _ hc e _=>k b u hc e) (fun b u _ _ hc e _=>⟨u.slots,k b u hc e⟩) (fun b u _ e n=>?_)
    (fun b u hc e=>⟨u,k b u hc e⟩) (fun b xs e=>sm b _ e) (fun b q u e=>sm b _ e) (fun b ps e=>sm b _ e) (fun m hm=>?_) (fun b u e=>?_) I.bare
  · obtain ⟨f0,f1,f2,f3,f4,f5⟩:=hf b hb
    exact ⟨f3,f1,f4,f5⟩
  · rw [upd_ne (Nat.ne_of_lt (Nat.lt_of_lt_of_le (Heap.lt_size e) hp))]; exact n
  · obtain ⟨q,es,ep,ho,r⟩:=hm
    exact ⟨q,es,ep,k _ q (fun z=>(hf _ z).2.1 rfl) ho,r⟩
  · by_cases z:b=a
    · subst z
      rw [upd_same] at e
      cases e
      exact new
    · rw [upd_ne z] at e
      refine (I.hok b u e).stay (fun c v hc q=>k c v ?_ q) (fun c q=>sm c _ q) (fun c xs q=>sm c _ q) fun c o u q=>sm c _ q
      rcases hc with w | w
      · rw [w]; exact nfp b u e
      · exact nfp c _ w
theorem Inv.turnedL {t':Nat} {fp:List Addr} (I:Inv X pins σ H s) (k:∀ b u,b ∉ fp→s.heap.get? b=some u→h'.get? b=some u) (hf:∀ b ∈ fp,FpOk X pins H b):Inv X pins σ H { s with heap:=h',toks:=t' }:=by
  have nfp:∀ b u,H b=some u→b ∉ fp:=fun b u e z=>by rw [(hf b z).1] at e; cases e
  refine I.step (g':=s.gens) (d':=s.drawn) (ch:=fp) (fun b hb=>?_) (fun b u _ _ hc e _=>k b u hc e) (fun b u _ _ hc e _=>⟨u.slots,k b u hc e⟩) (fun b u _ e n=>n)
    (fun b u hc e=>⟨u,k b u hc e⟩) (fun b xs e=>e) (fun b q u e=>e) (fun b ps e=>e) (fun m hm=>?_) (fun b u e=>?_) I.bare
  · obtain ⟨f0,f1,f2,f3,f4,f5⟩:=hf b hb
    exact ⟨f3,f1,f4,f5⟩
  · obtain ⟨q,es,ep,ho,r⟩:=hm
    exact ⟨q,es,ep,k _ q (fun z=>(hf _ z).2.1 rfl) ho,r⟩
  · refine (I.hok b u e).stay (fun c v hc q=>k c v ?_ q) (fun c q=>q) (fun c xs q=>q) fun c o u q=>q
    rcases hc with w | w
    · rw [w]; exact nfp b u e
    · exact nfp c _ w
end
def Ite (K:PySem.W.Frag) (a:Addr):It :=
  ⟨fun i H => ∃ xs x,SqL K H a xs∧xs[i]?=some x,fun i H x H' => ∃ p v,H p=none∧x = .ref p∧H'=upd H p (.tup [.int i,v])∧∀ xs,SqL K H a xs→xs[i]?=some v,fun i H => ∃ xs,SqL K H a xs∧xs.length ≤ i⟩
def EnumAt (e it a:Addr) (i:Nat) (h:Heap):Prop:=(∃ old,IsEnum h e it (i:Int) old)∧h.IsListIter it a i∧e ≠ it
theorem turn_enum {P:Program} {w:World} {K:PySem.W.Frag} {elts:List Expr} {k:Nat} {pos:Pos} (a e it:Addr):Turn P w K (.Tuple elts k pos) (Ite K a) [e,it] e (EnumAt e it a) where
  mem:=by simp
  obj:=fun i h st b hb=>by
    obtain ⟨⟨old,h1⟩,h2,_⟩:=st
    rcases (by simpa using hb:b=e ∨ b=it) with rfl | rfl
    · exact ⟨_,h1,fun v z=>by cases z⟩
    · obtain ⟨o,e1,c,d⟩:=h2
      exact ⟨o,e1,fun v z=>by rw [d] at z; cases z⟩
  keep:=fun i h h' st kk=>by
    obtain ⟨⟨old,h1⟩,h2,ne⟩:=st
    exact ⟨⟨old,kk e (by simp) _ h1⟩,h2.at fun o q=>kk it (by simp) o q,ne⟩
  item:=by
    intro X hP hw hK hc i pins s σ H E I hf st hg
    subst hP hw hK
    obtain ⟨xs,x,hq,hx⟩:=hg
    obtain ⟨its,rv,p,hz⟩:=I.list hq
    obtain ⟨u,hu,ru⟩:=rv.get hx
    obtain ⟨⟨old,h1⟩,h2,ne⟩:=st
    refine wpAny_pyNext_enum_item h1 h2 p.isList (x:=u) (by simpa using hu) ne fun h1' heo hit1 ht1 hz1 hk1=>?_
    refine ⟨_,rfl,wpAny_letOwnedTupleGo_enum heo fun h2' he2 hs2=>?_⟩
    replace hs2:Heap.SameBut e h1' h2':=hs2
    have es:e < s.heap.objs.size:=Heap.lt_size h1
    have kp:∀ b o,b ∉ [e,it]→s.heap.get? b=some o→h2'.get? b=some o:=fun b o nb q=>by
      have n1:b ≠ e:=fun z=>nb (by simp [z])
      have n2:b ≠ it:=fun z=>nb (by simp [z])
      exact (hs2.2 b n1).trans (hk1 b o n1 n2 q)
    have ht2:h2'.get? s.heap.objs.size=some { cls := .type "tuple",data := .seq #[.int i s.toks,u] }:=(hs2.2 _ (Nat.ne_of_gt es)).trans ht1
    have I2:Inv X pins σ (upd H s.heap.objs.size (.tup [.int i,x])) { s with heap:=h2',toks:=s.toks + 1 }:=I.turnedNew (t':=s.toks + 1) kp hf (Nat.le_refl _)
      ⟨by show 2 ≤ sizeLine; decide,[.int i s.toks,u], .cons ⟨_,rfl⟩ (.cons ru .nil),⟨_,ht2,rfl,_,rfl⟩⟩
    refine ⟨.ref s.heap.objs.size,_,I2,rfl,⟨s.heap.objs.size,x,I.hok.fresh (Nat.le_refl _),rfl,rfl,fun ys hy=>by rw [I.list_inj hy hq]; exact hx⟩,⟨⟨u,?_⟩,?_,ne⟩,fun b hb=>?_⟩
    · exact he2
    · exact hit1.extBut hs2.extBut (Ne.symm ne)
    · rw [upd_ne (fun z=>?_)]
      · exact (hf b hb).1
      · rcases (by simpa using hb:b=e ∨ b=it) with w' | w'
        · rw [← z,w'] at es; exact absurd es (Nat.lt_irrefl _)
        · obtain ⟨o,e1,_⟩:=h2
          have:=Heap.lt_size e1
          rw [← w',z] at this; exact absurd this (Nat.lt_irrefl _)
  done:=by
    intro X hP hw hK hc i pins s σ H E I hf st hg
    subst hP hw hK
    obtain ⟨xs,hq,hx⟩:=hg
    obtain ⟨its,rv,p,hz⟩:=I.list hq
    obtain ⟨⟨old,h1⟩,h2,ne⟩:=st
    have hl:=rv.length
    refine wpAny_pyNext_enum_end (I.ok.hd hc) h1 h2 p.isList (by simp; omega) fun h' eb=>⟨rfl,I.turnedL (t':=s.toks) (fun b o nb q=>eb b o (fun z=>nb (by simp [z])) q) hf⟩
  self:=fun _ _ _ _ _ st h=>by
    obtain ⟨⟨old,h1⟩,_,_⟩:=st
    exact wpAny_pyIter_enum h1 h
def iEnum (K:PySem.W.Frag) (tl:TE):TI:=fun σ H R=>tl σ H fun x H1 => ∃ a,x = .ref a∧(∃ xs,SqL K H1 a xs)∧R (Ite K a) H1
theorem bt_enum:bootBuiltins "enumerate"=some (.type "enumerate"):=by decide +kernel
theorem pi_enum {X:Cx} {l:Expr} {tl:TE} {elts:List Expr} {k:Nat} {tp p pos:Pos} (hg:Gl X "enumerate") (hm:X.mg "enumerate"=none) (hl:PE X l tl) (hs:starEach [l] X.env=[(false,eval l X.env)]:=by rfl) :
    PI X (.Tuple elts k tp) (.Call (.Name "enumerate" p) [l] [] pos) (iEnum X.K tl):=by
  intro pins s σ H R I h
  refine Call_ (ld_blt I hg hm bt_enum (PyProof.Rows.callWith_type1 (thn ((pa_cons hl pa_nil hs) pos pins s σ H (fun vs H1=>match vs with | [x] => ∃ a,x = .ref a∧(∃ xs,SqL X.K H1 a xs)∧R (Ite X.K a) H1 | _=>False) I h) fun us s1 ⟨vs,H1,I1,r1,q1⟩=>?_) hs rfl))
  cases r1 with
  | nil=>exact q1.elim
  | @cons x u xr ur ru rr =>
   cases rr with
   | cons _ _=>exact q1.elim
   | nil =>
    obtain ⟨a,rfl,⟨xs,hq⟩,q⟩:=q1
    cases ru
    obtain ⟨its,rv,p,hz⟩:=I1.list hq
    refine call_enumerate_list p.isList fun h' he hit hz' hk=>?_
    have I2:Inv X pins σ H1 { s1 with heap:=h' }:=I1.kept (t':=s1.toks) hk
    refine wpAny_pyIter_enum he ?_
    refine ⟨s1.heap.objs.size + 1,[s1.heap.objs.size + 1,s1.heap.objs.size],EnumAt (s1.heap.objs.size + 1) s1.heap.objs.size a,Ite X.K a,H1,rfl,I2,turn_enum a _ _,⟨⟨_,he⟩,hit,Nat.succ_ne_self _⟩,fun b hb=>?_,q⟩
    rcases (by simpa using hb:b=s1.heap.objs.size + 1 ∨ b=s1.heap.objs.size) with rfl | rfl
    · exact I1.fpOk (Nat.le_succ _) (I1.hok.fresh (Nat.le_succ _))
    · exact I1.fpOk (Nat.le_refl _) (I1.hok.fresh (Nat.le_refl _))
end L2
namespace DL
open PySem PySem.Spec PyProof.Rows L2
def enumD (i:Nat):List D→List D
  | []=>[]
  | d :: ds => .tup [.int i,d] :: enumD (i + 1) ds
theorem enumD_len:∀ (i:Nat) (ds:List D),(enumD i ds).length=ds.length
  | _,[]=>rfl
  | i,d :: ds=>by simp [enumD,enumD_len (i + 1) ds]
theorem enumD_get:∀ (i:Nat) (ds:List D) (j:Nat) (d:D),ds[j]?=some d→(enumD i ds)[j]?=some (.tup [.int ((i + j:Nat):Int),d])
  | _,[],j,d,h=>by simp at h
  | i,e :: ds,0,d,h=>by simp at h; subst h; simp [enumD]
  | i,e :: ds,j + 1,d,h=>by
    have:=enumD_get (i + 1) ds j d (by simpa using h)
    simp only [enumD,List.getElem?_cons_succ,this]
    rw [show i + 1 + j=i + (j + 1) by omega]
def dEnum (k:D→Th→Option Th) (f:DE) (body:DS):DS:=fun t=>(f t).bind fun r=>match r.d with
  | .lst ds=>if r.ok then forD k body (enumD 0 ds) t else none
  | _=>none
section
variable {X:Cx} {F:List Addr} {a b c:Expr} {es:List Expr} {fa fb fc:DE} {g g1 g2:DS} {pos:Pos} {gt:TG} {kt:D→Th→Option Th}
theorem psd_enum {body:List Stmt} {elts:List Expr} {kk:Nat} {tp p1 p2:Pos} (hp:PassesOwn (model X.prog X.w) X.A X.env X.xe) (hc:X.calm=true) (hge:Gl X "enumerate") (hm:X.mg "enumerate"=none) (hl:PE X a (dE X.K F fa)) (hg:PG X (.Tuple elts kk tp) gt) (ht:TgOk X.K F gt kt) (hb:PSs X body (dS X.K F g))
    (hst:starEach [a] X.env=[(false,eval a X.env)]:=by rfl) (hs:∀ x,foldedSetIterable (.Call (.Name "enumerate" p1) [a] [] p2) X.env x=pure x:=by intro _; rfl):PS X (.For (.Tuple elts kk tp) (.Call (.Name "enumerate" p1) [a] [] p2) body [] pos) (dS X.K F (dEnum kt fa g)):=by
  refine PS.imp (ps_for hp hc (pi_enum hge hm hl hst) hg hb hs) ?_
  intro E σ H hh
  obtain ⟨A,t,o,R,e,h⟩:=dS_of hh
  unfold dEnum at e
  cases e1:fa t with
  | none=>rw [e1] at e; cases e
  | some r =>
    rw [e1] at e
    refine ⟨A,t,r,R,e1,fun v H1 gs q=>?_⟩
    have e:(match r.d with
      | .lst ds=>if r.ok then forD kt g (enumD 0 ds) t else none
      | _=>none)=some o:=e
    split at e
    case h_2=>cases e
    rename_i ds z
    split at e
    case isFalse=>cases e
    rename_i ok
    have cl:=q.clean R.mu gs ok
    rw [z] at cl
    cases cl with
    | @lst _ p vs h1 h2 =>
      refine ⟨p,rfl,⟨vs,SqL.mono (hide_sub _ _) h1⟩,?_⟩
      refine for_core (fun A H=>SqL X.K (hide (A ++ F) H) p vs∧Reps X.K (hide (A ++ F) H) ds vs) ht (R.grow gs) e (h.back (Gr.of_same R.mu.left gs)) ⟨h1,h2⟩ (fun A H A' H' q gr=>⟨SqL.mono gr.same q.1,Reps.mono gr.same q.2⟩)
        (fun A H q=>⟨vs,SqL.mono (hide_sub _ _) q.1,by rw [h2.length,enumD_len]; exact Nat.le_refl _⟩) (fun A H i q hi=>?_) (fun A H i x H' q mu y hi=>?_)
      · have hi':i < vs.length:=by rw [h2.length]; rw [enumD_len] at hi; exact hi
        exact ⟨vs,vs[i],SqL.mono (hide_sub _ _) q.1,List.getElem?_eq_getElem hi'⟩
      · obtain ⟨l,v,hl0,rfl,rfl,hv⟩:=y
        have zz:=hv vs (SqL.mono (hide_sub _ _) q.1)
        obtain ⟨d,hd,rd⟩:=q.2.getV zz
        have sm:=upd_sameH (o:=HO.tup [.int i,v]) hl0
        refine ⟨sm,_,enumD_get 0 ds i d hd,?_⟩
        rw [Nat.zero_add]
        exact .tup (SqT.of (hide_get upd_same (notin_lists mu hl0))) (.cons (.int _) (.cons (Rep.mono (same_hide sm) rd) .nil))
end
end DL
namespace L2
open PySem PySem.Spec PyProof.Rows
def clOf (cells:List (Str × Addr)):List (Str × NameKind)→List (Str × Addr)→List (Str × Addr)
  | [],acc=>acc
  | (n,k) :: r,acc=>if k == .free then clOf cells r ((n,(cells.lookup n).getD 0) :: acc) else clOf cells r acc
theorem clOf_lookup {cells:List (Str × Addr)}:∀ {names:List (Str × NameKind)} {acc:List (Str × Addr)} {x:Str} {c:Addr},(∀ y ∈ names,y.2 = .free→∃ c,cells.lookup y.1=some c)→(clOf cells names acc).lookup x=some c→acc.lookup x=some c ∨ cells.lookup x=some c
  | [],acc,x,c,_,h => .inl h
  | (n,k) :: r,acc,x,c,hy,h=>by
    unfold clOf at h
    have hr:∀ y ∈ r,y.2 = .free→∃ c,cells.lookup y.1=some c:=fun y h1=>hy y (List.mem_cons_of_mem _ h1)
    split at h
    · rename_i hk
      rcases clOf_lookup hr h with z | z
      · rw [List.lookup_cons] at z
        split at z
        · rename_i e
          have e:x=n:=by simpa using e
          obtain ⟨c',hc'⟩:=hy (n,k) (List.mem_cons_self ..) (by simpa using hk)
          simp only [hc',Option.getD_some] at z
          cases z
          rw [e]; exact .inr hc'
        · exact .inl z
      · exact .inr z
    · exact clOf_lookup hr h
theorem clOf_mono {cells:List (Str × Addr)}:∀ {names:List (Str × NameKind)} {acc:List (Str × Addr)} {x:Str},(∃ c,acc.lookup x=some c)→∃ c,(clOf cells names acc).lookup x=some c
  | [],acc,x,h=>h
  | (n,k) :: r,acc,x,h=>by
    unfold clOf
    split
    · refine clOf_mono ?_
      rw [List.lookup_cons]
      split
      · exact ⟨_,rfl⟩
      · exact h
    · exact clOf_mono h
theorem clOf_has {cells:List (Str × Addr)}:∀ {names:List (Str × NameKind)} {acc:List (Str × Addr)} {x:Str},(x,NameKind.free) ∈ names→∃ c,(clOf cells names acc).lookup x=some c
  | (n,k) :: r,acc,x,h=>by
    unfold clOf
    rcases List.mem_cons.mp h with z | z
    · cases z
      rw [if_pos (by rfl)]
      refine clOf_mono ⟨(cells.lookup n).getD 0,?_⟩
      simp [List.lookup_cons]
    · split
      · exact clOf_has z
      · exact clOf_has z
theorem closure_eq {scope:Scope} {env:Env} (h:∀ y ∈ scope.names,y.2 = .free→∃ c,env.cells.lookup y.1=some c):closureFor scope env=pure (clOf env.cells scope.names []):=by
  unfold closureFor
  have key:∀ (names:List (Str × NameKind)) (acc:List (Str × Addr)),(∀ y ∈ names,y.2 = .free→∃ c,env.cells.lookup y.1=some c) →
      (forIn names acc fun (x:Str × NameKind) (cs:List (Str × Addr))=>(do
        if x.2 == .free then
          let a ← cellOf env x.1
          pure (ForInStep.yield ((x.1,a) :: cs))
        else pure (ForInStep.yield cs):Sem (ForInStep (List (Str × Addr)))))=pure (clOf env.cells names acc):=by
    intro names
    induction names with
    | nil=>intro acc _; rfl
    | cons y r ih =>
      intro acc hy
      obtain ⟨n,k⟩:=y
      have hr:∀ y ∈ r,y.2 = .free→∃ c,env.cells.lookup y.1=some c:=fun y h1=>hy y (List.mem_cons_of_mem _ h1)
      rw [List.forIn_cons]
      unfold clOf
      by_cases hk:(k == NameKind.free)=true
      · obtain ⟨c,hc⟩:=hy (n,k) (List.mem_cons_self ..) (by simpa using hk)
        have hc':cellOf env n=pure c:=by unfold cellOf; rw [hc]
        simp only [hk,if_true,hc']
        rw [← ih _ hr]
        simp only [hc,Option.getD_some]
        rfl
      · have hk':(k == NameKind.free)=false:=by simpa using hk
        simp only [hk',Bool.false_eq_true,if_false]
        rw [← ih _ hr]
        rfl
  have:=key scope.names [] h
  simp only [bind_pure_comp] at this ⊢
  rw [this]
  rfl
theorem relabel_lookup {env:Env}:∀ {names:List (Str × NameKind)} {x:Str} {k':NameKind},(names.map fun (n,k)=>if (k == NameKind.free && env.scope.kind == .function && env.kindOf n == some .cell) then (n,NameKind.cell) else (n,k)).lookup x=some k' →
    ∃ k,(x,k) ∈ names∧(k'=k ∨ (k = .free∧k' = .cell))
  | [],x,k',h=>by simp at h
  | (n,k) :: r,x,k',h=>by
    rw [List.map_cons] at h
    by_cases hc:(k == NameKind.free && env.scope.kind == .function && env.kindOf n == some .cell)=true
    · simp only [hc,if_true,List.lookup_cons] at h
      split at h
      · rename_i e
        have e:x=n:=by simpa using e
        cases h
        simp only [Bool.and_eq_true,beq_iff_eq] at hc
        have hk:k = .free:=by simpa using hc.1.1
        exact ⟨k,by rw [e]; exact List.mem_cons_self .., .inr ⟨hk,rfl⟩⟩
      · obtain ⟨q,a,b⟩:=relabel_lookup h
        exact ⟨q,List.mem_cons_of_mem _ a,b⟩
    · have hc':(k == NameKind.free && env.scope.kind == .function && env.kindOf n == some .cell)=false:=by simpa using hc
      simp only [hc',Bool.false_eq_true,if_false,List.lookup_cons] at h
      split at h
      · rename_i e
        have e:x=n:=by simpa using e
        cases h
        exact ⟨_,by rw [e]; exact List.mem_cons_self .., .inl rfl⟩
      · obtain ⟨q,a,b⟩:=relabel_lookup h
        exact ⟨q,List.mem_cons_of_mem _ a,b⟩
theorem compLoop_any {prog:Program} {w:World} {A:Around} {R:Result→Shared→Prop} {s:Shared} {elt target iter:Expr} {ifs:List Expr} {scope:Scope} {pos:Pos} {it acc:Value} {env:Env} (I:Nat→Shared→Prop)
    (turn:∀ n s,I n s→wpAny (model prog w) A (pyNext it) (fun r s₁=>match r with
      | none=>R (.ok .next) s₁
      | some v=>wpAny (model prog w) A (letOwnedTupleGo target it v) (fun _ s₁'=>wpAny (model prog w) A (assign target env v) (fun _ s₂ =>
          wpAny (model prog w) A (forIn ifs true fun c r=>if r=true then do let ok ← isTrue c env (eval c env); pure (ForInStep.yield ok) else pure (ForInStep.yield r)) (fun ok s₃ =>
            if ok=true then wpAny (model prog w) A (eval elt env) (fun x s₄ =>
              wpAny (model prog w) A (call (.builtin "list.append") [acc,x]) (fun _ s₅ => ∃ m,m < n∧I m s₅) (fun _ _=>False) s₄) (fun _ _=>False) s₃
            else ∃ m,m < n∧I m s₃) (fun _ _=>False) s₂) (fun _ _=>False) s₁') (fun _ _=>False) s₁) (fun _ _=>False) s)
    (n:Nat) (h:I n s):codeAny (model prog w) A (.compLoop (.ListComp elt [⟨target,iter,ifs,0⟩] scope pos) 0 it acc env) R s:=by
  refine codeAny_loop rfl I (fun n s hI=>?_) n h
  show wpAny _ A ((compTurn (.ListComp elt [⟨target,iter,ifs,0⟩] scope pos) 0 it acc env).onRaise (fun x=>do noteFrame x env; theTreesLotGoes x)) _ _ s
  refine wpAny_noted ?_
  rw [compTurn_list]
  refine wpAny_bind (wpAny_standAt (wpAny_bind (wpAny_mono (turn n s hI) (fun r s₁ h₁=>?_) fun _ _ h'=>h'.elim)))
  cases r with
  | none=>exact wpAny_pure h₁
  | some v =>
    refine wpAny_bind (wpAny_mono h₁ (fun _ s₁' h₁'=>?_) fun _ _ h'=>h'.elim)
    refine wpAny_bind (wpAny_mono h₁' (fun _ s₂ h₂=>wpAny_bind (wpAny_mono h₂ (fun ok s₃ h₃=>?_) fun _ _ h'=>h'.elim)) fun _ _ h'=>h'.elim)
    cases ok with
    | false=>exact wpAny_pure ⟨rfl,h₃⟩
    | true =>
      exact wpAny_bind (wpAny_bind (wpAny_mono h₃ (fun x s₄ h₄=>wpAny_bind (wpAny_mono h₄ (fun _ s₅ h₅=>wpAny_pure (wpAny_pure ⟨rfl,h₅⟩)) fun _ _ h'=>h'.elim)) fun _ _ h'=>h'.elim))
theorem cf_bound {x:Str} {c:Addr}:∀ {names:List (Str × NameKind)} {n:Nat} {acc:List (Str × Addr)},(cellsFrom n names acc).lookup x=some c→acc.lookup x=some c ∨ n ≤ c
  | [],n,acc,h => .inl h
  | (y,k) :: r,n,acc,h=>by
    unfold cellsFrom at h
    split at h
    · rcases cf_bound h with z | z
      · rw [List.lookup_cons] at z
        split at z
        · cases z; exact .inr (Nat.le_refl _)
        · exact .inl z
      · exact .inr (by omega)
    · exact cf_bound h
theorem cf_has {x:Str}:∀ {names:List (Str × NameKind)} {n:Nat} {acc:List (Str × Addr)},(∃ c,acc.lookup x=some c)→∃ c,(cellsFrom n names acc).lookup x=some c
  | [],n,acc,h=>h
  | (y,k) :: r,n,acc,h=>by
    unfold cellsFrom
    split
    · refine cf_has ?_
      rw [List.lookup_cons]
      split
      · exact ⟨_,rfl⟩
      · exact h
    · exact cf_has h
theorem cf_some {x:Str}:∀ {names:List (Str × NameKind)} {n:Nat} {acc:List (Str × Addr)},(x,NameKind.cell) ∈ names→∃ c,(cellsFrom n names acc).lookup x=some c
  | (y,k) :: r,n,acc,h=>by
    unfold cellsFrom
    rcases List.mem_cons.mp h with z | z
    · cases z
      rw [if_pos (by rfl)]
      exact cf_has ⟨n,by simp [List.lookup_cons]⟩
    · split
      · exact cf_some z
      · exact cf_some z
theorem cf_ge {x:Str} {c:Addr} {lo:Nat}:∀ {names:List (Str × NameKind)} {n:Nat} {acc:List (Str × Addr)},lo ≤ n→(∀ c,acc.lookup x=some c→lo ≤ c)→(cellsFrom n names acc).lookup x=some c→lo ≤ c
  | [],n,acc,_,ha,h=>ha c h
  | (y,k) :: r,n,acc,hn,ha,h=>by
    unfold cellsFrom at h
    split at h
    · refine cf_ge (n:=n + 1) (by omega) (fun c' h'=>?_) h
      rw [List.lookup_cons] at h'
      split at h'
      · cases h'; exact hn
      · exact ha c' h'
    · exact cf_ge hn ha h
theorem cf_new {x:Str} {c:Addr}:∀ {names:List (Str × NameKind)} {n:Nat} {acc:List (Str × Addr)},(x,NameKind.cell) ∈ names→(cellsFrom n names acc).lookup x=some c→n ≤ c
  | (y,k) :: r,n,acc,hm,h=>by
    unfold cellsFrom at h
    rcases List.mem_cons.mp hm with z | z
    · cases z
      rw [if_pos (by rfl)] at h
      refine cf_ge (lo:=n) (n:=n + 1) (by omega) (fun c' h'=>?_) h
      rw [List.lookup_cons,beq_self_eq_true] at h'
      cases h'
      exact Nat.le_refl _
    · split at h
      · have:=cf_new z h; omega
      · exact cf_new z h
theorem cf_old {x:Str}:∀ {names:List (Str × NameKind)} {n:Nat} {acc:List (Str × Addr)},(x,NameKind.cell) ∉ names→(cellsFrom n names acc).lookup x=acc.lookup x
  | [],n,acc,_=>rfl
  | (y,k) :: r,n,acc,h=>by
    have hr:(x,NameKind.cell) ∉ r:=fun z=>h (List.mem_cons_of_mem _ z)
    unfold cellsFrom
    split
    · rename_i hk
      rw [cf_old hr,List.lookup_cons]
      split
      · rename_i e
        exact absurd (List.mem_cons.mpr (.inl (by rw [show x=y by simpa using e,show k=NameKind.cell by simpa using hk]))) h
      · rfl
    · exact cf_old hr
theorem cf_inj:∀ {names:List (Str × NameKind)} {n:Nat} {acc:List (Str × Addr)},(∀ x c,acc.lookup x=some c→c < n)→(∀ x y c,acc.lookup x=some c→acc.lookup y=some c→x=y) →
    ∀ x y c,(cellsFrom n names acc).lookup x=some c→(cellsFrom n names acc).lookup y=some c→x=y
  | [],n,acc,_,hi=>hi
  | (z,k) :: r,n,acc,hb,hi=>by
    unfold cellsFrom
    split
    · refine cf_inj (n:=n + 1) (fun x c h=>?_) (fun x y c h1 h2=>?_)
      · rw [List.lookup_cons] at h
        split at h
        · cases h; exact Nat.lt_succ_self _
        · exact Nat.lt_succ_of_lt (hb x c h)
      · rw [List.lookup_cons] at h1 h2
        split at h1
        · rename_i e1
          cases h1
          split at h2
          · rename_i e2; rw [show x=z by simpa using e1,show y=z by simpa using e2]
          · exact absurd (hb y _ h2) (Nat.lt_irrefl _)
        · split at h2
          · cases h2; exact absurd (hb x _ h1) (Nat.lt_irrefl _)
          · exact hi x y c h1 h2
    · exact cf_inj hb hi
theorem cf_cell {x:Str} {c:Addr}:∀ {names:List (Str × NameKind)} {h:Heap} {acc:List (Str × Addr)},(∀ c,acc.lookup x=some c→∃ v,h.IsCell c v)→(cellsFrom h.objs.size names acc).lookup x=some c→∃ v,(pushCells h names).IsCell c v
  | [],h,acc,ha,e=>ha c e
  | (y,k) :: r,h,acc,ha,e=>by
    unfold cellsFrom at e
    unfold pushCells
    split at e
    · rename_i hk
      rw [if_pos hk]
      rw [show h.objs.size + 1=(h.push { cls := .type "cell",data := .cell none }).objs.size from (Heap.size_push ..).symm] at e
      refine cf_cell (fun c' e'=>?_) e
      rw [List.lookup_cons] at e'
      split at e'
      · cases e'; exact ⟨none,_,Heap.get?_push_size _ rfl,rfl⟩
      · obtain ⟨v,z⟩:=ha c' e'
        exact ⟨v,z.keeps fun b o q=>Heap.get?_push_of_some _ q⟩
    · rename_i hk
      rw [if_neg hk]
      exact cf_cell ha e
theorem wpAny_newBlock {M:Model} {A:Around} {E:Value→Shared→Prop} {s:Shared} {scope:Scope} {globals:Addr} {cl:List (Str × Addr)} {qual:Str} {func:Option Addr} {code:Value} {env:Env} {builtins:Addr} {Q:Env→Shared→Prop}
    (hQ:∀ h',h'.Ns s.heap.objs.size (fun _=>none)→(∀ b o,s.heap.get? b=some o→h'.get? b=some o)→(∀ x c,(∀ c,cl.lookup x=some c→∃ v,s.heap.IsCell c v)→(cellsFrom (s.heap.objs.size + 1) scope.names cl).lookup x=some c→∃ v,h'.IsCell c v) →
      Q (newEnv scope s.heap.objs.size globals (cellsFrom (s.heap.objs.size + 1) scope.names cl) qual func code (some env) builtins) { s with heap:=h',toks:=s.toks }) :
    wpAny M A (newFunctionEnv scope globals cl [] qual func code (some env) builtins) Q E s:=by
  simp only [newFunctionEnv,Option.isSome_some,if_true]
  refine wpAny_bind (wpAny_alloc ?_)
  refine wpAny_bind (wpAny_layCells _ (fun name kind cells=>by cases hkc:kind == NameKind.cell <;> simp [hkc]) _ _ _ _ ?_)
  have sz:(s.heap.push { cls := .type "dict",data := .dict #[] }).objs.size=s.heap.objs.size + 1:=Heap.size_push ..
  rw [show ({ s with heap:=s.heap.push { cls := .type "dict",data := .dict #[] } }:Shared).heap.objs.size=s.heap.objs.size + 1 from sz]
  rw [List.forIn_nil]
  refine wpAny_bind (wpAny_pure (wpAny_pure ?_))
  refine hQ _ ((Heap.Ns.new s.heap (.type "dict")).keeps (pushCells_keeps _ _)) (fun b o e=>pushCells_keeps _ _ b o (Heap.get?_push_of_some _ e)) fun x c ha e=>?_
  rw [← sz] at e
  exact cf_cell (fun c' e'=>let ⟨v,z⟩:=ha c' e'; ⟨v,z.keeps fun b o q=>Heap.get?_push_of_some _ q⟩) e
abbrev blk (X:Cx) (N':List Str) (scope:Scope) (C:Addr) (s₃:Shared) (H₃:Hp) (fp:List Addr) (pins:List (Addr × Obj)):Cx :=
  { X with N:=N',s₀:=s₃,H₀:=H₃,env:=compEnvC scope (cellsFrom (C + 1) scope.names (clOf X.env.cells scope.names [])) C X.env,outer:=X.stack,stack:=X.stack,ex:=fp,fn:=fun x=>scope.names.lookup x == some .cell,calm:=true,pn:=X.pn ++ pins,xe:=fun _ _=>False }
structure CompSc (X:Cx) (scope:Scope):Prop where
  kind:scope.kind = .function
  free:∀ y ∈ scope.names,y.2 = .free→X.env.kindOf y.1=some .cell ∨ X.env.kindOf y.1=some .free
  names:∀ y ∈ scope.names,scope.names.lookup y.1=some y.2
section
variable {X:Cx} {pins:List (Addr × Obj)} {σ:L2.St} {H:Hp} {s:Shared} {scope:Scope} {N':List Str} {fp:List Addr}
theorem CompSc.frees (S:CompSc X scope) (ok:X.Ok):∀ y ∈ scope.names,y.2 = .free→∃ c,X.env.cells.lookup y.1=some c:=fun y hy hf=>ok.has y.1 (S.free y hy hf)
theorem CompSc.cells (S:CompSc X scope) (ok:X.Ok) {x:Str} {c:Addr} (h:(clOf X.env.cells scope.names []).lookup x=some c):X.env.cells.lookup x=some c:=by
  rcases clOf_lookup (S.frees ok) h with z | z
  · simp at z
  · exact z
theorem CompSc.nc (S:CompSc X scope) {x:Str} (h:(x,NameKind.free) ∈ scope.names):(x,NameKind.cell) ∉ scope.names:=fun z=>by
  have w1:=S.names _ h
  have w2:=S.names _ z
  rw [show (x,NameKind.cell).1=(x,NameKind.free).1 from rfl,w1] at w2
  cases w2
theorem CompSc.cls (S:CompSc X scope) (I:Inv X pins σ H s) {x:Str} {c:Addr} (h:(clOf X.env.cells scope.names []).lookup x=some c):c < s.heap.objs.size:=by
  obtain ⟨v,o,ho,_⟩:=I.cell x c (S.cells I.ok h)
  exact Heap.lt_size ho
theorem CompSc.old (S:CompSc X scope) (I:Inv X pins σ H s) {x:Str} {c:Addr} (h:(cellsFrom (s.heap.objs.size + 1) scope.names (clOf X.env.cells scope.names [])).lookup x=some c):X.env.cells.lookup x=some c ∨ s.heap.objs.size < c:=by
  rcases cf_bound h with z | z
  · exact .inl (S.cells I.ok z)
  · exact .inr z
theorem blk_ok (I:Inv X pins σ H s) (S:CompSc X scope) (hc:X.calm=true) (hf:∀ b ∈ fp,FpOk X pins H b) (hlt:∀ b ∈ fp,b < s.heap.objs.size):(blk X N' scope s.heap.objs.size s H fp pins).Ok where
  mod:=I.ok.mod
  kind:=S.kind
  glob:=I.ok.glob
  blt:=I.ok.blt
  above:=Nat.le_refl _
  inj:=cf_inj (fun x c h=>Nat.lt_succ_of_lt (S.cls I h)) fun x y c h1 h2=>I.ok.inj x y c (S.cells I.ok h1) (S.cells I.ok h2)
  has:=fun x hx=>by
    have hx:(relabel scope X.env).names.lookup x=some .cell ∨ (relabel scope X.env).names.lookup x=some .free:=hx
    have:(x,NameKind.free) ∈ scope.names ∨ (x,NameKind.cell) ∈ scope.names:=by
      rcases hx with hx | hx
      · obtain ⟨k,a,b⟩:=relabel_lookup hx
        rcases b with b | b
        · rw [← b] at a; exact .inr a
        · rw [b.1] at a; exact .inl a
      · obtain ⟨k,a,b⟩:=relabel_lookup hx
        rcases b with b | b
        · rw [← b] at a; exact .inl a
        · cases b.2
    rcases this with z | z
    · exact cf_has (clOf_has z)
    · exact cf_some z
  cab:=fun x c h e=>by
    have h:(scope.names.lookup x == some NameKind.cell)=true:=h
    have h:scope.names.lookup x=some .cell:=by simpa using h
    exact Nat.le_of_succ_le (cf_new (PySem.mem_of_lookup h) e)
  hd:=fun _=>I.ok.hd hc
  frames:=I.ok.frames
  stk := .inl rfl
  exf:=fun b hb=>⟨Nat.ne_of_lt (hlt b hb),fun x c h=>by
    rcases S.old I h with z | z
    · exact (hf b hb).2.2.2.2.1 x c z
    · exact Nat.ne_of_gt (Nat.lt_trans (hlt b hb) z)⟩
  bs:=fun b o e=>I.bs b o e
  bsz:=Nat.le_trans I.ok.bsz I.sz
  noex:=fun b o e hb=>by
    rcases (hf b hb).2.2.2.1 with z | z
    · exact I.ok.noex b o e z
    · exact absurd (Nat.lt_of_lt_of_le (Heap.lt_size e) (Nat.le_trans I.ok.bsz z)) (Nat.lt_irrefl _)
  exfs:=fun b hb z=>(List.mem_cons.mp (I.stkSub b z)).elim (hf b hb).2.1 (hf b hb).2.2.1
  funs:=I.stack
  frf:=I.stkFree
  tabs:=fun p hp=>I.base.tbls _ _ (I.ok.tabs p hp)
theorem blk_inv (I:Inv X pins σ H s) (S:CompSc X scope) (hc:X.calm=true) (hf:∀ b ∈ fp,FpOk X pins H b) (hlt:∀ b ∈ fp,b < s.heap.objs.size) {h1:Heap} {t1:Nat} {m:Str→Option Value} {σ':L2.St}
    (hns:h1.Ns s.heap.objs.size m) (hk:∀ b o,s.heap.get? b=some o→h1.get? b=some o) (hcl:∀ x c,(∀ c,(clOf X.env.cells scope.names []).lookup x=some c→∃ v,s.heap.IsCell c v)→(cellsFrom (s.heap.objs.size + 1) scope.names (clOf X.env.cells scope.names [])).lookup x=some c→∃ v,h1.IsCell c v) (hl:σ'.length=N'.length)
    (cap:∀ (i:Nat) (x:Str) (v:V),N'[i]?=some x→σ'[i]?=some (some v)→(x,NameKind.free) ∈ scope.names∧∃ j:Nat,X.N[j]?=some x∧σ[j]?=some (some v)) :
    Inv (blk X N' scope s.heap.objs.size s H fp pins) [] σ' H { s with heap:=h1,toks:=t1 } where
  ok:=blk_ok I S hc hf hlt
  os:=rfl
  bare:=I.bare
  base:=Un.kept hk
  loc:=⟨m,hns,fun i x v e1 e2 vs=>by
    obtain ⟨hfree,j,j1,j2⟩:=cap i x v e1 e2
    obtain ⟨m0,hn0,hl0⟩:=I.loc
    have vis:Vis X.env.scope x:=by
      rcases S.free _ hfree rfl with z | z
      · exact .inr (.inl z)
      · exact .inr (.inr z)
    obtain ⟨u,r,l⟩:=hl0 j x v j1 j2 vis
    refine ⟨u,r,?_⟩
    rcases l with ⟨k,_⟩ | ⟨k,c,e,z⟩
    · exfalso
      rcases S.free _ hfree rfl with q | q
      · rw [k] at q; cases q
      · rw [k] at q; cases q
    · obtain ⟨c',hc'⟩:=clOf_has (cells:=X.env.cells) (acc:=[]) hfree
      have e':=S.cells I.ok hc'
      rw [e] at e'; cases e'
      refine .inr ⟨?_,c,by rw [show (blk X N' scope s.heap.objs.size s H fp pins).env.cells.lookup x=_ from cf_old (S.nc hfree)]; exact hc',?_⟩
      · have vs:(relabel scope X.env).names.lookup x=some .local ∨ (relabel scope X.env).names.lookup x=some .cell ∨ (relabel scope X.env).names.lookup x=some .free:=vs
        rcases vs with q | q
        · obtain ⟨k2,a,b⟩:=relabel_lookup q
          rcases b with b | b
          · rw [← b] at a
            have w1:=S.names _ a
            have w2:=S.names _ hfree
            rw [show (x,NameKind.local).1=(x,NameKind.free).1 from rfl,w2] at w1
            cases w1
          · cases b.2
        · exact q
      · obtain ⟨o,ho,hd⟩:=z
        exact ⟨o,hk _ _ ho,hd⟩⟩
  cell:=fun x c h=>hcl x c (fun c' h'=>I.cell x c' (S.cells I.ok h')) h
  free:=I.hok.fresh (Nat.le_refl _)
  freeC:=fun x c h=>by
    rcases S.old I h with z | z
    · exact I.freeC x c z
    · exact I.hok.fresh (Nat.le_of_lt z)
  pin:=fun p hp=>by
    have hp:p ∈ (X.pn ++ pins) ++ []:=hp
    rw [List.append_nil] at hp
    obtain ⟨a,b,c,d,e⟩:=I.pin p hp
    exact ⟨hk _ _ a,b,Nat.ne_of_lt (Heap.lt_size a),fun z=>(List.mem_cons.mp (I.stkSub _ z)).elim c d,e⟩
  hok:=I.hok.kept hk
  len:=hl
theorem blk_back {H3 H':Hp} {s':Shared} {h'':Heap} {σ':L2.St} {C:Addr} {pins':List (Addr × Obj)} (I:Inv X pins σ H3 s) (hf:∀ b ∈ fp,FpOk X pins H3 b) (hC:C=s.heap.objs.size) (I':Inv (blk X N' scope C s H3 fp pins) pins' σ' H' s') (hb:Heap.SameBut C s'.heap h''):Inv X pins σ H' { s' with heap:=h'' }:=by
  subst hC
  have bs:Un (frs X.stack) fp H3 H' s.heap s'.heap:=I'.base
  have nC:∀ b o,s.heap.get? b=some o→b ≠ s.heap.objs.size:=fun b o e=>Nat.ne_of_lt (Heap.lt_size e)
  have tr:∀ b,b ≠ s.heap.objs.size→h''.get? b=s'.heap.get? b:=fun b n=>hb.2 b n
  have u:Un (frs X.stack) fp H3 H' s.heap h'' :=
    ⟨fun b o e n h1 h2=>(tr b (nC b o e)).trans (bs.keep b o e n h1 h2),fun b o e n h1 h2=>by obtain ⟨sl,q⟩:=bs.slot b o e n h1 h2; exact ⟨sl,(tr b (nC b o e)).trans q⟩,bs.free,
      fun b o e h1=>by obtain ⟨o',q⟩:=bs.there b o e h1; exact ⟨o',(tr b (nC b o e)).trans q⟩,bs.tups,bs.frzs,bs.tbls⟩
  have cf:H' s.heap.objs.size=none:=I'.free
  have hok:HOk X.prog X.w H' h'':=fun b o e=>by
    have nb:b ≠ s.heap.objs.size:=fun z=>by rw [z,cf] at e; cases e
    refine (I'.hok b o e).stay (fun c v hc q=>(tr c ?_).trans q) (fun _ q=>q) (fun _ _ q=>q) fun _ _ _ q=>q
    rcases hc with w | w
    · rw [w]; exact nb
    · exact fun z=>by rw [z,cf] at w; cases w
  obtain ⟨h0,g0,d0,t0,o0⟩:=s'
  have e:o0=s.os:=I'.os
  subst e
  exact I.call (g':=g0) (t':=t0) (d':=d0) u hok I'.bare fun b hb'=>by
    obtain ⟨f0,f1,f2,f3,f4,f5⟩:=hf b hb'
    exact ⟨f3,f1,f4,f5⟩
end
end L2
namespace L2
open PySem PySem.Spec PyProof.Rows
def PTs (Y:Cx) (ifs:List Expr) (t:TT):Prop :=
  ∀ (pins:List (Addr × Obj)) (s:Shared) (σ:L2.St) (H:Hp) (Q:Bool→Hp→Prop),Inv Y pins σ H s→t σ H Q →
    wpAny (model Y.prog Y.w) Y.A (forIn ifs true fun c r=>if r=true then do let ok ← isTrue c Y.env (eval c Y.env); pure (ForInStep.yield ok) else pure (ForInStep.yield r)) (TP Y pins σ Q) Y.xe s
theorem pts_nil {Y:Cx}:PTs Y [] (fun _ H Q=>Q true H):=fun pins s σ H Q I h=>wpAny_tests_nil ⟨H,I,h⟩
theorem pts_one {Y:Cx} {c:Expr} {t:TT} (h:PT Y c t):PTs Y [c] t:=fun pins s σ H Q I q=>wpAny_tests_one (h pins s σ H Q I q)
def capV (n:Nat) (cap:List Nat) (σ:L2.St):L2.St:=List.replicate n none ++ cap.map fun j=>(σ[j]?).getD none
def tComp (n:Nat) (cap:List Nat) (wi:TI) (g:TG) (tt:TT) (te:TE):TE:=fun σ H Q=>wi σ H fun J H1 => ∀ D,H1 D=none→∃ W:Nat→Nat→L2.St→Hp→Prop,(∃ m,W 0 m (capV n cap σ) (upd H1 D (.lst [])))∧∀ i m σ' H',W i m σ' H' →
  (J.stop i H'∧Q (.ref D) H') ∨ (J.go i H'∧∃ N:L2.St→Hp→Prop,(∀ σ'' H'',N σ'' H''→∃ m',m' < m∧W (i + 1) m' σ'' H'')∧∀ x H2,J.yld i H' x H2→g x σ' H2 fun σ2 H3=>tt σ2 H3 fun b H4 =>
    if b=true then te σ2 H4 fun v H5 => ∃ vs,H5 D=some (.lst vs)∧vs.length < sizeLine∧N σ2 (upd H5 D (.lst (vs ++ [v]))) else N σ2 H4)
theorem pe_comp {X:Cx} {elt tg iter:Expr} {ifs:List Expr} {scope:Scope} {pos:Pos} {n:Nat} {cap:List Nat} {N':List Str} {wi:TI} {g:TG} {tt:TT} {te:TE} (S:CompSc X scope) (hc:X.calm=true) (hi:PI X tg iter wi)
    (hN:N'.length=n + cap.length) (hcap:∀ (k:Nat) (j:Nat),cap[k]?=some j→∃ x,N'[n + k]?=some x∧X.N[j]?=some x∧(x,NameKind.free) ∈ scope.names)
    (hg:∀ C s₃ H₃ fp pins,PG (blk X N' scope C s₃ H₃ fp pins) tg g) (ht:∀ C s₃ H₃ fp pins,PTs (blk X N' scope C s₃ H₃ fp pins) ifs tt) (he:∀ C s₃ H₃ fp pins,PE (blk X N' scope C s₃ H₃ fp pins) elt te)
    (hs:∀ x,foldedSetIterable iter X.env x=pure x:=by intro _; rfl):PE X (.ListComp elt [⟨tg,iter,ifs,0⟩] scope pos) (tComp n cap wi g tt te):=by
  intro pins s σ H Q I h
  rw [eval_ListComp]
  refine wpAny_comprehension_free (use:=none) rfl hs (closure_eq (S.frees I.ok)) S.kind (fun x hx hl=>by rw [S.names x hx,hl]) (thn (hi pins s σ H _ I h) fun v s1 h1=>thn h1 fun itv s2 h2=>?_)
  obtain ⟨it,fp,tn,J,H2,e,I2,T,st2,f2,R⟩:=h2
  subst e
  have lt2:∀ b ∈ fp,b < s2.heap.objs.size:=fun b hb=>by obtain ⟨o,e,_⟩:=T.obj _ _ st2 b hb; exact Heap.lt_size e
  have hD:H2 s2.heap.objs.size=none:=I2.fresh
  obtain ⟨W,⟨m0,w0⟩,turn⟩:=R s2.heap.objs.size hD
  have I3:Inv X pins σ (upd H2 s2.heap.objs.size (.lst [])) { s2 with heap:=s2.heap.push { cls := .type "list",data := .seq ([]:List Value).toArray },toks:=s2.toks }:=I2.lnew (t':=s2.toks) .nil (by simp)
  have f3:∀ b ∈ fp,FpOk X pins (upd H2 s2.heap.objs.size (.lst [])) b:=fun b hb=>⟨by rw [upd_ne (Nat.ne_of_lt (lt2 b hb))]; exact (f2 b hb).1,(f2 b hb).2⟩
  refine wpAny_newObj_type (wpAny_newBlock fun h₁ hns₁ hk hcl₁=>?_)
  have lt3:∀ b ∈ fp,b < (s2.heap.push { cls := .type "list",data := .seq ([]:List Value).toArray }).objs.size:=fun b hb=>by rw [Heap.size_push]; exact Nat.lt_succ_of_lt (lt2 b hb)
  have I4:Inv (blk X N' scope (s2.heap.push { cls := .type "list",data := .seq ([]:List Value).toArray }).objs.size { s2 with heap:=s2.heap.push { cls := .type "list",data := .seq ([]:List Value).toArray },toks:=s2.toks } (upd H2 s2.heap.objs.size (.lst [])) fp pins) [] (capV n cap σ) (upd H2 s2.heap.objs.size (.lst [])) { s2 with heap:=h₁,toks:=s2.toks } :=
    blk_inv I3 S hc f3 lt3 (t1:=s2.toks) hns₁ hk hcl₁ (by simp [capV,hN]) (fun i x v e1 e2=>by
      unfold capV at e2
      by_cases hi:i < n
      · rw [List.getElem?_append_left (by simpa using hi),List.getElem?_replicate] at e2
        split at e2 <;> cases e2
      · rw [List.getElem?_append_right (by simpa using hi),List.length_replicate,List.getElem?_map] at e2
        cases ej:cap[i - n]? with
        | none=>rw [ej] at e2; cases e2
        | some j =>
          rw [ej] at e2
          obtain ⟨x',a1,a2,a3⟩:=hcap (i - n) j ej
          have:n + (i - n)=i:=by omega
          rw [this,e1] at a1
          cases a1
          refine ⟨a3,j,a2,?_⟩
          have e2:(σ[j]?).getD none=some v:=by simpa using e2
          cases q:σ[j]? with
          | none=>rw [q] at e2; cases e2
          | some z=>rw [q] at e2; have:z=some v:=e2; rw [this])
  have loop:codeAny (model X.prog X.w) X.A (.compLoop (.ListComp elt [⟨tg,iter,ifs,0⟩] scope pos) 0 (.ref it) (.ref s2.heap.objs.size) (compEnvC scope (cellsFrom ((s2.heap.push { cls := .type "list",data := .seq ([]:List Value).toArray }).objs.size + 1) scope.names (clOf X.env.cells scope.names [])) (s2.heap.push { cls := .type "list",data := .seq ([]:List Value).toArray }).objs.size X.env))
      (compPost (model X.prog X.w) X.A X.xe none (EP X pins σ Q) (.ref s2.heap.objs.size) (s2.heap.push { cls := .type "list",data := .seq ([]:List Value).toArray }).objs.size) { s2 with heap:=h₁,toks:=s2.toks }:=by
    generalize hY:(blk X N' scope (s2.heap.push { cls := .type "list",data := .seq ([]:List Value).toArray }).objs.size { s2 with heap:=s2.heap.push { cls := .type "list",data := .seq ([]:List Value).toArray },toks:=s2.toks } (upd H2 s2.heap.objs.size (.lst [])) fp pins)=Y at I4
    have st4:tn 0 h₁:=T.keep _ _ _ st2 fun b hb o e=>hk b o (Heap.get?_push_of_some _ e)
    have stat:∀ {H':Hp},(∀ b ∈ fp,H' b=none)→∀ b ∈ fp,FpOk Y [] H' b:=fun hn b hb=>by
      subst hY
      obtain ⟨f0,f1,f2',f3',f4,f5⟩:=f3 b hb
      exact ⟨hn b hb,Nat.ne_of_lt (lt3 b hb),fun z=>(List.mem_cons.mp (I3.stkSub b z)).elim f1 f2', .inl hb,fun x c e=>(by
        rcases S.old I3 e with z | z
        · exact f4 x c z
        · exact Nat.ne_of_gt (Nat.lt_trans (lt3 b hb) z)),fun p hp=>f5 p (by simpa using hp)⟩
    have hgY:PG Y tg g:=hY ▸ hg _ _ _ _ _
    have htY:PTs Y ifs tt:=hY ▸ ht _ _ _ _ _
    have heY:PE Y elt te:=hY ▸ he _ _ _ _ _
    have yp:Y.prog=X.prog:=by subst hY; rfl
    have yw:Y.w=X.w:=by subst hY; rfl
    have yK:Y.K=X.K:=by subst hY; rfl
    have yA:Y.A=X.A:=by subst hY; rfl
    have yc:Y.calm=true:=by subst hY; rfl
    have yx:Y.xe=fun _ _=>False:=by subst hY; rfl
    have ye:Y.env=compEnvC scope (cellsFrom ((s2.heap.push { cls := .type "list",data := .seq ([]:List Value).toArray }).objs.size + 1) scope.names (clOf X.env.cells scope.names [])) (s2.heap.push { cls := .type "list",data := .seq ([]:List Value).toArray }).objs.size X.env:=by subst hY; rfl
    rw [← ye]
    refine compLoop_any (fun n s' => ∃ i σ' H',Inv Y [] σ' H' s'∧tn i s'.heap∧(∀ b ∈ fp,H' b=none)∧W i n σ' H') ?_ m0 ⟨0,_,_,I4,st4,fun b hb=>(f3 b hb).1,w0⟩
    rintro n s3 ⟨i,σ3,H3,I5,st3,fr3,w3⟩
    rcases turn i n σ3 H3 w3 with ⟨stop,qn⟩ | ⟨go,N,hNN,step⟩
    · have d:=T.done Y yp yw yK yc i [] s3 σ3 H3 (fun _ _=>False) I5 (stat fr3) st3 stop
      rw [yA] at d
      refine thn d fun r s4 ⟨hr,I6⟩=>?_
      subst hr
      obtain ⟨m,hm,_⟩:=I6.loc
      rw [ye] at hm
      refine ⟨m,hm,fun h' hb=>⟨.ref s2.heap.objs.size,H3,?_,rfl,qn⟩⟩
      subst hY
      exact blk_back I3 f3 rfl I6 hb
    · have d:=T.item Y yp yw yK yc i [] s3 σ3 H3 (fun _ _=>False) I5 (stat fr3) st3 go
      rw [yA] at d
      refine thn d fun r s4 ⟨u,hr,h4⟩=>?_
      subst hr
      refine thn h4 fun _ s5 ⟨x,H5,I6,r5,y5,st5,fr5⟩=>?_
      have I6':=I6.pinned (stat fr5) (T.obj _ _ st5)
      have a:=hgY _ s5 σ3 H5 x u _ I6' r5 (step x H5 y5)
      rw [yp,yw,yA,yx] at a
      refine thn a fun _ s6 ⟨σ6,H6,I7,q6⟩=>?_
      have b:=htY _ s6 σ6 H6 _ I7 q6
      rw [yp,yw,yA,yx] at b
      refine thn b fun ok s7 ⟨H7,I8,q7⟩=>?_
      have again:∀ {s9:Shared} {H9:Hp},Inv Y ([] ++ pinsAt fp s5.heap) σ6 H9 s9→N σ6 H9→∃ m,m < n∧∃ i σ' H',Inv Y [] σ' H' s9∧tn i s9.heap∧(∀ b ∈ fp,H' b=none)∧W i m σ' H':=fun {s9 H9} I9 n9=>by
        obtain ⟨m',hm,w9⟩:=hNN σ6 H9 n9
        refine ⟨m',hm,i + 1,σ6,H9,I9.unpinned,T.keep _ _ _ st5 fun b hb o e=>(I9.pin (b,o) (List.mem_append_right _ (List.mem_append_right _ (mem_pinsAt hb e)))).1,fun b hb=>?_,w9⟩
        obtain ⟨o,e,d⟩:=T.obj _ _ st5 b hb
        exact (I9.pin (b,o) (List.mem_append_right _ (List.mem_append_right _ (mem_pinsAt hb e)))).2.1
      cases ok with
      | false=>exact iteF (again I8 (by simpa using q7))
      | true =>
        rw [if_pos rfl] at q7
        refine iteT ?_
        have c:=heY _ s7 σ6 H7 _ I8 q7
        rw [yp,yw,yA,yx] at c
        refine thn c fun z s8 ⟨vz,H8,I9,r9,vs,hv,hl,n9⟩=>?_
        have ap:=mt_append (X:=Y) ([] ++ pinsAt fp s5.heap) s8 σ6 H8 (.ref s2.heap.objs.size) [vz] (.ref s2.heap.objs.size) [z] (fun _ H9=>N σ6 H9) I9 rfl (.cons r9 .nil) ⟨_,vs,vz,rfl,rfl,hv,hl,n9⟩
        rw [yp,yw,yA,yx] at ap
        exact thn ap fun _ s9 ⟨_,H9,I10,_,n10⟩=>again I10 n10
  exact codeAny_compStart_list loop (T.self _ 0 _ _ _ (T.keep _ _ _ st2 fun b hb o e=>hk b o (Heap.get?_push_of_some _ e)) loop)
theorem ps_compU {X:Cx} {i₀:Nat} {y₀:Str} {py spos:Pos} {elt tg iter:Expr} {ifs:List Expr} {scope:Scope} {pos:Pos} {n:Nat} {cap:List Nat} {N':List Str} {wi:TI} {g:TG} {tt:TT} {te:TE} (S:CompSc X scope) (hc:X.calm=true) (hi:PI X tg iter wi)
    (hN:N'.length=n + cap.length) (hcap:∀ (k:Nat) (j:Nat),cap[k]?=some j→∃ x,N'[n + k]?=some x∧X.N[j]?=some x∧(x,NameKind.free) ∈ scope.names)
    (hg:∀ C s₃ H₃ fp pins,PG (blk X N' scope C s₃ H₃ fp pins) tg g) (ht:∀ C s₃ H₃ fp pins,PTs (blk X N' scope C s₃ H₃ fp pins) ifs tt) (he:∀ C s₃ H₃ fp pins,PE (blk X N' scope C s₃ H₃ fp pins) elt te)
    (hNd:X.N.Nodup) (hi₀:X.N[i₀]?=some y₀) (hy:Loc X.env.scope y₀) (hsw:swapsWith (.ListComp elt [⟨tg,iter,ifs,0⟩] scope pos) (some (.Name y₀ py)) spos.line X.env=pure true) (hf:X.fn y₀=true ∨ X.env.scope.names.lookup y₀=some .local)
    (hs:∀ x,foldedSetIterable iter X.env x=pure x:=by intro _; rfl):PS X (.Assign [.Name y₀ py] (.ListComp elt [⟨tg,iter,ifs,0⟩] scope pos) spos) (fun D σ H=>tComp n cap wi g tt te σ H fun v H1=>D.nx (σ.set i₀ (some v)) H1):=by
  intro pins s σ H Ed I h
  rw [exec_Assign_Name_used y₀ py _ spos hsw]
  refine wpAny_bind (wpAny_standAt (wpAny_bind ?_))
  show wpAny (model X.prog X.w) X.A (comprehension (.ListComp elt [⟨tg,iter,ifs,0⟩] scope pos) scope X.env _ (newList []) false (eval iter X.env) (some (assign (.Name y₀ py) X.env)) >>= fun _=>pure ()) _ _ s
  refine wpAny_bind (thn (Q:=fun _ s'=>SP X pins Ed .next s') ?_ fun _ s' hq=>wpAny_pure (wpAny_pure hq))
  refine wpAny_comprehension_free (use:=some (assign (.Name y₀ py) X.env)) rfl hs (closure_eq (S.frees I.ok)) S.kind (fun x hx hl=>by rw [S.names x hx,hl]) (thn (hi pins s σ H _ I h) fun v s1 h1=>thn h1 fun itv s2 h2=>?_)
  obtain ⟨it,fp,tn,J,H2,e,I2,T,st2,f2,R⟩:=h2
  subst e
  have lt2:∀ b ∈ fp,b < s2.heap.objs.size:=fun b hb=>by obtain ⟨o,e,_⟩:=T.obj _ _ st2 b hb; exact Heap.lt_size e
  have hD:H2 s2.heap.objs.size=none:=I2.fresh
  obtain ⟨W,⟨m0,w0⟩,turn⟩:=R s2.heap.objs.size hD
  have I3:Inv X pins σ (upd H2 s2.heap.objs.size (.lst [])) { s2 with heap:=s2.heap.push { cls := .type "list",data := .seq ([]:List Value).toArray },toks:=s2.toks }:=I2.lnew (t':=s2.toks) .nil (by simp)
  have f3:∀ b ∈ fp,FpOk X pins (upd H2 s2.heap.objs.size (.lst [])) b:=fun b hb=>⟨by rw [upd_ne (Nat.ne_of_lt (lt2 b hb))]; exact (f2 b hb).1,(f2 b hb).2⟩
  refine wpAny_newObj_type (wpAny_newBlock fun h₁ hns₁ hk hcl₁=>?_)
  have lt3:∀ b ∈ fp,b < (s2.heap.push { cls := .type "list",data := .seq ([]:List Value).toArray }).objs.size:=fun b hb=>by rw [Heap.size_push]; exact Nat.lt_succ_of_lt (lt2 b hb)
  have I4:Inv (blk X N' scope (s2.heap.push { cls := .type "list",data := .seq ([]:List Value).toArray }).objs.size { s2 with heap:=s2.heap.push { cls := .type "list",data := .seq ([]:List Value).toArray },toks:=s2.toks } (upd H2 s2.heap.objs.size (.lst [])) fp pins) [] (capV n cap σ) (upd H2 s2.heap.objs.size (.lst [])) { s2 with heap:=h₁,toks:=s2.toks } :=
    blk_inv I3 S hc f3 lt3 (t1:=s2.toks) hns₁ hk hcl₁ (by simp [capV,hN]) (fun i x v e1 e2=>by
      unfold capV at e2
      by_cases hi:i < n
      · rw [List.getElem?_append_left (by simpa using hi),List.getElem?_replicate] at e2
        split at e2 <;> cases e2
      · rw [List.getElem?_append_right (by simpa using hi),List.length_replicate,List.getElem?_map] at e2
        cases ej:cap[i - n]? with
        | none=>rw [ej] at e2; cases e2
        | some j =>
          rw [ej] at e2
          obtain ⟨x',a1,a2,a3⟩:=hcap (i - n) j ej
          have:n + (i - n)=i:=by omega
          rw [this,e1] at a1
          cases a1
          refine ⟨a3,j,a2,?_⟩
          have e2:(σ[j]?).getD none=some v:=by simpa using e2
          cases q:σ[j]? with
          | none=>rw [q] at e2; cases e2
          | some z=>rw [q] at e2; have:z=some v:=e2; rw [this])
  have loop:codeAny (model X.prog X.w) X.A (.compLoop (.ListComp elt [⟨tg,iter,ifs,0⟩] scope pos) 0 (.ref it) (.ref s2.heap.objs.size) (compEnvC scope (cellsFrom ((s2.heap.push { cls := .type "list",data := .seq ([]:List Value).toArray }).objs.size + 1) scope.names (clOf X.env.cells scope.names [])) (s2.heap.push { cls := .type "list",data := .seq ([]:List Value).toArray }).objs.size X.env))
      (compPost (model X.prog X.w) X.A X.xe (some (assign (.Name y₀ py) X.env)) (fun _ s'=>SP X pins Ed .next s') (.ref s2.heap.objs.size) (s2.heap.push { cls := .type "list",data := .seq ([]:List Value).toArray }).objs.size) { s2 with heap:=h₁,toks:=s2.toks }:=by
    generalize hY:(blk X N' scope (s2.heap.push { cls := .type "list",data := .seq ([]:List Value).toArray }).objs.size { s2 with heap:=s2.heap.push { cls := .type "list",data := .seq ([]:List Value).toArray },toks:=s2.toks } (upd H2 s2.heap.objs.size (.lst [])) fp pins)=Y at I4
    have st4:tn 0 h₁:=T.keep _ _ _ st2 fun b hb o e=>hk b o (Heap.get?_push_of_some _ e)
    have stat:∀ {H':Hp},(∀ b ∈ fp,H' b=none)→∀ b ∈ fp,FpOk Y [] H' b:=fun hn b hb=>by
      subst hY
      obtain ⟨f0,f1,f2',f3',f4,f5⟩:=f3 b hb
      exact ⟨hn b hb,Nat.ne_of_lt (lt3 b hb),fun z=>(List.mem_cons.mp (I3.stkSub b z)).elim f1 f2', .inl hb,fun x c e=>(by
        rcases S.old I3 e with z | z
        · exact f4 x c z
        · exact Nat.ne_of_gt (Nat.lt_trans (lt3 b hb) z)),fun p hp=>f5 p (by simpa using hp)⟩
    have hgY:PG Y tg g:=hY ▸ hg _ _ _ _ _
    have htY:PTs Y ifs tt:=hY ▸ ht _ _ _ _ _
    have heY:PE Y elt te:=hY ▸ he _ _ _ _ _
    have yp:Y.prog=X.prog:=by subst hY; rfl
    have yw:Y.w=X.w:=by subst hY; rfl
    have yK:Y.K=X.K:=by subst hY; rfl
    have yA:Y.A=X.A:=by subst hY; rfl
    have yc:Y.calm=true:=by subst hY; rfl
    have yx:Y.xe=fun _ _=>False:=by subst hY; rfl
    have ye:Y.env=compEnvC scope (cellsFrom ((s2.heap.push { cls := .type "list",data := .seq ([]:List Value).toArray }).objs.size + 1) scope.names (clOf X.env.cells scope.names [])) (s2.heap.push { cls := .type "list",data := .seq ([]:List Value).toArray }).objs.size X.env:=by subst hY; rfl
    rw [← ye]
    refine compLoop_any (fun n s' => ∃ i σ' H',Inv Y [] σ' H' s'∧tn i s'.heap∧(∀ b ∈ fp,H' b=none)∧W i n σ' H') ?_ m0 ⟨0,_,_,I4,st4,fun b hb=>(f3 b hb).1,w0⟩
    rintro n s3 ⟨i,σ3,H3,I5,st3,fr3,w3⟩
    rcases turn i n σ3 H3 w3 with ⟨stop,qn⟩ | ⟨go,N,hNN,step⟩
    · have d:=T.done Y yp yw yK yc i [] s3 σ3 H3 (fun _ _=>False) I5 (stat fr3) st3 stop
      rw [yA] at d
      refine thn d fun r s4 ⟨hr,I6⟩=>?_
      subst hr
      obtain ⟨m,hm,_⟩:=I6.loc
      rw [ye] at hm
      subst hY
      have IX:=blk_back I3 f3 rfl I6 (h'':=s4.heap) ⟨rfl,fun _ _=>rfl⟩
      have cf:H3 (s2.heap.push { cls := .type "list",data := .seq ([]:List Value).toArray }).objs.size=none:=I6.free
      have fC:FpOk X pins H3 (s2.heap.push { cls := .type "list",data := .seq ([]:List Value).toArray }).objs.size:=I3.fpOk (Nat.le_refl _) cf
      obtain ⟨c0,c1,c2,c3,c4,c5⟩:=fC
      refine wpAny_assign_Name (store_ok2 (s:=s4) IX hNd hi₀ hy (v := .ref s2.heap.objs.size) rfl (fun s5 I7 ⟨a,sb,ha⟩=>?_) hf)
      have na:a ≠ (s2.heap.push { cls := .type "list",data := .seq ([]:List Value).toArray }).objs.size:=by
        rcases ha with z | z
        · rw [z]; exact fun w=>c1 w.symm
        · exact c4 _ _ z
      refine ⟨m,hm.sameBut sb (Ne.symm na),fun h' hb=>⟨_,H3,?_,qn⟩⟩
      exact I7.turned (t':=s5.toks) (fun b o n e=>(hb.2 b n).trans e) c0 c1 c3 c4 c5
    · have d:=T.item Y yp yw yK yc i [] s3 σ3 H3 (fun _ _=>False) I5 (stat fr3) st3 go
      rw [yA] at d
      refine thn d fun r s4 ⟨u,hr,h4⟩=>?_
      subst hr
      refine thn h4 fun _ s5 ⟨x,H5,I6,r5,y5,st5,fr5⟩=>?_
      have I6':=I6.pinned (stat fr5) (T.obj _ _ st5)
      have a:=hgY _ s5 σ3 H5 x u _ I6' r5 (step x H5 y5)
      rw [yp,yw,yA,yx] at a
      refine thn a fun _ s6 ⟨σ6,H6,I7,q6⟩=>?_
      have b:=htY _ s6 σ6 H6 _ I7 q6
      rw [yp,yw,yA,yx] at b
      refine thn b fun ok s7 ⟨H7,I8,q7⟩=>?_
      have again:∀ {s9:Shared} {H9:Hp},Inv Y ([] ++ pinsAt fp s5.heap) σ6 H9 s9→N σ6 H9→∃ m,m < n∧∃ i σ' H',Inv Y [] σ' H' s9∧tn i s9.heap∧(∀ b ∈ fp,H' b=none)∧W i m σ' H':=fun {s9 H9} I9 n9=>by
        obtain ⟨m',hm,w9⟩:=hNN σ6 H9 n9
        refine ⟨m',hm,i + 1,σ6,H9,I9.unpinned,T.keep _ _ _ st5 fun b hb o e=>(I9.pin (b,o) (List.mem_append_right _ (List.mem_append_right _ (mem_pinsAt hb e)))).1,fun b hb=>?_,w9⟩
        obtain ⟨o,e,d⟩:=T.obj _ _ st5 b hb
        exact (I9.pin (b,o) (List.mem_append_right _ (List.mem_append_right _ (mem_pinsAt hb e)))).2.1
      cases ok with
      | false=>exact iteF (again I8 (by simpa using q7))
      | true =>
        rw [if_pos rfl] at q7
        refine iteT ?_
        have c:=heY _ s7 σ6 H7 _ I8 q7
        rw [yp,yw,yA,yx] at c
        refine thn c fun z s8 ⟨vz,H8,I9,r9,vs,hv,hl,n9⟩=>?_
        have ap:=mt_append (X:=Y) ([] ++ pinsAt fp s5.heap) s8 σ6 H8 (.ref s2.heap.objs.size) [vz] (.ref s2.heap.objs.size) [z] (fun _ H9=>N σ6 H9) I9 rfl (.cons r9 .nil) ⟨_,vs,vz,rfl,rfl,hv,hl,n9⟩
        rw [yp,yw,yA,yx] at ap
        exact thn ap fun _ s9 ⟨_,H9,I10,_,n10⟩=>again I10 n10
  exact codeAny_compStart_list loop (T.self _ 0 _ _ _ (T.keep _ _ _ st2 fun b hb o e=>hk b o (Heap.get?_push_of_some _ e)) loop)
end L2
namespace DL
open PySem PySem.Spec PyProof.Rows L2
structure Src (K:PySem.W.Frag) (ds:List D) (J:It) (Good:List Addr→Hp→Prop):Prop where
  keep:∀ P H P' H',Good P H→Same (hide P H) (hide P' H')→Good P' H'
  stop:∀ P H,Good P H→J.stop ds.length H
  go:∀ P H i,Good P H→i < ds.length→J.go i H
  yld:∀ P H i x H',Good P H→Lists H P→J.yld i H x H'→i < ds.length→Same H H'∧∃ d,ds[i]?=some d∧Rep K (hide P H') d x
abbrev DI:=Th→Option (Bool × List D)
def hidF (b:Bool) (A F:List Addr):List Addr:=if b then A ++ F else F
def dI (K:PySem.W.Frag) (F:List Addr) (fs:DI):TI:=fun σ H R => ∃ A t b ds,RS K F H A t σ∧fs t=some (b,ds)∧∀ J H1 Good,Same H H1→Src K ds J Good→Good (hidF b A F) H1→R J H1
theorem PI.imp {X:Cx} {tg iter:Expr} {t t':TI} (h:PI X tg iter t) (i:∀ σ H R,t' σ H R→t σ H R):PI X tg iter t':=fun pins s σ H R I q=>h pins s σ H R I (i σ H R q)
def fsL (f:DE):DI:=fun t=>(f t).bind fun r=>match r.d with
  | .lst ds=>some (r.ok,ds)
  | _=>none
def fsE (f:DE):DI:=fun t=>(f t).bind fun r=>match r.d with
  | .lst ds=>some (r.ok,enumD 0 ds)
  | _=>none
def fsR1 (f:DE):DI:=fun t=>(f t).bind fun r=>match r.d with
  | .int n=>if bigI n then some (true,rngD 0 n.toNat) else none
  | _=>none
theorem src_list {K:PySem.W.Frag} {p:Addr} {vs:List V} {ds:List D} (hl:vs.length=ds.length):Src K ds (Itl K p) (fun P H=>SqL K (hide P H) p vs∧Reps K (hide P H) ds vs) where
  keep:=fun P H P' H' q s=>⟨SqL.mono s q.1,Reps.mono s q.2⟩
  stop:=fun P H q=>⟨vs,SqL.mono (hide_sub _ _) q.1,by omega⟩
  go:=fun P H i q hi=>⟨vs,vs[i]'(by omega),SqL.mono (hide_sub _ _) q.1,List.getElem?_eq_getElem (by omega)⟩
  yld:=fun P H i x H' q mu y hi=>by
    obtain ⟨e1,e2⟩:=y
    subst e1
    exact ⟨Same.refl _,q.2.getV (e2 vs (SqL.mono (hide_sub _ _) q.1))⟩
theorem src_enum {K:PySem.W.Frag} {p:Addr} {vs:List V} {ds:List D} (hl:vs.length=ds.length):Src K (enumD 0 ds) (Ite K p) (fun P H=>SqL K (hide P H) p vs∧Reps K (hide P H) ds vs) where
  keep:=fun P H P' H' q s=>⟨SqL.mono s q.1,Reps.mono s q.2⟩
  stop:=fun P H q=>⟨vs,SqL.mono (hide_sub _ _) q.1,by rw [enumD_len]; omega⟩
  go:=fun P H i q hi=>by
    rw [enumD_len] at hi
    exact ⟨vs,vs[i]'(by omega),SqL.mono (hide_sub _ _) q.1,List.getElem?_eq_getElem (by omega)⟩
  yld:=fun P H i x H' q mu y hi=>by
    obtain ⟨l,v,hl0,rfl,rfl,hv⟩:=y
    obtain ⟨d,hd,rd⟩:=q.2.getV (hv vs (SqL.mono (hide_sub _ _) q.1))
    have sm:=upd_sameH (o:=HO.tup [.int i,v]) hl0
    refine ⟨sm,_,enumD_get 0 ds i d hd,?_⟩
    rw [Nat.zero_add]
    exact .tup (SqT.of (hide_get upd_same (notin_lists mu hl0))) (.cons (.int _) (.cons (Rep.mono (same_hide sm) rd) .nil))
theorem src_rng {K:PySem.W.Frag} {lo:Int} {n:Nat}:Src K (rngD lo n) (Itr lo n) (fun _ _=>True) where
  keep:=fun _ _ _ _ _ _=>trivial
  stop:=fun P H _=>by rw [rng_len]; exact Nat.le_refl n
  go:=fun P H i _ hi=>by rw [rng_len] at hi; exact hi
  yld:=fun P H i x H' _ _ y hi=>by
    rw [rng_len] at hi
    obtain ⟨e1,e2⟩:=y
    subst e1
    refine ⟨Same.refl _, .int (lo + i),by simp [rngD,hi],?_⟩
    rw [e2]; exact .int _
theorem RepEv.hidF {K:PySem.W.Frag} {F A:List Addr} {H H':Hp} {r:Ev} {v:V} (m:Lists H (A ++ F)) (gs:Same H H') (q:RepEv K F A H H' r v):Rep K (hide (DL.hidF r.ok A F) H') r.d v:=by
  unfold DL.hidF
  split
  · rename_i c; exact q.clean m gs c
  · exact q.cleanF m
section
variable {X:Cx} {F:List Addr} {a b c:Expr} {es:List Expr} {fa fb fc:DE} {pos:Pos} {tg:Expr}
theorem pid_list (hl:PE X a (dE X.K F fa)):PI X tg a (dI X.K F (fsL fa)):=by
  refine PI.imp (pi_list hl) ?_
  rintro σ H R ⟨A,t,b,ds,RR,e,h⟩
  unfold fsL at e
  cases e1:fa t with
  | none=>rw [e1] at e; cases e
  | some r =>
    rw [e1] at e
    refine ⟨A,t,r,RR,e1,fun v H1 gs q=>?_⟩
    have e:(match r.d with | .lst ds=>some (r.ok,ds) | _=>none)=some (b,ds):=e
    split at e
    case h_2=>cases e
    rename_i ds' z
    cases e
    have cl:=RepEv.hidF RR.mu gs q
    rw [z] at cl
    cases cl with
    | @lst _ p vs h1 h2=>exact ⟨p,rfl,⟨vs,SqL.mono (hide_sub _ _) h1⟩,h _ H1 _ gs (src_list h2.length) ⟨h1,h2⟩⟩
theorem pid_enum {elts:List Expr} {kk:Nat} {tp p1 p2:Pos} (hge:Gl X "enumerate") (hm:X.mg "enumerate"=none) (hl:PE X a (dE X.K F fa)) (hst:starEach [a] X.env=[(false,eval a X.env)]:=by rfl):PI X (.Tuple elts kk tp) (.Call (.Name "enumerate" p1) [a] [] p2) (dI X.K F (fsE fa)):=by
  refine PI.imp (pi_enum hge hm hl hst) ?_
  rintro σ H R ⟨A,t,b,ds,RR,e,h⟩
  unfold fsE at e
  cases e1:fa t with
  | none=>rw [e1] at e; cases e
  | some r =>
    rw [e1] at e
    refine ⟨A,t,r,RR,e1,fun v H1 gs q=>?_⟩
    have e:(match r.d with | .lst ds=>some (r.ok,enumD 0 ds) | _=>none)=some (b,ds):=e
    split at e
    case h_2=>cases e
    rename_i ds' z
    cases e
    have cl:=RepEv.hidF RR.mu gs q
    rw [z] at cl
    cases cl with
    | @lst _ p vs h1 h2=>exact ⟨p,rfl,⟨vs,SqL.mono (hide_sub _ _) h1⟩,h _ H1 _ gs (src_enum h2.length) ⟨h1,h2⟩⟩
theorem pid_rng1 {p1 p2:Pos} (hgr:Gl X "range") (hm:X.mg "range"=none) (ha:PE X a (dE X.K F fa)) (hst:starEach [a] X.env=[(false,eval a X.env)]:=by rfl):PI X tg (.Call (.Name "range" p1) [a] [] p2) (dI X.K F (fsR1 fa)):=by
  refine PI.imp (pi_range1 hgr hm (pa_cons ha pa_nil hst) hst) ?_
  rintro σ H R ⟨A,t,b,ds,RR,e,h⟩
  unfold fsR1 at e
  cases e1:fa t with
  | none=>rw [e1] at e; cases e
  | some r =>
    rw [e1] at e
    refine ⟨A,t,r,RR,e1,fun v H1 gs q=>?_⟩
    have e:(match r.d with | .int n=>if bigI n then some (true,rngD 0 n.toNat) else none | _=>none)=some (b,ds):=e
    split at e
    case h_2=>cases e
    rename_i n z
    split at e
    case isFalse=>cases e
    rename_i ok
    simp only [bigI,decide_eq_true_eq] at ok
    cases e
    have p:=q.full
    rw [z] at p
    cases rep_int p
    exact ⟨n,rfl,by omega,by omega,h _ H1 _ gs src_rng trivial⟩
end
def capD (t:Th):List Nat→Option (Bool × List D)
  | []=>some (true,[])
  | j :: js=>(capD t js).bind fun q=>match t[j]? with
    | some (.val d)=>some (q.1,d :: q.2)
    | some (.own xs)=>some (false, .lst xs :: q.2)
    | some (.dp d)=>some (false,d :: q.2)
    | _=>none
theorem capD_rep {K:PySem.W.Frag} {F A:List Addr} {H:Hp} {t:Th} {σ:L2.St} (R:RS K F H A t σ):∀ {cap:List Nat} {b:Bool} {ds:List D},capD t cap=some (b,ds)→∃ vs:List V,(cap.map fun j=>(σ[j]?).getD none)=vs.map some∧Reps K (hide (hidF b A F) H) ds vs
  | [],b,ds,e=>by cases e; exact ⟨[],rfl, .nil⟩
  | j :: js,b,ds,e=>by
    unfold capD at e
    cases e1:capD t js with
    | none=>rw [e1] at e; cases e
    | some q =>
      obtain ⟨b',ds'⟩:=q
      rw [e1] at e
      obtain ⟨vs,h1,h2⟩:=capD_rep R e1
      have e:(match t[j]? with
        | some (.val d)=>some (b',d :: ds')
        | some (.own xs)=>some (false, .lst xs :: ds')
        | some (.dp d)=>some (false,d :: ds')
        | _=>none)=some (b,ds):=e
      have less:∀ c:Bool,Same (hide (A ++ F) H) (hide (hidF c A F) H):=fun c=>hide_less H fun x z=>by
        cases c with
        | true=>exact z
        | false=>exact List.mem_append_right _ z
      split at e
      · rename_i d z
        cases e
        obtain ⟨v,a1,a2⟩:=R.rel.getVal z
        exact ⟨v :: vs,by simp [a1,h1], .cons (Rep.mono (less _) a2) h2⟩
      · rename_i xs z
        cases e
        obtain ⟨p,us,a1,a2,a3,a4⟩:=R.rel.getOwn z
        refine ⟨.ref p :: vs,by simp [a1,h1], .cons (.lst (SqL.of (hide_get a3 (R.dj p a2))) (Reps.mono (less false) a4)) (Reps.mono (hide_less H fun x z=>?_) h2)⟩
        cases b' with
        | true=>exact List.mem_append_right _ z
        | false=>exact z
      · rename_i d z
        cases e
        obtain ⟨v,B,a1,a2,a3,a4⟩:=R.rel.getDp R.nd z
        refine ⟨v :: vs,by simp [a1,h1], .cons (a4.rep (less false) fun b hb o w=>hide_get w (R.dj b (a2 b hb))) (Reps.mono (hide_less H fun x z=>?_) h2)⟩
        cases b' with
        | true=>exact List.mem_append_right _ z
        | false=>exact z
      · cases e
def compD (k:D→Th→Option Th) (ft:DT) (fe:DE):List D→Th→Option (List D)
  | [],_=>some []
  | d :: ds,t=>(k d t).bind fun t1=>(ft t1).bind fun b=>if b then (fe t1).bind fun r=>(compD k ft fe ds t1).map fun xs=>r.d :: xs else compD k ft fe ds t1
def dComp (n:Nat) (cap:List Nat) (fs:DI) (k:D→Th→Option Th) (ft:DT) (fe:DE):DE:=fun t=>(fs t).bind fun q=>(capD t cap).bind fun c=>if q.2.length ≤ 50000 then (compD k ft fe q.2 (List.replicate n Sl.no ++ c.2.map Sl.val)).bind fun xs=>if (q.1 && c.1) || flats xs then some (.nw xs) else none else none
theorem compD_len {k:D→Th→Option Th} {ft:DT} {fe:DE}:∀ {ds:List D} {t:Th} {xs:List D},compD k ft fe ds t=some xs→xs.length ≤ ds.length
  | [],t,xs,e=>by cases e; simp
  | d :: ds,t,xs,e=>by
    unfold compD at e
    cases e1:k d t with
    | none=>rw [e1] at e; cases e
    | some t1 =>
      rw [e1] at e
      have e:((ft t1).bind fun b=>if b then (fe t1).bind fun r=>(compD k ft fe ds t1).map fun xs=>r.d :: xs else compD k ft fe ds t1)=some xs:=e
      cases e2:ft t1 with
      | none=>rw [e2] at e; cases e
      | some b =>
        rw [e2] at e
        cases b with
        | false=>have:=compD_len (ds:=ds) (t:=t1) e; simp; omega
        | true =>
          have e:((fe t1).bind fun r=>(compD k ft fe ds t1).map fun xs=>r.d :: xs)=some xs:=e
          cases e3:fe t1 with
          | none=>rw [e3] at e; cases e
          | some r =>
            rw [e3] at e
            have e:((compD k ft fe ds t1).map fun xs=>r.d :: xs)=some xs:=e
            cases e4:compD k ft fe ds t1 with
            | none=>rw [e4] at e; cases e
            | some ys=>rw [e4] at e; cases e; have:=compD_len e4; simp; omega
end DL
namespace DL
open PySem PySem.Spec PyProof.Rows L2
theorem RSl.noVals {K:PySem.W.Frag} {H0 H:Hp} {vs:List V} {ds:List D} (r:Reps K H0 ds vs):∀ n,RSl K H0 H (List.replicate n Sl.no ++ ds.map Sl.val) (List.replicate n none ++ vs.map some) []
  | 0=>by simpa using RSl.start (t:=[]) (σ:=[]) .nil r
  | n + 1 => .no (RSl.noVals r n)
theorem hide_same_upd {P:List Addr} {H:Hp} {p:Addr} {o:HO} (hp:p ∈ P):Same (hide P H) (hide P (upd H p o)):=fun b u e=>by
  obtain ⟨n,e⟩:=of_hide e
  exact hide_get (by rw [upd_ne (fun z=>n (by rw [z]; exact hp))]; exact e) n
theorem RS.updF {K:PySem.W.Frag} {P:List Addr} {H:Hp} {t:Th} {σ:L2.St} {p:Addr} {ws:List V} (R:RS K P H [] t σ) (hp:p ∈ P):RS K P (upd H p (.lst ws)) [] t σ where
  mu:=fun q hq=>by
    by_cases z:q=p
    · exact ⟨mL ws,by rw [z]; exact upd_same⟩
    · obtain ⟨us,w⟩:=R.mu q hq
      exact ⟨us,by rw [upd_ne z]; exact w⟩
  nd:=List.nodup_nil
  dj:=fun p hp=>by cases hp
  rel:=RSl.mono (hide_same_upd hp) R.rel fun q hq=>by cases hq
theorem none_owned {K:PySem.W.Frag} {P A:List Addr} {H:Hp} {t:Th} {σ:L2.St} (R:RS K P H A t σ) (g:Gr [] H A H):A=[]:=by
  cases A with
  | nil=>rfl
  | cons a r =>
    rcases g.nw a (List.mem_cons_self ..) with z | z
    · cases z
    · obtain ⟨vs,q⟩:=R.mu a (List.mem_append_left _ (List.mem_cons_self ..))
      rw [q] at z; cases z
def dTrue:DT:=fun _=>some true
theorem PTs.imp {Y:Cx} {ifs:List Expr} {t t':TT} (h:PTs Y ifs t) (i:∀ σ H Q,t' σ H Q→t σ H Q):PTs Y ifs t':=fun pins s σ H Q I q=>h pins s σ H Q I (i σ H Q q)
theorem ptsd_nil {Y:Cx} {F:List Addr}:PTs Y [] (dT Y.K F dTrue):=PTs.imp pts_nil fun σ H Q ⟨A,t,b,R,e,h⟩=>by cases e; exact h H (Same.refl H)
theorem ptsd_one {Y:Cx} {F:List Addr} {c:Expr} {ft:DT} (h:PT Y c (dT Y.K F ft)):PTs Y [c] (dT Y.K F ft):=pts_one h
theorem tcomp_of {X:Cx} {F:List Addr} {n:Nat} {cap:List Nat} {fs:DI} {g:TG} {kt:D→Th→Option Th} {ft:DT} {fe:DE} (hk:∀ F',TgOk X.K F' g kt) {σ:L2.St} {H:Hp} {Q:VK} (h:dE X.K F (dComp n cap fs kt ft fe) σ H Q) :
    tComp n cap (dI X.K F fs) g (fun σ H Q => ∃ F',dT X.K F' ft σ H Q) (fun σ H Q => ∃ F',dE X.K F' fe σ H Q) σ H Q:=by
  obtain ⟨A,t,r,R,e,h⟩:=h
  unfold dComp at e
  cases e1:fs t with
  | none=>rw [e1] at e; cases e
  | some q =>
    obtain ⟨b,ds⟩:=q
    cases e2:capD t cap with
    | none=>rw [e1,e2] at e; cases e
    | some q2 =>
      obtain ⟨c,caps⟩:=q2
      rw [e1,e2] at e
      have e:(if ds.length ≤ 50000 then (compD kt ft fe ds (List.replicate n Sl.no ++ caps.map Sl.val)).bind fun xs=>if (b && c) || flats xs then some (Ev.nw xs) else none else none)=some r:=e
      split at e
      case isFalse=>cases e
      rename_i hlen
      cases e3:compD kt ft fe ds (List.replicate n Sl.no ++ caps.map Sl.val) with
      | none=>rw [e3] at e; cases e
      | some xs =>
        rw [e3] at e
        have e:(if (b && c) || flats xs then some (Ev.nw xs) else none)=some r:=e
        split at e
        case isFalse=>cases e
        rename_i ok
        cases e
        have xl:=compD_len e3
        obtain ⟨cvs,cv1,cv2⟩:=capD_rep R e2
        -- what is hidden from the block,but its own list
        obtain ⟨F',F'def⟩:∃ F',F'=hidF (b && c) A F:=⟨_,rfl⟩
        have subF:∀ x ∈ F',x ∈ A ++ F:=fun x hx=>by
          rw [F'def] at hx
          unfold hidF at hx
          split at hx
          · exact hx
          · exact List.mem_append_right _ hx
        have lessB:∀ H:Hp,Same (hide (hidF b A F) H) (hide F' H):=fun H=>hide_less H fun x hx=>by
          rw [F'def] at hx
          cases b <;> cases c <;> simp [hidF] at hx ⊢ <;> first | exact hx | exact .inr hx | (rcases hx with z | z <;> simp [z])
        have lessC:∀ H:Hp,Same (hide (hidF c A F) H) (hide F' H):=fun H=>hide_less H fun x hx=>by
          rw [F'def] at hx
          cases b <;> cases c <;> simp [hidF] at hx ⊢ <;> first | exact hx | exact .inr hx | (rcases hx with z | z <;> simp [z])
        have wi:tComp n cap (dI X.K F fs) g (fun σ H Q => ∃ F',dT X.K F' ft σ H Q) (fun σ H Q => ∃ F',dE X.K F' fe σ H Q) σ H Q:=by
          refine ⟨A,t,b,ds,R,e1,fun J H1 Good gs src gd Dd hD=>?_⟩
          have H1A:Lists H1 (A ++ F):=R.mu.mono gs
          have st0:Same (hide F' H1) (hide (Dd :: F') (upd H1 Dd (.lst []))):=hide_upd hD
          refine ⟨fun i m σ' H'=>i + m=ds.length∧∃ th acc rest vs,RS X.K (Dd :: F') H' [] th σ'∧compD kt ft fe (ds.drop i) th=some rest∧acc ++ rest=xs∧H' Dd=some (.lst vs)∧Reps X.K (hide (Dd :: F') H') acc vs∧Same H1 H'∧Good (Dd :: F') H',
            ⟨ds.length,by omega,_,[],xs,[],⟨?_,List.nodup_nil,fun p hp=>(by cases hp),?_⟩,by simpa using e3,rfl,upd_same, .nil,upd_sameH hD,src.keep _ _ _ _ gd (fun b o z=>st0 _ _ (lessB _ _ _ z))⟩,?_⟩
          · intro q hq
            have hq:q ∈ Dd :: F':=hq
            rcases List.mem_cons.mp hq with z | z
            · exact ⟨mL [],by rw [z]; exact upd_same⟩
            · obtain ⟨us,w⟩:=H1A q (subF q z)
              exact ⟨us,(upd_sameH hD) _ _ w⟩
          · unfold capV
            rw [cv1]
            exact RSl.noVals (Reps.mono (fun b o z=>st0 _ _ (lessC H1 _ _ (same_hide gs _ _ z))) cv2) n
          · rintro i m σ' H' ⟨hm,th,acc,rest,vs,RR,ec,ex,hv,hr,sm,gg⟩
            cases m with
            | zero =>
              have z:i=ds.length:=by omega
              subst z
              rw [List.drop_length] at ec
              cases ec
              rw [List.append_nil] at ex
              subst ex
              refine .inl ⟨src.stop _ _ gg,h _ H' (gs.trans sm) ⟨Dd,vs,rfl,Same.free gs hD,hv,?_⟩⟩
              rcases Bool.or_eq_true _ _ ▸ ok with k | k
              · have:F'=A ++ F:=by rw [F'def]; unfold hidF; rw [k]; rfl
                rw [← this]; exact hr
              · refine Reps.hid (P:=Dd :: (A ++ F)) (fun q hq=>?_) k (Reps.mono (hide_sub _ _) hr)
                rcases List.mem_cons.mp hq with z | z
                · exact ⟨mL vs,by rw [z]; exact hv⟩
                · obtain ⟨us,w⟩:=H1A q z
                  exact ⟨us,sm _ _ w⟩
            | succ m =>
              have hil:i < ds.length:=by omega
              refine .inr ⟨src.go _ _ i gg hil,fun σ' H'=>i + 1 + m=ds.length∧∃ th acc rest vs,RS X.K (Dd :: F') H' [] th σ'∧compD kt ft fe (ds.drop (i + 1)) th=some rest∧acc ++ rest=xs∧H' Dd=some (.lst vs)∧Reps X.K (hide (Dd :: F') H') acc vs∧Same H1 H'∧Good (Dd :: F') H',
                fun σ' H' q=>⟨m,Nat.lt_succ_self m,q⟩,fun x H2 y=>?_⟩
              obtain ⟨gs2,d,hd,rd⟩:=src.yld _ _ i x H2 gg RR.mu y hil
              have ed:ds.drop i=d :: ds.drop (i + 1):=by
                have hd':ds[i]=d:=by
                  rw [List.getElem?_eq_getElem hil] at hd
                  exact Option.some.inj hd
                rw [← hd']
                exact List.drop_eq_getElem_cons hil
              rw [ed] at ec
              unfold compD at ec
              cases k1:kt d th with
              | none=>rw [k1] at ec; cases ec
              | some t1 =>
                rw [k1] at ec
                have ec:((ft t1).bind fun b=>if b then (fe t1).bind fun r=>(compD kt ft fe (ds.drop (i + 1)) t1).map fun xs=>r.d :: xs else compD kt ft fe (ds.drop (i + 1)) t1)=some rest:=ec
                refine hk (Dd :: F') σ' H2 [] th t1 d x _ (RR.grow gs2) rd k1 fun σ2 A2 gr2 R2=>?_
                have A20:=none_owned R2 gr2
                subst A20
                cases k2:ft t1 with
                | none=>rw [k2] at ec; cases ec
                | some bb =>
                  rw [k2] at ec
                  refine ⟨Dd :: F',[],t1,bb,R2,k2,fun H3 gs3=>?_⟩
                  cases bb with
                  | false =>
                    refine iteF ⟨by omega,t1,acc,rest,vs,R2.grow gs3,ec,ex,gs3 _ _ (gs2 _ _ hv),Reps.mono (same_hide (gs2.trans gs3)) hr,(sm.trans gs2).trans gs3,src.keep _ _ _ _ gg (same_hide (gs2.trans gs3))⟩
                  | true =>
                    have ec:((fe t1).bind fun r=>(compD kt ft fe (ds.drop (i + 1)) t1).map fun xs=>r.d :: xs)=some rest:=ec
                    cases k3:fe t1 with
                    | none=>rw [k3] at ec; cases ec
                    | some re =>
                      rw [k3] at ec
                      have ec:((compD kt ft fe (ds.drop (i + 1)) t1).map fun xs=>re.d :: xs)=some rest:=ec
                      cases k4:compD kt ft fe (ds.drop (i + 1)) t1 with
                      | none=>rw [k4] at ec; cases ec
                      | some ys =>
                        rw [k4] at ec
                        cases ec
                        refine iteT ⟨Dd :: F',[],t1,re,R2.grow gs3,k3,fun v H4 gs4 q4=>⟨vs,gs4 _ _ (gs3 _ _ (gs2 _ _ hv)),?_,?_⟩⟩
                        · have l1:=hr.length
                          have l2:acc.length + (ys.length + 1)=xs.length:=by rw [← ex]; simp
                          exact Nat.lt_of_lt_of_le (show vs.length < 50000 by omega) (by rw [sizeLine_eq]; decide)
                        · have s4:=(gs2.trans gs3).trans gs4
                          have hu:Same (hide (Dd :: F') H4) (hide (Dd :: F') (upd H4 Dd (.lst (vs ++ [v])))):=hide_same_upd (List.mem_cons_self ..)
                          have rv:=q4.cleanF ((R2.grow gs3).mu)
                          refine ⟨by omega,t1,acc ++ [re.d],ys,vs ++ [v],RS.updF ((R2.grow gs3).grow gs4) (List.mem_cons_self ..),k4,by simpa using ex,upd_same,?_,?_,?_⟩
                          · exact (Reps.mono (fun b o z=>hu _ _ (same_hide s4 _ _ z)) hr).app (Reps.one (Rep.mono hu rv))
                          · exact fun b o z=>by
                              rw [upd_ne (fun w=>by rw [w,hD] at z; cases z)]
                              exact s4 _ _ (sm _ _ z)
                          · exact src.keep _ _ _ _ gg (fun b o z=>hu _ _ (same_hide s4 _ _ z))
        exact wi
theorem ped_comp {X:Cx} {F:List Addr} {elt tg iter:Expr} {ifs:List Expr} {scope:Scope} {pos:Pos} {n:Nat} {cap:List Nat} {N':List Str} {fs:DI} {g:TG} {kt:D→Th→Option Th} {ft:DT} {fe:DE} (S:CompSc X scope) (hc:X.calm=true) (hi:PI X tg iter (dI X.K F fs))
    (hN:N'.length=n + cap.length) (hcap:∀ (k:Nat) (j:Nat),cap[k]?=some j→∃ x,N'[n + k]?=some x∧X.N[j]?=some x∧(x,NameKind.free) ∈ scope.names)
    (hg:∀ C s₃ H₃ fp pins,PG (blk X N' scope C s₃ H₃ fp pins) tg g) (hk:∀ F',TgOk X.K F' g kt) (ht:∀ C s₃ H₃ fp pins F',PTs (blk X N' scope C s₃ H₃ fp pins) ifs (dT X.K F' ft)) (he:∀ C s₃ H₃ fp pins F',PE (blk X N' scope C s₃ H₃ fp pins) elt (dE X.K F' fe))
    (hs:∀ x,foldedSetIterable iter X.env x=pure x:=by intro _; rfl):PE X (.ListComp elt [⟨tg,iter,ifs,0⟩] scope pos) (dE X.K F (dComp n cap fs kt ft fe)) :=
  PE.imp (pe_comp (g:=g) S hc hi hN hcap hg (fun C s₃ H₃ fp pins pins' s σ H Q I ⟨F',q⟩=>ht C s₃ H₃ fp pins F' pins' s σ H Q I q) (fun C s₃ H₃ fp pins pins' s σ H Q I ⟨F',q⟩=>he C s₃ H₃ fp pins F' pins' s σ H Q I q) hs) fun _ _ _ h=>tcomp_of hk h
def compOk (names:List (Str × NameKind)) (kind:Str→Option NameKind):Bool:=names.all fun y=>(y.2 != .free || kind y.1 == some .cell || kind y.1 == some .free) && (names.lookup y.1 == some y.2)
theorem compSc {X:Cx} {scope:Scope} (hk:scope.kind = .function:=by rfl) (h:compOk scope.names X.env.kindOf=true:=by rfl):CompSc X scope:=by
  have h':=List.all_eq_true.mp h
  refine ⟨hk,fun y hy hf=>?_,fun y hy=>?_⟩
  · have:=h' y hy
    simp only [Bool.and_eq_true,Bool.or_eq_true,bne_iff_ne,beq_iff_eq] at this
    rcases this.1 with (z | z) | z
    · exact absurd hf z
    · exact .inl z
    · exact .inr z
  · have:=h' y hy
    simp only [Bool.and_eq_true,beq_iff_eq] at this
    exact this.2
def capOk (N' N:List Str) (n:Nat) (names:List (Str × NameKind)):Nat→List Nat→Bool
  | _,[]=>true
  | k,j :: js=>(match N'[n + k]?,N[j]? with
    | some x,some y=>x == y && names.any fun z=>z.1 == x && z.2 == .free
    | _,_=>false) && capOk N' N n names (k + 1) js
theorem capOk_of {N' N:List Str} {n:Nat} {names:List (Str × NameKind)}:∀ {cap:List Nat} {k0:Nat},capOk N' N n names k0 cap=true→∀ (k j:Nat),cap[k]?=some j→∃ x,N'[n + (k0 + k)]?=some x∧N[j]?=some x∧(x,NameKind.free) ∈ names
  | [],k0,_,k,j,e=>by simp at e
  | i :: js,k0,h,k,j,e=>by
    unfold capOk at h
    rw [Bool.and_eq_true] at h
    cases k with
    | zero =>
      simp at e
      subst e
      have h1:=h.1
      split at h1
      · rename_i x y z1 z2
        rw [Bool.and_eq_true,beq_iff_eq,List.any_eq_true] at h1
        obtain ⟨e1,w,w1,w2⟩:=h1
        rw [Bool.and_eq_true,beq_iff_eq,beq_iff_eq] at w2
        obtain ⟨a,b⟩:=w
        simp only at w2
        rw [w2.1,w2.2] at w1
        exact ⟨x,by simpa using z1,by rw [z2,e1],w1⟩
      · cases h1
    | succ k =>
      obtain ⟨x,a,b,c⟩:=capOk_of h.2 k j (by simpa using e)
      exact ⟨x,by rw [show k0 + (k + 1)=k0 + 1 + k by omega]; exact a,b,c⟩
theorem ped_compr {X:Cx} {F:List Addr} {elt tg iter:Expr} {ifs:List Expr} {scope:Scope} {pos:Pos} {fs:DI} {g:TG} {kt:D→Th→Option Th} {ft:DT} {fe:DE} (n:Nat) (cap:List Nat) (N':List Str) (hc:X.calm=true) (hi:PI X tg iter (dI X.K F fs))
    (hg:∀ C s₃ H₃ fp pins,PG (blk X N' scope C s₃ H₃ fp pins) tg g) (hk:∀ F',TgOk X.K F' g kt) (ht:∀ C s₃ H₃ fp pins F',PTs (blk X N' scope C s₃ H₃ fp pins) ifs (dT X.K F' ft)) (he:∀ C s₃ H₃ fp pins F',PE (blk X N' scope C s₃ H₃ fp pins) elt (dE X.K F' fe))
    (hkd:scope.kind = .function:=by rfl) (hcs:compOk scope.names X.env.kindOf=true:=by rfl) (hN:N'.length=n + cap.length:=by rfl) (hcap:capOk N' X.N n scope.names 0 cap=true:=by rfl)
    (hs:∀ x,foldedSetIterable iter X.env x=pure x:=by intro _; rfl):PE X (.ListComp elt [⟨tg,iter,ifs,0⟩] scope pos) (dE X.K F (dComp n cap fs kt ft fe)) :=
  ped_comp (compSc hkd hcs) hc hi hN (fun k j e=>by simpa using capOk_of hcap k j e) hg hk ht he hs
def kIn:Ev→Ev→Option Ev:=fun r1 r2=>match r2.d with
  | .lst ds=>if scD r1.d && ds.all (fun d=>scD d && eqOk 0 d r1.d) then some (.cl (.bl (ds.any fun d=>eqD d r1.d))) else none
  | .tup ds=>if scD r1.d && ds.all (fun d=>scD d && eqOk 0 d r1.d) then some (.cl (.bl (ds.any fun d=>eqD d r1.d))) else none
  | _=>none
theorem in_D {K:PySem.W.Frag} {H:Hp} {e:D} {u:V} (q:Rep K H e u) (se:scD e=true):∀ {ds:List D} {vs:List V},Reps K H ds vs→ds.all (fun d=>scD d && eqOk 0 d e)=true→vs.all flatV=true∧inV u vs=ds.any fun d=>eqD d e
  | _,_, .nil,_=>⟨rfl,rfl⟩
  | _,_, .cons h r,k=>by
    simp only [List.all_cons,Bool.and_eq_true] at k
    obtain ⟨f1,f2,e1⟩:=eqV_D h q k.1.1 se k.1.2
    obtain ⟨a,b⟩:=in_D q se r (by simpa using k.2)
    unfold inV at b ⊢
    refine ⟨by simp [f1,a],?_⟩
    rw [List.any_cons,List.any_cons,e1,b]
theorem sc_flat {K:PySem.W.Frag} {H:Hp} {e:D} {u:V} (q:Rep K H e u) (se:scD e=true):flatV u=true:=by
  cases q <;> simp_all [scD,flatV]
theorem od_in {X:Cx} {F:List Addr}:OpD X F (compareOp .In) kIn:=by
  intro pins s σ H0 H A x y v u Q r1 r2 r I m g0 rx ry q1 q2 e hq
  unfold kIn at e
  have p1:=q1.full
  have p2:=q2.full
  split at e
  · rename_i ds z
    rw [z] at p2
    split at e
    case isFalse=>cases e
    rename_i c
    rw [Bool.and_eq_true] at c
    cases e
    cases p2 with
    | @lst _ p vs h1 h2 =>
      obtain ⟨a,b⟩:=in_D p1 c.1 h2 c.2
      exact op_in_seq pins s σ H x _ v u Q I rx ry ⟨p,vs,rfl, .inl h1,sc_flat p1 c.1,a,by
        show Q (.bl (inV x vs)) H
        rw [b]; exact hq _ H (Same.refl H) (.bl _)⟩
  · rename_i ds z
    rw [z] at p2
    split at e
    case isFalse=>cases e
    rename_i c
    rw [Bool.and_eq_true] at c
    cases e
    cases p2 with
    | @tup _ p vs h1 h2 =>
      obtain ⟨a,b⟩:=in_D p1 c.1 h2 c.2
      exact op_in_seq pins s σ H x _ v u Q I rx ry ⟨p,vs,rfl, .inr h1,sc_flat p1 c.1,a,by
        show Q (.bl (inV x vs)) H
        rw [b]; exact hq _ H (Same.refl H) (.bl _)⟩
  · cases e
section
variable {X:Cx} {F:List Addr} {a b c:Expr} {es:List Expr} {fa fb fc:DE} {pos:Pos}
def kList:List Ev→Option Ev:=fun rs=>match rs with
  | [r]=>(match r.d with
    | .lst ds=>if r.ok || flats ds then some (.nw ds) else none
    | _=>none)
  | _=>none
theorem cd_list:CallD X F (.type "list") kList:=CallD.of call_list_of fun H0 H A xs rs e Q m g q ek hq=>by
  unfold kList at ek
  split at ek
  · rename_i r
    cases q with
    | cons q1 q2 =>
      cases q2
      split at ek
      · rename_i ds z
        split at ek
        case isFalse=>cases ek
        rename_i c
        cases ek
        obtain ⟨p,vs,rfl,h1,h2⟩:=q1.items m g z c
        exact ⟨p,vs,rfl, .inl h1,fun l hl=>hq _ _ (upd_sameH hl) ⟨l,vs,rfl,Same.free g hl,upd_same,Reps.mono (hide_upd hl) h2⟩⟩
      · cases ek
  · cases ek
def k2I (f:Int→Int→Int):List Ev→Option Ev:=fun rs=>match rs with
  | [r1,r2]=>(match r1.d,r2.d with
    | .int i, .int j=>some (.cl (.int (f i j)))
    | _,_=>none)
  | _=>none
theorem cd_2I {v:Value} {f:Int→Int→Int} (h:CallR X v (fun xs H Q => ∃ i j,xs=[.int i, .int j]∧Q (.int (f i j)) H)):CallD X F v (k2I f):=CallD.of h fun H0 H A xs rs e Q m g q ek hq=>by
  unfold k2I at ek
  split at ek
  · rename_i r1 r2
    cases q with
    | cons q1 q' =>
      cases q' with
      | cons q2 q3 =>
        cases q3
        split at ek
        · rename_i i j z1 z2
          cases ek
          have p1:=q1.full
          have p2:=q2.full
          rw [z1] at p1; rw [z2] at p2
          cases rep_int p1; cases rep_int p2
          exact ⟨i,j,rfl,hq _ H (Same.refl H) (.int _)⟩
        · cases ek
  · cases ek
theorem cd_min (hc:X.calm=true):CallD X F (.builtin "min") (k2I fun i j=>if j < i then j else i):=cd_2I (call_min2 hc)
theorem cd_max (hc:X.calm=true):CallD X F (.builtin "max") (k2I fun i j=>if j > i then j else i):=cd_2I (call_max2 hc)
def dSlU (hi:DE) (f:DE):DE:=fun t=>(f t).bind fun r=>(hi t).bind fun l=>match r.d,l.d with
  | .lst ds, .int i=>if r.ok || flats ds then some (.nw (ds.take (HT.sIx ds.length ds.length (some i)))) else none
  | _,_=>none
theorem ped_sliceU {p2:Pos} (ha:PE X a (dE X.K F fa)) (hb:PE X b (dE X.K F fb)):PE X (.Subscript a (.Slice none (some b) none p2) pos) (dE X.K F (dSlU fb fa)):=by
  refine PE.imp (pe_slice sl_list ha po_none (po_some hb)) ?_
  rintro σ H Q ⟨A,t,r,R,e,h⟩
  unfold dSlU at e
  cases e1:fa t with
  | none=>rw [e1] at e; cases e
  | some r1 =>
    cases e2:fb t with
    | none=>rw [e1,e2] at e; cases e
    | some r2 =>
      rw [e1,e2] at e
      refine ⟨A,t,r1,R,e1,fun x H1 gs1 q1=>⟨A,t,r2,R.grow gs1,e2,fun y H2 gs2 q2=>?_⟩⟩
      have e:(match r1.d,r2.d with
        | .lst ds, .int i=>if r1.ok || flats ds then some (Ev.nw (ds.take (HT.sIx ds.length ds.length (some i)))) else none
        | _,_=>none)=some r:=e
      split at e
      case h_2=>cases e
      rename_i ds i z1 z2
      split at e
      case isFalse=>cases e
      rename_i c
      cases e
      have p2':=q2.full
      rw [z2] at p2'
      cases rep_int p2'
      have gs:=gs1.trans gs2
      obtain ⟨p,vs,rfl,h1,h2⟩:=(q1.mono gs2).items R.mu gs z1 c
      refine ⟨i,rfl,p,vs,rfl,h1,fun l hl=>h _ _ (gs.trans (upd_sameH hl)) ⟨l,_,rfl,Same.free gs hl,upd_same,Reps.mono (hide_upd hl) ?_⟩⟩
      have e:cutV vs none (some i)=vs.take (HT.sIx ds.length ds.length (some i)):=by
        unfold cutV
        rw [h2.length,HT.sIx_none]
        simp
      rw [e]
      exact h2.take _
end
end DL
namespace DL
open PySem PySem.Spec PyProof.Rows L2
def intsD:List D→Option (List Int)
  | []=>some []
  | .int i :: r=>(intsD r).map fun ns=>i :: ns
  | _ :: _=>none
theorem intsD_eq:∀ {ds:List D} {ns:List Int},intsD ds=some ns→ds=ns.map D.int
  | [],ns,e=>by cases e; rfl
  | .int i :: r,ns,e=>by
    unfold intsD at e
    cases e1:intsD r with
    | none=>rw [e1] at e; cases e
    | some m=>rw [e1] at e; cases e; rw [intsD_eq e1]; rfl
  | .non :: r,ns,e=>by cases e
  | .bl _ :: r,ns,e=>by cases e
  | .str _ :: r,ns,e=>by cases e
  | .tup _ :: r,ns,e=>by cases e
  | .lst _ :: r,ns,e=>by cases e
theorem intsD_map (ns:List Int):intsD (ns.map D.int)=some ns:=by
  induction ns with
  | nil=>rfl
  | cons n r ih=>simp [intsD,ih]
theorem eqD_int (i j:Int):eqD (.int i) (.int j)=decide (i=j):=by
  rw [Bool.eq_iff_iff,eqD_true]; simp
theorem sm_iff {i:Int}:sm i=true ↔ i.natAbs < bnd:=by simp [sm]
theorem sm_lt {i:Int} (h:i.natAbs < 2 ^ 256):sm i=true:=sm_iff.mpr (Nat.lt_of_lt_of_le h (by unfold bnd; exact Nat.pow_le_pow_right (by decide) (by decide)))
theorem sm_of {i:Int} (h1 : -10000000000000000000000000000000000000000000000000000000000000000000000000000 < i) (h2:i < 10000000000000000000000000000000000000000000000000000000000000000000000000000):sm i=true:=by
  apply sm_lt
  have:(2:Nat) ^ 256=115792089237316195423570985008687907853269984665640564039457584007913129639936:=by decide
  omega
theorem fmod_pos {a b:Int} (h:0 < b):0 ≤ a.fmod b∧a.fmod b < b:=by
  rw [Int.fmod_eq_emod_of_nonneg a (by omega)]
  exact ⟨Int.emod_nonneg a (by omega),Int.emod_lt_of_pos a h⟩
theorem eqD_refl (d:D):eqD d d=true:=eqD_true.mpr rfl
theorem seq_nx {g1 g2:DS} {t t':Th} (h:g1 t=some (.nx t')):dSeq g1 g2 t=g2 t':=by simp [dSeq,h]
theorem RepDs.length {K:PySem.W.Frag} {H0 H:Hp}:∀ {ds:List D} {vs:List V} {B:List Addr},RepDs K H0 H ds vs B→vs.length=ds.length
  | _,_,_, .nil=>rfl
  | _,_,_, .cons _ r=>by simp [RepDs.length r]
theorem RepDs.focus {K:PySem.W.Frag} {H0 H:Hp}:∀ {ds:List D} {vs:List V} {B:List Addr},RepDs K H0 H ds vs B→∀ {j:Nat} {d:D},ds[j]?=some d→∃ v B1,vs[j]?=some v∧RepD K H0 H d v B1∧(∀ b ∈ B1,b ∈ B)∧(B.Nodup→B1.Nodup) ∧
    ∀ H0' H' d2 B2,Same H0 H0'→RepD K H0' H' d2 v B2→B2.Sublist B1→(∀ q ∈ B,q ∉ B1→∀ o,H q=some o→H' q=some o)→B.Nodup→∃ B',RepDs K H0' H' (ds.set j d2) vs B'∧B'.Sublist B
  | _,_,_, .nil,j,d,e=>by simp at e
  | _,_,_, .cons (v:=v) (B:=B) (C:=C) h r,0,d,e=>by
    simp at e; subst e
    refine ⟨v,B,rfl,h,fun b hb=>List.mem_append_left _ hb,fun n=>(List.nodup_append.mp n).1,fun H0' H' d2 B2 s q sb k nd=>⟨B2 ++ C, .cons q (RepDs.mono s r fun p hp o w=>?_),List.Sublist.append sb (List.Sublist.refl _)⟩⟩
    exact k p (List.mem_append_right _ hp) (fun z=>(List.nodup_append.mp nd).2.2 p z p hp rfl) o w
  | _,_,_, .cons (v:=v) (B:=B) (C:=C) h r,j + 1,d,e=>by
    obtain ⟨v1,B1,a1,a2,a3,a5,a4⟩:=RepDs.focus r (j:=j) (d:=d) (by simpa using e)
    refine ⟨v1,B1,by simpa using a1,a2,fun b hb=>List.mem_append_right _ (a3 b hb),fun n=>a5 (List.nodup_append.mp n).2.1,fun H0' H' d2 B2 s q sb k nd=>?_⟩
    have n:=List.nodup_append.mp nd
    obtain ⟨B',b1,b2⟩:=a4 H0' H' d2 B2 s q sb (fun q hq=>k q (List.mem_append_right _ hq)) n.2.1
    refine ⟨B ++ B', .cons (RepD.mono s h fun p hp o w=>k p (List.mem_append_left _ hp) (fun z=>n.2.2 p hp p (a3 p z) rfl) o w) b1,List.Sublist.append (List.Sublist.refl _) b2⟩
def getP:D→List Int→Option D
  | d,[]=>some d
  | .tup ds,n :: ns=>(atI ds n).bind fun x=>getP x ns
  | .lst ds,n :: ns=>(atI ds n).bind fun x=>getP x ns
  | _,_ :: _=>none
def putP:D→List Int→D→Option D
  | _,[],e=>some e
  | .tup ds,n :: ns,e=>(ixN ds.length n).bind fun j=>(ds[j]?).bind fun x=>(putP x ns e).map fun y => .tup (ds.set j y)
  | .lst ds,n :: ns,e=>(ixN ds.length n).bind fun j=>(ds[j]?).bind fun x=>(putP x ns e).map fun y => .lst (ds.set j y)
  | _,_ :: _,_=>none
def Reach (K:PySem.W.Frag) (H:Hp):V→List Int→V→Prop
  | v,[],w=>v=w
  | v,n :: ns,w => ∃ p vs x,v = .ref p∧(SqL K H p vs ∨ SqT K H p vs)∧atI vs n=some x∧Reach K H x ns w
theorem flats_get:∀ {ds:List D} {j:Nat} {d:D},flats ds=true→ds[j]?=some d→flat d=true
  | [],j,d,_,e=>by simp at e
  | x :: xs,0,d,f,e=>by simp [flats] at f; simp at e; subst e; exact f.1
  | x :: xs,j + 1,d,f,e=>by simp [flats] at f; exact flats_get f.2 (by simpa using e)
theorem flat_at {ds:List D} {n:Int} {d:D} (f:flats ds=true) (e:atI ds n=some d):flat d=true:=by
  unfold L2.atI at e
  cases e1:ixN ds.length n with
  | none=>rw [e1] at e; cases e
  | some j=>rw [e1] at e; exact flats_get f e
theorem flat_getP:∀ (ns:List Int) {d d1:D},flat d=true→getP d ns=some d1→flat d1=true
  | [],d,d1,f,e=>by cases e; exact f
  | n :: ns, .tup ds,d1,f,e=>by
    simp only [getP] at e
    cases e1:atI ds n with
    | none=>rw [e1] at e; cases e
    | some x=>rw [e1] at e; exact flat_getP ns (flat_at (by simpa [flat] using f) e1) e
  | n :: ns, .lst ds,d1,f,e=>by simp [flat] at f
  | n :: ns, .non,d1,f,e=>by cases e
  | n :: ns, .bl _,d1,f,e=>by cases e
  | n :: ns, .int _,d1,f,e=>by cases e
  | n :: ns, .str _,d1,f,e=>by cases e
def Fin (K:PySem.W.Frag) (H0 H:Hp) (d:D) (v:V) (B:List Addr) (ns:List Int) (p:Addr) (B1:List Addr):Prop :=
  ∀ H0' H' es ws B2 d2,Same H0 H0'→H' p=some (.lst ws)→RepDs K H0' H' es ws B2→B2.Sublist B1→putP d ns (.lst es)=some d2→(∀ q ∈ B,q ≠ p→∀ o,H q=some o→H' q=some o)→B.Nodup→∃ B',RepD K H0' H' d2 v B'∧B'.Sublist B
theorem atI_of {α:Type} {xs:List α} {n:Int} {x:α} (e:atI xs n=some x):∃ j,ixN xs.length n=some j∧xs[j]?=some x:=by
  unfold L2.atI at e
  cases e1:ixN xs.length n with
  | none=>rw [e1] at e; cases e
  | some j=>rw [e1] at e; exact ⟨j,rfl,e⟩
theorem RepD.focus {K:PySem.W.Frag} {H0 H:Hp} (hs:Same H0 H):∀ (ns:List Int) {d:D} {v:V} {B:List Addr} {ds1:List D},RepD K H0 H d v B→B.Nodup→getP d ns=some (.lst ds1) →
    ∃ p vs1 B1,Reach K H v ns (.ref p)∧H p=some (.lst vs1)∧RepDs K H0 H ds1 vs1 B1∧p ∈ B∧(∀ b ∈ B1,b ∈ B)∧p ∉ B1∧Fin K H0 H d v B ns p B1
  | [],d,v,B,ds1,h,nd,e=>by
    cases e
    cases h with
    | flat f r=>simp [DL.flat] at f
    | @lst _ p vs C h r =>
      refine ⟨p,vs,C,rfl,h,r,List.mem_cons_self ..,fun b hb=>List.mem_cons_of_mem _ hb,(List.nodup_cons.mp nd).1,fun H0' H' es ws B2 d2 s e1 e2 sb e3 k nd=>?_⟩
      cases e3
      exact ⟨p :: B2, .lst e1 e2,sb.cons₂ _⟩
  | n :: ns,d,v,B,ds1,h,nd,e=>by
    cases h with
    | flat f r=>exact absurd (flat_getP (n :: ns) f e) (by simp [DL.flat])
    | dct _ h r=>simp [getP] at e
    | pdc h=>simp [getP] at e
    | @tup ds p0 vs C h r =>
      simp only [getP] at e
      cases e1:atI ds n with
      | none=>rw [e1] at e; cases e
      | some x =>
        rw [e1] at e
        obtain ⟨j,j1,j2⟩:=atI_of e1
        obtain ⟨v1,B1,a1,a2,a3,a5,a4⟩:=r.focus j2
        obtain ⟨p,vs1,B2,b1,b2,b3,b4,b5,b6,b7⟩:=RepD.focus hs ns a2 (a5 nd) e
        have ea:atI vs n=some v1:=by unfold L2.atI; rw [r.length,j1]; exact a1
        refine ⟨p,vs1,B2,⟨p0,vs,v1,rfl, .inr (SqT.mono hs h),ea,b1⟩,b2,b3,a3 p b4,fun b hb=>a3 b (b5 b hb),b6,fun H0' H' es ws B3 d2 s e1' e2 sb e3 k nd'=>?_⟩
        simp only [putP,j1,Option.bind_some,j2] at e3
        cases e4:putP x ns (.lst es) with
        | none=>rw [e4] at e3; cases e3
        | some y =>
          rw [e4] at e3
          cases e3
          obtain ⟨B',c1,c2⟩:=b7 H0' H' es ws B3 y s e1' e2 sb e4 (fun q hq=>k q (a3 q hq)) (a5 nd')
          obtain ⟨B'',c3,c4⟩:=a4 H0' H' y B' s c1 c2 (fun q hq nq=>k q hq fun z=>nq (z ▸ b4)) nd'
          exact ⟨B'', .tup (SqT.mono s h) c3,c4⟩
    | @lst ds p0 vs C h r =>
      simp only [getP] at e
      have n0:=List.nodup_cons.mp nd
      cases e1:atI ds n with
      | none=>rw [e1] at e; cases e
      | some x =>
        rw [e1] at e
        obtain ⟨j,j1,j2⟩:=atI_of e1
        obtain ⟨v1,B1,a1,a2,a3,a5,a4⟩:=r.focus j2
        obtain ⟨p,vs1,B2,b1,b2,b3,b4,b5,b6,b7⟩:=RepD.focus hs ns a2 (a5 n0.2) e
        have ea:atI vs n=some v1:=by unfold L2.atI; rw [r.length,j1]; exact a1
        refine ⟨p,vs1,B2,⟨p0,vs,v1,rfl, .inl (SqL.of h),ea,b1⟩,b2,b3,List.mem_cons_of_mem _ (a3 p b4),fun b hb=>List.mem_cons_of_mem _ (a3 b (b5 b hb)),b6,fun H0' H' es ws B3 d2 s e1' e2 sb e3 k nd'=>?_⟩
        simp only [putP,j1,Option.bind_some,j2] at e3
        cases e4:putP x ns (.lst es) with
        | none=>rw [e4] at e3; cases e3
        | some y =>
          rw [e4] at e3
          cases e3
          obtain ⟨B',c1,c2⟩:=b7 H0' H' es ws B3 y s e1' e2 sb e4 (fun q hq=>k q (List.mem_cons_of_mem _ (a3 q hq))) (a5 n0.2)
          obtain ⟨B'',c3,c4⟩:=a4 H0' H' y B' s c1 c2 (fun q hq nq=>k q (List.mem_cons_of_mem _ hq) fun z=>nq (z ▸ b4)) n0.2
          exact ⟨p0 :: B'', .lst (k p0 (List.mem_cons_self ..) (fun z=>n0.1 (z ▸ a3 p b4)) _ h) c3,c4.cons₂ _⟩
theorem RSl.focusDp {K:PySem.W.Frag} {H0 H:Hp}:∀ {t:Th} {σ:L2.St} {A:List Addr},RSl K H0 H t σ A→A.Nodup→∀ {i:Nat} {d:D},t[i]?=some (.dp d)→∃ v B,σ[i]?=some (some v)∧(∀ b ∈ B,b ∈ A)∧B.Nodup∧RepD K H0 H d v B ∧
    ∀ H0' H' d2 B2,Same H0 H0'→RepD K H0' H' d2 v B2→B2.Sublist B→(∀ q ∈ A,q ∉ B→∀ o,H q=some o→H' q=some o)→∃ A2,RSl K H0' H' (t.set i (.dp d2)) σ A2∧A2.Sublist A
  | _,_,_, .nil,n,i,d,e=>by simp at e
  | _,_,_, .no r,n,0,d,e=>by simp at e
  | _,_,_, .no r,n,i + 1,d,e=>by
    obtain ⟨v,B,a,b,n',c,k⟩:=RSl.focusDp r n (i:=i) (d:=d) (by simpa using e)
    refine ⟨v,B,by simpa using a,b,n',c,fun H0' H' d2 B2 s q sb w=>?_⟩
    obtain ⟨A2,x,y⟩:=k H0' H' d2 B2 s q sb w
    exact ⟨A2, .no x,y⟩
  | _,_,_, .val (v:=v) h r,n,0,d,e=>by simp at e
  | _,_,_, .val h r,n,i + 1,d,e=>by
    obtain ⟨v,B,a,b,n',c,k⟩:=RSl.focusDp r n (i:=i) (d:=d) (by simpa using e)
    refine ⟨v,B,by simpa using a,b,n',c,fun H0' H' d2 B2 s q sb w=>?_⟩
    obtain ⟨A2,x,y⟩:=k H0' H' d2 B2 s q sb w
    exact ⟨A2, .val (Rep.mono s h) x,y⟩
  | _,_,_, .own _ _ r,n,0,d,e=>by simp at e
  | _,_,_, .own (p:=p) h1 h2 r,n,i + 1,d,e=>by
    have n0:=List.nodup_cons.mp n
    obtain ⟨v,B,a,b,n',c,k⟩:=RSl.focusDp r n0.2 (i:=i) (d:=d) (by simpa using e)
    refine ⟨v,B,by simpa using a,fun x hx=>List.mem_cons_of_mem _ (b x hx),n',c,fun H0' H' d2 B2 s q sb w=>?_⟩
    obtain ⟨A2,x,y⟩:=k H0' H' d2 B2 s q sb (fun q hq=>w q (List.mem_cons_of_mem _ hq))
    exact ⟨p :: A2, .own (w p (List.mem_cons_self ..) (fun z=>n0.1 (b p z)) _ h1) (Reps.mono s h2) x,y.cons₂ _⟩
  | _,_,_, .dp (v:=v) (B:=B) h r,n,0,d,e=>by
    simp at e; subst e
    have n0:=List.nodup_append.mp n
    refine ⟨v,B,rfl,fun x hx=>List.mem_append_left _ hx,n0.1,h,fun H0' H' d2 B2 s q sb w=>?_⟩
    exact ⟨_, .dp q (RSl.mono s r fun p hp=>w p (List.mem_append_right _ hp) fun z=>n0.2.2 p z p hp rfl),List.Sublist.append sb (List.Sublist.refl _)⟩
  | _,_,_, .dp (B:=C) h r,n,i + 1,d,e=>by
    have n0:=List.nodup_append.mp n
    obtain ⟨v,B,a,b,n',c,k⟩:=RSl.focusDp r n0.2.1 (i:=i) (d:=d) (by simpa using e)
    refine ⟨v,B,by simpa using a,fun x hx=>List.mem_append_right _ (b x hx),n',c,fun H0' H' d2 B2 s q sb w=>?_⟩
    obtain ⟨A2,x,y⟩:=k H0' H' d2 B2 s q sb (fun q hq=>w q (List.mem_append_right _ hq))
    exact ⟨C ++ A2, .dp (RepD.mono s h fun p hp=>w p (List.mem_append_left _ hp) fun z=>n0.2.2 p hp p (b p z) rfl) x,List.Sublist.append (List.Sublist.refl _) y⟩
theorem RS.place {K:PySem.W.Frag} {F A:List Addr} {H:Hp} {t:Th} {σ:L2.St} {i:Nat} {d:D} {ns:List Int} {ds1:List D} (R:RS K F H A t σ) (e:t[i]?=some (.dp d)) (e1:getP d ns=some (.lst ds1)) :
    ∃ v p vs1 B1,σ[i]?=some (some v)∧Reach K H v ns (.ref p)∧H p=some (.lst vs1)∧RepDs K (hide (A ++ F) H) H ds1 vs1 B1∧p ∉ B1∧p ∈ A ∧
      ∀ H1 es ws B2 d2,Same H H1→(∀ H',(∀ q,q ≠ p→H' q=H1 q)→Same (hide (A ++ F) H) (hide (A ++ F) H')→RepDs K (hide (A ++ F) H') H' es ws B2)→B2.Sublist B1→putP d ns (.lst es)=some d2 →
        ∃ A2,RS K F (L2.upd H1 p (.lst ws)) A2 (t.set i (.dp d2)) σ∧Gr A H A2 (L2.upd H1 p (.lst ws)):=by
  obtain ⟨v,B,a1,a2,a3,a4,a5⟩:=R.rel.focusDp R.nd e
  obtain ⟨p,vs1,B1,b1,b2,b3,b4,b5,b6,b7⟩:=a4.focus (hide_sub _ _) ns a3 e1
  refine ⟨v,p,vs1,B1,a1,b1,b2,b3,b6,a2 p b4,fun H1 es ws B2 d2 gs mk sb ep=>?_⟩
  have pA:p ∈ A:=a2 p b4
  have hh:Same (hide (A ++ F) H) (hide (A ++ F) (L2.upd H1 p (.lst ws))):=fun b o q=>by
    obtain ⟨n,q⟩:=of_hide q
    have nb:b ≠ p:=fun z=>n (List.mem_append_left _ (z ▸ pA))
    exact hide_get (by rw [upd_ne nb]; exact gs _ _ q) n
  have kp:∀ q ∈ A,q ≠ p→∀ o,H q=some o→L2.upd H1 p (.lst ws) q=some o:=fun q _ n o h=>by rw [upd_ne n]; exact gs _ _ h
  obtain ⟨B',c1,c2⟩:=b7 (hide (A ++ F) (L2.upd H1 p (.lst ws))) (L2.upd H1 p (.lst ws)) es ws B2 d2 hh upd_same (mk _ (fun q n=>upd_ne n) hh) sb ep (fun q hq=>kp q (a2 q hq)) a3
  obtain ⟨A2,d1,d3⟩:=a5 _ _ d2 B' hh c1 c2 (fun q hq nq=>kp q hq fun z=>nq (z ▸ b4))
  have sub:∀ x ∈ A2,x ∈ A:=fun x hx=>d3.subset hx
  have mu:Lists (L2.upd H1 p (.lst ws)) (A ++ F):=fun q hq=>by
    by_cases z:q=p
    · exact ⟨mL ws,by rw [z]; exact upd_same⟩
    · obtain ⟨us,w⟩:=R.mu q hq
      exact ⟨us,by rw [upd_ne z]; exact gs _ _ w⟩
  refine ⟨A2,⟨fun q hq=>mu q ?_,R.nd.sublist d3,fun q hq=>R.dj q (sub q hq),RSl.mono (hide_less _ fun a z=>?_) d1 fun _ _ _ h=>h⟩,fun b o n h=>?_,fun b hb=>?_,fun b hb => .inl (sub b hb)⟩
  · exact (List.mem_append.mp hq).elim (fun z=>List.mem_append_left _ (sub q z)) (fun z=>List.mem_append_right _ z)
  · exact (List.mem_append.mp z).elim (fun z=>List.mem_append_left _ (sub a z)) (fun z=>List.mem_append_right _ z)
  · rw [upd_ne (fun z=>n (by rw [z]; exact pA))]; exact gs _ _ h
  · obtain ⟨us,w⟩:=mu b (List.mem_append_left _ hb)
    rw [w]; simp
def pthD:List DE→Th→Option (List Int)
  | [],_=>some []
  | f :: fs,t=>(f t).bind fun r=>match r.d with
    | .int n=>(pthD fs t).map (n :: ·)
    | _=>none
theorem pthD_snoc {f:DE} {t:Th}:∀ {fs:List DE} {ns':List Int},pthD (fs ++ [f]) t=some ns'→∃ ns n r,pthD fs t=some ns∧f t=some r∧r.d = .int n∧ns'=ns ++ [n]
  | [],ns',e=>by
    simp only [List.nil_append,pthD] at e
    cases e1:f t with
    | none=>rw [e1] at e; cases e
    | some r =>
      rw [e1] at e
      simp only [Option.bind_some] at e
      split at e
      · rename_i n z; cases e; exact ⟨[],n,r,rfl,rfl,z,rfl⟩
      · cases e
  | g :: fs,ns',e=>by
    simp only [List.cons_append,pthD] at e
    cases e1:g t with
    | none=>rw [e1] at e; cases e
    | some r =>
      rw [e1] at e
      simp only [Option.bind_some] at e
      split at e
      · rename_i n z
        cases e2:pthD (fs ++ [f]) t with
        | none=>rw [e2] at e; cases e
        | some ms =>
          rw [e2] at e
          cases e
          obtain ⟨ns,m,r',a1,a2,a3,a4⟩:=pthD_snoc e2
          refine ⟨n :: ns,m,r',?_,a2,a3,by rw [a4]; rfl⟩
          simp only [pthD,e1,Option.bind_some,z,a1]; rfl
      · cases e
theorem Reach.snoc {K:PySem.W.Frag} {H:Hp} {n:Int} {w:V}:∀ {ns:List Int} {v:V},Reach K H v (ns ++ [n]) w→∃ p vs,Reach K H v ns (.ref p)∧(SqL K H p vs ∨ SqT K H p vs)∧atI vs n=some w
  | [],v,h=>by
    obtain ⟨p,vs,x,rfl,h1,h2,h3⟩:=h
    cases h3
    exact ⟨p,vs,rfl,h1,h2⟩
  | m :: ns,v,h=>by
    obtain ⟨p,vs,x,rfl,h1,h2,h3⟩:=h
    obtain ⟨p',vs',a1,a2,a3⟩:=Reach.snoc h3
    exact ⟨p',vs',⟨p,vs,x,rfl,h1,h2,a1⟩,a2,a3⟩
def plE (K:PySem.W.Frag) (F:List Addr) (i:Nat) (fs:List DE):TE:=fun σ H Q => ∃ A t v ns w,RS K F H A t σ∧pthD fs t=some ns∧σ[i]?=some (some v)∧Reach K H v ns w∧∀ H',Same H H'→Q w H'
section
variable {X:Cx} {F:List Addr} {a b c o:Expr} {es:List Expr} {fa fb fc:DE} {fs:List DE} {g g1 g2:DS} {ft fu:DT} {pos:Pos} {st:Stmt} {rest:List Stmt} {tg:Expr} {gt:TG} {kt:D→Th→Option Th}
theorem pl_var (i:Nat) {x:Str} (hN:X.N[i]?=some x:=by rfl) (hv:Vis X.env.scope x:=by first | exact Or.inl rfl | exact Or.inr (Or.inl rfl) | exact Or.inr (Or.inr rfl)) (hd:(x == ("__debug__":Str))=false:=by decide)
    (hcd:(x == ("__classdict__":Str))=false:=by decide):PE X (.Name x pos) (plE X.K F i []):=by
  refine PE.imp (pe_var (i:=i) hN hv hd hcd) ?_
  rintro σ H Q ⟨A,t,v,ns,w,R,e,h1,h2,h⟩
  cases e
  cases h2
  exact ⟨v,h1,h H (Same.refl H)⟩
theorem pl_ix {i:Nat} (ha:PE X a (plE X.K F i fs)) (hb:PE X b (dE X.K F fb)) (hs:PlainIx b:=by intro _ _; rfl):PE X (.Subscript a b pos) (plE X.K F i (fs ++ [fb])):=by
  refine PE.imp (pe_ix (ix_list.or ix_tup) ha hb hs) ?_
  rintro σ H Q ⟨A,t,v,ns,w,R,e,h1,h2,h⟩
  obtain ⟨ms,n,r,a1,a2,a3,rfl⟩:=pthD_snoc e
  obtain ⟨p,vs,b1,b2,b3⟩:=h2.snoc
  refine ⟨A,t,v,ms, .ref p,R,a1,h1,b1,fun H1 gs=>⟨A,t,r,R.grow gs,a2,fun y H2 gs2 q=>?_⟩⟩
  have p2:=q.full
  rw [a3] at p2
  cases rep_int p2
  rcases b2 with b2 | b2
  · exact .inl ⟨p,vs,n,w,rfl,rfl,SqL.mono (gs.trans gs2) b2,b3,h H2 (gs.trans gs2)⟩
  · exact .inr ⟨p,vs,n,w,rfl,rfl,SqT.mono (gs.trans gs2) b2,b3,h H2 (gs.trans gs2)⟩
def kAppP (t:Th) (i:Nat) (ns:List Int) (r:Ev):Option Out:=match t[i]? with
  | some (.dp d)=>match getP d ns with
    | some (.lst ds)=>if flat r.d && decide (ds.length < 100000) then (putP d ns (.lst (ds ++ [r.d]))).map fun d2 => .nx (t.set i (.dp d2)) else none
    | _=>none
  | _=>none
def dAppP (i:Nat) (fs:List DE) (f:DE):DS:=fun t=>(pthD fs t).bind fun ns=>(f t).bind (kAppP t i ns)
theorem RepDs.app1 {K:PySem.W.Frag} {H0 H:Hp} {d:D} {v:V} (q:RepD K H0 H d v []):∀ {ds:List D} {vs:List V} {B:List Addr},RepDs K H0 H ds vs B→RepDs K H0 H (ds ++ [d]) (vs ++ [v]) B
  | _,_,_, .nil => .cons (B:=[]) (C:=[]) q .nil
  | _,_,_, .cons h r => .cons h (RepDs.app1 q r)
theorem Rep.off {K:PySem.W.Frag} {H1 H':Hp} {P:List Addr} {p:Addr} {d:D} {v:V} {vs:List V} (m:Lists H1 P) (hp:H1 p=some (.lst vs)) (k:∀ q,q ≠ p→H' q=H1 q) (f:flat d=true) (r:Rep K H1 d v):Rep K (hide P H') d v:=by
  have:=Rep.hid (P:=p :: P) (fun b hb=>by
    rcases List.mem_cons.mp hb with rfl | hb
    · exact ⟨mL vs,hp⟩
    · exact m b hb) f r
  refine Rep.mono (fun b o h=>?_) this
  obtain ⟨n,h⟩:=of_hide h
  exact hide_get (by rw [k b fun z=>n (z ▸ List.mem_cons_self ..)]; exact h) fun z=>n (List.mem_cons_of_mem _ z)
theorem psd_appP (i:Nat) {apos cpos:Pos} (ho:PE X o (plE X.K F i fs)) (he:PE X a (dE X.K F fa)) (hst:starEach [a] X.env=[(false,eval a X.env)]:=by rfl)
    (hbase:attributeBase o "append" X.env (eval o X.env)=eval o X.env:=by rfl)
    (hfew:((backTo cpos (starEach [a] X.env)).all (fun x => !x.1) && (backToKw cpos (keywordEach [] X.env)).all (fun x=>x.1.isSome)
      && decide ([a].length + ([]:List Keyword).length + (if ([]:List Keyword).isEmpty then 0 else 1) < 30))=true:=by rfl)
    (hline:(apos.endLine == cpos.line)=true:=by rfl) (hplain:(backTo cpos (starEach [] X.env)).any (·.1)=false:=by rfl)
    (hsw:swapsWith (.Call (.Attribute o "append" apos) [a] [] cpos) none pos.line X.env=pure false:=by rfl) :
    PS X (.Expr (.Call (.Attribute o "append" apos) [a] [] cpos) pos) (dS X.K F (dAppP i fs fa)):=by
  refine PS.imp (ps_expr (pe_bm PySem.F.plainAttrs_list PySem.F.slot_list_append PySem.F.type_list_append mt_append ho (pa_cons he pa_nil hst) hbase hfew hline hst hplain) hsw) ?_
  rintro E σ H ⟨A,t,o,R,e,h⟩
  unfold dAppP at e
  cases e0:pthD fs t with
  | none=>rw [e0] at e; cases e
  | some ns =>
  cases e1:fa t with
  | none=>rw [e0,e1] at e; cases e
  | some r =>
    rw [e0,e1] at e
    have e:kAppP t i ns r=some o:=e
    unfold kAppP at e
    split at e
    case h_2=>cases e
    rename_i d z
    split at e
    case h_2=>cases e
    rename_i ds z1
    split at e
    case isFalse=>cases e
    rename_i ok
    simp only [Bool.and_eq_true,decide_eq_true_eq] at ok
    cases e3:putP d ns (.lst (ds ++ [r.d])) with
    | none=>rw [e3] at e; cases e
    | some d2 =>
      rw [e3] at e
      cases e
      obtain ⟨v,p,vs1,B1,a1,a2,a3,a4,a5,a6,a7⟩:=R.place z z1
      refine ⟨A,t,v,ns, .ref p,R,e0,a1,a2,fun H1 gs=>⟨.inl ⟨rfl,vs1,SqL.of (gs _ _ a3)⟩,A,t,r,R.grow gs,e1,fun y H2 gs2 q=>⟨p,vs1,y,rfl,rfl,gs2 _ _ (gs _ _ a3),?_,?_⟩⟩⟩
      · have:vs1.length < 100000:=by rw [a4.length]; exact ok.2
        exact Nat.lt_of_lt_of_le this (by rw [sizeLine_eq]; decide)
      · have g2:=gs.trans gs2
        obtain ⟨A2,R2,gr⟩:=a7 H2 (ds ++ [r.d]) (vs1 ++ [y]) B1 d2 g2 (fun H' k hh=>by
          refine RepDs.app1 (.flat ok.1 (Rep.off (R.mu.mono g2) (g2 _ _ a3) k ok.1 q.full)) (RepDs.mono hh a4 fun b hb o w=>?_)
          rw [k b fun z=>a5 (z ▸ hb)]
          exact g2 _ _ w) (List.Sublist.refl _) e3
        exact h _ _ _ gr R2
end
end DL
namespace DL
open PySem PySem.Spec PyProof.Rows L2
def toDn:Ev→Option D
  | .cl d=>if flat d then some d else none
  | .tm d=>if flat d then some d else none
  | .nw xs=>if flats xs then some (.lst xs) else none
  | .dn d=>some d
theorem RepEv.toDn {K:PySem.W.Frag} {F A:List Addr} {H H':Hp} {r:Ev} {v:V} {d:D} (m:Lists H (A ++ F)) (g:Same H H') (h:RepEv K F A H H' r v) (e:toDn r=some d):RepEv K F A H H' (.dn d) v:=by
  cases r with
  | cl d0 =>
    simp only [DL.toDn] at e
    split at e
    · rename_i f; cases e
      exact ⟨[],List.nodup_nil,fun b hb=>(by cases hb), .flat f h⟩
    · cases e
  | tm d0 =>
    simp only [DL.toDn] at e
    split at e
    · rename_i f; cases e
      exact ⟨[],List.nodup_nil,fun b hb=>(by cases hb), .flat f (Rep.hid (m.mono g) f (Rep.mono (hide_sub _ _) h))⟩
    · cases e
  | nw xs =>
    simp only [DL.toDn] at e
    split at e
    · rename_i f; cases e
      obtain ⟨p,vs,rfl,h1,h2,h3⟩:=h
      exact ⟨[p],by simp,fun b hb=>by simp at hb; subst hb; exact h1, .lst h2 (RepDs.of_flat f h3)⟩
    · cases e
  | dn d0=>cases e; exact h
abbrev DN:=Th→Option (D × List Nat)
abbrev DNs:=Th→Option (List D × List Nat)
theorem RepDs.appD {K:PySem.W.Frag} {H0 H:Hp} {d:D} {v:V} {C:List Addr} (q:RepD K H0 H d v C):∀ {ds:List D} {vs:List V} {B:List Addr},RepDs K H0 H ds vs B→RepDs K H0 H (ds ++ [d]) (vs ++ [v]) (B ++ C)
  | _,_,_, .nil=>by
    have:=RepDs.cons q .nil
    simpa using this
  | _,_,_, .cons h r=>by
    have:=RepDs.cons h (RepDs.appD q r)
    simpa [List.append_assoc] using this
def compN (k:D→Th→Option Th) (ft:DT) (fe:DE):List D→Th→Option (List D)
  | [],_=>some []
  | d :: ds,t=>(k d t).bind fun t1=>(ft t1).bind fun b=>if b then (fe t1).bind fun r=>(toDn r).bind fun d=>(compN k ft fe ds t1).map fun xs=>d :: xs else compN k ft fe ds t1
def dCompN (n:Nat) (cap:List Nat) (fs:DI) (k:D→Th→Option Th) (ft:DT) (fe:DE):DE:=fun t=>(fs t).bind fun q=>(capD t cap).bind fun c=>if q.2.length ≤ 50000 then (compN k ft fe q.2 (List.replicate n Sl.no ++ c.2.map Sl.val)).map fun xs => .dn (.lst xs) else none
theorem compN_len {k:D→Th→Option Th} {ft:DT} {fe:DE}:∀ {ds:List D} {t:Th} {xs:List D},compN k ft fe ds t=some xs→xs.length ≤ ds.length
  | [],t,xs,e=>by cases e; simp
  | d :: ds,t,xs,e=>by
    unfold compN at e
    cases e1:k d t with
    | none=>rw [e1] at e; cases e
    | some t1 =>
      rw [e1] at e
      have e:((ft t1).bind fun b=>if b then (fe t1).bind fun r=>(toDn r).bind fun d=>(compN k ft fe ds t1).map fun xs=>d :: xs else compN k ft fe ds t1)=some xs:=e
      cases e2:ft t1 with
      | none=>rw [e2] at e; cases e
      | some b =>
        rw [e2] at e
        cases b with
        | false=>have:=compN_len (ds:=ds) (t:=t1) e; simp; omega
        | true =>
          have e:((fe t1).bind fun r=>(toDn r).bind fun d=>(compN k ft fe ds t1).map fun xs=>d :: xs)=some xs:=e
          cases e3:fe t1 with
          | none=>rw [e3] at e; cases e
          | some r =>
            rw [e3] at e
            have e:((toDn r).bind fun d=>(compN k ft fe ds t1).map fun xs=>d :: xs)=some xs:=e
            cases e5:toDn r with
            | none=>rw [e5] at e; cases e
            | some d0 =>
              rw [e5] at e
              have e:((compN k ft fe ds t1).map fun xs=>d0 :: xs)=some xs:=e
              cases e4:compN k ft fe ds t1 with
              | none=>rw [e4] at e; cases e
              | some ys=>rw [e4] at e; cases e; have:=compN_len e4; simp; omega
theorem tcomp_ofN {X:Cx} {F:List Addr} {n:Nat} {cap:List Nat} {fs:DI} {g:TG} {kt:D→Th→Option Th} {ft:DT} {fe:DE} (hk:∀ F',TgOk X.K F' g kt) {σ:L2.St} {H:Hp} {Q:VK} (h:dE X.K F (dCompN n cap fs kt ft fe) σ H Q) :
    tComp n cap (dI X.K F fs) g (fun σ H Q => ∃ F',dT X.K F' ft σ H Q) (fun σ H Q => ∃ F',dE X.K F' fe σ H Q) σ H Q:=by
  obtain ⟨A,t,r,R,e,h⟩:=h
  unfold dCompN at e
  cases e1:fs t with
  | none=>rw [e1] at e; cases e
  | some q =>
    obtain ⟨b,ds⟩:=q
    cases e2:capD t cap with
    | none=>rw [e1,e2] at e; cases e
    | some q2 =>
      obtain ⟨c,caps⟩:=q2
      rw [e1,e2] at e
      have e:(if ds.length ≤ 50000 then (compN kt ft fe ds (List.replicate n Sl.no ++ caps.map Sl.val)).map fun xs=>Ev.dn (.lst xs) else none)=some r:=e
      split at e
      case isFalse=>cases e
      rename_i hlen
      cases e3:compN kt ft fe ds (List.replicate n Sl.no ++ caps.map Sl.val) with
      | none=>rw [e3] at e; cases e
      | some xs =>
        rw [e3] at e
        cases e
        have xl:=compN_len e3
        obtain ⟨cvs,cv1,cv2⟩:=capD_rep R e2
        -- what is hidden from the block,but its own list
        obtain ⟨F',F'def⟩:∃ F',F'=hidF (b && c) A F:=⟨_,rfl⟩
        have subF:∀ x ∈ F',x ∈ A ++ F:=fun x hx=>by
          rw [F'def] at hx
          unfold hidF at hx
          split at hx
          · exact hx
          · exact List.mem_append_right _ hx
        have lessB:∀ H:Hp,Same (hide (hidF b A F) H) (hide F' H):=fun H=>hide_less H fun x hx=>by
          rw [F'def] at hx
          cases b <;> cases c <;> simp [hidF] at hx ⊢ <;> first | exact hx | exact .inr hx | (rcases hx with z | z <;> simp [z])
        have lessC:∀ H:Hp,Same (hide (hidF c A F) H) (hide F' H):=fun H=>hide_less H fun x hx=>by
          rw [F'def] at hx
          cases b <;> cases c <;> simp [hidF] at hx ⊢ <;> first | exact hx | exact .inr hx | (rcases hx with z | z <;> simp [z])
        have wi:tComp n cap (dI X.K F fs) g (fun σ H Q => ∃ F',dT X.K F' ft σ H Q) (fun σ H Q => ∃ F',dE X.K F' fe σ H Q) σ H Q:=by
          refine ⟨A,t,b,ds,R,e1,fun J H1 Good gs src gd Dd hD=>?_⟩
          have H1A:Lists H1 (A ++ F):=R.mu.mono gs
          have st0:Same (hide F' H1) (hide (Dd :: F') (upd H1 Dd (.lst []))):=hide_upd hD
          refine ⟨fun i m σ' H'=>i + m=ds.length∧∃ th acc rest vs B,RS X.K (Dd :: F') H' [] th σ'∧compN kt ft fe (ds.drop i) th=some rest∧acc ++ rest=xs∧H' Dd=some (.lst vs)∧(RepDs X.K (hide (Dd :: F') H') H' acc vs B∧B.Nodup∧Dd ∉ B∧∀ b ∈ B,H1 b=none)∧Same H1 H'∧Good (Dd :: F') H',
            ⟨ds.length,by omega,_,[],xs,[],[],⟨?_,List.nodup_nil,fun p hp=>(by cases hp),?_⟩,by simpa using e3,rfl,upd_same,⟨.nil,List.nodup_nil,by simp,by simp⟩,upd_sameH hD,src.keep _ _ _ _ gd (fun b o z=>st0 _ _ (lessB _ _ _ z))⟩,?_⟩
          · intro q hq
            have hq:q ∈ Dd :: F':=hq
            rcases List.mem_cons.mp hq with z | z
            · exact ⟨mL [],by rw [z]; exact upd_same⟩
            · obtain ⟨us,w⟩:=H1A q (subF q z)
              exact ⟨us,(upd_sameH hD) _ _ w⟩
          · unfold capV
            rw [cv1]
            exact RSl.noVals (Reps.mono (fun b o z=>st0 _ _ (lessC H1 _ _ (same_hide gs _ _ z))) cv2) n
          · rintro i m σ' H' ⟨hm,th,acc,rest,vs,B,RR,ec,ex,hv,⟨hr,hnd,hDB,hfr⟩,sm,gg⟩
            cases m with
            | zero =>
              have z:i=ds.length:=by omega
              subst z
              rw [List.drop_length] at ec
              cases ec
              rw [List.append_nil] at ex
              subst ex
              refine .inl ⟨src.stop _ _ gg,h _ H' (gs.trans sm) ⟨Dd :: B,List.nodup_cons.mpr ⟨hDB,hnd⟩,fun x hx=>?_, .lst hv (RepDs.hid (fun q hq=>?_) (hide_sub _ _) hr)⟩⟩
              · rcases List.mem_cons.mp hx with rfl | z
                · exact Same.free gs hD
                · exact Same.free gs (hfr x z)
              · rcases List.mem_append.mp hq with z | z
                · rcases List.mem_cons.mp z with rfl | z
                  · exact ⟨mL vs,hv⟩
                  · exact hr.lists q z
                · obtain ⟨us,w⟩:=H1A q z
                  exact ⟨us,sm _ _ w⟩
            | succ m =>
              have hil:i < ds.length:=by omega
              refine .inr ⟨src.go _ _ i gg hil,fun σ' H'=>i + 1 + m=ds.length∧∃ th acc rest vs B,RS X.K (Dd :: F') H' [] th σ'∧compN kt ft fe (ds.drop (i + 1)) th=some rest∧acc ++ rest=xs∧H' Dd=some (.lst vs)∧(RepDs X.K (hide (Dd :: F') H') H' acc vs B∧B.Nodup∧Dd ∉ B∧∀ b ∈ B,H1 b=none)∧Same H1 H'∧Good (Dd :: F') H',
                fun σ' H' q=>⟨m,Nat.lt_succ_self m,q⟩,fun x H2 y=>?_⟩
              obtain ⟨gs2,d,hd,rd⟩:=src.yld _ _ i x H2 gg RR.mu y hil
              have ed:ds.drop i=d :: ds.drop (i + 1):=by
                have hd':ds[i]=d:=by
                  rw [List.getElem?_eq_getElem hil] at hd
                  exact Option.some.inj hd
                rw [← hd']
                exact List.drop_eq_getElem_cons hil
              rw [ed] at ec
              unfold compN at ec
              cases k1:kt d th with
              | none=>rw [k1] at ec; cases ec
              | some t1 =>
                rw [k1] at ec
                have ec:((ft t1).bind fun b=>if b then (fe t1).bind fun r=>(toDn r).bind fun d=>(compN kt ft fe (ds.drop (i + 1)) t1).map fun xs=>d :: xs else compN kt ft fe (ds.drop (i + 1)) t1)=some rest:=ec
                refine hk (Dd :: F') σ' H2 [] th t1 d x _ (RR.grow gs2) rd k1 fun σ2 A2 gr2 R2=>?_
                have A20:=none_owned R2 gr2
                subst A20
                cases k2:ft t1 with
                | none=>rw [k2] at ec; cases ec
                | some bb =>
                  rw [k2] at ec
                  refine ⟨Dd :: F',[],t1,bb,R2,k2,fun H3 gs3=>?_⟩
                  cases bb with
                  | false =>
                    refine iteF ⟨by omega,t1,acc,rest,vs,B,R2.grow gs3,ec,ex,gs3 _ _ (gs2 _ _ hv),⟨RepDs.mono (same_hide (gs2.trans gs3)) hr fun p _ o w=>gs3 _ _ (gs2 _ _ w),hnd,hDB,hfr⟩,(sm.trans gs2).trans gs3,src.keep _ _ _ _ gg (same_hide (gs2.trans gs3))⟩
                  | true =>
                    have ec:((fe t1).bind fun r=>(toDn r).bind fun d=>(compN kt ft fe (ds.drop (i + 1)) t1).map fun xs=>d :: xs)=some rest:=ec
                    cases k3:fe t1 with
                    | none=>rw [k3] at ec; cases ec
                    | some re =>
                      rw [k3] at ec
                      have ec:((toDn re).bind fun d=>(compN kt ft fe (ds.drop (i + 1)) t1).map fun xs=>d :: xs)=some rest:=ec
                      cases k5:toDn re with
                      | none=>rw [k5] at ec; cases ec
                      | some de =>
                      rw [k5] at ec
                      have ec:((compN kt ft fe (ds.drop (i + 1)) t1).map fun xs=>de :: xs)=some rest:=ec
                      cases k4:compN kt ft fe (ds.drop (i + 1)) t1 with
                      | none=>rw [k4] at ec; cases ec
                      | some ys =>
                        rw [k4] at ec
                        cases ec
                        refine iteT ⟨Dd :: F',[],t1,re,R2.grow gs3,k3,fun v H4 gs4 q4=>⟨vs,gs4 _ _ (gs3 _ _ (gs2 _ _ hv)),?_,?_⟩⟩
                        · have l1:=hr.length
                          have l2:acc.length + (ys.length + 1)=xs.length:=by rw [← ex]; simp
                          exact Nat.lt_of_lt_of_le (show vs.length < 50000 by omega) (by rw [sizeLine_eq]; decide)
                        · have s3:=gs2.trans gs3
                          have s4:=s3.trans gs4
                          have hu:Same (hide (Dd :: F') H4) (hide (Dd :: F') (upd H4 Dd (.lst (vs ++ [v])))):=hide_same_upd (List.mem_cons_self ..)
                          have mu3:Lists H3 (Dd :: F'):=(R2.grow gs3).mu
                          obtain ⟨B4,n4,f4,r4⟩:=q4.toDn (R2.grow gs3).mu gs4 k5
                          have D3:H3 Dd=some (.lst vs):=s3 _ _ hv
                          have nD4:Dd ∉ B4:=fun z=>by rw [f4 _ z] at D3; cases D3
                          have off:∀ b,b ≠ Dd→upd H4 Dd (.lst (vs ++ [v])) b=H4 b:=fun b n=>upd_ne n
                          refine ⟨by omega,t1,acc ++ [de],ys,vs ++ [v],B ++ B4,RS.updF ((R2.grow gs3).grow gs4) (List.mem_cons_self ..),k4,by simpa using ex,upd_same,⟨?_,?_,?_,?_⟩,?_,?_⟩
                          · refine RepDs.appD (RepD.mono hu (RepD.hid (mu3.mono gs4) (hide_sub _ _) r4) fun b hb o w=>?_) (RepDs.mono (fun b o z=>hu _ _ (same_hide s4 _ _ z)) hr fun b hb o w=>?_)
                            · rw [off b fun z=>nD4 (z ▸ hb)]; exact w
                            · rw [off b fun z=>hDB (z ▸ hb)]; exact s4 _ _ w
                          · refine List.nodup_append.mpr ⟨hnd,n4,fun x hx y hy e=>?_⟩
                            subst e
                            obtain ⟨us,w⟩:=hr.lists x hx
                            have:=s3 _ _ w
                            rw [f4 x hy] at this; cases this
                          · intro z
                            rcases List.mem_append.mp z with z | z
                            · exact hDB z
                            · exact nD4 z
                          · intro b hb
                            rcases List.mem_append.mp hb with z | z
                            · exact hfr b z
                            · exact Same.free (sm.trans s3) (f4 b z)
                          · exact fun b o z=>by
                              rw [upd_ne (fun w=>by rw [w,hD] at z; cases z)]
                              exact s4 _ _ (sm _ _ z)
                          · exact src.keep _ _ _ _ gg (fun b o z=>hu _ _ (same_hide s4 _ _ z))
        exact wi
section
variable {X:Cx} {F:List Addr} {a b c o:Expr} {es:List Expr} {fa fb fc:DE} {fs:List DE} {ga:DA} {g g1 g2:DS} {ft fu:DT} {pos:Pos} {st:Stmt} {rest:List Stmt} {tg:Expr} {gt:TG} {kt:D→Th→Option Th}
def kRep:Ev→Ev→Option Ev:=fun r1 r2=>match r1,r2.d with
  | .nw xs, .int k=>if xs.length ≤ 100 && decide (-1000000 ≤ k∧k ≤ 1000) then some (.nw (List.replicate k.toNat xs).flatten) else none
  | _,_=>none
theorem Reps.rep {K:PySem.W.Frag} {H:Hp} {ds:List D} {vs:List V} (r:Reps K H ds vs):∀ k:Nat,Reps K H (List.replicate k ds).flatten (List.replicate k vs).flatten
  | 0=>by simpa using .nil
  | k + 1=>by simpa [List.replicate_succ] using r.app (Reps.rep r k)
theorem od_rep:OpD X F (binaryOp .Mult) kRep:=by
  intro pins s σ H0 H A x y v u Q r1 r2 r I m g0 rx ry q1 q2 e hq
  unfold kRep at e
  split at e
  · rename_i xs k z
    split at e
    · rename_i ok
      simp only [Bool.and_eq_true,decide_eq_true_eq] at ok
      cases e
      have p2:=q2.full
      rw [z] at p2
      cases rep_int p2
      obtain ⟨p,vs,rfl,h1,h2,h3⟩:=q1
      refine op_rep pins s σ H _ _ v u Q I rx ry ⟨p,k,vs,rfl,rfl,h2,by omega,by omega,?_,fun l hl=>hq _ _ (upd_sameH hl) ⟨l,_,rfl,Same.free g0 hl,upd_same,Reps.mono (hide_upd hl) (Reps.rep (Reps.mono (hide_less H fun a z=>List.mem_cons_of_mem _ z) h3) _)⟩⟩
      refine le_line ?_
      rw [h3.length]
      have h5:k.toNat ≤ 1000:=by omega
      exact Nat.le_trans (Nat.mul_le_mul ok.1 h5) (by decide)
    · cases e
  · cases e
end
end DL
namespace DL
open PySem PySem.Spec PyProof.Rows L2
def mkG (k:Nat) (N:List Str) (g:DS):List D→Option Ev:=fun ds=>if ds.length=k then (g (startD N ds)).bind outEv else none
theorem mkG_len {k:Nat} {N:List Str} {g:DS} {ds:List D} {r:Ev} (e:mkG k N g ds=some r):ds.length=k:=by
  unfold mkG at e
  split at e
  · assumption
  · cases e
theorem mkG_ok {k:Nat} {N:List Str} {g:DS} {ds:List D} {r:Ev} (e:mkG k N g ds=some r):∃ o,g (startD N ds)=some o∧outEv o=some r:=by
  unfold mkG at e
  split at e
  · cases e1:g (startD N ds) with
    | none=>rw [e1] at e; cases e
    | some o=>rw [e1] at e; exact ⟨o,rfl,e⟩
  · cases e
section
variable {X:Cx} {F:List Addr} {elt tg iter:Expr} {ifs:List Expr} {scope:Scope} {pos spos py:Pos} {fs:DI} {g:TG} {kt:D→Th→Option Th} {ft:DT} {fe fc:DE} {i:Nat} {y:Str}
theorem compU {n:Nat} {cap:List Nat} {N':List Str} (up:∀ {σ:L2.St} {H:Hp} {Q:VK},dE X.K F fc σ H Q→tComp n cap (dI X.K F fs) g (fun σ H Q => ∃ F',dT X.K F' ft σ H Q) (fun σ H Q => ∃ F',dE X.K F' fe σ H Q) σ H Q) (hc:X.calm=true) (hi:PI X tg iter (dI X.K F fs))
    (hg:∀ C s₃ H₃ fp pins,PG (blk X N' scope C s₃ H₃ fp pins) tg g) (ht:∀ C s₃ H₃ fp pins F',PTs (blk X N' scope C s₃ H₃ fp pins) ifs (dT X.K F' ft)) (he:∀ C s₃ H₃ fp pins F',PE (blk X N' scope C s₃ H₃ fp pins) elt (dE X.K F' fe))
    (hNd:X.N.Nodup) (hi₀:X.N[i]?=some y) (hy:Loc X.env.scope y) (hsw:swapsWith (.ListComp elt [⟨tg,iter,ifs,0⟩] scope pos) (some (.Name y py)) spos.line X.env=pure true) (hf:X.fn y=true ∨ X.env.scope.names.lookup y=some .local)
    (hkd:scope.kind = .function) (hcs:compOk scope.names X.env.kindOf=true) (hN:N'.length=n + cap.length) (hcap:capOk N' X.N n scope.names 0 cap=true) (hs:∀ x,foldedSetIterable iter X.env x=pure x) :
    PS X (.Assign [.Name y py] (.ListComp elt [⟨tg,iter,ifs,0⟩] scope pos) spos) (dS X.K F (dAsg i fc)):=by
  refine PS.imp (ps_compU (g:=g) (wi:=dI X.K F fs) (tt:=fun σ H Q => ∃ F',dT X.K F' ft σ H Q) (te:=fun σ H Q => ∃ F',dE X.K F' fe σ H Q) (compSc hkd hcs) hc hi hN (fun k j e=>by simpa using capOk_of hcap k j e) hg (fun C s₃ H₃ fp pins pins' s σ H Q I ⟨F',q⟩=>ht C s₃ H₃ fp pins F' pins' s σ H Q I q) (fun C s₃ H₃ fp pins pins' s σ H Q I ⟨F',q⟩=>he C s₃ H₃ fp pins F' pins' s σ H Q I q) hNd hi₀ hy hsw hf hs) ?_
  rintro E σ H ⟨A,t,o,R,e,h⟩
  unfold dAsg at e
  cases e1:fc t with
  | none=>rw [e1] at e; cases e
  | some r1 =>
    rw [e1] at e
    have e:(setSl t i r1).map Out.nx=some o:=e
    cases e2:setSl t i r1 with
    | none=>rw [e2] at e; cases e
    | some t' =>
      rw [e2] at e
      cases e
      refine up ⟨A,t,r1,R,e1,fun v H' gs q=>?_⟩
      obtain ⟨A',g',R'⟩:=R.put gs q e2
      exact h _ _ _ g' R'
theorem psd_setCN (n:Nat) (cap:List Nat) (N':List Str) (hNd:X.N.Nodup) (hi₀:X.N[i]?=some y) (hy:Loc X.env.scope y) (hc:X.calm=true) (hi:PI X tg iter (dI X.K F fs))
    (hg:∀ C s₃ H₃ fp pins,PG (blk X N' scope C s₃ H₃ fp pins) tg g) (hk:∀ F',TgOk X.K F' g kt) (ht:∀ C s₃ H₃ fp pins F',PTs (blk X N' scope C s₃ H₃ fp pins) ifs (dT X.K F' ft)) (he:∀ C s₃ H₃ fp pins F',PE (blk X N' scope C s₃ H₃ fp pins) elt (dE X.K F' fe))
    (hsw:swapsWith (.ListComp elt [⟨tg,iter,ifs,0⟩] scope pos) (some (.Name y py)) spos.line X.env=pure true:=by rfl) (hf:X.fn y=true ∨ X.env.scope.names.lookup y=some .local:=by first | exact .inl rfl | exact .inr rfl)
    (hkd:scope.kind = .function:=by rfl) (hcs:compOk scope.names X.env.kindOf=true:=by rfl) (hN:N'.length=n + cap.length:=by rfl) (hcap:capOk N' X.N n scope.names 0 cap=true:=by rfl)
    (hs:∀ x,foldedSetIterable iter X.env x=pure x:=by intro _; rfl):PS X (.Assign [.Name y py] (.ListComp elt [⟨tg,iter,ifs,0⟩] scope pos) spos) (dS X.K F (dAsg i (dCompN n cap fs kt ft fe))) :=
  compU (fun h=>tcomp_ofN hk h) hc hi hg ht he hNd hi₀ hy hsw hf hkd hcs hN hcap hs
end
end DL
namespace DL
open PySem PySem.Spec PyProof.Rows L2
section
variable {X:Cx} {F:List Addr} {a b c o:Expr} {es:List Expr} {fa fb fc:DE} {fs:List DE} {ga:DA} {g g1 g2:DS} {ft fu:DT} {pos:Pos} {st:Stmt} {rest:List Stmt} {tg:Expr} {gt:TG} {kt:D→Th→Option Th}
def leastI:Int→List Int→Int
  | m,[]=>m
  | m,n :: r=>leastI (if n < m then n else m) r
end
end DL
namespace L2
open PySem PySem.W PyProof.Rows
def bndS:Nat:=2 ^ 1048576
theorem weight_mem:∀ {ns:List Int} {n:Int},n ∈ ns→WData.weight (.int n) ≤ WData.weightAll (ns.map WData.int)
  | m :: r,n,h=>by
    rw [List.map_cons]
    unfold WData.weightAll
    rcases List.mem_cons.mp h with rfl | z
    · omega
    · have:=weight_mem z; omega
theorem bnd_of {ns:List Int} (h:WData.layableAll [WData.list (ns.map WData.int)]=true):∀ n ∈ ns,n.natAbs < bndS:=fun n hn=>by
  have h1:WData.layable (WData.list (ns.map WData.int))=true:=by simpa [WData.layableAll] using h
  have h2:WData.weight (WData.list (ns.map WData.int)) ≤ 2 ^ 20:=by
    unfold WData.layable at h1
    simp only [Bool.and_eq_true,decide_eq_true_eq] at h1
    exact h1.2
  have h3:WData.weight (.int n) ≤ 2 ^ 20:=by
    refine Nat.le_trans (weight_mem hn) ?_
    have e:WData.weight (WData.list (ns.map WData.int))=WData.weightAll (ns.map WData.int):=by simp [WData.weight]
    rw [← e]; exact h2
  by_cases z:n=0
  · subst z; unfold bndS; exact Nat.pow_pos (by decide)
  · have h4:n.natAbs.log2 + 1 ≤ 2 ^ 20:=by
      have:WData.weight (.int n)=n.natAbs.log2 + 1:=by simp [WData.weight,z]
      rw [← this]; exact h3
    have h5:n.natAbs.log2 < 1048576:=by omega
    exact (Nat.log2_lt (by omega)).mp h5
end L2
namespace DL
open PySem PySem.Spec PyProof.Rows L2
def spM (K:PySem.W.Frag) (G:List D→Option Ev):Sp:=fun vs H Q _ => ∃ (Fo:List Addr) (p:Addr) (ws vs':List V) (xs ds:List D) (d:D),vs = .ref p :: vs'∧Lists H (p :: Fo)∧p ∉ Fo∧H p=some (.lst ws)∧Reps K (hide (p :: Fo) H) xs ws∧Reps K (hide (p :: Fo) H) ds vs'∧G (.lst xs :: ds)=some (.cl d)∧scD d=true ∧
  ∀ v H',(∀ b o,b ≠ p→H b=some o→H' b=some o)→H' p ≠ none→(∀ Hx,Rep K Hx d v)→Q v H'
structure CalM (P:Program) (w:World) (K:PySem.W.Frag) (mg:Str→Option Value) (base:BHeap) (x:Str) (k:Nat) (G:List D→Option Ev):Prop where
  ex:∃ (a:Addr) (fd:FuncData) (ps:List Str),mg x=some (.ref a)∧PySem.W.keepIn K (.ref a)=true∧L2.Binds K fd ps []∧FnOk P w K mg base CX0 k a fd ps (spM K G)
def sV:D→V
  | .bl b => .bl b
  | .int i => .int i
  | .str x => .str x
  | _ => .non
theorem rep_sc {K:PySem.W.Frag} {H:Hp} {d:D} {v:V} (r:Rep K H d v) (s:scD d=true):v=sV d:=by
  cases r with
  | non=>rfl
  | bl b=>rfl
  | int i=>rfl
  | str x=>rfl
  | tup _ _=>cases s
  | lst _ _=>cases s
  | dct _ _ _=>cases s
  | pdc _=>cases s
theorem sc_rep {K:PySem.W.Frag} {H:Hp}:∀ {d:D},scD d=true→Rep K H d (sV d)
  | .non,_ => .non
  | .bl b,_ => .bl b
  | .int i,_ => .int i
  | .str x,_ => .str x
  | .tup _,s=>by cases s
  | .lst _,s=>by cases s
  | .dct _ _,s=>by cases s
  | .pdc _,s=>by cases s
theorem sc_flatD:∀ {d:D},scD d=true→flat d=true
  | .non,_=>rfl
  | .bl b,_=>rfl
  | .int i,_=>rfl
  | .str x,_=>rfl
  | .tup _,s=>by cases s
  | .lst _,s=>by cases s
  | .dct _ _,s=>by cases s
  | .pdc _,s=>by cases s
theorem reps_sc {K:PySem.W.Frag} {H:Hp}:∀ {ds:List D} {vs:List V},Reps K H ds vs→ds.all scD=true→vs=ds.map sV
  | _,_, .nil,_=>rfl
  | _,_, .cons h r,s=>by
    simp only [List.all_cons,Bool.and_eq_true] at s
    rw [rep_sc h s.1,reps_sc r s.2]; rfl
theorem repds_sc {K:PySem.W.Frag} {H0 H:Hp}:∀ {ds:List D} {vs:List V} {B:List Addr},RepDs K H0 H ds vs B→ds.all scD=true→vs=ds.map sV∧B=[]
  | _,_,_, .nil,_=>⟨rfl,rfl⟩
  | _,_,_, .cons h r,s=>by
    simp only [List.all_cons,Bool.and_eq_true] at s
    obtain ⟨a,b⟩:=repds_sc r s.2
    subst a b
    cases h with
    | flat f q=>rw [rep_sc q s.1]; exact ⟨rfl,rfl⟩
    | tup _ _=>exact absurd s.1 (by simp [scD])
    | lst _ _=>exact absurd s.1 (by simp [scD])
    | dct _ _ _=>exact absurd s.1 (by simp [scD])
    | pdc _=>exact absurd s.1 (by simp [scD])
theorem sc_repds {K:PySem.W.Frag} {H0 H:Hp}:∀ {ds:List D},ds.all scD=true→RepDs K H0 H ds (ds.map sV) []
  | [],_ => .nil
  | d :: ds,s=>by
    simp only [List.all_cons,Bool.and_eq_true] at s
    exact .cons (B:=[]) (C:=[]) (.flat (sc_flatD s.1) (sc_rep s.1)) (sc_repds s.2)
def putPr (ps:List (Int × Int)) (q:Int × Int):List (Int × Int):=if q ∈ ps then ps else ps ++ [q]
theorem pkv_any (q:Int × Int):∀ ps:List (Int × Int),((pkv ps).any fun kv=>decide (kv.1=[Sum.inl q.1,Sum.inl q.2]))=decide (q ∈ ps)
  | []=>rfl
  | p :: ps=>by
    have ih:=pkv_any q ps
    unfold pkv at ih ⊢
    simp only [List.map_cons,List.any_cons,ih]
    by_cases e:p=q
    · subst e; simp
    · have : ¬ (([Sum.inl p.1,Sum.inl p.2]:List Key)=[Sum.inl q.1,Sum.inl q.2]):=fun z=>by
        simp only [List.cons.injEq,Sum.inl.injEq,and_true] at z
        exact e (Prod.ext z.1 z.2)
      rw [decide_eq_false this,Bool.false_or]
      simp only [List.mem_cons]
      by_cases m:q ∈ ps
      · rw [decide_eq_true m,decide_eq_true (Or.inr m)]
      · rw [decide_eq_false m,decide_eq_false (fun z=>z.elim (fun w=>e w.symm) m)]
theorem putK_pkv (ps:List (Int × Int)) (q:Int × Int):putK (pkv ps) [Sum.inl q.1,Sum.inl q.2] (V.bl true)=pkv (putPr ps q):=by
  unfold putK putPr
  rw [pkv_any]
  by_cases m:q ∈ ps
  · rw [if_pos (decide_eq_true m),if_pos m]
    unfold pkv
    rw [List.map_map]
    refine List.map_congr_left fun p _=>?_
    show (if _ then _ else _)=_
    split <;> rfl
  · rw [if_neg (by simpa using m),if_neg m]
    unfold pkv
    rw [List.map_append]
    rfl
theorem pkv_len (ps:List (Int × Int)):(pkv ps).length=ps.length:=by simp [pkv]
theorem RS.placeP {K:PySem.W.Frag} {F A:List Addr} {H:Hp} {t:Th} {σ:L2.St} {i:Nat} {ps:List (Int × Int)} (R:RS K F H A t σ) (e:t[i]?=some (.dp (.pdc ps))) :
    ∃ p,σ[i]?=some (some (.ref p))∧p ∈ A∧H p=some (.dT (pkv ps)) ∧
      ∀ H2 ps2,(∀ b o,b ≠ p→H b=some o→H2 b=some o)→H2 p=some (.dT (pkv ps2))→∃ A2,RS K F H2 A2 (t.set i (.dp (.pdc ps2))) σ∧Gr A H A2 H2:=by
  obtain ⟨v,B,a1,a2,a3,a4,a5⟩:=R.rel.focusDp R.nd e
  cases a4 with
  | flat f _=>simp [flat] at f
  | @pdc _ p h =>
    have pA:p ∈ A:=a2 p (by simp)
    refine ⟨p,a1,pA,h,fun H2 ps2 kp hp=>?_⟩
    have hh:Same (hide (A ++ F) H) (hide (A ++ F) H2):=fun b o q=>by
      obtain ⟨n,q⟩:=of_hide q
      exact hide_get (kp b o (fun z=>n (List.mem_append_left _ (z ▸ pA))) q) n
    obtain ⟨A2,d1,d3⟩:=a5 _ _ (.pdc ps2) [p] hh (.pdc hp) (List.Sublist.refl _) (fun q hq nq o w=>kp q o (by simpa using nq) w)
    have sub:∀ x ∈ A2,x ∈ A:=fun x hx=>d3.subset hx
    have mu:Lists H2 (A ++ F):=fun q hq=>by
      by_cases z:q=p
      · exact ⟨mT _,by rw [z]; exact hp⟩
      · obtain ⟨us,w⟩:=R.mu q hq
        exact ⟨us,kp q _ z w⟩
    refine ⟨A2,⟨fun q hq=>mu q ?_,R.nd.sublist d3,fun q hq=>R.dj q (sub q hq),RSl.mono (hide_less _ fun a z=>?_) d1 fun _ _ _ h=>h⟩,fun b o n h=>?_,fun b hb=>?_,fun b hb => .inl (sub b hb)⟩
    · exact (List.mem_append.mp hq).elim (fun z=>List.mem_append_left _ (sub q z)) (fun z=>List.mem_append_right _ z)
    · exact (List.mem_append.mp z).elim (fun z=>List.mem_append_left _ (sub a z)) (fun z=>List.mem_append_right _ z)
    · exact kp b o (fun z=>n (z ▸ pA)) h
    · obtain ⟨us,w⟩:=mu b (List.mem_append_left _ hb)
      rw [w]; simp
section
variable {X:Cx} {F:List Addr} {a b c o:Expr} {es:List Expr} {fa fb fc:DE} {ga:DA} {pos pos1:Pos}
def dNewP:DE:=fun _=>some (.dn (.pdc []))
theorem ped_newP:PE X (.Dict [] [] pos) (dE X.K F dNewP):=by
  refine PE.imp pe_dnewT ?_
  rintro σ H Q ⟨A,t,r,R,e,h⟩
  cases e
  intro p hp
  refine h _ _ (upd_sameH hp) ⟨[p],by simp,fun b hb=>by simp at hb; subst hb; exact hp, .pdc upd_same⟩
def spP (G:List (Int × Int)→List Int→Option (List (Int × Int))):Sp:=fun vs H Q _ => ∃ (p:Addr) (ps ps':List (Int × Int)) (ns:List Int),vs = .ref p :: ns.map V.int∧H p=some (.dT (pkv ps))∧G ps ns=some ps' ∧
  ∀ H',(∀ b o,b ≠ p→H b=some o→H' b=some o)→H' p=some (.dT (pkv ps'))→Q .non H'
structure CalP (P:Program) (w:World) (K:PySem.W.Frag) (mg:Str→Option Value) (base:BHeap) (x:Str) (k:Nat) (G:List (Int × Int)→List Int→Option (List (Int × Int))):Prop where
  ex:∃ (a:Addr) (fd:FuncData) (ps:List Str),mg x=some (.ref a)∧PySem.W.keepIn K (.ref a)=true∧L2.Binds K fd ps []∧FnOk P w K mg base CX0 k a fd ps (spP G)
theorem Df.calP {P:Program} {w:World} {K:PySem.W.Frag} {mg:Str→Option Value} {base:BHeap} {x:Str} {st:Stmt} {ps:List Str} {a:Addr} {fd:FuncData} {k:Nat} {G:List (Int × Int)→List Int→Option (List (Int × Int))} (d:Df K mg x st ps a fd) (h:FnOk P w K mg base CX0 k a fd ps (spP G)):CalP P w K mg base x k G :=
  ⟨a,fd,ps,d.mgx,d.fn.kp,d.bd,h⟩
def dCallP (i:Nat) (G:List (Int × Int)→List Int→Option (List (Int × Int))) (ga:DA):DS:=fun t=>match t[i]? with
  | some (.dp (.pdc ps))=>(ga t).bind fun rs=>(intsD (rs.map Ev.d)).bind fun ns=>(G ps ns).map fun ps' => .nx (t.set i (.dp (.pdc ps')))
  | _=>none
theorem evs_ints {K:PySem.W.Frag} {F A:List Addr} {H H':Hp}:∀ {rs:List Ev} {vs:List V} {ns:List Int},RepEvs K F A H H' rs vs→intsD (rs.map Ev.d)=some ns→vs=ns.map V.int
  | _,_,ns, .nil,e=>by cases e; rfl
  | _,_,ns, .cons (r:=r) (rs:=rs) h q,e=>by
    have e':=intsD_eq e
    cases ns with
    | nil=>simp at e'
    | cons n ns =>
      simp only [List.map_cons,List.cons.injEq] at e'
      have p:=h.full
      rw [e'.1] at p
      cases rep_int p
      rw [evs_ints q (by rw [e'.2]; exact intsD_map ns)]
      rfl
theorem psd_callP {k:Nat} {G:List (Int × Int)→List Int→Option (List (Int × Int))} {x y:Str} {p py:Pos} (i:Nat) (c:CalP X.prog X.w X.K X.mg X.base x k G) (hr:Room k X.A) (ha:PA X es (dA X.K F ga)) (hN:X.N[i]?=some y:=by rfl) (hv:Vis X.env.scope y:=by first | exact Or.inl rfl | exact Or.inr (Or.inl rfl) | exact Or.inr (Or.inr rfl)) (hd:(y == ("__debug__":Str))=false:=by decide)
    (hcd:(y == ("__classdict__":Str))=false:=by decide) (hg:Gl X x:=by rfl) (hdb:(x == ("__debug__":Str))=false:=by decide)
    (he:starEach (.Name y py :: es) X.env=(false,eval (.Name y py) X.env) :: starEach es X.env:=by rfl) (hpl:(backTo pos1 (starEach es X.env)).any (·.1)=false:=by rfl)
    (hs:swapsWith (.Call (.Name x p) (.Name y py :: es) [] pos1) none pos.line X.env=pure false:=by rfl) :
    PS X (.Expr (.Call (.Name x p) (.Name y py :: es) [] pos1) pos) (dS X.K F (dCallP i G ga)):=by
  obtain ⟨f,fd,ps,h1,h2,h3,h4⟩:=c.ex
  refine PS.imp (ps_expr (pe_call h4 hr hg h1 h2 h3 .nil (E:=E0) pass0 (pa_cons (pe_var (i:=i) hN hv hd hcd) ha he) hdb he hpl) hs) ?_
  rintro E σ H ⟨A,t,o,R,e,h⟩
  unfold dCallP at e
  split at e
  case h_2=>cases e
  rename_i pz z
  cases e1:ga t with
  | none=>rw [e1] at e; cases e
  | some rs =>
    rw [e1] at e
    simp only [Option.bind_some] at e
    cases e2:intsD (rs.map Ev.d) with
    | none=>rw [e2] at e; cases e
    | some ns =>
      rw [e2] at e
      simp only [Option.bind_some] at e
      cases e3:G pz ns with
      | none=>rw [e3] at e; cases e
      | some pz' =>
        rw [e3] at e
        cases e
        obtain ⟨q,a1,a2,a3,a4⟩:=R.placeP z
        refine ⟨_,a1,A,t,rs,R,e1,fun vs H1 gs q1=>?_⟩
        show spP G ((.ref q :: vs) ++ []) H1 _ E0
        rw [List.append_nil,evs_ints q1 e2]
        refine ⟨q,pz,pz',ns,rfl,gs _ _ a3,e3,fun H' kp hp=>?_⟩
        obtain ⟨A2,R2,gr⟩:=a4 H' pz' (fun b o n w=>kp b o n (gs _ _ w)) hp
        exact h _ _ _ gr R2
end
end DL
namespace DL
open PySem PySem.Spec PyProof.Rows L2
def pairN (m k:Int):Int × Int:=((if (k.fdiv m).fmod m < k.fmod m then (k.fdiv m).fmod m else k.fmod m),(if k.fmod m < (k.fdiv m).fmod m then (k.fdiv m).fmod m else k.fmod m))
def putG (ps:List (Int × Int)) (ns:List Int):Option (List (Int × Int)):=match ns with
  | [m,k]=>if 0 < m∧sm m=true∧ps.length < 100000 then some (if k.fmod m=(k.fdiv m).fmod m then ps else putPr ps (pairN m k)) else none
  | _=>none
section
variable {X:Cx} {F:List Addr} {e1 e2 c o ke kv:Expr} {pos:Pos}
def tPutB (K:PySem.W.Frag) (f1 f2:DE) (ft:DT) (gk:DA) (fv:DE):TS:=tSeq (tAsg (dE K [] f1) (gName 3)) (tSeq (tAsg (dE K [] f2) (gName 4)) (tIfS (dT K [] ft) (sDPut (tVar 0) (tTup (dA K [] gk)) (dE K [] fv)) tNext))
theorem put_runs {K:PySem.W.Frag} {H:Hp} {Q:VK} {p:Addr} {ps ps':List (Int × Int)} {m k:Int} {f1 f2:DE} {ft:DT} {gk:DA} {fv:DE} (hp:H p=some (.dT (pkv ps))) (hg:putG ps [m,k]=some ps')
    (h1:∀ s3 s4,f1 [.dp (.pdc ps), .val (.int m), .val (.int k),s3,s4]=some (.cl (.int (k.fmod m)))) (h2:∀ s3 s4,f2 [.dp (.pdc ps), .val (.int m), .val (.int k),s3,s4]=some (.cl (.int ((k.fdiv m).fmod m))))
    (h3:∀ a b:Int,ft [.dp (.pdc ps), .val (.int m), .val (.int k), .val (.int a), .val (.int b)]=some (!decide (a=b)))
    (h4:∀ a b:Int,gk [.dp (.pdc ps), .val (.int m), .val (.int k), .val (.int a), .val (.int b)]=some [.cl (.int (if b < a then b else a)), .cl (.int (if a < b then b else a))])
    (h5:∀ a b:Int,fv [.dp (.pdc ps), .val (.int m), .val (.int k), .val (.int a), .val (.int b)]=some (.cl (.bl true)))
    (cont:∀ H',(∀ b o,b ≠ p→H b=some o→H' b=some o)→H' p=some (.dT (pkv ps'))→Q .non H') :
    tPutB K f1 f2 ft gk fv { nx:=fun _ H'=>Q .non H',rt:=Q } [some (.ref p),some (.int m),some (.int k),none,none] H:=by
  unfold putG at hg
  simp only at hg
  split at hg
  case isFalse=>cases hg
  rename_i hm
  have hg:=Option.some.inj hg
  have rs:∀ (H1:Hp) (t3:Th) (σ3:L2.St),H1 p=some (.dT (pkv ps))→RSl K (hide ([p] ++ []) H1) H1 t3 σ3 []→RS K [] H1 [p] (.dp (.pdc ps) :: .val (.int m) :: .val (.int k) :: t3) (some (.ref p) :: some (.int m) :: some (.int k) :: σ3):=fun H1 t3 σ3 hq r =>
    ⟨fun q hq'=>by simp at hq'; subst hq'; exact ⟨mT _,hq⟩,by simp,fun q _=>by simp, .dp (B:=[p]) (.pdc hq) (.val (.int m) (.val (.int k) r))⟩
  refine ⟨[p],_,_,rs H [.no, .no] [none,none] hp (.no (.no .nil)),h1 _ _,fun v H1 g1 q1=>?_⟩
  have ev:=q1.full
  cases rep_int ev
  refine ⟨[p],_,_,rs H1 [.val (.int (k.fmod m)), .no] [some (.int (k.fmod m)),none] (g1 _ _ hp) (.val (.int _) (.no .nil)),h2 _ _,fun v H2 g2 q2=>?_⟩
  have ev:=q2.full
  cases rep_int ev
  have hp2:H2 p=some (.dT (pkv ps)):=g2 _ _ (g1 _ _ hp)
  have R2:=fun H' (hq:H' p=some (.dT (pkv ps)))=>rs H' [.val (.int (k.fmod m)), .val (.int ((k.fdiv m).fmod m))] [some (.int (k.fmod m)),some (.int ((k.fdiv m).fmod m))] hq (.val (.int _) (.val (.int _) .nil))
  refine ⟨[p],_,_,R2 H2 hp2,h3 _ _,fun H3 g3=>?_⟩
  have hp3:=g3 _ _ hp2
  have s3:∀ b o,H b=some o→H3 b=some o:=fun b o w=>g3 _ _ (g2 _ _ (g1 _ _ w))
  by_cases z:k.fmod m=(k.fdiv m).fmod m
  · rw [decide_eq_true z]
    refine iteF ?_
    rw [if_pos z] at hg
    subst hg
    exact cont H3 (fun b o _ w=>s3 b o w) hp3
  · rw [decide_eq_false z]
    refine iteT ?_
    rw [if_neg z] at hg
    subst hg
    refine ⟨[p],_,_,R2 H3 hp3,h5 _ _,fun v H4 g4 q4=>?_⟩
    have ev:=q4.full
    cases ev with
    | bl =>
      refine ⟨_,rfl,[p],_,_,R2 H4 (g4 _ _ hp3),h4 _ _,fun vs H5 g5 q5=>?_⟩
      have evs:=evs_ints q5 (ns:=[(pairN m k).1,(pairN m k).2]) rfl
      subst evs
      refine ⟨by simp [sizeLine_eq],fun b hb=>?_⟩
      have hp5:=g5 _ _ (g4 _ _ hp3)
      have nb:p ≠ b:=fun w=>by rw [w,hb] at hp5; cases hp5
      refine ⟨p,_,rfl,DPut.t (k:=[Sum.inl (pairN m k).1,Sum.inl (pairN m k).2]) (by rw [upd_ne nb]; exact hp5) upd_same (by rw [pkv_len]; exact Nat.lt_of_lt_of_le hm.2.2 (by rw [sizeLine_eq]; decide)),?_⟩
      refine cont _ (fun b' o n w=>?_) (by rw [upd_same,putK_pkv])
      rw [upd_ne n]
      have w5:=g5 _ _ (g4 _ _ (s3 _ _ w))
      rw [upd_ne (fun q=>by rw [q,hb] at w5; cases w5)]
      exact w5
theorem put_two {ps ps':List (Int × Int)} {ns:List Int} (h:putG ps ns=some ps'):∃ m k,ns=[m,k]:=by
  unfold putG at h
  split at h
  · exact ⟨_,_,rfl⟩
  · cases h
theorem put_len {p:Addr} {ps ps':List (Int × Int)} {ns:List Int} (h:putG ps ns=some ps'):(V.ref p :: ns.map V.int).length=3:=by
  obtain ⟨m,k,rfl⟩:=put_two h
  rfl
def fP1:DE:=(d2 (kI cMod fun i j => .int (i.fmod j)) (dVar 2) (dVar 1))
def fP2:DE:=(d2 (kI cMod fun i j => .int (i.fmod j)) (d2 (kI cDiv fun i j => .int (i.fdiv j)) (dVar 2) (dVar 1)) (dVar 1))
def ftP:DT:=(dBo (d2 kNe (dVar 3) (dVar 4)))
def gkP:DA:=(dCons (dT1 (k2I fun i j=>if j < i then j else i) (dCons (dVar 3) (dCons (dVar 4) dNil))) (dCons (dT1 (k2I fun i j=>if j > i then j else i) (dCons (dVar 3) (dCons (dVar 4) dNil))) dNil))
def fvP:DE:=dC (.bl true)
theorem put_law {K:PySem.W.Frag} {H:Hp} {Q:VK} {p:Addr} {ps ps':List (Int × Int)} {m k:Int} (hp:H p=some (.dT (pkv ps))) (hg:putG ps [m,k]=some ps')
    (cont:∀ H',(∀ b o,b ≠ p→H b=some o→H' b=some o)→H' p=some (.dT (pkv ps'))→Q .non H') :
    tPutB K fP1 fP2 ftP gkP fvP { nx:=fun _ H'=>Q .non H',rt:=Q } [some (.ref p),some (.int m),some (.int k),none,none] H:=by
  have hm:0 < m∧sm m=true:=by
    unfold putG at hg
    simp only at hg
    split at hg
    · rename_i h; exact ⟨h.1,h.2.1⟩
    · cases hg
  have m0 : ¬ m=0:=by omega
  have cm:∀ a:Int,cMod a m=true:=fun a=>by simp [cMod,m0]
  have cd:∀ a:Int,cDiv a m=true:=fun a=>by simp [cDiv,m0,hm.2]
  refine put_runs hp hg (fun _ _=>?_) (fun _ _=>?_) (fun a b=>?_) (fun a b=>rfl) (fun a b=>rfl) cont
  · show kI cMod (fun i j => .int (i.fmod j)) (.cl (.int k)) (.cl (.int m))=_
    simp [kI,Ev.d,cm]
  · show Option.bind (kI cDiv (fun i j => .int (i.fdiv j)) (.cl (.int k)) (.cl (.int m))) (fun r=>kI cMod (fun i j => .int (i.fmod j)) r (.cl (.int m)))=_
    simp [kI,Ev.d,cm,cd]
  · unfold ftP dBo
    rw [show d2 kNe (dVar 3) (dVar 4) [.dp (.pdc ps), .val (.int m), .val (.int k), .val (.int a), .val (.int b)]=some (.cl (.bl (!eqD (.int a) (.int b)))) from rfl]
    show some (!eqD (.int a) (.int b))=_
    simp [eqD]
end
end DL
namespace DL
open PySem PySem.Spec PyProof.Rows L2
def cmpI (mx:Bool) (i j:Int):Bool:=if mx then decide (i > j) else decide (i < j)
def lexI (mx:Bool):List Int→List Int→Bool
  | i :: r,j :: q=>if decide (i=j) then lexI mx r q else cmpI mx i j
  | _,_=>false
def cmpD (mx:Bool):D→D→Option Bool
  | .int i, .int j=>some (cmpI mx i j)
  | .tup xs, .tup ys=>(intsD xs).bind fun is=>(intsD ys).bind fun js=>if is.length=js.length then some (lexI mx is js) else none
  | _,_=>none
def pD (K:PySem.W.Frag) (mx:Bool):V→V→Hp→Bool→Prop:=fun y z H c => ∃ d e,Rep K H d y∧Rep K H e z∧cmpD mx d e=some c
def bestD (mx:Bool) (fb:DE) (cs:List D):D→D→List D→Option D
  | b,_,[]=>some b
  | b,k,d :: ds=>(fb (.val d :: cs.map Sl.val)).bind fun r=>if flat r.d then (cmpD mx r.d k).bind fun c=>if c then bestD mx fb cs d r.d ds else bestD mx fb cs b k ds else none
def dKey (mx:Bool) (cap:List Nat) (fa fb:DE):DE:=fun t=>(fa t).bind fun r=>(capD t cap).bind fun c=>match r.d with
  | .lst (d :: ds)=>if (intsD (d :: ds)).isSome then (fb (.val d :: c.2.map Sl.val)).bind fun k=>if flat k.d then (bestD mx fb c.2 d k.d ds).map Ev.cl else none else none
  | _=>none
end DL
namespace L2
open PySem PySem.Spec PySem.W PyProof.Rows
def lamOf (x:Str):Str:=x ++ ".<locals>." ++ "<lambda>"
theorem mem_lookN {β:Type}:∀ {l:List (Nat × β)} {a:Nat} {o:β},l.lookup a=some o→(a,o) ∈ l
  | [],_,_,e=>by cases e
  | (b,x) :: r,a,o,e=>by
    rw [List.lookup_cons] at e
    cases hb:a == b with
    | true=>rw [hb] at e; cases e; rw [eq_of_beq hb]; exact .head _
    | false=>rw [hb] at e; exact .tail _ (mem_lookN e)
def tbOf (K:Frag) (names:List Str):List (Addr × Str):=names.filterMap fun x=>(tabIn K x).map fun q=>(q.2,lamOf x)
theorem of_tbOf {K:Frag} {names:List Str} {p:Addr × Str} (h:p ∈ tbOf K names):∃ x ∈ names, ∃ c,tabIn K x=some (c,p.1):=by
  obtain ⟨x,hx,e⟩:=List.mem_filterMap.mp h
  cases q:tabIn K x with
  | none=>rw [q] at e; cases e
  | some r=>rw [q] at e; cases e; exact ⟨x,hx,r.1,q⟩
def TbOk (K:Frag) (names:List Str):Prop := ∀ p ∈ tbOf K names,(tbOf K names).lookup p.1=some p.2∧K.lookup p.1=none
theorem tbOk_nil {K:Frag}:TbOk K []:=fun p hp=>by cases hp
theorem law_callT {P:Program} {w:World} {K:Frag} {mg mb:Str→Option Value} {CX:CXT} {k:Nat} {fa a:Addr} {fd:FuncData} {x:Str} {sp:Sp} {s₁:Shared} {vs:List Value} {ns:List Int} {names:List Str}
    (KX:K.In s₁.heap) (hns:s₁.heap.Ns mainGlobals mg) (hb:s₁.heap.Ns builtinsNs mb) (hbb:∀ x:Str,x ≠ "__name__"→mb x=bootBuiltins x) (hlim:s₁.heap.NoLimit)
    (hbm:∃ (bm:Addr) (ob:Obj),mg "__builtins__"=some (.ref bm)∧bm ≠ builtinsNs∧s₁.heap.get? bm=some ob∧ob.cls = .type "module"∧ob.dict=some builtinsNs∧ob.data = .plain) (hg:s₁.gens = #[])
    (ha:s₁.heap.get? a=some { cls := .type "list",data := .seq vs.toArray }) (hi:IntsAre vs ns) (hl:ns.length ≤ sizeLine) (hr:Room k callerA)
    (hT:∀ x ∈ names, ∀ c P,tabIn K x=some (c,P)→CodeHd s₁.heap c P∧s₁.heap.get? P=some (tabObj #[])) (hn:TbOk K names)
    (F:∀ base:BHeap,base.tabs=tbOf K names→K.In base→base.Ns mainGlobals mg→(∀ x ∈ names, ∀ c P,tabIn K x=some (c,P)→CodeHd base c P)→FnOk P w K mg base CX k fa fd [x] sp)
    (hbind:∀ (s:Shared) (u:Value),BindsTo s fd ⟨[u],[]⟩ [(x,u)]) (hsp:∀ H:Hp,SqL K H a (ns.map V.int)→sp [.ref a] H (fun v _=>v = .bl true) fun _ _ _=>False)
    (hCX:∀ H e s',CX [] H s₁ (fun _ _ _=>False) e s'→False) :
    codeAny (model P w) callerA (.call (.ref fa) ⟨[.ref a],[]⟩) (fun r s'=>r = .ok (.ret (.bool true))∧OldK s₁.heap s'.heap∧s'.os=s₁.os∧AllBare s'.gens) s₁:=by
  have rv:=vals_ints hi
  have lenV:=hi.length
  have tabH:∀ p ∈ tbOf K names, ∃ c,CodeHd s₁.heap c p.1∧s₁.heap.get? p.1=some (tabObj #[]):=fun p hp=>by
    obtain ⟨y,hy,c,e⟩:=of_tbOf hp
    exact ⟨c,hT y hy c p.1 e⟩
  have core:∀ H:Hp,SqL K H a (ns.map V.int)→HOk P w H s₁.heap→(∀ p ∈ tbOf K names,H p.1=some (.tbl p.2)) →
      (∀ b o,H b=some o→(b=a∧K.lookup a=none∧∃ ob xs,o = .frz ob (.lst xs)) ∨ ∃ q,o = .tbl q∧(b,q) ∈ tbOf K names) →
      codeAny (model P w) callerA (.call (.ref fa) ⟨[.ref a],[]⟩) (fun r s'=>r = .ok (.ret (.bool true))∧OldK s₁.heap s'.heap∧s'.os=s₁.os∧AllBare s'.gens) s₁:=by
    intro H hS hok hTB hH
    have free:∀ {b:Addr} {o:Obj},s₁.heap.get? b=some o→(o.cls = .type "list"→False)→o ≠ tabObj #[]→H b=none:=fun {b o} e n1 n2=>by
      cases q:H b with
      | none=>rfl
      | some u =>
        rcases hH b u q with ⟨rfl,_⟩ | ⟨qq,rfl,hm⟩
        · rw [ha] at e; cases e; exact (n1 rfl).elim
        · obtain ⟨c,_,e2⟩:=tabH _ hm
          have e2:s₁.heap.get? b=some (tabObj #[]):=e2
          rw [e] at e2; cases e2; exact (n2 rfl).elim
    have nsK:∀ {b:Addr} {m:Str→Option Value},s₁.heap.Ns b m→(hidT s₁.heap H).Ns b m:=fun {b m} ⟨o,es,ep,e,d,r⟩=>⟨o,es,ep,hidT_get e (by
      cases q:H b with
      | none=>rfl
      | some u =>
        rcases hH b u q with ⟨rfl,_⟩ | ⟨qq,rfl,hm⟩
        · rw [ha] at e; cases e; cases d
        · obtain ⟨c,_,e2⟩:=tabH _ hm
          have e2:s₁.heap.get? b=some (tabObj #[]):=e2
          rw [e] at e2; cases e2; cases d),d,r⟩
    have hKb:K.In (hidT s₁.heap H):=fun b o e=>hidT_get (KX b o e) (by
      cases q:H b with
      | none=>rfl
      | some u =>
        rcases hH b u q with ⟨rfl,n,_⟩ | ⟨qq,rfl,hm⟩
        · rw [n] at e; cases e
        · have n:K.lookup b=none:=(hn _ hm).2
          rw [n] at e; cases e)
    have hM:Mod K mg ⟨hidT s₁.heap H,tbOf K names⟩:=⟨hKb,nsK hns,⟨mb,nsK hb,hbb⟩,let ⟨mc,h1,h2⟩:=hlim; ⟨mc,nsK h1,h2⟩,by
      obtain ⟨bm,ob,b1,b2,b3,b4,b5,b6⟩:=hbm
      exact ⟨bm,ob,b1,b2,hidT_get b3 (free b3 (fun z=>by rw [b4] at z; simp at z) fun z=>by rw [z] at b4; cases b4),b4,b5,b6⟩⟩
    have hCd:∀ x ∈ names, ∀ c P,tabIn K x=some (c,P)→CodeHd (hidT s₁.heap H) c P:=fun x hx c P e=>by
      obtain ⟨⟨o,vs,file,tf,flags,tg,inF,text,tt,e1,r1,r⟩,_⟩:=hT x hx c P e
      exact ⟨o,vs,file,tf,flags,tg,inF,text,tt,hidT_get e1 (free e1 (fun z=>by rw [r1] at z; simp at z) fun z=>by rw [z] at r1; cases r1),r1,r⟩
    have e0:Env0 P w K mg ⟨hidT s₁.heap H,tbOf K names⟩ callerA [] s₁ H:=⟨rfl,hM,fun b o e=>of_hidT e,Nat.le_of_eq (hidT_size _ _),trivial,fun b hb=>absurd (show b ∈ ([]:List Addr) from hb) (by simp),hok, .of_eq hg,hTB⟩
    refine codeAny_mono ((F ⟨hidT s₁.heap H,tbOf K names⟩ rfl hKb (nsK hns) hCd).run callerA [] s₁ H ⟨[.ref a],[]⟩ [.ref a] [.ref a] _ _ hr e0 (hbind s₁ (.ref a)) (.cons rfl .nil) (hsp H hS)) fun r s' h=>?_
    cases r with
    | error e=>exact (hCX H e s' h).elim
    | ok fl =>
      cases fl with
      | next=>exact False.elim h
      | brk=>exact False.elim h
      | cont=>exact False.elim h
      | ret u =>
        obtain ⟨v,H',os,bare,un,hok',r',q⟩:=h
        have q':v = .bl true:=q
        subst q'
        obtain rfl:u=Value.bool true:=r'
        have kp:∀ b o,s₁.heap.get? b=some o→s'.heap.get? b=some o ∨ ∃ qq,H b=some (.tbl qq):=fun b o e=>by
          cases q:H b with
          | none=>exact .inl (un.keep b o e q (by intro z; exact absurd (show b ∈ ([]:List Addr) from z) (by simp)) (by simp))
          | some u =>
            rcases hH b u q with ⟨rfl,_,ob,xs,rfl⟩ | ⟨qq,rfl,hm⟩
            · obtain ⟨e1,_⟩:=hok b _ q
              obtain ⟨e2,_⟩:=hok' b _ (un.frzs b ob _ q)
              rw [e] at e1; cases e1
              exact .inl e2
            · exact .inr ⟨qq,rfl⟩
        refine ⟨rfl,⟨fun b o e=>?_,fun b o e=>?_⟩,os,bare⟩
        · rcases kp b o e with z | ⟨qq,z⟩
          · exact .inl z
          · rcases hH b _ z with ⟨_,_,ob,xs,z2⟩ | ⟨q2,z2,hm⟩
            · cases z2
            · obtain ⟨c,C,e2⟩:=tabH _ hm
              have e2:s₁.heap.get? b=some (tabObj #[]):=e2
              rw [e] at e2
              cases e2
              obtain ⟨ps,e3,_⟩:=hok' b _ (un.tbls b _ z)
              have C:CodeHd s₁.heap c b:=C
              exact .inr (.inl ⟨(C.tab e).isCodeTable,rfl, #[],ps,rfl,by simpa using e3⟩)
        · rcases kp b o e with z | ⟨qq,z⟩
          · exact ⟨o,z⟩
          · obtain ⟨ps,e3,_⟩:=hok' b _ (un.tbls b _ z)
            exact ⟨_,e3⟩
  have tabO:∀ (H:Hp) (p:Addr × Str),p ∈ tbOf K names→ObjOk P w H s₁.heap p.1 (.tbl p.2):=fun H p hp=>by
    obtain ⟨c,_,e⟩:=tabH p hp
    exact ⟨#[],e,trivial,fun pos cv z=>by cases z⟩
  have lk:∀ b q,(tbOf K names).lookup b=some q→(b,q) ∈ tbOf K names:=fun b q e=>mem_lookN e
  have aT:∀ q,(a,q) ∈ tbOf K names→False:=fun q hm=>by
    obtain ⟨c,_,e⟩:=tabH _ hm
    have e:s₁.heap.get? a=some (tabObj #[]):=e
    rw [ha] at e; cases e
  cases hk:K.lookup a with
  | some o =>
    have e:=KX a o hk
    rw [ha] at e
    cases e
    refine core (fun b=>((tbOf K names).lookup b).map HO.tbl) (.inr ⟨_,vs.toArray,_,hk,rfl,rfl,rfl,by rw [List.size_toArray,lenV]; exact hl,by simpa using rv⟩) (fun b u z=>?_) (fun p hp=>by simp only [(hn p hp).1,Option.map_some]) fun b u z=>?_
    · cases q:(tbOf K names).lookup b with
      | none=>simp only [q] at z; cases z
      | some qq=>simp only [q] at z; cases z; exact tabO _ _ (lk b qq q)
    · cases q:(tbOf K names).lookup b with
      | none=>simp only [q] at z; cases z
      | some qq=>simp only [q] at z; cases z; exact .inr ⟨qq,rfl,lk b qq q⟩
  | none =>
    refine core (fun b=>if b=a then some (.frz { cls := .type "list",data := .seq vs.toArray } (.lst (ns.map V.int))) else ((tbOf K names).lookup b).map HO.tbl) (.inl (.inr ⟨{ cls := .type "list",data := .seq vs.toArray },if_pos rfl⟩)) (fun b u z=>?_) (fun p hp=>?_) fun b u z=>?_
    · by_cases hb:b=a
      · have z':=(if_pos hb).symm.trans z
        cases z'
        subst hb
        exact ⟨ha,by rw [List.length_map]; exact hl,vs,_,rv,ha⟩
      · have z':=(if_neg hb).symm.trans z
        cases q:(tbOf K names).lookup b with
        | none=>simp only [q] at z'; cases z'
        | some qq=>simp only [q] at z'; cases z'; exact tabO _ _ (lk b qq q)
    · have:p.1 ≠ a:=fun e=>aT p.2 (by rw [← e]; exact hp)
      simp only [this,if_false,(hn p hp).1,Option.map_some]
    · by_cases hb:b=a
      · have z':=(if_pos hb).symm.trans z
        cases z'
        exact .inl ⟨hb,hk,_,_,rfl⟩
      · have z':=(if_neg hb).symm.trans z
        cases q:(tbOf K names).lookup b with
        | none=>simp only [q] at z'; cases z'
        | some qq=>simp only [q] at z'; cases z'; exact .inr ⟨qq,rfl,lk b qq q⟩
end L2
namespace L2
open PySem PySem.W PyProof.Rows
theorem walk_ofT {l:PySem.W.OpenLaw} {n k:Nat} {q:Program} {loose:List Str} {XP:(Str→Option Value)→Heap→Prop} {YP:World→Heap→Prop} {d:DefRec} {K:Params→PySem.W.Frag} {CX:World→CXT} {sp:World→Sp} {x:Str} {names:List Str}
    (hn:l.most=some n) (hn2:n ≤ sizeLine) (hdf:d.params.defaults=[]) (hr:Room k callerA)
    (hY:∀ (w:World) (h:Heap),YP w h→(K w.params).In h) (hrec:∀ x ∈ names, ∃ dr,(recsOf q).find? (fun e=>e.name == x)=some dr)
    (F:∀ (w:World) (mg:Str→Option Value) (fa:Addr) (h:Heap),(K w.params).In h→h.Ns mainGlobals mg→mg d.name=some (.ref fa) →
      TbOk (K w.params) names∧∃ fd:FuncData,(∀ (s:Shared) (u:Value),BindsTo s fd ⟨[u],[]⟩ [(x,u)]) ∧
        ∀ base:BHeap,base.tabs=tbOf (K w.params) names→(K w.params).In base→base.Ns mainGlobals mg→(∀ x ∈ names, ∀ c P,tabIn (K w.params) x=some (c,P)→CodeHd base c P)→FnOk l.prog w (K w.params) mg base (CX w) k fa fd [x] (sp w))
    (hsp:∀ (w:World) (H:Hp) (a:Addr) (ns:List Int),ns.length ≤ n→(∀ i ∈ ns,i.natAbs < bndS)→SqL (K w.params) H a (ns.map V.int)→sp w [.ref a] H (fun v _=>v = .bl true) fun _ _ _=>False)
    (hCX:∀ (w:World) (H:Hp) (s:Shared) (e:Value) (s':Shared),CX w [] H s (fun _ _ _=>False) e s'→False) :
    PySem.W.WalkO q loose XP YP l.row.toRowW d [] (fun f vs=>PySem.call f vs):=by
  intro w s₀ s₁ mg mb G Y fa o pm cd doc dV kV ho hd hcd hD hmg hg args vals as hpre hlay hrd hwl hlo
  obtain rfl:dV = .none:=Dflts.none hD hdf
  obtain rfl:kV = .none:=Dflts.noKw hD
  obtain ⟨a,vs,ns,rfl,rfl,hobj,hints,hlen⟩:=Att.script_of hn hpre hwl
  have hb:=bnd_of hlay
  have KX:=hY w _ Y
  obtain ⟨hok,fd,hbd,hF⟩:=F w mg fa _ KX G.T.g hmg
  refine enter_call (codeAny_mono (law_callT KX G.T.g G.T.b G.T.builtins G.T.nolimit G.T.bmain hg hobj hints (Nat.le_trans hlen hn2) hr (fun x hx c P e=>by
    obtain ⟨dr,h⟩:=hrec x hx
    exact tab_of G.T KX h e) hok hF hbd (fun H hS=>hsp w H a ns hlen hb hS) fun H e s'=>hCX w H s₁ e s') fun r s' hq=>?_)
  obtain ⟨rfl,h2,h3,h4⟩:=hq
  exact ⟨.inl ⟨.bool true, .bool true,[],rfl,fun _=>rfl, .bool true,Att.post_true l _,fun _=>⟨List.Pairwise.nil,fun _ hm=>(nomatch hm)⟩⟩,h2,h3,h4⟩
end L2
namespace DL
open PySem PySem.Spec PyProof.Rows L2
theorem RS.putOwned {K:PySem.W.Frag} {F A:List Addr} {H:Hp} {t:Th} {σ:L2.St} {i:Nat} {d:D} {v:V} {B:List Addr} (R:RS K (B ++ F) H A t σ) (nb:B.Nodup) (dj:∀ b ∈ B,b ∉ F) (r:RepD K (hide (A ++ (B ++ F)) H) H d v B) (hi:i < t.length) :
    ∃ A',(∀ x ∈ A',x ∈ B ∨ x ∈ A)∧RS K F H A' (t.set i (.dp d)) (σ.set i (some v)):=by
  have lb:=r.lists
  obtain ⟨A2,r2,sub2,nd2⟩:=RSl.setAny (s := .dp d) (v:=v) (B:=B) (fun q => .dp r q) i R.rel hi
  refine ⟨A2,sub2,⟨fun p hp=>?_,nd2 R.nd nb (fun b hb z=>R.dj b z (List.mem_append_left _ hb)),fun p hp=>?_,RSl.mono (hide_less H fun x hx=>?_) r2 fun _ _ _ w=>w⟩⟩
  · rcases List.mem_append.mp hp with z | z
    · rcases sub2 p z with w | w
      · exact lb p w
      · exact R.mu p (List.mem_append_left _ w)
    · exact R.mu p (List.mem_append_right _ (List.mem_append_right _ z))
  · rcases sub2 p hp with w | w
    · exact dj p w
    · exact fun z=>R.dj p w (List.mem_append_right _ z)
  · rcases List.mem_append.mp hx with z | z
    · rcases sub2 x z with w | w
      · exact List.mem_append_right _ (List.mem_append_left _ w)
      · exact List.mem_append_left _ w
    · exact List.mem_append_right _ (List.mem_append_right _ z)
theorem RS.less {K:PySem.W.Frag} {F F' A:List Addr} {H:Hp} {t:Th} {σ:L2.St} (R:RS K F H A t σ) (h:∀ b ∈ F',b ∈ F):RS K F' H A t σ :=
  ⟨fun p hp=>R.mu p ((List.mem_append.mp hp).elim (List.mem_append_left _) fun z=>List.mem_append_right _ (h p z)),R.nd,fun p hp z=>R.dj p hp (h p z),
    RSl.mono (hide_less H fun x hx=>(List.mem_append.mp hx).elim (List.mem_append_left _) fun z=>List.mem_append_right _ (h x z)) R.rel fun _ _ _ w=>w⟩
theorem RSl.loseDp {K:PySem.W.Frag} {H0 H:Hp}:∀ {t:Th} {σ:L2.St} {A:List Addr},RSl K H0 H t σ A→A.Nodup→∀ {i:Nat} {d:D},t[i]?=some (.dp d)→∃ v B A',σ[i]?=some (some v)∧RepD K H0 H d v B∧RSl K H0 H (t.set i .no) σ A'∧(∀ x ∈ A',x ∈ A)∧(∀ x ∈ B,x ∈ A)∧(∀ x ∈ A,x ∈ B ∨ x ∈ A')∧B.Nodup∧A'.Nodup∧(∀ x ∈ A',x ∉ B)
  | _,_,_, .nil,n,i,d,e=>by simp at e
  | _,_,_, .no r,n,0,d,e=>by simp at e
  | _,_,_, .val h r,n,0,d,e=>by simp at e
  | _,_,_, .own _ _ r,n,0,d,e=>by simp at e
  | _,_,_, .dp (v:=v) (B:=B) (A:=A) h r,n,0,d,e=>by
    simp at e; subst e
    have n0:=List.nodup_append.mp n
    exact ⟨v,B,A,rfl,h, .no r,fun x hx=>List.mem_append_right _ hx,fun x hx=>List.mem_append_left _ hx,fun x hx=>List.mem_append.mp hx,n0.1,n0.2.1,fun x hx z=>n0.2.2 x z x hx rfl⟩
  | _,_,_, .no r,n,i + 1,d,e=>by
    obtain ⟨v,B,A',a1,a2,a3,a4⟩:=RSl.loseDp r n (i:=i) (d:=d) (by simpa using e)
    exact ⟨v,B,A',by simpa using a1,a2, .no a3,a4⟩
  | _,_,_, .val h r,n,i + 1,d,e=>by
    obtain ⟨v,B,A',a1,a2,a3,a4⟩:=RSl.loseDp r n (i:=i) (d:=d) (by simpa using e)
    exact ⟨v,B,A',by simpa using a1,a2, .val h a3,a4⟩
  | _,_,_, .own (p:=p) h1 h2 r,n,i + 1,d,e=>by
    have n0:=List.nodup_cons.mp n
    obtain ⟨v,B,A',a1,a2,a3,a4,a5,a6,a7,a8,a9⟩:=RSl.loseDp r n0.2 (i:=i) (d:=d) (by simpa using e)
    refine ⟨v,B,p :: A',by simpa using a1,a2, .own h1 h2 a3,fun x hx=>?_,fun x hx=>List.mem_cons_of_mem _ (a5 x hx),fun x hx=>?_,a7,List.nodup_cons.mpr ⟨fun z=>n0.1 (a4 p z),a8⟩,fun x hx z=>?_⟩
    · rcases List.mem_cons.mp hx with w | w
      · rw [w]; exact List.mem_cons_self ..
      · exact List.mem_cons_of_mem _ (a4 x w)
    · rcases List.mem_cons.mp hx with w | w
      · rw [w]; exact .inr (List.mem_cons_self ..)
      · exact (a6 x w).imp id (List.mem_cons_of_mem _)
    · rcases List.mem_cons.mp hx with w | w
      · exact n0.1 (w ▸ a5 x z)
      · exact a9 x w z
  | _,_,_, .dp (B:=C) h r,n,i + 1,d,e=>by
    have n0:=List.nodup_append.mp n
    obtain ⟨v,B,A',a1,a2,a3,a4,a5,a6,a7,a8,a9⟩:=RSl.loseDp r n0.2.1 (i:=i) (d:=d) (by simpa using e)
    refine ⟨v,B,C ++ A',by simpa using a1,a2, .dp h a3,fun x hx=>?_,fun x hx=>List.mem_append_right _ (a5 x hx),fun x hx=>?_,a7,List.nodup_append.mpr ⟨n0.1,a8,fun x hx y hy e=>n0.2.2 x hx y (a4 y hy) e⟩,fun x hx z=>?_⟩
    · rcases List.mem_append.mp hx with w | w
      · exact List.mem_append_left _ w
      · exact List.mem_append_right _ (a4 x w)
    · rcases List.mem_append.mp hx with w | w
      · exact .inr (List.mem_append_left _ w)
      · exact (a6 x w).imp id (List.mem_append_right _)
    · rcases List.mem_append.mp hx with w | w
      · exact n0.2.2 x w x (a5 x z) rfl
      · exact a9 x w z
theorem RS.takeDp {K:PySem.W.Frag} {F A:List Addr} {H:Hp} {t:Th} {σ:L2.St} {i:Nat} {d:D} (R:RS K F H A t σ) (e:t[i]?=some (.dp d)) :
    ∃ v B A',σ[i]?=some (some v)∧RS K (B ++ F) H A' (t.set i .no) σ∧B.Nodup∧(∀ b ∈ B,b ∉ F)∧RepD K (hide (A' ++ (B ++ F)) H) H d v B∧(∀ x ∈ A',x ∈ A)∧(∀ x ∈ B,x ∈ A):=by
  obtain ⟨v,B,A',a1,a2,a3,a4,a5,a6,a7,a8,a9⟩:=R.rel.loseDp R.nd e
  have s:Same (hide (A ++ F) H) (hide (A' ++ (B ++ F)) H):=hide_less H fun x hx=>by
    rcases List.mem_append.mp hx with z | z
    · exact List.mem_append_left _ (a4 x z)
    · rcases List.mem_append.mp z with z | z
      · exact List.mem_append_left _ (a5 x z)
      · exact List.mem_append_right _ z
  refine ⟨v,B,A',a1,⟨fun p hp=>?_,a8,fun p hp z=>?_,RSl.mono s a3 fun _ _ _ w=>w⟩,a7,fun b hb=>R.dj b (a5 b hb),RepD.mono s a2 fun _ _ _ w=>w,a4,a5⟩
  · rcases List.mem_append.mp hp with z | z
    · exact R.mu p (List.mem_append_left _ (a4 p z))
    · rcases List.mem_append.mp z with z | z
      · exact R.mu p (List.mem_append_left _ (a5 p z))
      · exact R.mu p (List.mem_append_right _ z)
  · rcases List.mem_append.mp z with z | z
    · exact a9 p hp z
    · exact R.dj p (a4 p hp) z
abbrev DM:=Th→Option (D × Th)
abbrev DMs:=Th→Option (List D × Th)
structure Mv (K:PySem.W.Frag) (F A:List Addr) (H H':Hp) (B A':List Addr) (t':Th) (σ:L2.St):Prop where
  sm:Same H H'
  nd:B.Nodup
  dj:∀ b ∈ B,b ∉ F
  rs:RS K (B ++ F) H' A' t' σ
  fr:∀ b ∈ B,b ∈ A ∨ H b=none
  sb:∀ b ∈ A',b ∈ A
theorem RSl.loseOwn {K:PySem.W.Frag} {H0 H:Hp}:∀ {t:Th} {σ:L2.St} {A:List Addr},RSl K H0 H t σ A→A.Nodup→∀ {i:Nat} {ds:List D},t[i]?=some (.own ds)→∃ p vs A',σ[i]?=some (some (.ref p))∧H p=some (.lst vs)∧Reps K H0 ds vs∧RSl K H0 H (t.set i .no) σ A'∧(∀ x ∈ A',x ∈ A)∧p ∈ A∧(∀ x ∈ A,x=p ∨ x ∈ A')∧A'.Nodup∧p ∉ A'
  | _,_,_, .nil,n,i,d,e=>by simp at e
  | _,_,_, .no r,n,0,d,e=>by simp at e
  | _,_,_, .val h r,n,0,d,e=>by simp at e
  | _,_,_, .dp _ r,n,0,d,e=>by simp at e
  | _,_,_, .own (p:=p) (vs:=vs) (A:=A) h1 h2 r,n,0,d,e=>by
    simp at e; subst e
    have n0:=List.nodup_cons.mp n
    exact ⟨p,vs,A,rfl,h1,h2, .no r,fun x hx=>List.mem_cons_of_mem _ hx,List.mem_cons_self ..,fun x hx=>List.mem_cons.mp hx,n0.2,n0.1⟩
  | _,_,_, .no r,n,i + 1,d,e=>by
    obtain ⟨v,B,A',a1,a2,a2',a3,a4⟩:=RSl.loseOwn r n (i:=i) (ds:=d) (by simpa using e)
    exact ⟨v,B,A',by simpa using a1,a2,a2', .no a3,a4⟩
  | _,_,_, .val h r,n,i + 1,d,e=>by
    obtain ⟨v,B,A',a1,a2,a2',a3,a4⟩:=RSl.loseOwn r n (i:=i) (ds:=d) (by simpa using e)
    exact ⟨v,B,A',by simpa using a1,a2,a2', .val h a3,a4⟩
  | _,_,_, .own (p:=q) h1 h2 r,n,i + 1,d,e=>by
    have n0:=List.nodup_cons.mp n
    obtain ⟨p,vs,A',a1,a2,a2',a3,a4,a5,a6,a7,a8⟩:=RSl.loseOwn r n0.2 (i:=i) (ds:=d) (by simpa using e)
    refine ⟨p,vs,q :: A',by simpa using a1,a2,a2', .own h1 h2 a3,fun x hx=>?_,List.mem_cons_of_mem _ a5,fun x hx=>?_,List.nodup_cons.mpr ⟨fun z=>n0.1 (a4 q z),a7⟩,fun z=>?_⟩
    · rcases List.mem_cons.mp hx with w | w
      · rw [w]; exact List.mem_cons_self ..
      · exact List.mem_cons_of_mem _ (a4 x w)
    · rcases List.mem_cons.mp hx with w | w
      · rw [w]; exact .inr (List.mem_cons_self ..)
      · exact (a6 x w).imp id (List.mem_cons_of_mem _)
    · rcases List.mem_cons.mp z with w | w
      · exact n0.1 (w ▸ a5)
      · exact a8 w
  | _,_,_, .dp (B:=C) h r,n,i + 1,d,e=>by
    have n0:=List.nodup_append.mp n
    obtain ⟨p,vs,A',a1,a2,a2',a3,a4,a5,a6,a7,a8⟩:=RSl.loseOwn r n0.2.1 (i:=i) (ds:=d) (by simpa using e)
    refine ⟨p,vs,C ++ A',by simpa using a1,a2,a2', .dp h a3,fun x hx=>?_,List.mem_append_right _ a5,fun x hx=>?_,List.nodup_append.mpr ⟨n0.1,a7,fun x hx y hy e=>n0.2.2 x hx y (a4 y hy) e⟩,fun z=>?_⟩
    · rcases List.mem_append.mp hx with w | w
      · exact List.mem_append_left _ w
      · exact List.mem_append_right _ (a4 x w)
    · rcases List.mem_append.mp hx with w | w
      · exact .inr (List.mem_append_left _ w)
      · exact (a6 x w).imp id (List.mem_append_right _)
    · rcases List.mem_append.mp z with w | w
      · exact n0.2.2 p w p a5 rfl
      · exact a8 w
theorem RS.takeOwn {K:PySem.W.Frag} {F A:List Addr} {H:Hp} {t:Th} {σ:L2.St} {i:Nat} {ds:List D} (R:RS K F H A t σ) (e:t[i]?=some (.own ds)) :
    ∃ p vs A',σ[i]?=some (some (.ref p))∧RS K ([p] ++ F) H A' (t.set i .no) σ∧p ∉ F∧H p=some (.lst vs)∧Reps K (hide (A' ++ ([p] ++ F)) H) ds vs∧(∀ x ∈ A',x ∈ A)∧p ∈ A:=by
  obtain ⟨p,vs,A',a1,a2,a2',a3,a4,a5,a6,a7,a8⟩:=R.rel.loseOwn R.nd e
  have s:Same (hide (A ++ F) H) (hide (A' ++ ([p] ++ F)) H):=hide_less H fun x hx=>by
    rcases List.mem_append.mp hx with z | z
    · exact List.mem_append_left _ (a4 x z)
    · rcases List.mem_append.mp z with z | z
      · rw [List.mem_singleton.mp z]; exact List.mem_append_left _ a5
      · exact List.mem_append_right _ z
  refine ⟨p,vs,A',a1,⟨fun q hp=>?_,a7,fun q hp z=>?_,RSl.mono s a3 fun _ _ _ w=>w⟩,R.dj p a5,a2,Reps.mono s a2',a4,a5⟩
  · rcases List.mem_append.mp hp with z | z
    · exact R.mu q (List.mem_append_left _ (a4 q z))
    · rcases List.mem_append.mp z with z | z
      · rw [List.mem_singleton.mp z]; exact R.mu p (List.mem_append_left _ a5)
      · exact R.mu q (List.mem_append_right _ z)
  · rcases List.mem_append.mp z with z | z
    · rw [List.mem_singleton.mp z] at hp; exact a8 hp
    · exact R.dj q (a4 q hp) z
end DL
namespace TS
open PySem PyProof.Rows
section
variable (κ π:Keyed→Int)
def rk (x:Keyed):Int:=κ x * 1048576 + π x
def Ris (l:List Keyed):Prop:=l.Pairwise fun a b=>rk κ π a ≤ rk κ π b
def Below (l m:List Keyed):Prop := ∀ a ∈ l, ∀ b ∈ m,rk κ π a ≤ rk κ π b
variable {κ π}
theorem ris_app {l m:List Keyed} (h1:Ris κ π l) (h2:Ris κ π m) (h:Below κ π l m):Ris κ π (l ++ m):=List.pairwise_append.mpr ⟨h1,h2,h⟩
theorem ris_left {l m:List Keyed} (h:Ris κ π (l ++ m)):Ris κ π l:=(List.pairwise_append.mp h).1
theorem ris_right {l m:List Keyed} (h:Ris κ π (l ++ m)):Ris κ π m:=(List.pairwise_append.mp h).2.1
theorem ris_below {l m:List Keyed} (h:Ris κ π (l ++ m)):Below κ π l m:=(List.pairwise_append.mp h).2.2
theorem below_nil {l:List Keyed}:Below κ π l []:=fun _ _ b hb=>by cases hb
theorem nil_below {l:List Keyed}:Below κ π [] l:=fun _ ha=>by cases ha
theorem below_app {l m n:List Keyed} (h1:Below κ π l n) (h2:Below κ π m n):Below κ π (l ++ m) n:=fun a ha b hb=>(List.mem_append.mp ha).elim (fun z=>h1 a z b hb) fun z=>h2 a z b hb
theorem app_below {l m n:List Keyed} (h1:Below κ π l m) (h2:Below κ π l n):Below κ π l (m ++ n):=fun a ha b hb=>(List.mem_append.mp hb).elim (fun z=>h1 a ha b z) fun z=>h2 a ha b z
theorem below_sub {l m n:List Keyed} (h:Below κ π l m) (hs:∀ b ∈ n,b ∈ m):Below κ π l n:=fun a ha b hb=>h a ha b (hs b hb)
theorem sub_below {l m n:List Keyed} (h:Below κ π l m) (hs:∀ a ∈ n,a ∈ l):Below κ π n m:=fun a ha b hb=>h a (hs a ha) b hb
theorem ris_drop {l:List Keyed} (h:Ris κ π l) (n:Nat):Ris κ π (l.drop n):=by
  have:=List.take_append_drop n l
  rw [← this] at h
  exact ris_right h
theorem ris_take {l:List Keyed} (h:Ris κ π l) (n:Nat):Ris κ π (l.take n):=by
  have:=List.take_append_drop n l
  rw [← this] at h
  exact ris_left h
theorem take_drop_below {l:List Keyed} (h:Ris κ π l) (n:Nat):Below κ π (l.take n) (l.drop n):=by
  have:=List.take_append_drop n l
  rw [← this] at h
  exact ris_below h
theorem take_add' {α:Type} (l:List α) (i k:Nat):l.take (i + k)=l.take i ++ (l.drop i).take k:=List.take_add
structure Lo (X Y out:List Keyed) (i j:Nat):Prop where
  pm:out.Perm (X.take i ++ Y.take j)
  rs:Ris κ π out
  bx:Below κ π out (X.drop i)
  by':Below κ π out (Y.drop j)
variable {X Y out:List Keyed} {i j:Nat}
theorem Lo.x (h:Lo (κ:=κ) (π:=π) X Y out i j) (hX:Ris κ π X) (k:Nat) (hk:Below κ π ((X.drop i).take k) (Y.drop j)):Lo (κ:=κ) (π:=π) X Y (out ++ (X.drop i).take k) (i + k) j where
  pm:=by
    rw [take_add']
    refine (List.Perm.append_right _ h.pm).trans ?_
    rw [List.append_assoc,List.append_assoc]
    exact List.Perm.append_left _ List.perm_append_comm
  rs:=ris_app h.rs (ris_take (ris_drop hX i) k) (below_sub h.bx fun b hb=>List.mem_of_mem_take hb)
  bx:=by
    rw [← List.drop_drop]
    refine below_app (below_sub h.bx fun b hb=>List.mem_of_mem_drop hb) (take_drop_below (ris_drop hX i) k)
  by':=below_app h.by' hk
theorem Lo.y (h:Lo (κ:=κ) (π:=π) X Y out i j) (hY:Ris κ π Y) (k:Nat) (hk:Below κ π ((Y.drop j).take k) (X.drop i)):Lo (κ:=κ) (π:=π) X Y (out ++ (Y.drop j).take k) i (j + k) where
  pm:=by
    rw [take_add', ← List.append_assoc]
    exact List.Perm.append_right _ h.pm
  rs:=ris_app h.rs (ris_take (ris_drop hY j) k) (below_sub h.by' fun b hb=>List.mem_of_mem_take hb)
  by':=by
    rw [← List.drop_drop]
    refine below_app (below_sub h.by' fun b hb=>List.mem_of_mem_drop hb) (take_drop_below (ris_drop hY j) k)
  bx:=below_app h.bx hk
theorem Lo.endX (h:Lo (κ:=κ) (π:=π) X Y out i j) (hX:Ris κ π X) (hj:Y.length ≤ j):Ris κ π (out ++ X.drop i)∧(out ++ X.drop i).Perm (X ++ Y):=by
  refine ⟨ris_app h.rs (ris_drop hX i) h.bx,?_⟩
  refine (List.Perm.append_right _ h.pm).trans ?_
  rw [List.take_of_length_le hj,List.append_assoc]
  refine (List.Perm.append_left _ List.perm_append_comm).trans ?_
  rw [← List.append_assoc,List.take_append_drop]
theorem Lo.endY (h:Lo (κ:=κ) (π:=π) X Y out i j) (hY:Ris κ π Y) (hi:X.length ≤ i):Ris κ π (out ++ Y.drop j)∧(out ++ Y.drop j).Perm (X ++ Y):=by
  refine ⟨ris_app h.rs (ris_drop hY j) h.by',?_⟩
  refine (List.Perm.append_right _ h.pm).trans ?_
  rw [List.take_of_length_le hi,List.append_assoc,List.take_append_drop]
theorem Lo.last (h:Lo (κ:=κ) (π:=π) X Y out i j) (hX:Ris κ π X) (hY:Ris κ π Y) (hl:Below κ π (Y.drop j) (X.drop i)):Ris κ π (out ++ Y.drop j ++ X.drop i)∧(out ++ Y.drop j ++ X.drop i).Perm (X ++ Y):=by
  refine ⟨ris_app (ris_app h.rs (ris_drop hY j) h.by') (ris_drop hX i) (below_app h.bx hl),?_⟩
  refine (List.Perm.append_right _ (List.Perm.append_right _ h.pm)).trans ?_
  rw [List.append_assoc,List.append_assoc, ← List.append_assoc (Y.take j),List.take_append_drop]
  refine (List.Perm.append_left _ List.perm_append_comm).trans ?_
  rw [← List.append_assoc,List.take_append_drop]
theorem drop_split {α:Type} {l:List α} {i k:Nat} (h:k ≤ i):l.drop k=(l.take i).drop k ++ l.drop i:=by
  have e:=List.take_append_drop (i - k) (l.drop k)
  rw [List.drop_drop,show k + (i - k)=i by omega] at e
  rw [List.drop_take,e]
structure Hi (X Y out:List Keyed) (i j:Nat):Prop where
  pm:out.Perm (X.drop i ++ Y.drop j)
  rs:Ris κ π out.reverse
  bx:Below κ π (X.take i) out
  by':Below κ π (Y.take j) out
theorem rev_below {l m:List Keyed} (h:Below κ π l m):Below κ π l m.reverse:=fun a ha b hb=>h a ha b (List.mem_reverse.mp hb)
theorem Hi.x (h:Hi (κ:=κ) (π:=π) X Y out i j) (hX:Ris κ π X) (k:Nat) (hki:k ≤ i) (hk:Below κ π (Y.take j) ((X.take i).drop k)):Hi (κ:=κ) (π:=π) X Y (out ++ ((X.take i).drop k).reverse) k j where
  pm:=by
    rw [drop_split (l:=X) hki]
    refine (List.Perm.append h.pm (List.reverse_perm _)).trans ?_
    refine List.perm_append_comm.trans ?_
    rw [List.append_assoc]
  rs:=by
    rw [List.reverse_append,List.reverse_reverse]
    refine ris_app (ris_drop (ris_take hX i) k) h.rs (rev_below (sub_below h.bx fun a ha=>List.mem_of_mem_drop ha))
  bx:=by
    have e:X.take k=(X.take i).take k:=by rw [List.take_take]; congr 1; omega
    rw [e]
    refine app_below (sub_below h.bx fun a ha=>List.mem_of_mem_take ha) (rev_below (take_drop_below (ris_take hX i) k))
  by':=app_below h.by' (rev_below hk)
theorem Hi.y (h:Hi (κ:=κ) (π:=π) X Y out i j) (hY:Ris κ π Y) (k:Nat) (hkj:k ≤ j) (hk:Below κ π (X.take i) ((Y.take j).drop k)):Hi (κ:=κ) (π:=π) X Y (out ++ ((Y.take j).drop k).reverse) i k where
  pm:=by
    rw [drop_split (l:=Y) hkj]
    refine (List.Perm.append h.pm (List.reverse_perm _)).trans ?_
    rw [List.append_assoc]
    exact List.Perm.append_left _ List.perm_append_comm
  rs:=by
    rw [List.reverse_append,List.reverse_reverse]
    refine ris_app (ris_drop (ris_take hY j) k) h.rs (rev_below (sub_below h.by' fun a ha=>List.mem_of_mem_drop ha))
  by':=by
    have e:Y.take k=(Y.take j).take k:=by rw [List.take_take]; congr 1; omega
    rw [e]
    refine app_below (sub_below h.by' fun a ha=>List.mem_of_mem_take ha) (rev_below (take_drop_below (ris_take hY j) k))
  bx:=app_below h.bx (rev_below hk)
theorem Hi.endY (h:Hi (κ:=κ) (π:=π) X Y out i j) (hY:Ris κ π Y) (hi:i=0):Ris κ π (Y.take j ++ out.reverse)∧(Y.take j ++ out.reverse).Perm (X ++ Y):=by
  subst hi
  refine ⟨ris_app (ris_take hY j) h.rs (rev_below h.by'),?_⟩
  refine (List.Perm.append_left _ ((List.reverse_perm _).trans h.pm)).trans ?_
  refine List.perm_append_comm.trans ?_
  rw [List.append_assoc]
  refine List.Perm.append_left _ (List.perm_append_comm.trans ?_)
  rw [List.take_append_drop]
theorem Hi.endX (h:Hi (κ:=κ) (π:=π) X Y out i j) (hX:Ris κ π X) (hj:j=0):Ris κ π (X.take i ++ out.reverse)∧(X.take i ++ out.reverse).Perm (X ++ Y):=by
  subst hj
  refine ⟨ris_app (ris_take hX i) h.rs (rev_below h.bx),?_⟩
  refine (List.Perm.append_left _ ((List.reverse_perm _).trans h.pm)).trans ?_
  rw [← List.append_assoc,List.take_append_drop]
  simp
theorem Hi.first (h:Hi (κ:=κ) (π:=π) X Y out i j) (hX:Ris κ π X) (hY:Ris κ π Y) (hl:Below κ π (Y.take j) (X.take i)):Ris κ π (Y.take j ++ X.take i ++ out.reverse)∧(Y.take j ++ X.take i ++ out.reverse).Perm (X ++ Y):=by
  refine ⟨ris_app (ris_app (ris_take hY j) (ris_take hX i) hl) h.rs (below_app (rev_below h.by') (rev_below h.bx)),?_⟩
  refine (List.Perm.append_left _ ((List.reverse_perm _).trans h.pm)).trans ?_
  rw [List.append_assoc, ← List.append_assoc (X.take i),List.take_append_drop, ← List.append_assoc]
  refine (List.Perm.append_right _ List.perm_append_comm).trans ?_
  rw [List.append_assoc,List.take_append_drop]
end
end TS
namespace TS
open PySem PyProof.Rows
def gal':Bool→Keyed→Array Keyed→Nat→Nat→Nat→StateT SortSt Sem (Option Nat):=sortPriv% PySem.Builtin.gallop
def bey (lf:Bool) (ky:Keyed) (ar:Array Keyed) (bs i:Nat):StateT SortSt Sem (Option Bool):=do
  let z ← elem' ar (bs + i)
  if lf then lt' z ky else return (← lt' ky z).map (!·)
def galEnd (lf:Bool) (ky:Keyed) (ar:Array Keyed) (bs m l0 u0:Nat):StateT SortSt Sem (Option Nat):=do
  let mut lw:=l0
  let mut up:=u0
  for _ in [0:m] do
    if lw ≥ up then break
    let md:=lw + (up - lw) / 2
    let some mr ← bey lf ky ar bs md | return none
    if mr then lw:=md + 1 else up:=md
  return some up
theorem gal'_eq (lf:Bool) (ky:Keyed) (ar:Array Keyed) (bs m ht:Nat):gal' lf ky ar bs m ht=(do
  let mut la:=0
  let mut of1:=1
  let mut lw:=0
  let mut up:=0
  let some rt ← bey lf ky ar bs ht | return none
  if rt then
    let mx:=m - ht
    for _ in [0:m] do
      if of1 ≥ mx then break
      let some mr ← bey lf ky ar bs (ht + of1) | return none
      if !mr then break
      la:=of1
      of1:=2 * of1 + 1
    lw:=ht + la + 1
    up:=ht + min of1 mx
  else
    let mx:=ht + 1
    for _ in [0:m] do
      if of1 ≥ mx then break
      let some fd ← bey lf ky ar bs (ht - of1) | return none
      if fd then break
      la:=of1
      of1:=2 * of1 + 1
    lw:=ht + 1 - min of1 mx
    up:=ht - la
  for _ in [0:m] do
    if lw ≥ up then break
    let md:=lw + (up - lw) / 2
    let some mr ← bey lf ky ar bs md | return none
    if mr then lw:=md + 1 else up:=md
  return some up):=rfl
structure Cmp (M:Model) (A:Around) (E:Value→Shared→Prop) (s:Shared) (κ π:Keyed→Int) (a₀:Array Keyed) (kd:SortKind):Prop where
  lt:∀ (st:SortSt) (x y:Keyed) (Q:Option Bool→SortSt→Prop),kindOf st=kd→x ∈ a₀.toList→y ∈ a₀.toList→Q (some (decide (κ x < κ y))) st→wpS M A E s (lt' x y) Q st
  pi:∀ x ∈ a₀.toList,0 ≤ π x∧π x < 1048576
section
variable {M:Model} {A:Around} {E:Value→Shared→Prop} {s:Shared} {κ π:Keyed→Int} {a₀:Array Keyed} {kd:SortKind} (C:Cmp M A E s κ π a₀ kd)
theorem wp_elem {ar:Array Keyed} {i:Nat} {z:Keyed} {Q:Keyed→SortSt→Prop} {st:SortSt} (hz:ar[i]?=some z) (h:Q z st):wpS M A E s (elem' ar i) Q st:=by
  rw [elem'_eq,hz]; exact wpS_pure h
def bv (κ:Keyed→Int) (lf:Bool) (ky z:Keyed):Bool:=if lf then decide (κ z < κ ky) else !decide (κ ky < κ z)
include C in
theorem wp_bey {lf:Bool} {ky z:Keyed} {ar:Array Keyed} {bs i:Nat} {Q:Option Bool→SortSt→Prop} {st:SortSt} (hk:kindOf st=kd) (hz:ar[bs + i]?=some z) (mz:z ∈ a₀.toList) (mk:ky ∈ a₀.toList) (h:Q (some (bv κ lf ky z)) st) :
    wpS M A E s (bey lf ky ar bs i) Q st:=by
  unfold bey
  refine wpS_bind (wp_elem hz ?_)
  cases lf with
  | true=>exact C.lt st z ky Q hk mz mk h
  | false=>exact wpS_bind (C.lt st ky z _ hk mk mz (wpS_pure h))
include C in
theorem wp_gal {lf:Bool} {ky:Keyed} {ar:Array Keyed} {bs m ht:Nat} {Q:Option Nat→SortSt→Prop} {st:SortSt} (hk:kindOf st=kd) (f:Nat→Bool) (hz:∀ i,i < m→∃ z,ar[bs + i]?=some z∧z ∈ a₀.toList∧bv κ lf ky z=f i) (mk:ky ∈ a₀.toList)
    (mono:∀ i j,i ≤ j→j < m→f j=true→f i=true) (hht:ht < m) (h:∀ n,n ≤ m→(∀ i,i < n→f i=true)→(∀ i,n ≤ i→i < m→f i=false)→Q (some n) st) :
    wpS M A E s (gal' lf ky ar bs m ht) Q st:=by
  have by':∀ i {Q':Option Bool→SortSt→Prop},i < m→Q' (some (f i)) st→wpS M A E s (bey lf ky ar bs i) Q' st:=fun i Q' hi hq=>by
    obtain ⟨z,z1,z2,z3⟩:=hz i hi
    exact wp_bey C hk z1 z2 mk (by rw [z3]; exact hq)
  have nf:∀ i j,i ≤ j→j < m→f i=false→f j=false:=fun i j h1 h2 h3=>by
    cases e:f j with
    | false=>rfl
    | true=>rw [mono i j h1 h2 e] at h3; cases h3
  have fin:∀ lw up,lw ≤ up→up ≤ m→(∀ i,i < lw→f i=true)→(∀ i,up ≤ i→i < m→f i=false) →
      wpS M A E s (galEnd lf ky ar bs m lw up) Q st:=fun lw up h1 h2 h3 h4=>by
    unfold galEnd
    refine wpS_bind (wpS_forRange (I:=fun x c st'=>st'=st∧∃ l u,c=(none,l,u)∧l ≤ u∧u ≤ m∧u - l ≤ m - x∧(∀ i,i < l→f i=true)∧(∀ i,u ≤ i→i < m→f i=false)) ?_ ?_ ⟨rfl,lw,up,rfl,h1,h2,by omega,h3,h4⟩)
    · rintro x c st' _ hx ⟨rfl,l,u,rfl,a1,a2,a3,a4,a5⟩
      dsimp only
      by_cases hge:l ≥ u
      · rw [if_pos hge]
        refine wpS_pure ?_
        have:l=u:=by omega
        subst this
        exact wpS_pure (h l a2 a4 a5)
      · rw [if_neg hge]
        refine wpS_bind (by' _ (by omega) ?_)
        cases e:f (l + (u - l) / 2) with
        | true=>exact wpS_pure ⟨rfl,_,_,rfl,by omega,a2,by omega,fun i hi=>mono i _ (by omega) (by omega) e,a5⟩
        | false=>exact wpS_pure ⟨rfl,_,_,rfl,by omega,by omega,by omega,a4,fun i h1 h2=>nf _ i h1 h2 e⟩
    · rintro c st' ⟨rfl,l,u,rfl,a1,a2,a3,a4,a5⟩
      have:l=u:=by omega
      subst this
      exact wpS_pure (h l a2 a4 a5)
  rw [gal'_eq]
  refine wpS_bind (by' ht hht ?_)
  cases e:f ht with
  | true =>
    dsimp only
    rw [if_pos rfl]
    refine wpS_bind (wpS_forRange (I:=fun x c st'=>st'=st∧∃ la o,c=(none,la,o)∧la < o∧x + 1 ≤ o∧ht + la < m∧f (ht + la)=true) ?_ ?_ ⟨rfl,0,1,rfl,by omega,by omega,by omega,e⟩)
    · rintro x c st' _ hx ⟨rfl,la,o,rfl,a1,a2,a3,a4⟩
      dsimp only
      by_cases hge:o ≥ m - ht
      · rw [if_pos hge]
        refine wpS_pure ?_
        exact fin (ht + la + 1) (ht + min o (m - ht)) (by omega) (by omega) (fun i hi=>mono i _ (by omega) a3 a4) (fun i h1 h2=>by omega)
      · rw [if_neg hge]
        refine wpS_bind (by' _ (by omega) ?_)
        cases e2:f (ht + o) with
        | true=>exact wpS_pure ⟨rfl,_,_,rfl,by omega,by omega,by omega,e2⟩
        | false =>
          refine wpS_pure ?_
          exact fin (ht + la + 1) (ht + min o (m - ht)) (by omega) (by omega) (fun i hi=>mono i _ (by omega) a3 a4) (fun i h1 h2=>nf _ i (by omega) h2 e2)
    · rintro c st' ⟨rfl,la,o,rfl,a1,a2,a3,a4⟩
      exact fin (ht + la + 1) (ht + min o (m - ht)) (by omega) (by omega) (fun i hi=>mono i _ (by omega) a3 a4) (fun i h1 h2=>by omega)
  | false =>
    dsimp only
    rw [if_neg (by decide)]
    refine wpS_bind (wpS_forRange (I:=fun x c st'=>st'=st∧∃ la o,c=(none,la,o)∧la < o∧x + 1 ≤ o∧la ≤ ht∧f (ht - la)=false) ?_ ?_ ⟨rfl,0,1,rfl,by omega,by omega,by omega,e⟩)
    · rintro x c st' _ hx ⟨rfl,la,o,rfl,a1,a2,a3,a4⟩
      dsimp only
      by_cases hge:o ≥ ht + 1
      · rw [if_pos hge]
        refine wpS_pure ?_
        exact fin (ht + 1 - min o (ht + 1)) (ht - la) (by omega) (by omega) (fun i hi=>by omega) (fun i h1 h2=>nf _ i h1 h2 a4)
      · rw [if_neg hge]
        refine wpS_bind (by' _ (by omega) ?_)
        cases e2:f (ht - o) with
        | true =>
          refine wpS_pure ?_
          exact fin (ht + 1 - min o (ht + 1)) (ht - la) (by omega) (by omega) (fun i hi=>mono i _ (by omega) (by omega) e2) (fun i h1 h2=>nf _ i h1 h2 a4)
        | false=>exact wpS_pure ⟨rfl,_,_,rfl,by omega,by omega,by omega,e2⟩
    · rintro c st' ⟨rfl,la,o,rfl,a1,a2,a3,a4⟩
      exact fin (ht + 1 - min o (ht + 1)) (ht - la) (by omega) (by omega) (fun i hi=>by omega) (fun i h1 h2=>nf _ i h1 h2 a4)
end
end TS
namespace TS
open PySem PyProof.Rows
def mLo':Array Keyed→Array Keyed→StateT SortSt Sem (Array Keyed):=sortPriv% PySem.Builtin.mergeLo
def mHi':Array Keyed→Array Keyed→StateT SortSt Sem (Array Keyed):=sortPriv% PySem.Builtin.mergeHi
abbrev setG (st:SortSt) (g:Nat):SortSt:=SortSt.mk' (kindOf st) (arrOf st) (pendingOf st) g (failedOf st)
def smg (g:Nat):StateT SortSt Sem Unit:=modify fun q=>setG q g
theorem mLo'_eq (xs ys:Array Keyed):mLo' xs ys=(do
  rule "list.sort.merge-lo"
  let tot:=xs.size + ys.size
  let fin (o:Array Keyed) (i j:Nat):=o ++ xs.extract i xs.size ++ ys.extract j ys.size
  let lst (o:Array Keyed) (i j:Nat):=o ++ ys.extract j ys.size ++ xs.extract i xs.size
  let mut o:Array Keyed := #[← elem' ys 0]
  let mut i:=0
  let mut j:=1
  if j == ys.size then return fin o i j
  if i + 1 == xs.size then return lst o i j
  let mut mg:=gallopOf (← get)
  for _ in [0:tot] do
    let mut ac:=0
    let mut bc:=0
    for _ in [0:tot] do
      let some bw ← lt' (← elem' ys j) (← elem' xs i) | return fin o i j
      if bw then
        o:=o.push (← elem' ys j); j:=j + 1; bc:=bc + 1; ac:=0
        if j == ys.size then return fin o i j
        if bc ≥ mg then break
      else
        o:=o.push (← elem' xs i); i:=i + 1; ac:=ac + 1; bc:=0
        if i + 1 == xs.size then return lst o i j
        if ac ≥ mg then break
    rule "list.sort.gallop"
    mg:=mg + 1
    for _ in [0:tot] do
      if mg > 1 then mg:=mg - 1
      smg mg
      let some k ← gal' false (← elem' ys j) xs i (xs.size - i) 0 | return fin o i j
      ac:=k
      if k > 0 then
        o:=o ++ xs.extract i (i + k); i:=i + k
        if i + 1 == xs.size then return lst o i j
        if i == xs.size then return fin o i j
      o:=o.push (← elem' ys j); j:=j + 1
      if j == ys.size then return fin o i j
      let some k ← gal' true (← elem' xs i) ys j (ys.size - j) 0 | return fin o i j
      bc:=k
      if k > 0 then
        o:=o ++ ys.extract j (j + k); j:=j + k
        if j == ys.size then return fin o i j
      o:=o.push (← elem' xs i); i:=i + 1
      if i + 1 == xs.size then return lst o i j
      if ac < 7 && bc < 7 then break
    mg:=mg + 1
    smg mg
  unsupported "internal:list.sort.merge-bound"):=rfl
section
variable {κ π:Keyed→Int}
theorem rk_le {x y:Keyed} (h1:κ x ≤ κ y) (h2:π x ≤ π y):rk κ π x ≤ rk κ π y:=by unfold rk; omega
theorem rk_lt {a₀:Array Keyed} (hp:∀ x ∈ a₀.toList,0 ≤ π x∧π x < 1048576) {x y:Keyed} (mx:x ∈ a₀.toList) (my:y ∈ a₀.toList) (h:κ x < κ y):rk κ π x ≤ rk κ π y:=by
  have a:=hp x mx
  have b:=hp y my
  unfold rk; omega
theorem drop_head {α:Type} {X:List α} {i:Nat} {x:α} (h:X[i]?=some x):X.drop i=x :: X.drop (i + 1):=by
  obtain ⟨hi,e⟩:=List.getElem?_eq_some_iff.mp h
  rw [List.drop_eq_getElem_cons hi,e]
theorem below_one {X:List Keyed} {i:Nat} {x c:Keyed} (hX:Ris κ π X) (h:X[i]?=some x) (hc:rk κ π c ≤ rk κ π x):Below κ π [c] (X.drop i):=by
  intro a ha b hb
  rw [List.mem_singleton.mp ha]
  have e:=drop_head h
  rw [e] at hb
  rcases List.mem_cons.mp hb with z | z
  · rw [z]; exact hc
  · have r:=ris_drop hX i
    rw [e] at r
    exact Int.le_trans hc ((List.pairwise_cons.mp r).1 b z)
theorem take_one {α:Type} {X:List α} {i:Nat} {x:α} (h:X[i]?=some x):(X.drop i).take 1=[x]:=by rw [drop_head h]; rfl
theorem mem_chunk {α:Type} {X:List α} {i k:Nat} {c:α} (h:c ∈ (X.drop i).take k):∃ n,n < k∧X[i + n]?=some c:=by
  obtain ⟨n,hn,e⟩:=List.mem_iff_getElem.mp h
  refine ⟨n,by simp at hn; omega,?_⟩
  rw [List.getElem_take,List.getElem_drop] at e
  rw [List.getElem?_eq_some_iff]
  exact ⟨by simp at hn; omega,e⟩
end
section
variable {M:Model} {A:Around} {E:Value→Shared→Prop} {s:Shared} {κ π:Keyed→Int} {a₀:Array Keyed} {kd:SortKind} (C:Cmp M A E s κ π a₀ kd)
structure SameS (st st':SortSt):Prop where
  arr:arrOf st'=arrOf st
  knd:kindOf st'=kindOf st
  pnd:pendingOf st'=pendingOf st
  fld:failedOf st'=failedOf st
theorem SameS.refl (st:SortSt):SameS st st:=⟨rfl,rfl,rfl,rfl⟩
theorem SameS.trans {a b c:SortSt} (h:SameS a b) (g:SameS b c):SameS a c:=⟨g.arr.trans h.arr,g.knd.trans h.knd,g.pnd.trans h.pnd,g.fld.trans h.fld⟩
theorem wp_smg {g:Nat} {Q:Unit→SortSt→Prop} {st:SortSt} (h:Q () (setG st g)):wpS M A E s (smg g) Q st:=wpS_modify h
theorem sameG {st st':SortSt} {g:Nat} (h:SameS st st'):SameS st (setG st' g):=⟨h.arr,h.knd,h.pnd,h.fld⟩
structure Two (κ π:Keyed→Int) (a₀:Array Keyed) (xs ys:Array Keyed):Prop where
  mx:∀ x ∈ xs.toList,x ∈ a₀.toList
  my:∀ y ∈ ys.toList,y ∈ a₀.toList
  rx:Ris κ π xs.toList
  ry:Ris κ π ys.toList
  sep:∀ x ∈ xs.toList, ∀ y ∈ ys.toList,π x ≤ π y
  px:0 < xs.size
  py:0 < ys.size
  first:∀ x y,xs[0]?=some x→ys[0]?=some y→κ y < κ x
  last:∀ x,xs[xs.size - 1]?=some x→∀ y ∈ ys.toList,κ y < κ x
def Res (κ π:Keyed→Int) (xs ys:Array Keyed) (st:SortSt) (o:Array Keyed) (st':SortSt):Prop:=SameS st st'∧Ris κ π o.toList∧o.toList.Perm (xs.toList ++ ys.toList)
theorem ext_end {xs:Array Keyed} {i:Nat}:(xs.extract i xs.size).toList=xs.toList.drop i:=by
  rw [Array.toList_extract]
  have e:List.extract xs.toList i xs.size=(xs.toList.drop i).take (xs.size - i):=by simp [List.extract]
  first
    | exact List.take_of_length_le (by simp)
    | (rw [e]; exact List.take_of_length_le (by simp))
theorem res_y {xs ys o:Array Keyed} {i j:Nat} {st st':SortSt} (rx:Ris κ π xs.toList) (ss:SameS st st') (L:Lo (κ:=κ) (π:=π) xs.toList ys.toList o.toList i j) (hj:j=ys.size):Res κ π xs ys st (o ++ xs.extract i xs.size ++ ys.extract j ys.size) st':=by
  have e:(o ++ xs.extract i xs.size ++ ys.extract j ys.size).toList=o.toList ++ xs.toList.drop i:=by
    rw [Array.toList_append,Array.toList_append,ext_end,ext_end,hj,List.drop_of_length_le (l:=ys.toList) (by simp),List.append_nil]
  unfold Res
  rw [e]
  exact ⟨ss,L.endX rx (by simp [hj])⟩
theorem res_x {xs ys o:Array Keyed} {i j:Nat} {st st':SortSt} (ry:Ris κ π ys.toList) (ss:SameS st st') (L:Lo (κ:=κ) (π:=π) xs.toList ys.toList o.toList i j) (hi:i=xs.size):Res κ π xs ys st (o ++ xs.extract i xs.size ++ ys.extract j ys.size) st':=by
  have e:(o ++ xs.extract i xs.size ++ ys.extract j ys.size).toList=o.toList ++ ys.toList.drop j:=by
    rw [Array.toList_append,Array.toList_append,ext_end,ext_end,hi,List.drop_of_length_le (l:=xs.toList) (by simp),List.append_nil]
  unfold Res
  rw [e]
  exact ⟨ss,L.endY ry (by simp [hi])⟩
theorem res_l {a₀ xs ys o:Array Keyed} {i j:Nat} {st st':SortSt} (hp:∀ x ∈ a₀.toList,0 ≤ π x∧π x < 1048576) (T:Two κ π a₀ xs ys) (ss:SameS st st') (L:Lo (κ:=κ) (π:=π) xs.toList ys.toList o.toList i j) (hi:i + 1=xs.size):Res κ π xs ys st (o ++ ys.extract j ys.size ++ xs.extract i xs.size) st':=by
  have e:(o ++ ys.extract j ys.size ++ xs.extract i xs.size).toList=o.toList ++ ys.toList.drop j ++ xs.toList.drop i:=by
    rw [Array.toList_append,Array.toList_append,ext_end,ext_end]
  unfold Res
  rw [e]
  refine ⟨ss,L.last T.rx T.ry fun a ha b hb=>?_⟩
  have hlt:i < xs.size:=by omega
  have ex:xs.toList[i]?=some xs[i]:=by simp [hlt]
  rw [drop_head ex,List.drop_of_length_le (by simp; omega)] at hb
  have hb':=List.mem_singleton.mp hb
  have ma:a ∈ ys.toList:=List.mem_of_mem_drop ha
  have q:=T.last xs[i] (by rw [show xs.size - 1=i by omega]; simp [hlt]) a ma
  rw [hb']
  exact rk_lt hp (T.my a ma) (T.mx _ (by simp)) q
theorem push_toList {o:Array Keyed} {z:Keyed}:(o.push z).toList=o.toList ++ [z]:=by simp
theorem app_ext {o xs:Array Keyed} {i k:Nat}:(o ++ xs.extract i (i + k)).toList=o.toList ++ (xs.toList.drop i).take k:=by
  rw [Array.toList_append,Array.toList_extract]
  simp
abbrev LS:=Option (Array Keyed) × Array Keyed × Nat × Nat × Nat × Nat × Nat
def loC (xs ys o:Array Keyed) (i j mg k k1:Nat):StateT SortSt Sem (ForInStep LS):=do
  let z ← elem' xs i
  if (i + 1 + 1 == xs.size)=true then pure (.done (some (o.push z ++ ys.extract j ys.size ++ xs.extract (i + 1) xs.size),o.push z,i + 1,j,mg,k,k1))
  else if (decide (k < 7) && decide (k1 < 7))=true then pure (.done (none,o.push z,i + 1,j,mg,k,k1)) else pure (.yield (none,o.push z,i + 1,j,mg,k,k1))
def loB (xs ys o:Array Keyed) (i j mg k bc:Nat):StateT SortSt Sem (ForInStep LS):=do
  let z ← elem' ys j
  if (j + 1 == ys.size)=true then pure (.done (some (o.push z ++ xs.extract i xs.size ++ ys.extract (j + 1) ys.size),o.push z,i,j + 1,mg,k,bc))
  else do
    let w ← elem' xs i
    let r ← gal' true w ys (j + 1) (ys.size - (j + 1)) 0
    match r with
    | some k1 =>
      if k1 > 0 then
        if (j + 1 + k1 == ys.size)=true then pure (.done (some ((o.push z ++ ys.extract (j + 1) (j + 1 + k1)) ++ xs.extract i xs.size ++ ys.extract (j + 1 + k1) ys.size),o.push z ++ ys.extract (j + 1) (j + 1 + k1),i,j + 1 + k1,mg,k,k1))
        else loC xs ys (o.push z ++ ys.extract (j + 1) (j + 1 + k1)) i (j + 1 + k1) mg k k1
      else loC xs ys (o.push z) i (j + 1) mg k k1
    | _=>pure (.done (some (o.push z ++ xs.extract i xs.size ++ ys.extract (j + 1) ys.size),o.push z,i,j + 1,mg,k,bc))
def loA (xs ys o:Array Keyed) (i j mg bc:Nat) (ac:Nat):StateT SortSt Sem (ForInStep LS):=do
  smg mg
  let w ← elem' ys j
  let r ← gal' false w xs i (xs.size - i) 0
  match r with
  | some k =>
    if k > 0 then
      if (i + k + 1 == xs.size)=true then pure (.done (some ((o ++ xs.extract i (i + k)) ++ ys.extract j ys.size ++ xs.extract (i + k) xs.size),o ++ xs.extract i (i + k),i + k,j,mg,k,bc))
      else if (i + k == xs.size)=true then pure (.done (some ((o ++ xs.extract i (i + k)) ++ xs.extract (i + k) xs.size ++ ys.extract j ys.size),o ++ xs.extract i (i + k),i + k,j,mg,k,bc))
      else loB xs ys (o ++ xs.extract i (i + k)) (i + k) j mg k bc
    else loB xs ys o i j mg k bc
  | _=>pure (.done (some (o ++ xs.extract i xs.size ++ ys.extract j ys.size),o,i,j,mg,ac,bc))
def JL (κ π:Keyed→Int) (xs ys:Array Keyed) (st:SortSt) (b:Nat) (o:Array Keyed) (i j:Nat) (st':SortSt):Prop :=
  SameS st st'∧Lo (κ:=κ) (π:=π) xs.toList ys.toList o.toList i j∧i + 1 < xs.size∧j < ys.size∧b ≤ i + j
def PL1 (κ π:Keyed→Int) (xs ys:Array Keyed) (st:SortSt) (b:Nat) (c:LS) (st':SortSt):Prop:=(∃ r,c.1=some r∧Res κ π xs ys st r st') ∨ (c.1=none∧JL κ π xs ys st b c.2.1 c.2.2.1 c.2.2.2.1 st')
def PLo (κ π:Keyed→Int) (xs ys:Array Keyed) (st:SortSt) (b:Nat) (r:ForInStep LS) (st':SortSt):Prop:=match r with
  | .done c=>PL1 κ π xs ys st b c st'
  | .yield c=>c.1=none∧JL κ π xs ys st b c.2.1 c.2.2.1 c.2.2.2.1 st'
variable {xs ys:Array Keyed} {st:SortSt} (hk:kindOf st=kd) (T:Two κ π a₀ xs ys)
theorem at_xs {xs:Array Keyed} {i:Nat} (hi:i < xs.size):∃ x,xs[i]?=some x∧xs.toList[i]?=some x∧x ∈ xs.toList:=⟨xs[i],by simp [hi],by simp [hi],by simp⟩
include T in
theorem push1 {o:Array Keyed} {i j:Nat} {x:Keyed} (L:Lo (κ:=κ) (π:=π) xs.toList ys.toList o.toList i j) (ex:xs.toList[i]?=some x) (hb:Below κ π [x] (ys.toList.drop j)):Lo (κ:=κ) (π:=π) xs.toList ys.toList (o.push x).toList (i + 1) j:=by
  rw [push_toList, ← take_one ex]
  exact L.x T.rx 1 (by rw [take_one ex]; exact hb)
include T in
theorem push2 {o:Array Keyed} {i j:Nat} {y:Keyed} (L:Lo (κ:=κ) (π:=π) xs.toList ys.toList o.toList i j) (ex:ys.toList[j]?=some y) (hb:Below κ π [y] (xs.toList.drop i)):Lo (κ:=κ) (π:=π) xs.toList ys.toList (o.push y).toList i (j + 1):=by
  rw [push_toList, ← take_one ex]
  exact L.y T.ry 1 (by rw [take_one ex]; exact hb)
include C T in
theorem wp_loC {o:Array Keyed} {i j mg k k1 b:Nat} {st':SortSt} (ss:SameS st st') (L:Lo (κ:=κ) (π:=π) xs.toList ys.toList o.toList i j) (hi:i + 1 < xs.size) (hj:j < ys.size) (hb:b ≤ i + j)
    (hle:∀ x,xs.toList[i]?=some x→Below κ π [x] (ys.toList.drop j)):wpS M A E s (loC xs ys o i j mg k k1) (PLo κ π xs ys st b) st':=by
  unfold loC
  obtain ⟨x,e1,e2,m⟩:=at_xs (xs:=xs) (i:=i) (by omega)
  refine wpS_bind (wp_elem e1 ?_)
  have L1:=push1 T L e2 (hle x e2)
  by_cases c1:i + 1 + 1=xs.size
  · rw [if_pos (by simpa using c1)]
    exact wpS_pure (.inl ⟨_,rfl,res_l C.pi T ss L1 c1⟩)
  · rw [if_neg (by simpa using c1)]
    have J:JL κ π xs ys st b (o.push x) (i + 1) j st':=⟨ss,L1,by omega,hj,by omega⟩
    split
    · exact wpS_pure (.inr ⟨rfl,J⟩)
    · exact wpS_pure ⟨rfl,J⟩
include C T in
theorem le_xy {x y:Keyed} (mx:x ∈ xs.toList) (my:y ∈ ys.toList) (h:κ x ≤ κ y):rk κ π x ≤ rk κ π y:=rk_le h (T.sep x mx y my)
include C T in
theorem le_yx {x y:Keyed} (mx:x ∈ xs.toList) (my:y ∈ ys.toList) (h:κ y < κ x):rk κ π y ≤ rk κ π x:=rk_lt C.pi (T.my y my) (T.mx x mx) h
theorem ris_at {l:List Keyed} (h:Ris κ π l) {i j:Nat} {a b:Keyed} (hij:i ≤ j) (h1:l[i]?=some a) (h2:l[j]?=some b):rk κ π a ≤ rk κ π b:=by
  obtain ⟨hi,rfl⟩:=List.getElem?_eq_some_iff.mp h1
  obtain ⟨hj,rfl⟩:=List.getElem?_eq_some_iff.mp h2
  by_cases z:i=j
  · subst z; exact Int.le_refl _
  · exact List.pairwise_iff_getElem.mp h i j hi hj (by omega)
theorem kap_at (hp:∀ x ∈ a₀.toList,0 ≤ π x∧π x < 1048576) {a b:Keyed} (ma:a ∈ a₀.toList) (mb:b ∈ a₀.toList) (h:rk κ π a ≤ rk κ π b):κ a ≤ κ b:=by
  have p:=hp a ma
  have q:=hp b mb
  unfold rk at h
  omega
include C T hk in
theorem wp_loB {o:Array Keyed} {i j mg k bc b:Nat} {st':SortSt} (ss:SameS st st') (L:Lo (κ:=κ) (π:=π) xs.toList ys.toList o.toList i j) (hi:i + 1 < xs.size) (hj:j < ys.size) (hb:b ≤ i + j)
    (hle:∀ x y,xs.toList[i]?=some x→ys.toList[j]?=some y→κ y < κ x):wpS M A E s (loB xs ys o i j mg k bc) (PLo κ π xs ys st b) st':=by
  unfold loB
  obtain ⟨x,ex,ex',mx⟩:=at_xs (xs:=xs) (i:=i) (by omega)
  obtain ⟨y,ey,ey',my⟩:=at_xs (xs:=ys) (i:=j) (by omega)
  refine wpS_bind (wp_elem ey ?_)
  have L1:=push2 T L ey' (below_one T.rx ex' (le_yx C T mx my (hle x y ex' ey')))
  by_cases c1:j + 1=ys.size
  · rw [if_pos (by simpa using c1)]
    exact wpS_pure (.inl ⟨_,rfl,res_y T.rx ss L1 c1⟩)
  rw [if_neg (by simpa using c1)]
  refine wpS_bind (wp_elem ex ?_)
  refine wpS_bind (wp_gal C (ss.knd.trans hk) (fun n=>match ys.toList[j + 1 + n]? with | some z=>decide (κ z < κ x) | none=>false) (fun n hn=>?_) (T.mx x mx) (fun n m hnm hm e=>?_) (by omega) fun k1 hk1 hlo hhi=>?_)
  · obtain ⟨z,z1,z2,z3⟩:=at_xs (xs:=ys) (i:=j + 1 + n) (by omega)
    exact ⟨z,z1,T.my z z3,by rw [z2]; rfl⟩
  · obtain ⟨z,z1,z2,z3⟩:=at_xs (xs:=ys) (i:=j + 1 + n) (by omega)
    obtain ⟨w,w1,w2,w3⟩:=at_xs (xs:=ys) (i:=j + 1 + m) (by omega)
    rw [w2] at e
    rw [z2]
    have q:=kap_at C.pi (T.my z z3) (T.my w w3) (ris_at T.ry (show j + 1 + n ≤ j + 1 + m by omega) z2 w2)
    simp only [decide_eq_true_eq] at e ⊢
    omega
  · have ch:∀ n,n < k1→∀ z,ys.toList[j + 1 + n]?=some z→κ z < κ x:=fun n hn z ez=>by
      have:=hlo n hn
      rw [ez] at this
      simpa using this
    have L2:Lo (κ:=κ) (π:=π) xs.toList ys.toList (o.push y ++ ys.extract (j + 1) (j + 1 + k1)).toList i (j + 1 + k1):=by
      rw [app_ext]
      refine L1.y T.ry k1 fun a ha=>?_
      obtain ⟨n,hn,en⟩:=mem_chunk ha
      exact below_one T.rx ex' (le_yx C T mx (List.mem_of_getElem? en) (ch n hn a en)) a (List.mem_singleton.mpr rfl)
    have nxt:∀ n,j + 1 + k1=n→n < ys.size→∀ z,xs.toList[i]?=some z→Below κ π [z] (ys.toList.drop n):=fun n en hn z ez=>by
      rw [ex'] at ez
      cases ez
      obtain ⟨w,w1,w2,w3⟩:=at_xs (xs:=ys) (i:=n) hn
      have:=hhi k1 (Nat.le_refl _) (by omega)
      rw [en,w2] at this
      refine below_one T.ry w2 (le_xy C T mx w3 ?_)
      simpa using this
    dsimp only
    by_cases k0:k1 > 0
    · rw [if_pos k0]
      by_cases c2:j + 1 + k1=ys.size
      · rw [if_pos (by simpa using c2)]
        exact wpS_pure (.inl ⟨_,rfl,res_y T.rx ss L2 c2⟩)
      · rw [if_neg (by simpa using c2)]
        exact wp_loC C T ss L2 hi (by omega) (by omega) (nxt _ rfl (by omega))
    · rw [if_neg k0]
      exact wp_loC C T ss L1 hi (by omega) (by omega) (nxt _ (by omega) (by omega))
include C T hk in
theorem wp_loA {o:Array Keyed} {i j mg bc ac b:Nat} {st':SortSt} (J:JL κ π xs ys st b o i j st'):wpS M A E s (loA xs ys o i j mg bc ac) (PLo κ π xs ys st b) st':=by
  obtain ⟨ss,L,hi,hj,hb⟩:=J
  unfold loA
  refine wpS_bind (wp_smg ?_)
  have ss:=sameG (g:=mg) ss
  obtain ⟨y,ey,ey',my⟩:=at_xs (xs:=ys) (i:=j) (by omega)
  refine wpS_bind (wp_elem ey ?_)
  refine wpS_bind (wp_gal C (ss.knd.trans hk) (fun n=>match xs.toList[i + n]? with | some z => !decide (κ y < κ z) | none=>false) (fun n hn=>?_) (T.my y my) (fun n m hnm hm e=>?_) (by omega) fun k hk1 hlo hhi=>?_)
  · obtain ⟨z,z1,z2,z3⟩:=at_xs (xs:=xs) (i:=i + n) (by omega)
    exact ⟨z,z1,T.mx z z3,by rw [z2]; rfl⟩
  · obtain ⟨z,z1,z2,z3⟩:=at_xs (xs:=xs) (i:=i + n) (by omega)
    obtain ⟨w,w1,w2,w3⟩:=at_xs (xs:=xs) (i:=i + m) (by omega)
    rw [w2] at e
    rw [z2]
    have q:=kap_at C.pi (T.mx z z3) (T.mx w w3) (ris_at T.rx (show i + n ≤ i + m by omega) z2 w2)
    simp only [Bool.not_eq_true',decide_eq_false_iff_not] at e ⊢
    omega
  · have ch:∀ n,n < k→∀ z,xs.toList[i + n]?=some z→κ z ≤ κ y:=fun n hn z ez=>by
      have:=hlo n hn
      rw [ez] at this
      simpa using this
    have L2:Lo (κ:=κ) (π:=π) xs.toList ys.toList (o ++ xs.extract i (i + k)).toList (i + k) j:=by
      rw [app_ext]
      refine L.x T.rx k fun a ha=>?_
      obtain ⟨n,hn,en⟩:=mem_chunk ha
      exact below_one T.ry ey' (le_xy C T (List.mem_of_getElem? en) my (ch n hn a en)) a (List.mem_singleton.mpr rfl)
    have nxt:∀ n,i + k=n→n < xs.size→∀ x z,xs.toList[n]?=some x→ys.toList[j]?=some z→κ z < κ x:=fun n en hn x z ex ez=>by
      rw [ey'] at ez
      cases ez
      have:=hhi k (Nat.le_refl _) (by omega)
      rw [en,ex] at this
      simpa using this
    dsimp only
    by_cases k0:k > 0
    · rw [if_pos k0]
      by_cases c1:i + k + 1=xs.size
      · rw [if_pos (by simpa using c1)]
        exact wpS_pure (.inl ⟨_,rfl,res_l C.pi T ss L2 c1⟩)
      rw [if_neg (by simpa using c1)]
      by_cases c2:i + k=xs.size
      · rw [if_pos (by simpa using c2)]
        exact wpS_pure (.inl ⟨_,rfl,res_x T.ry ss L2 c2⟩)
      rw [if_neg (by simpa using c2)]
      exact wp_loB C hk T ss L2 (by omega) hj (by omega) (nxt _ rfl (by omega))
    · rw [if_neg k0]
      exact wp_loB C hk T ss L hi hj (by omega) (nxt _ (by omega) (by omega))
include C T hk in
theorem wp_mLo {Q:Array Keyed→SortSt→Prop} (h:∀ o st',Res κ π xs ys st o st'→Q o st'):wpS M A E s (mLo' xs ys) Q st:=by
  rw [mLo'_eq]
  refine wpS_bind (wpS_lift (wpAny_rule ⟨rfl,?_⟩))
  obtain ⟨y0,ey0,ey0',my0⟩:=at_xs T.py
  obtain ⟨x0,ex0,ex0',mx0⟩:=at_xs T.px
  refine wpS_bind (wp_elem ey0 ?_)
  have L0:Lo (κ:=κ) (π:=π) xs.toList ys.toList (#[y0]:Array Keyed).toList 0 1:=by
    have q:=push2 T (o := #[]) (i:=0) (j:=0) ⟨by simp,List.Pairwise.nil,nil_below,nil_below⟩ ey0' (below_one T.rx ex0' (rk_lt C.pi (T.my _ my0) (T.mx _ mx0) (T.first _ _ ex0 ey0)))
    simpa using q
  dsimp only
  by_cases c1:1=ys.size
  · rw [if_pos (by simpa using c1)]
    exact wpS_pure (h _ _ (res_y T.rx (SameS.refl st) L0 c1))
  rw [if_neg (by simpa using c1)]
  by_cases c2:0 + 1=xs.size
  · rw [if_pos (by simpa using c2)]
    exact wpS_pure (h _ _ (res_l C.pi T (SameS.refl st) L0 c2))
  rw [if_neg (by simpa using c2)]
  refine wpS_bind (wpS_get ?_)
  have sz:=T.px
  have sy:=T.py
  refine wpS_bind (wpS_forRange (I:=fun x c st' => ∃ o i j mg,c=(none,o,i,j,mg)∧JL κ π xs ys st (x + 1) o i j st') ?_ ?_ ⟨_,_,_,_,rfl,SameS.refl st,L0,by omega,by omega,by omega⟩)
  · rintro x c st' _ hx ⟨o,i,j,mg,rfl,ss,L,hi,hj,hp⟩
    dsimp only
    refine wpS_bind (wpS_mono (wpS_forRange (I:=fun y c st' => ∃ o i j ac bc,c=(none,o,i,j,ac,bc)∧JL κ π xs ys st (x + 1 + y) o i j st')
      (Q:=fun c st'=>(∃ r,c.1=some r∧Res κ π xs ys st r st') ∨ (c.1=none∧JL κ π xs ys st (x + 1 + 1) c.2.1 c.2.2.1 c.2.2.2.1 st')) ?_ ?_ ⟨_,_,_,_,_,rfl,ss,L,hi,hj,by omega⟩) ?_)
    · rintro y c st2 _ hy ⟨o,i,j,ac,bc,rfl,ss,L,hi,hj,hp⟩
      dsimp only
      obtain ⟨x1,ex,ex',mx⟩:=at_xs (xs:=xs) (i:=i) (by omega)
      obtain ⟨y1,ey,ey',my⟩:=at_xs (xs:=ys) (i:=j) (by omega)
      refine wpS_bind (wp_elem ey (wpS_bind (wp_elem ex (wpS_bind (C.lt _ _ _ _ (ss.knd.trans hk) (T.my _ my) (T.mx _ mx) ?_)))))
      by_cases hlt:κ y1 < κ x1
      · simp only [hlt,decide_true,if_true]
        refine wpS_bind (wp_elem ey ?_)
        have L1:=push2 T L ey' (below_one T.rx ex' (le_yx C T mx my hlt))
        by_cases c3:j + 1=ys.size
        · rw [if_pos (by simpa using c3)]
          exact wpS_pure (.inl ⟨_,rfl,res_y T.rx ss L1 c3⟩)
        · rw [if_neg (by simpa using c3)]
          split
          · have J1:JL κ π xs ys st (x + 1 + 1) (o.push y1) i (j + 1) st2:=⟨ss,L1,hi,by omega,by omega⟩
            exact wpS_pure (.inr ⟨rfl,J1⟩)
          · exact wpS_pure ⟨_,_,_,_,_,rfl,ss,L1,hi,by omega,by omega⟩
      · simp only [hlt,decide_false,Bool.false_eq_true,if_false]
        refine wpS_bind (wp_elem ex ?_)
        have L1:=push1 T L ex' (below_one T.ry ey' (le_xy C T mx my (by omega)))
        by_cases c3:i + 1 + 1=xs.size
        · rw [if_pos (by simpa using c3)]
          exact wpS_pure (.inl ⟨_,rfl,res_l C.pi T ss L1 c3⟩)
        · rw [if_neg (by simpa using c3)]
          split
          · have J1:JL κ π xs ys st (x + 1 + 1) (o.push x1) (i + 1) j st2:=⟨ss,L1,by omega,hj,by omega⟩
            exact wpS_pure (.inr ⟨rfl,J1⟩)
          · exact wpS_pure ⟨_,_,_,_,_,rfl,ss,L1,by omega,hj,by omega⟩
    · rintro c st2 ⟨o,i,j,ac,bc,rfl,ss,L,hi,hj,hp⟩
      have J1:JL κ π xs ys st (x + 1 + 1) o i j st2:=⟨ss,L,hi,hj,by omega⟩
      exact .inr ⟨rfl,J1⟩
    · rintro ⟨r0,o,i,j,ac,bc⟩ st2 hq
      rcases hq with ⟨r,e,R⟩ | ⟨e,J⟩
      · have e:r0=some r:=e
        subst e
        exact wpS_pure (wpS_pure (h _ _ R))
      · have e:r0=none:=e
        subst e
        have J:JL κ π xs ys st (x + 1 + 1) o i j st2:=J
        refine wpS_bind (wpS_lift (wpAny_rule ⟨rfl,?_⟩))
        refine wpS_bind (wpS_mono (wpS_forRange (I:=fun y c st'=>c.1=none∧JL κ π xs ys st (x + 1 + 1) c.2.1 c.2.2.1 c.2.2.2.1 st') (Q:=fun c st'=>PL1 κ π xs ys st (x + 1 + 1) c st') ?_ ?_ ⟨rfl,J⟩) ?_)
        · rintro y ⟨r0,o,i,j,mg2,ac,bc⟩ st3 _ hy ⟨e,J⟩
          have e:r0=none:=e
          subst e
          dsimp only at J
          refine wpS_mono (Q:=PLo κ π xs ys st (x + 1 + 1)) ?_ (fun r st' hq=>by cases r <;> exact hq)
          have key:wpS M A E s (if mg2 > 1 then loA xs ys o i j (mg2 - 1) bc ac else loA xs ys o i j mg2 bc ac) (PLo κ π xs ys st (x + 1 + 1)) st3:=by
            split
            · exact wp_loA C hk T J
            · exact wp_loA C hk T J
          exact key
        · rintro c st3 ⟨e,J⟩
          exact .inr ⟨e,J⟩
        · rintro ⟨r0,o,i,j,mg2,ac,bc⟩ st3 hq
          rcases hq with ⟨r,e,R⟩ | ⟨e,J⟩
          · have e:r0=some r:=e
            subst e
            exact wpS_pure (wpS_pure (h _ _ R))
          · have e:r0=none:=e
            subst e
            refine wpS_bind (wp_smg (wpS_pure ⟨_,_,_,_,rfl,?_⟩))
            obtain ⟨ss,L,hi,hj,hp⟩:=J
            exact ⟨sameG ss,L,hi,hj,hp⟩
  · rintro c st' ⟨o,i,j,mg,rfl,ss,L,hi,hj,hp⟩
    omega
end
end TS
namespace TS
open PySem PyProof.Rows
theorem mHi'_eq (xs ys:Array Keyed):mHi' xs ys=(do
  rule "list.sort.merge-hi"
  let tot:=xs.size + ys.size
  let fin (o:Array Keyed) (i j:Nat):=xs.extract 0 i ++ ys.extract 0 j ++ o.reverse
  let fst (o:Array Keyed) (i j:Nat):=ys.extract 0 j ++ xs.extract 0 i ++ o.reverse
  let mut i:=xs.size - 1
  let mut j:=ys.size
  let mut o:Array Keyed := #[← elem' xs i]
  if i == 0 then return fin o i j
  if j == 1 then return fst o i j
  let mut mg:=gallopOf (← get)
  for _ in [0:tot] do
    let mut ac:=0
    let mut bc:=0
    for _ in [0:tot] do
      let some aw ← lt' (← elem' ys (j - 1)) (← elem' xs (i - 1)) | return fin o i j
      if aw then
        i:=i - 1; o:=o.push (← elem' xs i); ac:=ac + 1; bc:=0
        if i == 0 then return fin o i j
        if ac ≥ mg then break
      else
        j:=j - 1; o:=o.push (← elem' ys j); bc:=bc + 1; ac:=0
        if j == 1 then return fst o i j
        if bc ≥ mg then break
    rule "list.sort.gallop"
    mg:=mg + 1
    for _ in [0:tot] do
      if mg > 1 then mg:=mg - 1
      smg mg
      let some q ← gal' false (← elem' ys (j - 1)) xs 0 i (i - 1) | return fin o i j
      let k:=i - q
      ac:=k
      if k > 0 then
        o:=o ++ (xs.extract q i).reverse; i:=q
        if i == 0 then return fin o i j
      j:=j - 1; o:=o.push (← elem' ys j)
      if j == 1 then return fst o i j
      let some q ← gal' true (← elem' xs (i - 1)) ys 0 j (j - 1) | return fin o i j
      let k:=j - q
      bc:=k
      if k > 0 then
        o:=o ++ (ys.extract q j).reverse; j:=q
        if j == 1 then return fst o i j
        if j == 0 then return fin o i j
      i:=i - 1; o:=o.push (← elem' xs i)
      if i == 0 then return fin o i j
      if ac < 7 && bc < 7 then break
    mg:=mg + 1
    smg mg
  unsupported "internal:list.sort.merge-bound"):=rfl
section
variable {M:Model} {A:Around} {E:Value→Shared→Prop} {s:Shared} {κ π:Keyed→Int} {a₀:Array Keyed} {kd:SortKind} (C:Cmp M A E s κ π a₀ kd)
theorem ext_0 {xs:Array Keyed} {i:Nat}:(xs.extract 0 i).toList=xs.toList.take i:=by
  rw [Array.toList_extract]; simp
theorem mem_take {α:Type} {Y:List α} {j:Nat} {a:α} (h:a ∈ Y.take j):∃ n,n < j∧Y[n]?=some a:=by
  have:=mem_chunk (X:=Y) (i:=0) (k:=j) (c:=a) (by simpa using h)
  simpa using this
theorem above_one {Y:List Keyed} {j:Nat} {y c:Keyed} (hY:Ris κ π Y) (h:Y[j - 1]?=some y) (hc:rk κ π y ≤ rk κ π c):Below κ π (Y.take j) [c]:=by
  intro a ha b hb
  rw [List.mem_singleton.mp hb]
  obtain ⟨n,hn,e⟩:=mem_take ha
  exact Int.le_trans (ris_at hY (by omega) e h) hc
theorem drop_one {α:Type} {X:List α} {i:Nat} {x:α} (hi:0 < i) (h:X[i - 1]?=some x):(X.take i).drop (i - 1)=[x]:=by
  obtain ⟨hl,e⟩:=List.getElem?_eq_some_iff.mp h
  rw [List.drop_take,show i - (i - 1)=1 by omega,take_one h]
variable {xs ys:Array Keyed} {st:SortSt}
theorem rev_toList {o:Array Keyed}:o.reverse.toList=o.toList.reverse:=by simp
theorem hres_x {o:Array Keyed} {i j:Nat} {st':SortSt} (ry:Ris κ π ys.toList) (ss:SameS st st') (L:Hi (κ:=κ) (π:=π) xs.toList ys.toList o.toList i j) (hi:i=0):Res κ π xs ys st (xs.extract 0 i ++ ys.extract 0 j ++ o.reverse) st':=by
  have e:(xs.extract 0 i ++ ys.extract 0 j ++ o.reverse).toList=ys.toList.take j ++ o.toList.reverse:=by
    rw [Array.toList_append,Array.toList_append,ext_0,ext_0,rev_toList,hi,List.take_zero,List.nil_append]
  unfold Res
  rw [e]
  exact ⟨ss,L.endY ry hi⟩
theorem hres_y {o:Array Keyed} {i j:Nat} {st':SortSt} (rx:Ris κ π xs.toList) (ss:SameS st st') (L:Hi (κ:=κ) (π:=π) xs.toList ys.toList o.toList i j) (hj:j=0):Res κ π xs ys st (xs.extract 0 i ++ ys.extract 0 j ++ o.reverse) st':=by
  have e:(xs.extract 0 i ++ ys.extract 0 j ++ o.reverse).toList=xs.toList.take i ++ o.toList.reverse:=by
    rw [Array.toList_append,Array.toList_append,ext_0,ext_0,rev_toList,hj,List.take_zero,List.append_nil]
  unfold Res
  rw [e]
  exact ⟨ss,L.endX rx hj⟩
theorem hres_f {o:Array Keyed} {i j:Nat} {st':SortSt} (hp:∀ x ∈ a₀.toList,0 ≤ π x∧π x < 1048576) (T:Two κ π a₀ xs ys) (ss:SameS st st') (L:Hi (κ:=κ) (π:=π) xs.toList ys.toList o.toList i j) (hj:j=1):Res κ π xs ys st (ys.extract 0 j ++ xs.extract 0 i ++ o.reverse) st':=by
  have e:(ys.extract 0 j ++ xs.extract 0 i ++ o.reverse).toList=ys.toList.take j ++ xs.toList.take i ++ o.toList.reverse:=by
    rw [Array.toList_append,Array.toList_append,ext_0,ext_0,rev_toList]
  unfold Res
  rw [e]
  refine ⟨ss,L.first T.rx T.ry fun a ha b hb=>?_⟩
  obtain ⟨n,hn,ea⟩:=mem_take ha
  obtain ⟨m,hm,eb⟩:=mem_take hb
  have:n=0:=by omega
  subst this
  obtain ⟨x0,ex0,ex0',mx0⟩:=at_xs T.px
  have q:=T.first x0 a ex0 (by simpa using ea)
  exact Int.le_trans (rk_lt hp (T.my a (List.mem_of_getElem? ea)) (T.mx _ mx0) q) (ris_at T.rx (Nat.zero_le _) ex0' eb)
abbrev HS:=Option (Array Keyed) × Nat × Nat × Array Keyed × Nat × Nat × Nat
def JH (κ π:Keyed→Int) (xs ys:Array Keyed) (st:SortSt) (b:Nat) (o:Array Keyed) (i j:Nat) (st':SortSt):Prop :=
  SameS st st'∧Hi (κ:=κ) (π:=π) xs.toList ys.toList o.toList i j∧0 < i∧i ≤ xs.size∧1 < j∧j ≤ ys.size∧i + j + b ≤ xs.size + ys.size
def PH1 (κ π:Keyed→Int) (xs ys:Array Keyed) (st:SortSt) (b:Nat) (c:HS) (st':SortSt):Prop:=(∃ r,c.1=some r∧Res κ π xs ys st r st') ∨ (c.1=none∧JH κ π xs ys st b c.2.2.2.1 c.2.1 c.2.2.1 st')
def PHi (κ π:Keyed→Int) (xs ys:Array Keyed) (st:SortSt) (b:Nat) (r:ForInStep HS) (st':SortSt):Prop:=match r with
  | .done c=>PH1 κ π xs ys st b c st'
  | .yield c=>c.1=none∧JH κ π xs ys st b c.2.2.2.1 c.2.1 c.2.2.1 st'
def hiC (xs ys o:Array Keyed) (i j mg k k1:Nat):StateT SortSt Sem (ForInStep HS):=do
  let z ← elem' xs (i - 1)
  if (i - 1 == 0)=true then pure (.done (some (xs.extract 0 (i - 1) ++ ys.extract 0 j ++ (o.push z).reverse),i - 1,j,o.push z,mg,k,k1))
  else if (decide (k < 7) && decide (k1 < 7))=true then pure (.done (none,i - 1,j,o.push z,mg,k,k1)) else pure (.yield (none,i - 1,j,o.push z,mg,k,k1))
def hiB (xs ys o:Array Keyed) (i j mg k bc:Nat):StateT SortSt Sem (ForInStep HS):=do
  let z ← elem' ys (j - 1)
  if (j - 1 == 1)=true then pure (.done (some (ys.extract 0 (j - 1) ++ xs.extract 0 i ++ (o.push z).reverse),i,j - 1,o.push z,mg,k,bc))
  else do
    let w ← elem' xs (i - 1)
    let r ← gal' true w ys 0 (j - 1) (j - 1 - 1)
    match r with
    | some q =>
      if j - 1 - q > 0 then
        if (q == 1)=true then pure (.done (some (ys.extract 0 q ++ xs.extract 0 i ++ (o.push z ++ (ys.extract q (j - 1)).reverse).reverse),i,q,o.push z ++ (ys.extract q (j - 1)).reverse,mg,k,j - 1 - q))
        else if (q == 0)=true then pure (.done (some (xs.extract 0 i ++ ys.extract 0 q ++ (o.push z ++ (ys.extract q (j - 1)).reverse).reverse),i,q,o.push z ++ (ys.extract q (j - 1)).reverse,mg,k,j - 1 - q))
        else hiC xs ys (o.push z ++ (ys.extract q (j - 1)).reverse) i q mg k (j - 1 - q)
      else hiC xs ys (o.push z) i (j - 1) mg k (j - 1 - q)
    | _=>pure (.done (some (xs.extract 0 i ++ ys.extract 0 (j - 1) ++ (o.push z).reverse),i,j - 1,o.push z,mg,k,bc))
def hiA (xs ys o:Array Keyed) (i j mg bc ac:Nat):StateT SortSt Sem (ForInStep HS):=do
  smg mg
  let w ← elem' ys (j - 1)
  let r ← gal' false w xs 0 i (i - 1)
  match r with
  | some q =>
    if i - q > 0 then
      if (q == 0)=true then pure (.done (some (xs.extract 0 q ++ ys.extract 0 j ++ (o ++ (xs.extract q i).reverse).reverse),q,j,o ++ (xs.extract q i).reverse,mg,i - q,bc))
      else hiB xs ys (o ++ (xs.extract q i).reverse) q j mg (i - q) bc
    else hiB xs ys o i j mg (i - q) bc
  | _=>pure (.done (some (xs.extract 0 i ++ ys.extract 0 j ++ o.reverse),i,j,o,mg,ac,bc))
variable (hk:kindOf st=kd) (T:Two κ π a₀ xs ys)
include T in
theorem hpush1 {o:Array Keyed} {i j:Nat} {x:Keyed} (L:Hi (κ:=κ) (π:=π) xs.toList ys.toList o.toList i j) (hi:0 < i) (ex:xs.toList[i - 1]?=some x) (hb:Below κ π (ys.toList.take j) [x]):Hi (κ:=κ) (π:=π) xs.toList ys.toList (o.push x).toList (i - 1) j:=by
  have e:=drop_one hi ex
  have q:=L.x T.rx (i - 1) (by omega) (by rw [e]; exact hb)
  rw [e] at q
  rw [push_toList]
  simpa using q
include T in
theorem hpush2 {o:Array Keyed} {i j:Nat} {y:Keyed} (L:Hi (κ:=κ) (π:=π) xs.toList ys.toList o.toList i j) (hj:0 < j) (ex:ys.toList[j - 1]?=some y) (hb:Below κ π (xs.toList.take i) [y]):Hi (κ:=κ) (π:=π) xs.toList ys.toList (o.push y).toList i (j - 1):=by
  have e:=drop_one hj ex
  have q:=L.y T.ry (j - 1) (by omega) (by rw [e]; exact hb)
  rw [e] at q
  rw [push_toList]
  simpa using q
theorem app_rev {o xs:Array Keyed} {q i:Nat}:(o ++ (xs.extract q i).reverse).toList=o.toList ++ ((xs.toList.take i).drop q).reverse:=by
  rw [Array.toList_append,rev_toList,Array.toList_extract]
  congr 2
  rw [List.drop_take]
  try rfl
include C T in
theorem wp_hiC {o:Array Keyed} {i j mg k k1 b:Nat} {st':SortSt} (ss:SameS st st') (L:Hi (κ:=κ) (π:=π) xs.toList ys.toList o.toList i j) (hi:0 < i) (hi2:i ≤ xs.size) (hj:1 < j) (hj2:j ≤ ys.size) (hb:i + j + b ≤ xs.size + ys.size)
    (hle:∀ x,xs.toList[i - 1]?=some x→Below κ π (ys.toList.take j) [x]):wpS M A E s (hiC xs ys o i j mg k k1) (PHi κ π xs ys st b) st':=by
  unfold hiC
  obtain ⟨x,e1,e2,m⟩:=at_xs (xs:=xs) (i:=i - 1) (by omega)
  refine wpS_bind (wp_elem e1 ?_)
  have L1:=hpush1 T L hi e2 (hle x e2)
  by_cases c1:i - 1=0
  · rw [if_pos (by simpa using c1)]
    exact wpS_pure (.inl ⟨_,rfl,hres_x T.ry ss L1 c1⟩)
  · rw [if_neg (by simpa using c1)]
    have J:JH κ π xs ys st b (o.push x) (i - 1) j st':=⟨ss,L1,by omega,by omega,hj,hj2,by omega⟩
    split
    · exact wpS_pure (.inr ⟨rfl,J⟩)
    · exact wpS_pure ⟨rfl,J⟩
include C T hk in
theorem wp_hiB {o:Array Keyed} {i j mg k bc b:Nat} {st':SortSt} (ss:SameS st st') (L:Hi (κ:=κ) (π:=π) xs.toList ys.toList o.toList i j) (hi:0 < i) (hi2:i ≤ xs.size) (hj:1 < j) (hj2:j ≤ ys.size) (hb:i + j + b ≤ xs.size + ys.size)
    (hle:∀ x y,xs.toList[i - 1]?=some x→ys.toList[j - 1]?=some y→κ x ≤ κ y):wpS M A E s (hiB xs ys o i j mg k bc) (PHi κ π xs ys st b) st':=by
  unfold hiB
  obtain ⟨x,ex,ex',mx⟩:=at_xs (xs:=xs) (i:=i - 1) (by omega)
  obtain ⟨y,ey,ey',my⟩:=at_xs (xs:=ys) (i:=j - 1) (by omega)
  refine wpS_bind (wp_elem ey ?_)
  have L1:=hpush2 T L (by omega) ey' (above_one T.rx ex' (le_xy C T mx my (hle x y ex' ey')))
  by_cases c1:j - 1=1
  · rw [if_pos (by simpa using c1)]
    exact wpS_pure (.inl ⟨_,rfl,hres_f C.pi T ss L1 c1⟩)
  rw [if_neg (by simpa using c1)]
  refine wpS_bind (wp_elem ex ?_)
  refine wpS_bind (wp_gal C (ss.knd.trans hk) (fun n=>match ys.toList[n]? with | some z=>decide (κ z < κ x) | none=>false) (fun n hn=>?_) (T.mx x mx) (fun n m hnm hm e=>?_) (by omega) fun q hq hlo hhi=>?_)
  · obtain ⟨z,z1,z2,z3⟩:=at_xs (xs:=ys) (i:=n) (by omega)
    exact ⟨z,by rw [Nat.zero_add]; exact z1,T.my z z3,by rw [z2]; rfl⟩
  · obtain ⟨z,z1,z2,z3⟩:=at_xs (xs:=ys) (i:=n) (by omega)
    obtain ⟨w,w1,w2,w3⟩:=at_xs (xs:=ys) (i:=m) (by omega)
    rw [w2] at e
    rw [z2]
    have q:=kap_at C.pi (T.my z z3) (T.my w w3) (ris_at T.ry hnm z2 w2)
    simp only [decide_eq_true_eq] at e ⊢
    omega
  · have L2:Hi (κ:=κ) (π:=π) xs.toList ys.toList (o.push y ++ (ys.extract q (j - 1)).reverse).toList i q:=by
      rw [app_rev]
      refine L1.y T.ry q hq fun a ha b hb=>?_
      rw [List.drop_take] at hb
      obtain ⟨n,hn,en⟩:=mem_chunk hb
      have:=hhi (q + n) (by omega) (by omega)
      rw [en] at this
      exact above_one T.rx ex' (le_xy C T mx (List.mem_of_getElem? en) (by simpa using this)) a ha b (List.mem_singleton.mpr rfl)
    have nxt:∀ n,q=n→0 < n→∀ z,xs.toList[i - 1]?=some z→Below κ π (ys.toList.take n) [z]:=fun n en hn z ez=>by
      rw [ex'] at ez
      cases ez
      obtain ⟨w,w1,w2,w3⟩:=at_xs (xs:=ys) (i:=n - 1) (by omega)
      have:=hlo (n - 1) (by omega)
      rw [w2] at this
      exact above_one T.ry w2 (le_yx C T mx w3 (by simpa using this))
    dsimp only
    by_cases k0:j - 1 - q > 0
    · rw [if_pos k0]
      by_cases c2:q=1
      · rw [if_pos (by simpa using c2)]
        exact wpS_pure (.inl ⟨_,rfl,hres_f C.pi T ss L2 c2⟩)
      rw [if_neg (by simpa using c2)]
      by_cases c3:q=0
      · rw [if_pos (by simpa using c3)]
        exact wpS_pure (.inl ⟨_,rfl,hres_y T.rx ss L2 c3⟩)
      rw [if_neg (by simpa using c3)]
      exact wp_hiC C T ss L2 hi hi2 (by omega) (by omega) (by omega) (nxt _ rfl (by omega))
    · rw [if_neg k0]
      exact wp_hiC C T ss L1 hi hi2 (by omega) (by omega) (by omega) (nxt _ (by omega) (by omega))
include C T hk in
theorem wp_hiA {o:Array Keyed} {i j mg bc ac b:Nat} {st':SortSt} (J:JH κ π xs ys st b o i j st'):wpS M A E s (hiA xs ys o i j mg bc ac) (PHi κ π xs ys st b) st':=by
  obtain ⟨ss,L,hi,hi2,hj,hj2,hb⟩:=J
  unfold hiA
  refine wpS_bind (wp_smg ?_)
  have ss:=sameG (g:=mg) ss
  obtain ⟨y,ey,ey',my⟩:=at_xs (xs:=ys) (i:=j - 1) (by omega)
  refine wpS_bind (wp_elem ey ?_)
  refine wpS_bind (wp_gal C (ss.knd.trans hk) (fun n=>match xs.toList[n]? with | some z => !decide (κ y < κ z) | none=>false) (fun n hn=>?_) (T.my y my) (fun n m hnm hm e=>?_) (by omega) fun q hq hlo hhi=>?_)
  · obtain ⟨z,z1,z2,z3⟩:=at_xs (xs:=xs) (i:=n) (by omega)
    exact ⟨z,by rw [Nat.zero_add]; exact z1,T.mx z z3,by rw [z2]; rfl⟩
  · obtain ⟨z,z1,z2,z3⟩:=at_xs (xs:=xs) (i:=n) (by omega)
    obtain ⟨w,w1,w2,w3⟩:=at_xs (xs:=xs) (i:=m) (by omega)
    rw [w2] at e
    rw [z2]
    have q:=kap_at C.pi (T.mx z z3) (T.mx w w3) (ris_at T.rx hnm z2 w2)
    simp only [Bool.not_eq_true',decide_eq_false_iff_not] at e ⊢
    omega
  · have L2:Hi (κ:=κ) (π:=π) xs.toList ys.toList (o ++ (xs.extract q i).reverse).toList q j:=by
      rw [app_rev]
      refine L.x T.rx q hq fun a ha b hb=>?_
      rw [List.drop_take] at hb
      obtain ⟨n,hn,en⟩:=mem_chunk hb
      have:=hhi (q + n) (by omega) (by omega)
      rw [en] at this
      exact above_one T.ry ey' (le_yx C T (List.mem_of_getElem? en) my (by simpa using this)) a ha b (List.mem_singleton.mpr rfl)
    have nxt:∀ n,q=n→0 < n→∀ x z,xs.toList[n - 1]?=some x→ys.toList[j - 1]?=some z→κ x ≤ κ z:=fun n en hn x z ex ez=>by
      rw [ey'] at ez
      cases ez
      have:=hlo (n - 1) (by omega)
      rw [ex] at this
      simpa using this
    dsimp only
    by_cases k0:i - q > 0
    · rw [if_pos k0]
      by_cases c1:q=0
      · rw [if_pos (by simpa using c1)]
        exact wpS_pure (.inl ⟨_,rfl,hres_x T.ry ss L2 c1⟩)
      rw [if_neg (by simpa using c1)]
      exact wp_hiB C hk T ss L2 (by omega) (by omega) hj hj2 (by omega) (nxt _ rfl (by omega))
    · rw [if_neg k0]
      exact wp_hiB C hk T ss L hi hi2 hj hj2 hb (nxt _ (by omega) (by omega))
include C T hk in
theorem wp_mHi {Q:Array Keyed→SortSt→Prop} (h:∀ o st',Res κ π xs ys st o st'→Q o st'):wpS M A E s (mHi' xs ys) Q st:=by
  rw [mHi'_eq]
  refine wpS_bind (wpS_lift (wpAny_rule ⟨rfl,?_⟩))
  have sz:=T.px
  have sy:=T.py
  obtain ⟨x0,ex0,ex0',mx0⟩:=at_xs (xs:=xs) (i:=xs.size - 1) (by omega)
  obtain ⟨y0,ey0,ey0',my0⟩:=at_xs (xs:=ys) (i:=ys.size - 1) (by omega)
  refine wpS_bind (wp_elem ex0 ?_)
  have L0:Hi (κ:=κ) (π:=π) xs.toList ys.toList (#[x0]:Array Keyed).toList (xs.size - 1) ys.size:=by
    have q:=hpush1 T (o := #[]) (i:=xs.size) (j:=ys.size) ⟨by simp,List.Pairwise.nil,below_nil,below_nil⟩ sz ex0' (above_one T.ry ey0' (le_yx C T mx0 my0 (T.last _ ex0 _ my0)))
    simpa using q
  dsimp only
  by_cases c1:xs.size - 1=0
  · rw [if_pos (by simpa using c1)]
    exact wpS_pure (h _ _ (hres_x T.ry (SameS.refl st) L0 c1))
  rw [if_neg (by simpa using c1)]
  by_cases c2:ys.size=1
  · rw [if_pos (by simpa using c2)]
    exact wpS_pure (h _ _ (hres_f C.pi T (SameS.refl st) L0 c2))
  rw [if_neg (by simpa using c2)]
  refine wpS_bind (wpS_get ?_)
  refine wpS_bind (wpS_forRange (I:=fun x c st' => ∃ i j o mg,c=(none,i,j,o,mg)∧JH κ π xs ys st (x + 1) o i j st') ?_ ?_ ⟨_,_,_,_,rfl,SameS.refl st,L0,by omega,by omega,by omega,by omega,by omega⟩)
  · rintro x c st' _ hx ⟨i,j,o,mg,rfl,ss,L,hi,hi2,hj,hj2,hp⟩
    dsimp only
    refine wpS_bind (wpS_mono (wpS_forRange (I:=fun y c st' => ∃ i j o ac bc,c=(none,i,j,o,ac,bc)∧JH κ π xs ys st (x + 1 + y) o i j st')
      (Q:=fun c st'=>(∃ r,c.1=some r∧Res κ π xs ys st r st') ∨ (c.1=none∧JH κ π xs ys st (x + 1 + 1) c.2.2.2.1 c.2.1 c.2.2.1 st')) ?_ ?_ ⟨_,_,_,_,_,rfl,ss,L,hi,hi2,hj,hj2,by omega⟩) ?_)
    · rintro y c st2 _ hy ⟨i,j,o,ac,bc,rfl,ss,L,hi,hi2,hj,hj2,hp⟩
      dsimp only
      obtain ⟨x1,ex,ex',mx⟩:=at_xs (xs:=xs) (i:=i - 1) (by omega)
      obtain ⟨y1,ey,ey',my⟩:=at_xs (xs:=ys) (i:=j - 1) (by omega)
      refine wpS_bind (wp_elem ey (wpS_bind (wp_elem ex (wpS_bind (C.lt _ _ _ _ (ss.knd.trans hk) (T.my _ my) (T.mx _ mx) ?_)))))
      by_cases hlt:κ y1 < κ x1
      · simp only [hlt,decide_true,if_true]
        refine wpS_bind (wp_elem ex ?_)
        have L1:=hpush1 T L hi ex' (above_one T.ry ey' (le_yx C T mx my hlt))
        by_cases c3:i - 1=0
        · rw [if_pos (by simpa using c3)]
          exact wpS_pure (.inl ⟨_,rfl,hres_x T.ry ss L1 c3⟩)
        · rw [if_neg (by simpa using c3)]
          split
          · have J1:JH κ π xs ys st (x + 1 + 1) (o.push x1) (i - 1) j st2:=⟨ss,L1,by omega,by omega,hj,hj2,by omega⟩
            exact wpS_pure (.inr ⟨rfl,J1⟩)
          · exact wpS_pure ⟨_,_,_,_,_,rfl,ss,L1,by omega,by omega,hj,hj2,by omega⟩
      · simp only [hlt,decide_false,Bool.false_eq_true,if_false]
        refine wpS_bind (wp_elem ey ?_)
        have L1:=hpush2 T L (by omega) ey' (above_one T.rx ex' (le_xy C T mx my (by omega)))
        by_cases c3:j - 1=1
        · rw [if_pos (by simpa using c3)]
          exact wpS_pure (.inl ⟨_,rfl,hres_f C.pi T ss L1 c3⟩)
        · rw [if_neg (by simpa using c3)]
          split
          · have J1:JH κ π xs ys st (x + 1 + 1) (o.push y1) i (j - 1) st2:=⟨ss,L1,hi,hi2,by omega,by omega,by omega⟩
            exact wpS_pure (.inr ⟨rfl,J1⟩)
          · exact wpS_pure ⟨_,_,_,_,_,rfl,ss,L1,hi,hi2,by omega,by omega,by omega⟩
    · rintro c st2 ⟨i,j,o,ac,bc,rfl,ss,L,hi,hi2,hj,hj2,hp⟩
      have J1:JH κ π xs ys st (x + 1 + 1) o i j st2:=⟨ss,L,hi,hi2,hj,hj2,by omega⟩
      exact .inr ⟨rfl,J1⟩
    · rintro ⟨r0,i,j,o,ac,bc⟩ st2 hq
      rcases hq with ⟨r,e,R⟩ | ⟨e,J⟩
      · have e:r0=some r:=e
        subst e
        exact wpS_pure (wpS_pure (h _ _ R))
      · have e:r0=none:=e
        subst e
        have J:JH κ π xs ys st (x + 1 + 1) o i j st2:=J
        refine wpS_bind (wpS_lift (wpAny_rule ⟨rfl,?_⟩))
        refine wpS_bind (wpS_mono (wpS_forRange (I:=fun y c st'=>c.1=none∧JH κ π xs ys st (x + 1 + 1) c.2.2.2.1 c.2.1 c.2.2.1 st') (Q:=fun c st'=>PH1 κ π xs ys st (x + 1 + 1) c st') ?_ ?_ ⟨rfl,J⟩) ?_)
        · rintro y ⟨r0,i,j,o,mg2,ac,bc⟩ st3 _ hy ⟨e,J⟩
          have e:r0=none:=e
          subst e
          dsimp only at J
          refine wpS_mono (Q:=PHi κ π xs ys st (x + 1 + 1)) ?_ (fun r st' hq=>by cases r <;> exact hq)
          have key:wpS M A E s (if mg2 > 1 then hiA xs ys o i j (mg2 - 1) bc ac else hiA xs ys o i j mg2 bc ac) (PHi κ π xs ys st (x + 1 + 1)) st3:=by
            split
            · exact wp_hiA C hk T J
            · exact wp_hiA C hk T J
          exact key
        · rintro c st3 ⟨e,J⟩
          exact .inr ⟨e,J⟩
        · rintro ⟨r0,i,j,o,mg2,ac,bc⟩ st3 hq
          rcases hq with ⟨r,e,R⟩ | ⟨e,J⟩
          · have e:r0=some r:=e
            subst e
            exact wpS_pure (wpS_pure (h _ _ R))
          · have e:r0=none:=e
            subst e
            refine wpS_bind (wp_smg (wpS_pure ⟨_,_,_,_,rfl,?_⟩))
            obtain ⟨ss,L,hi,hj,hp⟩:=J
            exact ⟨sameG ss,L,hi,hj,hp⟩
  · rintro c st' ⟨i,j,o,mg,rfl,ss,L,hi,hi2,hj,hj2,hp⟩
    omega
end
end TS
namespace TS
open PySem PyProof.Rows
theorem mAt_eq (n:Nat):mergeAt' n=(do
  let q ← get
  let (some (sa,na,pw),some (sb,nb,_)):=((pendingOf q)[n]?,(pendingOf q)[n + 1]?) | unsupported "internal:list.sort.pending"
  set (setPending q (((pendingOf q).setIfInBounds n (sa,na + nb,pw)).eraseIdxIfInBounds (n + 1)))
  let some k ← gal' false (← elem' (arrOf q) sb) (arrOf q) sa na 0 | return false
  let (sa,na):=(sa + k,na - k)
  if na == 0 then return true
  let some nb ← gal' true (← elem' (arrOf q) (sa + na - 1)) (arrOf q) sb nb (nb - 1) | return false
  if nb == 0 then return true
  let x:=(arrOf q).extract sa sb
  let y:=(arrOf q).extract sb (sb + nb)
  let m ← if na ≤ nb then mLo' x y else mHi' x y
  modify fun q=>setArr q (m.toList.zipIdx.foldl (fun a (p,j)=>a.setIfInBounds (sa + j) p) (arrOf q))
  return (failedOf (← get)).isNone):=rfl
theorem back_gen {α:Type} (sa:Nat):∀ (l:List α) (n:Nat) (xs:Array α),sa + n + l.length ≤ xs.size →
    ((l.zipIdx n).foldl (fun a (q:α × Nat)=>match q with | (p,j)=>a.setIfInBounds (sa + j) p) xs).toList=xs.toList.take (sa + n) ++ l ++ xs.toList.drop (sa + n + l.length)
  | [],n,xs,h=>by simp
  | p :: l,n,xs,h=>by
    rw [List.zipIdx_cons,List.foldl_cons,back_gen sa l (n + 1) _ (by simp at h ⊢; omega)]
    simp only [Array.toList_setIfInBounds,List.length_cons] at h ⊢
    have hlt:sa + n < xs.toList.length:=by simp; omega
    rw [show sa + (n + 1)=sa + n + 1 by omega]
    have e1:(xs.toList.set (sa + n) p).take (sa + n + 1)=xs.toList.take (sa + n) ++ [p]:=by
      rw [List.take_succ,List.take_set_of_le (Nat.le_refl _),List.getElem?_set_self hlt]; rfl
    have e2:(xs.toList.set (sa + n) p).drop (sa + n + 1 + l.length)=xs.toList.drop (sa + n + (l.length + 1)):=by
      rw [List.drop_set_of_lt (by omega)]
      congr 1; omega
    rw [e1,e2]
    simp
theorem back_eq {α:Type} (sa:Nat) (l:List α) (xs:Array α) (h:sa + l.length ≤ xs.size) :
    (l.zipIdx.foldl (fun a (q:α × Nat)=>match q with | (p,j)=>a.setIfInBounds (sa + j) p) xs).toList=xs.toList.take sa ++ l ++ xs.toList.drop (sa + l.length):=by
  have:=back_gen sa l 0 xs (by simpa using h)
  simpa using this
section
variable {M:Model} {A:Around} {E:Value→Shared→Prop} {s:Shared} {κ π:Keyed→Int} {a₀:Array Keyed} {kd:SortKind} (C:Cmp M A E s κ π a₀ kd)
theorem wp_set {st st':SortSt} {Q:PUnit→SortSt→Prop} (h:Q ⟨⟩ st'):wpS M A E s (set st':StateT SortSt Sem PUnit) Q st:=by
  unfold wpS
  rw [StateT.run_set]
  exact wpAny_pure ⟨rfl,h⟩
def sepL (π:Keyed→Int) (l m:List Keyed):Prop := ∀ a ∈ l, ∀ b ∈ m,π a ≤ π b
include C in
theorem wp_mAt {n:Nat} {pre X Y post:List Keyed} {pw pw2:Nat} {st:SortSt} {Q:Bool→SortSt→Prop} (hk:kindOf st=kd) (hf:failedOf st=none) (ha:(arrOf st).toList=pre ++ X ++ Y ++ post) (hm:∀ z ∈ (arrOf st).toList,z ∈ a₀.toList)
    (p1:(pendingOf st)[n]?=some (pre.length,X.length,pw)) (p2:(pendingOf st)[n + 1]?=some (pre.length + X.length,Y.length,pw2)) (rX:Ris κ π X) (rY:Ris κ π Y) (nX:X ≠ []) (nY:Y ≠ []) (sp:sepL π X Y)
    (h:∀ Z st',Ris κ π Z→Z.Perm (X ++ Y)→(arrOf st').toList=pre ++ Z ++ post→kindOf st'=kd→failedOf st'=none→pendingOf st'=((pendingOf st).setIfInBounds n (pre.length,X.length + Y.length,pw)).eraseIdxIfInBounds (n + 1)→Q true st') :
    wpS M A E s (mergeAt' n) Q st:=by
  rw [mAt_eq]
  refine wpS_bind (wpS_get ?_)
  rw [p1,p2]
  dsimp only
  refine wpS_bind (wp_set ?_)
  have mX:∀ z ∈ X,z ∈ a₀.toList:=fun z hz=>hm z (by rw [ha]; simp [hz])
  have mY:∀ z ∈ Y,z ∈ a₀.toList:=fun z hz=>hm z (by rw [ha]; simp [hz])
  have lX:0 < X.length:=List.length_pos_iff.mpr nX
  have lY:0 < Y.length:=List.length_pos_iff.mpr nY
  have sz:(arrOf st).size=pre.length + X.length + Y.length + post.length:=by
    have:=congrArg List.length ha
    simpa [Nat.add_assoc] using this
  have atX:∀ i,i < X.length→(arrOf st)[pre.length + i]?=X[i]?:=fun i hi=>by
    rw [← Array.getElem?_toList,ha,List.append_assoc,List.append_assoc,List.getElem?_append_right (by omega),Nat.add_sub_cancel_left,List.getElem?_append_left hi]
  have atY:∀ i,i < Y.length→(arrOf st)[pre.length + X.length + i]?=Y[i]?:=fun i hi=>by
    rw [← Array.getElem?_toList,ha,List.append_assoc,List.getElem?_append_right (by simp)]
    simp only [List.length_append]
    rw [Nat.add_sub_cancel_left,List.getElem?_append_left hi]
  obtain ⟨y0,hy0⟩:∃ y,Y[0]?=some y:=⟨Y[0],by simp⟩
  have my0:y0 ∈ Y:=List.mem_of_getElem? hy0
  refine wpS_bind (wp_elem (z:=y0) (by have:=atY 0 lY; rw [Nat.add_zero] at this; rw [this]; exact hy0) ?_)
  refine wpS_bind (wp_gal C hk (fun i=>match X[i]? with | some z => !decide (κ y0 < κ z) | none=>false) (fun i hi=>?_) (mY y0 my0) (fun i j hij hj e=>?_) lX fun k hkl hlo hhi=>?_)
  · have e:X[i]?=some X[i]:=by simp [hi]
    exact ⟨X[i],by rw [atX i hi]; exact e,mX _ (List.getElem_mem hi),by rw [e]; rfl⟩
  · have ei:X[i]?=some (X[i]'(by omega)):=List.getElem?_eq_getElem (by omega)
    have ej:X[j]?=some (X[j]'hj):=List.getElem?_eq_getElem hj
    rw [ej] at e
    rw [ei]
    have q:=kap_at C.pi (mX _ (List.getElem_mem _)) (mX _ (List.getElem_mem _)) (ris_at rX hij ei ej)
    simp only [Bool.not_eq_true',decide_eq_false_iff_not] at e ⊢
    omega
  dsimp only
  have pb:Below κ π (X.take k) Y:=fun a hA b hB=>by
    obtain ⟨i,hi,ei⟩:=mem_take hA
    have:=hlo i hi
    rw [ei] at this
    have q:rk κ π a ≤ rk κ π y0:=rk_le (by simpa using this) (sp a (List.mem_of_getElem? ei) y0 my0)
    obtain ⟨j,hj,ej⟩:=List.mem_iff_getElem.mp hB
    exact Int.le_trans q (ris_at rY (Nat.zero_le j) hy0 (by rw [← ej]; exact List.getElem?_eq_getElem hj))
  have same:∀ Z,Z=X ++ Y→Ris κ π Z→Q true (setPending st (((pendingOf st).setIfInBounds n (pre.length,X.length + Y.length,pw)).eraseIdxIfInBounds (n + 1))):=fun Z e r=>by
    refine h Z _ r (by rw [e]) ?_ hk hf rfl
    show (arrOf st).toList=_
    rw [ha,e]; simp
  by_cases c1:X.length - k=0
  · rw [if_pos (by simpa using c1)]
    refine wpS_pure (same _ rfl (ris_app rX rY ?_))
    rw [List.take_of_length_le (by omega)] at pb
    exact pb
  rw [if_neg (by simpa using c1)]
  have eL:pre.length + k + (X.length - k) - 1=pre.length + (X.length - 1):=by omega
  obtain ⟨xl,hxl⟩:∃ x,X[X.length - 1]?=some x:=⟨X[X.length - 1],by simp [lX]⟩
  have mxl:xl ∈ X:=List.mem_of_getElem? hxl
  refine wpS_bind (wp_elem (z:=xl) (by rw [eL,atX _ (by omega)]; exact hxl) ?_)
  refine wpS_bind (wp_gal C hk (fun i=>match Y[i]? with | some z=>decide (κ z < κ xl) | none=>false) (fun i hi=>?_) (mX xl mxl) (fun i j hij hj e=>?_) (by omega) fun m hml hlo2 hhi2=>?_)
  · have e:Y[i]?=some Y[i]:=by simp [hi]
    exact ⟨Y[i],by rw [atY i hi]; exact e,mY _ (List.getElem_mem hi),by rw [e]; rfl⟩
  · have ei:Y[i]?=some (Y[i]'(by omega)):=List.getElem?_eq_getElem (by omega)
    have ej:Y[j]?=some (Y[j]'hj):=List.getElem?_eq_getElem hj
    rw [ej] at e
    rw [ei]
    have q:=kap_at C.pi (mY _ (List.getElem_mem _)) (mY _ (List.getElem_mem _)) (ris_at rY hij ei ej)
    simp only [decide_eq_true_eq] at e ⊢
    omega
  dsimp only
  have xs_le:∀ a ∈ X,rk κ π a ≤ rk κ π xl:=fun a hA=>by
    obtain ⟨i,hi,ei⟩:=List.mem_iff_getElem.mp hA
    exact ris_at rX (show i ≤ X.length - 1 by omega) (by rw [← ei]; exact List.getElem?_eq_getElem hi) hxl
  have yb:Below κ π X (Y.drop m):=fun a hA b hB=>by
    obtain ⟨i,hi,ei⟩:=List.mem_iff_getElem.mp hB
    have hi':m + i < Y.length:=by simp at hi; omega
    have eb:Y[m + i]?=some b:=by rw [← ei,List.getElem_drop]; exact List.getElem?_eq_getElem hi'
    have:=hhi2 (m + i) (by omega) hi'
    rw [eb] at this
    exact Int.le_trans (xs_le a hA) (rk_le (by simpa using this) (sp xl mxl b (List.mem_of_getElem? eb)))
  by_cases c2:m=0
  · rw [if_pos (by simpa using c2)]
    subst c2
    exact wpS_pure (same _ rfl (ris_app rX rY (by simpa using yb)))
  rw [if_neg (by simpa using c2)]
  have ex:((arrOf st).extract (pre.length + k) (pre.length + X.length)).toList=X.drop k:=by
    rw [Array.toList_extract,ha]
    have e:List.extract (pre ++ X ++ Y ++ post) (pre.length + k) (pre.length + X.length)=((pre ++ X ++ Y ++ post).drop (pre.length + k)).take (pre.length + X.length - (pre.length + k)):=by simp [List.extract]
    rw [e,List.append_assoc,List.append_assoc,List.drop_append,List.drop_of_length_le (by omega),List.nil_append,Nat.add_sub_cancel_left,List.drop_append_of_le_length (by omega),show pre.length + X.length - (pre.length + k)=X.length - k by omega,List.take_append_of_le_length (by simp)]
    exact List.take_of_length_le (by simp)
  have ey:((arrOf st).extract (pre.length + X.length) (pre.length + X.length + m)).toList=Y.take m:=by
    rw [Array.toList_extract,ha]
    have e:List.extract (pre ++ X ++ Y ++ post) (pre.length + X.length) (pre.length + X.length + m)=((pre ++ X ++ Y ++ post).drop (pre.length + X.length)).take (pre.length + X.length + m - (pre.length + X.length)):=by simp [List.extract]
    rw [e,List.append_assoc (pre ++ X),List.drop_append,List.drop_of_length_le (by simp),List.nil_append,show pre.length + X.length - (pre ++ X).length=0 by simp,List.drop_zero,Nat.add_sub_cancel_left,List.take_append_of_le_length (by omega)]
  generalize hx:(arrOf st).extract (pre.length + k) (pre.length + X.length)=x at ex
  generalize hy:(arrOf st).extract (pre.length + X.length) (pre.length + X.length + m)=y at ey
  have szx:x.size=X.length - k:=by rw [← Array.length_toList,ex]; simp
  have szy:y.size=m:=by rw [← Array.length_toList,ey]; simp; omega
  have T:Two κ π a₀ x y:={
    mx:=fun z hz=>by rw [ex] at hz; exact mX z (List.mem_of_mem_drop hz)
    my:=fun z hz=>by rw [ey] at hz; exact mY z (List.mem_of_mem_take hz)
    rx:=by rw [ex]; exact ris_drop rX k
    ry:=by rw [ey]; exact ris_take rY m
    sep:=fun a hA b hB=>by rw [ex] at hA; rw [ey] at hB; exact sp a (List.mem_of_mem_drop hA) b (List.mem_of_mem_take hB)
    px:=by omega
    py:=by omega
    first:=fun a b e1 e2=>by
      rw [← Array.getElem?_toList,ex,List.getElem?_drop,Nat.add_zero] at e1
      rw [← Array.getElem?_toList,ey,List.getElem?_take_of_lt (by omega),hy0] at e2
      cases e2
      have:=hhi k (Nat.le_refl _) (by omega)
      rw [e1] at this
      simpa using this
    last:=fun a e1 b hB=>by
      rw [← Array.getElem?_toList,ex,szx,List.getElem?_drop,show k + (X.length - k - 1)=X.length - 1 by omega,hxl] at e1
      cases e1
      rw [ey] at hB
      obtain ⟨i,hi,ei⟩:=mem_take hB
      have:=hlo2 i hi
      rw [ei] at this
      simpa using this }
  have fin:∀ o st',Res κ π x y (setPending st (((pendingOf st).setIfInBounds n (pre.length,X.length + Y.length,pw)).eraseIdxIfInBounds (n + 1))) o st'→wpS M A E s (do
      modify fun q=>setArr q (o.toList.zipIdx.foldl (fun a (p,j)=>a.setIfInBounds (pre.length + k + j) p) (arrOf q))
      return (failedOf (← get)).isNone) Q st':=fun o st' ⟨ss,ro,po⟩=>by
    refine wpS_bind (wpS_modify (wpS_bind (wpS_get (wpS_pure ?_))))
    have hfl:failedOf st'=none:=ss.fld.trans hf
    show Q (failedOf st').isNone _
    rw [hfl]
    have har:arrOf st'=arrOf st:=ss.arr
    have lo:o.toList.length=X.length - k + m:=by rw [po.length_eq]; simp [ex,ey]; omega
    rw [ex,ey] at po
    refine h (X.take k ++ o.toList ++ Y.drop m) _ ?_ ?_ ?_ (ss.knd.trans hk) hfl ss.pnd
    · have b1:Below κ π (X.take k) o.toList:=fun a hA b hB=>by
        rcases List.mem_append.mp (po.mem_iff.mp hB) with z | z
        · exact take_drop_below rX k a hA b z
        · exact pb a hA b (List.mem_of_mem_take z)
      have b2:Below κ π o.toList (Y.drop m):=fun a hA b hB=>by
        rcases List.mem_append.mp (po.mem_iff.mp hA) with z | z
        · exact yb a (List.mem_of_mem_drop z) b hB
        · exact take_drop_below rY m a z b hB
      exact ris_app (ris_app (ris_take rX k) ro b1) (ris_drop rY m) (below_app (below_sub pb fun b hb=>List.mem_of_mem_drop hb) b2)
    · refine (List.Perm.append_right _ (List.Perm.append_left _ po)).trans ?_
      rw [← List.append_assoc,List.take_append_drop,List.append_assoc,List.take_append_drop]
    · show (o.toList.zipIdx.foldl (fun a (q:Keyed × Nat)=>match q with | (p,j)=>a.setIfInBounds (pre.length + k + j) p) (arrOf st')).toList=_
      rw [har,back_eq _ _ _ (by rw [lo,sz]; omega),lo,ha]
      have e1:(pre ++ X ++ Y ++ post).take (pre.length + k)=pre ++ X.take k:=by
        rw [List.append_assoc,List.append_assoc,List.take_append,List.take_of_length_le (by omega),Nat.add_sub_cancel_left,List.take_append_of_le_length (by omega)]
      have e2:(pre ++ X ++ Y ++ post).drop (pre.length + k + (X.length - k + m))=Y.drop m ++ post:=by
        rw [show pre.length + k + (X.length - k + m)=(pre ++ X).length + m by simp; omega,List.append_assoc (pre ++ X),List.drop_append,List.drop_of_length_le (by omega),List.nil_append,Nat.add_sub_cancel_left,List.drop_append_of_le_length (by omega)]
      rw [e1,e2]
      simp
  by_cases c3:X.length - k ≤ m
  · rw [if_pos c3]
    exact wpS_bind (wp_mLo C (st:=setPending st (((pendingOf st).setIfInBounds n (pre.length,X.length + Y.length,pw)).eraseIdxIfInBounds (n + 1))) hk T fin)
  · rw [if_neg c3]
    exact wpS_bind (wp_mHi C (st:=setPending st (((pendingOf st).setIfInBounds n (pre.length,X.length + Y.length,pw)).eraseIdxIfInBounds (n + 1))) hk T fin)
end
end TS
namespace TS
open PySem PyProof.Rows
def kA (f:Keyed→Int) (xs:Array Keyed) (i:Nat):Int:=match xs[i]? with
  | some p=>f p
  | none=>0
theorem kA_of {f:Keyed→Int} {xs:Array Keyed} {i:Nat} {z:Keyed} (h:xs[i]?=some z):kA f xs i=f z:=by unfold kA; rw [h]
theorem kA_eq {f:Keyed→Int} {xs ys:Array Keyed} {i j:Nat} (h:xs[i]?=ys[j]?):kA f xs i=kA f ys j:=by unfold kA; rw [h]
structure Chg (xs zs:Array Keyed) (lo hi:Nat):Prop where
  pm:zs.Perm xs
  out:∀ i,i < lo ∨ hi ≤ i→zs[i]?=xs[i]?
  ins:∀ i,lo ≤ i→i < hi→∃ j,lo ≤ j∧j < hi∧zs[i]?=xs[j]?
theorem Chg.refl (xs:Array Keyed) (lo hi:Nat):Chg xs xs lo hi:=⟨Array.Perm.refl _,fun _ _=>rfl,fun i h1 h2=>⟨i,h1,h2,rfl⟩⟩
theorem Chg.size {xs zs:Array Keyed} {lo hi:Nat} (h:Chg xs zs lo hi):zs.size=xs.size:=h.pm.size_eq
theorem Chg.wide {xs zs:Array Keyed} {lo hi hi':Nat} (h:Chg xs zs lo hi) (g:hi ≤ hi'):Chg xs zs lo hi' where
  pm:=h.pm
  out:=fun i hi2=>h.out i (by omega)
  ins:=fun i h1 h2=>by
    by_cases z:i < hi
    · obtain ⟨j,a,b,c⟩:=h.ins i h1 z
      exact ⟨j,a,by omega,c⟩
    · exact ⟨i,h1,h2,h.out i (by omega)⟩
theorem Chg.mir {xs zs:Array Keyed} {lo hi i0 j0:Nat} (h:Chg xs zs lo hi) (h1:lo ≤ i0) (h2:j0 ≤ hi) (h3:j0 ≤ zs.size):Chg xs (mirror zs i0 j0 ((j0 - i0) / 2)) lo hi where
  pm:=(mirror_perm _ _ _ _).trans h.pm
  out:=fun i hi2=>by
    rw [getElem?_mirror_all h3,if_neg (by omega)]
    exact h.out i hi2
  ins:=fun i a b=>by
    rw [getElem?_mirror_all h3]
    split
    · exact h.ins _ (by omega) (by omega)
    · exact h.ins i a b
theorem kA_mir {f:Keyed→Int} {zs:Array Keyed} {i0 j0:Nat} (h3:j0 ≤ zs.size) (k:Nat):kA f (mirror zs i0 j0 ((j0 - i0) / 2)) k=if i0 ≤ k∧k < j0 then kA f zs (i0 + j0 - 1 - k) else kA f zs k:=by
  have e:=getElem?_mirror_all (i:=i0) h3 k
  by_cases h1:i0 ≤ k∧k < j0
  · rw [if_pos h1] at e ⊢; exact kA_eq e
  · rw [if_neg h1] at e ⊢; exact kA_eq e
section
variable {M:Model} {A:Around} {E:Value→Shared→Prop} {s:Shared} {κ π:Keyed→Int} {a₀:Array Keyed} {kd:SortKind} (C:Cmp M A E s κ π a₀ kd)
def rA (κ π:Keyed→Int) (xs:Array Keyed) (i:Nat):Int:=kA κ xs i * 1048576 + kA π xs i
def RSeg (κ π:Keyed→Int) (xs:Array Keyed) (lo hi:Nat):Prop := ∀ i j,lo ≤ i→i ≤ j→j < hi→rA κ π xs i ≤ rA κ π xs j
def Fresh (π:Keyed→Int) (xs:Array Keyed) (m:Nat):Prop := ∀ i j,i ≤ j→m ≤ j→j < xs.size→kA π xs i ≤ kA π xs j
structure TB (a₀:Array Keyed) (kd:SortKind) (st:SortSt):Prop where
  pm:(arrOf st).Perm a₀
  kind:kindOf st=kd
  fld:failedOf st=none
theorem TB.size {st:SortSt} (h:TB a₀ kd st):(arrOf st).size=a₀.size:=h.pm.size_eq
theorem TB.mem {st:SortSt} (h:TB a₀ kd st):∀ z ∈ (arrOf st).toList,z ∈ a₀.toList:=fun z hz=>(Array.perm_iff_toList_perm.mp h.pm).mem_iff.mp hz
theorem mem_at {a₀ xs:Array Keyed} (h:xs.Perm a₀) {i:Nat} (hi:i < xs.size):∃ z,xs[i]?=some z∧z ∈ a₀.toList:=⟨xs[i],by simp [hi],(Array.perm_iff_toList_perm.mp h).mem_iff.mp (by simp)⟩
include C in
theorem pi_at {xs:Array Keyed} (h:xs.Perm a₀) {i:Nat} (hi:i < xs.size):0 ≤ kA π xs i∧kA π xs i < 1048576:=by
  obtain ⟨z,z1,z2⟩:=mem_at h hi
  rw [kA_of z1]
  exact C.pi z z2
include C in
theorem wp_ltA {st:SortSt} {i j:Nat} {Q:Option Bool→SortSt→Prop} (hB:TB a₀ kd st) (hi:i < a₀.size) (hj:j < a₀.size) (h:Q (some (decide (kA κ (arrOf st) i < kA κ (arrOf st) j))) st):wpS M A E s (ltAt' i j) Q st:=by
  obtain ⟨x,x1,x2⟩:=mem_at hB.pm (i:=i) (by rw [hB.size]; exact hi)
  obtain ⟨y,y1,y2⟩:=mem_at hB.pm (i:=j) (by rw [hB.size]; exact hj)
  rw [ltAt'_eq]
  refine wpS_bind (wpS_get ?_)
  refine wpS_bind (wp_elem x1 (wpS_bind (wp_elem y1 (C.lt st x y Q hB.kind x2 y2 ?_))))
  rw [kA_of x1,kA_of y1] at h
  exact h
def Cnt (κ π:Keyed→Int) (a₀:Array Keyed) (kd:SortKind) (st:SortSt) (lo hi:Nat) (st':SortSt):Prop:=TB a₀ kd st'∧pendingOf st'=pendingOf st∧Chg (arrOf st) (arrOf st') lo hi∧RSeg κ π (arrOf st') lo hi
def ascT (lo n nr:Nat):StateT SortSt Sem (Option (Option Nat) × Nat) :=
  forIn [n:nr] ((none,n):Option (Option Nat) × Nat) fun _ r=>do
    let x ← ltAt' (lo + r.snd) (lo + r.snd - 1)
    match x with
    | some sm=>if sm=true then pure (ForInStep.done (none,r.snd)) else pure (ForInStep.yield (none,r.snd + 1))
    | _=>pure (ForInStep.done (some none,r.snd))
include C in
theorem wp_ascT {st:SortSt} {xs:Array Keyed} {lo n nr:Nat} {Q:Option (Option Nat) × Nat→SortSt→Prop} (hB:TB a₀ kd st) (hn:1 ≤ n) (hnr:n ≤ nr) (hs:lo + nr ≤ a₀.size) (fr:Fresh π xs lo) (ch:Chg xs (arrOf st) lo (lo + n)) (hr:RSeg κ π (arrOf st) lo (lo + n))
    (h:∀ m,n ≤ m→m ≤ nr→RSeg κ π (arrOf st) lo (lo + m)→(m=nr ∨ kA κ (arrOf st) (lo + m) < kA κ (arrOf st) (lo + m - 1))→Q (none,m) st):wpS M A E s (ascT lo n nr) Q st:=by
  unfold ascT
  refine wpS_forRange (I:=fun x c st'=>st'=st∧c=(none,x)∧RSeg κ π (arrOf st) lo (lo + x)) ?_ ?_ ⟨rfl,rfl,hr⟩
  · rintro x c st' hx1 hx2 ⟨rfl,rfl,hr'⟩
    dsimp only
    refine wpS_bind (wp_ltA C hB (by omega) (by omega) ?_)
    by_cases hl:kA κ (arrOf st') (lo + x) < kA κ (arrOf st') (lo + x - 1)
    · simp only [hl,decide_true,if_true]
      exact wpS_pure (h x hx1 (by omega) hr' (.inr hl))
    · simp only [hl,decide_false,Bool.false_eq_true,if_false]
      refine wpS_pure ⟨rfl,rfl,fun i j a1 a2 a3=>?_⟩
      by_cases z:j < lo + x
      · exact hr' i j a1 a2 z
      · have ej:j=lo + x:=by omega
        subst ej
        by_cases zi:i=lo + x
        · subst zi; exact Int.le_refl _
        · have sz:=hB.size
          have szx:=ch.size
          have q:=hr' i (lo + x - 1) a1 (by omega) (by omega)
          have p1:=pi_at C hB.pm (i:=i) (by omega)
          have p2:=pi_at C hB.pm (i:=lo + x - 1) (by omega)
          have p3:=pi_at C hB.pm (i:=lo + x) (by omega)
          have fx:kA π (arrOf st') i ≤ kA π (arrOf st') (lo + x):=by
            obtain ⟨k,k1,k2,k3⟩:=(ch.wide (show lo + n ≤ lo + x by omega)).ins i a1 (by omega)
            rw [kA_eq k3,kA_eq (ch.out (lo + x) (by omega))]
            exact fr k (lo + x) (by omega) (by omega) (by omega)
          unfold rA at q ⊢
          omega
  · rintro c st' ⟨rfl,rfl,hr'⟩
    rw [show max n nr=nr by omega] at hr' ⊢
    exact h nr hnr (Nat.le_refl _) hr' (.inl rfl)
def tailT (lo n nr:Nat):StateT SortSt Sem (Option Nat):=do
  reverseSlice' lo (lo + n)
  let r ← ascT lo n nr
  match r.fst with
  | some a=>pure a
  | none=>pure (some r.snd)
theorem wp_rev {st:SortSt} {i j:Nat} {Q:Unit→SortSt→Prop} (h:Q () (setArr st (mirror (arrOf st) i j ((j - i) / 2)))):wpS M A E s (reverseSlice' i j) Q st:=by
  rw [reverseSlice'_eq]; exact wpS_modify h
theorem TB.set {st:SortSt} (h:TB a₀ kd st) {zs:Array Keyed} (hp:zs.Perm (arrOf st)):TB a₀ kd (setArr st zs):=⟨hp.trans h.pm,h.kind,h.fld⟩
include C in
theorem wp_tailT {st0 st:SortSt} {lo n nr:Nat} {Q:Option Nat→SortSt→Prop} (hB:TB a₀ kd st) (hp:pendingOf st=pendingOf st0) (hn:1 ≤ n) (hnr:n ≤ nr) (hs:lo + nr ≤ a₀.size) (fr:Fresh π (arrOf st0) lo) (ch:Chg (arrOf st0) (arrOf st) lo (lo + n))
    (hf:∀ i j,lo ≤ i→i ≤ j→j < lo + n→rA κ π (arrOf st) j ≤ rA κ π (arrOf st) i) (h:∀ m st',1 ≤ m→m ≤ nr→Cnt κ π a₀ kd st0 lo (lo + m) st'→Q (some m) st'):wpS M A E s (tailT lo n nr) Q st:=by
  unfold tailT
  have sz:lo + n ≤ (arrOf st).size:=by rw [hB.size]; omega
  refine wpS_bind (wp_rev ?_)
  have hB':TB a₀ kd (setArr st (mirror (arrOf st) lo (lo + n) ((lo + n - lo) / 2))):=hB.set (mirror_perm _ _ _ _)
  have ch':Chg (arrOf st0) (mirror (arrOf st) lo (lo + n) ((lo + n - lo) / 2)) lo (lo + n):=ch.mir (Nat.le_refl _) (Nat.le_refl _) sz
  refine wpS_bind (wp_ascT C hB' hn hnr hs fr ch' (fun i j a1 a2 a3=>?_) fun m m1 m2 m3 _=>wpS_pure (h m _ (by omega) m2 ⟨hB',hp,ch'.wide (by omega),m3⟩))
  show rA κ π (mirror (arrOf st) _ _ _) i ≤ rA κ π (mirror (arrOf st) _ _ _) j
  unfold rA
  rw [kA_mir sz,kA_mir sz,kA_mir sz,kA_mir sz,if_pos (by omega),if_pos (by omega),if_pos (by omega),if_pos (by omega)]
  exact hf _ _ (by omega) (by omega) (by omega)
end
end TS
namespace TS
open PySem PyProof.Rows
section
variable {M:Model} {A:Around} {E:Value→Shared→Prop} {s:Shared} {κ π:Keyed→Int} {a₀:Array Keyed} {kd:SortKind} (C:Cmp M A E s κ π a₀ kd)
structure Dn (κ π:Keyed→Int) (a₀:Array Keyed) (kd:SortKind) (st0:SortSt) (lo x q:Nat) (st:SortSt):Prop where
  tb:TB a₀ kd st
  pd:pendingOf st=pendingOf st0
  ch:Chg (arrOf st0) (arrOf st) lo (lo + x)
  le:q + 1 ≤ x
  un:∀ i,lo + x - (q + 1) ≤ i→(arrOf st)[i]?=(arrOf st0)[i]?
  eq:∀ i,lo + x - (q + 1) ≤ i→i < lo + x→kA κ (arrOf st) i=kA κ (arrOf st) (lo + x - 1)
  fl:∀ i j,lo ≤ i→i ≤ j→j < lo + x - (q + 1)→rA κ π (arrOf st) j ≤ rA κ π (arrOf st) i
  gt:∀ i,lo ≤ i→i < lo + x - (q + 1)→kA κ (arrOf st) (lo + x - 1) < kA κ (arrOf st) i
def Fall (κ π:Keyed→Int) (zs:Array Keyed) (lo hi:Nat):Prop := ∀ i j,lo ≤ i→i ≤ j→j < hi→rA κ π zs j ≤ rA κ π zs i
include C in
theorem Dn.fall {st0 st:SortSt} {lo x q:Nat} (h:Dn κ π a₀ kd st0 lo x q st) (fr:Fresh π (arrOf st0) lo) (hs:lo + x ≤ a₀.size):Fall κ π (mirror (arrOf st) (lo + x - (q + 1)) (lo + x) ((lo + x - (lo + x - (q + 1))) / 2)) lo (lo + x):=by
  intro i j a1 a2 a3
  have sz:lo + x ≤ (arrOf st).size:=by rw [h.tb.size]; omega
  have sz0:(arrOf st0).size=(arrOf st).size:=h.ch.size.symm
  have le:=h.le
  unfold rA
  rw [kA_mir sz,kA_mir sz,kA_mir sz,kA_mir sz]
  by_cases zi:lo + x - (q + 1) ≤ i
  · rw [if_pos (by omega),if_pos (by omega),if_pos (by omega),if_pos (by omega),h.eq _ (by omega) (by omega),h.eq (lo + x - (q + 1) + (lo + x) - 1 - i) (by omega) (by omega),kA_eq (h.un (lo + x - (q + 1) + (lo + x) - 1 - j) (by omega)),kA_eq (h.un (lo + x - (q + 1) + (lo + x) - 1 - i) (by omega))]
    have:=fr (lo + x - (q + 1) + (lo + x) - 1 - j) (lo + x - (q + 1) + (lo + x) - 1 - i) (by omega) (by omega) (by omega)
    omega
  · rw [if_neg (c:=_∧i < _) (by omega),if_neg (c:=_∧i < _) (by omega)]
    by_cases zj:lo + x - (q + 1) ≤ j
    · rw [if_pos (by omega),if_pos (by omega),h.eq _ (by omega) (by omega)]
      have g:=h.gt i a1 (by omega)
      have p1:=pi_at C h.tb.pm (i:=lo + x - (q + 1) + (lo + x) - 1 - j) (by omega)
      have p2:=pi_at C h.tb.pm (i:=i) (by omega)
      omega
    · rw [if_neg (by omega),if_neg (by omega)]
      exact h.fl i j a1 a2 (by omega)
include C in
theorem Dn.fall0 {st0 st:SortSt} {lo x:Nat} (h:Dn κ π a₀ kd st0 lo x 0 st) (hs:lo + x ≤ a₀.size):Fall κ π (arrOf st) lo (lo + x):=by
  intro i j a1 a2 a3
  have sz:lo + x ≤ (arrOf st).size:=by rw [h.tb.size]; omega
  have le:=h.le
  by_cases zj:j < lo + x - (0 + 1)
  · exact h.fl i j a1 a2 zj
  · have ej:j=lo + x - 1:=by omega
    by_cases zi:i=j
    · subst zi; exact Int.le_refl _
    · have g:=h.gt i a1 (by omega)
      have p1:=pi_at C h.tb.pm (i:=lo + x - 1) (by omega)
      have p2:=pi_at C h.tb.pm (i:=i) (by omega)
      unfold rA
      rw [ej]
      omega
def descT (lo n nr:Nat):StateT SortSt Sem (Option (Option Nat) × Nat × Nat) :=
  forIn [n:nr] ((none,n,0):Option (Option Nat) × Nat × Nat) fun _ r=>do
    let x ← ltAt' (lo + r.snd.fst) (lo + r.snd.fst - 1)
    match x with
    | some sm =>
      if sm=true then
        if r.snd.snd > 0 then do
          reverseSlice' (lo + r.snd.fst - (r.snd.snd + 1)) (lo + r.snd.fst)
          pure (ForInStep.yield (none,r.snd.fst + 1,0))
        else pure (ForInStep.yield (none,r.snd.fst + 1,0))
      else do
        let y ← ltAt' (lo + r.snd.fst - 1) (lo + r.snd.fst)
        match y with
        | some lg=>if lg=true then pure (ForInStep.done (none,r.snd.fst,r.snd.snd)) else pure (ForInStep.yield (none,r.snd.fst + 1,r.snd.snd + 1))
        | _=>pure (ForInStep.done (some none,r.snd.fst,r.snd.snd))
    | _=>pure (ForInStep.done (some none,r.snd.fst,r.snd.snd))
include C in
theorem wp_descT {st0 st:SortSt} {lo n nr:Nat} {Q:Option (Option Nat) × Nat × Nat→SortSt→Prop} (fr:Fresh π (arrOf st0) lo) (hn:1 ≤ n) (hnr:n ≤ nr) (hs:lo + nr ≤ a₀.size) (D0:Dn κ π a₀ kd st0 lo n 0 st)
    (h:∀ m q st',n ≤ m→m ≤ nr→Dn κ π a₀ kd st0 lo m q st'→Q (none,m,q) st'):wpS M A E s (descT lo n nr) Q st:=by
  unfold descT
  refine wpS_forRange (I:=fun x c st' => ∃ q,c=(none,x,q)∧Dn κ π a₀ kd st0 lo x q st') ?_ ?_ ⟨0,rfl,D0⟩
  · rintro x c st' hx1 hx2 ⟨q,rfl,D⟩
    dsimp only
    have le:=D.le
    have sz:lo + x ≤ (arrOf st').size:=by rw [D.tb.size]; omega
    have hszA:=D.tb.size
    refine wpS_bind (wp_ltA C D.tb (by omega) (by omega) ?_)
    by_cases hl:kA κ (arrOf st') (lo + x) < kA κ (arrOf st') (lo + x - 1)
    · simp only [hl,decide_true,if_true]
      have mk:∀ zs:Array Keyed,zs.Perm (arrOf st')→Chg (arrOf st0) zs lo (lo + x)→Fall κ π zs lo (lo + x)→(∀ i,lo ≤ i→i < lo + x→∃ j,lo ≤ j∧j < lo + x∧zs[i]?=(arrOf st')[j]?)→zs[lo + x]?=(arrOf st')[lo + x]?→(∀ i,lo + x ≤ i→zs[i]?=(arrOf st0)[i]?)→Dn κ π a₀ kd st0 lo (x + 1) 0 (setArr st' zs):=fun zs hp hc hf hin hx hun=>{
        tb:=D.tb.set hp
        pd:=D.pd
        ch:=hc.wide (by omega)
        le:=by omega
        un:=fun i hi=>hun i (by omega)
        eq:=fun i a b=>by congr 1; omega
        fl:=fun i j a b c=>hf i j a b (by omega)
        gt:=fun i a b=>by
          show kA κ zs (lo + (x + 1) - 1) < kA κ zs i
          obtain ⟨j,j1,j2,j3⟩:=hin i a (by omega)
          rw [show lo + (x + 1) - 1=lo + x by omega,kA_eq hx,kA_eq j3]
          by_cases z:j < lo + x - (q + 1)
          · have:=D.gt j j1 z
            omega
          · rw [D.eq j (by omega) j2]
            exact hl }
      by_cases hq:q > 0
      · rw [if_pos hq]
        refine wpS_bind (wp_rev (wpS_pure ⟨0,rfl,mk _ (mirror_perm _ _ _ _) (D.ch.mir (by omega) (Nat.le_refl _) sz) (D.fall C fr (by omega)) (fun i a b=>?_) ?_ (fun i a=>?_)⟩))
        · rw [getElem?_mirror_all sz]
          split
          · exact ⟨_,by omega,by omega,rfl⟩
          · exact ⟨i,a,b,rfl⟩
        · rw [getElem?_mirror_all sz,if_neg (by omega)]
        · rw [getElem?_mirror_all sz,if_neg (by omega)]
          exact D.un i (by omega)
      · rw [if_neg hq]
        have:q=0:=by omega
        subst this
        have D1:=mk (arrOf st') (Array.Perm.refl _) D.ch (D.fall0 C (by omega)) (fun i a b=>⟨i,a,b,rfl⟩) rfl (fun i a=>D.un i (by omega))
        exact wpS_pure ⟨0,rfl,⟨⟨D1.tb.pm,D1.tb.kind,D1.tb.fld⟩,D1.pd,D1.ch,D1.le,D1.un,D1.eq,D1.fl,D1.gt⟩⟩
    · simp only [hl,decide_false,Bool.false_eq_true,if_false]
      refine wpS_bind (wp_ltA C D.tb (by omega) (by omega) ?_)
      by_cases hg:kA κ (arrOf st') (lo + x - 1) < kA κ (arrOf st') (lo + x)
      · simp only [hg,decide_true,if_true]
        exact wpS_pure (h x q st' hx1 (by omega) D)
      · simp only [hg,decide_false,Bool.false_eq_true,if_false]
        have ee:kA κ (arrOf st') (lo + x)=kA κ (arrOf st') (lo + x - 1):=by omega
        refine wpS_pure ⟨q + 1,rfl,⟨D.tb,D.pd,D.ch.wide (by omega),by omega,fun i a=>D.un i (by omega),fun i a b=>?_,fun i j a b c=>D.fl i j a b (by omega),fun i a b=>?_⟩⟩
        · rw [show lo + (x + 1) - 1=lo + x by omega]
          by_cases z:i=lo + x
          · rw [z]
          · rw [ee]; exact D.eq i (by omega) (by omega)
        · rw [show lo + (x + 1) - 1=lo + x by omega,ee]
          exact D.gt i a (by omega)
  · rintro c st' ⟨q,rfl,D⟩
    rw [show max n nr=nr by omega] at D ⊢
    exact h nr q st' hnr (Nat.le_refl _) D
def descP (lo n nr:Nat):StateT SortSt Sem (Option Nat):=do
  liftM (rule "list.sort.descending-run")
  let r ← descT lo (n + 1) nr
  match r.fst with
  | some a=>pure a
  | none =>
    if r.snd.snd > 0 then do
      reverseSlice' (lo + r.snd.fst - (r.snd.snd + 1)) (lo + r.snd.fst)
      tailT lo r.snd.fst nr
    else tailT lo r.snd.fst nr
include C in
theorem wp_descP {st0 st:SortSt} {lo n nr:Nat} {Q:Option Nat→SortSt→Prop} (fr:Fresh π (arrOf st0) lo) (hnr:n + 1 ≤ nr) (hs:lo + nr ≤ a₀.size) (D0:Dn κ π a₀ kd st0 lo (n + 1) 0 st)
    (h:∀ m st',1 ≤ m→m ≤ nr→Cnt κ π a₀ kd st0 lo (lo + m) st'→Q (some m) st'):wpS M A E s (descP lo n nr) Q st:=by
  unfold descP
  refine wpS_bind (wpS_lift (wpAny_rule ⟨rfl,?_⟩))
  refine wpS_bind (wp_descT C fr (by omega) hnr hs D0 fun m q st' h1 h2 D=>?_)
  dsimp only
  have sz:lo + m ≤ (arrOf st').size:=by rw [D.tb.size]; omega
  have le:=D.le
  by_cases hq:q > 0
  · rw [if_pos hq]
    exact wpS_bind (wp_rev (wp_tailT C (D.tb.set (mirror_perm _ _ _ _)) D.pd (by omega) h2 hs fr (D.ch.mir (by omega) (Nat.le_refl _) sz) (D.fall C fr (by omega)) h))
  · rw [if_neg hq]
    have:q=0:=by omega
    subst this
    exact wp_tailT C D.tb D.pd (by omega) h2 hs fr D.ch (D.fall0 C (by omega)) h
theorem cnt_eq (lo nr:Nat):countRun' lo nr=(do
    let r ← ascT lo 1 nr
    match r.fst with
    | some a=>pure a
    | none =>
      if (r.snd == nr)=true then pure (some r.snd)
      else if r.snd > 1 then do
        let x ← ltAt' lo (lo + r.snd - 1)
        match x with
        | some rs=>if rs=true then pure (some r.snd) else do
            reverseSlice' lo (lo + r.snd)
            descP lo r.snd nr
        | _=>pure none
      else descP lo r.snd nr):=by
  rw [countRun'_eq]
  dsimp only
  unfold descP tailT descT ascT
  congr 1
  funext r
  obtain ⟨r,n⟩:=r
  cases r with
  | some r=>rfl
  | none =>
    dsimp only
    split
    · rfl
    · split
      · congr 1
        funext x
        cases x with
        | none=>rfl
        | some rs =>
          dsimp only
          split
          · rfl
          · congr 1
            funext _u
            congr 1
            funext _v
            congr 1
            congr 1
            funext r2
            obtain ⟨r2,n2,q2⟩:=r2
            cases r2 with
            | some r2=>rfl
            | none =>
              dsimp only
              split
              · congr 1
                funext _w
                congr 1
                funext _z
                congr 1
                funext r3
                obtain ⟨r3,n3⟩:=r3
                cases r3 <;> rfl
              · congr 1
                funext _z
                congr 1
                funext r3
                obtain ⟨r3,n3⟩:=r3
                cases r3 <;> rfl
      · congr 1
        funext _v
        congr 1
        congr 1
        funext r2
        obtain ⟨r2,n2,q2⟩:=r2
        cases r2 with
        | some r2=>rfl
        | none =>
          dsimp only
          split
          · congr 1
            funext _w
            congr 1
            funext _z
            congr 1
            funext r3
            obtain ⟨r3,n3⟩:=r3
            cases r3 <;> rfl
          · congr 1
            funext _z
            congr 1
            funext r3
            obtain ⟨r3,n3⟩:=r3
            cases r3 <;> rfl
include C in
theorem wp_cnt {st:SortSt} {lo nr:Nat} {Q:Option Nat→SortSt→Prop} (hB:TB a₀ kd st) (fr:Fresh π (arrOf st) lo) (h1:1 ≤ nr) (hs:lo + nr ≤ a₀.size)
    (h:∀ m st',1 ≤ m→m ≤ nr→Cnt κ π a₀ kd st lo (lo + m) st'→Q (some m) st'):wpS M A E s (countRun' lo nr) Q st:=by
  rw [cnt_eq]
  have sz:=hB.size
  refine wpS_bind (wp_ascT C (xs:=arrOf st) hB (Nat.le_refl 1) h1 hs fr (Chg.refl _ _ _) (fun i j a b c=>by rw [show i=j by omega]; exact Int.le_refl _) fun n n1 n2 hr hor=>?_)
  dsimp only
  by_cases hn:n=nr
  · rw [if_pos (by simpa using hn)]
    exact wpS_pure (h n st n1 n2 ⟨hB,rfl,Chg.refl _ _ _,hr⟩)
  rw [if_neg (by simpa using hn)]
  have hl:=hor.resolve_left hn
  by_cases hg:n > 1
  · rw [if_pos hg]
    refine wpS_bind (wp_ltA C hB (by omega) (by omega) ?_)
    by_cases hro:kA κ (arrOf st) lo < kA κ (arrOf st) (lo + n - 1)
    · simp only [hro,decide_true,if_true]
      exact wpS_pure (h n st n1 n2 ⟨hB,rfl,Chg.refl _ _ _,hr⟩)
    · simp only [hro,decide_false,Bool.false_eq_true,if_false]
      have szn:lo + n ≤ (arrOf st).size:=by omega
      have all:∀ i,lo ≤ i→i < lo + n→kA κ (arrOf st) i=kA κ (arrOf st) (lo + n - 1):=fun i a b=>by
        have q1:=hr lo i (Nat.le_refl _) a b
        have q2:=hr i (lo + n - 1) a (by omega) (by omega)
        have p1:=pi_at C hB.pm (i:=lo) (by omega)
        have p2:=pi_at C hB.pm (i:=i) (by omega)
        have p3:=pi_at C hB.pm (i:=lo + n - 1) (by omega)
        unfold rA at q1 q2
        omega
      have keys:∀ i,lo ≤ i→i < lo + n→kA κ (mirror (arrOf st) lo (lo + n) ((lo + n - lo) / 2)) i=kA κ (arrOf st) (lo + n - 1):=fun i a b=>by
        rw [kA_mir szn,if_pos (by omega)]
        exact all _ (by omega) (by omega)
      have outs:∀ i,lo + n ≤ i→(mirror (arrOf st) lo (lo + n) ((lo + n - lo) / 2))[i]?=(arrOf st)[i]?:=fun i a=>by rw [getElem?_mirror_all szn,if_neg (by omega)]
      refine wpS_bind (wp_rev (wp_descP C fr (by omega) hs ⟨hB.set (mirror_perm _ _ _ _),rfl,((Chg.refl _ _ _).mir (Nat.le_refl _) (Nat.le_refl _) szn).wide (by omega),by omega,fun i a=>outs i (by omega),fun i a b=>by congr 1; omega,fun i j a b c=>?_,fun i a b=>?_⟩ h))
      · show rA κ π (mirror (arrOf st) _ _ _) j ≤ rA κ π (mirror (arrOf st) _ _ _) i
        unfold rA
        rw [keys i a (by omega),keys j (by omega) (by omega),kA_mir szn,kA_mir szn,if_pos (by omega),if_pos (by omega)]
        have:=fr (lo + (lo + n) - 1 - j) (lo + (lo + n) - 1 - i) (by omega) (by omega) (by omega)
        omega
      · show kA κ (mirror (arrOf st) _ _ _) _ < kA κ (mirror (arrOf st) _ _ _) _
        rw [keys i a (by omega),show lo + (n + 1) - 1=lo + n by omega,kA_eq (outs (lo + n) (Nat.le_refl _))]
        exact hl
  · rw [if_neg hg]
    have:n=1:=by omega
    subst this
    refine wp_descP C fr (by omega) hs ⟨hB,rfl,Chg.refl _ _ _,by omega,fun i a=>rfl,fun i a b=>by congr 1; omega,fun i j a b c=>?_,fun i a b=>?_⟩ h
    · have:i=j:=by omega
      subst this; exact Int.le_refl _
    · have:i=lo:=by omega
      subst this
      rw [Nat.add_sub_cancel] at hl
      exact hl
end
end TS
namespace TS
open PySem PyProof.Rows
theorem kA_bub {f:Keyed→Int} {xs:Array Keyed} {src d:Nat} (hs:src < xs.size) (hd:d ≤ src) (k:Nat):kA f (bubble xs src d) k=if k=src - d then kA f xs src else if src - d < k∧k ≤ src then kA f xs (k - 1) else kA f xs k:=by
  have e:=getElem?_bubble hs d hd k
  by_cases h1:k=src - d
  · rw [if_pos h1] at e ⊢; exact kA_eq e
  · rw [if_neg h1] at e ⊢
    by_cases h2:src - d < k∧k ≤ src
    · rw [if_pos h2] at e ⊢; exact kA_eq e
    · rw [if_neg h2] at e ⊢; exact kA_eq e
theorem Chg.bub {xs zs:Array Keyed} {lo src d:Nat} (h:Chg xs zs lo src) (h1:lo ≤ src - d) (hd:d ≤ src) (h3:src < zs.size):Chg xs (bubble zs src d) lo (src + 1) where
  pm:=(bubble_perm _ _ _).trans h.pm
  out:=fun i hi=>by
    rw [getElem?_bubble h3 d hd,if_neg (by omega),if_neg (by omega)]
    exact h.out i (by omega)
  ins:=fun i a b=>by
    rw [getElem?_bubble h3 d hd]
    split
    · exact ⟨src,by omega,by omega,h.out src (by omega)⟩
    · split
      · obtain ⟨j,j1,j2,j3⟩:=h.ins (i - 1) (by omega) (by omega)
        exact ⟨j,j1,by omega,j3⟩
      · obtain ⟨j,j1,j2,j3⟩:=h.ins i a (by omega)
        exact ⟨j,j1,by omega,j3⟩
section
variable {M:Model} {A:Around} {E:Value→Shared→Prop} {s:Shared} {κ π:Keyed→Int} {a₀:Array Keyed} {kd:SortKind} (C:Cmp M A E s κ π a₀ kd)
include C in
theorem wp_bin {st:SortSt} {lo n ok:Nat} {Q:Bool→SortSt→Prop} (hB:TB a₀ kd st) (hok:1 ≤ ok) (hn:ok ≤ n) (hs:lo + n ≤ a₀.size) (fr:Fresh π (arrOf st) (lo + ok)) (hr:RSeg κ π (arrOf st) lo (lo + ok))
    (h:∀ st',Cnt κ π a₀ kd st lo (lo + n) st'→Q true st'):wpS M A E s (binarySort' lo n ok) Q st:=by
  rw [binarySort'_eq]
  refine wpS_bind (wpS_mono (wpS_forRange (I:=fun k c st'=>c=(none,())∧Cnt κ π a₀ kd st lo (lo + min k n) st') (Q:=fun c st'=>c=(none,())∧Cnt κ π a₀ kd st lo (lo + n) st') ?_ ?_ ?_) ?_)
  · rintro k c st' k1 k2 ⟨rfl,tb,pd,ch,rs⟩
    rw [show min k n=k by omega] at ch rs
    have sz:=tb.size
    have szx:=ch.size
    refine wpS_bind (wpS_mono (wpS_forRange (I:=fun x c st2=>st2=st'∧∃ l r,c=(none,l,r)∧l ≤ r∧r ≤ k∧r - l ≤ k - x∧(∀ i,i < l→kA κ (arrOf st') (lo + i) ≤ kA κ (arrOf st') (lo + k))∧(∀ i,r ≤ i→i < k→kA κ (arrOf st') (lo + k) < kA κ (arrOf st') (lo + i)))
      (Q:=fun c st2=>st2=st'∧∃ l r,c=(none,l,r)∧l ≤ k∧(∀ i,i < l→kA κ (arrOf st') (lo + i) ≤ kA κ (arrOf st') (lo + k))∧(∀ i,l ≤ i→i < k→kA κ (arrOf st') (lo + k) < kA κ (arrOf st') (lo + i))) ?_ ?_ ⟨rfl,0,k,rfl,by omega,by omega,by omega,fun i hi=>by omega,fun i a b=>by omega⟩) ?_)
    · rintro x c st2 _ x2 ⟨rfl,l,r,rfl,a1,a2,a3,a4,a5⟩
      dsimp only
      by_cases hge:l ≥ r
      · rw [if_pos hge]
        have:l=r:=by omega
        subst this
        exact wpS_pure ⟨rfl,l,l,rfl,a2,a4,a5⟩
      · rw [if_neg hge]
        refine wpS_bind (wp_ltA C tb (by omega) (by omega) ?_)
        have up:∀ i j,i ≤ j→j < k→kA κ (arrOf st2) (lo + i) ≤ kA κ (arrOf st2) (lo + j):=fun i j q1 q2=>by
          have q:=rs (lo + i) (lo + j) (by omega) (by omega) (by omega)
          have p1:=pi_at C tb.pm (i:=lo + i) (by omega)
          have p2:=pi_at C tb.pm (i:=lo + j) (by omega)
          unfold rA at q
          omega
        by_cases hl:kA κ (arrOf st2) (lo + k) < kA κ (arrOf st2) (lo + (l + r) / 2)
        · simp only [hl,decide_true,if_true]
          refine wpS_pure ⟨rfl,l,(l + r) / 2,rfl,by omega,by omega,by omega,a4,fun i q1 q2=>?_⟩
          have:=up ((l + r) / 2) i q1 q2
          omega
        · simp only [hl,decide_false,Bool.false_eq_true,if_false]
          refine wpS_pure ⟨rfl,(l + r) / 2 + 1,r,rfl,by omega,by omega,by omega,fun i q1=>?_,a5⟩
          have:=up i ((l + r) / 2) (by omega) (by omega)
          omega
    · rintro c st2 ⟨rfl,l,r,rfl,a1,a2,a3,a4,a5⟩
      have:l=r:=by omega
      subst this
      exact ⟨rfl,l,l,rfl,a2,a4,a5⟩
    · rintro c st2 ⟨rfl,l,r,rfl,a1,a4,a5⟩
      show wpS _ _ _ _ (do moveDown' (lo + k) (lo + l); pure (ForInStep.yield (none,()))) _ _
      rw [moveDown'_eq]
      have hk:lo + k < (arrOf st2).size:=by omega
      refine wpS_bind (wpS_modify (wpS_pure ⟨rfl,tb.set (bubble_perm _ _ _),pd,?_,?_⟩))
      · rw [show min (k + 1) n=k + 1 by omega]
        exact ch.bub (by omega) (by omega) hk
      · rw [show min (k + 1) n=k + 1 by omega]
        intro i j b1 b2 b3
        show rA κ π (bubble (arrOf st2) (lo + k) (lo + k - (lo + l))) i ≤ rA κ π (bubble (arrOf st2) (lo + k) (lo + k - (lo + l))) j
        have pk:=pi_at C tb.pm hk
        have frk:∀ i,lo ≤ i→i < lo + k→kA π (arrOf st2) i ≤ kA π (arrOf st2) (lo + k):=fun i q1 q2=>by
          obtain ⟨m,m1,m2,m3⟩:=ch.ins i q1 q2
          rw [kA_eq m3,kA_eq (ch.out (lo + k) (by omega))]
          exact fr m (lo + k) (by omega) (by omega) (by omega)
        have lowA:∀ i,lo ≤ i→i < lo + l→rA κ π (arrOf st2) i ≤ rA κ π (arrOf st2) (lo + k):=fun i q1 q2=>by
          have q:=a4 (i - lo) (by omega)
          rw [show lo + (i - lo)=i by omega] at q
          have p:=frk i q1 (by omega)
          unfold rA
          omega
        have upA:∀ i,lo + l ≤ i→i < lo + k→rA κ π (arrOf st2) (lo + k) ≤ rA κ π (arrOf st2) i:=fun i q1 q2=>by
          have q:=a5 (i - lo) (by omega) (by omega)
          rw [show lo + (i - lo)=i by omega] at q
          have p:=pi_at C tb.pm (i:=i) (by omega)
          unfold rA
          omega
        have rb:∀ i,rA κ π (bubble (arrOf st2) (lo + k) (lo + k - (lo + l))) i=if i=lo + l then rA κ π (arrOf st2) (lo + k) else if lo + l < i∧i ≤ lo + k then rA κ π (arrOf st2) (i - 1) else rA κ π (arrOf st2) i:=fun i=>by
          unfold rA
          rw [kA_bub hk (by omega),kA_bub hk (by omega),show lo + k - (lo + k - (lo + l))=lo + l by omega]
          split
          · rfl
          · split <;> rfl
        rw [rb,rb]
        by_cases z1:i=lo + l
        · rw [if_pos z1]
          by_cases z2:j=lo + l
          · rw [if_pos z2]; exact Int.le_refl _
          · rw [if_neg z2,if_pos (by omega)]; exact upA _ (by omega) (by omega)
        · rw [if_neg z1]
          by_cases z3:lo + l < i∧i ≤ lo + k
          · rw [if_pos z3,if_neg (by omega),if_pos (by omega)]; exact rs _ _ (by omega) (by omega) (by omega)
          · rw [if_neg z3]
            by_cases z2:j=lo + l
            · rw [if_pos z2]; exact lowA _ b1 (by omega)
            · rw [if_neg z2]
              by_cases z4:lo + l < j∧j ≤ lo + k
              · rw [if_pos z4]; exact rs _ _ b1 (by omega) (by omega)
              · rw [if_neg z4]; exact rs _ _ b1 b2 (by omega)
  · rintro c st' ⟨hc,tb,pd,ch,rs⟩
    rw [show min (max (max ok 1) n) n=n by omega] at ch rs
    exact ⟨hc,tb,pd,ch,rs⟩
  · refine ⟨rfl,hB,rfl,Chg.refl _ _ _,?_⟩
    rw [show min (max ok 1) n=ok by omega]
    exact hr
  · rintro c st' ⟨rfl,q⟩
    exact wpS_pure (h st' q)
end
end TS
namespace TS
open PySem PyProof.Rows
def MatchP:Nat→List (List Keyed)→List (Nat × Nat × Nat)→Prop
  | _,[],[]=>True
  | lo,L :: Ls,q :: ps=>q.1=lo∧q.2.1=L.length∧MatchP (lo + L.length) Ls ps
  | _,_,_=>False
theorem MatchP.len:∀ {lo:Nat} {Ls:List (List Keyed)} {ps:List (Nat × Nat × Nat)},MatchP lo Ls ps→Ls.length=ps.length
  | _,[],[],_=>rfl
  | _,L :: Ls,q :: ps,h=>by simp [MatchP.len h.2.2]
  | _,[],_ :: _,h=>h.elim
  | _,_ :: _,[],h=>h.elim
theorem MatchP.at:∀ {As:List (List Keyed)} {lo:Nat} {X:List Keyed} {Bs:List (List Keyed)} {ps:List (Nat × Nat × Nat)},MatchP lo (As ++ X :: Bs) ps→∃ pw,ps[As.length]?=some (lo + As.flatten.length,X.length,pw)
  | [],lo,X,Bs,q :: ps,h=>by
    obtain ⟨a,b,pw⟩:=q
    obtain ⟨h1,h2,_⟩:=h
    have h1:a=lo:=h1
    have h2:b=X.length:=h2
    subst h1 h2
    exact ⟨pw,by simp⟩
  | [],lo,X,Bs,[],h=>h.elim
  | L :: As,lo,X,Bs,q :: ps,h=>by
    obtain ⟨pw,e⟩:=MatchP.at (As:=As) h.2.2
    exact ⟨pw,by simpa [Nat.add_assoc] using e⟩
  | L :: As,lo,X,Bs,[],h=>h.elim
theorem MatchP.app:∀ {Ls:List (List Keyed)} {lo:Nat} {N:List Keyed} {ps:List (Nat × Nat × Nat)} {pw:Nat},MatchP lo Ls ps→MatchP lo (Ls ++ [N]) (ps ++ [(lo + Ls.flatten.length,N.length,pw)])
  | [],lo,N,[],pw,_=>⟨by simp,rfl,trivial⟩
  | L :: Ls,lo,N,q :: ps,pw,h=>⟨h.1,h.2.1,by have:=MatchP.app (N:=N) (pw:=pw) h.2.2; simpa [Nat.add_assoc] using this⟩
  | [],_,_,_ :: _,_,h=>h.elim
  | _ :: _,_,_,[],_,h=>h.elim
theorem MatchP.join:∀ {As:List (List Keyed)} {lo:Nat} {X Y Z:List Keyed} {Bs:List (List Keyed)} {ps:List (Nat × Nat × Nat)} {pw:Nat},MatchP lo (As ++ X :: Y :: Bs) ps→Z.length=X.length + Y.length →
    MatchP lo (As ++ Z :: Bs) ((ps.set As.length (lo + As.flatten.length,X.length + Y.length,pw)).eraseIdx (As.length + 1))
  | [],lo,X,Y,Z,Bs,q :: q2 :: ps,pw,h,hz=>by
    refine ⟨by simp,by simp [hz],?_⟩
    have:=h.2.2.2.2
    rw [hz]
    simpa [Nat.add_assoc] using this
  | [],lo,X,Y,Z,Bs,[_],pw,h,hz=>h.2.2.elim
  | [],lo,X,Y,Z,Bs,[],pw,h,hz=>h.elim
  | L :: As,lo,X,Y,Z,Bs,q :: ps,pw,h,hz=>by
    have:=MatchP.join (As:=As) (pw:=pw) h.2.2 hz
    refine ⟨h.1,h.2.1,?_⟩
    simpa [Nat.add_assoc] using this
  | L :: As,lo,X,Y,Z,Bs,[],pw,h,hz=>h.elim
theorem MatchP.pow:∀ {Ls:List (List Keyed)} {lo:Nat} {ps:List (Nat × Nat × Nat)} (i pw:Nat),MatchP lo Ls ps→MatchP lo Ls (ps.modify i fun q=>(q.1,q.2.1,pw))
  | [],lo,[],i,pw,h=>by simp; trivial
  | L :: Ls,lo,q :: ps,0,pw,h=>by simpa [MatchP] using h
  | L :: Ls,lo,q :: ps,i + 1,pw,h=>⟨h.1,h.2.1,MatchP.pow i pw h.2.2⟩
  | [],_,_ :: _,_,_,h=>h.elim
  | _ :: _,_,[],_,_,h=>h.elim
theorem split_at {α:Type}:∀ (Ls:List α) (i:Nat),i + 1 < Ls.length→∃ As X Y Bs,Ls=As ++ X :: Y :: Bs∧As.length=i
  | [],i,h=>by simp at h
  | [_],i,h=>by simp at h
  | X :: Y :: Bs,0,_=>⟨[],X,Y,Bs,rfl,rfl⟩
  | L :: Ls,i + 1,h=>by
    obtain ⟨As,X,Y,Bs,e,l⟩:=split_at Ls i (by simpa using h)
    exact ⟨L :: As,X,Y,Bs,by rw [e]; rfl,by simp [l]⟩
section
variable {M:Model} {A:Around} {E:Value→Shared→Prop} {s:Shared} {κ π:Keyed→Int} {a₀:Array Keyed} {kd:SortKind} (C:Cmp M A E s κ π a₀ kd)
structure Runs (κ π:Keyed→Int) (a₀:Array Keyed) (kd:SortKind) (st:SortSt) (Ls:List (List Keyed)) (post:List Keyed):Prop where
  tb:TB a₀ kd st
  ar:(arrOf st).toList=Ls.flatten ++ post
  mt:MatchP 0 Ls (pendingOf st).toList
  ok:∀ L ∈ Ls,Ris κ π L∧L ≠ []
  sp:Ls.Pairwise (sepL π)
theorem perm_arr {xs zs:Array Keyed} (h:zs.toList.Perm xs.toList):zs.Perm xs:=Array.perm_iff_toList_perm.mpr h
include C in
theorem wp_join {st:SortSt} {Ls:List (List Keyed)} {post:List Keyed} {i:Nat} {Q:Bool→SortSt→Prop} (R:Runs κ π a₀ kd st Ls post) (hi:i + 1 < Ls.length)
    (h:∀ Ls' st',Runs κ π a₀ kd st' Ls' post→Ls'.flatten.Perm Ls.flatten→Ls'.length + 1=Ls.length→Q true st'):wpS M A E s (mergeAt' i) Q st:=by
  obtain ⟨As,X,Y,Bs,rfl,rfl⟩:=split_at Ls i hi
  obtain ⟨pw,e1⟩:=R.mt.at
  have mt':MatchP 0 ((As ++ [X]) ++ Y :: Bs) (pendingOf st).toList:=by simpa using R.mt
  obtain ⟨pw2,e2⟩:=mt'.at
  have sp:=List.pairwise_append.mp R.sp
  have sp2:=List.pairwise_cons.mp sp.2.1
  have sp3:=List.pairwise_cons.mp sp2.2
  refine wp_mAt C (pre:=As.flatten) (X:=X) (Y:=Y) (post:=Bs.flatten ++ post) (pw:=pw) (pw2:=pw2) R.tb.kind R.tb.fld (by rw [R.ar]; simp) R.tb.mem ?_ ?_ (R.ok X (by simp)).1 (R.ok Y (by simp)).1 (R.ok X (by simp)).2 (R.ok Y (by simp)).2 (sp2.1 Y (by simp)) fun Z st' r1 r2 r3 r4 r5 r6=>?_
  · rw [← Array.getElem?_toList,e1]; simp
  · rw [← Array.getElem?_toList]
    simpa using e2
  · have zl:=r2.length_eq
    have memZ:∀ z,z ∈ Z→z ∈ X ∨ z ∈ Y:=fun z hz=>List.mem_append.mp (r2.mem_iff.mp hz)
    have fp:(As ++ Z :: Bs).flatten.Perm (As ++ X :: Y :: Bs).flatten:=by
      simp only [List.flatten_append,List.flatten_cons,List.append_assoc]
      refine List.Perm.append_left _ ?_
      rw [← List.append_assoc]
      exact List.Perm.append_right _ r2
    refine h (As ++ Z :: Bs) st' ⟨⟨perm_arr ?_,r4,r5⟩,by rw [r3]; simp,?_,fun L hL=>?_,?_⟩ fp (by simp; omega)
    · rw [r3]
      have q:=Array.perm_iff_toList_perm.mp R.tb.pm
      rw [R.ar] at q
      refine List.Perm.trans ?_ q
      simp only [List.flatten_append,List.flatten_cons,List.append_assoc]
      refine List.Perm.append_left _ ?_
      rw [← List.append_assoc X Y]
      exact List.Perm.append_right _ r2
    · rw [r6]
      have:=R.mt.join (Z:=Z) (pw:=pw) (by simpa using zl)
      simpa using this
    · rcases List.mem_append.mp hL with z | z
      · exact R.ok L (by simp [z])
      · rcases List.mem_cons.mp z with z | z
        · rw [z]
          exact ⟨r1,fun e=>by rw [e] at zl; have:=List.length_pos_iff.mpr (R.ok X (by simp)).2; simp at zl; omega⟩
        · exact R.ok L (by simp [z])
    · refine List.pairwise_append.mpr ⟨sp.1,List.pairwise_cons.mpr ⟨fun L hL a ha b hb=>?_,sp3.2⟩,fun L hL L2 hL2=>?_⟩
      · rcases memZ a ha with z | z
        · exact sp2.1 L (by simp [hL]) a z b hb
        · exact sp3.1 L hL a z b hb
      · rcases List.mem_cons.mp hL2 with z | z
        · rw [z]
          intro a ha b hb
          rcases memZ b hb with w | w
          · exact sp.2.2 L hL X (by simp) a ha b w
          · exact sp.2.2 L hL Y (by simp) a ha b w
        · exact sp.2.2 L hL L2 (by simp [z])
theorem fresh_of {xs:Array Keyed} {F rest:List Keyed} (e:xs.toList=F ++ rest) (h1:sepL π F rest) (h2:rest.Pairwise fun a b=>π a ≤ π b):Fresh π xs F.length:=by
  intro i j hij hm hj
  have hl:xs.size=F.length + rest.length:=by
    have:=congrArg List.length e
    simpa using this
  have ej:xs[j]?=some (rest[j - F.length]'(by omega)):=by
    rw [← Array.getElem?_toList,e,List.getElem?_append_right hm,List.getElem?_eq_getElem]
  rw [kA_of ej]
  by_cases z:i < F.length
  · have ei:xs[i]?=some (F[i]'z):=by rw [← Array.getElem?_toList,e,List.getElem?_append_left z,List.getElem?_eq_getElem z]
    rw [kA_of ei]
    exact h1 _ (List.getElem_mem _) _ (List.getElem_mem _)
  · have ei:xs[i]?=some (rest[i - F.length]'(by omega)):=by rw [← Array.getElem?_toList,e,List.getElem?_append_right (by omega),List.getElem?_eq_getElem]
    rw [kA_of ei]
    by_cases w:i=j
    · subst w; exact Int.le_refl _
    · exact List.pairwise_iff_getElem.mp h2 _ _ (by omega) (by omega) (by omega)
theorem rA_eq {xs:Array Keyed} {i:Nat} {z:Keyed} (h:xs[i]?=some z):rA κ π xs i=rk κ π z:=by unfold rA rk; rw [kA_of h,kA_of h]
theorem cnt_list {st st':SortSt} {F rest:List Keyed} {m:Nat} (e:(arrOf st).toList=F ++ rest) (hm:m ≤ rest.length) (c:Cnt κ π a₀ kd st F.length (F.length + m) st') :
    ∃ N,(arrOf st').toList=F ++ N ++ rest.drop m∧N.Perm (rest.take m)∧Ris κ π N∧N.length=m:=by
  obtain ⟨tb,pd,ch,rs⟩:=c
  have hl:(arrOf st).size=F.length + rest.length:=by
    have:=congrArg List.length e
    simpa using this
  have hl':=ch.size
  have t1:(arrOf st').toList.take F.length=F:=by
    apply List.ext_getElem?
    intro i
    rw [List.getElem?_take]
    split
    · rename_i hi
      have:=ch.out i (.inl hi)
      rw [Array.getElem?_toList,this, ← Array.getElem?_toList,e,List.getElem?_append_left hi]
    · rename_i hi
      rw [List.getElem?_eq_none (by omega)]
  have t2:(arrOf st').toList.drop (F.length + m)=rest.drop m:=by
    apply List.ext_getElem?
    intro i
    rw [List.getElem?_drop,List.getElem?_drop,Array.getElem?_toList,ch.out _ (.inr (by omega)), ← Array.getElem?_toList,e,List.getElem?_append_right (by omega)]
    congr 1; omega
  refine ⟨((arrOf st').toList.drop F.length).take m,?_,?_,?_,?_⟩
  · have q:=List.take_append_drop F.length (arrOf st').toList
    have q2:=List.take_append_drop m ((arrOf st').toList.drop F.length)
    rw [List.drop_drop,t2] at q2
    rw [t1, ← q2] at q
    rw [List.append_assoc]
    exact q.symm
  · have q:=Array.perm_iff_toList_perm.mp ch.pm
    have q0:=List.take_append_drop F.length (arrOf st').toList
    have q2:=List.take_append_drop m ((arrOf st').toList.drop F.length)
    rw [List.drop_drop,t2] at q2
    rw [t1, ← q2] at q0
    rw [← q0,e] at q
    have q3:=(List.perm_append_left_iff _).mp q
    rw [← List.take_append_drop m rest] at q3
    simp only [List.drop_append_of_le_length,List.take_append_drop] at q3
    have:rest=rest.take m ++ rest.drop m:=(List.take_append_drop m rest).symm
    rw [this] at q3
    have e4:(rest.take m ++ rest.drop m).drop m=rest.drop m:=by rw [List.take_append_drop]
    rw [e4] at q3
    exact (List.perm_append_right_iff _).mp q3
  · unfold Ris
    rw [List.pairwise_iff_getElem]
    intro i j hi hj hij
    simp only [List.getElem_take,List.getElem_drop]
    have hj':j < m:=by simp at hj; omega
    have a1:(arrOf st')[F.length + i]?=some ((arrOf st').toList[F.length + i]'(by simp; omega)):=by rw [← Array.getElem?_toList]; exact List.getElem?_eq_getElem _
    have a2:(arrOf st')[F.length + j]?=some ((arrOf st').toList[F.length + j]'(by simp; omega)):=by rw [← Array.getElem?_toList]; exact List.getElem?_eq_getElem _
    have:=rs (F.length + i) (F.length + j) (by omega) (by omega) (by omega)
    rw [rA_eq a1,rA_eq a2] at this
    exact this
  · simp; omega
end
end TS
namespace TS
open PySem PyProof.Rows
section
variable {M:Model} {A:Around} {E:Value→Shared→Prop} {s:Shared} {κ π:Keyed→Int} {a₀:Array Keyed} {kd:SortKind} (C:Cmp M A E s κ π a₀ kd)
structure Btw (κ π:Keyed→Int) (a₀:Array Keyed) (kd:SortKind) (lo:Nat) (st:SortSt) (Ls:List (List Keyed)) (rest:List Keyed):Prop where
  rn:Runs κ π a₀ kd st Ls rest
  ln:Ls.flatten.length=lo
  sp:sepL π Ls.flatten rest
  up:rest.Pairwise fun a b=>π a ≤ π b
theorem runs_len {Ls:List (List Keyed)} (h:∀ L ∈ Ls,L ≠ []):Ls.length ≤ Ls.flatten.length:=by
  induction Ls with
  | nil=>simp
  | cons L Ls ih =>
    have h1:=List.length_pos_iff.mpr (h L (by simp))
    have h2:=ih fun L hL=>h L (by simp [hL])
    simp only [List.length_cons,List.flatten_cons,List.length_append]
    omega
def pushR (sz lo n:Nat):StateT SortSt Sem (ForInStep (Option Unit × Nat)):=do
  let q ← get
  match (pendingOf q).back? with
  | some (s1,n1,_)=>do
    let r ← forIn [0:sz] ((none,()):Option Unit × Unit) fun _ _=>do
      let q ← get
      match (if (pendingOf q).size > 1 then (pendingOf q)[(pendingOf q).size - 2]? else none) with
      | some (_,_,older) =>
        if older ≤ power' sz (2 * s1 + n1) (2 * s1 + n1 + n1 + n) sz then pure (ForInStep.done (none,()))
        else do
          let b ← mergeAt' ((pendingOf q).size - 2)
          if (!b)=true then pure (ForInStep.done (some (),())) else pure (ForInStep.yield (none,()))
      | _=>pure (ForInStep.done (none,()))
    match r.fst with
    | some a=>pure (ForInStep.done (some a,lo))
    | none=>do
      modify fun q=>setPending q ((pendingOf q).modify ((pendingOf q).size - 1) fun x=>(x.fst,x.2.fst,power' sz (2 * s1 + n1) (2 * s1 + n1 + n1 + n) sz))
      modify fun q=>setPending q ((pendingOf q).push (lo,n,0))
      pure (ForInStep.yield (none,lo + n))
  | _=>do
    modify fun q=>setPending q ((pendingOf q).push (lo,n,0))
    pure (ForInStep.yield (none,lo + n))
theorem runs_pend {st:SortSt} {Ls:List (List Keyed)} {post:List Keyed} {p:Array (Nat × Nat × Nat)} (R:Runs κ π a₀ kd st Ls post) (h:MatchP 0 Ls p.toList):Runs κ π a₀ kd (setPending st p) Ls post :=
  ⟨⟨R.tb.pm,R.tb.kind,R.tb.fld⟩,R.ar,h,R.ok,R.sp⟩
theorem sep_perm {l l' m:List Keyed} (p:l'.Perm l) (h:sepL π l m):sepL π l' m:=fun a ha b hb=>h a (p.mem_iff.mp ha) b hb
theorem btw_push {st:SortSt} {Ls:List (List Keyed)} {N rest:List Keyed} {lo n:Nat} (R:Runs κ π a₀ kd st Ls (N ++ rest)) (hl:Ls.flatten.length=lo) (hn:N.length=n) (rN:Ris κ π N) (nN:N ≠ []) (s1:sepL π Ls.flatten N) (s2:sepL π (Ls.flatten ++ N) rest) (hu:rest.Pairwise fun a b=>π a ≤ π b) :
    Btw κ π a₀ kd (lo + n) (setPending st ((pendingOf st).push (lo,n,0))) (Ls ++ [N]) rest:=by
  refine ⟨⟨⟨R.tb.pm,R.tb.kind,R.tb.fld⟩,?_,?_,fun L hL=>?_,?_⟩,?_,?_,hu⟩
  · show (arrOf st).toList=_
    rw [R.ar]; simp
  · show MatchP 0 (Ls ++ [N]) ((pendingOf st).push (lo,n,0)).toList
    have:=R.mt.app (N:=N) (pw:=0)
    rw [Array.toList_push]
    simpa [hl,hn] using this
  · rcases List.mem_append.mp hL with z | z
    · exact R.ok L z
    · rw [List.mem_singleton.mp z]; exact ⟨rN,nN⟩
  · refine List.pairwise_append.mpr ⟨R.sp,List.pairwise_singleton _ _,fun L hL L2 hL2=>?_⟩
    rw [List.mem_singleton.mp hL2]
    exact fun a ha b hb=>s1 a (List.mem_flatten.mpr ⟨L,hL,ha⟩) b hb
  · simp [hl,hn]
  · simpa using s2
include C in
theorem wp_pushR {st:SortSt} {Ls:List (List Keyed)} {N rest:List Keyed} {lo n:Nat} {Q:ForInStep (Option Unit × Nat)→SortSt→Prop} (R:Runs κ π a₀ kd st Ls (N ++ rest)) (hl:Ls.flatten.length=lo) (hn:N.length=n) (rN:Ris κ π N) (nN:N ≠ []) (s1:sepL π Ls.flatten N) (s2:sepL π (Ls.flatten ++ N) rest) (hu:rest.Pairwise fun a b=>π a ≤ π b)
    (h:∀ Ls' st',Btw κ π a₀ kd (lo + n) st' Ls' rest→Q (.yield (none,lo + n)) st'):wpS M A E s (pushR a₀.size lo n) Q st:=by
  unfold pushR
  refine wpS_bind (wpS_get ?_)
  cases hb:(pendingOf st).back? with
  | none=>exact wpS_bind (wpS_modify (wpS_pure (h _ _ (btw_push R hl hn rN nN s1 s2 hu))))
  | some q =>
    obtain ⟨st1,n1,pw1⟩:=q
    dsimp only
    refine wpS_bind (wpS_mono (wpS_forRange (I:=fun _ c st'=>c=(none,())∧∃ Ls',Runs κ π a₀ kd st' Ls' (N ++ rest)∧Ls'.flatten.Perm Ls.flatten) (Q:=fun c st'=>c=(none,())∧∃ Ls',Runs κ π a₀ kd st' Ls' (N ++ rest)∧Ls'.flatten.Perm Ls.flatten) ?_ (fun _ _ q=>q) ⟨rfl,Ls,R,List.Perm.refl _⟩) ?_)
    · rintro x c st2 _ _ ⟨rfl,Ls',R',p'⟩
      refine wpS_bind (wpS_get ?_)
      by_cases hsz:(pendingOf st2).size > 1
      · rw [if_pos hsz]
        have e:(pendingOf st2)[(pendingOf st2).size - 2]?=some ((pendingOf st2)[(pendingOf st2).size - 2]'(by omega)):=by simp [show (pendingOf st2).size - 2 < (pendingOf st2).size by omega]
        rw [e]
        generalize (pendingOf st2)[(pendingOf st2).size - 2]'(by omega)=q
        obtain ⟨a,b,older⟩:=q
        dsimp only
        split
        · exact wpS_pure ⟨rfl,Ls',R',p'⟩
        · have len:=R'.mt.len
          have len:Ls'.length=(pendingOf st2).size:=by simpa using len
          refine wpS_bind (wp_join C R' (by omega) fun Ls2 st3 R2 p2 _=>?_)
          exact wpS_pure ⟨rfl,Ls2,R2,p2.trans p'⟩
      · rw [if_neg hsz]
        exact wpS_pure ⟨rfl,Ls',R',p'⟩
    · rintro c st2 ⟨rfl,Ls',R',p'⟩
      dsimp only
      refine wpS_bind (wpS_modify (wpS_bind (wpS_modify (wpS_pure (h _ _ (btw_push (st:=setPending st2 _) (runs_pend R' ?_) ?_ hn rN nN ?_ ?_ hu))))))
      · have:=R'.mt.pow ((pendingOf st2).size - 1) (power' a₀.size (2 * st1 + n1) (2 * st1 + n1 + n1 + n) a₀.size)
        simpa using this
      · rw [p'.length_eq]; exact hl
      · exact sep_perm p' s1
      · exact sep_perm (List.Perm.append_right _ p') s2
def endR (sz:Nat):StateT SortSt Sem Unit:=do
  for _ in [0:sz] do
    let p:=pendingOf (← get)
    if p.size ≤ 1 then break
    let i:=p.size - 2
    let bf:=if i > 0 then p[i - 1]?.map (·.2.1) else none
    let i:=if bf.any (· < (p[i + 1]?.elim 0 (·.2.1))) then i - 1 else i
    if !(← mergeAt' i) then return
include C in
theorem wp_endR {st:SortSt} {Ls:List (List Keyed)} {Q:Unit→SortSt→Prop} (R:Runs κ π a₀ kd st Ls []) (hl:Ls.length ≤ a₀.size) (h:∀ st' Ls',Runs κ π a₀ kd st' Ls' []→Ls'.length ≤ 1→Q () st'):wpS M A E s (endR a₀.size) Q st:=by
  unfold endR
  dsimp only
  refine wpS_bind (wpS_mono (wpS_forRange (I:=fun x c st'=>c=(none,())∧∃ Ls',Runs κ π a₀ kd st' Ls' []∧Ls'.length + x ≤ a₀.size + 0) (Q:=fun c st'=>c=(none,())∧∃ Ls',Runs κ π a₀ kd st' Ls' []∧Ls'.length ≤ 1) ?_ ?_ ⟨rfl,Ls,R,by omega⟩) ?_)
  · rintro x c st2 _ hx ⟨rfl,Ls',R',hl'⟩
    refine wpS_bind (wpS_get ?_)
    have len:Ls'.length=(pendingOf st2).size:=by simpa using R'.mt.len
    by_cases hsz:(pendingOf st2).size ≤ 1
    · rw [if_pos hsz]
      exact wpS_pure ⟨rfl,Ls',R',by omega⟩
    · rw [if_neg hsz]
      have le:∀ b:Bool,(if b=true then (pendingOf st2).size - 2 - 1 else (pendingOf st2).size - 2) + 1 < Ls'.length:=fun b=>by cases b <;> simp <;> omega
      refine wpS_bind (wp_join C R' (le _) fun Ls2 st3 R2 p2 l2=>?_)
      · exact wpS_pure ⟨rfl,Ls2,R2,by omega⟩
  · rintro c st2 ⟨rfl,Ls',R',hl'⟩
    exact ⟨rfl,Ls',R',by omega⟩
  · rintro c st2 ⟨rfl,Ls',R',hl'⟩
    exact wpS_pure (h _ _ R' hl')
theorem to_push {α:Type} {m m':StateT SortSt Sem α} {Q Q':α→SortSt→Prop} {st:SortSt} (h:wpS M A E s m' Q' st) (e:m=m') (g:∀ r st',Q' r st'→Q r st'):wpS M A E s m Q st:=by
  subst e
  exact wpS_mono h g
include C in
theorem wp_runs {st:SortSt} {Q:Unit→SortSt→Prop} (hB:TB a₀ kd st) (hp:pendingOf st = #[]) (ha:arrOf st=a₀) (hu:a₀.toList.Pairwise fun a b=>π a ≤ π b) (h2:2 ≤ a₀.size)
    (h:∀ st',TB a₀ kd st'→Ris κ π (arrOf st').toList→Q () st'):wpS M A E s sortRuns' Q st:=by
  rw [sortRuns'_eq]
  refine wpS_bind (wpS_get ?_)
  dsimp only
  rw [hB.size]
  have fin:∀ st' Ls,Runs κ π a₀ kd st' Ls []→Ls.length ≤ 1→Q () st':=fun st' Ls R hl=>by
    refine h st' R.tb ?_
    rw [R.ar,List.append_nil]
    match Ls,hl,R with
    | [],_,_=>exact List.Pairwise.nil
    | [L],_,R=>simpa using (R.ok L (by simp)).1
  have lenB:∀ {lo st' Ls rest},Btw κ π a₀ kd lo st' Ls rest→lo + rest.length=a₀.size:=fun {lo st' Ls rest} B=>by
    have e:=congrArg List.length B.rn.ar
    simp only [Array.length_toList,List.length_append,B.ln] at e
    rw [B.rn.tb.size] at e
    omega
  have last:∀ {lo st' Ls rest},Btw κ π a₀ kd lo st' Ls rest→a₀.size ≤ lo→wpS M A E s (endR a₀.size) Q st':=fun {lo st' Ls rest} B hlo=>by
    have e:=lenB B
    have:rest=[]:=List.length_eq_zero_iff.mp (by omega)
    subst this
    exact wp_endR C B.rn (by have:=runs_len fun L hL=>(B.rn.ok L hL).2; rw [B.ln] at this; omega) fin
  refine wpS_bind (wpS_forRange (I:=fun x c st' => ∃ Ls rest lo,c=(none,lo)∧Btw κ π a₀ kd lo st' Ls rest∧x ≤ lo) ?_ ?_ ?_)
  · rintro x c st1 _ hx ⟨Ls,rest,lo,rfl,B,hxl⟩
    dsimp only
    have eln:=lenB B
    by_cases hge:lo ≥ a₀.size
    · rw [if_pos hge]
      exact wpS_pure (last B hge)
    rw [if_neg hge]
    have fr:Fresh π (arrOf st1) lo:=by
      have:=fresh_of B.rn.ar B.sp B.up
      rwa [B.ln] at this
    refine wpS_bind (wp_cnt C B.rn.tb fr (by omega) (by omega) fun m st2 m1 m2 cn=>?_)
    have push:∀ (n:Nat) (st3:SortSt),1 ≤ n→n ≤ rest.length→Cnt κ π a₀ kd st1 lo (lo + n) st3→wpS M A E s (pushR a₀.size lo n) (fun r st' => ∃ Ls rest lo,r=ForInStep.yield (none,lo)∧Btw κ π a₀ kd lo st' Ls rest∧x + 1 ≤ lo) st3:=fun n st3 n1 n2 cn=>by
      have cn':Cnt κ π a₀ kd st1 Ls.flatten.length (Ls.flatten.length + n) st3:=by rw [B.ln]; exact cn
      obtain ⟨N,e1,e2,e3,e4⟩:=cnt_list B.rn.ar n2 cn'
      have up:=List.pairwise_append.mp ((List.take_append_drop n rest).symm ▸ B.up)
      refine wp_pushR C (Ls:=Ls) (N:=N) (rest:=rest.drop n) ⟨cn.1,by rw [e1]; simp,by rw [cn.2.1]; exact B.rn.mt,B.rn.ok,B.rn.sp⟩ B.ln e4 e3 (fun z=>by rw [z] at e4; simp at e4; omega) ?_ ?_ up.2.1 fun Ls' st' B'=>⟨Ls',_,_,rfl,B',by omega⟩
      · exact fun a hA b hB=>B.sp a hA b (List.mem_of_mem_take (e2.mem_iff.mp hB))
      · intro a hA b hB
        rcases List.mem_append.mp hA with z | z
        · exact B.sp a z b (List.mem_of_mem_drop hB)
        · exact up.2.2 a (e2.mem_iff.mp z) b hB
    dsimp only
    by_cases hmr:m < minRun' a₀.size a₀.size 0
    · rw [if_pos hmr]
      refine wpS_bind (wpS_lift (wpAny_rule ⟨rfl,?_⟩))
      have fr2:Fresh π (arrOf st2) (lo + m):=by
        have cn':Cnt κ π a₀ kd st1 Ls.flatten.length (Ls.flatten.length + m) st2:=by rw [B.ln]; exact cn
        obtain ⟨N,e1,e2,e3,e4⟩:=cnt_list B.rn.ar (by omega) cn'
        have up:=List.pairwise_append.mp ((List.take_append_drop m rest).symm ▸ B.up)
        have:=fresh_of (F:=Ls.flatten ++ N) e1 (fun a hA b hB=>?_) up.2.1
        · rwa [List.length_append,B.ln,e4] at this
        · rcases List.mem_append.mp hA with z | z
          · exact B.sp a z b (List.mem_of_mem_drop hB)
          · exact up.2.2 a (e2.mem_iff.mp z) b hB
      refine wpS_bind (wp_bin C cn.1 m1 (by omega) (by omega) fr2 cn.2.2.2 fun st3 c3=>?_)
      have hf:Cnt κ π a₀ kd st1 lo (lo + min (a₀.size - lo) (minRun' a₀.size a₀.size 0)) st3:=by
        refine ⟨c3.1,c3.2.1.trans cn.2.1,?_,c3.2.2.2⟩
        have w1:=cn.2.2.1.wide (show lo + m ≤ lo + min (a₀.size - lo) (minRun' a₀.size a₀.size 0) by omega)
        have w2:=c3.2.2.1
        exact ⟨w2.pm.trans w1.pm,fun i hi=>(w2.out i hi).trans (w1.out i hi),fun i a b=>by
          obtain ⟨j,j1,j2,j3⟩:=w2.ins i a b
          obtain ⟨k,k1,k2,k3⟩:=w1.ins j j1 j2
          exact ⟨k,k1,k2,j3.trans k3⟩⟩
      rw [if_neg (by decide)]
      refine to_push (push _ st3 (by omega) (by omega) hf) ?_ fun r st' hq=>?_
      · unfold pushR
        congr 1
        funext q
        cases (pendingOf q).back? with
        | none=>rfl
        | some z =>
          obtain ⟨a,b,c⟩:=z
          dsimp only
          congr 1
          funext r
          obtain ⟨r,_⟩:=r
          cases r <;> rfl
      · obtain ⟨Ls',rest',lo',rfl,b1,b2⟩:=hq
        exact ⟨Ls',rest',lo',rfl,b1,b2⟩
    · rw [if_neg hmr]
      refine to_push (push m st2 m1 (by omega) cn) ?_ fun r st' hq=>?_
      · unfold pushR
        congr 1
        funext q
        cases (pendingOf q).back? with
        | none=>rfl
        | some z =>
          obtain ⟨a,b,c⟩:=z
          dsimp only
          congr 1
          funext r
          obtain ⟨r,_⟩:=r
          cases r <;> rfl
      · obtain ⟨Ls',rest',lo',rfl,b1,b2⟩:=hq
        exact ⟨Ls',rest',lo',rfl,b1,b2⟩
  · rintro c st1 ⟨Ls,rest,lo,rfl,B,hxl⟩
    exact last B (by omega)
  · refine ⟨[],a₀.toList,0,rfl,⟨⟨hB,by rw [ha]; simp,?_,fun L hL=>(by cases hL),List.Pairwise.nil⟩,rfl,fun a hA=>(by cases hA),hu⟩,Nat.le_refl _⟩
    rw [hp]; trivial
end
end TS
namespace TS
open PySem PyProof.Rows
def rkP (p:Int × Int):Int:=p.1 * 1048576 + p.2
def insP (p:Int × Int):List (Int × Int)→List (Int × Int)
  | []=>[p]
  | q :: r=>if rkP p ≤ rkP q then p :: q :: r else q :: insP p r
def sortP:List (Int × Int)→List (Int × Int)
  | []=>[]
  | p :: r=>insP p (sortP r)
theorem insP_perm (p:Int × Int):∀ r:List (Int × Int),(insP p r).Perm (p :: r)
  | []=>List.Perm.refl _
  | q :: r=>by
    unfold insP
    split
    · exact List.Perm.refl _
    · exact (List.Perm.cons q (insP_perm p r)).trans (List.Perm.swap p q r)
theorem sortP_perm:∀ r:List (Int × Int),(sortP r).Perm r
  | []=>List.Perm.refl _
  | p :: r=>(insP_perm p _).trans (List.Perm.cons p (sortP_perm r))
theorem insP_sorted (p:Int × Int):∀ r:List (Int × Int),r.Pairwise (fun a b=>rkP a ≤ rkP b)→(insP p r).Pairwise (fun a b=>rkP a ≤ rkP b)
  | [],_=>by simp [insP]
  | q :: r,h=>by
    unfold insP
    have hc:=List.pairwise_cons.mp h
    split
    · rename_i hle
      refine List.pairwise_cons.mpr ⟨fun x hx=>?_,h⟩
      rcases List.mem_cons.mp hx with z | z
      · rw [z]; exact hle
      · exact Int.le_trans hle (hc.1 x z)
    · rename_i hle
      refine List.pairwise_cons.mpr ⟨fun x hx=>?_,insP_sorted p r hc.2⟩
      rcases List.mem_cons.mp ((insP_perm p r).mem_iff.mp hx) with z | z
      · rw [z]; omega
      · exact hc.1 x z
theorem sortP_sorted:∀ r:List (Int × Int),(sortP r).Pairwise (fun a b=>rkP a ≤ rkP b)
  | []=>List.Pairwise.nil
  | p :: r=>insP_sorted p _ (sortP_sorted r)
theorem rkP_inj {p q:Int × Int} (h1:0 ≤ p.2∧p.2 < 1048576) (h2:0 ≤ q.2∧q.2 < 1048576) (h:rkP p=rkP q):p=q:=by
  unfold rkP at h
  have:p.1=q.1:=by omega
  have:p.2=q.2:=by omega
  exact Prod.ext ‹_› ‹_›
theorem uniqP:∀ {xs ys:List (Int × Int)},(∀ p ∈ xs,0 ≤ p.2∧p.2 < 1048576)→xs.Perm ys→xs.Pairwise (fun a b=>rkP a ≤ rkP b)→ys.Pairwise (fun a b=>rkP a ≤ rkP b)→xs=ys
  | [],ys,_,p,_,_=>(List.Perm.nil_eq p)
  | x :: xs,[],_,p,_,_=>absurd p.length_eq (by simp)
  | x :: xs,y :: ys,hb,p,h1,h2=>by
    have c1:=List.pairwise_cons.mp h1
    have c2:=List.pairwise_cons.mp h2
    have m1:x ∈ y :: ys:=p.mem_iff.mp (List.mem_cons_self ..)
    have m2:y ∈ x :: xs:=p.mem_iff.mpr (List.mem_cons_self ..)
    have e:x=y:=by
      refine rkP_inj (hb x (List.mem_cons_self ..)) (hb y m2) ?_
      have l1:rkP y ≤ rkP x:=by rcases List.mem_cons.mp m1 with z | z; rw [z]; exact Int.le_refl _; exact c2.1 x z
      have l2:rkP x ≤ rkP y:=by rcases List.mem_cons.mp m2 with z | z; rw [z]; exact Int.le_refl _; exact c1.1 y z
      omega
    subst e
    rw [uniqP (fun q hq=>hb q (List.mem_cons_of_mem _ hq)) (List.Perm.cons_inv p) c1.2 c2.2]
end TS
namespace L2
open PySem PySem.Spec PyProof.Rows TS
section
variable {prog:Program} {w:World} {A:Around} {E:Value→Shared→Prop} {s:Shared}
theorem sorted_kw {u:Value} {kw:List (Str × Value)} {Q:Value→Shared→Prop} {P:List Value→Prop} (ha1:argsOk "sorted" ⟨[u],kw⟩) (ha2:∀ x,argsOk "list.sort" ⟨[.ref x],kw⟩)
    (col:∀ R:List Value→Shared→Prop,(∀ (h':Heap) (tk:Nat) (us:List Value),(∀ b o,s.heap.get? b=some o→h'.get? b=some o)→s.heap.objs.size ≤ h'.objs.size→P us→us.length ≤ 100000→R us { s with heap:=h',toks:=tk })→wpAny (model prog w) A.in1 (collect u) R E s)
    (srt:∀ (h':Heap) (tk:Nat) (us:List Value),(∀ b o,s.heap.get? b=some o→h'.get? b=some o)→s.heap.objs.size ≤ h'.objs.size→P us→us.length ≤ 100000 →
      wpAny (model prog w) A.in1.in1 (Builtin.«list.sort» ⟨[.ref h'.objs.size],kw⟩) (fun fin s'=>fin = .done (.ret .none)∧Q (.ref h'.objs.size) s') E { s with heap:=h'.push (seqObj "list" us.toArray 0),toks:=tk }) :
    wpAny (model prog w) A (call (.builtin "sorted") [u] kw) Q E s:=by
  refine call_function_entry_kw kind_sorted plain_sorted entry_sorted ha1 ?_
  unfold Builtin.«sorted»
  refine wpAny_bind (m:=checkCount "sorted" 1 1 _) (wpAny_pure ?_)
  refine wpAny_bind (col _ fun h' tk us hk hz hp hl=>?_)
  refine wpAny_bind (wpAny_newList ?_ (by rw [sizeLine_eq]; omega))
  have hoL:(h'.push (seqObj "list" us.toArray 0)).get? h'.objs.size=some (seqObj "list" us.toArray 0):=Heap.get?_push_size _ rfl
  refine wpAny_bind (wpAny_holding (wpAny_call_entry_kw slot_list_sort ⟨_,hoL,rfl⟩ entry_list_sort ?_ (ha2 _)))
  refine wpAny_mono (srt h' tk us hk hz hp hl) (fun fin s' hq=>?_) fun _ _ e=>e
  obtain ⟨rfl,hq⟩:=hq
  exact ⟨_,rfl,wpAny_pure ⟨_,rfl,hq⟩⟩
end
end L2
namespace DL
open PySem PySem.Spec PyProof.Rows L2 TS
def natsI (n:Nat):List Int:=(List.range n).map fun (i:Nat)=>(i:Int)
end DL
namespace TS
open PySem PyProof.Rows
section
variable {prog:Program} {w:World} {A:Around} {E:Value→Shared→Prop} {s:Shared}
theorem zip_same {α:Type}:∀ l:List α,l.zip l=l.map fun x=>(x,x)
  | []=>rfl
  | x :: l=>by rw [List.zip_cons_cons,zip_same l]; rfl
theorem plain_zip (vs:List Value):(vs.toArray.zip vs.toArray).toList=vs.map fun x=>(x,x):=by
  have:=ksk_zip vs.toArray vs
  rw [this,List.toList_toArray,zip_same]
theorem plain_size (vs:List Value):(vs.toArray.zip vs.toArray).size=vs.length:=by rw [Array.size_zip,List.size_toArray]; omega
end
end TS
namespace TS
open PySem PyProof.Rows
def RawD (h:Heap) (d:Addr) (es:Array DictEntry) (ep:Nat):Prop := ∃ o,h.get? d=some o∧o.ExactDict∧o.data = .dict es ep
theorem RawD.at {h h':Heap} {d:Addr} {es:Array DictEntry} {ep:Nat} (x:RawD h d es ep) (k:∀ o,h.get? d=some o→h'.get? d=some o):RawD h' d es ep:=let ⟨o,a,r⟩:=x; ⟨o,k o a,r⟩
theorem RawD.ty {s:Shared} {d:Addr} {es:Array DictEntry} {ep:Nat} (x:RawD s.heap d es ep):s.TypeIs (.ref d) "dict":=let ⟨o,a,r,_⟩:=x; ⟨o,a,r.1⟩
section
variable {prog:Program} {w:World} {A:Around} {E:Value→Shared→Prop} {s:Shared}
theorem raw_iter {d:Addr} {es:Array DictEntry} {ep:Nat} {Q:Value→Shared→Prop} (nm:(d == sysModules)=false) (x:RawD s.heap d es ep)
    (q:Q (.ref s.heap.objs.size) { s with heap:=s.heap.push { cls := .type "dict_keyiterator",data := .fields #[.ref d, .int 0 0, .int es.size 0, .int ep 0] } }):wpAny (model prog w) A (pyIter (.ref d)) Q E s:=by
  have ty:=x.ty
  obtain ⟨o,a,r,dd⟩:=x
  refine wpAny_pyIter_slot ty F.slot_dict_iter (wpAny_call_entry F.slot_dict_iter ty F.entry_dict_iter ?_ (F.args_dict_iter_1 _))
  unfold Builtin.«dict.__iter__» Builtin.Dict.dictSlotNone
  refine wpAny_bind (wpAny_bind (wpAny_notOrdered_dict ty ?_))
  show wpAny _ _ (pure (Value.ref d)) _ _ s
  refine wpAny_pure ?_
  show wpAny _ _ (Builtin.Dict.showsAll d >>= _) _ _ s
  unfold Builtin.Dict.showsAll
  rw [if_neg (by rw [nm]; exact Bool.false_ne_true)]
  refine wpAny_bind (wpAny_pure (wpAny_bind (wpAny_dictEntries a dd (wpAny_bind (wpAny_dictEpoch a dd ?_)))))
  exact wpAny_bind (wpAny_newObj_type (wpAny_pure ⟨_,rfl, "dict_keyiterator",_,⟨_,Heap.get?_push_size _ rfl,rfl⟩,F.slot_dict_keyiterator_next.lookup,by simpa [rawInt] using q⟩))
theorem raw_head {it d:Addr} {i ep:Nat} {es:Array DictEntry} {Q:Option Value→Shared→Prop} (ki:s.heap.IsKeyIter it d i es.size ep) (x:RawD s.heap d es ep) (hi:i < es.size)
    (q:∀ h',h'.IsKeyIter it d (i + 1) es.size ep→Heap.SameBut it s.heap h'→Q (some es[i].key) { s with heap:=h' }):wpAny (model prog w) A (pyNext (.ref it)) Q E s:=by
  have ty:=ki.typeIs
  obtain ⟨o,ho,hc,hd⟩:=ki
  obtain ⟨od,a,r,dd⟩:=x
  have ow:Builtin.Dict_items.ownsTuple "dict_keyiterator"=false:=by decide
  have nn : ¬ ((Value.ref d == Value.none)=true):=Bool.false_ne_true
  unfold pyNext
  refine wpAny_bind (wpAny_attempt (wpAny_callSpecial?_slot (name:=Str.ofString "__next__") ty F.slot_dict_keyiterator_next (wpAny_call_entry F.slot_dict_keyiterator_next ty F.entry_dict_keyiterator_next ?_ (F.args_dict_keyiterator_next_1 _))))
  refine wpAny_bind (wpAny_pure (wpAny_bind (wpAny_bind ?_)))
  first | refine wpAny_bind (wpAny_typeNameOfWhole_keyiter ty (wpAny_pure (wpAny_bind (wpAny_fieldsOf ho hd ?_)))) | refine wpAny_bind (wpAny_typeNameOf_keyiter ty (wpAny_pure (wpAny_bind (wpAny_fieldsOf ho hd ?_))))
  simp only [ow,Bool.false_eq_true,if_false]
  show wpAny _ _ (if (Value.ref d == Value.none)=true then _ else _) _ _ s
  rw [if_neg nn]
  refine wpAny_bind (wpAny_pure (wpAny_bind (wpAny_dictEntries a dd ?_)))
  rw [if_neg (by simp)]
  refine wpAny_bind (wpAny_pure (wpAny_bind (wpAny_dictEpoch a dd ?_)))
  rw [if_neg (by simp)]
  refine wpAny_pure ?_
  have ng : ¬ ((i:Int) < 0):=by omega
  simp only [ng,if_false,Int.toNat_natCast,Array.getElem?_eq_getElem hi]
  refine wpAny_bind ?_
  first | refine wpAny_bind (wpAny_typeNameOfWhole_keyiter ty (wpAny_pure (wpAny_bind (wpAny_isOneOf_keyiter ty ?_)))) | refine wpAny_bind (wpAny_typeNameOf_keyiter ty (wpAny_pure (wpAny_bind (wpAny_isOneOf_keyiter ty ?_))))
  show wpAny _ _ (setField (.ref it) 1 (rawInt ((i:Int) + 1)) >>= _) _ _ s
  refine wpAny_bind (wpAny_setField ho hd (by simp) ?_)
  have k2:(s.heap.update it (Obj.mapFields (·.setIfInBounds 1 (rawInt ((i:Int) + 1))))).IsKeyIter it d (i + 1) es.size ep:=⟨_,Heap.get?_update_self _ ho (Obj.isFreed_of_fields (Obj.data_mapFields hd _)),(Obj.cls_mapFields ..).trans hc,by rw [Obj.data_mapFields hd]; simp [rawInt]⟩
  refine wpAny_bind (wpAny_holding (wpAny_bind (wpAny_isOneOf_keyiter (s:={ s with heap:=s.heap.update it (Obj.mapFields (·.setIfInBounds 1 (rawInt ((i:Int) + 1)))) }) k2.typeIs ?_)))
  show wpAny _ _ (pure es[i].key) _ _ _
  exact wpAny_pure (wpAny_pure ⟨_,rfl,wpAny_pure (q _ k2 (Heap.SameBut.update ..))⟩)
theorem raw_end {it d:Addr} {ep:Nat} {es:Array DictEntry} {Q:Option Value→Shared→Prop} (hh:A.handled=none) (ki:s.heap.IsKeyIter it d es.size es.size ep) (x:RawD s.heap d es ep)
    (q:∀ h',Heap.ExtBut it s.heap h'→Q none { s with heap:=h' }):wpAny (model prog w) A (pyNext (.ref it)) Q E s:=by
  have ty:=ki.typeIs
  obtain ⟨o,ho,hc,hd⟩:=ki
  obtain ⟨od,a,r,dd⟩:=x
  have ow:Builtin.Dict_items.ownsTuple "dict_keyiterator"=false:=by decide
  have nn : ¬ ((Value.ref d == Value.none)=true):=Bool.false_ne_true
  unfold pyNext
  refine wpAny_bind (wpAny_attempt (wpAny_callSpecial?_slot (name:=Str.ofString "__next__") ty F.slot_dict_keyiterator_next (wpAny_call_entry F.slot_dict_keyiterator_next ty F.entry_dict_keyiterator_next ?_ (F.args_dict_keyiterator_next_1 _))))
  refine wpAny_bind (wpAny_pure (wpAny_bind (wpAny_bind ?_)))
  first | refine wpAny_bind (wpAny_typeNameOfWhole_keyiter ty (wpAny_pure (wpAny_bind (wpAny_fieldsOf ho hd ?_)))) | refine wpAny_bind (wpAny_typeNameOf_keyiter ty (wpAny_pure (wpAny_bind (wpAny_fieldsOf ho hd ?_))))
  simp only [ow,Bool.false_eq_true,if_false]
  show wpAny _ _ (if (Value.ref d == Value.none)=true then _ else _) _ _ s
  rw [if_neg nn]
  refine wpAny_bind (wpAny_pure (wpAny_bind (wpAny_dictEntries a dd ?_)))
  rw [if_neg (by simp)]
  refine wpAny_bind (wpAny_pure (wpAny_bind (wpAny_dictEpoch a dd ?_)))
  rw [if_neg (by simp)]
  refine wpAny_pure ?_
  have ng : ¬ ((es.size:Int) < 0):=by omega
  simp only [ng,if_false,Int.toNat_natCast,Array.getElem?_eq_none (Nat.le_refl es.size)]
  refine wpAny_bind ?_
  first | refine wpAny_bind (wpAny_typeNameOfWhole_keyiter ty (wpAny_pure ?_)) | refine wpAny_bind (wpAny_typeNameOf_keyiter ty (wpAny_pure ?_))
  show wpAny _ _ (setField (.ref it) 0 .none >>= _) _ _ s
  refine wpAny_bind (wpAny_setField ho hd (by simp) ?_)
  show wpAny _ _ (newExc (.type "StopIteration") [] >>= _) _ _ _
  refine wpAny_bind ?_
  simp only [newExc,newTuple]
  refine wpAny_bind (wpAny_newObj_type (wpAny_bind (m:=firstArgMember _ _) (wpAny_of_eq (a:=Value.none) (by first | rfl | (simp only [firstArgMember]; rfl)) ?_)) (by size_fits))
  refine wpAny_newObj_type ?_ (by size_fits)
  simp only [raiseNew]
  refine wpAny_bind (wpAny_handled ?_)
  rw [show A.in1.handled=none from hh]
  refine wpAny_bind (wpAny_pure (wpAny_throw ?_))
  refine wpAny_bind (wpAny_isInstance (T := "StopIteration") (b:=true) ⟨_,Heap.get?_push_size _ rfl,rfl⟩ isSubtype_stop ?_)
  exact wpAny_pure (q _ (((Heap.SameBut.update ..).extBut.push _).push _))
theorem walks_raw (hh:A.handled=none) (I d:Addr) (hne:d ≠ I) (es:Array DictEntry) (ep:Nat):Walks prog w A I [I,d] [I] es.size (fun i v => ∃ h:i < es.size,v=es[i].key) (fun i h=>h.IsKeyIter I d i es.size ep∧RawD h d es ep) where
  sub:=fun b hb=>by simp at hb; simp [hb]
  frame:=fun _ _ _ st hk=>⟨(let ⟨o,a,r⟩:=st.1; ⟨o,hk I (by simp) o a,r⟩),st.2.at fun o e=>hk d (by simp) o e⟩
  item:=fun i s Q E hi st hQ=>raw_head st.1 st.2 hi fun h' k sb=>hQ _ h' s.toks ⟨hi,rfl⟩ ⟨k,st.2.at fun o e=>sb.extBut d o hne e⟩ fun b o hb e=>sb.extBut b o (fun z=>hb (by simp [z])) e
  done:=fun s Q E st hQ=>raw_end hh st.1 st.2 fun h' x=>hQ h' s.toks fun b o hb e=>x b o (fun z=>hb (by simp [z])) e
  self:=fun _ _ _ _ st hQ=>wpAny_pyIter_keyiter st.1 hQ
end
end TS
namespace TS
open PySem PyProof.Rows
section
variable {prog:Program} {w:World} {A:Around} {E:Value→Shared→Prop} {s:Shared}
theorem ext_raw {R:Result→Shared→Prop} {d:Addr} {es:Array DictEntry} {ep:Nat} (hh:A.handled=none) (nm:(d == sysModules)=false) (x:RawD s.heap d es ep) (hz:es.size ≤ 100000) (S:Addr) (res:Value) (c₀:Nat) (hS:s.heap.get? S=some { cls := .type "list",data := .seq #[] c₀ })
    (hR:∀ h' tk acc' c',(∀ b o,b ≠ S→s.heap.get? b=some o→h'.get? b=some o)→h'.get? S=some { cls := .type "list",dict:=none,data := .seq acc' c',slots := #[] }→ItemsOf (fun i v => ∃ h:i < es.size,v=es[i].key) acc' es.size→R (.ok (.ret res)) { s with heap:=h',toks:=tk }) :
    wpAny (model prog w) A.in1 (Builtin.List.listExtendWith (.ref S) (.ref d) res) (fun fin s'=>match fin with | .done f=>R (.ok f) s' | .again c'=>c'.quiet=true∧codeAny (model prog w) A c' R s') (fun e s'=>R (.error e) s') s:=by
  obtain ⟨o,a,r,dd⟩:=id x
  have Sd:S ≠ d:=fun e=>by
    rw [e,a] at hS
    have:o.cls = .type "list":=by rw [Option.some.inj hS]
    rw [r.1] at this
    exact absurd this (by decide +kernel)
  have dI:d ≠ s.heap.objs.size:=Nat.ne_of_lt (Heap.lt_size a)
  have SI:S ≠ s.heap.objs.size:=Nat.ne_of_lt (Heap.lt_size hS)
  have W:=(walks_raw (prog:=prog) (w:=w) (A:=A.in1) hh s.heap.objs.size d dI es ep).toS
  unfold Builtin.List.listExtendWith
  refine wpAny_bind (wpAny_typeOf (T := "dict") x.ty ?_)
  have h1:Builtin.List.listSameRef (.ref S) (.ref d)=false:=by simp [Builtin.List.listSameRef,Sd]
  simp only [h1,show (Value.type "dict" == Value.type "list")=false by decide,show (Value.type "dict" == Value.type "tuple")=false by decide,Bool.or_false,Bool.false_eq_true,if_false]
  refine wpAny_bind (raw_iter nm x ?_)
  have x1:RawD (s.heap.push { cls := .type "dict_keyiterator",data := .fields #[.ref d, .int 0 0, .int es.size 0, .int ep 0] }) d es ep:=x.at fun o e=>Heap.get?_push_of_some _ e
  refine wpAny_bind (wpAny_holding (PySem.W.kdl_hint_dict (RawD.ty (s:={ s with heap:=s.heap.push { cls := .type "dict_keyiterator",data := .fields #[.ref d, .int 0 0, .int es.size 0, .int ep 0] } }) x1) ?_))
  have kI:(s.heap.push { cls := .type "dict_keyiterator",data := .fields #[.ref d, .int 0 0, .int es.size 0, .int ep 0] }).IsKeyIter s.heap.objs.size d 0 es.size ep:=⟨_,Heap.get?_push_size _ rfl,rfl,rfl⟩
  have key:∀ (h:Heap) (c₁ tk:Nat),h.IsKeyIter s.heap.objs.size d 0 es.size ep→RawD h d es ep→(∀ b o,b ≠ S→s.heap.get? b=some o→h.get? b=some o)→h.get? S=some { cls := .type "list",data := .seq #[] c₁ } →
      codeAny (model prog w) A (.builtin "list.extend.loop" ⟨[.ref S, .ref s.heap.objs.size,res],[]⟩) R { s with heap:=h,toks:=tk }:=by
    intro h c₁ tk k1 x2 hk g1
    refine codeAny_extend_loopS W (by rw [sizeLine_eq]; omega) S (fun hm=>?_) res es.size 0 _ #[] c₁ rfl (Nat.zero_le _) ⟨k1,x2⟩ g1 (ItemsOf.nil _) fun s' acc' c' hm hS' hacc=>?_
    · simp only [List.mem_cons,List.not_mem_nil,or_false] at hm
      exact hm.elim SI Sd
    · rw [Moved.eq_with hm]
      refine hR s'.heap s'.toks acc' c' (fun b o hb e=>hm.heap b o (fun hmem=>?_) (hk b o hb e)) hS' hacc
      rcases List.mem_cons.mp hmem with e' | hmem
      · exact hb e'
      · exact absurd (Heap.lt_size e) (by rw [List.mem_singleton.mp hmem]; exact Nat.lt_irrefl _)
  have g1:=Heap.get?_push_of_some { cls := .type "dict_keyiterator",data := .fields #[.ref d, .int 0 0, .int es.size 0, .int ep 0] } hS
  refine wpAny_ite_split (fun _=>?_) (fun _=>wpAny_pure ⟨plainId_quiet F.plain_extend_loop _,key _ c₀ _ kI x1 (fun b o _ e=>Heap.get?_push_of_some _ e) g1⟩)
  refine wpAny_bind (wpAny_rule (wpAny_bind ?_))
  show wpAny _ _ (updateSeq S (·.push .none) >>= fun _=>updateSeq S (·.pop)) _ _ _
  refine wpAny_bind (wpAny_updateSeq g1 rfl ?_)
  have g2:=Heap.get?_update_self (Obj.mapSeq (·.push Value.none)) g1 rfl
  refine wpAny_updateSeq (hz:=by seq_fits) g2 rfl ?_
  have g3:=Heap.get?_update_self (Obj.mapSeq (·.pop)) g2 rfl
  have ot:∀ {b:Addr} {o:Obj},b ≠ S→(s.heap.push { cls := .type "dict_keyiterator",data := .fields #[.ref d, .int 0 0, .int es.size 0, .int ep 0] }).get? b=some o→(((s.heap.push { cls := .type "dict_keyiterator",data := .fields #[.ref d, .int 0 0, .int es.size 0, .int ep 0] }).update S (Obj.mapSeq (·.push Value.none))).update S (Obj.mapSeq (·.pop))).get? b=some o:=fun {b o} hb e =>
    (Heap.get?_update_other _ _ (Ne.symm hb)).trans ((Heap.get?_update_other _ _ (Ne.symm hb)).trans e)
  exact wpAny_pure ⟨plainId_quiet F.plain_extend_loop _,key _ _ _ (let ⟨o,e,r⟩:=kI; ⟨o,ot (Ne.symm SI) e,r⟩) (x1.at fun o e=>ot (Ne.symm Sd) e) (fun b o hb e=>ot hb (Heap.get?_push_of_some _ e)) g3⟩
theorem collect_raw {d:Addr} {es:Array DictEntry} {ep:Nat} {R:List Value→Shared→Prop} (hh:A.handled=none) (nm:(d == sysModules)=false) (x:RawD s.heap d es ep) (hz:es.size ≤ 100000)
    (h:∀ (h':Heap) (tk:Nat) (us:List Value),(∀ b o,s.heap.get? b=some o→h'.get? b=some o)→s.heap.objs.size ≤ h'.objs.size→ItemsOf (fun i v => ∃ h:i < es.size,v=es[i].key) us.toArray es.size→R us { s with heap:=h',toks:=tk }) :
    wpAny (model prog w) A (collect (.ref d)) R E s:=by
  unfold collect
  refine wpAny_bind (wpAny_runValue (codeAny_builtin entry_proto_collect' ?_))
  rw [Around.under_plainId PySem.F.plain_proto_collect _]
  show wpAny _ A.in1 (newList [] >>= fun l=>again (.builtin "list.__iadd__" ⟨[l, .ref d],[]⟩)) _ _ s
  refine wpAny_bind (wpAny_newObj_type ?_)
  refine wpAny_pure ⟨plainId_quiet PySem.F.plain_list_iadd _,codeAny_builtin entry_list_iadd' ?_⟩
  rw [Around.under_plainId PySem.F.plain_list_iadd _]
  have g0:(s.heap.push { cls := .type "list",data := .seq ([]:List Value).toArray }).get? s.heap.objs.size=some { cls := .type "list",data := .seq #[] }:=Heap.get?_push_size _ rfl
  have key:=ext_raw (A:=A) (s:={ s with heap:=s.heap.push { cls := .type "list",data := .seq ([]:List Value).toArray } }) (prog:=prog) (w:=w)
    (R:=fun (q:Result) (s':Shared) => ∃ (h':Heap) (tk:Nat) (acc':Array Value) (c':Nat),q = .ok (.ret (.ref s.heap.objs.size))∧s'={ s with heap:=h',toks:=tk } ∧
      (∀ b o,s.heap.get? b=some o→h'.get? b=some o)∧s.heap.objs.size ≤ h'.objs.size∧h'.get? s.heap.objs.size=some { cls := .type "list",dict:=none,data := .seq acc' c',slots := #[] }∧ItemsOf (fun i v => ∃ h:i < es.size,v=es[i].key) acc' es.size)
    hh nm (x.at fun o e=>Heap.get?_push_of_some _ e) hz s.heap.objs.size (.ref s.heap.objs.size) 0 g0
    (fun h' tk acc' c' hk hS' hacc=>⟨h',tk,acc',c',rfl,rfl,fun b o e=>hk b o (Nat.ne_of_lt (Heap.lt_size e)) (Heap.get?_push_of_some _ e),Nat.le_of_lt (Heap.lt_size hS'),hS',hacc⟩)
  show wpAny _ A.in1 (Builtin.List.listExtendWith (.ref s.heap.objs.size) (.ref d) (.ref s.heap.objs.size)) _ _ _
  refine wpAny_mono key (fun fin s' y=>?_) fun e s' y=>?_
  · cases fin with
    | done f =>
      obtain ⟨h',tk,acc',c',e,rfl,hk,hz',hS',hacc⟩:=y
      cases e
      show wpAny _ A (load s.heap.objs.size >>= _) _ _ _
      exact wpAny_bind (wpAny_load hS' (wpAny_pure (h h' tk acc'.toList hk hz' (by simpa using hacc))))
    | again c₁ =>
      refine ⟨y.1,codeAny_mono y.2 fun q s₂ z=>?_⟩
      obtain ⟨h',tk,acc',c',rfl,rfl,hk,hz',hS',hacc⟩:=z
      show wpAny _ A (load s.heap.objs.size >>= _) _ _ _
      exact wpAny_bind (wpAny_load hS' (wpAny_pure (h h' tk acc'.toList hk hz' (by simpa using hacc))))
  · obtain ⟨_,_,_,_,e',_⟩:=y
    cases e'
theorem items_list {es:Array DictEntry} {us:List Value} (h:ItemsOf (fun i v => ∃ h:i < es.size,v=es[i].key) us.toArray es.size):us=es.toList.map (·.key):=by
  obtain ⟨h1,h2⟩:=h
  have l:us.length=es.size:=by simpa using h1
  refine List.ext_getElem (by simpa using l) fun i a b=>?_
  obtain ⟨_,e⟩:=h2 i us[i] (by simp [a])
  rw [e]
  simp
end
end TS
namespace TS
open PySem PyProof.Rows
def TupAt (h:Heap) (a:Addr) (p:Int × Int):Prop := ∃ o t1 t2 n,h.get? a=some o∧o.cls = .type "tuple"∧o.data = .seq #[.int p.1 t1, .int p.2 t2] n
theorem TupAt.at {h h':Heap} {a:Addr} {p:Int × Int} (x:TupAt h a p) (k:∀ o,h.get? a=some o→h'.get? a=some o):TupAt h' a p:=let ⟨o,t1,t2,n,e,r⟩:=x; ⟨o,t1,t2,n,k o e,r⟩
def adr:Value→Addr
  | .ref a=>a
  | _=>0
section
variable {prog:Program} {w:World} {A:Around} {E:Value→Shared→Prop} {s:Shared}
theorem cmp_pairs {a₀:Array Keyed} {f:Addr→Int × Int} (hk:∀ z ∈ a₀.toList, ∃ a,z.1 = .ref a∧TupAt s.heap a (f a)∧0 ≤ (f a).2∧(f a).2 < 1048576):Cmp (model prog w) A E s (fun z=>rkP (f (adr z.1))) (fun _=>0) a₀ (tuples' true) where
  lt:=fun st x y Q hkd mx my h=>by
    obtain ⟨a,ea,⟨o,t1,t2,n,g,c,d⟩,l1,l2⟩:=hk x mx
    obtain ⟨b,eb,⟨o',u1,u2,n',g',c',d'⟩,m1,m2⟩:=hk y my
    have ex:rkP (f (adr x.1))=(f a).1 * 1048576 + (f a).2:=by rw [ea]; rfl
    have ey:rkP (f (adr y.1))=(f b).1 * 1048576 + (f b).2:=by rw [eb]; rfl
    rw [lt'_eq]
    refine wpS_bind (wpS_get ?_)
    rw [hkd,ea,eb]
    refine wpS_bind (wpS_lift (wpAny_attempt (PySem.W.kat_lt g d g' d' (PySem.W.kat_cons (wpAny_eqBool_int (PySem.W.kat_go (fun e=>?_) fun e=>?_))))))
    · have e:(f a).1=(f b).1:=of_decide_eq_true e
      refine PySem.W.kat_yes (PySem.W.kat_cons (wpAny_eqBool_int (PySem.W.kat_go (fun e2=>?_) fun e2=>?_)))
      · have e2:(f a).2=(f b).2:=of_decide_eq_true e2
        refine PySem.W.kat_yes (PySem.W.kat_nil ⟨rfl,?_⟩)
        rw [show rkP (f (adr x.1))=rkP (f (adr y.1)) by rw [ex,ey,e,e2]] at h
        simpa using wpS_pure h
      · have e2 : ¬ (f a).2=(f b).2:=of_decide_eq_false e2
        refine PySem.W.kat_no (PySem.W.kat_one _ _ (lt_int ?_))
        show s=s∧_
        refine ⟨rfl,?_⟩
        rw [show decide (rkP (f (adr x.1)) < rkP (f (adr y.1)))=decide ((f a).2 < (f b).2) by rw [ex,ey,e]; exact decide_eq_decide.mpr (by omega)] at h
        exact wpS_pure h
    · have e : ¬ (f a).1=(f b).1:=of_decide_eq_false e
      refine PySem.W.kat_no (oneLt_int ⟨rfl,?_⟩)
      rw [show decide (rkP (f (adr x.1)) < rkP (f (adr y.1)))=decide ((f a).1 < (f b).1) by rw [ex,ey]; exact decide_eq_decide.mpr (by omega)] at h
      exact wpS_pure h
  pi:=fun x _=>⟨Int.le_refl _,by decide⟩
theorem pr_zip (bs:List Addr):(((bs.map Value.ref).toArray.zip (bs.map Value.ref).toArray)).toList=bs.map fun b=>(Value.ref b,Value.ref b):=by
  rw [plain_zip,List.map_map]
  rfl
theorem pr_out {bs:List Addr} {f:Addr→Int × Int} (hb:∀ b ∈ bs,0 ≤ (f b).2∧(f b).2 < 1048576) (arr:Array Keyed) (hp:arr.Perm ((bs.map Value.ref).toArray.zip (bs.map Value.ref).toArray)) (hr:Ris (fun z=>rkP (f (adr z.1))) (fun _=>0) arr.toList) :
    ∃ out:List Addr,out.Perm bs∧out.map f=sortP (bs.map f)∧arr.map (·.2)=(out.map Value.ref).toArray:=by
  have hpl:=Array.perm_iff_toList_perm.mp hp
  rw [pr_zip] at hpl
  have p1:(arr.toList.map fun z=>adr z.2).Perm bs:=by
    have q:=hpl.map fun z=>adr z.2
    rw [List.map_map] at q
    have e:bs.map ((fun z:Keyed=>adr z.2) ∘ fun b=>(Value.ref b,Value.ref b))=bs:=by
      rw [show ((fun z:Keyed=>adr z.2) ∘ fun b=>(Value.ref b,Value.ref b))=id from rfl,List.map_id]
    rw [e] at q
    exact q
  have each:∀ z ∈ arr.toList,z.1=z.2∧z.2=Value.ref (adr z.2):=fun z hz=>by
    obtain ⟨b,_,rfl⟩:=List.mem_map.mp (hpl.mem_iff.mp hz)
    exact ⟨rfl,rfl⟩
  refine ⟨arr.toList.map fun z=>adr z.2,p1,?_,?_⟩
  · refine uniqP (fun p hp'=>?_) ((p1.map f).trans (sortP_perm _).symm) ?_ (sortP_sorted _)
    · obtain ⟨b,m,rfl⟩:=List.mem_map.mp hp'
      exact hb b (p1.mem_iff.mp m)
    · rw [List.map_map]
      refine List.pairwise_map.mpr ((List.Pairwise.and_mem.mp hr).imp fun {a b} hab=>?_)
      obtain ⟨ma,mb,q⟩:=hab
      have e1:=(each a ma).1
      have e2:=(each b mb).1
      have q':rkP (f (adr a.1)) * 1048576 + 0 ≤ rkP (f (adr b.1)) * 1048576 + 0:=q
      rw [e1,e2] at q'
      show rkP (f (adr a.2)) ≤ rkP (f (adr b.2))
      omega
  · refine Array.toList_inj.mp ?_
    rw [Array.toList_map,List.toList_toArray,List.map_map]
    exact List.map_congr_left fun z hz=>(each z hz).2
theorem pr_size (bs:List Addr):((bs.map Value.ref).toArray.zip (bs.map Value.ref).toArray).size=bs.length:=by rw [plain_size,List.length_map]
theorem pr_short {α:Type} {R:α→α→Prop}:∀ {l:List α},l.length ≤ 1→l.Pairwise R
  | [],_=>List.Pairwise.nil
  | [z],_=>List.pairwise_singleton _ _
theorem pr_tups {h:Heap} {f:Addr→Int × Int}:∀ {bs:List Addr},(∀ b ∈ bs,TupAt h b (f b))→∃ fs:List Value,PySem.W.KatTups h (bs.map Value.ref) fs∧fs.length=bs.length∧∀ v ∈ fs, ∃ n t,v = .int n t
  | [],_=>⟨[], .nil,rfl,fun v hv=>by cases hv⟩
  | b :: bs,ht=>by
    obtain ⟨fs,k,l,r⟩:=pr_tups (bs:=bs) fun x hx=>ht x (List.mem_cons_of_mem _ hx)
    obtain ⟨o,t1,t2,n,e,c,d⟩:=ht b (List.mem_cons_self ..)
    refine ⟨.int (f b).1 t1 :: fs, .cons e c d rfl k,by simp [l],fun v hv=>?_⟩
    rcases List.mem_cons.mp hv with z | z
    · exact ⟨_,_,z⟩
    · exact r v z
theorem ls_pairs {a:Addr} {bs:List Addr} {f:Addr→Int × Int} {n:Nat} {P:PySem.Fin→Shared→Prop} (ho:s.heap.get? a=some (seqObj "list" (bs.map Value.ref).toArray n)) (ht:∀ b ∈ bs,TupAt s.heap b (f b)) (hb:∀ b ∈ bs,0 ≤ (f b).2∧(f b).2 < 1048576) (hz:bs.length ≤ 100000)
    (h:∀ out:List Addr,out.Perm bs→out.map f=sortP (bs.map f)→P (.done (.ret .none)) { s with heap:=sortedHeap s.heap a (bs.map Value.ref) (out.map Value.ref).toArray }):wpAny (model prog w) A (Builtin.«list.sort» ⟨[.ref a],[]⟩) P E s:=by
  have na:∀ b ∈ bs,b ≠ a:=fun b m z=>by
    obtain ⟨o,_,_,_,e,c,_⟩:=ht b m
    rw [z,ho] at e
    have:(seqObj "list" (bs.map Value.ref).toArray n).cls = .type "tuple":=by rw [Option.some.inj e]; exact c
    have q:(Value.type "list") = .type "tuple":=this
    exact absurd q (by decide +kernel)
  have lv:(bs.map Value.ref).length=bs.length:=List.length_map ..
  obtain ⟨e1,ho1⟩:∃ e1,(s.heap.update a (Obj.mapSeq fun _=>(#[]:Array Value))).get? a=some (seqObj "list" #[] e1):=⟨_,get?_update_seq ho fun _ => #[]⟩
  have ho2:(((s.heap.update a (Obj.mapSeq fun _=>(#[]:Array Value))).push (seqObj "tuple" (bs.map Value.ref).toArray 0)).push (seqObj "list" #[] 0)).get? a=some (seqObj "list" #[] e1):=Heap.get?_push_of_some _ (Heap.get?_push_of_some _ ho1)
  have ht2:∀ b ∈ bs,TupAt (((s.heap.update a (Obj.mapSeq fun _=>(#[]:Array Value))).push (seqObj "tuple" (bs.map Value.ref).toArray 0)).push (seqObj "list" #[] 0)) b (f b):=fun b m=>(ht b m).at fun o e=>Heap.get?_push_of_some _ (Heap.get?_push_of_some _ ((Heap.get?_update_other _ _ (Ne.symm (na b m))).trans e))
  rw [list_sort_plain]
  refine wpAny_bind (listItems_at ho rfl ?_)
  refine wpAny_bind (listUpdate_at ho rfl ?_ (by rw [List.size_toArray,sizeLine_eq]; omega) (Nat.zero_le _))
  refine wpAny_bind (seqEpoch_at ho1 rfl ?_)
  refine wpAny_bind (wpAny_newTuple ?_ (by show (bs.map Value.ref).length ≤ _; rw [sizeLine_eq]; omega))
  refine wpAny_bind (wpAny_newList ?_ (Nat.zero_le _))
  refine wpAny_holding ?_
  have hv2:(bs.map Value.ref).toArray.size=bs.length:=by simp
  by_cases h2:(bs.map Value.ref).toArray.size < 2
  · rw [if_pos h2,if_pos h2]
    refine wpAny_bind (wpAny_pure ?_)
    dsimp only
    rw [StateT.run_pure]
    refine wpAny_bind (wpAny_pure ?_)
    dsimp only
    obtain ⟨out,q1,q2,q3⟩:=pr_out hb _ (Array.Perm.refl _) (by
      unfold Ris
      rw [pr_zip]
      exact pr_short (by rw [List.length_map]; omega))
    refine wpAny_bind (seqEpoch_at ho2 rfl ?_)
    refine wpAny_bind (listUpdate_at ho2 rfl ?_ (Nat.zero_le _) (by
      show (((bs.map Value.ref).toArray.zip (bs.map Value.ref).toArray).map (·.2)).size ≤ _
      rw [Array.size_map,pr_size,sizeLine_eq]; omega))
    simp only [bne_self_eq_false,Bool.false_eq_true,if_false]
    have:=h out q1 q2
    rw [← q3] at this
    exact wpAny_pure this
  · rw [if_neg h2,if_neg h2]
    obtain ⟨fs,kt,fl,fi⟩:=pr_tups ht2
    refine wpAny_bind (PySem.W.kat_kind (T := .type "int") kt (by omega) (fun v hv=>?_) (by decide) ?_)
    · obtain ⟨n,t,rfl⟩:=fi v hv
      exact .now
    rw [show (Value.type "int" != Value.type "tuple")=true by decide]
    have C:Cmp (model prog w) A E { s with heap:=((s.heap.update a (Obj.mapSeq fun _=>(#[]:Array Value))).push (seqObj "tuple" (bs.map Value.ref).toArray 0)).push (seqObj "list" #[] 0) } (fun z=>rkP (f (adr z.1))) (fun _=>0) ((bs.map Value.ref).toArray.zip (bs.map Value.ref).toArray) (tuples' true):=cmp_pairs fun z hz'=>by
      rw [pr_zip] at hz'
      obtain ⟨b,m,rfl⟩:=List.mem_map.mp hz'
      exact ⟨b,rfl,ht2 b m,hb b m⟩
    dsimp only
    refine wpAny_bind (wpAny_mono (wp_runs C (st:=SortSt.mk' (tuples' true) ((bs.map Value.ref).toArray.zip (bs.map Value.ref).toArray) #[] 7 none) (Q:=fun _ st'=>TB ((bs.map Value.ref).toArray.zip (bs.map Value.ref).toArray) (tuples' true) st'∧Ris (fun z=>rkP (f (adr z.1))) (fun _=>0) (arrOf st').toList) ⟨Array.Perm.refl _,rfl,rfl⟩ rfl rfl (List.pairwise_of_forall (fun _ _=>Int.le_refl _)) (by rw [pr_size]; omega) fun st' a b=>⟨a,b⟩) ?_ fun _ _ e=>e)
    rintro ⟨⟨⟩,st'⟩ s' ⟨rfl,tb,rs⟩
    obtain ⟨out,q1,q2,q3⟩:=pr_out hb (arrOf st') tb.pm rs
    dsimp only at tb rs ⊢
    refine wpAny_bind (seqEpoch_at ho2 rfl ?_)
    refine wpAny_bind (listUpdate_at ho2 rfl ?_ (Nat.zero_le _) (by
      show ((arrOf st').map (·.2)).size ≤ _
      rw [Array.size_map,tb.pm.size_eq,pr_size,sizeLine_eq]; omega))
    rw [tb.fld]
    simp only [bne_self_eq_false,Bool.false_eq_true,if_false]
    have:=h out q1 q2
    rw [← q3] at this
    exact wpAny_pure this
end
end TS
namespace L2
open PySem PySem.Spec PyProof.Rows TS
def twoH (H:Hp) (b:Addr):Int × Int:=match H b with
  | some (.tup [.int x, .int y])=>(x,y)
  | _=>(0,0)
section
variable {X:Cx}
theorem tup_at {pins:List (Addr × Obj)} {s:Shared} {σ:L2.St} {H:Hp} (I:Inv X pins σ H s) {b:Addr} {x y:Int} (h:H b=some (.tup [.int x, .int y])):TupAt s.heap b (twoH H b):=by
  obtain ⟨_,its,rv,o,e,c,d⟩:=(show ObjOk X.prog X.w H s.heap b (.tup [.int x, .int y]) from I.hok b _ h)
  have et:twoH H b=(x,y):=by unfold twoH; rw [h]
  rw [et]
  cases rv with
  | cons r1 rv =>
    cases rv with
    | cons r2 rv =>
      cases rv
      obtain ⟨t1,rfl⟩:=r1
      obtain ⟨t2,rfl⟩:=r2
      first
        | exact ⟨o,t1,t2,_,e,c,d⟩
        | (obtain ⟨n,d⟩:=d; exact ⟨o,t1,t2,n,e,c,d⟩)
theorem dt_keys {pins:List (Addr × Obj)} {s:Shared} {σ:L2.St} {H:Hp} (I:Inv X pins σ H s) {p:Addr} {ps:List (Int × Int)} (h:H p=some (.dT (DL.pkv ps))) :
    (p == sysModules)=false∧∃ (bs:List Addr) (es:Array DictEntry) (ep:Nat),RawD s.heap p es ep∧es.toList.map (·.key)=bs.map Value.ref∧bs.map (twoH H)=ps∧∀ b ∈ bs, ∃ x y:Int,H b=some (.tup [.int x, .int y]):=by
  obtain ⟨_,nm,xs,pr,o,es,ep,e,ex,d,ek,_⟩:=(show ObjOk X.prog X.w H s.heap p (.dT (DL.pkv ps)) from I.hok p _ h)
  refine ⟨nm,xs.map (·.2.1),es,ep,⟨o,e,ex,d⟩,?_,?_,?_⟩
  · rw [ek,List.map_map,List.map_map]
    rfl
  · clear ek e d
    have:∀ {qs:List (Int × Int)} {xs:List (List Key × Addr × Value)},Paired (fun (p:List Key × V) (q:List Key × Addr × Value)=>p.1=q.1∧H q.2.1=some (.tup (p.1.map kV))∧RelV p.2 q.2.2) (DL.pkv qs) xs→(xs.map (·.2.1)).map (twoH H)=qs:=by
      intro qs
      induction qs with
      | nil=>intro xs hp; cases hp; rfl
      | cons q qs ih =>
        intro xs hp
        cases hp with
        | @cons _ b _ _ h1 h2 =>
          have e:twoH H b.2.1=q:=by
            unfold twoH
            rw [h1.2.1]
            rfl
          simp only [List.map_cons]
          rw [ih h2,e]
    exact this pr
  · intro b hb
    obtain ⟨x,hx,rfl⟩:=List.mem_map.mp hb
    have:∀ {qs:List (Int × Int)} {xs:List (List Key × Addr × Value)},Paired (fun (p:List Key × V) (q:List Key × Addr × Value)=>p.1=q.1∧H q.2.1=some (.tup (p.1.map kV))∧RelV p.2 q.2.2) (DL.pkv qs) xs→∀ x ∈ xs, ∃ a b:Int,H x.2.1=some (.tup [.int a, .int b]):=by
      intro qs
      induction qs with
      | nil=>intro xs hp x hx; cases hp; cases hx
      | cons q qs ih =>
        intro xs hp x hx
        cases hp with
        | cons h1 h2 =>
          rcases List.mem_cons.mp hx with rfl | w
          · exact ⟨q.1,q.2,h1.2.1⟩
          · exact ih h2 x w
    exact this pr x hx
theorem refs_vals:∀ out:List Addr,Vals (out.map V.ref) (out.map Value.ref)
  | [] => .nil
  | a :: out => .cons rfl (refs_vals out)
theorem call_sortedD (hc:X.calm=true):CallR X (.builtin "sorted") (fun xs H Q => ∃ (p:Addr) (ps:List (Int × Int)),xs=[.ref p]∧H p=some (.dT (DL.pkv ps))∧ps.length ≤ 50000∧(∀ q ∈ ps,0 ≤ q.2∧q.2 < 1048576) ∧
    ∀ l (out:List Addr),H l=none→out.map (twoH H)=sortP ps→(∀ b ∈ out, ∃ x y:Int,H b=some (.tup [.int x, .int y]))→Q (.ref l) (upd H l (.lst (out.map V.ref)))):=by
  intro pins s σ H xs us Q I r h
  obtain ⟨p,ps,rfl,hp,hb,hr,q⟩:=h
  obtain ⟨u,rfl,ru⟩:=vals1 r
  cases ru
  obtain ⟨nm,bs,es,ep,x,ek,ef,et⟩:=dt_keys I hp
  have bl:bs.length=ps.length:=by rw [← ef,List.length_map]
  have esz:es.size=bs.length:=by
    have:=congrArg List.length ek
    simpa using this
  refine sorted_kw (P:=fun us=>us=bs.map Value.ref) (args_sorted1 _) (fun _=>args_list_sort _) (fun R hR=>?_) (fun h' tk us hk hz hu hlen=>?_)
  · refine collect_raw (I.ok.hd hc) nm x (by omega) fun h' tk us hk hz hit=>hR h' tk us hk hz ((items_list hit).trans ek) ?_
    have:=congrArg List.length ((items_list hit).trans ek)
    simp only [List.length_map] at this
    omega
  · subst hu
    have tu:∀ b ∈ bs,TupAt (h'.push (seqObj "list" (bs.map Value.ref).toArray 0)) b (twoH H b):=fun b m=>by
      obtain ⟨a,c,e⟩:=et b m
      exact (tup_at I e).at fun o z=>Heap.get?_push_of_some _ (hk b o z)
    refine ls_pairs (s:={ s with heap:=h'.push (seqObj "list" (bs.map Value.ref).toArray 0),toks:=tk }) (f:=twoH H) (Heap.get?_push_size _ rfl) tu (fun b m=>?_) (by omega) fun out po pf=>⟨rfl,?_⟩
    · exact hr _ (by rw [← ef]; exact List.mem_map.mpr ⟨b,m,rfl⟩)
    have fr:s.heap.objs.size ≤ h'.objs.size:=hz
    have g0:(h'.push (seqObj "list" (bs.map Value.ref).toArray 0)).get? h'.objs.size=some (seqObj "list" (bs.map Value.ref).toArray 0):=Heap.get?_push_size _ rfl
    obtain ⟨e1,g1⟩:∃ e1,((h'.push (seqObj "list" (bs.map Value.ref).toArray 0)).update h'.objs.size (Obj.mapSeq fun _=>(#[]:Array Value))).get? h'.objs.size=some (seqObj "list" #[] e1):=⟨_,get?_update_seq g0 fun _ => #[]⟩
    obtain ⟨k,g2⟩:∃ k,(sortedHeap (h'.push (seqObj "list" (bs.map Value.ref).toArray 0)) h'.objs.size (bs.map Value.ref) (out.map Value.ref).toArray).get? h'.objs.size=some (seqObj "list" (out.map Value.ref).toArray k):=⟨_,get?_update_seq (Heap.get?_push_of_some _ (Heap.get?_push_of_some _ g1)) fun _=>(out.map Value.ref).toArray⟩
    have ol:out.length ≤ 50000:=by rw [po.length_eq]; omega
    refine ⟨.ref _,_,I.laid (o:=HO.lst (out.map V.ref)) (fun b o e=>?_) fr ⟨?_,out.map Value.ref,k,refs_vals out,by simpa [seqObj] using g2⟩,rfl,q _ out (I.hok.fresh fr) (by rw [pf,ef]) fun b m=>et b (po.mem_iff.mp m)⟩
    · have e2:=hk b o e
      have nb:h'.objs.size ≠ b:=Nat.ne_of_gt (Heap.lt_size e2)
      unfold sortedHeap
      exact (Heap.get?_update_other _ _ nb).trans (Heap.get?_push_of_some _ (Heap.get?_push_of_some _ ((Heap.get?_update_other _ _ nb).trans (Heap.get?_push_of_some _ e2))))
    · refine DL.le_line ?_
      rw [List.length_map]; omega
end
end L2
namespace DL
open PySem PySem.Spec PyProof.Rows L2 TS
section
variable {X:Cx} {F:List Addr}
def prD2 (q:Int × Int):D := .tup [.int q.1, .int q.2]
def kSortD:List Ev→Option Ev:=fun rs=>match rs with
  | [r]=>(match r.d with
    | .pdc ps=>if ps.length ≤ 50000∧(ps.all fun q=>decide (0 ≤ q.2∧q.2 < 1048576))=true then some (.nw ((sortP ps).map prD2)) else none
    | _=>none)
  | _=>none
theorem reps_pairs {K:PySem.W.Frag} {H H':Hp}:∀ {out:List Addr},(∀ b ∈ out, ∃ x y:Int,H b=some (.tup [.int x, .int y])∧H' b=some (.tup [.int x, .int y]))→Reps K H' ((out.map (twoH H)).map prD2) (out.map V.ref)
  | [],_ => .nil
  | b :: out,h=>by
    obtain ⟨x,y,e,e'⟩:=h b (List.mem_cons_self ..)
    have et:twoH H b=(x,y):=by unfold twoH; rw [e]
    simp only [List.map_cons,et]
    exact .cons (.tup (SqT.of e') (.cons (.int x) (.cons (.int y) .nil))) (reps_pairs fun c hc=>h c (List.mem_cons_of_mem _ hc))
theorem cd_sortD (hc:X.calm=true):CallD X F (.builtin "sorted") kSortD:=CallD.of (call_sortedD hc) fun H0 H A xs rs e Q m g q ek hq=>by
  unfold kSortD at ek
  split at ek
  case h_2=>cases ek
  cases q with
  | cons q1 q2 =>
    cases q2
    split at ek
    case h_2=>cases ek
    rename_i ps z
    split at ek
    case isFalse=>cases ek
    rename_i c
    cases ek
    have p:=q1.full
    rw [z] at p
    cases p with
    | pdc h1 =>
      refine ⟨_,ps,rfl,h1,c.1,fun q hq=>by simpa using List.all_eq_true.mp c.2 q hq,fun l out hl ho ht=>?_⟩
      refine hq _ _ (upd_sameH hl) ⟨l,_,rfl,Same.free g hl,upd_same,?_⟩
      rw [← ho]
      refine reps_pairs fun b hb=>?_
      obtain ⟨x,y,eb⟩:=ht b hb
      have nb:b ≠ l:=fun w=>by rw [w,hl] at eb; cases eb
      have m':Lists H (A ++ F):=m.mono g
      refine ⟨x,y,eb,hide_get (by rw [upd_ne nb]; exact eb) fun w=>?_⟩
      rcases List.mem_cons.mp w with w | w
      · exact nb w
      · obtain ⟨o,ho'⟩:=m' b w
        rw [eb] at ho'
        have:=o.2
        rw [← Option.some.inj ho'] at this
        cases this
end
end DL
namespace DL
open PySem PySem.Spec PyProof.Rows L2
def Pn (I:List Nat) (σ σ':L2.St):Prop := ∀ i ∈ I,σ'[i]?=σ[i]?
def dP (K:PySem.W.Frag) (F:List Addr) (I:List Nat) (g:DS):TS:=fun E σ H => ∃ A t t',RS K F H A t σ∧g t=some (.nx t')∧∀ σ' H' A',Gr A H A' H'→RS K F H' A' t' σ'→Pn I σ σ'→E.nx σ' H'
section
variable {X:Cx} {F:List Addr} {I:List Nat} {a b c:Expr} {es:List Expr} {fa fb fc:DE} {g g1 g2:DS} {ft fu:DT} {pos:Pos} {st:Stmt} {rest:List Stmt}
theorem pp_if {s1 s2:List Stmt} (hc:PT X c (dT X.K F ft)) (ha:PSs X s1 (dP X.K F I g1)) (hb:PSs X s2 (dP X.K F I g2)):PS X (.If c s1 s2 pos) (dP X.K F I (dIfS ft g1 g2)):=by
  refine PS.imp (ps_if hc ha hb) ?_
  rintro E σ H ⟨A,t,t2,R,e,h⟩
  unfold dIfS at e
  cases e1:ft t with
  | none=>rw [e1] at e; cases e
  | some r1 =>
    rw [e1] at e
    refine ⟨A,t,r1,R,e1,fun H1 gs=>?_⟩
    have gr:Gr A H A H1:=Gr.of_same R.mu.left gs
    cases r1 with
    | true=>exact ⟨A,t,t2,R.grow gs,e,fun σ' H' A' g' R' n'=>h _ _ _ (gr.trans g') R' n'⟩
    | false=>exact ⟨A,t,t2,R.grow gs,e,fun σ' H' A' g' R' n'=>h _ _ _ (gr.trans g') R' n'⟩
end
end DL
namespace DL
open PySem PySem.Spec PyProof.Rows L2
def spT (K:PySem.W.Frag) (G:D→List D→List D→D→Option (List Int × List Int)):Sp:=fun vs H Q _ => ∃ (v0 v3:V) (p q:Addr) (ws us:List V) (d0 d3:D) (xs ys:List D) (r:List Int × List Int),vs=[v0, .ref p, .ref q,v3]∧p ≠ q∧H p=some (.lst ws)∧H q=some (.lst us) ∧
  Rep K (hide [p,q] H) d0 v0∧Reps K (hide [p,q] H) xs ws∧Reps K (hide [p,q] H) ys us∧Rep K (hide [p,q] H) d3 v3∧G d0 xs ys d3=some r ∧
  ∀ H',(∀ b o,b ≠ p→b ≠ q→H b=some o→H' b=some o)→H' p=some (.lst (r.1.map V.int))→H' q=some (.lst (r.2.map V.int))→Q .non H'
structure CalT (P:Program) (w:World) (K:PySem.W.Frag) (mg:Str→Option Value) (base:BHeap) (x:Str) (k:Nat) (G:D→List D→List D→D→Option (List Int × List Int)):Prop where
  ex:∃ (a:Addr) (fd:FuncData) (ps:List Str),mg x=some (.ref a)∧PySem.W.keepIn K (.ref a)=true∧L2.Binds K fd ps []∧FnOk P w K mg base CX0 k a fd ps (spT K G)
theorem RepDs.part {K:PySem.W.Frag} {H0 H:Hp} {xs:List D} (sc:xs.all scD=true):∀ {ds:List D} {vs:List V} {C:List Addr} {k:Nat},RepDs K H0 H ds vs C→ds[k]?=some (.lst xs) →
    ∃ C1 C2 r,C=C1 ++ r :: C2∧vs[k]?=some (.ref r)∧H r=some (.lst (xs.map sV))∧∀ (H01 H1:Hp) (xs':List D),xs'.all scD=true→H1 r=some (.lst (xs'.map sV))→(∀ b ∈ C1 ++ C2, ∀ o,H b=some o→H1 b=some o)→Same H0 H01→RepDs K H01 H1 (ds.set k (.lst xs')) vs (C1 ++ r :: C2)
  | _,_,_,_, .nil,e=>by simp at e
  | _,_,_,0, .cons (B:=B) (C:=C) h r,e=>by
    simp at e
    subst e
    cases h with
    | flat f q=>simp [flat] at f
    | @lst _ p vs' B' h1 h2 =>
      obtain ⟨rfl,rfl⟩:=repds_sc h2 sc
      refine ⟨[],C,p,rfl,rfl,h1,fun H01 H1 xs' s' h' kp sm=>?_⟩
      exact .cons (B:=[p]) (C:=C) (.lst h' (sc_repds s')) (RepDs.mono sm r fun b hb o w=>kp b (by simpa using hb) o w)
  | _,_,_,k + 1, .cons (B:=B) (C:=C) h r,e=>by
    obtain ⟨C1,C2,q,rfl,a2,a3,a4⟩:=RepDs.part sc r (k:=k) (by simpa using e)
    refine ⟨B ++ C1,C2,q,by simp,by simpa using a2,a3,fun H01 H1 xs' s' h' kp sm=>?_⟩
    rw [List.append_assoc]
    exact .cons (RepD.mono sm h fun b hb o w=>kp b (by simp [hb]) o w) (a4 H01 H1 xs' s' h' (fun b hb o w=>kp b (by rcases List.mem_append.mp hb with z | z <;> simp [z]) o w) sm)
theorem RS.takeDp2 {K:PySem.W.Frag} {F A:List Addr} {H:Hp} {t:Th} {σ:L2.St} {i:Nat} {d:D} (R:RS K F H A t σ) (e:t[i]?=some (.dp d)) :
    ∃ v B A',σ[i]?=some (some v)∧RS K (B ++ F) H A' (t.set i .no) σ∧B.Nodup∧(∀ b ∈ B,b ∉ F)∧RepD K (hide (A ++ F) H) H d v B∧(∀ x ∈ A',x ∈ A)∧(∀ x ∈ B,x ∈ A):=by
  obtain ⟨v,B,A',a1,a2,a3,a4,a5,a6,a7,a8,a9⟩:=R.rel.loseDp R.nd e
  have s:Same (hide (A ++ F) H) (hide (A' ++ (B ++ F)) H):=hide_less H fun x hx=>by
    rcases List.mem_append.mp hx with z | z
    · exact List.mem_append_left _ (a4 x z)
    · rcases List.mem_append.mp z with z | z
      · exact List.mem_append_left _ (a5 x z)
      · exact List.mem_append_right _ z
  refine ⟨v,B,A',a1,⟨fun p hp=>?_,a8,fun p hp z=>?_,RSl.mono s a3 fun _ _ _ w=>w⟩,a7,fun b hb=>R.dj b (a5 b hb),a2,a4,a5⟩
  · rcases List.mem_append.mp hp with z | z
    · exact R.mu p (List.mem_append_left _ (a4 p z))
    · rcases List.mem_append.mp z with z | z
      · exact R.mu p (List.mem_append_left _ (a5 p z))
      · exact R.mu p (List.mem_append_right _ z)
  · rcases List.mem_append.mp z with z | z
    · exact a9 p hp z
    · exact R.dj p (a4 p hp) z
theorem Reps.sc {K:PySem.W.Frag} {H:Hp}:∀ {ds:List D},ds.all scD=true→Reps K H ds (ds.map sV)
  | [],_ => .nil
  | d :: ds,s=>by
    simp only [List.all_cons,Bool.and_eq_true] at s
    exact .cons (sc_rep s.1) (Reps.sc s.2)
theorem RS.putRow {K:PySem.W.Frag} {F A:List Addr} {H:Hp} {t:Th} {σ:L2.St} {i:Nat} {p:Addr} {xs:List D} {vs:List V} (R:RS K ([p] ++ F) H A t σ) (dj:p ∉ F) (hp:H p=some (.lst vs)) (r:Reps K (hide (A ++ ([p] ++ F)) H) xs vs) (hi:i < t.length) :
    ∃ A',(∀ x ∈ A',x=p ∨ x ∈ A)∧RS K F H A' (t.set i (.own xs)) (σ.set i (some (.ref p))):=by
  obtain ⟨A2,r2,sub2,nd2⟩:=RSl.setAny (s := .own xs) (v := .ref p) (B:=[p]) (fun q => .own hp r q) i R.rel hi
  have sub2:∀ x ∈ A2,x=p ∨ x ∈ A:=fun x hx=>by
    rcases sub2 x hx with z | z
    · exact .inl (List.mem_singleton.mp z)
    · exact .inr z
  refine ⟨A2,sub2,⟨fun q hq=>?_,nd2 R.nd (by simp) (fun b hb z=>R.dj b z (List.mem_append_left _ hb)),fun q hq=>?_,RSl.mono (hide_less H fun x hx=>?_) r2 fun _ _ _ w=>w⟩⟩
  · rcases List.mem_append.mp hq with z | z
    · rcases sub2 q z with w | w
      · exact ⟨mL vs,w ▸ hp⟩
      · exact R.mu q (List.mem_append_left _ w)
    · exact R.mu q (List.mem_append_right _ (List.mem_append_right _ z))
  · rcases sub2 q hq with w | w
    · exact w ▸ dj
    · exact fun z=>R.dj q w (List.mem_append_right _ z)
  · rcases List.mem_append.mp hx with z | z
    · rcases sub2 x z with w | w
      · exact List.mem_append_right _ (by simp [w])
      · exact List.mem_append_left _ w
    · exact List.mem_append_right _ (List.mem_append_right _ z)
theorem Gr.beside {A A' P:List Addr} {H H':Hp} (g:Gr A H A' H') (h:∀ b ∈ P,b ∉ A∧H b ≠ none):Gr (A ++ P) H (A' ++ P) H' where
  kp:=fun b o n e=>g.kp b o (fun z=>n (List.mem_append_left _ z)) e
  al:=fun b hb=>by
    rcases List.mem_append.mp hb with z | z
    · exact g.al b z
    · obtain ⟨n,e⟩:=h b z
      cases q:H b with
      | none=>exact absurd q e
      | some o=>rw [g.kp b o n q]; simp
  nw:=fun b hb=>by
    rcases List.mem_append.mp hb with z | z
    · rcases g.nw b z with w | w
      · exact .inl (List.mem_append_left _ w)
      · exact .inr w
    · exact .inl (List.mem_append_right _ z)
structure Lent (K:PySem.W.Frag) (F:List Addr) (ir jx:Nat) (ds:List D) (k:Nat) (A0:List Addr) (Hb:Hp) (p r:Addr) (C1 C2:List Addr) (A:List Addr) (H:Hp) (σ:L2.St):Prop where
  nd:(p :: (C1 ++ r :: C2)).Nodup
  dj:∀ b ∈ p :: (C1 ++ r :: C2),b ∉ F
  s1:σ[ir]?=some (some (.ref p))
  s2:σ[jx]?=some (some (.ref r))
  gr:Gr A0 Hb (A ++ p :: (C1 ++ C2)) H
  kp:∀ b ∈ p :: (C1 ++ C2), ∀ o,Hb b=some o→H b=some o
  re:∀ (H01 H1:Hp) (xs':List D),xs'.all scD=true→H1 r=some (.lst (xs'.map sV))→(∀ b ∈ p :: (C1 ++ C2), ∀ o,Hb b=some o→H1 b=some o)→Same (hide (A0 ++ F) Hb) H01→RepD K H01 H1 (.lst (ds.set k (.lst xs'))) (.ref p) (p :: (C1 ++ r :: C2))
def dB (K:PySem.W.Frag) (F:List Addr) (ir jx:Nat) (G:List D→Nat→DS):TS:=fun E σ H => ∃ ds k A0 Hb p r C1 C2 A t o,RS K ((p :: (C1 ++ C2)) ++ F) H A t σ∧Lent K F ir jx ds k A0 Hb p r C1 C2 A H σ∧G ds k t=some o∧Post K F A0 Hb E o
def dSeqN (g1 g2:DS):DS:=fun t=>match g1 t with
  | some (.nx t')=>g2 t'
  | _=>none
def dGive (ir jx:Nat) (ds:List D) (k:Nat) (g:DS):DS:=fun t=>match t[jx]? with
  | some (.own xs)=>if xs.all scD && decide (ir < t.length) then g ((t.set jx .no).set ir (.dp (.lst (ds.set k (.lst xs))))) else none
  | _=>none
def dLend (ir jx:Nat) (fb:DE) (G:List D→Nat→DS):DS:=fun t=>match t[ir]? with
  | some (.dp (.lst ds))=>(fb t).bind fun r=>match r.d with
    | .int i=>(ixN ds.length i).bind fun k=>match ds[k]? with
      | some (.lst xs)=>if xs.all scD && decide (ir ≠ jx∧jx < t.length) then G ds k ((t.set ir .no).set jx (.own xs)) else none
      | _=>none
    | _=>none
  | _=>none
section
variable {X:Cx} {F:List Addr} {I:List Nat} {a b c:Expr} {es:List Expr} {fa fb fc:DE} {g g1 g2:DS} {ft fu:DT} {pos:Pos} {st:Stmt} {rest:List Stmt} {ir jx:Nat} {G:List D→Nat→DS}
theorem pp_never {ss:List Stmt}:PSs X ss (dP X.K F I fun _=>none):=by
  intro pins s σ H E I h
  obtain ⟨A,t,t',R,e,h⟩:=h
  cases e
theorem pp_nil:PSs X [] (dP X.K F I dSkip):=by
  refine PSs.imp pss_nil ?_
  rintro E σ H ⟨A,t,t2,R,e,h⟩
  cases e
  exact h σ H A (Gr.refl R.mu.left) R fun _ _=>rfl
theorem lent_cons (h1:∀ F',PS X st (dP X.K F' [ir,jx] g1)) (h2:PSs X rest (dB X.K F ir jx G)):PSs X (st :: rest) (dB X.K F ir jx fun ds k=>dSeqN g1 (G ds k)):=by
  have h1':PS X st (fun E σ H => ∃ F',dP X.K F' [ir,jx] g1 E σ H):=fun pins s σ H E I ⟨F',h⟩=>h1 F' pins s σ H E I h
  refine PSs.imp (pss_cons h1' h2) ?_
  rintro E σ H ⟨ds,k,A0,Hb,p,r,C1,C2,A,t,o,R,L,e,h⟩
  unfold dSeqN at e
  dsimp only at e
  split at e
  case h_2=>cases e
  rename_i t' e1
  refine ⟨(p :: (C1 ++ C2)) ++ F,A,t,t',R,e1,fun σ' H' A' g' R' n'=>⟨ds,k,A0,Hb,p,r,C1,C2,A',t',o,R',?_,e,h⟩⟩
  have out:∀ b ∈ p :: (C1 ++ C2),b ∉ A:=fun b hb z=>R.dj b z (List.mem_append_left _ hb)
  refine ⟨L.nd,L.dj,(n' ir (by simp)).trans L.s1,(n' jx (by simp)).trans L.s2,L.gr.trans (g'.beside fun b hb=>⟨out b hb,?_⟩),fun b hb o w=>g'.kp b o (out b hb) (L.kp b hb o w),L.re⟩
  obtain ⟨o,w⟩:=R.mu b (List.mem_append_right _ (List.mem_append_left _ hb))
  rw [w]; simp
theorem lent_end (h1:PSs X rest (dS X.K F g)):PSs X rest (dB X.K F ir jx fun ds k=>dGive ir jx ds k g):=by
  refine PSs.imp h1 ?_
  rintro E σ H ⟨ds,k,A0,Hb,p,r,C1,C2,A,t,o,R,L,e,h⟩
  unfold dGive at e
  dsimp only at e
  split at e
  case h_2=>cases e
  rename_i xs z
  split at e
  case isFalse=>cases e
  rename_i ok
  simp only [Bool.and_eq_true,decide_eq_true_eq] at ok
  obtain ⟨r',vs,A1,a1,R1,a3,a4,a5,a6,a7⟩:=R.takeOwn z
  rw [L.s2] at a1
  cases a1
  have eB:∀ b,b ∈ p :: (C1 ++ r :: C2) ↔ b=r ∨ b ∈ p :: (C1 ++ C2):=fun b=>by
    simp only [List.mem_cons,List.mem_append]
    constructor
    · rintro (h | h | h | h) <;> simp [h]
    · rintro (h | h | h | h) <;> simp [h]
  have R2:RS X.K ((p :: (C1 ++ r :: C2)) ++ F) H A1 (t.set jx .no) σ:=R1.less fun b hb=>by
    rcases List.mem_append.mp hb with w | w
    · rcases (eB b).mp w with w | w
      · exact List.mem_append_left _ (by simp [w])
      · exact List.mem_append_right _ (List.mem_append_left _ w)
    · exact List.mem_append_right _ (List.mem_append_right _ w)
  have sm:Same (hide (A0 ++ F) Hb) (hide (A1 ++ ((p :: (C1 ++ r :: C2)) ++ F)) H):=fun b o w=>by
    obtain ⟨n,w⟩:=of_hide w
    have n0:b ∉ A0:=fun z=>n (List.mem_append_left _ z)
    refine hide_get (L.gr.kp b o n0 w) fun z=>?_
    have no:∀ c,c=b→c ∈ A ++ p :: (C1 ++ C2)→False:=fun c hc m=>by
      subst hc
      rcases L.gr.nw c m with q | q
      · exact n0 q
      · rw [q] at w; cases w
    rcases List.mem_append.mp z with z | z
    · exact no b rfl (List.mem_append_left _ (a6 b z))
    · rcases List.mem_append.mp z with z | z
      · rcases (eB b).mp z with q | q
        · exact no b rfl (List.mem_append_left _ (q ▸ a7))
        · exact no b rfl (List.mem_append_right _ q)
      · exact n (List.mem_append_right _ z)
  have ev:=reps_sc a5 ok.1
  subst ev
  have RD:=L.re (hide (A1 ++ ((p :: (C1 ++ r :: C2)) ++ F)) H) H xs ok.1 a4 L.kp sm
  obtain ⟨A2,b1,R3⟩:=R2.putOwned L.nd L.dj RD (i:=ir) (by rw [List.length_set]; exact ok.2)
  have es:σ.set ir (some (.ref p))=σ:=by
    apply List.ext_getElem?
    intro j
    by_cases hj:ir=j
    · subst hj
      rw [L.s1,List.getElem?_set_self (by
        have:=L.s1
        rcases List.getElem?_eq_some_iff.mp this with ⟨w,_⟩
        exact w)]
    · rw [List.getElem?_set_ne hj]
  rw [es] at R3
  refine ⟨A2,_,o,R3,e,Post.back h ⟨L.gr.kp,L.gr.al,fun b hb=>?_⟩⟩
  rcases b1 b hb with w | w
  · rcases (eB b).mp w with q | q
    · exact L.gr.nw b (List.mem_append_left _ (q ▸ a7))
    · exact L.gr.nw b (List.mem_append_right _ q)
  · exact L.gr.nw b (List.mem_append_left _ (a6 b w))
theorem psd_lend {x y:Str} {p0 pos' spos:Pos} (hN:X.N.Nodup) (hi:X.N[jx]?=some x) (hx:Loc X.env.scope x) (hb:PE X b (dE X.K F fb)) (hr:PSs X rest (dB X.K F ir jx G)) (hNy:X.N[ir]?=some y:=by rfl) (hv:Vis X.env.scope y:=by first | exact Or.inl rfl | exact Or.inr (Or.inl rfl) | exact Or.inr (Or.inr rfl)) (hd:(y == ("__debug__":Str))=false:=by decide)
    (hcd:(y == ("__classdict__":Str))=false:=by decide) (hpl:PlainIx b:=by intro _ _; rfl) (hs:swapsWith (.Subscript (.Name y p0) b spos) (some (.Name x pos')) pos.line X.env=pure false:=by rfl) (hf:X.fn x=true ∨ X.env.scope.names.lookup x=some .local:=by first | exact .inl rfl | exact .inr rfl | assumption) :
    PSs X (.Assign [.Name x pos'] (.Subscript (.Name y p0) b spos) pos :: rest) (dS X.K F (dLend ir jx fb G)):=by
  refine PSs.imp (pss_cons (ps_set hN hi hx (pe_ix ix_list (pe_var (i:=ir) hNy hv hd hcd) hb hpl) hs hf) hr) ?_
  rintro E σ H ⟨A,t,o,R,e,h⟩
  have h:Post X.K F A H E o:=h
  unfold dLend at e
  split at e
  case h_2=>cases e
  rename_i ds z
  cases e1:fb t with
  | none=>rw [e1] at e; cases e
  | some rb =>
    rw [e1] at e
    simp only [Option.bind_some] at e
    split at e
    case h_2=>cases e
    rename_i n zn
    cases e2:ixN ds.length n with
    | none=>rw [e2] at e; cases e
    | some k =>
      rw [e2] at e
      simp only [Option.bind_some] at e
      split at e
      case h_2=>cases e
      rename_i xs zx
      split at e
      case isFalse=>cases e
      rename_i ok
      simp only [Bool.and_eq_true,decide_eq_true_eq] at ok
      obtain ⟨sc,ne,lj⟩:=ok
      obtain ⟨v0,B0,A00,c1,c2,c3,c4,c5,c6,c7⟩:=R.takeDp z
      refine ⟨v0,c1,A,t,rb,R,e1,fun y0 H2 gs q=>?_⟩
      have pb:=q.full
      rw [zn] at pb
      cases rep_int pb
      obtain ⟨v,B,A',d1,R1,d3,d4,d5,d6,d7⟩:=(R.grow gs).takeDp2 z
      rw [c1] at d1
      cases d1
      cases d5 with
      | flat f _=>simp [flat] at f
      | @lst _ p vs C h1 h2 =>
        obtain ⟨C1,C2,r,rfl,f2,f3,f4⟩:=RepDs.part sc h2 zx
        have eB:∀ b,b ∈ p :: (C1 ++ r :: C2) ↔ b=r ∨ b ∈ p :: (C1 ++ C2):=fun b=>by
          simp only [List.mem_cons,List.mem_append]
          constructor
          · rintro (h | h | h | h) <;> simp [h]
          · rintro (h | h | h | h) <;> simp [h]
        have vl:vs.length=ds.length:=by
          have:Reps X.K H2 ds vs:=h2.rep (hide_sub _ _) fun _ _ _ w=>w
          exact this.length
        refine ⟨p,vs,n, .ref r,rfl,rfl,SqL.of h1,?_,?_⟩
        · unfold L2.atI
          rw [vl,e2]
          exact f2
        · have rP:r ∉ p :: (C1 ++ C2):=by
            have n0:=List.nodup_cons.mp d3
            have n1:=List.nodup_append.mp n0.2
            have n2:=List.nodup_cons.mp n1.2.1
            intro w
            rcases List.mem_cons.mp w with w | w
            · exact n0.1 (by rw [← w]; simp)
            · rcases List.mem_append.mp w with w | w
              · exact n1.2.2 r w r (List.mem_cons_self ..) rfl
              · exact n2.1 w
          have R2:RS X.K ([r] ++ ((p :: (C1 ++ C2)) ++ F)) H2 A' (t.set ir .no) σ:=R1.less fun b hb=>by
            rcases List.mem_append.mp hb with w | w
            · exact List.mem_append_left _ ((eB b).mpr (.inl (List.mem_singleton.mp w)))
            · rcases List.mem_append.mp w with w | w
              · exact List.mem_append_left _ ((eB b).mpr (.inr w))
              · exact List.mem_append_right _ w
          have rF:r ∉ (p :: (C1 ++ C2)) ++ F:=fun w=>by
            rcases List.mem_append.mp w with w | w
            · exact rP w
            · exact d4 r ((eB r).mpr (.inl rfl)) w
          have rx:Reps X.K (hide (A' ++ ([r] ++ ((p :: (C1 ++ C2)) ++ F))) H2) xs (xs.map sV):=Reps.sc sc
          obtain ⟨A1,sub,R3⟩:=R2.putRow (i:=jx) rF f3 rx (by rw [List.length_set]; exact lj)
          refine ⟨ds,k,A,H2,p,r,C1,C2,A1,_,o,R3,⟨d3,d4,?_,?_,⟨fun b o _ w=>w,fun b hb=>?_,fun b hb => .inl ?_⟩,fun b _ o w=>w,fun H01 H1 xs' s' w1 w2 w3=>?_⟩,e,Post.back h (Gr.of_same R.mu.left gs)⟩
          · rw [List.getElem?_set_ne (fun w:jx=ir=>ne w.symm)]; exact c1
          · rw [List.getElem?_set_self (by
              have:=R.rel.len
              rw [this]; exact lj)]
          · obtain ⟨o,w⟩:=(R.mu.mono gs) b (List.mem_append_left _ hb)
            rw [w]; simp
          · rcases List.mem_append.mp hb with w | w
            · rcases sub b w with w | w
              · exact d7 b ((eB b).mpr (.inl w))
              · exact d6 b w
            · exact d7 b ((eB b).mpr (.inr w))
          · exact .lst (w2 p (List.mem_cons_self ..) _ h1) (f4 H01 H1 xs' s' w1 (fun b hb o w=>w2 b (List.mem_cons_of_mem _ hb) o w) w3)
end
end DL
namespace DL
open PySem PySem.Spec PyProof.Rows L2
section
variable {X:Cx} {F:List Addr} {I:List Nat} {a b c:Expr} {es:List Expr} {fa fb fc:DE} {ga:DA} {g g1 g2:DS} {ft fu:DT} {pos:Pos} {st:Stmt} {rest:List Stmt}
theorem pp_app (i:Nat) {x:Str} {p0 apos cpos:Pos} (he:PE X a (dE X.K F fa)) (hN:X.N[i]?=some x:=by rfl) (hv:Vis X.env.scope x:=by first | exact Or.inl rfl | exact Or.inr (Or.inl rfl) | exact Or.inr (Or.inr rfl)) (hd:(x == ("__debug__":Str))=false:=by decide)
    (hcd:(x == ("__classdict__":Str))=false:=by decide) (hst:starEach [a] X.env=[(false,eval a X.env)]:=by rfl)
    (hbase:attributeBase (.Name x p0) "append" X.env (eval (.Name x p0) X.env)=eval (.Name x p0) X.env:=by rfl)
    (hfew:((backTo cpos (starEach [a] X.env)).all (fun x => !x.1) && (backToKw cpos (keywordEach [] X.env)).all (fun x=>x.1.isSome)
      && decide ([a].length + ([]:List Keyword).length + (if ([]:List Keyword).isEmpty then 0 else 1) < 30))=true:=by rfl)
    (hline:(apos.endLine == cpos.line)=true:=by rfl) (hplain:(backTo cpos (starEach [] X.env)).any (·.1)=false:=by rfl)
    (hsw:swapsWith (.Call (.Attribute (.Name x p0) "append" apos) [a] [] cpos) none pos.line X.env=pure false:=by rfl) :
    PS X (.Expr (.Call (.Attribute (.Name x p0) "append" apos) [a] [] cpos) pos) (dP X.K F I (dApp i fa)):=by
  refine PS.imp (ps_expr (pe_bm PySem.F.plainAttrs_list PySem.F.slot_list_append PySem.F.type_list_append mt_append (pe_var (i:=i) hN hv hd hcd) (pa_cons he pa_nil hst) hbase hfew hline hst hplain) hsw) ?_
  rintro E σ H ⟨A,t,t2,R,e,h⟩
  unfold dApp at e
  cases e1:fa t with
  | none=>rw [e1] at e; cases e
  | some r =>
    rw [e1] at e
    have e:kApp t i r=some (.nx t2):=e
    unfold kApp at e
    split at e
    case h_2=>cases e
    rename_i xs z
    split at e
    case isFalse=>cases e
    rename_i ok
    simp only [Bool.and_eq_true,decide_eq_true_eq] at ok
    cases e
    obtain ⟨p,vs,a1,a2,a3,a4⟩:=R.rel.getOwn z
    refine ⟨_,a1, .inl ⟨rfl,vs,SqL.of a3⟩,A,t,r,R,e1,fun y H1 gs q=>⟨p,vs,y,rfl,rfl,gs _ _ a3,?_,?_⟩⟩
    · have:vs.length < 100000:=by rw [a4.length]; exact ok.2
      exact Nat.lt_of_lt_of_le this (by rw [sizeLine_eq]; decide)
    · obtain ⟨R',g'⟩:=(R.grow gs).write (es:=xs ++ [r.d]) (ws:=vs ++ [y]) z a1 ((Reps.mono (same_hide gs) a4).app (Reps.one (q.clean R.mu gs ok.1)))
      exact h _ _ _ ((Gr.of_same R.mu.left gs).trans g') R' fun _ _=>rfl
end
end DL
namespace KX
open PySem PySem.Spec PyProof.Rows L2 DL
theorem bnd_big:1000000000000000000000000000000000000 ≤ bndS:=by
  have:(2:Nat) ^ 120 ≤ 2 ^ 1048576:=Nat.pow_le_pow_right (by decide) (by decide)
  unfold bndS
  exact Nat.le_trans (by decide) this
theorem app_of (t:Th) {f:DE} {i:Nat} {xs:List D} {d:D} (hf:f t=some (.cl d)) (hi:t[i]?=some (.own xs)) (hl:xs.length < 100000):dApp i f t=some (.nx (t.set i (.own (xs ++ [d])))):=by
  unfold dApp
  rw [hf]
  simp only [Option.bind_some,kApp,hi,Ev.ok,Ev.d,hl,decide_true,Bool.and_self,if_true]
theorem asg_of (t:Th) {f:DE} {i:Nat} {d:D} (hf:f t=some (.cl d)) (hi:i < t.length):dAsg i f t=some (.nx (t.set i (.val d))):=by
  unfold dAsg
  rw [hf]
  simp only [Option.bind_some,setSl,hi,if_true,Option.map_some]
theorem flats_ints:∀ xs:List Int,flats (xs.map D.int)=true
  | []=>rfl
  | x :: xs=>by
    have:=flats_ints xs
    simp [flats,flat,this]
theorem t2_of {k:List Ev→Option Ev} {fa fb:DE} {t:Th} {ra rb:Ev} (h1:fa t=some ra) (h2:fb t=some rb):dT1 k (dCons fa (dCons fb dNil)) t=k [ra,rb]:=by
  simp [dT1,dCons,dNil,h1,h2]
theorem d2_of {k:Ev→Ev→Option Ev} {fa fb:DE} {t:Th} {ra rb:Ev} (h1:fa t=some ra) (h2:fb t=some rb):d2 k fa fb t=k ra rb:=by
  simp [d2,h1,h2]
theorem eqOk_ints (n:Nat):∀ xs:List Int,eqOk (n + 1) (.lst (xs.map D.int)) (.lst (xs.map D.int))=true
  | []=>rfl
  | x :: xs=>by
    have:=eqOk_ints n xs
    simp only [eqOk] at this ⊢
    simp only [List.map_cons,List.zip_cons_cons,List.all_cons,this,Bool.and_true]
    cases n <;> rfl
theorem t1_of {k:List Ev→Option Ev} {fa:DE} {t:Th} {ra:Ev} (h1:fa t=some ra):dT1 k (dCons fa dNil) t=k [ra]:=by
  simp [dT1,dCons,dNil,h1]
theorem asg_cl {t:Th} {f:DE} {i:Nat} {d:D} (hf:f t=some (.cl d)) (hi:i < t.length):dAsg i f t=some (.nx (t.set i (.val d))):=asg_of t hf hi
theorem ne_ints {r1 r2:Ev} (xs:List Int) (h1:r1.d = .lst (xs.map D.int)) (h2:r2.d = .lst (xs.map D.int)):kNe r1 r2=some (.cl (.bl false)):=by
  unfold kNe
  rw [h1,h2,if_pos (eqOk_ints 5 xs),eqD_refl]
  rfl
theorem ix_nat (n b:Nat) (h:b < n):ixN n (b:Int)=some b:=by unfold ixN; rw [if_pos (by omega),if_pos (by omega)]; simp
theorem ifs_of {c:DT} {g1 g2:DS} {t:Th} {b:Bool} (h:c t=some b):dIfS c g1 g2 t=if b then g1 t else g2 t:=by
  unfold dIfS; rw [h]; rfl
theorem ifs_t {c:DT} {g1 g2:DS} {t:Th} {b:Bool} (h:c t=some b) (hb:b=true):dIfS c g1 g2 t=g1 t:=by
  rw [ifs_of h,hb]; rfl
theorem ifs_f {c:DT} {g1 g2:DS} {t:Th} {b:Bool} (h:c t=some b) (hb:b=false):dIfS c g1 g2 t=g2 t:=by
  rw [ifs_of h,hb]; rfl
theorem comp_none {k:D→Th→Option Th} {ft:DT} {fe:DE} {ext:Th} (hk:∀ (s:Sl) (x:Int),k (.int x) (s :: ext)=some (.val (.int x) :: ext)) (hf:∀ x:Int,ft (.val (.int x) :: ext)=some false):∀ (xs:List Int) (s:Sl),compD k ft fe (xs.map D.int) (s :: ext)=some []
  | [],s=>rfl
  | x :: xs,s=>by
    simp only [List.map_cons,compD,hk,Option.bind_some,hf,Bool.false_eq_true,if_false]
    exact comp_none hk hf xs _
theorem app_map (t:Th) {f:DE} {i:Nat} {xs:List Int} {p:Int} (hf:f t=some (.cl (.int p))) (hi:t[i]?=some (.own (xs.map D.int))) (hl:xs.length < 100000):dApp i f t=some (.nx (t.set i (.own ((xs ++ [p]).map D.int)))):=by
  rw [app_of t hf hi (by simpa using hl)]
  simp
theorem grd {c:DT} {g:DS} {t:Th} {b:Bool} (h:c t=some b) (hb:b=false):dIfS c g dSkip t=some (.nx t):=(ifs_f h hb).trans rfl
theorem bnd {g:Option Out} {r:Ev} (h:g=some (.rt r)):g.bind outEv=some r:=by rw [h]; rfl
theorem add_of {fa fb:DE} {t:Th} {a b:Int} (h1:fa t=some (.cl (.int a))) (h2:fb t=some (.cl (.int b))):(d2 (kOr (kI tt2 fun i j => .int (i + j)) kCat) fa fb) t=some (.cl (.int (a + b))):=(d2_of h1 h2).trans rfl
theorem mod_of {fa fb:DE} {t:Th} {a b:Int} (h1:fa t=some (.cl (.int a))) (h2:fb t=some (.cl (.int b))) (hb:b ≠ 0):(d2 (kI cMod fun i j => .int (i.fmod j)) fa fb) t=some (.cl (.int (a.fmod b))):=by
  rw [d2_of h1 h2]
  show (if cMod a b=true then _ else none)=_
  rw [if_pos (by unfold cMod; exact decide_eq_true hb)]
theorem div_of {fa fb:DE} {t:Th} {a b:Int} (h1:fa t=some (.cl (.int a))) (h2:fb t=some (.cl (.int b))) (hb:b ≠ 0) (hs:sm b=true):(d2 (kI cDiv fun i j => .int (i.fdiv j)) fa fb) t=some (.cl (.int (a.fdiv b))):=by
  rw [d2_of h1 h2]
  show (if cDiv a b=true then _ else none)=_
  rw [if_pos (by unfold cDiv; rw [hs]; simp [hb])]
theorem mul_of {fa fb:DE} {t:Th} {a b:Int} (h1:fa t=some (.cl (.int a))) (h2:fb t=some (.cl (.int b))) (ha:sm a=true) (hb:sm b=true):(d2 (kOr (kI cMul fun i j => .int (i * j)) kRep) fa fb) t=some (.cl (.int (a * b))):=by
  rw [d2_of h1 h2]
  have:cMul a b=true:=by simp only [cMul]; rw [ha,hb]; rfl
  simp [kOr,kI,Ev.d,this]
theorem eqI_of {fa fb:DE} {t:Th} {a b:Int} (h1:fa t=some (.cl (.int a))) (h2:fb t=some (.cl (.int b))):dBo (d2 kEq fa fb) t=some (decide (a=b)):=by
  unfold dBo; rw [d2_of h1 h2]
  have:kEq (.cl (.int a)) (.cl (.int b))=some (.cl (.bl (eqD (.int a) (.int b)))):=rfl
  rw [this,eqD_int]; rfl
theorem or_of {f g:DT} {t:Th} {a b:Bool} (h1:f t=some a) (h2:a=false→g t=some b):dOr f g t=some (a || b):=by
  unfold dOr; rw [h1]
  cases a with
  | true=>rfl
  | false=>simp [h2 rfl]
theorem or_of2 {f g:DT} {t:Th} {a b:Bool} (h1:f t=some a) (h2:g t=some b):dOr f g t=some (a || b):=or_of h1 fun _=>h2
theorem calln {G:List D→Option Ev} {rs:List Ev} {xs:List Int} (h:G (rs.map Ev.d)=some (.nw (xs.map D.int))):kCall G rs=some (.nw (xs.map D.int)):=by
  unfold kCall
  rw [h]
  simp only [Option.map_some,upEv]
  split
  · rfl
  · simp [flats_ints]
theorem callc {G:List D→Option Ev} {rs:List Ev} {d:D} (h:G (rs.map Ev.d)=some (.cl d)) (hf:flat d=true):kCall G rs=some (.cl d):=by
  unfold kCall
  rw [h]
  simp only [Option.map_some,upEv]
  split
  · rfl
  · simp [hf]
theorem cns {f:DE} {g:DA} {t:Th} {r:Ev} {rs:List Ev} (h1:f t=some r) (h2:g t=some rs):dCons f g t=some (r :: rs):=by
  unfold dCons; rw [h1,h2]; rfl
theorem not_of {f:DT} {t:Th} {b:Bool} (h:f t=some b):dNot f t=some (!b):=by
  unfold dNot; rw [h]; rfl
theorem ret_of {f:DE} {t:Th} {r:Ev} (h:f t=some r):dRet f t=some (.rt r):=by
  unfold dRet; rw [h]; rfl
theorem rng1_of {k0:D→Th→Option Th} {b:DS} {t:Th} {f:DE} {r:Ev} {n:Nat} (h:f t=some r) (hr:r.d = .int (n:Int)) (hn:n ≤ 100000):dRng1 k0 f b t=forD k0 b ((natsI n).map D.int) t:=by
  unfold dRng1
  rw [h]
  simp only [Option.bind_some,hr]
  rw [if_pos (by unfold bigI; exact decide_eq_true (by omega)),Int.toNat_natCast]
  congr 1
  unfold rngD natsI
  simp
theorem ne_lists {fa fb:DE} {t:Th} {r1 r2:Ev} (xs:List Int) (ha:fa t=some r1) (hb:fb t=some r2) (h1:r1.d = .lst (xs.map D.int)) (h2:r2.d = .lst (xs.map D.int)):dBo (d2 kNe fa fb) t=some false:=by
  unfold dBo
  rw [d2_of ha hb,ne_ints xs h1 h2]
  rfl
def stG (W:Int→Int) (b x:Int):Int:=if W b < W x then x else b
theorem best_is {fb:DE} {W:Int→Int} {cs:List D}:∀ (l:List Int) (b:Int),(∀ x ∈ l,fb (.val (.int x) :: cs.map Sl.val)=some (.cl (.int (W x))))→bestD true fb cs (.int b) (.int (W b)) (l.map D.int)=some (.int (l.foldl (stG W) b))
  | [],b,_=>rfl
  | x :: l,b,h=>by
    have e:=h x (List.mem_cons_self ..)
    simp only [List.map_cons,bestD,e,Option.bind_some,Ev.d,flat,if_true,cmpD,cmpI,List.foldl_cons]
    have ih:=fun b=>best_is l b fun y hy=>h y (List.mem_cons_of_mem _ hy)
    by_cases c:W b < W x
    · rw [if_pos (decide_eq_true c),show stG W b x=x from if_pos c]; exact ih x
    · rw [if_neg (by simpa using c),show stG W b x=b from if_neg c]; exact ih b
theorem key_of {fa fb:DE} {W:Int→Int} {cs:List D} {b:Bool} {cap:List Nat} {t:Th} {r:Ev} {x:Int} {l:List Int} (ha:fa t=some r) (hr:r.d = .lst ((x :: l).map D.int)) (hc:capD t cap=some (b,cs)) (h:∀ y ∈ x :: l,fb (.val (.int y) :: cs.map Sl.val)=some (.cl (.int (W y)))):dKey true cap fa fb t=some (.cl (.int (l.foldl (stG W) x))):=by
  unfold dKey
  rw [ha,hc]
  simp only [Option.bind_some,hr,List.map_cons]
  rw [show (intsD (D.int x :: l.map D.int)).isSome=true by rw [← List.map_cons (f:=D.int),intsD_map]; rfl,if_pos rfl,h x (List.mem_cons_self ..)]
  simp only [Option.bind_some,Ev.d,flat,if_true]
  rw [best_is l x fun y hy=>h y (List.mem_cons_of_mem _ hy)]
  rfl
def rwD (r:List Int):D := .lst (r.map D.int)
def mD (M:List (List Int)):D := .lst (M.map rwD)
def gM (M:List (List Int)) (i j:Int):Int:=(M.getD i.toNat []).getD j.toNat 0
structure Sq (n:Nat) (M:List (List Int)):Prop where
  len:M.length=n
  row:∀ r ∈ M,r.length=n
def lowI (L:List Int):Int:=leastI (L.headD 0) L.tail
theorem sc_ints:∀ xs:List Int,(xs.map D.int).all scD=true
  | []=>rfl
  | x :: xs=>by simp only [List.map_cons,List.all_cons,sc_ints xs]; rfl
theorem rng_is {f:DE} {t:Th} {n:Nat} (hf:f t=some (.cl (.int (n:Int)))) (hn:n ≤ 50000):fsR1 f t=some (true,(natsI n).map D.int):=by
  unfold fsR1
  rw [hf]
  simp only [Option.bind_some,Ev.d]
  rw [if_pos (by unfold bigI; exact decide_eq_true (by omega)),Int.toNat_natCast]
  congr 2
  unfold rngD natsI
  simp
def nr (M:List (List Int)) (C:List Int) (p:Int):Int:=lowI (C.map (gM M p))
structure CIn (n:Nat) (C:List Int):Prop where
  ne:0 < C.length
  rg:∀ x ∈ C,0 ≤ x∧x < (n:Int)
def dV (P:List Int) (V:Int→Int):D := .dct (P.map Sum.inl) (P.map fun p => .int (V p))
def ltr (n:Int):Nat→List Int→Int→Int
  | _,[],_=>n
  | i,x :: xs,p=>if x=p then (i:Int) else ltr n (i + 1) xs p
def Fo (v:Int→Int) (p q:Int):Prop:=v q < v p ∨ (v q=v p∧p ≤ q)
theorem for_I {k:D→Th→Option Th} {b:DS} {f:Nat→D} {P:Nat→Th→Prop} {n:Nat} (hb:∀ x,x < n→∀ t,P x t→∃ t1 t2,k (f x) t=some t1∧b t1=some (.nx t2)∧P (x + 1) t2):∀ (m i:Nat) (t:Th),i + m=n→P i t→∃ t',forD k b ((List.range' i m).map f) t=some (.nx t')∧P n t'
  | 0,i,t,e,h=>⟨t,rfl,by rw [← e]; exact h⟩
  | m + 1,i,t,e,h=>by
    obtain ⟨t1,t2,e1,e2,h2⟩:=hb i (by omega) t h
    obtain ⟨t',e3,h'⟩:=for_I hb m (i + 1) t2 (by omega) h2
    refine ⟨t',?_,h'⟩
    rw [List.range'_succ,List.map_cons]
    simp only [forD,e1,e2,Option.bind_some,e3]
theorem for_I0 {k:D→Th→Option Th} {b:DS} {f:Nat→D} {P:Nat→Th→Prop} {n:Nat} (hb:∀ x,x < n→∀ t,P x t→∃ t1 t2,k (f x) t=some t1∧b t1=some (.nx t2)∧P (x + 1) t2) (t:Th) (h:P 0 t):∃ t',forD k b ((List.range n).map f) t=some (.nx t')∧P n t':=by
  have:=for_I hb n 0 t (by omega) h
  rwa [List.range_eq_range']
def DI (n:Int) (P:List Int) (V:Int→Int) (i:Nat) (ps:List Int):Prop := ∀ q,(if q ∈ P then V q else n)=ltr n i (ps.drop i) q
def pD (p:Int × Int):D := .tup [.int p.1, .int p.2]
theorem flats_pD:∀ ts:List (Int × Int),flats (ts.map pD)=true
  | []=>rfl
  | p :: ts=>by simp only [List.map_cons,flats,flats_pD ts]; rfl
theorem eqOk_pD (n:Nat):∀ ts:List (Int × Int),eqOk (n + 2) (.lst (ts.map pD)) (.lst (ts.map pD))=true
  | []=>rfl
  | p :: ts=>by
    have:=eqOk_pD n ts
    simp only [eqOk] at this ⊢
    simp only [List.map_cons,List.zip_cons_cons,List.all_cons,this,Bool.and_true]
    cases n <;> rfl
theorem slu_pD {fa fb:DE} {t:Th} {r:Ev} {ts:List (Int × Int)} {n:Nat} (ha:fa t=some r) (hb:fb t=some (.cl (.int (n:Int)))) (hr:r.d = .lst (ts.map pD)):(dSlU fb fa) t=some (.nw ((ts.take n).map pD)):=by
  unfold dSlU
  rw [ha,hb]
  simp only [Option.bind_some,hr]
  show (if (r.ok || flats (ts.map pD))=true then some (Ev.nw ((ts.map pD).take (HT.sIx (ts.map pD).length (ts.map pD).length (some (n:Int))))) else none)=_
  rw [flats_pD,if_pos (by simp),HT.sIx_nat,List.length_map, ← List.map_take]
  congr 3
  by_cases h:n ≤ ts.length
  · rw [Nat.min_eq_left h]
  · rw [Nat.min_eq_right (by omega),List.take_of_length_le (Nat.le_refl _),List.take_of_length_le (by omega)]
theorem list_pD {f:DE} {t:Th} {r:Ev} {ts:List (Int × Int)} (h:f t=some r) (hr:r.d = .lst (ts.map pD)):(dT1 kList (dCons f dNil)) t=some (.nw (ts.map pD)):=by
  rw [t1_of h]
  unfold kList
  simp only [hr,flats_pD,Bool.or_true,if_true]
def top (i:Nat):Stmt:=PySem.Challenge.pw_nearenough_k04_ties_of_points.main.body.getD i (.Pass ⟨0,0,0,0⟩)
abbrev s_ties_of:Stmt:=top 1
abbrev s_law_cell_at:Stmt:=top 3
abbrev s_law_mixed:Stmt:=top 4
abbrev s_law_put:Stmt:=top 5
abbrev s_law_ties:Stmt:=top 6
abbrev s_law_web:Stmt:=top 7
abbrev s_law_whole:Stmt:=top 8
abbrev s_law:Stmt:=top 9
structure Blt (mg:Str→Option Value):Prop where
  n_bool:mg "bool"=none
  n_enumerate:mg "enumerate"=none
  n_int:mg "int"=none
  n_isinstance:mg "isinstance"=none
  n_len:mg "len"=none
  n_list:mg "list"=none
  n_max:mg "max"=none
  n_min:mg "min"=none
  n_range:mg "range"=none
  n_sorted:mg "sorted"=none
theorem sc_ties_of:FnScope ["web", "point"] ["web", "point"] (defScope s_ties_of):=⟨rfl,rfl,rfl,by decide +kernel,rfl,by decide +kernel,by decide +kernel⟩
def g_ties_of:DS :=
  (dRet (dComp 2 [1] (fsE (d2 kIx (dVar 0) (dC (.int 1)))) (gkTup 2 (gkCons (gkName 0) (gkCons (gkName 1) gkNil))) (dBo (d2 kIn (dVar 2) (dVar 1))) (dVar 0)))
def G_ties_of:List D→Option Ev:=mkG 2 ["web", "point"] g_ties_of
theorem hl_ties_of:∀ ds r,G_ties_of ds=some r→ds.length=2:=fun _ _ e=>mkG_len e
theorem hG_ties_of:∀ ds r,G_ties_of ds=some r→∃ o,g_ties_of (startD ["web", "point"] ds)=some o∧outEv o=some r:=fun _ _ e=>mkG_ok e
theorem ok_ties_of {P:Program} {w:World} {K:PySem.W.Frag} {mg:Str→Option Value} {base:BHeap} {ad:Addr} {fd:FuncData} (Fn:L2.Fun K "ties_of" "ties_of" s_ties_of ad fd) (bu:Blt mg)
    (hl:∀ ds r,G_ties_of ds=some r→ds.length=2) (hG:∀ ds r,G_ties_of ds=some r→∃ o,g_ties_of (startD ["web", "point"] ds)=some o∧outEv o=some r):FnOk P w K mg base CX0 1 ad fd ["web", "point"] (spD K G_ties_of):=by
  have SC:=sc_ties_of
  refine fun_ok (k:=0) Fn SC hl g_ties_of hG (fun cdv A outer s H E F hr=>?_)
  exact psd_one (psd_ret (ped_compr 2 [1] ["at", "tie", "point"] rfl (pid_enum rfl bu.n_enumerate (ped_ix (ped_var 0) ped_int)) (fun _ _ _ _ _=>(pg_tup rfl (pgs_cons (pg_name (i:=0) (show List.Nodup (["at", "tie", "point"]:List Str) by decide +kernel) rfl (by first | exact Or.inl rfl | exact Or.inr rfl)) (pgs_cons (pg_name (i:=1) (show List.Nodup (["at", "tie", "point"]:List Str) by decide +kernel) rfl (by first | exact Or.inl rfl | exact Or.inr rfl)) pgs_nil)))) (fun _=>(tg_tup (tgs_cons (tg_name 0) (tgs_cons (tg_name 1) tgs_nil)))) (fun _ _ _ _ _ _=>(ptsd_one (ptd_cmp od_in (ped_var 2) (ped_var 1)))) (fun _ _ _ _ _ _=>(ped_var 0))))
theorem sc_law_cell_at:FnScope ["_law_script", "_law_k"] ["_law_script", "_law_k"] (defScope s_law_cell_at):=⟨rfl,rfl,rfl,by decide +kernel,rfl,by decide +kernel,by decide +kernel⟩
def g_law_cell_at:DS :=
  (dSeq (dIfS (dBo (d2 (kI tt2 fun i j => .bl (decide (i < j))) (dVar 1) (dT1 kLen (dCons (dVar 0) dNil)))) (dRet (d2 kIx (dVar 0) (dVar 1))) dSkip)
    (dRet (dC (.int 0))))
def G_law_cell_at:List D→Option Ev:=mkG 2 ["_law_script", "_law_k"] g_law_cell_at
theorem hl_law_cell_at:∀ ds r,G_law_cell_at ds=some r→ds.length=2:=fun _ _ e=>mkG_len e
theorem hG_law_cell_at:∀ ds r,G_law_cell_at ds=some r→∃ o,g_law_cell_at (startD ["_law_script", "_law_k"] ds)=some o∧outEv o=some r:=fun _ _ e=>mkG_ok e
theorem ok_law_cell_at {P:Program} {w:World} {K:PySem.W.Frag} {mg:Str→Option Value} {base:BHeap} {ad:Addr} {fd:FuncData} (Fn:L2.Fun K "_law_cell_at" "_law_cell_at" s_law_cell_at ad fd) (bu:Blt mg)
    (hl:∀ ds r,G_law_cell_at ds=some r→ds.length=2) (hG:∀ ds r,G_law_cell_at ds=some r→∃ o,g_law_cell_at (startD ["_law_script", "_law_k"] ds)=some o∧outEv o=some r):FnOk P w K mg base CX0 1 ad fd ["_law_script", "_law_k"] (spD K G_law_cell_at):=by
  have SC:=sc_law_cell_at
  refine fun_ok (k:=0) Fn SC hl g_law_cell_at hG (fun cdv A outer s H E F hr=>?_)
  refine psd_cons ?_ ?_
  · exact (psd_if (ptd_cmp od_lt (ped_var 1) (ped_callB cd_len rfl bu.n_len PySem.boot_len (pad_cons (ped_var 0) pad_nil))) (psd_one (psd_ret (ped_ix (ped_var 0) (ped_var 1)))) psd_nil)
  exact psd_one (psd_ret ped_int)
theorem sc_law_mixed:FnScope ["_law_cell", "_law_k", "_law_number"] ["_law_cell", "_law_k"] (defScope s_law_mixed):=⟨rfl,rfl,rfl,by decide +kernel,rfl,by decide +kernel,by decide +kernel⟩
def g_law_mixed:DS :=
  (dSeq (dAsg 2 (d2 (kI cMod fun i j => .int (i.fmod j)) (d2 (kOr (kI tt2 fun i j => .int (i + j)) kCat) (d2 (kOr (kI tt2 fun i j => .int (i + j)) kCat) (d2 (kI cMod fun i j => .int (i.fmod j)) (dVar 0) (dC (.int 2147483647))) (d2 (kOr (kI cMul fun i j => .int (i * j)) kRep) (d2 (kOr (kI cMul fun i j => .int (i * j)) kRep) (dC (.int 69621)) (dVar 1)) (dVar 1))) (dC (.int 40014))) (dC (.int 2147483647))))
    (dSeq (dAsg 2 (d2 (kI cMod fun i j => .int (i.fmod j)) (d2 (kOr (kI tt2 fun i j => .int (i + j)) kCat) (d2 (kOr (kI tt2 fun i j => .int (i + j)) kCat) (d2 (kOr (kI cMul fun i j => .int (i * j)) kRep) (dVar 2) (dVar 2)) (d2 (kOr (kI cMul fun i j => .int (i * j)) kRep) (dC (.int 7919)) (dVar 1))) (dC (.int 1))) (dC (.int 2147483629))))
    (dRet (d2 (kI cDiv fun i j => .int (i.fdiv j)) (d2 (kI cMod fun i j => .int (i.fmod j)) (d2 (kOr (kI tt2 fun i j => .int (i + j)) kCat) (d2 (kOr (kI cMul fun i j => .int (i * j)) kRep) (dVar 2) (dVar 2)) (d2 (kOr (kI cMul fun i j => .int (i * j)) kRep) (dC (.int 104729)) (dVar 1))) (dC (.int 2147483587))) (dC (.int 64))))))
def G_law_mixed:List D→Option Ev:=mkG 2 ["_law_cell", "_law_k", "_law_number"] g_law_mixed
theorem hl_law_mixed:∀ ds r,G_law_mixed ds=some r→ds.length=2:=fun _ _ e=>mkG_len e
theorem hG_law_mixed:∀ ds r,G_law_mixed ds=some r→∃ o,g_law_mixed (startD ["_law_cell", "_law_k", "_law_number"] ds)=some o∧outEv o=some r:=fun _ _ e=>mkG_ok e
theorem ok_law_mixed {P:Program} {w:World} {K:PySem.W.Frag} {mg:Str→Option Value} {base:BHeap} {ad:Addr} {fd:FuncData} (Fn:L2.Fun K "_law_mixed" "_law_mixed" s_law_mixed ad fd) (bu:Blt mg)
    (hl:∀ ds r,G_law_mixed ds=some r→ds.length=2) (hG:∀ ds r,G_law_mixed ds=some r→∃ o,g_law_mixed (startD ["_law_cell", "_law_k", "_law_number"] ds)=some o∧outEv o=some r):FnOk P w K mg base CX0 1 ad fd ["_law_cell", "_law_k"] (spD K G_law_mixed):=by
  have SC:=sc_law_mixed
  refine fun_ok (k:=0) Fn SC hl g_law_mixed hG (fun cdv A outer s H E F hr=>?_)
  refine psd_cons ?_ ?_
  · exact (psd_set (i:=2) SC.nd rfl (by first | exact Or.inl rfl | exact Or.inr rfl) (ped_op od_mod (ped_op (od_add.or od_cat) (ped_op (od_add.or od_cat) (ped_op od_mod (ped_var 0) ped_int) (ped_op (od_mul.or od_rep) (ped_op (od_mul.or od_rep) ped_int (ped_var 1)) (ped_var 1))) ped_int) ped_int))
  refine psd_cons ?_ ?_
  · exact (psd_set (i:=2) SC.nd rfl (by first | exact Or.inl rfl | exact Or.inr rfl) (ped_op od_mod (ped_op (od_add.or od_cat) (ped_op (od_add.or od_cat) (ped_op (od_mul.or od_rep) (ped_var 2) (ped_var 2)) (ped_op (od_mul.or od_rep) ped_int (ped_var 1))) ped_int) ped_int))
  exact psd_one (psd_ret (ped_op od_div (ped_op od_mod (ped_op (od_add.or od_cat) (ped_op (od_mul.or od_rep) (ped_var 2) (ped_var 2)) (ped_op (od_mul.or od_rep) ped_int (ped_var 1))) ped_int) ped_int))
theorem sc_law_put:FnScope ["_law_found", "_law_many", "_law_number", "_law_one", "_law_other"] ["_law_found", "_law_many", "_law_number"] (defScope s_law_put):=⟨rfl,rfl,rfl,by decide +kernel,rfl,by decide +kernel,by decide +kernel⟩
theorem ok_law_put {P:Program} {w:World} {K:PySem.W.Frag} {mg:Str→Option Value} {base:BHeap} {ad:Addr} {fd:FuncData} (Fn:L2.Fun K "_law_put" "_law_put" s_law_put ad fd) (bu:Blt mg):FnOk P w K mg base CX0 1 ad fd ["_law_found", "_law_many", "_law_number"] (spP putG):=by
  have SC:=sc_law_put
  refine Fn.ok (k:=0) SC (fun vs H Q E h=>?_) (fun cdv A outer s H vs Q E hr h=>?_)
  · obtain ⟨p,ps,ps',ns,rfl,_,hg,_⟩:=h
    exact put_len hg
  · obtain ⟨p,ps,ps',ns,rfl,hp,hg,cont⟩:=h
    obtain ⟨m,k,rfl⟩:=put_two hg
    exact ⟨tPutB K fP1 fP2 ftP gkP fvP,pss_cons (ps_set (i:=3) SC.nd rfl (by first | exact Or.inl rfl | exact Or.inr rfl) (ped_op od_mod (ped_var 2) (ped_var 1))) (pss_cons (ps_set (i:=4) SC.nd rfl (by first | exact Or.inl rfl | exact Or.inr rfl) (ped_op od_mod (ped_op od_div (ped_var 2) (ped_var 1)) (ped_var 1))) (pss_one (ps_if (ptd_cmp (od_ne hr.units) (ped_var 3) (ped_var 4)) (pss_one (ps_dput (Nat.lt_trans (Nat.add_lt_add_left (by decide) _) hr.units) (pe_var (i:=0) rfl (by first | exact Or.inl rfl | exact Or.inr (Or.inl rfl) | exact Or.inr (Or.inr rfl))) (pe_tup (pad_cons (ped_callB (cd_min rfl) rfl bu.n_min (by decide +kernel) (pad_cons (ped_var 3) (pad_cons (ped_var 4) pad_nil))) (pad_cons (ped_callB (cd_max rfl) rfl bu.n_max (by decide +kernel) (pad_cons (ped_var 3) (pad_cons (ped_var 4) pad_nil))) pad_nil))) ped_bl rfl)) pss_nil))),put_law hp hg cont⟩
theorem sc_law_ties:FnScope ["_law_script", "_law_many", "_law_found", "_law_k", "_law_cell", "_law_number", "_law_turn"] ["_law_script", "_law_many"] (defScope s_law_ties):=⟨rfl,rfl,rfl,by decide +kernel,rfl,by decide +kernel,by decide +kernel⟩
def g_law_ties:DS :=
  (dSeq (dAsg 2 dNewP)
    (dSeq (dEnum (gkTup 2 (gkCons (gkName 3) (gkCons (gkName 4) gkNil))) (dSl (dC (.int 3)) (dC (.int 62)) (dVar 0)) (dIfS (dBo (d2 kEq (d2 (kI cMod fun i j => .int (i.fmod j)) (dT1 (kCall G_law_cell_at) (dCons (dVar 0) (dCons (dC (.int 0)) dNil))) (dC (.int 2))) (dC (.int 0)))) (dSeq (dAsg 5 (d2 (kI cDiv fun i j => .int (i.fdiv j)) (dVar 4) (dC (.int 61))))
    (dRng1 (gkName 6) (d2 (kI cMod fun i j => .int (i.fmod j)) (dVar 4) (dC (.int 61))) (dSeq (dIfS (dBo (d2 (kI tt2 fun i j => .bl (decide (i ≤ j))) (dVar 5) (dC (.int 0)))) (dAsg 5 (dT1 (kCall G_law_mixed) (dCons (dVar 4) (dCons (d2 (kOr (kI tt2 fun i j => .int (i + j)) kCat) (d2 (kOr (kI tt2 fun i j => .int (i + j)) kCat) (dC (.int 64)) (d2 (kOr (kI cMul fun i j => .int (i * j)) kRep) (dC (.int 6)) (dVar 3))) (dVar 6)) dNil)))) dSkip)
    (dSeq (dCallP 2 putG (dCons (dVar 1) (dCons (dVar 5) dNil)))
    (dAsg 5 (d2 (kI cDiv fun i j => .int (i.fdiv j)) (dVar 5) (d2 (kOr (kI cMul fun i j => .int (i * j)) kRep) (dVar 1) (dVar 1)))))))) (dRng1 (gkName 6) (d2 (kOr (kI tt2 fun i j => .int (i + j)) kCat) (dC (.int 1)) (d2 (kI cMod fun i j => .int (i.fmod j)) (dT1 (kCall G_law_mixed) (dCons (dVar 4) (dCons (dVar 3) dNil))) (dC (.int 6)))) (dCallP 2 putG (dCons (dVar 1) (dCons (dT1 (kCall G_law_mixed) (dCons (dVar 4) (dCons (d2 (kOr (kI tt2 fun i j => .int (i + j)) kCat) (d2 (kOr (kI tt2 fun i j => .int (i + j)) kCat) (dC (.int 64)) (d2 (kOr (kI cMul fun i j => .int (i * j)) kRep) (dC (.int 6)) (dVar 3))) (dVar 6)) dNil))) dNil))))))
    (dRet (dSlU (dC (.int 400)) (dT1 kSortD (dCons (dVar 2) dNil))))))
def G_law_ties:List D→Option Ev:=mkG 2 ["_law_script", "_law_many", "_law_found", "_law_k", "_law_cell", "_law_number", "_law_turn"] g_law_ties
theorem hl_law_ties:∀ ds r,G_law_ties ds=some r→ds.length=2:=fun _ _ e=>mkG_len e
theorem hG_law_ties:∀ ds r,G_law_ties ds=some r→∃ o,g_law_ties (startD ["_law_script", "_law_many", "_law_found", "_law_k", "_law_cell", "_law_number", "_law_turn"] ds)=some o∧outEv o=some r:=fun _ _ e=>mkG_ok e
theorem ok_law_ties {P:Program} {w:World} {K:PySem.W.Frag} {mg:Str→Option Value} {base:BHeap} {ad:Addr} {fd:FuncData} (Fn:L2.Fun K "_law_ties" "_law_ties" s_law_ties ad fd) (bu:Blt mg) (c_law_cell_at:Cal P w K mg base "_law_cell_at" 1 G_law_cell_at) (c_law_mixed:Cal P w K mg base "_law_mixed" 1 G_law_mixed) (c_law_put:CalP P w K mg base "_law_put" 1 putG)
    (hl:∀ ds r,G_law_ties ds=some r→ds.length=2) (hG:∀ ds r,G_law_ties ds=some r→∃ o,g_law_ties (startD ["_law_script", "_law_many", "_law_found", "_law_k", "_law_cell", "_law_number", "_law_turn"] ds)=some o∧outEv o=some r):FnOk P w K mg base CX0 2 ad fd ["_law_script", "_law_many"] (spD K G_law_ties):=by
  have SC:=sc_law_ties
  refine fun_ok (k:=1) Fn SC hl g_law_ties hG (fun cdv A outer s H E F hr=>?_)
  refine psd_cons ?_ ?_
  · exact (psd_set (i:=2) SC.nd rfl (by first | exact Or.inl rfl | exact Or.inr rfl) ped_newP)
  refine psd_cons ?_ ?_
  · exact (psd_enum PassesOwn.never rfl rfl bu.n_enumerate (ped_slice (ped_var 0) ped_int ped_int) (pg_tup rfl (pgs_cons (pg_name (i:=3) SC.nd rfl (by first | exact Or.inl rfl | exact Or.inr rfl)) (pgs_cons (pg_name (i:=4) SC.nd rfl (by first | exact Or.inl rfl | exact Or.inr rfl)) pgs_nil))) (tg_tup (tgs_cons (tg_name 3) (tgs_cons (tg_name 4) tgs_nil))) (psd_one (psd_if (ptd_cmp (od_eq hr.units) (ped_op od_mod (ped_callC c_law_cell_at (hr.mono (by decide)) (pad_cons (ped_var 0) (pad_cons ped_int pad_nil))) ped_int) ped_int) (psd_cons (psd_set (i:=5) SC.nd rfl (by first | exact Or.inl rfl | exact Or.inr rfl) (ped_op od_div (ped_var 4) ped_int))
    (psd_one (psd_rng1 PassesOwn.never rfl rfl bu.n_range (ped_op od_mod (ped_var 4) ped_int) (pg_name (i:=6) SC.nd rfl (by first | exact Or.inl rfl | exact Or.inr rfl)) (tg_name 6) (psd_cons (psd_if (ptd_cmp od_le (ped_var 5) ped_int) (psd_one (psd_set (i:=5) SC.nd rfl (by first | exact Or.inl rfl | exact Or.inr rfl) (ped_callC c_law_mixed (hr.mono (by decide)) (pad_cons (ped_var 4) (pad_cons (ped_op (od_add.or od_cat) (ped_op (od_add.or od_cat) ped_int (ped_op (od_mul.or od_rep) ped_int (ped_var 3))) (ped_var 6)) pad_nil))))) psd_nil)
    (psd_cons (psd_callP 2 c_law_put (hr.mono (by decide)) (pad_cons (ped_var 1) (pad_cons (ped_var 5) pad_nil)))
    (psd_one (psd_set (i:=5) SC.nd rfl (by first | exact Or.inl rfl | exact Or.inr rfl) (ped_op od_div (ped_var 5) (ped_op (od_mul.or od_rep) (ped_var 1) (ped_var 1)))))))))) (psd_one (psd_rng1 PassesOwn.never rfl rfl bu.n_range (ped_op (od_add.or od_cat) ped_int (ped_op od_mod (ped_callC c_law_mixed (hr.mono (by decide)) (pad_cons (ped_var 4) (pad_cons (ped_var 3) pad_nil))) ped_int)) (pg_name (i:=6) SC.nd rfl (by first | exact Or.inl rfl | exact Or.inr rfl)) (tg_name 6) (psd_one (psd_callP 2 c_law_put (hr.mono (by decide)) (pad_cons (ped_var 1) (pad_cons (ped_callC c_law_mixed (hr.mono (by decide)) (pad_cons (ped_var 4) (pad_cons (ped_op (od_add.or od_cat) (ped_op (od_add.or od_cat) ped_int (ped_op (od_mul.or od_rep) ped_int (ped_var 3))) (ped_var 6)) pad_nil))) pad_nil)))))))))
  exact psd_one (psd_ret (ped_sliceU (ped_callB (cd_sortD rfl) rfl bu.n_sorted boot_sorted (pad_cons (ped_var 2) pad_nil)) ped_int))
theorem sc_law_web:FnScope ["_law_script", "_law_most", "_law_many"] ["_law_script", "_law_most"] (defScope s_law_web):=⟨rfl,rfl,rfl,by decide +kernel,rfl,by decide +kernel,by decide +kernel⟩
def g_law_web:DS :=
  (dSeq (dAsg 2 (d2 (kOr (kI tt2 fun i j => .int (i + j)) kCat) (dC (.int 1)) (d2 (kI cMod fun i j => .int (i.fmod j)) (d2 (kI cDiv fun i j => .int (i.fdiv j)) (dT1 (kCall G_law_cell_at) (dCons (dVar 0) (dCons (dC (.int 0)) dNil))) (dC (.int 2))) (dVar 1))))
    (dRet (dT1 kTup (dCons (dVar 2) (dCons (dT1 (kCall G_law_ties) (dCons (dVar 0) (dCons (dVar 2) dNil))) dNil)))))
def G_law_web:List D→Option Ev:=mkG 2 ["_law_script", "_law_most", "_law_many"] g_law_web
theorem hl_law_web:∀ ds r,G_law_web ds=some r→ds.length=2:=fun _ _ e=>mkG_len e
theorem hG_law_web:∀ ds r,G_law_web ds=some r→∃ o,g_law_web (startD ["_law_script", "_law_most", "_law_many"] ds)=some o∧outEv o=some r:=fun _ _ e=>mkG_ok e
theorem ok_law_web {P:Program} {w:World} {K:PySem.W.Frag} {mg:Str→Option Value} {base:BHeap} {ad:Addr} {fd:FuncData} (Fn:L2.Fun K "_law_web" "_law_web" s_law_web ad fd) (bu:Blt mg) (c_law_cell_at:Cal P w K mg base "_law_cell_at" 1 G_law_cell_at) (c_law_ties:Cal P w K mg base "_law_ties" 2 G_law_ties)
    (hl:∀ ds r,G_law_web ds=some r→ds.length=2) (hG:∀ ds r,G_law_web ds=some r→∃ o,g_law_web (startD ["_law_script", "_law_most", "_law_many"] ds)=some o∧outEv o=some r):FnOk P w K mg base CX0 3 ad fd ["_law_script", "_law_most"] (spD K G_law_web):=by
  have SC:=sc_law_web
  refine fun_ok (k:=2) Fn SC hl g_law_web hG (fun cdv A outer s H E F hr=>?_)
  refine psd_cons ?_ ?_
  · exact (psd_set (i:=2) SC.nd rfl (by first | exact Or.inl rfl | exact Or.inr rfl) (ped_op (od_add.or od_cat) ped_int (ped_op od_mod (ped_op od_div (ped_callC c_law_cell_at (hr.mono (by decide)) (pad_cons (ped_var 0) (pad_cons ped_int pad_nil))) ped_int) (ped_var 1))))
  exact psd_one (psd_ret (ped_tup (pad_cons (ped_var 2) (pad_cons (ped_callC c_law_ties (hr.mono (by decide)) (pad_cons (ped_var 0) (pad_cons (ped_var 2) pad_nil))) pad_nil))))
theorem sc_law_whole:FnScope ["_law_found"] ["_law_found"] (defScope s_law_whole):=⟨rfl,rfl,rfl,by decide +kernel,rfl,by decide +kernel,by decide +kernel⟩
def g_law_whole:DS :=
  (dRet (dAndV (dIsi "int" (dVar 0)) (d1 kNotV (dIsi "bool" (dVar 0)))))
def G_law_whole:List D→Option Ev:=mkG 1 ["_law_found"] g_law_whole
theorem hl_law_whole:∀ ds r,G_law_whole ds=some r→ds.length=1:=fun _ _ e=>mkG_len e
theorem hG_law_whole:∀ ds r,G_law_whole ds=some r→∃ o,g_law_whole (startD ["_law_found"] ds)=some o∧outEv o=some r:=fun _ _ e=>mkG_ok e
theorem ok_law_whole {P:Program} {w:World} {K:PySem.W.Frag} {mg:Str→Option Value} {base:BHeap} {ad:Addr} {fd:FuncData} (Fn:L2.Fun K "_law_whole" "_law_whole" s_law_whole ad fd) (bu:Blt mg)
    (hl:∀ ds r,G_law_whole ds=some r→ds.length=1) (hG:∀ ds r,G_law_whole ds=some r→∃ o,g_law_whole (startD ["_law_found"] ds)=some o∧outEv o=some r):FnOk P w K mg base CX0 1 ad fd ["_law_found"] (spD K G_law_whole):=by
  have SC:=sc_law_whole
  refine fun_ok (k:=0) Fn SC hl g_law_whole hG (fun cdv A outer s H E F hr=>?_)
  exact psd_one (psd_ret (ped_and (ped_isi isi_int (ped_var 0) rfl bu.n_isinstance rfl bu.n_int bt_int) (ped_one (ped_not (ped_isi isi_bool (ped_var 0) rfl bu.n_isinstance rfl bu.n_bool bt_bool)))))
theorem sc_law:FnScope ["_law_script", "_law_web_here", "_law_due", "_law_number", "_law_one", "_law_other", "_law_handed", "_law_told", "_law_point", "_law_found"] ["_law_script"] (defScope s_law):=⟨rfl,rfl,rfl,by decide +kernel,rfl,by decide +kernel,by decide +kernel⟩
def g_law:DS :=
  (dSeq (dAsg 1 (dT1 (kCall G_law_web) (dCons (dVar 0) (dCons (dC (.int 60)) dNil))))
    (dSeq (dAsg 2 (dCompN 1 [] (fsR1 (d2 kIx (dVar 1) (dC (.int 0)))) (gkName 0) dTrue (dT1 kLst dNil)))
    (dSeq (dRng1 (gkName 3) (dT1 kLen (dCons (d2 kIx (dVar 1) (dC (.int 1))) dNil)) (dSeq (dAsgT (gkTup 2 (gkCons (gkName 4) (gkCons (gkName 5) gkNil))) (d2 kIx (d2 kIx (dVar 1) (dC (.int 1))) (dVar 3)))
    (dSeq (dAppP 2 [(dVar 4)] (dVar 3))
    (dAppP 2 [(dVar 5)] (dVar 3)))))
    (dSeq (dAsg 6 (dT1 kTup (dCons (d2 kIx (dVar 1) (dC (.int 0))) (dCons (dT1 kList (dCons (d2 kIx (dVar 1) (dC (.int 1))) dNil)) dNil))))
    (dSeq (dAsg 7 (dCompN 1 [6] (fsR1 (d2 kIx (dVar 1) (dC (.int 0)))) (gkName 0) dTrue (dT1 (kCall G_ties_of) (dCons (dVar 1) (dCons (dVar 0) dNil)))))
    (dSeq (dRng1 (gkName 8) (d2 kIx (dVar 1) (dC (.int 0))) (dLend 7 9 (dVar 8) fun ds k=>(dSeqN (dIfS (dOr (dNot (dTr (dIsi "list" (dVar 9)))) (dOr (dBo (d2 kNe (dVar 9) (d2 kIx (dVar 2) (dVar 8)))) (dBo (d2 kNe (dVar 6) (dVar 1))))) (fun _=>none) dSkip)
    (dSeqN (dIfS (dBo (d2 kNe (dComp 1 [] (fsL (dVar 9)) (gkName 0) (dNot (dTr (dT1 (kCall G_law_whole) (dCons (dVar 0) dNil)))) (dVar 0)) (dT1 kLst dNil))) (fun _=>none) dSkip)
    (dSeqN (dApp 9 (dC (.int 0)))
    (dSeqN (dIfS (dBo (d2 kNe (dT1 (kCall G_ties_of) (dCons (dVar 6) (dCons (dVar 8) dNil))) (d2 kIx (dVar 2) (dVar 8)))) (fun _=>none) dSkip)
    (dGive 7 9 ds k dSkip)))))))
    (dRet (dC (.bl true)))))))))
def G_law:List D→Option Ev:=mkG 1 ["_law_script", "_law_web_here", "_law_due", "_law_number", "_law_one", "_law_other", "_law_handed", "_law_told", "_law_point", "_law_found"] g_law
theorem hl_law:∀ ds r,G_law ds=some r→ds.length=1:=fun _ _ e=>mkG_len e
theorem hG_law:∀ ds r,G_law ds=some r→∃ o,g_law (startD ["_law_script", "_law_web_here", "_law_due", "_law_number", "_law_one", "_law_other", "_law_handed", "_law_told", "_law_point", "_law_found"] ds)=some o∧outEv o=some r:=fun _ _ e=>mkG_ok e
theorem ok_law {P:Program} {w:World} {K:PySem.W.Frag} {mg:Str→Option Value} {base:BHeap} {ad:Addr} {fd:FuncData} (Fn:L2.Fun K "law" "law" s_law ad fd) (bu:Blt mg) (c_law_web:Cal P w K mg base "_law_web" 3 G_law_web) (c_ties_of:Cal P w K mg base "ties_of" 1 G_ties_of) (c_law_whole:Cal P w K mg base "_law_whole" 1 G_law_whole)
    (hl:∀ ds r,G_law ds=some r→ds.length=1) (hG:∀ ds r,G_law ds=some r→∃ o,g_law (startD ["_law_script", "_law_web_here", "_law_due", "_law_number", "_law_one", "_law_other", "_law_handed", "_law_told", "_law_point", "_law_found"] ds)=some o∧outEv o=some r):FnOk P w K mg base CX0 4 ad fd ["_law_script"] (spD K G_law):=by
  have SC:=sc_law
  refine fun_ok (k:=3) Fn SC hl g_law hG (fun cdv A outer s H E F hr=>?_)
  refine psd_cons ?_ ?_
  · exact (psd_set (i:=1) SC.nd rfl (by first | exact Or.inl rfl | exact Or.inr rfl) (ped_callC c_law_web (hr.mono (by decide)) (pad_cons (ped_var 0) (pad_cons ped_int pad_nil))))
  refine psd_cons ?_ ?_
  · exact (psd_setCN (i:=2) 1 [] ["_law_point"] SC.nd rfl (Or.inl rfl) rfl (pid_rng1 rfl bu.n_range (ped_ix (ped_var 1) ped_int)) (fun _ _ _ _ _=>(pg_name (i:=0) (show List.Nodup (["_law_point"]:List Str) by decide +kernel) rfl (by first | exact Or.inl rfl | exact Or.inr rfl))) (fun _=>(tg_name 0)) (fun _ _ _ _ _ _=>ptsd_nil) (fun _ _ _ _ _ _=>(ped_lst pad_nil)))
  refine psd_cons ?_ ?_
  · exact (psd_rng1 PassesOwn.never rfl rfl bu.n_range (ped_callB cd_len rfl bu.n_len PySem.boot_len (pad_cons (ped_ix (ped_var 1) ped_int) pad_nil)) (pg_name (i:=3) SC.nd rfl (by first | exact Or.inl rfl | exact Or.inr rfl)) (tg_name 3) (psd_cons (psd_asg (ped_ix (ped_ix (ped_var 1) ped_int) (ped_var 3)) (pg_tup rfl (pgs_cons (pg_name (i:=4) SC.nd rfl (by first | exact Or.inl rfl | exact Or.inr rfl)) (pgs_cons (pg_name (i:=5) SC.nd rfl (by first | exact Or.inl rfl | exact Or.inr rfl)) pgs_nil))) (tg_tup (tgs_cons (tg_name 4) (tgs_cons (tg_name 5) tgs_nil))))
    (psd_cons (psd_appP 2 (pl_ix (pl_var 2) (ped_var 4)) (ped_var 3))
    (psd_one (psd_appP 2 (pl_ix (pl_var 2) (ped_var 5)) (ped_var 3))))))
  refine psd_cons ?_ ?_
  · exact (psd_set (i:=6) SC.nd rfl (by first | exact Or.inl rfl | exact Or.inr rfl) (ped_tup (pad_cons (ped_ix (ped_var 1) ped_int) (pad_cons (ped_callT cd_list rfl bu.n_list bt_list (pad_cons (ped_ix (ped_var 1) ped_int) pad_nil)) pad_nil))))
  refine psd_cons ?_ ?_
  · exact (psd_setCN (i:=7) 1 [6] ["_law_point", "_law_handed"] SC.nd rfl (Or.inl rfl) rfl (pid_rng1 rfl bu.n_range (ped_ix (ped_var 1) ped_int)) (fun _ _ _ _ _=>(pg_name (i:=0) (show List.Nodup (["_law_point", "_law_handed"]:List Str) by decide +kernel) rfl (by first | exact Or.inl rfl | exact Or.inr rfl))) (fun _=>(tg_name 0)) (fun _ _ _ _ _ _=>ptsd_nil) (fun _ _ _ _ _ _=>(ped_callC c_ties_of (hr.mono (by decide)) (pad_cons (ped_var 1) (pad_cons (ped_var 0) pad_nil)))))
  refine psd_cons ?_ ?_
  · exact (psd_rng1 PassesOwn.never rfl rfl bu.n_range (ped_ix (ped_var 1) ped_int) (pg_name (i:=8) SC.nd rfl (by first | exact Or.inl rfl | exact Or.inr rfl)) (tg_name 8) (psd_lend (ir:=7) (jx:=9) SC.nd rfl (by first | exact Or.inl rfl | exact Or.inr rfl) (ped_var 8)
    (lent_cons (fun _=>(pp_if (L2.PW.pt (pwd_or (ptd_not (ptd_val (ped_isi isi_list (ped_var 9) rfl bu.n_isinstance rfl bu.n_list bt_list))) (pwd_or (ptd_cmp (od_ne hr.units) (ped_var 9) (ped_ix (ped_var 2) (ped_var 8))) (pwd_or1 (ptd_cmp (od_ne hr.units) (ped_var 6) (ped_var 1)))))) pp_never pp_nil))
    (lent_cons (fun _=>(pp_if (ptd_cmp (od_ne hr.units) (ped_compr 1 [] ["_law_number"] rfl (pid_list (ped_var 9)) (fun _ _ _ _ _=>(pg_name (i:=0) (show List.Nodup (["_law_number"]:List Str) by decide +kernel) rfl (by first | exact Or.inl rfl | exact Or.inr rfl))) (fun _=>(tg_name 0)) (fun _ _ _ _ _ _=>(ptsd_one (ptd_not (ptd_val (ped_callC c_law_whole (hr.mono (by decide)) (pad_cons (ped_var 0) pad_nil)))))) (fun _ _ _ _ _ _=>(ped_var 0))) (ped_lst pad_nil)) pp_never pp_nil))
    (lent_cons (fun _=>(pp_app 9 ped_int))
    (lent_cons (fun _=>(pp_if (ptd_cmp (od_ne hr.units) (ped_callC c_ties_of (hr.mono (by decide)) (pad_cons (ped_var 6) (pad_cons (ped_var 8) pad_nil))) (ped_ix (ped_var 2) (ped_var 8))) pp_never pp_nil))
    (lent_end psd_nil)))))))
  exact psd_one (psd_ret ped_bl)
theorem cell_of (ns:List Int) (hb:∀ n ∈ ns,n.natAbs < bndS) (k:Nat):∃ v:Int,v.natAbs < bndS∧G_law_cell_at [.lst (ns.map D.int), .int (k:Int)]=some (.cl (.int v)):=by
  have hbig:=bnd_big
  by_cases h:k < ns.length
  · refine ⟨ns[k],hb _ (List.getElem_mem h),?_⟩
    have h1:((k:Int) < ((ns.map D.int).length:Int)):=by simp; omega
    have h2:atI (ns.map D.int) (k:Int)=some (.int ns[k]):=by
      unfold atI ixN
      rw [if_pos (by omega),if_pos h1]
      simp [h]
    show (g_law_cell_at [.val (.lst (ns.map D.int)), .val (.int (k:Int))]).bind outEv=_
    simp only [g_law_cell_at,dSeq,dIfS,dBo,d2,dVar,dT1,dCons,dNil,kLen,Ev.d,kI,tt2,Option.bind_some,List.getElem?_cons_zero,List.getElem?_cons_succ,if_true]
    rw [decide_eq_true h1]
    simp [dRet,d2,dVar,kIx,Ev.d,h2,outEv,Ev.ok]
  · refine ⟨0,by simp; omega,?_⟩
    have h1 : ¬ ((k:Int) < ((ns.map D.int).length:Int)):=by simp; omega
    show (g_law_cell_at [.val (.lst (ns.map D.int)), .val (.int (k:Int))]).bind outEv=_
    simp only [g_law_cell_at,dSeq,dIfS,dBo,d2,dVar,dT1,dCons,dNil,kLen,Ev.d,kI,tt2,Option.bind_some,List.getElem?_cons_zero,List.getElem?_cons_succ,if_true]
    rw [decide_eq_false h1]
    simp [dRet,dSkip,dC,outEv]
theorem call_cell (ns:List Int) (hb:∀ n ∈ ns,n.natAbs < bndS) (k:Nat):∃ v:Int,v.natAbs < bndS∧kCall G_law_cell_at [.cl (.lst (ns.map D.int)), .cl (.int (k:Int))]=some (.cl (.int v)):=by
  obtain ⟨v,h,e⟩:=cell_of ns hb k
  exact ⟨v,h,by simp [kCall,Ev.d,e,upEv,Ev.ok]⟩
theorem cell_var (ns:List Int) (hb:∀ n ∈ ns,n.natAbs < bndS) (k:Nat) (r:Th):∃ v:Int,v.natAbs < bndS∧(dT1 (kCall G_law_cell_at) (dCons (dVar 0) (dCons (dC (.int (k:Int))) dNil))) (.val (.lst (ns.map D.int)) :: r)=some (.cl (.int v)):=by
  obtain ⟨v,h,e⟩:=call_cell ns hb k
  exact ⟨v,h,(t2_of (ra := .cl (.lst (ns.map D.int))) (rb := .cl (.int (k:Int))) rfl rfl).trans e⟩
theorem fm {a b:Int} (h:0 < b):0 ≤ a.fmod b∧a.fmod b < b:=fmod_pos h
theorem mixed_is (c:Int) {k:Int} (k0:0 ≤ k) (k1:k < 100000):∃ m:Int,0 ≤ m∧m < 2147483648∧G_law_mixed [.int c, .int k]=some (.cl (.int m)):=by
  show ∃ m:Int,0 ≤ m∧m < 2147483648∧(g_law_mixed [.val (.int c), .val (.int k), .no]).bind outEv=some (.cl (.int m))
  have q1:=fm (a:=c) (b:=2147483647) (by decide)
  have kk:0 ≤ 69621 * k * k∧69621 * k * k ≤ 69621 * 100000 * 100000:=by
    have h1:0 ≤ 69621 * k:=by omega
    have h2:69621 * k * k ≤ 69621 * 100000 * k:=Int.mul_le_mul_of_nonneg_right (by omega) k0
    exact ⟨Int.mul_nonneg h1 k0,by omega⟩
  have e1:=mod_of (add_of (add_of (mod_of (fa:=dVar 0) (fb:=dC (.int 2147483647)) (t:=[.val (.int c), .val (.int k), .no]) (a:=c) (b:=2147483647) rfl rfl (by decide)) (mul_of (mul_of (fa:=dC (.int 69621)) (fb:=dVar 1) (t:=[.val (.int c), .val (.int k), .no]) (a:=69621) (b:=k) rfl rfl (sm_of (by decide) (by decide)) (sm_of (by omega) (by omega))) (rfl:dVar 1 _=some (.cl (.int k))) (sm_of (by omega) (by omega)) (sm_of (by omega) (by omega)))) (rfl:dC (.int 40014) _=some (.cl (.int 40014)))) (rfl:dC (.int 2147483647) _=some (.cl (.int 2147483647))) (by decide)
  have E1:=asg_cl (i:=2) e1 (by simp)
  generalize hn:(Int.fmod (c.fmod 2147483647 + 69621 * k * k + 40014) 2147483647)=n at E1
  have q2:0 ≤ n∧n < 2147483647:=by rw [← hn]; exact fm (by decide)
  let t:Th:=[.val (.int c), .val (.int k), .val (.int n)]
  have e2:=mod_of (add_of (add_of (mul_of (fa:=dVar 2) (fb:=dVar 2) (t:=t) (a:=n) (b:=n) rfl rfl (sm_of (by omega) (by omega)) (sm_of (by omega) (by omega))) (mul_of (fa:=dC (.int 7919)) (fb:=dVar 1) (t:=t) (a:=7919) (b:=k) rfl rfl (sm_of (by decide) (by decide)) (sm_of (by omega) (by omega)))) (rfl:dC (.int 1) t=some (.cl (.int 1)))) (rfl:dC (.int 2147483629) t=some (.cl (.int 2147483629))) (by decide)
  have E2:=asg_cl (i:=2) e2 (by simp [t])
  generalize hn2:(Int.fmod (n * n + 7919 * k + 1) 2147483629)=n2 at E2
  have q3:0 ≤ n2∧n2 < 2147483629:=by rw [← hn2]; exact fm (by decide)
  let t2:Th:=[.val (.int c), .val (.int k), .val (.int n2)]
  have e3:=mod_of (add_of (mul_of (fa:=dVar 2) (fb:=dVar 2) (t:=t2) (a:=n2) (b:=n2) rfl rfl (sm_of (by omega) (by omega)) (sm_of (by omega) (by omega))) (mul_of (fa:=dC (.int 104729)) (fb:=dVar 1) (t:=t2) (a:=104729) (b:=k) rfl rfl (sm_of (by decide) (by decide)) (sm_of (by omega) (by omega)))) (rfl:dC (.int 2147483587) t2=some (.cl (.int 2147483587))) (by decide)
  have q4:=fm (a:=n2 * n2 + 104729 * k) (b:=2147483587) (by decide)
  have e4:=div_of e3 (rfl:dC (.int 64) t2=some (.cl (.int 64))) (by decide) (sm_of (by decide) (by decide))
  have dd:∀ x:Int,0 ≤ x→x < 2147483587→0 ≤ x.fdiv 64∧x.fdiv 64 < 2147483648:=fun x h0 h1=>by
    rw [Int.fdiv_eq_ediv_of_nonneg x (by decide)]
    omega
  exact ⟨_,(dd _ q4.1 q4.2).1,(dd _ q4.1 q4.2).2,bnd ((seq_nx E1).trans ((seq_nx E2).trans (ret_of e4)))⟩
theorem call_mixed {r1 r2:Ev} (c:Int) {k:Int} (k0:0 ≤ k) (k1:k < 100000) (h1:r1.d = .int c) (h2:r2.d = .int k):∃ m:Int,0 ≤ m∧m < 2147483648∧kCall G_law_mixed [r1,r2]=some (.cl (.int m)):=by
  obtain ⟨m,a,b,e⟩:=mixed_is c k0 k1
  refine ⟨m,a,b,callc ?_ rfl⟩
  simp only [List.map_cons,List.map_nil,h1,h2]
  exact e
theorem for_C {k:D→Th→Option Th} {b:DS} {P:Nat→Th→Prop} {C:Nat}:∀ (ds:List D) (c:Nat),(∀ d ∈ ds, ∀ c t,c < C→P c t→∃ t1 t2,k d t=some t1∧b t1=some (.nx t2)∧P (c + 1) t2)→c + ds.length ≤ C→∀ t,P c t→∃ t',forD k b ds t=some (.nx t')∧P (c + ds.length) t'
  | [],c,_,_,t,h=>⟨t,rfl,h⟩
  | d :: ds,c,hd,hc,t,h=>by
    simp only [List.length_cons] at hc
    obtain ⟨t1,t2,e1,e2,h2⟩:=hd d (List.mem_cons_self ..) c t (by omega) h
    obtain ⟨t',e,h'⟩:=for_C ds (c + 1) (fun d' hd'=>hd d' (List.mem_cons_of_mem _ hd')) (by omega) t2 h2
    refine ⟨t',by simp only [forD,e1,e2,Option.bind_some]; exact e,?_⟩
    rw [show c + (d :: ds).length=c + 1 + ds.length by simp only [List.length_cons]; omega]
    exact h'
theorem enum_mem:∀ (cs:List Int) (i:Nat), ∀ d ∈ enumD i (cs.map D.int), ∃ (j:Nat) (c:Int),d = .tup [.int (j:Int), .int c]∧j < i + cs.length
  | [],i,d,h=>by cases h
  | c :: cs,i,d,h=>by
    rcases List.mem_cons.mp h with z | z
    · exact ⟨i,c,z,by simp only [List.length_cons]; omega⟩
    · obtain ⟨j,c',e,l⟩:=enum_mem cs (i + 1) d z
      exact ⟨j,c',e,by simp only [List.length_cons]; omega⟩
def OkP (M:Int) (ps:List (Int × Int)):Prop := ∀ q ∈ ps,0 ≤ q.1∧q.1 < q.2∧q.2 < M
theorem put_of {M:Int} (h0:0 < M) (h1:M ≤ 1000) {ps:List (Int × Int)} (hl:ps.length < 100000) (hp:OkP M ps) (n:Int):∃ ps',putG ps [M,n]=some ps'∧ps'.length ≤ ps.length + 1∧OkP M ps':=by
  have a:=fm (a:=n) h0
  have b:=fm (a:=n.fdiv M) h0
  unfold putG
  simp only
  rw [if_pos ⟨h0,sm_of (by omega) (by omega),hl⟩]
  by_cases z:n.fmod M=(n.fdiv M).fmod M
  · rw [if_pos z]
    exact ⟨ps,rfl,by omega,hp⟩
  · rw [if_neg z]
    refine ⟨_,rfl,?_,?_⟩
    · unfold putPr; split
      · omega
      · simp
    · intro q hq
      have m:q ∈ ps ∨ q=pairN M n:=by
        unfold putPr at hq
        split at hq
        · exact .inl hq
        · exact (List.mem_append.mp hq).imp_right fun w=>by simpa using w
      rcases m with m | m
      · exact hp q m
      · subst m
        unfold pairN
        simp only
        split <;> split <;> omega
theorem callp_of {t:Th} {ga:DA} {i:Nat} {ps ps':List (Int × Int)} {M n:Int} (hi:t[i]?=some (.dp (.pdc ps))) (hg:ga t=some [.cl (.int M), .cl (.int n)]) (hp:putG ps [M,n]=some ps'):dCallP i putG ga t=some (.nx (t.set i (.dp (.pdc ps')))):=by
  unfold dCallP
  rw [hi]
  show (ga t).bind _=_
  rw [hg]
  show (putG ps [M,n]).map _=_
  rw [hp]
  rfl
def tieN:DE:=(dT1 (kCall G_law_mixed) (dCons (dVar 4) (dCons (d2 (kOr (kI tt2 fun i j => .int (i + j)) kCat) (d2 (kOr (kI tt2 fun i j => .int (i + j)) kCat) (dC (.int 64)) (d2 (kOr (kI cMul fun i j => .int (i * j)) kRep) (dC (.int 6)) (dVar 3))) (dVar 6)) dNil)))
def bdT1:DS:=(dSeq (dIfS (dBo (d2 (kI tt2 fun i j => .bl (decide (i ≤ j))) (dVar 5) (dC (.int 0)))) (dAsg 5 tieN) dSkip)
    (dSeq (dCallP 2 putG (dCons (dVar 1) (dCons (dVar 5) dNil)))
    (dAsg 5 (d2 (kI cDiv fun i j => .int (i.fdiv j)) (dVar 5) (d2 (kOr (kI cMul fun i j => .int (i * j)) kRep) (dVar 1) (dVar 1))))))
def bdT2:DS:=(dCallP 2 putG (dCons (dVar 1) (dCons tieN dNil)))
def bdT:DS:=(dIfS (dBo (d2 kEq (d2 (kI cMod fun i j => .int (i.fmod j)) (dT1 (kCall G_law_cell_at) (dCons (dVar 0) (dCons (dC (.int 0)) dNil))) (dC (.int 2))) (dC (.int 0)))) (dSeq (dAsg 5 (d2 (kI cDiv fun i j => .int (i.fdiv j)) (dVar 4) (dC (.int 61))))
    (dRng1 (gkName 6) (d2 (kI cMod fun i j => .int (i.fmod j)) (dVar 4) (dC (.int 61))) bdT1)) (dRng1 (gkName 6) (d2 (kOr (kI tt2 fun i j => .int (i + j)) kCat) (dC (.int 1)) (d2 (kI cMod fun i j => .int (i.fmod j)) (dT1 (kCall G_law_mixed) (dCons (dVar 4) (dCons (dVar 3) dNil))) (dC (.int 6)))) bdT2))
theorem ties_eq:g_law_ties=(dSeq (dAsg 2 dNewP) (dSeq (dEnum (gkTup 2 (gkCons (gkName 3) (gkCons (gkName 4) gkNil))) (dSl (dC (.int 3)) (dC (.int 62)) (dVar 0)) bdT) (dRet (dSlU (dC (.int 400)) (dT1 kSortD (dCons (dVar 2) dNil)))))):=rfl
theorem tie_num {s0 s1 s2 s5:Sl} {k x:Nat} {cell:Int} (hk:k < 1000) (hx:x < 1000):∃ m:Int,tieN [s0,s1,s2, .val (.int (k:Int)), .val (.int cell),s5, .val (.int (x:Int))]=some (.cl (.int m)):=by
  let t:Th:=[s0,s1,s2, .val (.int (k:Int)), .val (.int cell),s5, .val (.int (x:Int))]
  have e:=add_of (add_of (fa:=dC (.int 64)) (t:=t) (a:=64) rfl (mul_of (fa:=dC (.int 6)) (fb:=dVar 3) (t:=t) (a:=6) (b:=(k:Int)) rfl rfl (sm_of (by decide) (by decide)) (sm_of (by omega) (by omega)))) (rfl:dVar 6 t=some (.cl (.int (x:Int))))
  obtain ⟨m,_,_,em⟩:=call_mixed (r1 := .cl (.int cell)) (r2 := .cl (.int (64 + 6 * (k:Int) + (x:Int)))) cell (k:=64 + 6 * (k:Int) + (x:Int)) (by omega) (by omega) rfl rfl
  exact ⟨m,(t2_of (rfl:dVar 4 t=some (.cl (.int cell))) e).trans em⟩
def PA (N:Sl) (M:Int) (s3 s4:Sl) (c0:Nat) (c:Nat) (t:Th):Prop := ∃ (ps:List (Int × Int)) (n:Int) (s6:Sl),t=[N, .val (.int M), .dp (.pdc ps),s3,s4, .val (.int n),s6]∧ps.length ≤ c0 + c∧OkP M ps
def PB (N:Sl) (M:Int) (s3 s4 s5:Sl) (c0:Nat) (c:Nat) (t:Th):Prop := ∃ ps s6,t=[N, .val (.int M), .dp (.pdc ps),s3,s4,s5,s6]∧ps.length ≤ c0 + c∧OkP M ps
theorem nat_mem {n:Nat} {d:D} (h:d ∈ (natsI n).map D.int):∃ x:Nat,d = .int (x:Int)∧x < n:=by
  obtain ⟨y,hy,rfl⟩:=List.mem_map.mp h
  unfold natsI at hy
  obtain ⟨x,hx,rfl⟩:=List.mem_map.mp hy
  exact ⟨x,rfl,List.mem_range.mp hx⟩
theorem natsI_len' (n:Nat):((natsI n).map D.int).length=n:=by simp [natsI]
theorem turn_A {N:Sl} {M:Int} (m0:0 < M) (m1:M ≤ 1000) {k x:Nat} {cell:Int} (hk:k < 1000) (hx:x < 1000) {c0 c:Nat} (hc:c0 + c < 90000) {t:Th} (h:PA N M (.val (.int (k:Int))) (.val (.int cell)) c0 c t):∃ t1 t2,gkName 6 (.int (x:Int)) t=some t1∧bdT1 t1=some (.nx t2)∧PA N M (.val (.int (k:Int))) (.val (.int cell)) c0 (c + 1) t2:=by
  obtain ⟨ps,n,s6,rfl,hl,hp⟩:=h
  refine ⟨[N, .val (.int M), .dp (.pdc ps), .val (.int (k:Int)), .val (.int cell), .val (.int n), .val (.int (x:Int))],?_⟩
  have E1:∃ n':Int,(dIfS (dBo (d2 (kI tt2 fun i j => .bl (decide (i ≤ j))) (dVar 5) (dC (.int 0)))) (dAsg 5 tieN) dSkip) [N, .val (.int M), .dp (.pdc ps), .val (.int (k:Int)), .val (.int cell), .val (.int n), .val (.int (x:Int))]=some (.nx [N, .val (.int M), .dp (.pdc ps), .val (.int (k:Int)), .val (.int cell), .val (.int n'), .val (.int (x:Int))]):=by
    have cnd:(dBo (d2 (kI tt2 fun i j => .bl (decide (i ≤ j))) (dVar 5) (dC (.int 0)))) [N, .val (.int M), .dp (.pdc ps), .val (.int (k:Int)), .val (.int cell), .val (.int n), .val (.int (x:Int))]=some (decide (n ≤ 0)):=rfl
    by_cases z:n ≤ 0
    · obtain ⟨m,em⟩:=tie_num (s0:=N) (s1 := .val (.int M)) (s2 := .dp (.pdc ps)) (s5 := .val (.int n)) (cell:=cell) hk hx
      exact ⟨m,(ifs_t cnd (decide_eq_true z)).trans (asg_cl (i:=5) em (by simp))⟩
    · exact ⟨n,grd cnd (decide_eq_false z)⟩
  obtain ⟨n',E1⟩:=E1
  obtain ⟨ps',eg,l',ok'⟩:=put_of m0 m1 (ps:=ps) (by omega) hp n'
  have E2:=callp_of (i:=2) (ga:=(dCons (dVar 1) (dCons (dVar 5) dNil))) (t:=[N, .val (.int M), .dp (.pdc ps), .val (.int (k:Int)), .val (.int cell), .val (.int n'), .val (.int (x:Int))]) (M:=M) (n:=n') rfl rfl eg
  have mm:0 < M * M∧M * M ≤ 1000000:=by
    have h1:M * M ≤ 1000 * M:=Int.mul_le_mul_of_nonneg_right m1 (by omega)
    exact ⟨Int.mul_pos m0 m0,by omega⟩
  have E3:=asg_cl (i:=5) (div_of (fa:=dVar 5) (t:=[N, .val (.int M), .dp (.pdc ps'), .val (.int (k:Int)), .val (.int cell), .val (.int n'), .val (.int (x:Int))]) (a:=n') rfl (mul_of (fa:=dVar 1) (fb:=dVar 1) (a:=M) (b:=M) rfl rfl (sm_of (by omega) (by omega)) (sm_of (by omega) (by omega))) (by omega) (sm_of (by omega) (by omega))) (by simp)
  exact ⟨_,rfl,(seq_nx E1).trans ((seq_nx E2).trans E3),ps',_,_,rfl,by omega,ok'⟩
theorem turn_B {N:Sl} {M:Int} (m0:0 < M) (m1:M ≤ 1000) {k x:Nat} {cell:Int} {s5:Sl} (hk:k < 1000) (hx:x < 1000) {c0 c:Nat} (hc:c0 + c < 90000) {t:Th} (h:PB N M (.val (.int (k:Int))) (.val (.int cell)) s5 c0 c t):∃ t1 t2,gkName 6 (.int (x:Int)) t=some t1∧bdT2 t1=some (.nx t2)∧PB N M (.val (.int (k:Int))) (.val (.int cell)) s5 c0 (c + 1) t2:=by
  obtain ⟨ps,s6,rfl,hl,hp⟩:=h
  obtain ⟨m,em⟩:=tie_num (s0:=N) (s1 := .val (.int M)) (s2 := .dp (.pdc ps)) (s5:=s5) (cell:=cell) hk hx
  obtain ⟨ps',eg,l',ok'⟩:=put_of m0 m1 (ps:=ps) (by omega) hp m
  have E2:=callp_of (i:=2) (ga:=(dCons (dVar 1) (dCons tieN dNil))) (t:=[N, .val (.int M), .dp (.pdc ps), .val (.int (k:Int)), .val (.int cell),s5, .val (.int (x:Int))]) (M:=M) (n:=m) rfl (cns rfl (cns em rfl)) eg
  exact ⟨_,_,rfl,E2,ps',_,rfl,by omega,ok'⟩
def PT (N:Sl) (M:Int) (c:Nat) (t:Th):Prop := ∃ ps s3 s4 s5 s6,t=[N, .val (.int M), .dp (.pdc ps),s3,s4,s5,s6]∧ps.length ≤ 61 * c∧OkP M ps
theorem turn_T (ns:List Int) (hb:∀ n ∈ ns,n.natAbs < bndS) {M:Int} (m0:0 < M) (m1:M ≤ 1000) {k:Nat} {cell:Int} (hk:k < 1000) {c:Nat} (hc:c < 100) {t:Th} (h:PT (.val (.lst (ns.map D.int))) M c t):∃ t1 t2,(gkTup 2 (gkCons (gkName 3) (gkCons (gkName 4) gkNil))) (.tup [.int (k:Int), .int cell]) t=some t1∧bdT t1=some (.nx t2)∧PT (.val (.lst (ns.map D.int))) M (c + 1) t2:=by
  obtain ⟨ps,s3,s4,s5,s6,rfl,hl,hp⟩:=h
  let N:Sl := .val (.lst (ns.map D.int))
  let t:Th:=[N, .val (.int M), .dp (.pdc ps), .val (.int (k:Int)), .val (.int cell),s5,s6]
  refine ⟨t,?_⟩
  obtain ⟨v0,_,e0⟩:=cell_var ns hb 0 [.val (.int M), .dp (.pdc ps), .val (.int (k:Int)), .val (.int cell),s5,s6]
  have cnd:=eqI_of (mod_of e0 (fb:=dC (.int 2)) rfl (by decide)) (fb:=dC (.int 0)) rfl
  unfold bdT
  by_cases z:v0.fmod 2=0
  · have E1:=asg_cl (i:=5) (t:=t) (div_of (fa:=dVar 4) (fb:=dC (.int 61)) (t:=t) (a:=cell) (b:=61) rfl rfl (by decide) (sm_of (by decide) (by decide))) (by simp [t])
    have q:=fm (a:=cell) (b:=61) (by decide)
    obtain ⟨n,hn⟩:∃ n:Nat,cell.fmod 61=(n:Int):=⟨(cell.fmod 61).toNat,by omega⟩
    let t1:Th:=[N, .val (.int M), .dp (.pdc ps), .val (.int (k:Int)), .val (.int cell), .val (.int (cell.fdiv 61)),s6]
    have em:=mod_of (fa:=dVar 4) (fb:=dC (.int 61)) (t:=t1) (a:=cell) (b:=61) rfl rfl (by decide)
    rw [hn] at em
    have E2:=rng1_of (k0:=gkName 6) (b:=bdT1) em rfl (by omega)
    obtain ⟨t2,E3,ps2,n2,u6,rfl,l2,o2⟩:=for_C (k:=gkName 6) (b:=bdT1) (P:=PA N M (.val (.int (k:Int))) (.val (.int cell)) (61 * c)) (C:=61) ((natsI n).map D.int) 0 (fun d hd c' t' hc' h'=>by
      obtain ⟨x,rfl,hx⟩:=nat_mem hd
      exact turn_A m0 m1 hk (by omega) (by omega) h') (by rw [natsI_len']; omega) t1 ⟨ps,_,_,rfl,by omega,hp⟩
    rw [natsI_len'] at l2
    exact ⟨_,rfl,(ifs_t cnd (decide_eq_true z)).trans ((seq_nx E1).trans (E2.trans E3)),ps2,_,_,_,_,rfl,by omega,o2⟩
  · obtain ⟨m,_,_,em⟩:=call_mixed (r1 := .cl (.int cell)) (r2 := .cl (.int (k:Int))) cell (k:=(k:Int)) (by omega) (by omega) rfl rfl
    have e1:(dT1 (kCall G_law_mixed) (dCons (dVar 4) (dCons (dVar 3) dNil))) t=some (.cl (.int m)):=(t2_of (rfl:dVar 4 t=some (.cl (.int cell))) (rfl:dVar 3 t=some (.cl (.int (k:Int))))).trans em
    have q:=fm (a:=m) (b:=6) (by decide)
    obtain ⟨n,hn⟩:∃ n:Nat,1 + m.fmod 6=(n:Int):=⟨(1 + m.fmod 6).toNat,by omega⟩
    have e2:=add_of (fa:=dC (.int 1)) (t:=t) (a:=1) rfl (mod_of e1 (rfl:dC (.int 6) t=some (.cl (.int 6))) (by decide))
    rw [hn] at e2
    have E2:=rng1_of (k0:=gkName 6) (b:=bdT2) e2 rfl (by omega)
    obtain ⟨t2,E3,ps2,u6,rfl,l2,o2⟩:=for_C (k:=gkName 6) (b:=bdT2) (P:=PB N M (.val (.int (k:Int))) (.val (.int cell)) s5 (61 * c)) (C:=61) ((natsI n).map D.int) 0 (fun d hd c' t' hc' h'=>by
      obtain ⟨x,rfl,hx⟩:=nat_mem hd
      exact turn_B m0 m1 hk (by omega) (by omega) h') (by rw [natsI_len']; omega) t ⟨ps,_,rfl,by omega,hp⟩
    rw [natsI_len'] at l2
    exact ⟨_,rfl,(ifs_f cnd (decide_eq_false z)).trans (E2.trans E3),ps2,_,_,_,_,rfl,by omega,o2⟩
def tD (u:Nat × Nat):D:=pD ((u.1:Int),(u.2:Int))
theorem tD_pD (us:List (Nat × Nat)):us.map tD=(us.map fun u=>(((u.1:Int),(u.2:Int)):Int × Int)).map pD:=by rw [List.map_map]; rfl
theorem to_tD {M:Nat}:∀ ps:List (Int × Int),OkP (M:Int) ps→∃ us:List (Nat × Nat),us.length=ps.length∧(∀ u ∈ us,u.1 < u.2∧u.2 < M)∧ps.map pD=us.map tD
  | [],_=>⟨[],rfl,(fun u hu=>nomatch hu),rfl⟩
  | p :: ps,h=>by
    obtain ⟨us,l,o,e⟩:=to_tD ps fun q hq=>h q (List.mem_cons_of_mem _ hq)
    obtain ⟨h0,h1,h2⟩:=h p (List.mem_cons_self ..)
    obtain ⟨a,b⟩:=p
    simp only at h0 h1 h2
    obtain ⟨x,rfl⟩:=Int.eq_ofNat_of_zero_le h0
    obtain ⟨y,rfl⟩:=Int.eq_ofNat_of_zero_le (show 0 ≤ b by omega)
    refine ⟨(x,y) :: us,by simp [l],fun u hu=>?_,by rw [List.map_cons,List.map_cons,e]; rfl⟩
    rcases List.mem_cons.mp hu with rfl | z
    · exact ⟨by simpa using h1,by simpa using h2⟩
    · exact o u z
theorem ties_is (ns:List Int) (hl:ns.length ≤ 63) (hb:∀ n ∈ ns,n.natAbs < bndS) {M:Nat} (m0:0 < M) (m1:M ≤ 1000):∃ us:List (Nat × Nat),us.length ≤ 400∧(∀ u ∈ us,u.1 < u.2∧u.2 < M)∧G_law_ties [.lst (ns.map D.int), .int (M:Int)]=some (.nw (us.map tD)):=by
  let N:Sl := .val (.lst (ns.map D.int))
  have m0':(0:Int) < (M:Int):=by omega
  have m1':(M:Int) ≤ 1000:=by omega
  obtain ⟨cs,lc,ec⟩:∃ cs:List Int,cs.length ≤ 63∧(dSl (dC (.int 3)) (dC (.int 62)) (dVar 0)) [N, .val (.int (M:Int)), .dp (.pdc []), .no, .no, .no, .no]=some (.nw (cs.map D.int)):=by
    refine ⟨(ns.drop (HT.sIx ns.length 0 (some 3))).take (HT.sIx ns.length ns.length (some 62) - HT.sIx ns.length 0 (some 3)),by rw [List.length_take,List.length_drop]; omega,?_⟩
    simp [N,dSl,dC,dVar,Ev.d,Ev.ok,List.map_take,List.map_drop]
  obtain ⟨t2,E3,ps,s3,s4,s5,s6,rfl,l2,o2⟩:=for_C (k:=(gkTup 2 (gkCons (gkName 3) (gkCons (gkName 4) gkNil)))) (b:=bdT) (P:=PT N (M:Int)) (C:=100) (enumD 0 (cs.map D.int)) 0 (fun d hd c' t' hc' h'=>by
      obtain ⟨j,c,rfl,hj⟩:=enum_mem cs 0 d hd
      exact turn_T ns hb m0' m1' (by omega) hc' h') (by rw [enumD_len,List.length_map]; omega) [N, .val (.int (M:Int)), .dp (.pdc []), .no, .no, .no, .no] ⟨[],_,_,_,_,rfl,by simp,(fun q hq=>nomatch hq)⟩
  rw [enumD_len,List.length_map] at l2
  have E2:(dEnum (gkTup 2 (gkCons (gkName 3) (gkCons (gkName 4) gkNil))) (dSl (dC (.int 3)) (dC (.int 62)) (dVar 0)) bdT) [N, .val (.int (M:Int)), .dp (.pdc []), .no, .no, .no, .no]=some (.nx [N, .val (.int (M:Int)), .dp (.pdc ps),s3,s4,s5,s6]):=by
    unfold dEnum
    rw [ec]
    exact E3
  have es:(dT1 kSortD (dCons (dVar 2) dNil)) [N, .val (.int (M:Int)), .dp (.pdc ps),s3,s4,s5,s6]=some (.nw ((TS.sortP ps).map pD)):=by
    rw [t1_of (ra := .tm (.pdc ps)) rfl]
    unfold kSortD
    simp only [Ev.d]
    rw [if_pos ⟨by omega,List.all_eq_true.mpr fun q hq=>by have:=o2 q hq; exact decide_eq_true (by omega)⟩]
    rfl
  have E4:=slu_pD (fb:=dC (.int 400)) (n:=400) es rfl rfl
  obtain ⟨us,ul,uo,ue⟩:=to_tD (M:=M) ((TS.sortP ps).take 400) fun q hq=>o2 q ((TS.sortP_perm ps).mem_iff.mp (List.mem_of_mem_take hq))
  refine ⟨us,by rw [ul,List.length_take]; omega,uo,?_⟩
  rw [← ue]
  show (g_law_ties [N, .val (.int (M:Int)), .no, .no, .no, .no, .no]).bind outEv=_
  rw [ties_eq]
  exact bnd ((seq_nx (t':=[N, .val (.int (M:Int)), .dp (.pdc []), .no, .no, .no, .no]) rfl).trans ((seq_nx E2).trans (ret_of E4)))
theorem web_is (ns:List Int) (hl:ns.length ≤ 63) (hb:∀ n ∈ ns,n.natAbs < bndS) {most:Nat} (m0:0 < most) (m1:most ≤ 1000):∃ (M:Nat) (us:List (Nat × Nat)),0 < M∧M ≤ most∧us.length ≤ 400∧(∀ u ∈ us,u.1 < u.2∧u.2 < M)∧G_law_web [.lst (ns.map D.int), .int (most:Int)]=some (.cl (.tup [.int (M:Int), .lst (us.map tD)])):=by
  let N:Sl := .val (.lst (ns.map D.int))
  obtain ⟨v0,_,e0⟩:=cell_var ns hb 0 [.val (.int (most:Int)), .no]
  have e1:=add_of (fa:=dC (.int 1)) (t:=[N, .val (.int (most:Int)), .no]) (a:=1) rfl (mod_of (div_of e0 (fb:=dC (.int 2)) rfl (by decide) (sm_of (by decide) (by decide))) (fb:=dVar 1) (b:=(most:Int)) rfl (by omega))
  have q:=fm (a:=v0.fdiv 2) (b:=(most:Int)) (by omega)
  obtain ⟨M,hM⟩:∃ M:Nat,1 + (v0.fdiv 2).fmod (most:Int)=(M:Int):=⟨(1 + (v0.fdiv 2).fmod (most:Int)).toNat,by omega⟩
  rw [hM] at e1
  obtain ⟨us,ul,uo,ue⟩:=ties_is ns hl hb (M:=M) (by omega) (by omega)
  refine ⟨M,us,by omega,by omega,ul,uo,?_⟩
  have E1:=asg_cl (i:=2) e1 (by simp)
  let t:Th:=[N, .val (.int (most:Int)), .val (.int (M:Int))]
  have et:(dT1 (kCall G_law_ties) (dCons (dVar 0) (dCons (dVar 2) dNil))) t=some (.nw (us.map tD)):=by
    rw [t2_of (ra := .cl (.lst (ns.map D.int))) (rb := .cl (.int (M:Int))) rfl rfl]
    unfold kCall
    rw [show G_law_ties ([Ev.cl (.lst (ns.map D.int)), .cl (.int (M:Int))].map Ev.d)=_ from ue]
    rfl
  have E2:(dT1 kTup (dCons (dVar 2) (dCons (dT1 (kCall G_law_ties) (dCons (dVar 0) (dCons (dVar 2) dNil))) dNil))) t=some (.cl (.tup [.int (M:Int), .lst (us.map tD)])):=(t2_of (rfl:dVar 2 t=some (.cl (.int (M:Int)))) et).trans rfl
  show (g_law_web [N, .val (.int (most:Int)), .no]).bind outEv=_
  exact bnd ((seq_nx E1).trans (ret_of E2))
end KX
set_option maxHeartbeats 1000000
namespace KX
open PySem PySem.Spec PyProof.Rows L2 DL
def tcU (u:Nat × Nat) (p:Nat):Bool:=decide (u.1=p) || decide (u.2=p)
def tO (p:Nat):List (Nat × Nat)→Nat→List Int
  | [],_=>[]
  | u :: l,i=>if tcU u p then (i:Int) :: tO p l (i + 1) else tO p l (i + 1)
theorem tO_len (p:Nat):∀ (l:List (Nat × Nat)) (i:Nat),(tO p l i).length ≤ l.length
  | [],_=>Nat.le_refl _
  | u :: l,i=>by
    have:=tO_len p l (i + 1)
    unfold tO
    split <;> simp <;> omega
theorem tO_snoc (p:Nat) (u:Nat × Nat):∀ (l:List (Nat × Nat)) (i:Nat),tO p (l ++ [u]) i=tO p l i ++ if tcU u p then [((i + l.length:Nat):Int)] else []
  | [],i=>by
    show (if tcU u p then (i:Int) :: tO p [] (i + 1) else tO p [] (i + 1))=_
    cases tcU u p <;> rfl
  | v :: l,i=>by
    have ih:=tO_snoc p u l (i + 1)
    show (if tcU v p then (i:Int) :: tO p (l ++ [u]) (i + 1) else tO p (l ++ [u]) (i + 1))=(if tcU v p then (i:Int) :: tO p l (i + 1) else tO p l (i + 1)) ++ _
    rw [ih,List.length_cons,show i + 1 + l.length=i + (l.length + 1) by omega]
    cases tcU v p <;> rfl
def ktT:D→Th→Option Th:=(gkTup 2 (gkCons (gkName 0) (gkCons (gkName 1) gkNil)))
def ftT:DT:=(dBo (d2 kIn (dVar 2) (dVar 1)))
theorem comp_ties {p:Nat}:∀ (l:List (Nat × Nat)) (i:Nat) (s0 s1:Sl),compD ktT ftT (dVar 0) (enumD i (l.map tD)) [s0,s1, .val (.int (p:Int))]=some ((tO p l i).map D.int)
  | [],i,s0,s1=>rfl
  | u :: l,i,s0,s1=>by
    have e0:ktT (.tup [.int (i:Int),tD u]) [s0,s1, .val (.int (p:Int))]=some [.val (.int (i:Int)), .val (tD u), .val (.int (p:Int))]:=rfl
    have e1:ftT [.val (.int (i:Int)), .val (tD u), .val (.int (p:Int))]=some (tcU u p):=by
      have et:tcU u p=(decide ((u.1:Int)=(p:Int)) || decide ((u.2:Int)=(p:Int))):=by
        unfold tcU
        rw [decide_eq_decide.mpr (by omega:u.1=p ↔ (u.1:Int)=(p:Int)),decide_eq_decide.mpr (by omega:u.2=p ↔ (u.2:Int)=(p:Int))]
      rw [et]
      unfold ftT dBo
      rw [d2_of (rfl:dVar 2 _=some (.cl (.int (p:Int)))) (rfl:dVar 1 _=some (.cl (tD u)))]
      simp only [kIn,Ev.d,tD,pD]
      generalize (p:Int)=q
      generalize (u.1:Int)=a
      generalize (u.2:Int)=b
      simp [scD,eqOk,eqD]
    have ih:=comp_ties (p:=p) l (i + 1) (.val (.int (i:Int))) (.val (tD u))
    simp only [List.map_cons,enumD,compD,e0,Option.bind_some,e1]
    show _=some ((if tcU u p then (i:Int) :: tO p l (i + 1) else tO p l (i + 1)).map D.int)
    cases c:tcU u p with
    | true=>rw [if_pos rfl,ih]; rfl
    | false=>rw [if_neg (by decide),ih]; rfl
theorem ties_of_is {M:Int} {us:List (Nat × Nat)} (hl:us.length ≤ 50000) (p:Nat):G_ties_of [.tup [.int M, .lst (us.map tD)], .int (p:Int)]=some (.nw ((tO p us 0).map D.int)):=by
  have e2:=comp_ties (p:=p) us 0 .no .no
  show (g_ties_of [.val (.tup [.int M, .lst (us.map tD)]), .val (.int (p:Int))]).bind outEv=_
  refine bnd (ret_of ?_)
  unfold dComp
  have e1:fsE (d2 kIx (dVar 0) (dC (.int 1))) [.val (.tup [.int M, .lst (us.map tD)]), .val (.int (p:Int))]=some (true,enumD 0 (us.map tD)):=rfl
  have ec:capD [.val (.tup [.int M, .lst (us.map tD)]), .val (.int (p:Int))] [1]=some (true,[.int (p:Int)]):=rfl
  rw [e1,ec]
  simp only [Option.bind_some]
  rw [if_pos (by rw [enumD_len,List.length_map]; exact hl)]
  show (compD ktT ftT (dVar 0) (enumD 0 (us.map tD)) [.no, .no, .val (.int (p:Int))]).bind _=_
  rw [e2]
  rfl
def dueR (l:List (Nat × Nat)) (p:Nat):D := .lst ((tO p l 0).map D.int)
def dueD (M:Nat) (l:List (Nat × Nat)):List D:=(List.range M).map (dueR l)
theorem dueD_len (M:Nat) (l:List (Nat × Nat)):(dueD M l).length=M:=by simp [dueD]
theorem dueD_get {M:Nat} {l:List (Nat × Nat)} {p:Nat} (h:p < M):(dueD M l)[p]?=some (dueR l p):=by simp [dueD,h]
theorem due_snoc {M:Nat} (l:List (Nat × Nat)) (u:Nat × Nat) (h1:u.1 < u.2) (h2:u.2 < M):((dueD M l).set u.1 (.lst ((tO u.1 l 0).map D.int ++ [.int (l.length:Int)]))).set u.2 (.lst ((tO u.2 l 0).map D.int ++ [.int (l.length:Int)]))=dueD M (l ++ [u]):=by
  apply List.ext_getElem?
  intro p
  by_cases hp:p < M
  · rw [dueD_get hp,List.getElem?_set,List.getElem?_set]
    unfold dueR
    rw [tO_snoc,List.map_append,Nat.zero_add]
    unfold tcU
    by_cases z2:u.2=p
    · rw [if_pos z2,if_pos (by rw [List.length_set,dueD_len]; exact h2),decide_eq_true z2,Bool.or_true,if_pos rfl,z2]
      rfl
    · rw [if_neg z2,decide_eq_false z2,Bool.or_false]
      by_cases z1:u.1=p
      · rw [if_pos z1,if_pos (by rw [dueD_len]; omega),decide_eq_true z1,if_pos rfl,z1]
        rfl
      · rw [if_neg z1,dueD_get hp,decide_eq_false z1]
        simp [dueR]
  · rw [List.getElem?_eq_none (by rw [List.length_set,List.length_set,dueD_len]; omega),List.getElem?_eq_none (by rw [dueD_len]; omega)]
theorem appR_of {t:Th} {i a:Nat} {rows ds:List D} {f:DE} {fa:DE} {b:Int} (hi:t[i]?=some (.dp (.lst rows))) (ha:fa t=some (.cl (.int (a:Int)))) (hf:f t=some (.cl (.int b))) (hr:rows[a]?=some (.lst ds)) (hl:ds.length < 100000):dAppP i [fa] f t=some (.nx (t.set i (.dp (.lst (rows.set a (.lst (ds ++ [.int b]))))))):=by
  have la:a < rows.length:=(List.getElem?_eq_some_iff.mp hr).1
  unfold dAppP
  have ep:pthD [fa] t=some [(a:Int)]:=by
    unfold pthD
    rw [ha]
    rfl
  rw [ep,hf]
  show kAppP t i [(a:Int)] (.cl (.int b))=_
  unfold kAppP
  rw [hi]
  have eg:getP (.lst rows) [(a:Int)]=some (.lst ds):=by
    show (atI rows (a:Int)).bind (fun x=>getP x [])=_
    unfold atI
    rw [ix_nat _ a la]
    show (rows[a]?).bind _=_
    rw [hr]
    rfl
  have eq:putP (.lst rows) [(a:Int)] (.lst (ds ++ [.int b]))=some (.lst (rows.set a (.lst (ds ++ [.int b])))):=by
    show (ixN rows.length (a:Int)).bind _=_
    rw [ix_nat _ a la]
    show (rows[a]?).bind _=_
    rw [hr]
    rfl
  simp only [eg]
  show (if flat (D.int b) && decide (ds.length < 100000) then _ else none)=_
  rw [decide_eq_true hl]
  show (putP (.lst rows) [(a:Int)] (.lst (ds ++ [.int b]))).map _=_
  rw [eq]
  rfl
theorem compN_nil:∀ (l:List Int) (s:Sl),compN (gkName 0) dTrue (dT1 kLst dNil) (l.map D.int) [s]=some (l.map fun _=>D.lst [])
  | [],s=>rfl
  | x :: l,s=>by
    have ih:=compN_nil l (.val (.int x))
    have e0:gkName 0 (.int x) [s]=some [.val (.int x)]:=rfl
    rw [List.map_cons]
    unfold compN
    rw [e0]
    show (compN (gkName 0) dTrue (dT1 kLst dNil) (l.map D.int) [.val (.int x)]).map _=_
    rw [ih]
    rfl
theorem comp_rows {t:Th} {f:DE} {M:Nat} (hM:M ≤ 1000) (hf:f t=some (.cl (.int (M:Int)))):(dCompN 1 [] (fsR1 f) (gkName 0) dTrue (dT1 kLst dNil)) t=some (.dn (.lst (dueD M []))):=by
  unfold dCompN
  rw [rng_is hf (by omega)]
  show (if ((natsI M).map D.int).length ≤ 50000 then (compN (gkName 0) dTrue (dT1 kLst dNil) ((natsI M).map D.int) [Sl.no]).map (fun xs=>Ev.dn (.lst xs)) else none)=_
  rw [if_pos (by rw [natsI_len']; omega),compN_nil]
  have:(natsI M).map (fun _=>D.lst [])=dueD M []:=by
    unfold natsI dueD
    rw [List.map_map]
    rfl
  rw [this]
  rfl
theorem dn_asg {t:Th} {f:DE} {i:Nat} {d:D} (h:f t=some (.dn d)) (hi:i < t.length):dAsg i f t=some (.nx (t.set i (.dp d))):=by
  unfold dAsg
  rw [h]
  show (setSl t i (.dn d)).map Out.nx=_
  unfold setSl
  rw [if_pos hi]
  rfl
theorem compN_told {M:Int} {us:List (Nat × Nat)} (hl:us.length ≤ 50000):∀ (l:List Nat) (s:Sl),compN (gkName 0) dTrue (dT1 (kCall G_ties_of) (dCons (dVar 1) (dCons (dVar 0) dNil))) ((l.map fun (p:Nat)=>D.int (p:Int))) [s, .val (.tup [.int M, .lst (us.map tD)])]=some (l.map (dueR us))
  | [],s=>rfl
  | x :: l,s=>by
    have ih:=compN_told (M:=M) hl l (.val (.int (x:Int)))
    let t1:Th:=[.val (.int (x:Int)), .val (.tup [.int M, .lst (us.map tD)])]
    have e0:gkName 0 (.int (x:Int)) [s, .val (.tup [.int M, .lst (us.map tD)])]=some t1:=rfl
    have e1:(dT1 (kCall G_ties_of) (dCons (dVar 1) (dCons (dVar 0) dNil))) t1=some (.nw ((tO x us 0).map D.int)):=(t2_of (rfl:dVar 1 t1=some (.cl (.tup [.int M, .lst (us.map tD)]))) (rfl:dVar 0 t1=some (.cl (.int (x:Int))))).trans (calln (G:=G_ties_of) (rs:=[.cl (.tup [.int M, .lst (us.map tD)]), .cl (.int (x:Int))]) (ties_of_is hl x))
    rw [List.map_cons]
    unfold compN
    rw [e0]
    simp only [Option.bind_some]
    show ((dT1 (kCall G_ties_of) (dCons (dVar 1) (dCons (dVar 0) dNil))) t1).bind _=_
    rw [e1]
    simp only [Option.bind_some]
    have e2:toDn (.nw ((tO x us 0).map D.int))=some (.lst ((tO x us 0).map D.int)):=by
      show (if flats ((tO x us 0).map D.int)=true then some (D.lst ((tO x us 0).map D.int)) else none)=_
      rw [if_pos (flats_ints _)]
    rw [e2]
    show (compN (gkName 0) dTrue (dT1 (kCall G_ties_of) (dCons (dVar 1) (dCons (dVar 0) dNil))) (l.map fun (p:Nat)=>D.int (p:Int)) t1).map _=_
    rw [ih]
    rfl
theorem whole_of (n:Int):kCall G_law_whole [.cl (.int n)]=some (.cl (.bl true)):=by
  have:G_law_whole [.int n]=some (.cl (.bl true)):=rfl
  simp [kCall,Ev.d,this,upEv,Ev.ok,flat]
theorem whole_tm (n:Int):(dNot (dTr (dT1 (kCall G_law_whole) (dCons (dVar 0) dNil)))) [.val (.int n)]=some false:=by
  unfold dNot dTr
  rw [t1_of (ra := .cl (.int n)) rfl,whole_of]
  rfl
theorem eqOk_t2 {n:Nat} {a b:D} (h1:eqOk n a a=true) (h2:eqOk n b b=true):eqOk (n + 1) (.tup [a,b]) (.tup [a,b])=true:=by
  simp only [eqOk,List.zip_cons_cons,List.zip_nil_left,List.all_cons,List.all_nil,h1,h2,Bool.and_true]
  try rfl
theorem ne_same {r1 r2:Ev} {d:D} (h:eqOk 6 d d=true) (h1:r1.d=d) (h2:r2.d=d):kNe r1 r2=some (.cl (.bl false)):=by
  unfold kNe
  rw [h1,h2,if_pos h,eqD_refl]
  rfl
theorem bo_false {f:DE} {t:Th} (h:f t=some (.cl (.bl false))):dBo f t=some false:=by unfold dBo; rw [h]; rfl
theorem ixT_of {fa fb:DE} {t:Th} {r1 r2:Ev} {us:List (Nat × Nat)} {k:Nat} {u:Nat × Nat} (ha:fa t=some r1) (hb:fb t=some r2) (h1:r1.d = .lst (us.map tD)) (h2:r2.d = .int (k:Int)) (hu:us[k]?=some u):(d2 kIx fa fb) t=some (.cl (tD u)):=by
  rw [d2_of ha hb]
  unfold kIx
  rw [h1,h2]
  have hk:k < us.length:=(List.getElem?_eq_some_iff.mp hu).1
  have at':atI (us.map tD) (k:Int)=some (tD u):=by
    unfold atI
    rw [ix_nat _ k (by rw [List.length_map]; exact hk),Option.bind_some,List.getElem?_map,hu]
    rfl
  show Option.map (fun d=>if (r1.ok || flat d)=true then Ev.cl d else Ev.tm d) (atI (us.map tD) (k:Int))=_
  rw [at',Option.map_some,if_pos (by have q:flat (tD u)=true:=rfl; rw [q,Bool.or_true])]
def bdD:DS:=(dSeq (dAsgT (gkTup 2 (gkCons (gkName 4) (gkCons (gkName 5) gkNil))) (d2 kIx (d2 kIx (dVar 1) (dC (.int 1))) (dVar 3)))
    (dSeq (dAppP 2 [(dVar 4)] (dVar 3))
    (dAppP 2 [(dVar 5)] (dVar 3))))
def gL (ds:List D) (k:Nat):DS:=(dSeqN (dIfS (dOr (dNot (dTr (dIsi "list" (dVar 9)))) (dOr (dBo (d2 kNe (dVar 9) (d2 kIx (dVar 2) (dVar 8)))) (dBo (d2 kNe (dVar 6) (dVar 1))))) (fun _=>none) dSkip)
    (dSeqN (dIfS (dBo (d2 kNe (dComp 1 [] (fsL (dVar 9)) (gkName 0) (dNot (dTr (dT1 (kCall G_law_whole) (dCons (dVar 0) dNil)))) (dVar 0)) (dT1 kLst dNil))) (fun _=>none) dSkip)
    (dSeqN (dApp 9 (dC (.int 0)))
    (dSeqN (dIfS (dBo (d2 kNe (dT1 (kCall G_ties_of) (dCons (dVar 6) (dCons (dVar 8) dNil))) (d2 kIx (dVar 2) (dVar 8)))) (fun _=>none) dSkip)
    (dGive 7 9 ds k dSkip)))))
def bdL:DS:=dLend 7 9 (dVar 8) gL
theorem seqN {g1 g2:DS} {t t':Th} (h:g1 t=some (.nx t')):dSeqN g1 g2 t=g2 t':=by
  unfold dSeqN
  rw [h]
theorem turn_L (N s3 s4 s5 s9:Sl) {M:Nat} {us:List (Nat × Nat)} {told:List D} {p:Nat} (hM:p < M) (ul:us.length ≤ 400) (htl:told.length=M) (htp:told[p]?=some (dueR us p)) :
    bdL [N, .val (.tup [.int (M:Int), .lst (us.map tD)]), .dp (.lst (dueD M us)),s3,s4,s5, .val (.tup [.int (M:Int), .lst (us.map tD)]), .dp (.lst told), .val (.int (p:Int)),s9]=some (.nx [N, .val (.tup [.int (M:Int), .lst (us.map tD)]), .dp (.lst (dueD M us)),s3,s4,s5, .val (.tup [.int (M:Int), .lst (us.map tD)]), .dp (.lst (told.set p (.lst ((tO p us 0 ++ [0]).map D.int)))), .val (.int (p:Int)), .no]):=by
  let WD:D := .tup [.int (M:Int), .lst (us.map tD)]
  let W:Sl := .val WD
  let Du:Sl := .dp (.lst (dueD M us))
  let S8:Sl := .val (.int (p:Int))
  let xs:=tO p us 0
  have xl:xs.length ≤ 400:=by have:=tO_len p us 0; show (tO p us 0).length ≤ 400; omega
  let t0:Th:=[N,W,Du,s3,s4,s5,W, .dp (.lst told),S8,s9]
  let t1:Th:=[N,W,Du,s3,s4,s5,W, .no,S8, .own (xs.map D.int)]
  have duep:∀ s7 s9, ∃ r,(d2 kIx (dVar 2) (dVar 8)) [N,W,Du,s3,s4,s5,W,s7,S8,s9]=some r∧r.d = .lst (xs.map D.int):=fun s7 s9=>by
    rw [d2_of (rfl:dVar 2 _=some (.tm (.lst (dueD M us)))) (rfl:dVar 8 _=some (.cl (.int (p:Int))))]
    show ∃ r,Option.map (fun d=>if ((Ev.tm (.lst (dueD M us))).ok || flat d)=true then Ev.cl d else Ev.tm d) (atI (dueD M us) (p:Int))=some r∧_
    have at':atI (dueD M us) (p:Int)=some (dueR us p):=by
      unfold atI
      rw [ix_nat _ p (by rw [dueD_len]; exact hM),Option.bind_some,dueD_get hM]
    rw [at']
    refine ⟨_,rfl,?_⟩
    dsimp only
    split <;> rfl
  have G1:(dIfS (dOr (dNot (dTr (dIsi "list" (dVar 9)))) (dOr (dBo (d2 kNe (dVar 9) (d2 kIx (dVar 2) (dVar 8)))) (dBo (d2 kNe (dVar 6) (dVar 1))))) (fun _=>none) dSkip) t1=some (.nx t1):=by
    obtain ⟨r,e,er⟩:=duep .no (.own (xs.map D.int))
    have c1:(dNot (dTr (dIsi "list" (dVar 9)))) t1=some false:=rfl
    have c2:=ne_lists (fa:=dVar 9) (t:=t1) (r1 := .tm (.lst (xs.map D.int))) xs rfl e rfl er
    have c3:dBo (d2 kNe (dVar 6) (dVar 1)) t1=some false:=bo_false ((d2_of (rfl:dVar 6 t1=some (.cl WD)) (rfl:dVar 1 t1=some (.cl WD))).trans (ne_same (eqOk_t2 (n:=5) rfl (by rw [tD_pD]; exact eqOk_pD 3 _)) rfl rfl))
    exact grd (or_of2 c1 (or_of2 c2 c3)) rfl
  have G2:(dIfS (dBo (d2 kNe (dComp 1 [] (fsL (dVar 9)) (gkName 0) (dNot (dTr (dT1 (kCall G_law_whole) (dCons (dVar 0) dNil)))) (dVar 0)) (dT1 kLst dNil))) (fun _=>none) dSkip) t1=some (.nx t1):=by
    have e2:(dComp 1 [] (fsL (dVar 9)) (gkName 0) (dNot (dTr (dT1 (kCall G_law_whole) (dCons (dVar 0) dNil)))) (dVar 0)) t1=some (.nw []):=by
      unfold dComp fsL
      show (if (xs.map D.int).length ≤ 50000 then (compD (gkName 0) (dNot (dTr (dT1 (kCall G_law_whole) (dCons (dVar 0) dNil)))) (dVar 0) (xs.map D.int) [Sl.no]).bind (fun ys=>if (_ && _) || flats ys then some (Ev.nw ys) else none) else none)=_
      rw [if_pos (by rw [List.length_map]; omega),comp_none (ext:=[]) (fun _ _=>rfl) whole_tm]
      simp [flats]
    exact grd (ne_lists (fb:=dT1 kLst dNil) [] e2 rfl rfl rfl) rfl
  have G3:=app_map t1 (f:=dC (.int 0)) (i:=9) (p:=0) (xs:=xs) rfl rfl (by omega)
  let t2:Th:=[N,W,Du,s3,s4,s5,W, .no,S8, .own ((xs ++ [0]).map D.int)]
  have G4:(dIfS (dBo (d2 kNe (dT1 (kCall G_ties_of) (dCons (dVar 6) (dCons (dVar 8) dNil))) (d2 kIx (dVar 2) (dVar 8)))) (fun _=>none) dSkip) t2=some (.nx t2):=by
    obtain ⟨r,e,er⟩:=duep .no (.own ((xs ++ [0]).map D.int))
    have c:=(t2_of (rfl:dVar 6 t2=some (.cl WD)) (rfl:dVar 8 t2=some (.cl (.int (p:Int))))).trans (calln (G:=G_ties_of) (rs:=[.cl WD, .cl (.int (p:Int))]) (ties_of_is (M:=(M:Int)) (us:=us) (by omega) p))
    exact grd (ne_lists xs c e rfl er) rfl
  have L:bdL t0=gL told p t1:=by
    show dLend 7 9 (dVar 8) gL t0=_
    unfold dLend
    show (ixN told.length (p:Int)).bind _=_
    rw [ix_nat _ p (by omega)]
    simp only [Option.bind_some]
    rw [htp]
    show (if (xs.map D.int).all scD && decide (7 ≠ 9∧9 < t0.length) then _ else none)=_
    rw [sc_ints,if_pos (by rfl)]
    rfl
  refine L.trans ((seqN G1).trans ((seqN G2).trans ((seqN G3).trans ((seqN G4).trans ?_))))
  unfold dGive
  show (if ((xs ++ [0]).map D.int).all scD && decide (7 < t2.length) then dSkip ((t2.set 9 .no).set 7 (.dp (.lst (told.set p (.lst ((xs ++ [0]).map D.int)))))) else none)=_
  rw [sc_ints,if_pos (by rfl)]
  rfl
theorem law_true (ns:List Int) (hl:ns.length ≤ 63) (hb:∀ n ∈ ns,n.natAbs < bndS):G_law [.lst (ns.map D.int)]=some (.cl (.bl true)):=by
  let N:Sl := .val (.lst (ns.map D.int))
  obtain ⟨M,us,M0,M60,ul,hu,ew⟩:=web_is ns hl hb (most:=60) (by decide) (by decide)
  let WD:D := .tup [.int (M:Int), .lst (us.map tD)]
  let W:Sl := .val WD
  let t0:Th:=[N, .no, .no, .no, .no, .no, .no, .no, .no, .no]
  have e1:(dT1 (kCall G_law_web) (dCons (dVar 0) (dCons (dC (.int 60)) dNil))) t0=some (.cl WD):=by
    rw [t2_of (rfl:dVar 0 t0=some (.cl (.lst (ns.map D.int)))) (rfl:dC (.int 60) t0=some (.cl (.int 60)))]
    unfold kCall
    rw [show G_law_web ([Ev.cl (.lst (ns.map D.int)), .cl (.int 60)].map Ev.d)=_ from ew]
    rfl
  have E1:=asg_cl (i:=1) e1 (by simp [t0])
  let t1:Th:=[N,W, .no, .no, .no, .no, .no, .no, .no, .no]
  have E2:=dn_asg (i:=2) (comp_rows (t:=t1) (f:=d2 kIx (dVar 1) (dC (.int 0))) (M:=M) (by omega) rfl) (by simp [t1])
  obtain ⟨t3,e3,u3,u4,u5,rfl⟩:=for_I0 (k:=gkName 3) (b:=bdD) (n:=us.length) (f:=fun j=>D.int (j:Int)) (P:=fun j t => ∃ u3 u4 u5,t=[N,W, .dp (.lst (dueD M (us.take j))),u3,u4,u5, .no, .no, .no, .no]) (fun j hj t ⟨u3,u4,u5,et⟩=>by
    subst et
    let S3:Sl := .val (.int (j:Int))
    let u:=us[j]
    have hu':us[j]?=some u:=List.getElem?_eq_getElem hj
    obtain ⟨h1,h2⟩:=hu u (List.getElem_mem hj)
    let l:=us.take j
    have ll:l.length=j:=by show (us.take j).length=j; rw [List.length_take]; omega
    let a:Th:=[N,W, .dp (.lst (dueD M l)),S3,u4,u5, .no, .no, .no, .no]
    let b:Th:=[N,W, .dp (.lst (dueD M l)),S3, .val (.int (u.1:Int)), .val (.int (u.2:Int)), .no, .no, .no, .no]
    have A1:dAsgT (gkTup 2 (gkCons (gkName 4) (gkCons (gkName 5) gkNil))) (d2 kIx (d2 kIx (dVar 1) (dC (.int 1))) (dVar 3)) a=some (.nx b):=by
      unfold dAsgT
      rw [ixT_of (fa:=d2 kIx (dVar 1) (dC (.int 1))) (fb:=dVar 3) (t:=a) (r1 := .cl (.lst (us.map tD))) (r2 := .cl (.int (j:Int))) (us:=us) (k:=j) (u:=u) rfl rfl rfl rfl hu']
      rfl
    have A2:=appR_of (t:=b) (i:=2) (a:=u.1) (rows:=dueD M l) (ds:=(tO u.1 l 0).map D.int) (fa:=dVar 4) (f:=dVar 3) (b:=(j:Int)) rfl rfl rfl (dueD_get (by omega)) (by rw [List.length_map]; have:=tO_len u.1 l 0; omega)
    let b2:Th:=[N,W, .dp (.lst ((dueD M l).set u.1 (.lst ((tO u.1 l 0).map D.int ++ [.int (j:Int)])))),S3, .val (.int (u.1:Int)), .val (.int (u.2:Int)), .no, .no, .no, .no]
    have A3:=appR_of (t:=b2) (i:=2) (a:=u.2) (rows:=(dueD M l).set u.1 (.lst ((tO u.1 l 0).map D.int ++ [.int (j:Int)]))) (ds:=(tO u.2 l 0).map D.int) (fa:=dVar 5) (f:=dVar 3) (b:=(j:Int)) rfl rfl rfl (by rw [List.getElem?_set_ne (by omega)]; exact dueD_get h2) (by rw [List.length_map]; have:=tO_len u.2 l 0; omega)
    have sn:=due_snoc (M:=M) l u h1 h2
    rw [ll] at sn
    rw [sn] at A3
    have tk:us.take (j + 1)=l ++ [u]:=by show us.take (j + 1)=us.take j ++ [us[j]]; rw [List.take_succ_eq_append_getElem hj]
    refine ⟨a,_,rfl,(seq_nx A1).trans ((seq_nx A2).trans A3),S3, .val (.int (u.1:Int)), .val (.int (u.2:Int)),?_⟩
    rw [tk]
    rfl) [N,W, .dp (.lst (dueD M [])), .no, .no, .no, .no, .no, .no, .no] ⟨.no, .no, .no,rfl⟩
  rw [List.take_length] at e3
  have lenU:∀ t:Th,t[1]?=some W→(dT1 kLen (dCons (d2 kIx (dVar 1) (dC (.int 1))) dNil)) t=some (.cl (.int (us.length:Int))):=fun t h=>by
    have:(d2 kIx (dVar 1) (dC (.int 1))) t=some (.cl (.lst (us.map tD))):=by
      have v:dVar 1 t=some (.cl WD):=by unfold dVar; rw [h]
      exact (d2_of v (rfl:dC (.int 1) t=some (.cl (.int 1)))).trans rfl
    rw [t1_of this]
    unfold kLen
    simp [Ev.d]
  have E3:=rng1_of (k0:=gkName 3) (b:=bdD) (t:=[N,W, .dp (.lst (dueD M [])), .no, .no, .no, .no, .no, .no, .no]) (n:=us.length) (lenU _ rfl) rfl (by omega)
  rw [show (natsI us.length).map D.int=(List.range us.length).map fun (j:Nat)=>D.int (j:Int) by unfold natsI; simp,e3] at E3
  let Du:Sl := .dp (.lst (dueD M us))
  let t3:Th:=[N,W,Du,u3,u4,u5, .no, .no, .no, .no]
  have e4:(dT1 kTup (dCons (d2 kIx (dVar 1) (dC (.int 0))) (dCons (dT1 kList (dCons (d2 kIx (dVar 1) (dC (.int 1))) dNil)) dNil))) t3=some (.cl WD):=by
    have l:(dT1 kList (dCons (d2 kIx (dVar 1) (dC (.int 1))) dNil)) t3=some (.nw (us.map tD)):=by
      rw [tD_pD]
      exact list_pD (r := .cl (.lst (us.map tD))) rfl (by rw [tD_pD]; rfl)
    exact (t2_of (rfl:(d2 kIx (dVar 1) (dC (.int 0))) t3=some (.cl (.int (M:Int)))) l).trans rfl
  have E4:=asg_cl (i:=6) e4 (by simp [t3])
  let t4:Th:=[N,W,Du,u3,u4,u5,W, .no, .no, .no]
  have e5:(dCompN 1 [6] (fsR1 (d2 kIx (dVar 1) (dC (.int 0)))) (gkName 0) dTrue (dT1 (kCall G_ties_of) (dCons (dVar 1) (dCons (dVar 0) dNil)))) t4=some (.dn (.lst (dueD M us))):=by
    unfold dCompN
    rw [rng_is (n:=M) (rfl:(d2 kIx (dVar 1) (dC (.int 0))) t4=some (.cl (.int (M:Int)))) (by omega)]
    have ec:capD t4 [6]=some (true,[WD]):=rfl
    rw [ec]
    simp only [Option.bind_some]
    rw [if_pos (by rw [natsI_len']; omega)]
    have en:(natsI M).map D.int=(List.range M).map fun (p:Nat)=>D.int (p:Int):=by unfold natsI; simp
    rw [en]
    show (compN (gkName 0) dTrue (dT1 (kCall G_ties_of) (dCons (dVar 1) (dCons (dVar 0) dNil))) ((List.range M).map fun (p:Nat)=>D.int (p:Int)) [Sl.no, .val WD]).map _=_
    rw [compN_told (M:=(M:Int)) (by omega)]
    rfl
  have E5:=dn_asg (i:=7) e5 (by simp [t4])
  let t5:Th:=[N,W,Du,u3,u4,u5,W, .dp (.lst (dueD M us)), .no, .no]
  obtain ⟨t6,e6,told,v8,v9,_,_,rfl⟩:=for_I0 (k:=gkName 8) (b:=bdL) (n:=M) (f:=fun j=>D.int (j:Int)) (P:=fun j t => ∃ (told:List D) (v8 v9:Sl),told.length=M∧(∀ q,j ≤ q→q < M→told[q]?=some (dueR us q))∧t=[N,W,Du,u3,u4,u5,W, .dp (.lst told),v8,v9]) (fun j hj t ⟨told,v8,v9,h1,h2,et⟩=>by
    subst et
    refine ⟨_,_,rfl,turn_L N u3 u4 u5 v9 hj ul h1 (h2 j (Nat.le_refl _) hj),_,_,_,by rw [List.length_set]; exact h1,fun q hq hq'=>?_,rfl⟩
    rw [List.getElem?_set_ne (by omega)]
    exact h2 q (by omega) hq') t5 ⟨dueD M us, .no, .no,dueD_len M us,fun q _ h=>dueD_get h,rfl⟩
  have E6:=rng1_of (k0:=gkName 8) (b:=bdL) (t:=t5) (f:=d2 kIx (dVar 1) (dC (.int 0))) (r := .cl (.int (M:Int))) (n:=M) rfl rfl (by omega)
  rw [show (natsI M).map D.int=(List.range M).map fun (j:Nat)=>D.int (j:Int) by unfold natsI; simp,e6] at E6
  show (dSeq _ (dSeq _ (dSeq (dRng1 _ _ bdD) (dSeq _ (dSeq _ (dSeq (dRng1 _ _ bdL) _))))) t0).bind outEv=_
  exact bnd ((seq_nx E1).trans ((seq_nx E2).trans ((seq_nx E3).trans ((seq_nx E4).trans ((seq_nx E5).trans ((seq_nx E6).trans rfl))))))
end KX
set_option maxHeartbeats 4000000
namespace KX
open PySem PySem.Spec PyProof.Rows L2 DL
def spLaw (K:PySem.W.Frag):Sp:=spD K G_law
theorem all_mk {P:Program} {w:World} {K:PySem.W.Frag} {h:Heap} {mg:Str→Option Value} {fa:Addr} (X:K.In h) (G:h.Ns mainGlobals mg) (hfa:mg "law"=some (.ref fa)) {f0:Addr} {od0 an0:Option Addr} {sl0:Array (Option Value)} {oc0 kV0 dc0 pm0 cd0 ct0:Value} {f1:Addr} {od1 an1:Option Addr} {sl1:Array (Option Value)} {oc1 kV1 dc1 pm1 cd1 ct1:Value} {f2:Addr} {od2 an2:Option Addr} {sl2:Array (Option Value)} {oc2 kV2 dc2 pm2 cd2 ct2:Value} {f3:Addr} {od3 an3:Option Addr} {sl3:Array (Option Value)} {oc3 kV3 dc3 pm3 cd3 ct3:Value} {f4:Addr} {od4 an4:Option Addr} {sl4:Array (Option Value)} {oc4 kV4 dc4 pm4 cd4 ct4:Value} {f5:Addr} {od5 an5:Option Addr} {sl5:Array (Option Value)} {oc5 kV5 dc5 pm5 cd5 ct5:Value} {f6:Addr} {od6 an6:Option Addr} {sl6:Array (Option Value)} {oc6 kV6 dc6 pm6 cd6 ct6:Value} {f7:Addr} {od7 an7:Option Addr} {sl7:Array (Option Value)} {oc7 kV7 dc7 pm7 cd7 ct7:Value}
    (a0:PySem.W.nsIn K mainGlobals "ties_of"=some (some (.ref f0))) (l0:K.lookup f0=some ⟨oc0,od0, .func (PySem.W.fnOf "ties_of" "ties_of" (defArgs s_ties_of) (defBody s_ties_of) (defScope s_ties_of) .none kV0 dc0 pm0 an0 cd0 ct0),sl0⟩) (c0:PySem.W.codeIn K cd0 "ties_of"=true) (k0:PySem.W.keepIn K (.ref f0)=true)
    (a1:PySem.W.nsIn K mainGlobals "_law_cell_at"=some (some (.ref f1))) (l1:K.lookup f1=some ⟨oc1,od1, .func (PySem.W.fnOf "_law_cell_at" "_law_cell_at" (defArgs s_law_cell_at) (defBody s_law_cell_at) (defScope s_law_cell_at) .none kV1 dc1 pm1 an1 cd1 ct1),sl1⟩) (c1:PySem.W.codeIn K cd1 "_law_cell_at"=true) (k1:PySem.W.keepIn K (.ref f1)=true)
    (a2:PySem.W.nsIn K mainGlobals "_law_mixed"=some (some (.ref f2))) (l2:K.lookup f2=some ⟨oc2,od2, .func (PySem.W.fnOf "_law_mixed" "_law_mixed" (defArgs s_law_mixed) (defBody s_law_mixed) (defScope s_law_mixed) .none kV2 dc2 pm2 an2 cd2 ct2),sl2⟩) (c2:PySem.W.codeIn K cd2 "_law_mixed"=true) (k2:PySem.W.keepIn K (.ref f2)=true)
    (a3:PySem.W.nsIn K mainGlobals "_law_put"=some (some (.ref f3))) (l3:K.lookup f3=some ⟨oc3,od3, .func (PySem.W.fnOf "_law_put" "_law_put" (defArgs s_law_put) (defBody s_law_put) (defScope s_law_put) .none kV3 dc3 pm3 an3 cd3 ct3),sl3⟩) (c3:PySem.W.codeIn K cd3 "_law_put"=true) (k3:PySem.W.keepIn K (.ref f3)=true)
    (a4:PySem.W.nsIn K mainGlobals "_law_ties"=some (some (.ref f4))) (l4:K.lookup f4=some ⟨oc4,od4, .func (PySem.W.fnOf "_law_ties" "_law_ties" (defArgs s_law_ties) (defBody s_law_ties) (defScope s_law_ties) .none kV4 dc4 pm4 an4 cd4 ct4),sl4⟩) (c4:PySem.W.codeIn K cd4 "_law_ties"=true) (k4:PySem.W.keepIn K (.ref f4)=true)
    (a5:PySem.W.nsIn K mainGlobals "_law_web"=some (some (.ref f5))) (l5:K.lookup f5=some ⟨oc5,od5, .func (PySem.W.fnOf "_law_web" "_law_web" (defArgs s_law_web) (defBody s_law_web) (defScope s_law_web) .none kV5 dc5 pm5 an5 cd5 ct5),sl5⟩) (c5:PySem.W.codeIn K cd5 "_law_web"=true) (k5:PySem.W.keepIn K (.ref f5)=true)
    (a6:PySem.W.nsIn K mainGlobals "_law_whole"=some (some (.ref f6))) (l6:K.lookup f6=some ⟨oc6,od6, .func (PySem.W.fnOf "_law_whole" "_law_whole" (defArgs s_law_whole) (defBody s_law_whole) (defScope s_law_whole) .none kV6 dc6 pm6 an6 cd6 ct6),sl6⟩) (c6:PySem.W.codeIn K cd6 "_law_whole"=true) (k6:PySem.W.keepIn K (.ref f6)=true)
    (a7:PySem.W.nsIn K mainGlobals "law"=some (some (.ref f7))) (l7:K.lookup f7=some ⟨oc7,od7, .func (PySem.W.fnOf "law" "law" (defArgs s_law) (defBody s_law) (defScope s_law) .none kV7 dc7 pm7 an7 cd7 ct7),sl7⟩) (c7:PySem.W.codeIn K cd7 "law"=true) (k7:PySem.W.keepIn K (.ref f7)=true)
    (z_bool:PySem.W.nsIn K mainGlobals "bool"=some none) (z_enumerate:PySem.W.nsIn K mainGlobals "enumerate"=some none) (z_int:PySem.W.nsIn K mainGlobals "int"=some none) (z_isinstance:PySem.W.nsIn K mainGlobals "isinstance"=some none) (z_len:PySem.W.nsIn K mainGlobals "len"=some none) (z_list:PySem.W.nsIn K mainGlobals "list"=some none) (z_max:PySem.W.nsIn K mainGlobals "max"=some none) (z_min:PySem.W.nsIn K mainGlobals "min"=some none) (z_range:PySem.W.nsIn K mainGlobals "range"=some none) (z_sorted:PySem.W.nsIn K mainGlobals "sorted"=some none)   :
    TbOk K []∧∃ fd:FuncData,(∀ (s:Shared) (v:Value),BindsTo s fd ⟨[v],[]⟩ [("_law_script",v)])∧∀ base:BHeap,base.tabs=tbOf K []→K.In base→base.Ns mainGlobals mg→(∀ x ∈ ([]:List Str), ∀ c P,PySem.W.tabIn K x=some (c,P)→PySem.W.CodeHd base c P)→FnOk P w K mg base CX0 4 fa fd ["_law_script"] (spLaw K):=by
  have e:=hfa.symm.trans (PySem.W.mg_of X G a7)
  cases e
  have bu:Blt mg:=⟨PySem.W.mg_none_of X G z_bool,PySem.W.mg_none_of X G z_enumerate,PySem.W.mg_none_of X G z_int,PySem.W.mg_none_of X G z_isinstance,PySem.W.mg_none_of X G z_len,PySem.W.mg_none_of X G z_list,PySem.W.mg_none_of X G z_max,PySem.W.mg_none_of X G z_min,PySem.W.mg_none_of X G z_range,PySem.W.mg_none_of X G z_sorted⟩
  have d0:Df K mg "ties_of" s_ties_of ["web", "point"] f0 _:=⟨fun_mk (st:=s_ties_of) l0 c0 k0,PySem.W.mg_of X G a0,(fun_mk (st:=s_ties_of) l0 c0 k0).binds (ps:=["web", "point"]) fun _ _ _ _ _ _ us hl=>match us,hl with | [_,_],_=>rfl⟩
  have d1:Df K mg "_law_cell_at" s_law_cell_at ["_law_script", "_law_k"] f1 _:=⟨fun_mk (st:=s_law_cell_at) l1 c1 k1,PySem.W.mg_of X G a1,(fun_mk (st:=s_law_cell_at) l1 c1 k1).binds (ps:=["_law_script", "_law_k"]) fun _ _ _ _ _ _ us hl=>match us,hl with | [_,_],_=>rfl⟩
  have d2:Df K mg "_law_mixed" s_law_mixed ["_law_cell", "_law_k"] f2 _:=⟨fun_mk (st:=s_law_mixed) l2 c2 k2,PySem.W.mg_of X G a2,(fun_mk (st:=s_law_mixed) l2 c2 k2).binds (ps:=["_law_cell", "_law_k"]) fun _ _ _ _ _ _ us hl=>match us,hl with | [_,_],_=>rfl⟩
  have d3:Df K mg "_law_put" s_law_put ["_law_found", "_law_many", "_law_number"] f3 _:=⟨fun_mk (st:=s_law_put) l3 c3 k3,PySem.W.mg_of X G a3,(fun_mk (st:=s_law_put) l3 c3 k3).binds (ps:=["_law_found", "_law_many", "_law_number"]) fun _ _ _ _ _ _ us hl=>match us,hl with | [_,_,_],_=>rfl⟩
  have d4:Df K mg "_law_ties" s_law_ties ["_law_script", "_law_many"] f4 _:=⟨fun_mk (st:=s_law_ties) l4 c4 k4,PySem.W.mg_of X G a4,(fun_mk (st:=s_law_ties) l4 c4 k4).binds (ps:=["_law_script", "_law_many"]) fun _ _ _ _ _ _ us hl=>match us,hl with | [_,_],_=>rfl⟩
  have d5:Df K mg "_law_web" s_law_web ["_law_script", "_law_most"] f5 _:=⟨fun_mk (st:=s_law_web) l5 c5 k5,PySem.W.mg_of X G a5,(fun_mk (st:=s_law_web) l5 c5 k5).binds (ps:=["_law_script", "_law_most"]) fun _ _ _ _ _ _ us hl=>match us,hl with | [_,_],_=>rfl⟩
  have d6:Df K mg "_law_whole" s_law_whole ["_law_found"] f6 _:=⟨fun_mk (st:=s_law_whole) l6 c6 k6,PySem.W.mg_of X G a6,(fun_mk (st:=s_law_whole) l6 c6 k6).binds (ps:=["_law_found"]) fun _ _ _ _ _ _ us hl=>match us,hl with | [_],_=>rfl⟩
  have d7:Df K mg "law" s_law ["_law_script"] fa _:=⟨fun_mk (st:=s_law) l7 c7 k7,PySem.W.mg_of X G a7,(fun_mk (st:=s_law) l7 c7 k7).binds (ps:=["_law_script"]) fun _ _ _ _ _ _ us hl=>match us,hl with | [_],_=>rfl⟩
  refine ⟨tbOk_nil,PySem.W.fnOf "law" "law" (defArgs s_law) (defBody s_law) (defScope s_law) .none kV7 dc7 pm7 an7 cd7 ct7,fun s v => .of_eq rfl,fun base ht _ _ hCd=>?_⟩
  have F_ties_of:=ok_ties_of (P:=P) (w:=w) (base:=base) d0.fn bu  hl_ties_of hG_ties_of
  have F_law_cell_at:=ok_law_cell_at (P:=P) (w:=w) (base:=base) d1.fn bu  hl_law_cell_at hG_law_cell_at
  have F_law_mixed:=ok_law_mixed (P:=P) (w:=w) (base:=base) d2.fn bu  hl_law_mixed hG_law_mixed
  have F_law_put:=ok_law_put (P:=P) (w:=w) (base:=base) d3.fn bu
  have F_law_ties:=ok_law_ties (P:=P) (w:=w) (base:=base) d4.fn bu (d1.cal F_law_cell_at) (d2.cal F_law_mixed) (d3.calP F_law_put) hl_law_ties hG_law_ties
  have F_law_web:=ok_law_web (P:=P) (w:=w) (base:=base) d5.fn bu (d1.cal F_law_cell_at) (d4.cal F_law_ties) hl_law_web hG_law_web
  have F_law_whole:=ok_law_whole (P:=P) (w:=w) (base:=base) d6.fn bu  hl_law_whole hG_law_whole
  have F_law:=ok_law (P:=P) (w:=w) (base:=base) d7.fn bu (d5.cal F_law_web) (d0.cal F_ties_of) (d6.cal F_law_whole) hl_law hG_law
  exact F_law
theorem walk {l:PySem.W.OpenLaw} {q:Program} {loose:List Str} {XP:(Str→Option Value)→Heap→Prop} {YP:World→Heap→Prop} {d:DefRec} {K:Params→PySem.W.Frag} (hn:l.most=some 63) (hdf:d.params.defaults=[])
    (hY:∀ (w:World) (h:Heap),YP w h→(K w.params).In h) (hrec:∀ x ∈ ([]:List Str), ∃ dr,(recsOf q).find? (fun e=>e.name == x)=some dr)
    (Fx:∀ (w:World) (mg:Str→Option Value) (fa:Addr) (h:Heap),(K w.params).In h→h.Ns mainGlobals mg→mg d.name=some (.ref fa) →
      TbOk (K w.params) []∧∃ fd:FuncData,(∀ (s:Shared) (u:Value),BindsTo s fd ⟨[u],[]⟩ [("_law_script",u)])∧∀ base:BHeap,base.tabs=tbOf (K w.params) []→(K w.params).In base→base.Ns mainGlobals mg→(∀ x ∈ ([]:List Str), ∀ c P,PySem.W.tabIn (K w.params) x=some (c,P)→PySem.W.CodeHd base c P)→FnOk l.prog w (K w.params) mg base CX0 4 fa fd ["_law_script"] (spLaw (K w.params))) :
    PySem.W.WalkO q loose XP YP l.row.toRowW d [] (fun f vs=>PySem.call f vs) :=
  L2.walk_ofT (n:=63) (k:=4) (x := "_law_script") (names:=[]) (CX:=fun _=>CX0) (sp:=fun w=>spLaw (K w.params)) hn (by decide) hdf ⟨rfl,by decide,by decide⟩ hY hrec Fx
    (fun _ H a ns hl hb hS=>⟨[],[.lst (ns.map .int)], .cl (.bl true),fun p hp=>(by cases hp), .cons (.lst (by rw [hide_nil]; exact hS) (Reps.ints ns)) .nil,law_true ns hl hb,fun v H' _ q=>by cases q; rfl⟩) fun _ _ _ _ _ z=>z
end KX
open PySem PySem.W PyProof.Rows
set_option maxRecDepth 100000 in
set_option maxHeartbeats 0 in
theorem PySem.Challenge.cw_nearenough_k04_ties_of_points_holds : PySem.Challenge.rw_nearenough_k04_ties_of_points.Holds := by
  w_on; o_law; k_head; (case hw=>w_witness2)
  k_fill
  refine KX.walk (l:=PySem.Challenge.rw_nearenough_k04_ties_of_points) rfl rfl (fun w h Y=>by first | exact PySem.W.kIn_of Y | exact PySem.W.km_in_of Y) (by intro x hx; simp at hx) ?F
  case F =>
    intro w mg fa h KI G hmg
    refine' KX.all_mk KI G hmg ?a0 ?l0 ?c0 ?k0 ?a1 ?l1 ?c1 ?k1 ?a2 ?l2 ?c2 ?k2 ?a3 ?l3 ?c3 ?k3 ?a4 ?l4 ?c4 ?k4 ?a5 ?l5 ?c5 ?k5 ?a6 ?l6 ?c6 ?k6 ?a7 ?l7 ?c7 ?k7 ?z_bool ?z_enumerate ?z_int ?z_isinstance ?z_len ?z_list ?z_max ?z_min ?z_range ?z_sorted
    (case a0=>k_is); (case l0=>k_is); (case c0=>k_is); (case k0=>k_is)
    (case a1=>k_is); (case l1=>k_is); (case c1=>k_is); (case k1=>k_is)
    (case a2=>k_is); (case l2=>k_is); (case c2=>k_is); (case k2=>k_is)
    (case a3=>k_is); (case l3=>k_is); (case c3=>k_is); (case k3=>k_is)
    (case a4=>k_is); (case l4=>k_is); (case c4=>k_is); (case k4=>k_is)
    (case a5=>k_is); (case l5=>k_is); (case c5=>k_is); (case k5=>k_is)
    (case a6=>k_is); (case l6=>k_is); (case c6=>k_is); (case k6=>k_is)
    (case a7=>k_is); (case l7=>k_is); (case c7=>k_is); (case k7=>k_is)
    (case z_bool=>k_is)
    (case z_enumerate=>k_is)
    (case z_int=>k_is)
    (case z_isinstance=>k_is)
    (case z_len=>k_is)
    (case z_list=>k_is)
    (case z_max=>k_is)
    (case z_min=>k_is)
    (case z_range=>k_is)
    (case z_sorted=>k_is)
