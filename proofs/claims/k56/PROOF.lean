import PyProof.Rows.All
import Wide.All
import OpenK.AllK
import Wide.FinOn
import PyProof.EqAt
import PyProof.EqKinds
import PyProof.NeKinds
import PyProof.TupleCall
import PyProof.EnumFor
import PyProof.EnumMake
import PyProof.CompFree
import PyProof.Rows.SumAny
import PyProof.Rows.Range3
import PyProof.CompUse
import KE.LcSums
import PyProof.ListRange
import PyProof.Rows.MinMaxN
import KE.KIntText
import PyProof.StrCalls2
import PyProof.StrBlockH
import PyProof.Rows.ZipForRows
import PyProof.Rows.SortRev
import KE.KRevSl
import KE.KMinKey
import PyProof.Rows.SetFrom
import PyProof.Rows.SeqMore2
import Lean
import PyProof.WalkInts
import KE.KLam
import KE.KNest
import PyProof.Rows.SortRuns
import KE.KSortKey
import PyProof.Conv_int_bool
import KE.KListMore
import PySem.Challenge.RW_nearenough_k56_whole_boxes_as_benches
set_option Elab.async false
set_option linter.all false
set_option maxRecDepth 100000
namespace L2
open PySem PySem.Spec PyProof.Rows
abbrev Key:=Sum Int Str
def keyIs:Key→Value→Bool
  | .inl k,v=>Value.isInt k v
  | .inr x,v=>Value.isStrOf x v
def keyH (w:World):Key→Int
  | .inl k=>hashInt k
  | .inr x=>hashStr w x
theorem keyIs_shape:∀ {k:Key} {v:Value},keyIs k v=true→(∃ i t,k=Sum.inl i∧v=Value.int i t) ∨ (∃ x t,k=Sum.inr x∧v=Value.str x t)
  | .inl i,v,h=>by
    obtain ⟨t,e⟩:=Value.isInt_shape (k:=i) (v:=v) h
    exact .inl ⟨i,t,rfl,e⟩
  | .inr x,v,h=>by
    obtain ⟨t,e⟩:=Value.isStrOf_shape (x:=x) (v:=v) h
    exact .inr ⟨x,t,rfl,e⟩
theorem keyIs_int (i:Int) (t:Tok):keyIs (.inl i) (.int i t)=true:=by simp [keyIs,Value.isInt]
theorem keyIs_str (x:Str) (t:Tok):keyIs (.inr x) (.str x t)=true:=by simp [keyIs,Value.isStrOf]
theorem key_ll (a b:Int):decide ((Sum.inl a:Key)=Sum.inl b)=(a == b):=by
  by_cases e:a=b
  · subst e; simp
  · have h : ¬ (Sum.inl a:Key)=Sum.inl b:=fun q=>e (Sum.inl.inj q)
    rw [decide_eq_false h]
    exact (beq_eq_false_iff_ne.mpr e).symm
theorem key_rr (a b:Str):decide ((Sum.inr a:Key)=Sum.inr b)=decide (a=b):=by
  by_cases e:a=b
  · subst e; simp
  · have h : ¬ (Sum.inr a:Key)=Sum.inr b:=fun q=>e (Sum.inr.inj q)
    rw [decide_eq_false h,decide_eq_false e]
theorem key_lr (a:Int) (b:Str):decide ((Sum.inl a:Key)=Sum.inr b)=false:=decide_eq_false (fun q=>nomatch q)
theorem key_rl (a:Str) (b:Int):decide ((Sum.inr a:Key)=Sum.inl b)=false:=decide_eq_false (fun q=>nomatch q)
def mixKind (prog:Program) (w:World):PySem.KeyKind prog w Key where
  is:=keyIs
  hash:=keyH w
  inj:=fun v a b ha hb=>by
    rcases keyIs_shape ha with ⟨i,t,rfl,rfl⟩ | ⟨x,t,rfl,rfl⟩
    · rcases keyIs_shape hb with ⟨j,u,rfl,e⟩ | ⟨y,u,rfl,e⟩
      · injection e with e1 _; rw [e1]
      · exact nomatch e
    · rcases keyIs_shape hb with ⟨j,u,rfl,e⟩ | ⟨y,u,rfl,e⟩
      · exact nomatch e
      · injection e with e1 _; rw [e1]
  byValue:=fun k v h=>by
    rcases keyIs_shape h with ⟨i,t,rfl,rfl⟩ | ⟨x,t,rfl,rfl⟩ <;> rfl
  pyHash:=fun hv h=>by
    rcases keyIs_shape hv with ⟨i,t,rfl,rfl⟩ | ⟨x,t,rfl,rfl⟩
    · exact wpAny_pyHash_int h
    · exact wpAny_pyHash_str h
  eqBool:=fun hu hv h=>by
    rcases keyIs_shape hu with ⟨i,t,rfl,rfl⟩ | ⟨x,t,rfl,rfl⟩
    · rcases keyIs_shape hv with ⟨j,u,rfl,rfl⟩ | ⟨y,u,rfl,rfl⟩
      · rw [key_ll] at h; exact wpAny_eqBool_int h
      · rw [key_lr] at h; exact SeqAt.EqAt.int_str i t y u _ _ _ _ h
    · rcases keyIs_shape hv with ⟨j,u,rfl,rfl⟩ | ⟨y,u,rfl,rfl⟩
      · rw [key_rl] at h; exact SeqAt.EqAt.str_int x t j u _ _ _ _ h
      · rw [key_rr] at h; exact wpAny_eqBool_str h
  «strs»:=fun k x t v h=>by
    rcases keyIs_shape h with ⟨i,u,rfl,e⟩ | ⟨y,u,rfl,e⟩
    · exact nomatch e
    · injection e with e1 _
      subst e1
      cases v <;> rfl
theorem mixKind_int (prog:Program) (w:World) (i:Int) (t:Tok):(mixKind prog w).is (.inl i) (.int i t)=true:=keyIs_int i t
theorem mixKind_str (prog:Program) (w:World) (x:Str) (t:Tok):(mixKind prog w).is (.inr x) (.str x t)=true:=keyIs_str x t
inductive V where
  | non | bl (b:Bool) | int (i:Int) | str (x:Str) | byt (b:Array UInt8) | flt (b:UInt64) | ref (a:Addr) | ty (n:String)
  deriving DecidableEq
def RelV:V→Value→Prop
  | .non,u=>u=Value.none
  | .bl b,u=>u=Value.bool b
  | .int i,u => ∃ t,u=Value.int i t
  | .str x,u => ∃ t,u=Value.str x t
  | .byt b,u => ∃ t,u=Value.bytes b t
  | .flt b,u => ∃ t,u=Value.float b t
  | .ref a,u=>u=Value.ref a
  | .ty n,u=>u=Value.type n
abbrev Vals:List V→List Value→Prop:=Paired RelV
theorem Vals.length {xs:List V} {us:List Value} (r:Vals xs us):xs.length=us.length:=Paired.length r
theorem Vals.get:∀ {xs:List V} {us:List Value} {i:Nat} {x:V},Vals xs us→xs[i]?=some x→∃ u,us[i]?=some u∧RelV x u
  | _,_,_,_, .nil,e=>by simp at e
  | _,_,0,_, .cons r _,e=>by simp at e; subst e; exact ⟨_,rfl,r⟩
  | _,_,i + 1,x, .cons _ t,e=>by
    obtain ⟨u,h1,h2⟩:=Vals.get (i:=i) (x:=x) t (by simpa using e)
    exact ⟨u,by simpa using h1,h2⟩
theorem Vals.set {x:V} {u:Value} (r:RelV x u):∀ {xs:List V} {us:List Value} (i:Nat),Vals xs us→Vals (xs.set i x) (us.set i u)
  | _,_,_, .nil => .nil
  | _,_,0, .cons _ t => .cons r t
  | _,_,i + 1, .cons q t => .cons q (Vals.set r i t)
theorem Vals.append:∀ {xs ys:List V} {us ws:List Value},Vals xs us→Vals ys ws→Vals (xs ++ ys) (us ++ ws)
  | _,_,_,_, .nil,s=>s
  | _,_,_,_, .cons r t,s => .cons r (Vals.append t s)
def RelO:Option V→Option Value→Prop
  | some v,some u=>RelV v u
  | none,none=>True
  | _,_=>False
def KV {κ:Type}:List (κ × V)→List (κ × Value)→Prop:=Paired fun (p:κ × V) (q:κ × Value)=>p.1=q.1∧RelV p.2 q.2
def kV:Key→V
  | .inl i => .int i
  | .inr x => .str x
inductive HO where
  /-- a list -/
  | lst (xs:List V)
  /-- a tuple (never changes) -/
  | tup (xs:List V)
  /-- a dict whose keys are ints and texts; one whose keys are tuples of ints and texts (the empty one is both) -/
  | dK (kvs:List (Key × V)) | dT (kvs:List (List Key × V))
  /-- a set of ints: its members,its size -/
  | set (S:Int→Bool) (n:Nat)
  /-- an instance of the class at C,its dict at dx,its attributes -/
  | ins (C dx:Addr) (fs:List (Str × V))
  /-- the dict of the instance at x -/
  | own (x:Addr)
  /-- the dict of an exception -/
  | xd (fs:List (Str × V))
  /-- a bound method,f of x -/
  | met (f x:Addr)
  /-- a range object lo,lo + 1, .. below hi -/
  | rng (lo hi:Int)
  /-- a thing that is known to the object (the script; a dict while a loop walks it): read,never written while it is so -/
  | frz (o:Obj) (u:HO)
  /-- a code object's table -/
  | tbl (q:Str)
  /-- any other thing,by what is true of its one object (a def of one's own: SetO a S n:=HO.ext fun h => ..) -/
  | ext (φ:Heap→Prop)
abbrev Hp:=Addr→Option HO
def upd (H:Hp) (a:Addr) (o:HO):Hp:=fun b=>if b=a then some o else H b
theorem upd_same {H:Hp} {a:Addr} {o:HO}:upd H a o a=some o:=by unfold upd; rw [if_pos rfl]
theorem upd_ne {H:Hp} {a b:Addr} {o:HO} (h:b ≠ a):upd H a o b=H b:=by unfold upd; rw [if_neg h]
theorem ne_of {H:Hp} {a b:Addr} {o u:HO} (h:H a=some o) (h':H b=some u) (d:o ≠ u):a ≠ b:=by
  intro e; subst e; rw [h] at h'; exact d (Option.some.inj h')
theorem ne_of_none {H:Hp} {a b:Addr} {o:HO} (h:H a=some o) (h':H b=none):a ≠ b:=by
  intro e; subst e; rw [h] at h'; cases h'
section
variable (P:Program) (w:World)
def ObjOk (H:Hp) (h:Heap) (a:Addr):HO→Prop
  | .lst xs=>xs.length ≤ sizeLine∧∃ (its:List Value) (n:Nat),Vals xs its∧h.get? a=some { cls := .type "list",data := .seq its.toArray n }
  | .tup xs=>xs.length ≤ sizeLine∧∃ its:List Value,Vals xs its∧IsTup h a its.toArray
  | .dK kvs=>kvs.length ≤ sizeLine∧(a == sysModules)=false∧∃ vs,KV kvs vs∧h.DictOf (mixKind P w) a vs
  | .dT kvs=>kvs.length ≤ sizeLine∧(a == sysModules)=false∧∃ xs:List (List Key × Addr × Value),
      Paired (fun (p:List Key × V) (q:List Key × Addr × Value)=>p.1=q.1∧H q.2.1=some (.tup (p.1.map kV))∧RelV p.2 q.2.2) kvs xs ∧
      ∃ o es ep,h.get? a=some o∧o.ExactDict∧o.data = .dict es ep∧es.toList=xs.map (entryOfKey (tupleKind (mixKind P w)))∧(xs.map (·.1)).Nodup
  | .set S n=>h.SetOf (intKind P w) a S n
  | .ins C dx fs=>H dx=some (.own a)∧fs.length ≤ 1000∧dx ≠ a∧h.get? a=some (PySem.W.instObj C dx) ∧
      ∃ mA,h.Ns1 dx mA∧(∀ f,RelO (fs.lookup f) (mA f))∧PySem.Within mA (fs.map (·.1))
  | .own _ => ∃ o,h.get? a=some o
  | .xd fs => ∃ mA,h.Ns1 a mA∧∀ f,RelO (fs.lookup f) (mA f)
  | .rng lo hi => ∃ t u v,h.get? a=some { cls := .type "range",data := .fields #[.int lo t, .int hi u, .int 1 v] }
  | .frz o u=>h.get? a=some o∧ObjOk H h a u
  | .tbl q => ∃ ps:Array Value,h.get? a=some { cls := .none,data := .fields ps }∧TriplesOk ps.toList∧∀ pos cv,codeAmong pos ps.toList=some cv→∃ (c:Addr) (oc:Obj) (vs:Array Value) (tk:Tok),cv = .ref c∧H c=some (.frz oc (.own 0))∧oc.data = .fields vs∧vs[1]?=some (.str q tk)
  | .met f x=>h.get? a=some (PySem.W.methodObj (.ref f) (.ref x))
  | .ext φ=>φ h∧(∃ o,h.get? a=some o)∧∀ h1 h2:Heap,φ h1→(∀ o,h1.get? a=some o→h2.get? a=some o)→φ h2
def HOk (H:Hp) (h:Heap):Prop := ∀ a o,H a=some o→ObjOk P w H h a o
end
section
variable {P:Program} {w:World} {H H':Hp} {h h':Heap} {a:Addr} {o:HO}
theorem ObjOk.lt (x:ObjOk P w H h a o):a < h.objs.size:=by
  cases o with
  | lst xs=>obtain ⟨_,_,_,_,e⟩:=x; exact Heap.lt_size e
  | tup xs=>obtain ⟨_,_,_,p⟩:=x; exact p.lt
  | dK kvs=>obtain ⟨_,_,_,_,o,_,_,e,_⟩:=x; exact Heap.lt_size e
  | dT kvs=>obtain ⟨_,_,_,_,o,_,_,e,_⟩:=x; exact Heap.lt_size e
  | set S n=>obtain ⟨o,_,_,_,e,_⟩:=x; exact Heap.lt_size e
  | ins C dx fs=>obtain ⟨_,_,_,e,_⟩:=x; exact Heap.lt_size e
  | own y=>obtain ⟨_,e⟩:=x; exact Heap.lt_size e
  | xd fs=>obtain ⟨_,⟨_,_,_,e,_⟩,_⟩:=x; exact Heap.lt_size e
  | rng lo hi=>obtain ⟨_,_,_,e⟩:=x; exact Heap.lt_size e
  | frz ob u=>obtain ⟨e,_⟩:=x; exact Heap.lt_size e
  | tbl q=>obtain ⟨_,e,_⟩:=x; exact Heap.lt_size e
  | met f y=>exact Heap.lt_size (show h.get? a=some _ from x)
  | ext φ=>obtain ⟨_,⟨_,e⟩,_⟩:=x; exact Heap.lt_size e
theorem Paired.mapP {α β:Type} {F G:α→β→Prop}:∀ {l₁:List α} {l₂:List β},Paired F l₁ l₂→(∀ a b,F a b→G a b)→Paired G l₁ l₂
  | _,_, .nil,_ => .nil
  | _,_, .cons r t,f => .cons (f _ _ r) (Paired.mapP t f)
theorem ObjOk.stay (x:ObjOk P w H h a o) (k:∀ b u,(b=a ∨ H b=some (.own a))→h.get? b=some u→h'.get? b=some u)
    (ho:∀ b,H b=some (.own a)→H' b=some (.own a)) (ht:∀ b xs,H b=some (.tup xs)→H' b=some (.tup xs)) (hz:∀ b o u,H b=some (.frz o u)→H' b=some (.frz o u)):ObjOk P w H' h' a o:=by
  induction o with
  | lst xs=>obtain ⟨z,its,n,r,e⟩:=x; exact ⟨z,its,n,r,k _ _ (.inl rfl) e⟩
  | tup xs=>obtain ⟨z,its,r,ob,e,c⟩:=x; exact ⟨z,its,r,ob,k _ _ (.inl rfl) e,c⟩
  | dK kvs=>obtain ⟨z,y,vs,r,ob,es,ep,e,c⟩:=x; exact ⟨z,y,vs,r,ob,es,ep,k _ _ (.inl rfl) e,c⟩
  | dT kvs =>
    obtain ⟨z,y,xs,r,ob,es,ep,e,c⟩:=x
    exact ⟨z,y,xs,Paired.mapP r fun p q z=>⟨z.1,ht _ _ z.2.1,z.2.2⟩,ob,es,ep,k _ _ (.inl rfl) e,c⟩
  | set S n=>obtain ⟨ob,es,ep,t,e,c⟩:=x; exact ⟨ob,es,ep,t,k _ _ (.inl rfl) e,c⟩
  | ins C dx fs =>
    obtain ⟨d,z,ne,e,mA,⟨od,es,ep,e2,c⟩,r⟩:=x
    exact ⟨ho _ d,z,ne,k _ _ (.inl rfl) e,mA,⟨od,es,ep,k _ _ (.inr d) e2,c⟩,r⟩
  | own y=>obtain ⟨ob,e⟩:=x; exact ⟨ob,k _ _ (.inl rfl) e⟩
  | xd fs=>obtain ⟨mA,⟨od,es,ep,e,c⟩,r⟩:=x; exact ⟨mA,⟨od,es,ep,k _ _ (.inl rfl) e,c⟩,r⟩
  | rng lo hi=>obtain ⟨t,u,v,e⟩:=x; exact ⟨t,u,v,k _ _ (.inl rfl) e⟩
  | frz ob u ih=>obtain ⟨e,q⟩:=x; exact ⟨k _ _ (.inl rfl) e,ih q⟩
  | tbl q=>obtain ⟨ps,e,t,r⟩:=x; exact ⟨ps,k _ _ (.inl rfl) e,t,fun pos cv z=>let ⟨c,oc,vs,tk,a1,a2,a3⟩:=r pos cv z; ⟨c,oc,vs,tk,a1,hz _ _ _ a2,a3⟩⟩
  | met f y =>
    have e:h.get? a=some (PySem.W.methodObj (.ref f) (.ref y)):=x
    show h'.get? a=some (PySem.W.methodObj (.ref f) (.ref y))
    exact k a _ (.inl rfl) e
  | ext φ=>obtain ⟨p,⟨o,e⟩,st⟩:=x; exact ⟨st _ _ p fun o q=>k _ _ (.inl rfl) q,⟨o,k _ _ (.inl rfl) e⟩,st⟩
theorem HOk.lt (x:HOk P w H h) (e:H a=some o):a < h.objs.size:=(x a o e).lt
theorem HOk.fresh (x:HOk P w H h) (e:h.objs.size ≤ a):H a=none:=by
  cases q:H a with
  | none=>rfl
  | some u=>exact absurd (Nat.lt_of_lt_of_le (x.lt q) e) (Nat.lt_irrefl _)
theorem HOk.kept (x:HOk P w H h) (k:∀ b u,h.get? b=some u→h'.get? b=some u):HOk P w H h':=fun a o e =>
  (x a o e).stay (fun b u _ q=>k b u q) (fun _ q=>q) (fun _ _ q=>q) fun _ _ _ q=>q
theorem HOk.laid (x:HOk P w H h) (k:∀ b u,h.get? b=some u→h'.get? b=some u) (hp:h.objs.size ≤ a) (new:ObjOk P w (upd H a o) h' a o):HOk P w (upd H a o) h':=fun b u e=>by
  have hn:=x.fresh hp
  by_cases hb:b=a
  · subst hb; rw [upd_same] at e; cases e; exact new
  · rw [upd_ne hb] at e
    exact (x b u e).stay (fun c v _ q=>k c v q) (fun c q=>by rw [upd_ne (ne_of_none q hn)]; exact q) (fun c xs q=>by rw [upd_ne (ne_of_none q hn)]; exact q) fun c o u q=>by rw [upd_ne (ne_of_none q hn)]; exact q
end
def Rd (H:Hp) (a:Addr) (u:HO):Prop:=H a=some u ∨ ∃ o,H a=some (.frz o u)
theorem Rd.ok {P:Program} {w:World} {H:Hp} {h:Heap} {a:Addr} {u:HO} (r:Rd H a u) (x:HOk P w H h):ObjOk P w H h a u:=by
  rcases r with r | ⟨o,r⟩
  · exact x a u r
  · obtain ⟨_,q⟩:=x a _ r
    exact q
def Mut:Option HO→Prop
  | some (.lst _)=>True
  | some (.dK _)=>True
  | some (.dT _)=>True
  | some (.set _ _)=>True
  | some (.ins _ _ _)=>True
  | some (.ext _)=>True
  | _=>False
section
variable {P:Program} {w:World} {H:Hp} {h h':Heap} {x e:Addr} {o':HO}
theorem HOk.write (ok:HOk P w H h) (mu:Mut (H x)) (he:e=x ∨ H e=some (.own x)) (k:∀ b u,b ≠ e→h.get? b=some u→h'.get? b=some u) (heo:∃ u,h'.get? e=some u)
    (new:ObjOk P w (upd H x o') h' x o'):HOk P w (upd H x o') h':=fun b u q=>by
  have nown:∀ c y,H c=some (.own y)→c ≠ x:=fun c y r z=>by subst z; rw [r] at mu; exact mu
  have ntup:∀ c xs,H c=some (.tup xs)→c ≠ x:=fun c xs r z=>by subst z; rw [r] at mu; exact mu
  by_cases hb:b=x
  · subst hb; rw [upd_same] at q; cases q; exact new
  · rw [upd_ne hb] at q
    by_cases hbe:b=e
    · have q':H b=some (.own x):=by
        rcases he with z | z
        · exact absurd (hbe.trans z) hb
        · rw [hbe]; exact z
      rw [q] at q'; cases q'
      obtain ⟨v,hv⟩:=heo
      exact ⟨v,by rw [hbe]; exact hv⟩
    · refine (ok b u q).stay (fun c v hc r=>k c v ?_ r) (fun c r=>by rw [upd_ne (nown c b r)]; exact r) (fun c xs r=>by rw [upd_ne (ntup c xs r)]; exact r) fun c o u r=>by rw [upd_ne (fun z=>by subst z; rw [r] at mu; exact mu)]; exact r
      rcases hc with rfl | hc
      · exact hbe
      · rintro rfl
        rcases he with z | z
        · exact nown c b hc z
        · rw [hc] at z; cases z; exact hb rfl
end
structure Un (fs ex:List Addr) (H H':Hp) (h h':Heap):Prop where
  keep:∀ b o,h.get? b=some o→H b=none→b ∉ fs→b ∉ ex→h'.get? b=some o
  slot:∀ b o,h.get? b=some o→H b=none→b ∈ fs→b ∉ ex→∃ sl,h'.get? b=some { o with slots:=sl }
  free:∀ b o,h.get? b=some o→H b=none→b ∉ ex→H' b=none
  there:∀ b o,h.get? b=some o→b ∉ ex→∃ o',h'.get? b=some o'
  tups:∀ b xs,H b=some (.tup xs)→H' b=some (.tup xs)
  frzs:∀ b o u,H b=some (.frz o u)→H' b=some (.frz o u)
  tbls:∀ b q,H b=some (.tbl q)→H' b=some (.tbl q)
section
variable {fs fs' ex ex':List Addr} {H H1 H2:Hp} {h h1 h2 h':Heap} {a x e:Addr} {o:HO}
theorem Un.any (u:Un fs ex H H1 h h1) {b:Addr} {ob:Obj} (q:h.get? b=some ob) (n:H b=none) (hx:b ∉ ex):∃ sl,h1.get? b=some { ob with slots:=sl }:=by
  by_cases hb:b ∈ fs
  · exact u.slot b ob q n hb hx
  · exact ⟨ob.slots,u.keep b ob q n hb hx⟩
theorem Un.kept (k:∀ b u,h.get? b=some u→h'.get? b=some u):Un fs ex H H h h' :=
  ⟨fun b ob q _ _ _=>k b ob q,fun b ob q _ _ _=>⟨ob.slots,k b ob q⟩,fun _ _ _ n _=>n,fun b ob q _=>⟨ob,k b ob q⟩,fun _ _ q=>q,fun _ _ _ q=>q,fun _ _ q=>q⟩
theorem Un.refl:Un fs ex H H h h:=Un.kept fun _ _ q=>q
theorem Un.laid (k:∀ b u,h.get? b=some u→h'.get? b=some u) (hp:h.objs.size ≤ a) (hn:H a=none):Un fs ex H (upd H a o) h h' where
  keep:=fun b u q _ _ _=>k b u q
  slot:=fun b u q _ _ _=>⟨u.slots,k b u q⟩
  free:=fun b u q n _=>by rw [upd_ne (Nat.ne_of_lt (Nat.lt_of_lt_of_le (Heap.lt_size q) hp))]; exact n
  there:=fun b u q _=>⟨u,k b u q⟩
  tups:=fun b xs q=>by rw [upd_ne (ne_of_none q hn)]; exact q
  frzs:=fun b u xs q=>by rw [upd_ne (ne_of_none q hn)]; exact q
  tbls:=fun b ps q=>by rw [upd_ne (ne_of_none q hn)]; exact q
theorem Un.write (mu:Mut (H x)) (he:e=x ∨ H e=some (.own x)) (k:∀ b u,b ≠ e→h.get? b=some u→h'.get? b=some u) (heo:∃ u,h'.get? e=some u):Un fs ex H (upd H x o) h h':=by
  have hx:∀ b,H b=none→b ≠ x:=fun b n z=>by subst z; rw [n] at mu; exact mu
  have hb:∀ b,H b=none→b ≠ e:=fun b n z=>by
    subst z
    rcases he with r | r
    · exact hx b n r
    · rw [n] at r; cases r
  have hm:∀ b u,H b=some u → ¬ Mut (some u)→b ≠ x:=fun b u q nm z=>by subst z; rw [q] at mu; exact nm mu
  refine ⟨fun b u q n _ _=>k b u (hb b n) q,fun b u q n _ _=>⟨u.slots,k b u (hb b n) q⟩,fun b u q n _=>by rw [upd_ne (hx b n)]; exact n,fun b u q _=>?_,
    fun b xs q=>by rw [upd_ne (hm b _ q fun z=>z)]; exact q,fun b u xs q=>by rw [upd_ne (hm b _ q fun z=>z)]; exact q,fun b ps q=>by rw [upd_ne (hm b _ q fun z=>z)]; exact q⟩
  by_cases hbe:b=e
  · subst hbe; exact heo
  · exact ⟨u,k b u hbe q⟩
end
def trk (h:Heap) (H:Hp):List Addr:=(List.range h.objs.size).filter fun a=>(H a).isSome
def hidT (h:Heap) (H:Hp):Heap:=PySem.W.hideAll h (trk h H)
theorem hidT_size (h:Heap) (H:Hp):(hidT h H).objs.size=h.objs.size:=PySem.W.hideAll_size _ _
theorem hidT_get {h:Heap} {H:Hp} {b:Addr} {o:Obj} (e:h.get? b=some o) (n:H b=none):(hidT h H).get? b=some o :=
  PySem.W.hideAll_get _ e fun hm=>by
    have q:(H b).isSome=true:=(List.mem_filter.mp hm).2
    rw [n] at q; simp at q
theorem of_hidT {h:Heap} {H:Hp} {b:Addr} {o:Obj} (e:(hidT h H).get? b=some o):h.get? b=some o∧H b=none:=by
  have e':h.get? b=some o:=PySem.W.of_hideAll (trk h H) e
  refine ⟨e',?_⟩
  cases q:H b with
  | none=>rfl
  | some x =>
    have hm:b ∈ trk h H:=List.mem_filter.mpr ⟨List.mem_range.mpr (Heap.lt_size e'),by simp [q]⟩
    have z:(hidT h H).get? b=none:=PySem.W.hideAll_none (trk h H) hm
    rw [z] at e; cases e
def allNews (g h:Heap) (L:Addr):List (Addr × Obj):=(List.range h.objs.size).filterMap fun a=>if a=L ∨ (g.get? a).isSome=true then none else (h.get? a).map fun o=>(a,o)
def rest (g h:Heap) (L d:Addr):List (Addr × Obj):=(allNews g h L).filter fun p=>decide (p.1 ≠ d)
end L2
namespace L2
open PySem PySem.Spec PyProof.Rows
structure BHeap extends Heap where
  tabs:List (Addr × Str)
instance:Coe BHeap Heap:=⟨BHeap.toHeap⟩
structure Mod (K:PySem.W.Frag) (mg:Str→Option Value) (base:BHeap):Prop where
  kin:K.In base
  glob:base.Ns mainGlobals mg
  blt:∃ mb,base.Ns builtinsNs mb∧∀ x:Str,x ≠ "__name__"→mb x=bootBuiltins x
  nolimit:base.NoLimit
  bm:∃ (bm:Addr) (ob:Obj),mg "__builtins__"=some (.ref bm)∧bm ≠ builtinsNs∧base.get? bm=some ob∧ob.cls = .type "module"∧ob.dict=some builtinsNs∧ob.data = .plain
structure Cx where
  prog:Program
  w:World
  K:PySem.W.Frag
  mg:Str→Option Value
  base:BHeap
  A:Around
  N:List Str
  s₀:Shared
  H₀:Hp
  env:Env
  outer:List Env
  stack:List Env
  ex:List Addr
  fn:Str→Bool
  calm:Bool
  pn:List (Addr × Obj)
  xe:Value→Shared→Prop
def frs (l:List Env):List Addr:=l.filterMap (·.frame)
abbrev Cx.fs (X:Cx):List Addr:=frs X.outer
def Vis (sc:Scope) (x:Str):Prop:=sc.names.lookup x=some .local ∨ sc.names.lookup x=some .cell ∨ sc.names.lookup x=some .free
def Loc (sc:Scope) (x:Str):Prop:=sc.names.lookup x=some .local ∨ sc.names.lookup x=some .cell
def Look (env:Env) (h:Heap) (m:Str→Option Value) (x:Str) (u:Value):Prop :=
  (env.kindOf x=some .local∧m x=some u) ∨ ((env.kindOf x=some .cell ∨ env.kindOf x=some .free)∧∃ c,env.cells.lookup x=some c∧h.IsCell c (some u))
structure Cx.Ok (X:Cx):Prop where
  mod:Mod X.K X.mg X.base
  kind:X.env.scope.kind = .function
  glob:X.env.globals=mainGlobals
  blt:X.env.builtins=builtinsNs
  above:X.s₀.heap.objs.size ≤ X.env.locals
  inj:∀ x y c,X.env.cells.lookup x=some c→X.env.cells.lookup y=some c→x=y
  has:∀ x,(X.env.kindOf x=some .cell ∨ X.env.kindOf x=some .free)→∃ c,X.env.cells.lookup x=some c
  cab:∀ x c,X.fn x=true→X.env.cells.lookup x=some c→X.s₀.heap.objs.size ≤ c
  hd:X.calm=true→X.A.handled=none
  frames:X.A.frames=some X.stack
  stk:X.stack=X.outer ∨ (X.stack=X.env :: X.outer∧X.env.frame=some X.env.locals)
  exf:∀ b ∈ X.ex,b ≠ X.env.locals∧∀ x c,X.env.cells.lookup x=some c→c ≠ b
  bs:∀ b o,X.base.get? b=some o→X.s₀.heap.get? b=some o∧X.H₀ b=none
  bsz:X.base.objs.size ≤ X.s₀.heap.objs.size
  noex:∀ b o,X.base.get? b=some o→b ∉ X.ex
  exfs:∀ b ∈ X.ex,b ∉ X.fs
  funs:X.s₀.heap.FunFrames X.base X.outer
  frf:∀ b ∈ X.fs,X.H₀ b=none
  tabs:∀ p ∈ X.base.tabs,X.H₀ p.1=some (.tbl p.2)
structure Inv (X:Cx) (pins:List (Addr × Obj)) (σ:List (Option V)) (H:Hp) (s:Shared):Prop where
  ok:X.Ok
  os:s.os=X.s₀.os
  bare:AllBare s.gens
  base:Un X.fs X.ex X.H₀ H X.s₀.heap s.heap
  loc:∃ m,s.heap.Ns X.env.locals m∧∀ (i:Nat) (x:Str) (v:V),X.N[i]?=some x→σ[i]?=some (some v)→Vis X.env.scope x→∃ u,RelV v u∧Look X.env s.heap m x u
  cell:∀ x c,X.env.cells.lookup x=some c→∃ v,s.heap.IsCell c v
  free:H X.env.locals=none
  freeC:∀ x c,X.env.cells.lookup x=some c→H c=none
  pin:∀ p ∈ X.pn ++ pins,s.heap.get? p.1=some p.2∧H p.1=none∧p.1 ≠ X.env.locals∧p.1 ∉ X.fs∧∀ v,p.2.data ≠ .cell v
  hok:HOk X.prog X.w H s.heap
  len:σ.length=X.N.length
section
variable {X:Cx} {pins:List (Addr × Obj)} {σ:List (Option V)} {H H':Hp} {s:Shared} {h':Heap}
theorem Cx.Ok.nofr (ok:X.Ok) {b:Addr} {o:Obj} (e:X.base.get? b=some o):b ∉ X.fs:=fun hb=>by
  have:=(ok.funs.mem hb).1
  rw [e] at this; cases this
theorem Inv.bs (I:Inv X pins σ H s):∀ b o,X.base.get? b=some o→s.heap.get? b=some o∧H b=none:=fun b o e =>
  ⟨I.base.keep b o (I.ok.bs b o e).1 (I.ok.bs b o e).2 (I.ok.nofr e) (I.ok.noex b o e),I.base.free b o (I.ok.bs b o e).1 (I.ok.bs b o e).2 (I.ok.noex b o e)⟩
theorem Inv.bk (I:Inv X pins σ H s):∀ b o,X.base.get? b=some o→s.heap.get? b=some o:=fun b o e=>(I.bs b o e).1
theorem Inv.mod (I:Inv X pins σ H s):Mod X.K X.mg X.base:=I.ok.mod
theorem Inv.kIn (I:Inv X pins σ H s):X.K.In s.heap:=I.ok.mod.kin.keeps I.bk
theorem Inv.nolimit (I:Inv X pins σ H s):s.heap.NoLimit:=I.ok.mod.nolimit.keeps I.bk
theorem Inv.lt (I:Inv X pins σ H s):X.env.locals < s.heap.objs.size:=let ⟨_,hn,_⟩:=I.loc; hn.lt
theorem Inv.sz (I:Inv X pins σ H s):X.s₀.heap.objs.size ≤ s.heap.objs.size:=Nat.le_trans I.ok.above (Nat.le_of_lt I.lt)
theorem Inv.nofs (I:Inv X pins σ H s) {a:Addr} (h:s.heap.objs.size ≤ a):a ∉ X.fs:=fun hb=>by
  obtain ⟨_,o,ho,_⟩:=I.ok.funs.mem hb
  exact absurd (Nat.lt_of_lt_of_le (Heap.lt_size ho) (Nat.le_trans I.sz h)) (Nat.lt_irrefl _)
theorem Inv.cne (I:Inv X pins σ H s):∀ x c,X.env.cells.lookup x=some c→c ≠ X.env.locals:=fun x c e z=>by
  obtain ⟨v,o,ho,hd⟩:=I.cell x c e
  obtain ⟨m,⟨o',es,ep,ho',hd',_⟩,_⟩:=I.loc
  rw [z,ho'] at ho; cases ho; rw [hd'] at hd; cases hd
theorem Inv.funs (I:Inv X pins σ H s):s.heap.FunFrames X.base X.outer:=by
  have all:∀ (l:List Env),(∀ b ∈ frs l,b ∈ X.fs)→X.s₀.heap.FunFrames X.base l→s.heap.FunFrames X.base l:=by
    intro l
    induction l with
    | nil=>intro _ _; trivial
    | cons env r ih =>
      intro hs hl
      obtain ⟨hk,⟨L,o,hf,hn,ho,hd⟩,hr⟩:=hl
      have hL:L ∈ X.fs:=hs L (by unfold frs; rw [List.filterMap_cons,hf]; exact List.mem_cons_self)
      obtain ⟨sl,e⟩:=I.base.slot L o ho (I.ok.frf L hL) hL fun z=>I.ok.exfs L z hL
      exact ⟨hk,⟨L,_,hf,hn,e,hd⟩,ih (fun b hb=>hs b (by unfold frs; rw [List.filterMap_cons,hf]; exact List.mem_cons_of_mem _ hb)) hr⟩
  exact all X.outer (fun _ hb=>hb) I.ok.funs
theorem Inv.stack (I:Inv X pins σ H s):s.heap.FunFrames X.base X.stack:=by
  rcases I.ok.stk with e | ⟨e,hf⟩
  · rw [e]; exact I.funs
  · rw [e]
    obtain ⟨m,hn,_⟩:=I.loc
    refine .cons (by rw [I.ok.kind]; decide) hf hn ?_ I.funs
    exact Heap.get?_none_of_le (Nat.le_trans I.ok.bsz I.ok.above)
theorem Inv.stkSub (I:Inv X pins σ H s):∀ b ∈ frs X.stack,b ∈ X.env.locals :: X.fs:=fun b hb=>by
  rcases I.ok.stk with e | ⟨e,hf⟩
  · rw [e] at hb; exact List.mem_cons_of_mem _ hb
  · rw [e] at hb
    unfold frs at hb
    rw [List.filterMap_cons,hf] at hb
    exact hb
theorem Inv.stkFree (I:Inv X pins σ H s):∀ b ∈ frs X.stack,H b=none:=fun b hb=>by
  rcases List.mem_cons.mp (I.stkSub b hb) with e | hb
  · rw [e]; exact I.free
  · obtain ⟨_,o,ho,_⟩:=I.ok.funs.mem hb
    exact I.base.free b o ho (I.ok.frf b hb) fun z=>I.ok.exfs b z hb
theorem Inv.step {g':Array GenState} {t':Nat} {d':Drawn} {ch:List Addr} (I:Inv X pins σ H s)
    (hch:∀ b ∈ ch,(b ∈ X.ex ∨ X.s₀.heap.objs.size ≤ b)∧b ≠ X.env.locals∧(∀ x c,X.env.cells.lookup x=some c→c ≠ b)∧∀ p ∈ X.pn ++ pins,p.1 ≠ b)
    (keep:∀ b o,b ≠ X.env.locals→b ∉ X.fs→b ∉ ch→s.heap.get? b=some o→H b=none→h'.get? b=some o)
    (slot:∀ b o,b ≠ X.env.locals→b ∈ X.fs→b ∉ ch→s.heap.get? b=some o→H b=none→∃ sl,h'.get? b=some { o with slots:=sl }) (free:∀ b o,b ∉ ch→s.heap.get? b=some o→H b=none→H' b=none)
    (there:∀ b o,b ∉ ch→s.heap.get? b=some o→∃ o',h'.get? b=some o')
    (tups:∀ b xs,H b=some (.tup xs)→H' b=some (.tup xs)) (frzs:∀ b o u,H b=some (.frz o u)→H' b=some (.frz o u)) (tbls:∀ b q,H b=some (.tbl q)→H' b=some (.tbl q))
    (ns:∀ m,s.heap.Ns X.env.locals m→h'.Ns X.env.locals m) (hok:HOk X.prog X.w H' h') (hg:AllBare g') :
    Inv X pins σ H' { s with heap:=h',gens:=g',drawn:=d',toks:=t' }:=by
  have neL:∀ b o,X.s₀.heap.get? b=some o→b ≠ X.env.locals:=fun b o e=>Nat.ne_of_lt (Nat.lt_of_lt_of_le (Heap.lt_size e) I.ok.above)
  have neC:∀ b o,X.s₀.heap.get? b=some o→b ∉ X.ex→b ∉ ch:=fun b o e hx hb=>by
    rcases (hch b hb).1 with z | z
    · exact hx z
    · exact absurd (Nat.lt_of_lt_of_le (Heap.lt_size e) z) (Nat.lt_irrefl _)
  have cellK:∀ x c,X.env.cells.lookup x=some c→∀ v,s.heap.IsCell c v→h'.IsCell c v:=fun x c e v ⟨o,ho,hd⟩=>by
    have nch:c ∉ ch:=fun z=>(hch c z).2.2.1 x c e rfl
    by_cases hc:c ∈ X.fs
    · obtain ⟨sl,q⟩:=slot c o (I.cne x c e) hc nch ho (I.freeC x c e)
      exact ⟨_,q,hd⟩
    · exact ⟨o,keep c o (I.cne x c e) hc nch ho (I.freeC x c e),hd⟩
  refine ⟨I.ok,I.os,hg,⟨fun b o e n hb hx=>?_,fun b o e n hb hx=>?_,fun b o e n hx=>?_,fun b o e hx=>?_,fun b xs e=>tups b xs (I.base.tups b xs e),fun b o xs e=>frzs b o xs (I.base.frzs b o xs e),fun b ps e=>?_⟩,?_,fun x c e=>?_,?_,fun x c e=>?_,fun p hp=>?_,hok,I.len⟩
  · exact keep b o (neL b o e) hb (neC b o e hx) (I.base.keep b o e n hb hx) (I.base.free b o e n hx)
  · obtain ⟨sl,e1⟩:=I.base.slot b o e n hb hx
    obtain ⟨sl',e2⟩:=slot b _ (neL b o e) hb (neC b o e hx) e1 (I.base.free b o e n hx)
    exact ⟨sl',e2⟩
  · obtain ⟨o',e1⟩:=I.base.there b o e hx
    exact free b o' (neC b o e hx) e1 (I.base.free b o e n hx)
  · obtain ⟨o',e1⟩:=I.base.there b o e hx
    exact there b o' (neC b o e hx) e1
  · exact tbls b _ (I.base.tbls b ps e)
  · obtain ⟨m,hn,hl⟩:=I.loc
    refine ⟨m,ns m hn,fun i x v e1 e2 e3=>?_⟩
    obtain ⟨u,r,l⟩:=hl i x v e1 e2 e3
    refine ⟨u,r,?_⟩
    rcases l with l | ⟨k,c,e,z⟩
    · exact .inl l
    · exact .inr ⟨k,c,e,cellK x c e _ z⟩
  · obtain ⟨v,z⟩:=I.cell x c e
    exact ⟨v,cellK x c e v z⟩
  · obtain ⟨m,⟨o,_,_,ho,_⟩,_⟩:=I.loc
    exact free _ o (fun z=>(hch _ z).2.1 rfl) ho I.free
  · obtain ⟨v,o,ho,hd⟩:=I.cell x c e
    exact free c o (fun z=>(hch c z).2.2.1 x c e rfl) ho (I.freeC x c e)
  · obtain ⟨e,n,ne,nf,d⟩:=I.pin p hp
    have nch:p.1 ∉ ch:=fun z=>(hch p.1 z).2.2.2 p hp rfl
    exact ⟨keep p.1 p.2 ne nf nch e n,free p.1 p.2 nch e n,ne,nf,d⟩
theorem Inv.un {t':Nat} (I:Inv X pins σ H s) (u:Un X.fs [] H H' s.heap h') (hok:HOk X.prog X.w H' h'):Inv X pins σ H' { s with heap:=h',toks:=t' }:=by
  obtain ⟨m,⟨o,es,ep,ho,r⟩,_⟩:=id I.loc
  obtain ⟨sl,hL⟩:=u.any ho I.free (by simp)
  exact I.step (g':=s.gens) (d':=s.drawn) (ch:=[]) (fun _ z=>nomatch z) (fun b o _ hb _ e n=>u.keep b o e n hb (by simp)) (fun b o _ hb _ e n=>u.slot b o e n hb (by simp)) (fun b o _ e n=>u.free b o e n (by simp)) (fun b o _ e=>u.there b o e (by simp)) u.tups u.frzs u.tbls (fun m' hm=>by
    obtain ⟨o',es',ep',ho',r'⟩:=hm
    rw [ho] at ho'; cases ho'
    exact ⟨_,es',ep',hL,r'⟩) hok I.bare
theorem Inv.call {g':Array GenState} {t':Nat} {d':Drawn} {ch:List Addr} (I:Inv X pins σ H s) (u:Un (frs X.stack) ch H H' s.heap h') (hok:HOk X.prog X.w H' h') (hg:AllBare g')
    (hch:∀ b ∈ ch,(b ∈ X.ex ∨ X.s₀.heap.objs.size ≤ b)∧b ≠ X.env.locals∧(∀ x c,X.env.cells.lookup x=some c→c ≠ b)∧∀ p ∈ X.pn ++ pins,p.1 ≠ b) :
    Inv X pins σ H' { s with heap:=h',gens:=g',drawn:=d',toks:=t' }:=by
  obtain ⟨m,⟨o,es,ep,ho,r⟩,_⟩:=id I.loc
  obtain ⟨sl,hL⟩:=u.any ho I.free fun z=>(hch _ z).2.1 rfl
  exact I.step (ch:=ch) hch (fun b o hL hb hc e n=>u.keep b o e n (fun z=>(List.mem_cons.mp (I.stkSub b z)).elim hL hb) hc) (fun b o _ _ hc e n=>u.any e n hc) (fun b o hc e n=>u.free b o e n hc) (fun b o hc e=>u.there b o e hc) u.tups u.frzs u.tbls (fun m' hm=>by
    obtain ⟨o',es',ep',ho',r'⟩:=hm
    rw [ho] at ho'; cases ho'
    exact ⟨_,es',ep',hL,r'⟩) hok hg
theorem Inv.turned {t':Nat} {it:Addr} (I:Inv X pins σ H s) (k:∀ b o,b ≠ it→s.heap.get? b=some o→h'.get? b=some o) (hn:H it=none) (hL:it ≠ X.env.locals)
    (h1:it ∈ X.ex ∨ X.s₀.heap.objs.size ≤ it) (h2:∀ x c,X.env.cells.lookup x=some c→c ≠ it) (h3:∀ p ∈ X.pn ++ pins,p.1 ≠ it):Inv X pins σ H { s with heap:=h',toks:=t' }:=by
  have nit:∀ b u,H b=some u→b ≠ it:=fun b u e z=>by rw [z,hn] at e; cases e
  refine I.step (g':=s.gens) (d':=s.drawn) (ch:=[it]) (fun b hb=>?_) (fun b o _ _ hc e _=>k b o (fun z=>hc (by simp [z])) e) (fun b o _ _ hc e _=>⟨o.slots,k b o (fun z=>hc (by simp [z])) e⟩) (fun _ _ _ _ n=>n)
    (fun b o hc e=>⟨o,k b o (fun z=>hc (by simp [z])) e⟩) (fun _ _ e=>e) (fun _ _ _ e=>e) (fun _ _ e=>e) (fun m hm=>?_) (fun b u e=>?_) I.bare
  · have e:b=it:=by simpa using hb
    subst e
    exact ⟨h1,hL,h2,h3⟩
  · obtain ⟨o,es,ep,ho,r⟩:=hm
    exact ⟨o,es,ep,k _ o (Ne.symm hL) ho,r⟩
  · refine (I.hok b u e).stay (fun c v hc q=>k c v ?_ q) (fun _ q=>q) (fun _ _ q=>q) fun _ _ _ q=>q
    rcases hc with z | z
    · rw [z]; exact nit b u e
    · exact nit c _ z
theorem Inv.tok (I:Inv X pins σ H s) (t:Nat):Inv X pins σ H { s with toks:=t }:=I.un (h':=s.heap) (t':=t) Un.refl I.hok
theorem Inv.kept {t':Nat} (I:Inv X pins σ H s) (k:∀ b u,s.heap.get? b=some u→h'.get? b=some u):Inv X pins σ H { s with heap:=h',toks:=t' }:=I.un (Un.kept k) (I.hok.kept k)
theorem Inv.laid {a:Addr} {o:HO} {t':Nat} (I:Inv X pins σ H s) (k:∀ b u,s.heap.get? b=some u→h'.get? b=some u) (hp:s.heap.objs.size ≤ a) (new:ObjOk X.prog X.w (upd H a o) h' a o) :
    Inv X pins σ (upd H a o) { s with heap:=h',toks:=t' }:=I.un (Un.laid k hp (I.hok.fresh hp)) (I.hok.laid k hp new)
theorem Inv.write {x e:Addr} {o:HO} {t':Nat} (I:Inv X pins σ H s) (mu:Mut (H x)) (he:e=x ∨ H e=some (.own x)) (k:∀ b u,b ≠ e→s.heap.get? b=some u→h'.get? b=some u) (heo:∃ u,h'.get? e=some u)
    (new:ObjOk X.prog X.w (upd H x o) h' x o):Inv X pins σ (upd H x o) { s with heap:=h',toks:=t' }:=I.un (Un.write mu he k heo) (I.hok.write mu he k heo new)
theorem Inv.pins_of {pins':List (Addr × Obj)} (I:Inv X pins σ H s) (h:∀ p ∈ pins',s.heap.get? p.1=some p.2∧H p.1=none∧p.1 ≠ X.env.locals∧p.1 ∉ X.fs∧∀ v,p.2.data ≠ .cell v):Inv X pins' σ H s :=
  ⟨I.ok,I.os,I.bare,I.base,I.loc,I.cell,I.free,I.freeC,fun p hp=>(List.mem_append.mp hp).elim (fun z=>I.pin p (List.mem_append_left _ z)) (h p),I.hok,I.len⟩
theorem nodup_ix {N:List Str} (hN:N.Nodup) {i j:Nat} {x:Str} (a:N[i]?=some x) (b:N[j]?=some x):i=j:=by
  obtain ⟨h1,e1⟩:=List.getElem?_eq_some_iff.mp a
  obtain ⟨h2,e2⟩:=List.getElem?_eq_some_iff.mp b
  exact (List.getElem_inj hN).mp (e1.trans e2.symm)
theorem store_ok2 {M:Model} {A:Around} {E:Value→Shared→Prop} {i:Nat} {x:Str} {v:V} {u:Value} {Q:Unit→Shared→Prop} (I:Inv X pins σ H s) (hN:X.N.Nodup) (hi:X.N[i]?=some x) (hx:Loc X.env.scope x) (r:RelV v u)
    (h:∀ s',Inv X pins (σ.set i (some v)) H s'→(∃ a,Heap.SameBut a s.heap s'.heap∧(a=X.env.locals ∨ X.env.cells.lookup x=some a))→Q () s') (hf:X.fn x=true ∨ X.env.scope.names.lookup x=some .local:=by first | exact .inl rfl | exact .inr rfl | assumption):wpAny M A (storeName X.env x u) Q E s:=by
  obtain ⟨m,hn,hl⟩:=id I.loc
  have hcls:(X.env.scope.kind == .class || (X.env.scope.kind == .module && X.env.locals != X.env.globals))=false:=by rw [I.ok.kind]; rfl
  have hiσ:i < σ.length:=by rw [I.len]; exact (List.getElem?_eq_some_iff.mp hi).1
  have cne:=I.cne
  have tracked:∀ {a:Addr} {h':Heap},(∃ o,s.heap.get? a=some o∧H a=none)→Heap.SameBut a s.heap h'→HOk X.prog X.w H h':=fun {a h'} ha hs b ob e=>by
    obtain ⟨_,_,hfree⟩:=ha
    refine (I.hok b ob e).stay (fun c w' hc q=>(hs.2 c ?_).trans q) (fun _ q=>q) (fun _ _ q=>q) fun _ _ _ q=>q
    rintro rfl
    rcases hc with rfl | hc
    · rw [hfree] at e; cases e
    · rw [hfree] at hc; cases hc
  rcases hx with hk | hk
  · refine wpAny_storeName_local hk hn (fun h' hn' hs=>?_) hcls
    obtain ⟨oL,_,_,hoL,_⟩:=id hn
    refine h _ ⟨I.ok,I.os,I.bare,⟨fun b o e n hb hx=>?_,fun b o e n hb hx=>?_,I.base.free,fun b o e hx=>?_,I.base.tups,I.base.frzs,I.base.tbls⟩,⟨_,hn',fun j y v' e1 e2 e3=>?_⟩,fun y c e=>?_,I.free,I.freeC,fun p hp=>?_,tracked ⟨oL,hoL,I.free⟩ hs,by simpa using I.len⟩ ⟨_,hs, .inl rfl⟩
    · exact (hs.2 b (Nat.ne_of_lt (Nat.lt_of_lt_of_le (Heap.lt_size e) I.ok.above))).trans (I.base.keep b o e n hb hx)
    · obtain ⟨sl,e1⟩:=I.base.slot b o e n hb hx
      exact ⟨sl,(hs.2 b (Nat.ne_of_lt (Nat.lt_of_lt_of_le (Heap.lt_size e) I.ok.above))).trans e1⟩
    · obtain ⟨o',e1⟩:=I.base.there b o e hx
      exact ⟨o',(hs.2 b (Nat.ne_of_lt (Nat.lt_of_lt_of_le (Heap.lt_size e) I.ok.above))).trans e1⟩
    · by_cases hj:j=i
      · subst hj
        rw [hi] at e1; cases e1
        rw [List.getElem?_set_self hiσ] at e2
        cases e2
        exact ⟨u,r, .inl ⟨hk,by simp⟩⟩
      · rw [List.getElem?_set_ne (Ne.symm hj)] at e2
        obtain ⟨u',r',q⟩:=hl j y v' e1 e2 e3
        refine ⟨u',r',?_⟩
        rcases q with ⟨k,e⟩ | ⟨k,c,e,z⟩
        · refine .inl ⟨k,?_⟩
          have:y ≠ x:=fun e=>hj (nodup_ix hN e1 (e ▸ hi))
          simp [this,e]
        · exact .inr ⟨k,c,e,z.sameBut hs (cne y c e)⟩
    · obtain ⟨w',z⟩:=I.cell y c e
      exact ⟨w',z.sameBut hs (cne y c e)⟩
    · obtain ⟨e,n,ne,nf,d⟩:=I.pin p hp
      exact ⟨(hs.2 p.1 ne).trans e,n,ne,nf,d⟩
  · have hfn:X.fn x=true:=by
      rcases hf with z | z
      · exact z
      · rw [z] at hk; cases hk
    obtain ⟨c,hc⟩:=I.ok.has x (.inl hk)
    obtain ⟨w',z⟩:=I.cell x c hc
    refine wpAny_storeName_cell I.ok.kind hk hc z (fun h' hc' hs=>?_)
    obtain ⟨oc,hoc,hocd⟩:=id z
    refine h { s with heap:=h' } ⟨I.ok,I.os,I.bare,⟨fun b o e n hb hx=>?_,fun b o e n hb hx=>?_,I.base.free,fun b o e hx=>?_,I.base.tups,I.base.frzs,I.base.tbls⟩,⟨m,hn.sameBut hs (Ne.symm (cne x c hc)),fun j y v' e1 e2 e3=>?_⟩,fun y c' e=>?_,I.free,I.freeC,fun p hp=>?_,tracked ⟨oc,hoc,I.freeC x c hc⟩ hs,by simpa using I.len⟩ ⟨c,hs, .inr hc⟩
    · exact (hs.2 b (Nat.ne_of_lt (Nat.lt_of_lt_of_le (Heap.lt_size e) (I.ok.cab x c hfn hc)))).trans (I.base.keep b o e n hb hx)
    · obtain ⟨sl,e1⟩:=I.base.slot b o e n hb hx
      exact ⟨sl,(hs.2 b (Nat.ne_of_lt (Nat.lt_of_lt_of_le (Heap.lt_size e) (I.ok.cab x c hfn hc)))).trans e1⟩
    · obtain ⟨o',e1⟩:=I.base.there b o e hx
      exact ⟨o',(hs.2 b (Nat.ne_of_lt (Nat.lt_of_lt_of_le (Heap.lt_size e) (I.ok.cab x c hfn hc)))).trans e1⟩
    · by_cases hj:j=i
      · subst hj
        rw [hi] at e1; cases e1
        rw [List.getElem?_set_self hiσ] at e2
        cases e2
        exact ⟨u,r, .inr ⟨.inl hk,c,hc,hc'⟩⟩
      · rw [List.getElem?_set_ne (Ne.symm hj)] at e2
        obtain ⟨u',r',q⟩:=hl j y v' e1 e2 e3
        refine ⟨u',r',?_⟩
        rcases q with q | ⟨k,c',e,z'⟩
        · exact .inl q
        · refine .inr ⟨k,c',e,z'.sameBut hs ?_⟩
          rintro rfl
          exact hj (nodup_ix hN e1 (I.ok.inj _ _ _ e hc ▸ hi))
    · by_cases hcc:c'=c
      · subst hcc; exact ⟨_,hc'⟩
      · obtain ⟨w2,z2⟩:=I.cell y c' e
        exact ⟨w2,z2.sameBut hs hcc⟩
    · obtain ⟨e,n,ne,nf,d⟩:=I.pin p hp
      refine ⟨(hs.2 p.1 ?_).trans e,n,ne,nf,d⟩
      intro q
      rw [q,hoc] at e
      have q':oc=p.2:=Option.some.inj e
      exact d w' (by rw [← q']; exact hocd)
theorem store_ok {M:Model} {A:Around} {E:Value→Shared→Prop} {i:Nat} {x:Str} {v:V} {u:Value} {Q:Unit→Shared→Prop} (I:Inv X pins σ H s) (hN:X.N.Nodup) (hi:X.N[i]?=some x) (hx:Loc X.env.scope x) (r:RelV v u)
    (h:∀ s',Inv X pins (σ.set i (some v)) H s'→Q () s') (hf:X.fn x=true ∨ X.env.scope.names.lookup x=some .local:=by first | exact .inl rfl | exact .inr rfl | assumption):wpAny M A (storeName X.env x u) Q E s :=
  store_ok2 I hN hi hx r (fun s' I' _=>h s' I') hf
end
abbrev XK:=Value→Option Addr→Hp→Prop
abbrev St:=List (Option V)
abbrev VK:=V→Hp→Prop
abbrev TE:=St→Hp→VK→Prop
abbrev TT:=St→Hp→(Bool→Hp→Prop)→Prop
abbrev TA:=St→Hp→(List V→Hp→Prop)→Prop
structure Ends where
  nx:St→Hp→Prop
  rt:VK
  bk:St→Hp→Prop:=fun _ _=>False
  ct:St→Hp→Prop:=fun _ _=>False
abbrev TS:=Ends→St→Hp→Prop
def EP (X:Cx) (pins:List (Addr × Obj)) (σ:St) (Q:VK) (u:Value) (s':Shared):Prop := ∃ v H',Inv X pins σ H' s'∧RelV v u∧Q v H'
def TP (X:Cx) (pins:List (Addr × Obj)) (σ:St) (Q:Bool→Hp→Prop) (b:Bool) (s':Shared):Prop := ∃ H',Inv X pins σ H' s'∧Q b H'
def AP (X:Cx) (pins:List (Addr × Obj)) (σ:St) (Q:List V→Hp→Prop) (us:List Value) (s':Shared):Prop := ∃ vs H',Inv X pins σ H' s'∧Vals vs us∧Q vs H'
def SP (X:Cx) (pins:List (Addr × Obj)) (D:Ends) (f:Flow) (s':Shared):Prop :=
  match f with
  | .next => ∃ σ' H',Inv X pins σ' H' s'∧D.nx σ' H'
  | .brk => ∃ σ' H',Inv X pins σ' H' s'∧D.bk σ' H'
  | .cont => ∃ σ' H',Inv X pins σ' H' s'∧D.ct σ' H'
  | .ret u => ∃ v σ' H',Inv X pins σ' H' s'∧RelV v u∧D.rt v H'
def PE (X:Cx) (e:Expr) (t:TE):Prop :=
  ∀ (pins:List (Addr × Obj)) (s:Shared) (σ:St) (H:Hp) (Q:VK),Inv X pins σ H s→t σ H Q→wpAny (model X.prog X.w) X.A (eval e X.env) (EP X pins σ Q) X.xe s
def PT (X:Cx) (e:Expr) (t:TT):Prop :=
  ∀ (pins:List (Addr × Obj)) (s:Shared) (σ:St) (H:Hp) (Q:Bool→Hp→Prop),Inv X pins σ H s→t σ H Q→wpAny (model X.prog X.w) X.A (isTrue e X.env (eval e X.env)) (TP X pins σ Q) X.xe s
def PW (X:Cx) (e:Expr) (t:TT):Prop :=
  ∀ (whole:Sem Value) (pins:List (Addr × Obj)) (s:Shared) (σ:St) (H:Hp) (Q:Bool→Hp→Prop),Inv X pins σ H s→t σ H Q→wpAny (model X.prog X.w) X.A (isTrue e X.env whole) (TP X pins σ Q) X.xe s
theorem PW.pt {X:Cx} {e:Expr} {t:TT} (h:PW X e t):PT X e t:=h _
def PA (X:Cx) (es:List Expr) (t:TA):Prop :=
  ∀ (pos:Pos) (pins:List (Addr × Obj)) (s:Shared) (σ:St) (H:Hp) (Q:List V→Hp→Prop),Inv X pins σ H s→t σ H Q→wpAny (model X.prog X.w) X.A (spliced (backTo pos (starEach es X.env))) (AP X pins σ Q) X.xe s
def PS (X:Cx) (st:Stmt) (t:TS):Prop :=
  ∀ (pins:List (Addr × Obj)) (s:Shared) (σ:St) (H:Hp) (D:Ends),Inv X pins σ H s→t D σ H→wpAny (model X.prog X.w) X.A (exec st X.env) (SP X pins D) X.xe s
def PSs (X:Cx) (st:List Stmt) (t:TS):Prop :=
  ∀ (pins:List (Addr × Obj)) (s:Shared) (σ:St) (H:Hp) (D:Ends),Inv X pins σ H s→t D σ H→wpAny (model X.prog X.w) X.A (execs st X.env) (SP X pins D) X.xe s
theorem thn {α:Type} {t:Sem α} {Q Q':α→Shared→Prop} {M:Model} {A:Around} {E:Value→Shared→Prop} {s:Shared} (h:wpAny M A t Q E s) (hQ:∀ a s,Q a s→Q' a s):wpAny M A t Q' E s:=wpAny_mono h hQ fun _ _ x=>x
end L2
namespace L2
open PySem PySem.Spec PyProof.Rows
section
variable {X:Cx}
theorem bin {a b:Expr} {ta tb:TE} (ha:PE X a ta) (hb:PE X b tb) {pins:List (Addr × Obj)} {s:Shared} {σ:St} {H:Hp} {R:V→V→Hp→Prop} (I:Inv X pins σ H s) (h:ta σ H fun x H1=>tb σ H1 fun y H2=>R x y H2)
    {α:Type} {Q:α→Shared→Prop} {f:Value→Value→Sem α}
    (hf:∀ v u s2 x y H2,Inv X pins σ H2 s2→RelV x v→RelV y u→R x y H2→wpAny (model X.prog X.w) X.A (f v u) Q X.xe s2) :
    wpAny (model X.prog X.w) X.A (eval a X.env) (fun v s₁=>wpAny (model X.prog X.w) X.A (eval b X.env) (fun u s₂=>wpAny (model X.prog X.w) X.A (f v u) Q X.xe s₂) X.xe s₁) X.xe s:=by
  refine thn (ha pins s σ H _ I h) fun v s1 ⟨x,H1,I1,r1,q1⟩=>?_
  refine thn (hb pins s1 σ H1 _ I1 q1) fun u s2 ⟨y,H2,I2,r2,q2⟩=>?_
  exact hf v u s2 x y H2 I2 r1 r2 q2
def tVar (i:Nat):TE:=fun σ H Q => ∃ v,σ[i]?=some (some v)∧Q v H
def tC (v:V):TE:=fun _ H Q=>Q v H
theorem pe_var {i:Nat} {x:Str} {pos:Pos} (hN:X.N[i]?=some x) (hv:Vis X.env.scope x) (hd:(x == ("__debug__":Str))=false:=by decide) (hcd:(x == ("__classdict__":Str))=false:=by decide):PE X (.Name x pos) (tVar i):=by
  intro pins s σ H Q I h
  obtain ⟨v,e,h⟩:=h
  obtain ⟨m,hn,hl⟩:=I.loc
  obtain ⟨u,r,l⟩:=hl i x v hN e hv
  have fin:EP X pins σ Q u s:=⟨v,H,I,r,h⟩
  rcases l with ⟨hk,hm⟩ | ⟨hk,c,hc,hcell⟩
  · exact wpAny_Name (wpAny_loadName_local I.ok.kind hk hn hm fin) hd
  · rcases hk with hk | hk
    · exact wpAny_Name (wpAny_loadName_cell I.ok.kind hk hc hcell fin) hd
    · exact wpAny_Name (wpAny_loadName_free I.ok.kind hk hc hcell fin hcd) hd
theorem pe_int {i j pos}:PE X (.Constant (.int i) j pos) (tC (.int i)):=fun _ _ _ H _ I h=>wpAny_Constant_int ⟨.int i,H,I.tok _,⟨_,rfl⟩,h⟩
theorem pe_bl {b j pos}:PE X (.Constant (.bool b) j pos) (tC (.bl b)):=fun _ _ _ H _ I h=>Constant_bool ⟨.bl b,H,I,rfl,h⟩
def Gl (X:Cx) (x:Str):Prop:=X.env.kindOf x=some .globalImplicit
theorem ld_glob {E:Value→Shared→Prop} {pins:List (Addr × Obj)} {s:Shared} {σ:St} {H:Hp} {x:Str} {u:Value} {pos:Pos} {Q:Value→Shared→Prop} (I:Inv X pins σ H s) (hg:Gl X x) (hm:X.mg x=some u) (h:Q u s)
    (hd:(x == ("__debug__":Str))=false:=by decide):wpAny (model X.prog X.w) X.A (eval (.Name x pos) X.env) Q E s :=
  Calls.Name_function_global I.ok.kind hg (Calls.loadGlobal_global (by rw [I.ok.glob]; exact I.mod.glob.keeps I.bk) hm h) hd
theorem ld_blt {E:Value→Shared→Prop} {pins:List (Addr × Obj)} {s:Shared} {σ:St} {H:Hp} {x:Str} {u:Value} {pos:Pos} {Q:Value→Shared→Prop} (I:Inv X pins σ H s) (hg:Gl X x) (hm:X.mg x=none) (hv:bootBuiltins x=some u) (h:Q u s)
    (hn:x ≠ "__name__":=by decide) (hd:(x == ("__debug__":Str))=false:=by decide):wpAny (model X.prog X.w) X.A (eval (.Name x pos) X.env) Q E s:=by
  obtain ⟨mb,h1,h2⟩:=I.mod.blt
  exact Calls.Name_function_global I.ok.kind hg (Calls.loadGlobal_builtin (by rw [I.ok.glob]; exact I.mod.glob.keeps I.bk) hm (by rw [I.ok.blt]; exact h1.keeps I.bk) ((h2 x hn).trans hv) h) hd
theorem pe_bltn {x:Str} {v:V} {u:Value} {pos:Pos} (hg:Gl X x) (hm:X.mg x=none) (hv:bootBuiltins x=some u) (r:RelV v u) (hn:x ≠ "__name__":=by decide) (hd:(x == ("__debug__":Str))=false:=by decide):PE X (.Name x pos) (tC v) :=
  fun _ _ _ H _ I h=>ld_blt I hg hm hv ⟨v,H,I,r,h⟩ hn hd
variable {a b:Expr} {ta tb:TE} {pos:Pos}
variable {tA tB':TT} {rest:List Expr}
def tAnd (t u:TT):TT:=fun σ H Q=>t σ H fun c H1=>if c=true then u σ H1 Q else Q false H1
def tOr (t u:TT):TT:=fun σ H Q=>t σ H fun c H1=>if c=true then Q true H1 else u σ H1 Q
def tNot (t:TT):TT:=fun σ H Q=>t σ H fun c H1=>Q (!c) H1
theorem pw_and1 (ha:PT X a tA):PW X (.BoolOp .And [a] pos) tA:=by
  intro wh pins s σ H Q I h
  refine isTrue_and (thn (ha pins s σ H Q I h) fun c s1 e=>?_)
  cases c with
  | true=>exact isTrue_and_nil e
  | false=>exact e
theorem pw_or1 (ha:PT X a tA):PW X (.BoolOp .Or [a] pos) tA:=by
  intro wh pins s σ H Q I h
  refine isTrue_or (thn (ha pins s σ H Q I h) fun c s1 e=>?_)
  cases c with
  | false=>exact isTrue_or_nil e
  | true=>exact e
theorem pw_and (ha:PT X a tA) (hb:PW X (.BoolOp .And (b :: rest) pos) tB'):PW X (.BoolOp .And (a :: b :: rest) pos) (tAnd tA tB'):=by
  intro wh pins s σ H Q I h
  refine isTrue_and (thn (ha pins s σ H _ I h) fun c s1 ⟨H1,I1,q1⟩=>?_)
  cases c with
  | true=>exact hb wh pins s1 σ H1 Q I1 q1
  | false=>exact ⟨H1,I1,q1⟩
theorem pw_or (ha:PT X a tA) (hb:PW X (.BoolOp .Or (b :: rest) pos) tB'):PW X (.BoolOp .Or (a :: b :: rest) pos) (tOr tA tB'):=by
  intro wh pins s σ H Q I h
  refine isTrue_or (thn (ha pins s σ H _ I h) fun c s1 ⟨H1,I1,q1⟩=>?_)
  cases c with
  | true=>exact ⟨H1,I1,q1⟩
  | false=>exact hb wh pins s1 σ H1 Q I1 q1
theorem pt_not (ha:PT X a tA):PT X (.UnaryOp .Not a pos) (tNot tA):=by
  intro pins s σ H Q I h
  exact isTrue_not (ha pins s σ H (fun c H1=>Q (!c) H1) I h)
def tIf (t:TT) (ta tb:TE):TE:=fun σ H Q=>t σ H fun c H1=>if c=true then ta σ H1 Q else tb σ H1 Q
theorem pe_ifExp {c:Expr} (hc:PT X c tA) (ha:PE X a ta) (hb:PE X b tb):PE X (.IfExp c a b pos) (tIf tA ta tb):=by
  intro pins s σ H Q I h
  refine wpAny_IfExp (thn (hc pins s σ H _ I h) fun d s1 ⟨H1,I1,q1⟩=>?_)
  cases d with
  | true=>exact ha pins s1 σ H1 Q I1 q1
  | false=>exact hb pins s1 σ H1 Q I1 q1
end
end L2
namespace L2
open PySem PySem.Spec PyProof.Rows
def SqL (K:PySem.W.Frag) (H:Hp) (a:Addr) (xs:List V):Prop :=
  Rd H a (.lst xs) ∨
    ∃ (o:Obj) (its:Array Value) (n:Nat),K.lookup a=some o∧o.cls = .type "list"∧o.dict=none∧o.data = .seq its n∧its.size ≤ sizeLine∧Vals xs its.toList
def SqT (K:PySem.W.Frag) (H:Hp) (a:Addr) (xs:List V):Prop :=
  Rd H a (.tup xs) ∨
    ∃ (o:Obj) (its:Array Value) (n:Nat),K.lookup a=some o∧o.cls = .type "tuple"∧o.data = .seq its n∧its.size ≤ sizeLine∧Vals xs its.toList
def absV:Value→Option V
  | .none=>some .non
  | .bool b=>some (.bl b)
  | .int i _=>some (.int i)
  | .str x _=>some (.str x)
  | .bytes b _=>some (.byt b)
  | .float b _=>some (.flt b)
  | .ref a=>some (.ref a)
  | .type n=>some (.ty n)
  | _=>none
theorem RelV.abs {x:V} {u:Value} (r:RelV x u):absV u=some x:=by
  cases x with
  | non=>cases r; rfl
  | bl _=>cases r; rfl
  | int _=>obtain ⟨t,rfl⟩:=r; rfl
  | str _=>obtain ⟨t,rfl⟩:=r; rfl
  | byt _=>obtain ⟨t,rfl⟩:=r; rfl
  | flt _=>obtain ⟨t,rfl⟩:=r; rfl
  | ref _=>cases r; rfl
  | ty _=>cases r; rfl
theorem RelV.inj {x y:V} {u:Value} (r:RelV x u) (q:RelV y u):x=y:=Option.some.inj (r.abs.symm.trans q.abs)
theorem Vals.inj:∀ {xs ys:List V} {us:List Value},Vals xs us→Vals ys us→xs=ys
  | _,_,_, .nil, .nil=>rfl
  | _,_,_, .cons r t, .cons r' t'=>by rw [r.inj r',Vals.inj t t']
section
variable {X:Cx} {pins:List (Addr × Obj)} {σ:St} {H:Hp} {s:Shared} {a:Addr} {xs ys:List V}
theorem SqL.of {K:PySem.W.Frag} (h:H a=some (.lst xs)):SqL K H a xs := .inl (.inl h)
theorem SqT.of {K:PySem.W.Frag} (h:H a=some (.tup xs)):SqT K H a xs := .inl (.inl h)
theorem Inv.list (I:Inv X pins σ H s) (h:SqL X.K H a xs):∃ its:List Value,Vals xs its∧PlainL s.heap a its.toArray∧xs.length ≤ sizeLine:=by
  rcases h with h | ⟨o,its,n,hk,hc,hd,hs,hz,r⟩
  · obtain ⟨z,its,n,r,e⟩:=h.ok I.hok
    exact ⟨its,r,⟨_,n,e,rfl,rfl,rfl⟩,z⟩
  · refine ⟨its.toList,r,⟨o,n,I.kIn a o hk,hc,hd,by simpa using hs⟩,?_⟩
    have e:=r.length
    simp only [Array.length_toList] at e
    omega
theorem Inv.tuple (I:Inv X pins σ H s) (h:SqT X.K H a xs):∃ its:List Value,Vals xs its∧IsTup s.heap a its.toArray∧xs.length ≤ sizeLine:=by
  rcases h with h | ⟨o,its,n,hk,hc,hs,hz,r⟩
  · obtain ⟨z,its,r,p⟩:=h.ok I.hok
    exact ⟨its,r,p,z⟩
  · refine ⟨its.toList,r,⟨o,I.kIn a o hk,hc,n,by simpa using hs⟩,?_⟩
    have e:=r.length
    simp only [Array.length_toList] at e
    omega
theorem Inv.list_inj (I:Inv X pins σ H s) (h:SqL X.K H a xs) (h':SqL X.K H a ys):xs=ys:=by
  obtain ⟨its,r,⟨o,n,e,_,_,d⟩,_⟩:=I.list h
  obtain ⟨its',r',⟨o',n',e',_,_,d'⟩,_⟩:=I.list h'
  rw [e] at e'; cases e'
  rw [d] at d'
  injection d' with d1 _
  have:its=its':=by simpa using congrArg Array.toList d1
  subst this
  exact r.inj r'
theorem Inv.tuple_inj (I:Inv X pins σ H s) (h:SqT X.K H a xs) (h':SqT X.K H a ys):xs=ys:=by
  obtain ⟨its,r,⟨o,e,_,n,d⟩,_⟩:=I.tuple h
  obtain ⟨its',r',⟨o',e',_,n',d'⟩,_⟩:=I.tuple h'
  rw [e] at e'; cases e'
  rw [d] at d'
  injection d' with d1 _
  have:its=its':=by simpa using congrArg Array.toList d1
  subst this
  exact r.inj r'
end
abbrev Cx.wish (X:Cx) (E:Value→Shared→Prop):Cx:={ X with xe:=E }
abbrev Cx.nox (X:Cx):Cx:=X.wish fun _ _=>False
theorem Cx.Ok.wish {X:Cx} (ok:X.Ok) (E:Value→Shared→Prop):(X.wish E).Ok :=
  ⟨ok.mod,ok.kind,ok.glob,ok.blt,ok.above,ok.inj,ok.has,ok.cab,ok.hd,ok.frames,ok.stk,ok.exf,ok.bs,ok.bsz,ok.noex,ok.exfs,ok.funs,ok.frf,ok.tabs⟩
theorem Cx.Ok.unwish {X:Cx} {E:Value→Shared→Prop} (ok:(X.wish E).Ok):X.Ok :=
  ⟨ok.mod,ok.kind,ok.glob,ok.blt,ok.above,ok.inj,ok.has,ok.cab,ok.hd,ok.frames,ok.stk,ok.exf,ok.bs,ok.bsz,ok.noex,ok.exfs,ok.funs,ok.frf,ok.tabs⟩
section
variable {X:Cx} {pins:List (Addr × Obj)} {σ:St} {H:Hp} {s:Shared} {E:Value→Shared→Prop}
theorem Inv.wish (I:Inv X pins σ H s) (E:Value→Shared→Prop):Inv (X.wish E) pins σ H s:=⟨I.ok.wish E,I.os,I.bare,I.base,I.loc,I.cell,I.free,I.freeC,I.pin,I.hok,I.len⟩
theorem Inv.unwish (I:Inv (X.wish E) pins σ H s):Inv X pins σ H s:=⟨I.ok.unwish,I.os,I.bare,I.base,I.loc,I.cell,I.free,I.freeC,I.pin,I.hok,I.len⟩
theorem SP.unwish {D:Ends} {f:Flow} {s':Shared} (h:SP (X.wish E) pins D f s'):SP X pins D f s':=by
  cases f with
  | next=>obtain ⟨σ',H',I,q⟩:=h; exact ⟨σ',H',I.unwish,q⟩
  | brk=>obtain ⟨σ',H',I,q⟩:=h; exact ⟨σ',H',I.unwish,q⟩
  | cont=>obtain ⟨σ',H',I,q⟩:=h; exact ⟨σ',H',I.unwish,q⟩
  | ret u=>obtain ⟨v,σ',H',I,r,q⟩:=h; exact ⟨v,σ',H',I.unwish,r,q⟩
theorem PSs.nox {st:List Stmt} {t:TS} (h:PSs X.nox st t):PSs X st t:=fun pins s σ H D I hw =>
  wpAny_mono (h pins s σ H D (I.wish _) hw) (fun _ _ q=>q.unwish) fun _ _ z=>False.elim z
end
section
variable {X:Cx} {st:Stmt} {rest:List Stmt} {t u:TS} {e:Expr} {te:TE} {pos:Pos}
def tNext:TS:=fun D σ H=>D.nx σ H
def tSeq (t u:TS):TS:=fun D σ H=>t { D with nx:=u D } σ H
theorem pss_nil:PSs X [] tNext:=fun _ _ σ H _ I h=>wpAny_execs_nil ⟨σ,H,I,h⟩
theorem pss_cons (h1:PS X st t) (h2:PSs X rest u):PSs X (st :: rest) (tSeq t u):=by
  intro pins s σ H D I h
  refine wpAny_execs_cons (thn (h1 pins s σ H { D with nx:=u D } I h) fun f s1 q=>?_)
  cases f with
  | next =>
    obtain ⟨σ',H',I',q⟩:=q
    exact h2 pins s1 σ' H' D I' q
  | ret v=>exact q
  | brk=>exact q
  | cont=>exact q
theorem pss_one (h1:PS X st t):PSs X [st] t:=by
  intro pins s σ H D I h
  refine wpAny_execs_cons (thn (h1 pins s σ H D I h) fun f s1 q=>?_)
  cases f with
  | next=>exact wpAny_execs_nil q
  | ret v=>exact q
  | brk=>exact q
  | cont=>exact q
theorem Inv.quiet {pins:List (Addr × Obj)} {σ:St} {H:Hp} {s:Shared} (I:Inv X pins σ H s):interactive X.env=false:=by simp [interactive,I.ok.kind]
def tDrop (te:TE):TS:=fun D σ H=>te σ H fun _ H1=>D.nx σ H1
theorem ps_expr (he:PE X e te) (hs:swapsWith e none pos.line X.env=pure false:=by rfl):PS X (.Expr e pos) (tDrop te):=by
  intro pins s σ H D I h
  exact wpAny_Expr_any (thn (he pins s σ H _ I h) fun v s1 ⟨x,H1,I1,r1,q1⟩=>⟨σ,H1,I1,q1⟩) I.quiet hs
def tRet (te:TE):TS:=fun D σ H=>te σ H D.rt
theorem ps_ret (he:PE X e te):PS X (.Return (some e) pos) (tRet te):=by
  intro pins s σ H D I h
  exact wpAny_Return_some (thn (he pins s σ H _ I h) fun v s1 ⟨x,H1,I1,r1,q1⟩=>⟨x,σ,H1,I1,r1,q1⟩)
def tIfS (c:TT) (t u:TS):TS:=fun D σ H=>c σ H fun b H1=>if b=true then t D σ H1 else u D σ H1
theorem ps_if {c:Expr} {a b:List Stmt} {tc:TT} (hc:PT X c tc) (ha:PSs X a t) (hb:PSs X b u):PS X (.If c a b pos) (tIfS tc t u):=by
  intro pins s σ H D I h
  refine wpAny_If (thn (hc pins s σ H _ I h) fun d s1 ⟨H1,I1,q1⟩=>?_)
  cases d with
  | true=>exact ha pins s1 σ H1 D I1 q1
  | false=>exact hb pins s1 σ H1 D I1 q1
end
abbrev TG:=V→St→Hp→(St→Hp→Prop)→Prop
abbrev TGs:=List V→St→Hp→(St→Hp→Prop)→Prop
def PG (X:Cx) (target:Expr) (t:TG):Prop :=
  ∀ (pins:List (Addr × Obj)) (s:Shared) (σ:St) (H:Hp) (v:V) (u:Value) (Q:St→Hp→Prop),Inv X pins σ H s→RelV v u→t v σ H Q →
    wpAny (model X.prog X.w) X.A (assign target X.env u) (fun _ s' => ∃ σ' H',Inv X pins σ' H' s'∧Q σ' H') X.xe s
def PGs (X:Cx) (ts:List Expr) (t:TGs):Prop :=
  ∀ (pins:List (Addr × Obj)) (s:Shared) (σ:St) (H:Hp) (vs:List V) (us:List Value) (Q:St→Hp→Prop),Inv X pins σ H s→Vals vs us→t vs σ H Q →
    wpAny (model X.prog X.w) X.A (assignInOrder ((assignEach ts X.env).map (·.2)) us) (fun _ s' => ∃ σ' H',Inv X pins σ' H' s'∧Q σ' H') X.xe s
abbrev TSet:=V→V→V→Hp→(Hp→Prop)→Prop
def PSet (X:Cx) (t:TSet):Prop :=
  ∀ (pins:List (Addr × Obj)) (s:Shared) (σ:St) (H:Hp) (o i v:V) (ov iv u:Value) (Q:Hp→Prop),Inv X pins σ H s→RelV o ov→RelV i iv→RelV v u→t o i v H Q →
    wpAny (model X.prog X.w) X.A (setItem ov iv u) (fun _ s' => ∃ H',Inv X pins σ H' s'∧Q H') X.xe s
abbrev TIp:=V→V→Hp→VK→Prop
def PIp (X:Cx) (op:Operator) (t:TIp):Prop :=
  ∀ (pins:List (Addr × Obj)) (s:Shared) (σ:St) (H:Hp) (x y:V) (v u:Value) (Q:VK),Inv X pins σ H s→RelV x v→RelV y u→t x y H Q →
    wpAny (model X.prog X.w) X.A (inplaceOp op v u) (EP X pins σ Q) X.xe s
section
variable {X:Cx} {pos:Pos}
def gName (i:Nat):TG:=fun v σ H Q=>Q (σ.set i (some v)) H
theorem pg_name {i:Nat} {x:Str} (hN:X.N.Nodup) (hi:X.N[i]?=some x) (hx:Loc X.env.scope x) (hf:X.fn x=true ∨ X.env.scope.names.lookup x=some .local:=by first | exact .inl rfl | exact .inr rfl | assumption):PG X (.Name x pos) (gName i):=by
  intro pins s σ H v u Q I r h
  exact wpAny_assign_Name (store_ok I hN hi hx r (fun s' I'=>⟨_,H,I',h⟩) hf)
def gNil:TGs:=fun vs σ H Q=>vs=[]∧Q σ H
def gCons (t:TG) (u:TGs):TGs:=fun vs σ H Q => ∃ v r,vs=v :: r∧t v σ H fun σ' H'=>u r σ' H' Q
theorem pgs_nil:PGs X [] gNil:=by
  intro pins s σ H vs us Q I r h
  obtain ⟨e,h⟩:=h
  subst e
  cases r
  exact assignInOrder_nil ⟨σ,H,I,h⟩
theorem pgs_cons {e:Expr} {es:List Expr} {t:TG} {u:TGs} (h1:PG X e t) (h2:PGs X es u)
    (hs:(assignEach (e :: es) X.env).map (·.2)=assign e X.env :: (assignEach es X.env).map (·.2):=by rfl):PGs X (e :: es) (gCons t u):=by
  intro pins s σ H vs us Q I r h
  obtain ⟨v,vr,e1,h⟩:=h
  subst e1
  cases r with
  | cons r rr =>
    rw [hs]
    refine assignInOrder_cons (thn (h1 pins s σ H _ _ _ I r h) fun _ s1 ⟨σ1,H1,I1,q1⟩=>?_)
    exact h2 pins s1 σ1 H1 _ _ Q I1 rr q1
def gTup (K:PySem.W.Frag) (n:Nat) (t:TGs):TG:=fun v σ H Q => ∃ a xs,v = .ref a∧SqT K H a xs∧xs.length=n∧t xs σ H Q
theorem pg_tup {es:List Expr} {k:Nat} {t:TGs} {n:Nat} (hc:X.calm=true) (h:PGs X es t)
    (hn:(assignEach es X.env).length=n:=by rfl) (hst:(assignEach es X.env).findIdx? (·.1)=none:=by rfl):PG X (.Tuple es k pos) (gTup X.K n t):=by
  intro pins s σ H v u Q I r hw
  obtain ⟨a,xs,e1,hq,hl,hw⟩:=hw
  subst e1
  cases r
  obtain ⟨its,rv,ht,hz⟩:=I.tuple hq
  refine assign_Tuple_tuple (I.ok.hd hc) ht (by simp [hn, ← hl,rv.length]) hst fun h' hx=>?_
  have I1:Inv X pins σ H { s with heap:=h' }:=I.kept (t':=s.toks) fun b o e=>hx b o (Nat.ne_of_lt (Heap.lt_size e)) e
  exact h pins _ σ H xs _ Q I1 (by simpa using rv) hw
def gSub (to ti:TE) (t:TSet):TG:=fun v σ H Q=>to σ H fun o H1=>ti σ H1 fun i H2=>t o i v H2 fun H3=>Q σ H3
theorem pg_sub {o i:Expr} {to ti:TE} {t:TSet} (ho:PE X o to) (hi:PE X i ti) (hs:PSet X t)
    (ha:∀ v,assign (.Subscript o i pos) X.env v=(do
      let ov ← holding [v] (eval o X.env)
      let iv ← holding [v,ov] (eval i X.env)
      standAt pos
      holding [v,ov,iv] (setItem ov iv v)
      release [v,ov,iv] []):=by intro _; rfl):PG X (.Subscript o i pos) (gSub to ti t):=by
  intro pins s σ H v u Q I r h
  rw [ha]
  refine wpAny_bind (wpAny_holding (thn (ho pins s σ H _ I h) fun ov s1 ⟨x,H1,I1,r1,q1⟩=>?_))
  refine wpAny_bind (wpAny_holding (thn (hi pins s1 σ H1 _ I1 q1) fun iv s2 ⟨y,H2,I2,r2,q2⟩=>?_))
  refine wpAny_bind (wpAny_standAt (wpAny_bind (wpAny_holding (thn (hs pins s2 σ H2 x y v ov iv u _ I2 r1 r2 r q2) fun _ s3 ⟨H3,I3,q3⟩=>?_))))
  exact wpAny_release ⟨σ,H3,I3,q3⟩
def tAsg (te:TE) (g:TG):TS:=fun D σ H=>te σ H fun x H1=>g x σ H1 D.nx
theorem ps_asg {tg e:Expr} {te:TE} {g:TG} (he:PE X e te) (hg:PG X tg g) (hs:swapsWithSole [tg] e pos.line X.env=pure false:=by rfl) (hw:swappedStores [tg] e X.env=pure none:=by rfl)
    (h1:(assignEach [tg] X.env).map (·.2)=[assign tg X.env]:=by rfl):PS X (.Assign [tg] e pos) (tAsg te g):=by
  intro pins s σ H D I h
  refine wpAny_Assign_stores (thn (he pins s σ H _ I h) fun v s1 ⟨x,H1,I1,r1,q1⟩=>?_) hs hw
  rw [h1]
  exact thn (hg pins s1 σ H1 x v _ I1 r1 q1) fun _ s2 q=>q
theorem ps_set {i:Nat} {x:Str} {e:Expr} {te:TE} {pos':Pos} (hN:X.N.Nodup) (hi:X.N[i]?=some x) (hx:Loc X.env.scope x) (he:PE X e te) (hs:swapsWith e (some (.Name x pos')) pos.line X.env=pure false:=by rfl) (hf:X.fn x=true ∨ X.env.scope.names.lookup x=some .local:=by first | exact .inl rfl | exact .inr rfl | assumption) :
    PS X (.Assign [.Name x pos'] e pos) (tAsg te (gName i)):=by
  intro pins s σ H D I h
  refine wpAny_Assign_Name (thn (he pins s σ H _ I h) fun v s1 ⟨y,H1,I1,r1,q1⟩=>?_) hs
  exact store_ok I1 hN hi hx r1 (fun s2 I2=>⟨_,H1,I2,q1⟩) hf
def tPar (i j:Nat) (ta:TA):TS:=fun D σ H=>ta σ H fun vs H1 => ∃ v w,vs=[v,w]∧D.nx ((σ.set i (some v)).set j (some w)) H1
theorem ps_par {i j:Nat} {x y:Str} {a b:Expr} {ta:TA} {px py pt:Pos} {kt k2 pt2} (hc:X.calm=true) (hN:X.N.Nodup) (hi:X.N[i]?=some x) (hj:X.N[j]?=some y) (hij:i ≠ j)
    (hx:X.env.scope.names.lookup x=some .local) (hy:X.env.scope.names.lookup y=some .local) (ha:PA X [a,b] ta)
    (hw:swappedStores [.Tuple [.Name x px, .Name y py] kt pt] (.Tuple [a,b] k2 pt2) X.env=pure (some [x,y]))
    (hs:swapsWithSole [.Tuple [.Name x px, .Name y py] kt pt] (.Tuple [a,b] k2 pt2) pos.line X.env=pure false:=by rfl) :
    PS X (.Assign [.Tuple [.Name x px, .Name y py] kt pt] (.Tuple [a,b] k2 pt2) pos) (tPar i j ta):=by
  intro pins s σ H D I h
  rw [exec_Assign_arm]
  refine wpAny_bind (wpAny_standAt ?_)
  rw [hs]
  refine wpAny_bind (wpAny_pure ?_)
  rw [if_neg (by decide)]
  refine wpAny_bind (Tuple_ (thn (ha _ pins s σ H _ I h) fun us s1 ⟨vs,H1,I1,r1,q1⟩=>?_))
  obtain ⟨v,w,e1,q1⟩:=q1
  subst e1
  obtain ⟨u1,u2,rfl,rv,rw'⟩:∃ u1 u2,us=[u1,u2]∧RelV v u1∧RelV w u2:=by
    cases r1 with
    | cons p q =>
      cases q with
      | cons p' q' =>
        cases q'
        exact ⟨_,_,rfl,p,p'⟩
  refine wpAny_newObj_type ?_ (by show 2 ≤ sizeLine; decide)
  have I2:Inv X pins σ H1 { s1 with heap:=s1.heap.push { cls := .type "tuple",data := .seq [u1,u2].toArray } }:=I1.kept (t':=s1.toks) fun b o e=>Heap.get?_push_of_some _ e
  rw [hw]
  refine wpAny_bind (wpAny_pure ?_)
  show wpAny (model X.prog X.w) X.A (do rule "assign.swapped-stores"; let items ← unpackItems (.ref s1.heap.objs.size) 2 none; assignInOrder [fun v=>bindName X.env y v,fun v=>bindName X.env x v] items.reverse; pure Flow.next) _ _ _
  refine wpAny_bind (wpAny_rule (wpAny_bind (unpackItems_tuple (items := #[u1,u2]) (I.ok.hd hc) (IsTup.new s1.heap _) fun h' hx'=>?_)))
  have I3:=I2.kept (h':=h') (t':=s1.toks) fun b o e=>hx' b o (Nat.ne_of_lt (Heap.lt_size e)) e
  show wpAny _ _ (assignInOrder [fun v=>bindName X.env y v,fun v=>bindName X.env x v] [u2,u1] >>= fun _=>pure Flow.next) _ _ _
  refine wpAny_bind (assignInOrder_cons (wpAny_bindName (store_ok I3 hN hj (.inl hy) rw' (fun s2 I4=>?_) (.inr hy))))
  refine assignInOrder_cons (wpAny_bindName (store_ok I4 hN hi (.inl hx) rv (fun s3 I5=>assignInOrder_nil (wpAny_pure ?_)) (.inr hx)))
  rw [List.set_comm _ _ (Ne.symm hij)] at I5
  exact ⟨_,H1,I5,q1⟩
def tAugS (to ti te:TE) (tget:V→V→Hp→VK→Prop) (tip:TIp) (tset:TSet):TS:=fun D σ H=>to σ H fun o H1=>ti σ H1 fun i H2=>tget o i H2 fun x H3=>te σ H3 fun y H4=>tip x y H4 fun z H5=>tset o i z H5 fun H6=>D.nx σ H6
def PGet (X:Cx) (t:V→V→Hp→VK→Prop):Prop :=
  ∀ (pins:List (Addr × Obj)) (s:Shared) (σ:St) (H:Hp) (o i:V) (ov iv:Value) (Q:VK),Inv X pins σ H s→RelV o ov→RelV i iv→t o i H Q →
    wpAny (model X.prog X.w) X.A (getItem ov iv) (EP X pins σ Q) X.xe s
theorem ps_augS {o i e:Expr} {to ti te:TE} {tget:V→V→Hp→VK→Prop} {tip:TIp} {tset:TSet} {op:Operator} {tpos:Pos} (ho:PE X o to) (hi:PE X i ti) (hg:PGet X tget) (he:PE X e te) (hp:PIp X op tip) (hs:PSet X tset)
    (ha:∀ ov iv new,augStore i ov iv new=(do holding [new,ov,iv] (setItem ov iv new); release [new,ov,iv] []; pure .next):=by intros; rfl):PS X (.AugAssign (.Subscript o i tpos) op e pos) (tAugS to ti te tget tip tset):=by
  intro pins s σ H D I h
  refine wpAny_AugAssign_SubscriptAny (thn (ho pins s σ H _ I h) fun ov s1 ⟨x1,H1,I1,r1,q1⟩=>?_) ha
  refine thn (hi pins s1 σ H1 _ I1 q1) fun iv s2 ⟨x2,H2,I2,r2,q2⟩=>?_
  refine thn (hg pins s2 σ H2 x1 x2 ov iv _ I2 r1 r2 q2) fun old s3 ⟨x3,H3,I3,r3,q3⟩=>?_
  refine thn (he pins s3 σ H3 _ I3 q3) fun v s4 ⟨x4,H4,I4,r4,q4⟩=>?_
  refine thn (hp pins s4 σ H4 x3 x4 old v _ I4 r3 r4 q4) fun new s5 ⟨x5,H5,I5,r5,q5⟩=>?_
  exact thn (hs pins s5 σ H5 x1 x2 x5 ov iv new _ I5 r1 r2 r5 q5) fun _ s6 ⟨H6,I6,q6⟩=>⟨σ,H6,I6,q6⟩
def ipI (f:Int→Int→Int):TIp:=fun x y H Q => ∃ i j,x = .int i∧y = .int j∧Q (.int (f i j)) H
theorem ip_add:PIp X .Add (ipI fun i j=>i + j):=by
  intro pins s σ H x y v u Q I r1 r2 h
  obtain ⟨i,j,e1,e2,q⟩:=h
  subst e1; subst e2
  obtain ⟨t,rfl⟩:=r1
  obtain ⟨t',rfl⟩:=r2
  exact iadd_int ⟨.int _,H,I.tok _,⟨_,rfl⟩,q⟩
theorem ip_sub:PIp X .Sub (ipI fun i j=>i - j):=by
  intro pins s σ H x y v u Q I r1 r2 h
  obtain ⟨i,j,e1,e2,q⟩:=h
  subst e1; subst e2
  obtain ⟨t,rfl⟩:=r1
  obtain ⟨t',rfl⟩:=r2
  exact isub_int ⟨.int _,H,I.tok _,⟨_,rfl⟩,q⟩
end
section
variable {X:Cx} {pos:Pos}
def tWhile (c:TT) (tb:TS):TS:=fun D σ H => ∃ W:Nat→St→Hp→Prop,(∃ m,W m σ H)∧∀ m σ H,W m σ H →
  c σ H fun b H1=>if b=true then ∃ N:St→Hp→Prop,(∀ σ' H',N σ' H'→∃ m',m' < m∧W m' σ' H')∧tb { D with nx:=N,ct:=N,bk:=D.nx } σ H1 else D.nx σ H1
theorem ps_while {c:Expr} {body:List Stmt} {tc:TT} {tb:TS} (hp:PassesOwn (model X.prog X.w) X.A X.env X.xe) (hc:PT X c tc) (hb:PSs X body tb):PS X (.While c body [] pos) (tWhile tc tb):=by
  intro pins s σ H D I h
  obtain ⟨W,⟨m0,w0⟩,turn⟩:=h
  refine wpAny_While (codeAny_whileLoop (fun n s' => ∃ σ' H',Inv X pins σ' H' s'∧W n σ' H') ?_ m0 ⟨σ,H,I,w0⟩)
  rintro n s1 ⟨σ1,H1,I1,w1⟩
  refine wpAny_passesOwn hp (thn (hc pins s1 σ1 H1 _ I1 (turn n σ1 H1 w1)) fun b s2 ⟨H2,I2,q2⟩=>?_)
  cases b with
  | true =>
    obtain ⟨N,hN,q2⟩:=q2
    rw [if_pos rfl]
    refine wpAny_passesOwn hp (thn (hb pins s2 σ1 H2 _ I2 q2) fun f s3 q3=>?_)
    cases f with
    | next =>
      obtain ⟨σ3,H3,I3,n3⟩:=q3
      obtain ⟨m',hm,w3⟩:=hN σ3 H3 n3
      exact ⟨m',hm,σ3,H3,I3,w3⟩
    | cont =>
      obtain ⟨σ3,H3,I3,n3⟩:=q3
      obtain ⟨m',hm,w3⟩:=hN σ3 H3 n3
      exact ⟨m',hm,σ3,H3,I3,w3⟩
    | brk=>exact q3
    | ret v=>exact q3
  | false =>
    rw [if_neg Bool.false_ne_true]
    exact wpAny_execs_nil ⟨σ1,H2,I2,q2⟩
end
structure It where
  go:Nat→Hp→Prop
  yld:Nat→Hp→V→Hp→Prop
  stop:Nat→Hp→Prop
def FpOk (X:Cx) (pins:List (Addr × Obj)) (H:Hp) (b:Addr):Prop :=
  H b=none∧b ≠ X.env.locals∧b ∉ X.fs∧(b ∈ X.ex ∨ X.s₀.heap.objs.size ≤ b)∧(∀ x c,X.env.cells.lookup x=some c→c ≠ b)∧∀ p ∈ X.pn ++ pins,p.1 ≠ b
theorem Inv.fpOk {X:Cx} {pins:List (Addr × Obj)} {σ:St} {H H':Hp} {s:Shared} {b:Addr} (I:Inv X pins σ H s) (hb:s.heap.objs.size ≤ b) (hn:H' b=none):FpOk X pins H' b:=by
  refine ⟨hn,Nat.ne_of_gt (Nat.lt_of_lt_of_le I.lt hb),I.nofs hb, .inr (Nat.le_trans I.sz hb),fun x c e z=>?_,fun p hp z=>?_⟩
  · obtain ⟨v,q⟩:=I.cell x c e
    exact absurd (Nat.lt_of_lt_of_le q.lt (by rw [z]; exact hb)) (Nat.lt_irrefl _)
  · exact absurd (Nat.lt_of_lt_of_le (Heap.lt_size (I.pin p hp).1) (by rw [z]; exact hb)) (Nat.lt_irrefl _)
structure Turn (P:Program) (w:World) (K:PySem.W.Frag) (tg:Expr) (J:It) (fp:List Addr) (it:Addr) (tn:Nat→Heap→Prop):Prop where
  mem:it ∈ fp
  obj:∀ i h,tn i h→∀ b ∈ fp, ∃ o,h.get? b=some o∧∀ v,o.data ≠ .cell v
  keep:∀ i h h',tn i h→(∀ b ∈ fp, ∀ o,h.get? b=some o→h'.get? b=some o)→tn i h'
  item:∀ (X:Cx),X.prog=P→X.w=w→X.K=K→X.calm=true→∀ (i:Nat) (pins:List (Addr × Obj)) (s:Shared) (σ:St) (H:Hp) (E:Value→Shared→Prop),Inv X pins σ H s→(∀ b ∈ fp,FpOk X pins H b)→tn i s.heap→J.go i H →
    wpAny (model P w) X.A (pyNext (.ref it)) (fun r s1 => ∃ u,r=some u ∧
      wpAny (model P w) X.A (letOwnedTupleGo tg (.ref it) u) (fun _ s2 => ∃ x H',Inv X pins σ H' s2∧RelV x u∧J.yld i H x H'∧tn (i + 1) s2.heap∧∀ b ∈ fp,H' b=none) E s1) E s
  done:∀ (X:Cx),X.prog=P→X.w=w→X.K=K→X.calm=true→∀ (i:Nat) (pins:List (Addr × Obj)) (s:Shared) (σ:St) (H:Hp) (E:Value→Shared→Prop),Inv X pins σ H s→(∀ b ∈ fp,FpOk X pins H b)→tn i s.heap→J.stop i H →
    wpAny (model P w) X.A (pyNext (.ref it)) (fun r s1=>r=none∧Inv X pins σ H s1) E s
  self:∀ (A:Around) (i:Nat) (s:Shared) (Q:Value→Shared→Prop) (E:Value→Shared→Prop),tn i s.heap→Q (.ref it) s→wpAny (model P w) A (pyIter (.ref it)) Q E s
abbrev TI:=St→Hp→(It→Hp→Prop)→Prop
def PIE (X:Cx) (pins:List (Addr × Obj)) (σ:St) (tg:Expr) (R:It→Hp→Prop) (itv:Value) (s2:Shared):Prop :=
  ∃ (it:Addr) (fp:List Addr) (tn:Nat→Heap→Prop) (J:It) (H':Hp),itv = .ref it∧Inv X pins σ H' s2∧Turn X.prog X.w X.K tg J fp it tn∧tn 0 s2.heap∧(∀ b ∈ fp,FpOk X pins H' b)∧R J H'
def PI (X:Cx) (tg iter:Expr) (wi:TI):Prop :=
  ∀ (pins:List (Addr × Obj)) (s:Shared) (σ:St) (H:Hp) (R:It→Hp→Prop),Inv X pins σ H s→wi σ H R →
    wpAny (model X.prog X.w) X.A (eval iter X.env) (fun v s1=>wpAny (model X.prog X.w) X.A (pyIter v) (PIE X pins σ tg R) X.xe s1) X.xe s
theorem go_of {M:Model} {A:Around} {E:Value→Shared→Prop} {s:Shared} {tg:Expr} {it:Addr} {u:Value} {o:Obj} {n:String} {vs:Array Value} {Q:Unit→Shared→Prop} (ho:s.heap.get? it=some o) (hc:o.cls = .type n) (hd:o.data = .fields vs)
    (hn:["enumerate", "zip", "dict_itemiterator", "dict_reverseitemiterator", "odict_iterator", "itertools.zip_longest", "itertools.pairwise"].contains n=false) (hQ:Q () s):wpAny M A (letOwnedTupleGo tg (.ref it) u) Q E s:=by
  unfold letOwnedTupleGo
  cases tg <;> first
    | exact wpAny_pure hQ
    | (cases u <;> first
        | exact wpAny_pure hQ
        | (refine wpAny_bind (wpAny_load ho ?_)
           rw [hc,hd]
           show wpAny M A (if (["enumerate", "zip", "dict_itemiterator", "dict_reverseitemiterator", "odict_iterator", "itertools.zip_longest", "itertools.pairwise"].contains n && vs[0]? == some (rawInt _))=true then _ else _) Q E s
           rw [if_neg (by intro h; rw [hn,Bool.false_and] at h; cases h)]
           exact wpAny_pure hQ))
def Itl (K:PySem.W.Frag) (a:Addr):It :=
  ⟨fun i H => ∃ xs x,SqL K H a xs∧xs[i]?=some x,fun i H x H'=>H'=H∧∀ xs,SqL K H a xs→xs[i]?=some x,fun i H => ∃ xs,SqL K H a xs∧xs.length ≤ i⟩
def Itr (lo:Int) (n:Nat):It:=⟨fun i _=>i < n,fun i H x H'=>H'=H∧x = .int (lo + i),fun i _=>n ≤ i⟩
theorem turn_list {P:Program} {w:World} {K:PySem.W.Frag} {tg:Expr} (a it:Addr):Turn P w K tg (Itl K a) [it] it (fun i h=>h.IsListIter it a i) where
  mem:=by simp
  obj:=fun i h st b hb=>by
    have e:b=it:=by simpa using hb
    subst e
    obtain ⟨o,e,c,d⟩:=st
    exact ⟨o,e,fun v z=>by rw [d] at z; cases z⟩
  keep:=fun i h h' st k=>st.at fun o e=>k it (by simp) o e
  item:=by
    intro X hP hw hK hc i pins s σ H E I hf st hg
    subst hP hw hK
    obtain ⟨xs,x,hq,hx⟩:=hg
    obtain ⟨its,rv,p,hz⟩:=I.list hq
    obtain ⟨u,hu,ru⟩:=rv.get hx
    obtain ⟨f0,f1,f2,f3,f4,f5⟩:=hf it (by simp)
    refine wpAny_pyNext_list_item st p.isList (x:=u) (by simpa using hu) fun h' st' sb=>?_
    have I1:Inv X pins σ H { s with heap:=h' }:=I.turned (t':=s.toks) (fun b o hb e=>(sb.2 b hb).trans e) f0 f1 f3 f4 f5
    obtain ⟨o,e,c,d⟩:=id st'
    exact ⟨u,rfl,go_of (s:={ s with heap:=h' }) e c d (by decide) ⟨x,H,I1,ru,⟨rfl,fun ys hy=>by rw [I.list_inj hy hq]; exact hx⟩,st',fun b hb=>(hf b hb).1⟩⟩
  done:=by
    intro X hP hw hK hc i pins s σ H E I hf st hg
    subst hP hw hK
    obtain ⟨xs,hq,hx⟩:=hg
    obtain ⟨its,rv,p,hz⟩:=I.list hq
    obtain ⟨f0,f1,f2,f3,f4,f5⟩:=hf it (by simp)
    have hl:=rv.length
    exact wpAny_pyNext_list_end (I.ok.hd hc) st p.isList (by simp; omega) fun h' eb=>⟨rfl,I.turned (t':=s.toks) (fun b o hb e=>eb b o hb e) f0 f1 f3 f4 f5⟩
  self:=fun _ _ _ _ _ st h=>wpAny_pyIter_listiter st h
theorem turn_range {P:Program} {w:World} {K:PySem.W.Frag} {tg:Expr} (it:Addr) (lo:Int) (n:Nat):Turn P w K tg (Itr lo n) [it] it (fun i h=>IsRangeIter h it (lo + (i:Nat) * 1) ((n:Int) - (i:Nat)) 1) where
  mem:=by simp
  obj:=fun i h st b hb=>by
    have e:b=it:=by simpa using hb
    subst e
    exact ⟨_,st,fun v z=>by
      have z':Data.fields _=Data.cell v:=z
      cases z'⟩
  keep:=fun i h h' st k=>k it (by simp) _ st
  item:=by
    intro X hP hw hK hc i pins s σ H E I hf st hg
    subst hP hw hK
    obtain ⟨f0,f1,f2,f3,f4,f5⟩:=hf it (by simp)
    have W:=Walks.range (prog:=X.prog) (w:=X.w) (I.ok.hd hc) it lo 1 n
    refine W.item i s _ _ hg st fun v h' tk hv st' kk=>?_
    obtain ⟨t,rfl⟩:=hv
    have I1:Inv X pins σ H { s with heap:=h',toks:=tk }:=I.turned (fun b o hb e=>kk b o (by simpa using hb) e) f0 f1 f3 f4 f5
    refine ⟨_,rfl,go_of (s:={ s with heap:=h',toks:=tk }) (n := "range_iterator") st' rfl rfl (by decide) ⟨.int (lo + i),H,I1,⟨t,?_⟩,⟨rfl,rfl⟩,st',fun b hb=>(hf b hb).1⟩⟩
    rw [Int.mul_one]
  done:=by
    intro X hP hw hK hc i pins s σ H E I hf st hg
    subst hP hw hK
    obtain ⟨f0,f1,f2,f3,f4,f5⟩:=hf it (by simp)
    exact wpAny_pyNext_range_end (I.ok.hd hc) st (by have:n ≤ i:=hg; omega) fun h' eb=>⟨rfl,I.turned (t':=s.toks) (fun b o hb e=>eb b o hb e) f0 f1 f3 f4 f5⟩
  self:=fun _ _ _ _ _ st h=>wpAny_pyIter_rangeiter st h
end L2
namespace L2
open PySem PySem.Spec PyProof.Rows
section
variable {X:Cx} {tg:Expr}
def iList (K:PySem.W.Frag) (tl:TE):TI:=fun σ H R=>tl σ H fun x H1 => ∃ a,x = .ref a∧(∃ xs,SqL K H1 a xs)∧R (Itl K a) H1
theorem pi_list {l:Expr} {tl:TE} (hl:PE X l tl):PI X tg l (iList X.K tl):=by
  intro pins s σ H R I h
  refine thn (hl pins s σ H _ I h) fun v s1 ⟨x,H1,I1,r1,q1⟩=>?_
  obtain ⟨a,e,⟨xs,hq⟩,q⟩:=q1
  subst e
  cases r1
  obtain ⟨its,rv,p,hz⟩:=I1.list hq
  refine wpAny_pyIter_list p.isList ?_
  refine ⟨s1.heap.objs.size,[s1.heap.objs.size],_,_,H1,rfl,I1.kept (t':=s1.toks) fun b o e=>Heap.get?_push_of_some _ e,turn_list a _,⟨_,Heap.get?_push_size _ rfl,rfl,rfl⟩,fun b hb=>?_,q⟩
  have e:b=s1.heap.objs.size:=by simpa using hb
  subst e
  exact I1.fpOk (Nat.le_refl _) (I1.hok.fresh (Nat.le_refl _))
theorem range_it {pins:List (Addr × Obj)} {σ:St} {H:Hp} {s:Shared} {R:It→Hp→Prop} {E:Value→Shared→Prop} {lo hi:Int} {t u v:Tok} {tk:Nat} (I:Inv X pins σ H s) (h1 : -(2 ^ 62) ≤ lo) (h2:lo < 2 ^ 62) (h3 : -(2 ^ 62) ≤ hi) (h4:hi < 2 ^ 62)
    (q:R (Itr lo (hi - lo).toNat) H):wpAny (model X.prog X.w) X.A (pyIter (.ref s.heap.objs.size)) (PIE X pins σ tg R) E { s with heap:=s.heap.push { cls := .type "range",data := .fields #[.int lo t, .int hi u, .int 1 v] },toks:=tk }:=by
  refine wpAny_pyIter_range (IsRange.new ..) (small_one h1 h2 h3 h4) ?_
  have I1:Inv X pins σ H { s with heap:=s.heap.push { cls := .type "range",data := .fields #[.int lo t, .int hi u, .int 1 v] },toks:=tk }:=I.kept fun b o e=>Heap.get?_push_of_some _ e
  refine ⟨(s.heap.push { cls := .type "range",data := .fields #[.int lo t, .int hi u, .int 1 v] }).objs.size,[(s.heap.push { cls := .type "range",data := .fields #[.int lo t, .int hi u, .int 1 v] }).objs.size],_,_,H,rfl,
    I1.kept (t':=tk) fun b o e=>Heap.get?_push_of_some _ e,turn_range _ lo (hi - lo).toNat,?_,fun b hb=>?_,q⟩
  · have e1:lo + ((0:Nat):Int) * 1=lo:=by simp
    have e2:(((hi - lo).toNat:Nat):Int) - ((0:Nat):Int)=Builtin.Range.rangeSize lo hi 1:=by rw [rangeSize_one]; split <;> omega
    show IsRangeIter _ _ (lo + ((0:Nat):Int) * 1) ((((hi - lo).toNat:Nat):Int) - ((0:Nat):Int)) 1
    rw [e1,e2]
    exact Heap.get?_push_size _ rfl
  · have e:b=(s.heap.push { cls := .type "range",data := .fields #[.int lo t, .int hi u, .int 1 v] }).objs.size:=by simpa using hb
    subst e
    exact I1.fpOk (Nat.le_refl _) (I1.hok.fresh (Nat.le_refl _))
def iRng1 (ta:TA):TI:=fun σ H R=>ta σ H fun vs H1 => ∃ j:Int,vs=[.int j] ∧ -(2 ^ 62) ≤ j∧j < 2 ^ 62∧R (Itr 0 j.toNat) H1
def iRng2 (ta:TA):TI:=fun σ H R=>ta σ H fun vs H1 => ∃ i j:Int,vs=[.int i, .int j]∧(-(2 ^ 62) ≤ i∧i < 2 ^ 62 ∧ -(2 ^ 62) ≤ j∧j < 2 ^ 62)∧R (Itr i (j - i).toNat) H1
theorem pi_range1 {a:Expr} {ta:TA} {p pos:Pos} (hg:Gl X "range") (hm:X.mg "range"=none) (ha:PA X [a] ta) (hs:starEach [a] X.env=[(false,eval a X.env)]:=by rfl):PI X tg (.Call (.Name "range" p) [a] [] pos) (iRng1 ta):=by
  intro pins s σ H R I h
  refine Call_ (ld_blt I hg hm boot_range (PyProof.Rows.callWith_type1 (thn (ha pos pins s σ H _ I h) fun us s1 ⟨vs,H1,I1,r1,q1⟩=>?_) hs rfl))
  obtain ⟨j,e,q1,q2,q⟩:=q1
  subst e
  cases r1 with
  | cons r rr =>
    cases rr
    obtain ⟨t,rfl⟩:=r
    exact call_range_1 (range_it I1 (by omega) (by omega) q1 q2 (by simpa using q))
theorem pi_range2 {a b:Expr} {ta:TA} {p pos:Pos} (hg:Gl X "range") (hm:X.mg "range"=none) (ha:PA X [a,b] ta) (hs:starEach [a,b] X.env=[(false,eval a X.env),(false,eval b X.env)]:=by rfl) (hs2:starEach [b] X.env=[(false,eval b X.env)]:=by rfl) :
    PI X tg (.Call (.Name "range" p) [a,b] [] pos) (iRng2 ta):=by
  intro pins s σ H R I h
  refine Call_ (ld_blt I hg hm boot_range (PyProof.Rows.callWith_type1 (thn (ha pos pins s σ H _ I h) fun us s1 ⟨vs,H1,I1,r1,q1⟩=>?_) (by rw [hs,hs2]) (by rw [hs2]; rfl)))
  obtain ⟨i,j,e,⟨q1,q2,q3,q4⟩,q⟩:=q1
  subst e
  cases r1 with
  | cons r rr =>
    cases rr with
    | cons r' rr =>
      cases rr
      obtain ⟨t,rfl⟩:=r
      obtain ⟨t',rfl⟩:=r'
      exact call_range_2 (range_it I1 q1 q2 q3 q4 q)
def tFor (wi:TI) (g:TG) (tb:TS):TS:=fun D σ H=>wi σ H fun J H1 => ∃ W:Nat→Nat→St→Hp→Prop,(∃ m,W 0 m σ H1)∧∀ i m σ H,W i m σ H →
  (J.stop i H∧D.nx σ H) ∨ (J.go i H∧∃ N:St→Hp→Prop,(∀ σ' H',N σ' H'→∃ m',m' < m∧W (i + 1) m' σ' H')∧∀ x H',J.yld i H x H'→g x σ H' fun σ2 H2=>tb { D with nx:=N,ct:=N,bk:=D.nx } σ2 H2)
def pinsAt (fp:List Addr) (h:Heap):List (Addr × Obj):=fp.filterMap fun b=>(h.get? b).map fun o=>(b,o)
theorem mem_pinsAt {fp:List Addr} {h:Heap} {b:Addr} {o:Obj} (hb:b ∈ fp) (e:h.get? b=some o):(b,o) ∈ pinsAt fp h:=List.mem_filterMap.mpr ⟨b,hb,by rw [e]; rfl⟩
theorem of_pinsAt {fp:List Addr} {h:Heap} {p:Addr × Obj} (hp:p ∈ pinsAt fp h):p.1 ∈ fp∧h.get? p.1=some p.2:=by
  obtain ⟨b,hb,e⟩:=List.mem_filterMap.mp hp
  cases q:h.get? b with
  | none=>rw [q] at e; cases e
  | some o =>
    rw [q] at e
    have e':(b,o)=p:=Option.some.inj e
    subst e'
    exact ⟨hb,q⟩
theorem Inv.pinned {pins:List (Addr × Obj)} {σ:St} {H:Hp} {s:Shared} {fp:List Addr} (I:Inv X pins σ H s) (hf:∀ b ∈ fp,FpOk X pins H b) (ho:∀ b ∈ fp, ∃ o,s.heap.get? b=some o∧∀ v,o.data ≠ .cell v):Inv X (pins ++ pinsAt fp s.heap) σ H s :=
  I.pins_of fun p hp=>(List.mem_append.mp hp).elim (fun z=>I.pin p (List.mem_append_right _ z)) fun z=>by
    obtain ⟨hb,e⟩:=of_pinsAt z
    obtain ⟨f0,f1,f2,_⟩:=hf p.1 hb
    obtain ⟨o,e',d⟩:=ho p.1 hb
    rw [e] at e'; cases e'
    exact ⟨e,f0,f1,f2,d⟩
theorem Inv.unpinned {pins pl:List (Addr × Obj)} {σ:St} {H:Hp} {s:Shared} (I:Inv X (pins ++ pl) σ H s):Inv X pins σ H s:=I.pins_of fun p hp=>I.pin p (List.mem_append_right _ (List.mem_append_left _ hp))
theorem ps_for {iter:Expr} {body:List Stmt} {wi:TI} {g:TG} {tb:TS} {pos:Pos} (hp:PassesOwn (model X.prog X.w) X.A X.env X.xe) (hc:X.calm=true) (hi:PI X tg iter wi) (hg:PG X tg g) (hb:PSs X body tb)
    (hs:∀ x,foldedSetIterable iter X.env x=pure x:=by intro _; rfl):PS X (.For tg iter body [] pos) (tFor wi g tb):=by
  intro pins s σ H D I h
  refine wpAny_For (thn (hi pins s σ H _ I h) fun v s1 h1=>thn h1 fun itv s2 h2=>?_) hs
  obtain ⟨it,fp,tn,J,H2,e,I2,T,st2,f2,W,⟨m0,w0⟩,turn⟩:=h2
  subst e
  -- what stays true of the iterator's objects through the loop
  have stat:∀ {H':Hp},(∀ b ∈ fp,H' b=none)→∀ b ∈ fp,FpOk X pins H' b:=fun hn b hb=>⟨hn b hb,(f2 b hb).2⟩
  refine codeAny_forLoop_any (fun n s' => ∃ i σ' H',Inv X pins σ' H' s'∧tn i s'.heap∧(∀ b ∈ fp,H' b=none)∧W i n σ' H') ?_ m0 ⟨0,σ,H2,I2,st2,fun b hb=>(f2 b hb).1,w0⟩
  rintro n s3 ⟨i,σ3,H3,I3,st3,fr3,w3⟩
  rcases turn i n σ3 H3 w3 with ⟨stop,qn⟩ | ⟨go,N,hN,step⟩
  · refine wpAny_passesOwn hp (thn (T.done X rfl rfl rfl hc i pins s3 σ3 H3 X.xe I3 (stat fr3) st3 stop) fun r s4 ⟨hr,I4⟩=>?_)
    subst hr
    exact wpAny_execs_nil ⟨σ3,H3,I4,qn⟩
  · refine wpAny_passesOwn hp (thn (T.item X rfl rfl rfl hc i pins s3 σ3 H3 X.xe I3 (stat fr3) st3 go) fun r s4 ⟨u,hr,h4⟩=>?_)
    subst hr
    refine wpAny_passesOwn hp (thn h4 fun _ s5 ⟨x,H5,I5,r5,y5,st5,fr5⟩=>?_)
    have I5':=I5.pinned (stat fr5) (T.obj _ _ st5)
    refine wpAny_passesOwn hp (thn (hg _ s5 σ3 H5 x u _ I5' r5 (step x H5 y5)) fun _ s6 ⟨σ6,H6,I6,q6⟩=>?_)
    refine wpAny_passesOwn hp (thn (hb _ s6 σ6 H6 _ I6 q6) fun f s7 q7=>?_)
    have again:∀ {σ7:St} {H7:Hp},Inv X (pins ++ pinsAt fp s5.heap) σ7 H7 s7→N σ7 H7→∃ m,m < n∧∃ i σ' H',Inv X pins σ' H' s7∧tn i s7.heap∧(∀ b ∈ fp,H' b=none)∧W i m σ' H':=fun {σ7 H7} I7 n7=>by
      obtain ⟨m',hm,w7⟩:=hN σ7 H7 n7
      refine ⟨m',hm,i + 1,σ7,H7,I7.unpinned,T.keep _ _ _ st5 fun b hb o e=>(I7.pin (b,o) (List.mem_append_right _ (List.mem_append_right _ (mem_pinsAt hb e)))).1,fun b hb=>?_,w7⟩
      obtain ⟨o,e,d⟩:=T.obj _ _ st5 b hb
      exact (I7.pin (b,o) (List.mem_append_right _ (List.mem_append_right _ (mem_pinsAt hb e)))).2.1
    cases f with
    | next=>obtain ⟨σ7,H7,I7,n7⟩:=q7; exact again I7 n7
    | cont=>obtain ⟨σ7,H7,I7,n7⟩:=q7; exact again I7 n7
    | brk=>obtain ⟨σ7,H7,I7,q7⟩:=q7; exact ⟨σ7,H7,I7.unpinned,q7⟩
    | ret v=>obtain ⟨x7,σ7,H7,I7,r7,q7⟩:=q7; exact ⟨x7,σ7,H7,I7.unpinned,r7,q7⟩
end
end L2
namespace L2
open PySem PySem.Spec PyProof.Rows
abbrev R2:=V→V→Hp→VK→Prop
def OpR (X:Cx) (f:Value→Value→Sem Value) (r:R2):Prop :=
  ∀ (pins:List (Addr × Obj)) (s:Shared) (σ:St) (H:Hp) (x y:V) (v u:Value) (Q:VK),Inv X pins σ H s→RelV x v→RelV y u→r x y H Q →
    wpAny (model X.prog X.w) X.A (f v u) (EP X pins σ Q) X.xe s
def UnR (X:Cx) (f:Value→Sem Value) (r:V→Hp→VK→Prop):Prop :=
  ∀ (pins:List (Addr × Obj)) (s:Shared) (σ:St) (H:Hp) (x:V) (v:Value) (Q:VK),Inv X pins σ H s→RelV x v→r x H Q →
    wpAny (model X.prog X.w) X.A (f v) (EP X pins σ Q) X.xe s
def CallR (X:Cx) (f:Value) (r:List V→Hp→VK→Prop):Prop :=
  ∀ (pins:List (Addr × Obj)) (s:Shared) (σ:St) (H:Hp) (xs:List V) (us:List Value) (Q:VK),Inv X pins σ H s→Vals xs us→r xs H Q →
    wpAny (model X.prog X.w) X.A (call f us) (EP X pins σ Q) X.xe s
def TruR (X:Cx) (r:V→Hp→(Bool→Hp→Prop)→Prop):Prop :=
  ∀ (pins:List (Addr × Obj)) (s:Shared) (σ:St) (H:Hp) (x:V) (v:Value) (Q:Bool→Hp→Prop),Inv X pins σ H s→RelV x v→r x H Q →
    wpAny (model X.prog X.w) X.A (truthy v) (TP X pins σ Q) X.xe s
def tOp (r:R2) (ta tb:TE):TE:=fun σ H Q=>ta σ H fun x H1=>tb σ H1 fun y H2=>r x y H2 Q
def tUn (r:V→Hp→VK→Prop) (ta:TE):TE:=fun σ H Q=>ta σ H fun x H1=>r x H1 Q
def rI (C:Int→Int→Prop) (g:Int→Int→V):R2:=fun x y H Q => ∃ i j,x = .int i∧y = .int j∧C i j∧Q (g i j) H
def rI0 (g:Int→Int→V):R2:=fun x y H Q => ∃ i j,x = .int i∧y = .int j∧Q (g i j) H
def rU (g:Int→V):V→Hp→VK→Prop:=fun x H Q => ∃ i,x = .int i∧Q (g i) H
section
variable {X:Cx} {a b c:Expr} {ta tb tc:TE} {pos:Pos}
theorem binT (ha:PE X a ta) (hb:PE X b tb) {pins:List (Addr × Obj)} {s:Shared} {σ:St} {H:Hp} {R:V→V→Hp→Prop} (I:Inv X pins σ H s)
    (h:ta σ H fun x H1=>tb σ H1 fun y H2=>R x y H2) {Q:Value→Shared→Prop} {f:Value→Value→Sem Value}
    (hf:∀ v u s2 x y H2,Inv X pins σ H2 s2→RelV x v→RelV y u→R x y H2→wpAny (model X.prog X.w) X.A (f v u) Q X.xe s2) :
    wpAny (model X.prog X.w) X.A (eval a X.env) (fun v s₁=>wpAny (model X.prog X.w) X.A (eval b X.env) (fun u s₂=>wpAny (model X.prog X.w) X.A (f v u) Q X.xe s₂) X.xe s₁) X.xe s:=by
  refine thn (ha pins s σ H _ I h) fun v s1 ⟨x,H1,I1,r1,q1⟩=>?_
  refine thn (hb pins s1 σ H1 _ I1 q1) fun u s2 ⟨y,H2,I2,r2,q2⟩=>?_
  exact hf v u s2 x y H2 I2 r1 r2 q2
theorem pe_un {op:UnaryOp} {r:V→Hp→VK→Prop} (ho:UnR X (unaryOp op) r) (ha:PE X a ta):PE X (.UnaryOp op a pos) (tUn r ta):=by
  intro pins s σ H Q I h
  exact UnaryOp_ (thn (ha pins s σ H _ I h) fun v s1 ⟨x,H1,I1,r1,q1⟩=>ho pins s1 σ H1 x v Q I1 r1 q1)
theorem opI {f:Value→Value→Sem Value} {C:Int→Int→Prop} {g:Int→Int→Int}
    (rule:∀ (i j:Int) (t u:Tok) (s:Shared) (Q:Value→Shared→Prop) (E:Value→Shared→Prop),C i j→Q (.int (g i j) s.toks) { s with toks:=s.toks + 1 }→wpAny (model X.prog X.w) X.A (f (.int i t) (.int j u)) Q E s) :
    OpR X f (rI C fun i j => .int (g i j)):=by
  intro pins s σ H x y v u Q I rx ry h
  obtain ⟨i,j,rfl,rfl,hc,q⟩:=h
  obtain ⟨t,rfl⟩:=rx
  obtain ⟨t',rfl⟩:=ry
  exact rule i j t t' s _ _ hc ⟨.int (g i j),H,I.tok _,⟨_,rfl⟩,q⟩
theorem opI0 {f:Value→Value→Sem Value} {g:Int→Int→Int}
    (rule:∀ (i j:Int) (t u:Tok) (s:Shared) (Q:Value→Shared→Prop) (E:Value→Shared→Prop),Q (.int (g i j) s.toks) { s with toks:=s.toks + 1 }→wpAny (model X.prog X.w) X.A (f (.int i t) (.int j u)) Q E s) :
    OpR X f (rI0 fun i j => .int (g i j)):=by
  intro pins s σ H x y v u Q I rx ry h
  obtain ⟨i,j,rfl,rfl,q⟩:=h
  obtain ⟨t,rfl⟩:=rx
  obtain ⟨t',rfl⟩:=ry
  exact rule i j t t' s _ _ ⟨.int (g i j),H,I.tok _,⟨_,rfl⟩,q⟩
theorem opB0 {f:Value→Value→Sem Value} {g:Int→Int→Bool}
    (rule:∀ (i j:Int) (t u:Tok) (s:Shared) (Q:Value→Shared→Prop) (E:Value→Shared→Prop),Q (.bool (g i j)) s→wpAny (model X.prog X.w) X.A (f (.int i t) (.int j u)) Q E s) :
    OpR X f (rI0 fun i j => .bl (g i j)):=by
  intro pins s σ H x y v u Q I rx ry h
  obtain ⟨i,j,rfl,rfl,q⟩:=h
  obtain ⟨t,rfl⟩:=rx
  obtain ⟨t',rfl⟩:=ry
  exact rule i j t t' s _ _ ⟨.bl (g i j),H,I,rfl,q⟩
theorem op_add:OpR X (binaryOp .Add) (rI0 fun i j => .int (i + j)):=opI0 fun _ _ _ _ _ _ _ q=>add_int q
theorem op_sub:OpR X (binaryOp .Sub) (rI0 fun i j => .int (i - j)):=opI0 fun _ _ _ _ _ _ _ q=>sub_int q
theorem op_modN:OpR X (binaryOp .Mod) (rI (fun _ j=>j ≠ 0) fun i j => .int (i.fmod j)):=opI fun _ _ _ _ _ _ _ hc q=>mod_int' hc q
theorem unI {f:Value→Sem Value} {g:Int→Int}
    (rule:∀ (i:Int) (t:Tok) (s:Shared) (Q:Value→Shared→Prop) (E:Value→Shared→Prop),Q (.int (g i) s.toks) { s with toks:=s.toks + 1 }→wpAny (model X.prog X.w) X.A (f (.int i t)) Q E s) :
    UnR X f (rU fun i => .int (g i)):=by
  intro pins s σ H x v Q I rx h
  obtain ⟨i,rfl,q⟩:=h
  obtain ⟨t,rfl⟩:=rx
  exact rule i t s _ _ ⟨.int (g i),H,I.tok _,⟨_,rfl⟩,q⟩
theorem un_neg:UnR X (unaryOp .USub) (rU fun i => .int (-i)):=unI fun _ _ _ _ _ q=>neg_int q
end
def scal:V→V→Bool
  | .non, .non=>true | .non, .int _=>true | .int _, .non=>true | .non, .bl _=>true | .bl _, .non=>true | .non, .str _=>true | .str _, .non=>true
  | .int _, .int _=>true | .bl _, .bl _=>true | .str _, .str _=>true | .byt _, .byt _=>true
  | .int _, .str _=>true | .str _, .int _=>true | .bl _, .str _=>true | .str _, .bl _=>true
  | _,_=>false
def rEq:R2:=fun x y H Q=>scal x y=true∧Q (.bl (decide (x=y))) H
def rNe:R2:=fun x y H Q=>scal x y=true∧Q (.bl (!decide (x=y))) H
theorem dec_int {i j:Int}:decide (V.int i=V.int j)=(i == j):=by
  rw [Bool.eq_iff_iff]
  simp
theorem dec_bl {i j:Bool}:decide (V.bl i=V.bl j)=(i == j):=by
  rw [Bool.eq_iff_iff]
  simp
theorem dec_str {i j:Str}:decide (V.str i=V.str j)=(i == j):=by
  rw [Bool.eq_iff_iff]
  simp
theorem dec_byt {i j:Array UInt8}:decide (V.byt i=V.byt j)=(i.toList == j.toList):=by
  rw [Bool.eq_iff_iff]
  cases i
  cases j
  simp
section
variable {X:Cx} {a b c:Expr} {ta tb tc:TE} {pos:Pos}
theorem fin_bl {pins:List (Addr × Obj)} {σ:St} {H:Hp} {s:Shared} {Q:VK} {k k':Bool} (I:Inv X pins σ H s) (q:Q (.bl k) H) (e:k=k'):EP X pins σ Q (.bool k') s:=by
  subst e
  exact ⟨.bl k,H,I,rfl,q⟩
theorem op_eq:OpR X (compareOp .Eq) rEq:=by
  intro pins s σ H x y v u Q I rx ry h
  obtain ⟨hs,q⟩:=h
  cases x with
  | non =>
    cases rx
    cases y with
    | non=>cases ry; exact PySem.EqNone.eq_none_none (fin_bl I q (by simp))
    | bl j=>cases ry; exact PySem.EqNone.eq_none_bool (fin_bl I q (by simp))
    | int j=>obtain ⟨t',rfl⟩:=ry; exact PySem.EqNone.eq_none_int (fin_bl I q (by simp))
    | str j=>obtain ⟨t',rfl⟩:=ry; exact PySem.EqNone.eq_none_str (fin_bl I q (by simp))
    | _=>exact absurd (show false=true from hs) Bool.false_ne_true
  | bl i =>
    cases rx
    cases y with
    | non=>cases ry; exact PySem.EqNone.eq_bool_none (fin_bl I q (by simp))
    | bl j=>cases ry; exact eq_bool (fin_bl I q dec_bl)
    | str j=>obtain ⟨t',rfl⟩:=ry; exact PySem.EqMixed.eq_bool_str (fin_bl I q (by simp))
    | _=>exact absurd (show false=true from hs) Bool.false_ne_true
  | int i =>
    obtain ⟨t,rfl⟩:=rx
    cases y with
    | non=>cases ry; exact PySem.EqNone.eq_int_none (fin_bl I q (by simp))
    | int j=>obtain ⟨t',rfl⟩:=ry; exact eq_int (fin_bl I q dec_int)
    | str j=>obtain ⟨t',rfl⟩:=ry; exact PySem.EqMixed.eq_int_str (fin_bl I q (by simp))
    | _=>exact absurd (show false=true from hs) Bool.false_ne_true
  | str i =>
    obtain ⟨t,rfl⟩:=rx
    cases y with
    | non=>cases ry; exact PySem.EqNone.eq_str_none (fin_bl I q (by simp))
    | bl j=>cases ry; exact PySem.EqMixed.eq_str_bool (fin_bl I q (by simp))
    | int j=>obtain ⟨t',rfl⟩:=ry; exact PySem.EqMixed.eq_str_int (fin_bl I q (by simp))
    | str j=>obtain ⟨t',rfl⟩:=ry; exact eq_str (fin_bl I q dec_str)
    | _=>exact absurd (show false=true from hs) Bool.false_ne_true
  | byt i =>
    obtain ⟨t,rfl⟩:=rx
    cases y with
    | byt j=>obtain ⟨t',rfl⟩:=ry; exact PySem.W.eq_bytes (fin_bl I q dec_byt)
    | _=>exact absurd (show false=true from hs) Bool.false_ne_true
  | _=>cases y <;> exact absurd (show false=true from hs) Bool.false_ne_true
theorem op_ne:OpR X (compareOp .NotEq) rNe:=by
  intro pins s σ H x y v u Q I rx ry h
  obtain ⟨hs,q⟩:=h
  cases x with
  | non =>
    cases rx
    cases y with
    | non=>cases ry; exact PySem.EqNone.ne_none_none (fin_bl I q (by simp))
    | bl j=>cases ry; exact PySem.EqNone.ne_none_bool (fin_bl I q (by simp))
    | int j=>obtain ⟨t',rfl⟩:=ry; exact PySem.EqNone.ne_none_int (fin_bl I q (by simp))
    | str j=>obtain ⟨t',rfl⟩:=ry; exact PySem.EqNone.ne_none_str (fin_bl I q (by simp))
    | _=>exact absurd (show false=true from hs) Bool.false_ne_true
  | bl i =>
    cases rx
    cases y with
    | non=>cases ry; exact PySem.EqNone.ne_bool_none (fin_bl I q (by simp))
    | bl j=>cases ry; exact ne_bool (fin_bl I q (congrArg not dec_bl))
    | str j=>obtain ⟨t',rfl⟩:=ry; exact PySem.EqMixed.ne_bool_str (fin_bl I q (by simp))
    | _=>exact absurd (show false=true from hs) Bool.false_ne_true
  | int i =>
    obtain ⟨t,rfl⟩:=rx
    cases y with
    | non=>cases ry; exact PySem.EqNone.ne_int_none (fin_bl I q (by simp))
    | int j=>obtain ⟨t',rfl⟩:=ry; exact ne_int (fin_bl I q (congrArg not dec_int))
    | str j=>obtain ⟨t',rfl⟩:=ry; exact PySem.EqMixed.ne_int_str (fin_bl I q (by simp))
    | _=>exact absurd (show false=true from hs) Bool.false_ne_true
  | str i =>
    obtain ⟨t,rfl⟩:=rx
    cases y with
    | non=>cases ry; exact PySem.EqNone.ne_str_none (fin_bl I q (by simp))
    | bl j=>cases ry; exact PySem.EqMixed.ne_str_bool (fin_bl I q (by simp))
    | int j=>obtain ⟨t',rfl⟩:=ry; exact PySem.EqMixed.ne_str_int (fin_bl I q (by simp))
    | str j=>obtain ⟨t',rfl⟩:=ry; exact ne_str (fin_bl I q (congrArg not dec_str))
    | _=>exact absurd (show false=true from hs) Bool.false_ne_true
  | byt i =>
    obtain ⟨t,rfl⟩:=rx
    cases y with
    | byt j=>obtain ⟨t',rfl⟩:=ry; exact PySem.W.ne_bytes (fin_bl I q (congrArg not dec_byt))
    | _=>exact absurd (show false=true from hs) Bool.false_ne_true
  | _=>cases y <;> exact absurd (show false=true from hs) Bool.false_ne_true
theorem op_lt:OpR X (compareOp .Lt) (rI0 fun i j => .bl (decide (i < j))):=opB0 fun _ _ _ _ _ _ _ q=>lt_int q
theorem op_le:OpR X (compareOp .LtE) (rI0 fun i j => .bl (decide (i ≤ j))):=opB0 fun _ _ _ _ _ _ _ q=>le_int q
theorem op_gt:OpR X (compareOp .Gt) (rI0 fun i j => .bl (decide (j < i))):=opB0 fun _ _ _ _ _ _ _ q=>gt_int q
theorem op_ge:OpR X (compareOp .GtE) (rI0 fun i j => .bl (decide (j ≤ i))):=opB0 fun _ _ _ _ _ _ _ q=>ge_int q
theorem nomark (b:Expr) {op:CmpOp} (h:op ≠ .In:=by decide) (h2:op ≠ .NotIn:=by decide):behindInMarks op b=false:=by
  have e1:(op == CmpOp.In)=false:=by cases op <;> first | rfl | exact absurd rfl h
  have e2:(op == CmpOp.NotIn)=false:=by cases op <;> first | rfl | exact absurd rfl h2
  cases b <;> simp [behindInMarks,e1,e2]
def tTest (t:TE):TT:=fun σ H Q=>t σ H fun x H' => ∃ k,x = .bl k∧Q k H'
def tChain (r r':R2) (ta tb tc:TE):TE:=fun σ H Q=>ta σ H fun x H1=>tb σ H1 fun y H2=>r x y H2 fun z H3 => ∃ k,z = .bl k ∧
  (if k=true then tc σ H3 fun w' H4=>r' y w' H4 Q else Q (.bl false) H3)
theorem pt_chain {op op':CmpOp} {r r':R2} (ho:OpR X (compareOp op) r) (ho':OpR X (compareOp op') r') (ha:PE X a ta) (hb:PE X b tb) (hc:PE X c tc)
    (hm:lastMarks [op,op'] [b,c]=false:=by with_unfolding_all rfl):PT X (.Compare a [op,op'] [b,c] pos) (tTest (tChain r r' ta tb tc)):=by
  intro pins s σ H Q I h
  refine isTrue_chain (thn (ha pins s σ H _ I h) fun v s1 ⟨x,H1,I1,r1,q1⟩=>test_link (thn (hb pins s1 σ H1 _ I1 q1) fun u s2 ⟨y,H2,I2,r2,q2⟩ =>
    thn (ho pins s2 σ H2 x y v u _ I2 r1 r2 q2) fun d s3 ⟨z,H3,I3,r3,k,e,q3⟩=>?_)) hm
  subst e
  cases r3
  refine wpAny_truthy_bool ?_
  cases k with
  | false =>
    obtain ⟨k',e',q'⟩:=q3
    cases e'
    exact ite_ff ⟨H3,I3,q'⟩
  | true =>
    refine ite_tt (test_last (thn (hc pins s3 σ H3 _ I3 q3) fun w' s4 ⟨z',H4,I4,r4,q4⟩=>thn (ho' pins s4 σ H4 y z' u w' _ I4 r2 r4 q4) fun d' s5 ⟨z2,H5,I5,r5,k2,e2,q5⟩=>?_))
    subst e2
    cases r5
    exact wpAny_truthy_bool ⟨H5,I5,q5⟩
def TruV (K:PySem.W.Frag) (x:V) (H:Hp) (k:Bool):Prop :=
  match x with
  | .non=>k=false
  | .bl b=>k=b
  | .int i=>k=(i != 0)
  | .str y=>y.length ≤ sizeLine∧k=((y.length:Int) != 0)
  | .byt y=>y.size ≤ sizeLine∧k=((y.size:Int) != 0)
  | .ref p=>(∃ xs,SqL K H p xs∧k = !xs.isEmpty) ∨ (∃ xs,SqT K H p xs∧k = !xs.isEmpty) ∨ ∃ kvs,H p=some (.dK kvs)∧k = !kvs.isEmpty
  | _=>False
theorem isEmpty_kv {κ:Type} {kvs:List (κ × V)} {vs:List (κ × Value)} (r:KV kvs vs):(!vs.isEmpty) = !kvs.isEmpty:=by
  cases r <;> rfl
theorem isEmpty_of {xs:List V} {its:List Value} (r:Vals xs its):(!its.toArray.isEmpty) = !xs.isEmpty:=by
  cases r <;> simp
theorem line63:(sizeLine:Nat) < 2 ^ 63:=by rw [sizeLine_eq]; decide
theorem tru_ok:TruR X (fun x H Q => ∃ k,TruV X.K x H k∧Q k H):=by
  intro pins s σ H x v Q I rx h
  obtain ⟨k,e,q⟩:=h
  have hl:=line63
  have hs:sizeLine=16777216:=sizeLine_eq
  cases x with
  | non =>
    cases rx
    have e':k=false:=e
    subst e'
    exact truthy_none ⟨H,I,q⟩
  | bl b =>
    cases rx
    have e':k=b:=e
    subst e'
    exact wpAny_truthy_bool ⟨H,I,q⟩
  | int i =>
    obtain ⟨t,rfl⟩:=rx
    have e':k=(i != 0):=e
    subst e'
    exact PySem.P.truthy_int ⟨H,I,q⟩
  | str y =>
    obtain ⟨t,rfl⟩:=rx
    obtain ⟨hy,e'⟩:y.length ≤ sizeLine∧k=((y.length:Int) != 0):=e
    subst e'
    exact PySem.P.truthy_str (by omega) ⟨H,I.tok _,q⟩
  | byt y =>
    obtain ⟨t,rfl⟩:=rx
    obtain ⟨hy,e'⟩:y.size ≤ sizeLine∧k=((y.size:Int) != 0):=e
    subst e'
    exact PySem.W.truthy_bytes (by omega) ⟨H,I.tok _,q⟩
  | ref p =>
    cases rx
    have e':(∃ xs,SqL X.K H p xs∧k = !xs.isEmpty) ∨ (∃ xs,SqT X.K H p xs∧k = !xs.isEmpty) ∨ ∃ kvs,H p=some (.dK kvs)∧k = !kvs.isEmpty:=e
    rcases e' with ⟨xs,hx,e'⟩ | ⟨xs,hx,e'⟩ | ⟨kvs,hx,e'⟩
    · subst e'
      obtain ⟨its,r,pl,hz⟩:=I.list hx
      have hlen:=r.length
      exact wpAny_truthy_list pl.isList (by simp only [List.size_toArray]; omega) ⟨H,I.tok _,by rw [isEmpty_of r]; exact q⟩
    · subst e'
      obtain ⟨its,r,pl,hz⟩:=I.tuple hx
      have hlen:=r.length
      exact truthy_tuple pl (by simp only [List.size_toArray]; omega) ⟨H,I.tok _,by rw [isEmpty_of r]; exact q⟩
    · subst e'
      obtain ⟨hz,hS,vs,r,m⟩:kvs.length ≤ sizeLine∧(p == sysModules)=false∧∃ vs,KV kvs vs∧s.heap.DictOf (mixKind X.prog X.w) p vs:=I.hok p _ hx
      have hlen:kvs.length=vs.length:=Paired.length r
      exact wpAny_truthy_dict hS m (by omega) ⟨H,I.tok _,by rw [isEmpty_kv r]; exact q⟩
  | _=>exact (show False from e).elim
theorem pt_truth (ha:PE X a ta) (he:∀ whole,isTrue a X.env whole=(do let v ← whole; standAt a.pos; holding [v] (truthy v))) :
    PT X a (fun σ H Q=>ta σ H fun x H' => ∃ k,TruV X.K x H' k∧Q k H'):=by
  intro pins s σ H Q I h
  exact isTrue_plain (thn (ha pins s σ H _ I h) fun v s1 ⟨x,H1,I1,r1,q1⟩=>tru_ok pins s1 σ H1 x v Q I1 r1 q1) (he _)
theorem vals1 {x:V} {us:List Value} (r:Vals [x] us):∃ u,us=[u]∧RelV x u:=by
  cases r with
  | cons r1 r2=>cases r2; exact ⟨_,rfl,r1⟩
theorem vals2 {x y:V} {us:List Value} (r:Vals [x,y] us):∃ u w',us=[u,w']∧RelV x u∧RelV y w':=by
  cases r with
  | cons r1 r2 =>
    cases r2 with
    | cons r3 r4=>cases r4; exact ⟨_,_,rfl,r1,r3⟩
theorem call_abs:CallR X (.builtin "abs") (fun xs H Q => ∃ i,xs=[.int i]∧Q (.int (if i < 0 then -i else i)) H):=by
  intro pins s σ H xs us Q I r h
  obtain ⟨i,rfl,q⟩:=h
  obtain ⟨u,rfl,t,rfl⟩:=vals1 r
  exact call_abs_int fun u tk=>⟨.int (if i < 0 then -i else i),H,I.tok _,⟨_,rfl⟩,q⟩
theorem call_max2 (hc:X.calm=true):CallR X (.builtin "max") (fun xs H Q => ∃ i j,xs=[.int i, .int j]∧Q (.int (if j > i then j else i)) H):=by
  intro pins s σ H xs us Q I r h
  obtain ⟨i,j,rfl,q⟩:=h
  obtain ⟨u,w',rfl,⟨t,rfl⟩,⟨t',rfl⟩⟩:=vals2 r
  refine max_two_ints (I.ok.hd hc) fun h' tk k=>⟨_,H,I.kept k,?_,q⟩
  by_cases hj:j > i
  · rw [if_pos hj,if_pos hj]; exact ⟨_,rfl⟩
  · rw [if_neg hj,if_neg hj]; exact ⟨_,rfl⟩
end
end L2
namespace L2
open PySem PySem.Spec PyProof.Rows
structure ObjM (h:Heap) (x dx C:Addr) (mA:Str→Option Value):Prop where
  obj:h.get? x=some (PySem.W.instObj C dx)
  ns:h.Ns1 dx mA
  ne:dx ≠ x
theorem lookIn_ns {h:Heap} {dx:Addr} {mA:Str→Option Value} (n:h.Ns1 dx mA):∃ od,h.get? dx=some od∧∀ name,PySem.W.lookIn name od=some (mA name):=by
  obtain ⟨o,es,ep,ho,hd,hk,_,hm⟩:=n
  refine ⟨o,ho,fun name=>?_⟩
  have e:=hm name
  unfold nsFind findBy at e
  rw [← Array.find?_toList] at e
  unfold PySem.W.lookIn
  rw [hd]
  dsimp only
  split
  · rename_i y q
    rw [q] at e
    exact congrArg some e
  · rename_i q
    rw [q] at e
    have a:es.toList.any (·.refKey)=false:=by
      rw [List.any_eq_false]
      intro y hy
      obtain ⟨z,t,hkey⟩:=hk y (Array.mem_toList_iff.mp hy)
      simp [DictEntry.refKey,hkey]
    have a' : ¬ es.toList.any (·.refKey)=true:=by rw [a]; exact Bool.false_ne_true
    rw [if_neg a']
    exact congrArg some e
theorem ObjM.look {h:Heap} {x dx C:Addr} {mA:Str→Option Value} (I:ObjM h x dx C mA):∃ od,PySem.W.InstAt h x (PySem.W.instObj C dx) C (some od)∧∀ name,PySem.W.lookIn name od=some (mA name) :=
  let ⟨od,ho,hl⟩:=lookIn_ns I.ns
  ⟨od,⟨I.obj,rfl,rfl,ho⟩,hl⟩
section
variable {prog:Program} {w:World} {A:Around} {E:Value→Shared→Prop} {s:Shared} {K:PySem.W.Frag} {x dx C f:Addr} {mA:Str→Option Value} {name:Str} {v:Value}
theorem get_map {expr:Bool} {Q:Value→Shared→Prop} (X:K.In s.heap) (I:ObjM s.heap x dx C mA) (hg:PySem.W.plainGet K C name=true) (hh:PySem.W.hasDictIn K C=true)
    (ha:PySem.W.findIn K (.ref C) name=some none) (hv:mA name=some v) (hv':PySem.W.handedIn v=true) (h:Q v { s with toks:=s.toks + 1 }) :
    wpAny (model prog w) A (getAttr (.ref x) name expr) Q E s:=by
  obtain ⟨od,J,hl⟩:=I.look
  exact PySem.W.get_value X J (PySem.W.plainGet_of hg).1 (PySem.W.findObj_own hh ha rfl (by rw [hl,hv])) hv' h
end
theorem RelO.some_of {v:V} {o:Option Value} (r:RelO (some v) o):∃ u,o=some u∧RelV v u:=by
  cases o with
  | none=>exact (show False from r).elim
  | some u=>exact ⟨u,rfl,r⟩
structure Cls (K:PySem.W.Frag) (C:Addr):Prop where
  pg:PySem.W.plainGet K C Str.empty=true
  hd:PySem.W.hasDictIn K C=true
  po:PySem.W.plainOver K C=true
  sa:PySem.W.findIn K (.ref C) "__setattr__"=some (some (.builtin "object.__setattr__"))
structure Con (K:PySem.W.Frag) (C:Addr) (f:Str) (v:V) (u:Value):Prop where
  at_:PySem.W.findIn K (.ref C) f=some (some u)
  rel:RelV v u
  get:PySem.W.specialIn K u "__get__"=some none
  cp:PySem.W.copiedNames.contains f=false
structure Meth (K:PySem.W.Frag) (C:Addr) (m:Str) (f:Addr):Prop where
  at_:PySem.W.findIn K (.ref C) m=some (some (.ref f))
  fn:PySem.W.isFn K (.ref f)=true
  kp:PySem.W.keepIn K (.ref f)=true
section
variable {X:Cx} {pins:List (Addr × Obj)} {σ:St} {H:Hp} {s:Shared} {A:Around} {E:Value→Shared→Prop} {Q:Value→Shared→Prop} {c:Value} {b:Bool}
inductive TyOf (K:PySem.W.Frag) (H:Hp):V→Value→Prop where
  | non:TyOf K H .non (.type "NoneType")
  | bl (x:Bool):TyOf K H (.bl x) (.type "bool")
  | int (i:Int):TyOf K H (.int i) (.type "int")
  | str (x:Str):TyOf K H (.str x) (.type "str")
  | flt (x:UInt64):TyOf K H (.flt x) (.type "float")
  | lst {a:Addr} {xs:List V} (e:H a=some (.lst xs)):TyOf K H (.ref a) (.type "list")
  | frz {a:Addr} {o:Obj} {xs:List V} (e:H a=some (.frz o (.lst xs))):TyOf K H (.ref a) (.type "list")
  | tup {a:Addr} {xs:List V} (e:H a=some (.tup xs)):TyOf K H (.ref a) (.type "tuple")
  | dK {a:Addr} {kvs:List (Key × V)} (e:H a=some (.dK kvs)):TyOf K H (.ref a) (.type "dict")
  | dT {a:Addr} {kvs:List (List Key × V)} (e:H a=some (.dT kvs)):TyOf K H (.ref a) (.type "dict")
  | ins {a C dx:Addr} {fs:List (Str × V)} (e:H a=some (.ins C dx fs)) (cl:Cls K C) (ha:PySem.W.findIn K (.ref C) "__class__"=some (some (.builtin "object.__class__")))
      (hn:PySem.W.specialIn K (.builtin "object.__class__") "__get__"=some (some (.builtin "getset_descriptor.__get__"))) (htk:PySem.W.takesIn K (.builtin "object.__class__")=some true)
      (hm:PySem.W.mroIn K C (.type "object")=some true):TyOf K H (.ref a) (.ref C)
end
end L2
namespace L2
open PySem PySem.Spec PyProof.Rows
structure Room (k:Nat) (A:Around):Prop where
  hd:A.handled=none
  dp:A.depth + 3 * k + 5 < recursionLimit
  un:A.units + 16 * k + 200 < cLine
theorem Room.mono {j k:Nat} {A:Around} (r:Room k A) (h:j ≤ k):Room j A:=⟨r.hd,by have:=r.dp; omega,by have:=r.un; omega⟩
theorem Room.deeper {k:Nat} {A:Around} (r:Room (k + 1) A) (env:Env):Room k (A.deeper env) :=
  ⟨r.hd,by have:=r.dp; show A.depth + 1 + 3 * k + 5 < _; omega,by have:=r.un; show A.units + 3 + 16 * k + 200 < _; omega⟩
theorem Room.in1 {k:Nat} {A:Around} (r:Room (k + 1) A):Room k A.in1 :=
  ⟨r.hd,by have:=r.dp; show A.depth + 3 * k + 5 < _; omega,by have:=r.un; show A.units + 1 + 16 * k + 200 < _; omega⟩
theorem Room.depth {k:Nat} {A:Around} (r:Room k A):A.depth < recursionLimit:=by have:=r.dp; omega
theorem Room.units {k:Nat} {A:Around} (r:Room k A):A.units + 64 < cLine:=by have:=r.un; omega
def tNil:TA:=fun _ H Q=>Q [] H
def tCons (ta:TE) (tr:TA):TA:=fun σ H Q=>ta σ H fun x H1=>tr σ H1 fun xs H2=>Q (x :: xs) H2
section
variable {X:Cx} {e:Expr} {es:List Expr} {te:TE} {t:TA} {pos:Pos}
theorem pa_nil:PA X [] tNil:=fun _ _ _ _ H Q I h=>Calls.spliced_nil ⟨[],H,I, .nil,h⟩
theorem pa_cons (ha:PE X e te) (hr:PA X es t) (hs:starEach (e :: es) X.env=(false,eval e X.env) :: starEach es X.env:=by rfl):PA X (e :: es) (tCons te t):=by
  intro pos pins s σ H Q I h
  rw [hs]
  show wpAny _ _ (spliced ((false,eval e X.env) :: backTo pos (starEach es X.env))) _ _ s
  refine Calls.spliced_cons (thn (ha pins s σ H _ I h) fun u s1 ⟨x,H1,I1,r1,q1⟩=>?_)
  exact thn (hr pos pins s1 σ H1 _ I1 q1) fun us s2 ⟨xs,H2,I2,r2,q2⟩=>⟨x :: xs,H2,I2, .cons r1 r2,q2⟩
def tTup (t:TA):TE:=fun σ H Q=>t σ H fun xs H1=>xs.length ≤ sizeLine∧∀ p,H1 p=none→Q (.ref p) (upd H1 p (.tup xs))
def tLst (t:TA):TE:=fun σ H Q=>t σ H fun xs H1=>xs.length ≤ sizeLine∧∀ p,H1 p=none→Q (.ref p) (upd H1 p (.lst xs))
theorem pe_tup {x1} (h:PA X es t):PE X (.Tuple es x1 pos) (tTup t):=by
  intro pins s σ H Q I hq
  refine wpAny_Tuple_spliced (thn (h pos pins s σ H _ I hq) fun us s1 ⟨xs,H1,I1,r,z,q⟩=>⟨by rw [← r.length]; exact z,?_⟩)
  have hf:H1 s1.heap.objs.size=none:=I1.hok.fresh (Nat.le_refl _)
  refine ⟨.ref s1.heap.objs.size,upd H1 s1.heap.objs.size (.tup xs),I1.laid (t':=s1.toks) (fun b u e=>Heap.get?_push_of_some _ e) (Nat.le_refl _) ?_,rfl,q _ hf⟩
  exact ⟨z,us,r,⟨_,Heap.get?_push_size _ rfl,rfl,_,rfl⟩⟩
theorem pe_lst (h:PA X es t):PE X (.List es pos) (tLst t):=by
  intro pins s σ H Q I hq
  refine wpAny_List_spliced (thn (h pos pins s σ H _ I hq) fun us s1 ⟨xs,H1,I1,r,z,q⟩=>⟨by rw [← r.length]; exact z,?_⟩)
  have hf:H1 s1.heap.objs.size=none:=I1.hok.fresh (Nat.le_refl _)
  refine ⟨.ref s1.heap.objs.size,upd H1 s1.heap.objs.size (.lst xs),I1.laid (t':=s1.toks) (fun b u e=>Heap.get?_push_of_some _ e) (Nat.le_refl _) ?_,rfl,q _ hf⟩
  exact ⟨z,us,0,r,Heap.get?_push_size _ rfl⟩
end
abbrev Sp:=List V→Hp→VK→XK→Prop
abbrev CXT:=List Env→Hp→Shared→XK→Value→Shared→Prop
structure Env0 (P:Program) (w:World) (K:PySem.W.Frag) (mg:Str→Option Value) (base:BHeap) (A:Around) (outer:List Env) (s:Shared) (H:Hp):Prop where
  frames:A.frames=some outer
  mod:Mod K mg base
  bs:∀ b o,base.get? b=some o→s.heap.get? b=some o∧H b=none
  bsz:base.objs.size ≤ s.heap.objs.size
  funs:s.heap.FunFrames base outer
  frf:∀ b ∈ frs outer,H b=none
  hok:HOk P w H s.heap
  bare:AllBare s.gens
  tabs:∀ p ∈ base.tabs,H p.1=some (.tbl p.2)
def CE (outer:List Env) (P:Program) (w:World) (H:Hp) (s:Shared) (Q:VK) (u:Value) (s':Shared):Prop :=
  ∃ v H',s'.os=s.os∧AllBare s'.gens∧Un (frs outer) [] H H' s.heap s'.heap∧HOk P w H' s'.heap∧RelV v u∧Q v H'
def CR (CX:CXT) (outer:List Env) (P:Program) (w:World) (H:Hp) (s:Shared) (Q:VK) (E:XK) (r:Result) (s':Shared):Prop :=
  match r with
  | .ok (.ret u)=>CE outer P w H s Q u s'
  | .ok _=>False
  | .error e=>CX outer H s E e s'
structure FnOk (P:Program) (w:World) (K:PySem.W.Frag) (mg:Str→Option Value) (base:BHeap) (CX:CXT) (k:Nat) (f:Addr) (fd:FuncData) (ps:List Str) (sp:Sp):Prop where
  len:∀ vs H Q E,sp vs H Q E→vs.length=ps.length
  run:∀ (A:Around) (outer:List Env) (s:Shared) (H:Hp) (args:Args) (us:List Value) (vs:List V) (Q:VK) (E:XK),Room k A→Env0 P w K mg base A outer s H→BindsTo s fd args (ps.zip us)→Vals vs us→sp vs H Q E →
    codeAny (model P w) A (.call (.ref f) args) (CR CX outer P w H s Q E) s
theorem FnOk.imp {P:Program} {w:World} {K:PySem.W.Frag} {mg:Str→Option Value} {base:BHeap} {CX:CXT} {k:Nat} {f:Addr} {fd:FuncData} {ps:List Str} {sp sp':Sp} (F:FnOk P w K mg base CX k f fd ps sp)
    (h:∀ vs H Q E,sp' vs H Q E→sp vs H Q E):FnOk P w K mg base CX k f fd ps sp' :=
  ⟨fun vs H Q E q=>F.len vs H Q E (h _ _ _ _ q),fun A outer s H args us vs Q E hr he hb hv hs=>F.run A outer s H args us vs Q E hr he hb hv (h _ _ _ _ hs)⟩
section
variable {X:Cx} {pins:List (Addr × Obj)} {σ:St} {H:Hp} {s s':Shared}
theorem Inv.env0 (I:Inv X pins σ H s):Env0 X.prog X.w X.K X.mg X.base X.A X.stack s H :=
  ⟨I.ok.frames,I.ok.mod,I.bs,Nat.le_trans I.ok.bsz I.sz,I.stack,I.stkFree,I.hok,I.bare,fun p hp=>I.base.tbls _ _ (I.ok.tabs p hp)⟩
theorem Inv.after {Q:VK} {u:Value} (I:Inv X pins σ H s) (h:CE X.stack X.prog X.w H s Q u s'):EP X pins σ Q u s':=by
  obtain ⟨v,H',os,bare,un,hok,r,q⟩:=h
  obtain ⟨hh,g,d,t,os'⟩:=s'
  obtain rfl:os'=s.os:=os
  exact ⟨v,H',I.call (h':=hh) (g':=g) (d':=d) (t':=t) (ch:=[]) un hok bare (fun b z=>absurd z (by simp)),r,q⟩
end
def tCall (sp:Sp) (dvs:List V) (E:XK) (t:TA):TE:=fun σ H Q=>t σ H fun vs H1=>sp (vs ++ dvs) H1 Q E
def Binds (K:PySem.W.Frag) (fd:FuncData) (ps:List Str) (ds:List Value):Prop :=
  ∀ (s:Shared) (us:List Value),K.In s.heap→(us ++ ds).length=ps.length→BindsTo s fd ⟨us,[]⟩ (ps.zip (us ++ ds))
theorem Binds.all {K:PySem.W.Frag} {fd:FuncData} {ps:List Str} (h:∀ us:List Value,us.length=ps.length→bindArgs fd ⟨us,[]⟩=pure (ps.zip us)):Binds K fd ps []:=fun s us _ hl=>by
  rw [List.append_nil] at hl ⊢
  exact .of_eq (h us hl)
def Passes (CX:CXT) (X:Cx) (E:XK):Prop := ∀ (pins:List (Addr × Obj)) (σ:St) (H:Hp) (s:Shared) (e:Value) (s':Shared),Inv X pins σ H s→CX X.stack H s E e s'→X.xe e s'
section
variable {X:Cx} {CX:CXT} {k:Nat} {f C:Addr} {fd:FuncData} {ps:List Str} {sp:Sp} {dvs:List V} {ds:List Value} {E:XK} {x m:Str} {p pos apos:Pos} {e o:Expr} {es:List Expr} {ta:TE} {t:TA}
theorem run_fn {pins:List (Addr × Obj)} {σ:St} {H:Hp} {s:Shared} {Q:VK} {us:List Value} {vs:List V} (F:FnOk X.prog X.w X.K X.mg X.base CX k f fd ps sp) (hr:Room k X.A) (hb:Binds X.K fd ps ds) (hd:Vals dvs ds) (hx:Passes CX X E)
    (I:Inv X pins σ H s) (r:Vals vs us) (h:sp (vs ++ dvs) H Q E):wpAny (model X.prog X.w) X.A (call (.ref f) us) (EP X pins σ Q) X.xe s:=by
  have r2:Vals (vs ++ dvs) (us ++ ds):=r.append hd
  have hl:(us ++ ds).length=ps.length:=by rw [← r2.length]; exact F.len _ _ _ _ h
  refine wpAny_call (codeAny_mono (F.run X.A X.stack s H ⟨us,[]⟩ (us ++ ds) (vs ++ dvs) Q E hr I.env0 (hb s us I.kIn hl) r2 h) fun r s' hq=>?_)
  cases r with
  | error e=>exact hx pins σ H s e s' I hq
  | ok fl =>
    cases fl with
    | ret u=>exact I.after hq
    | next=>exact False.elim hq
    | brk=>exact False.elim hq
    | cont=>exact False.elim hq
theorem pe_call (F:FnOk X.prog X.w X.K X.mg X.base CX k f fd ps sp) (hr:Room k X.A) (hg:Gl X x) (hm:X.mg x=some (.ref f)) (hk:PySem.W.keepIn X.K (.ref f)=true) (hb:Binds X.K fd ps ds) (hd:Vals dvs ds) (hx:Passes CX X E)
    (ha:PA X (e :: es) t) (hdb:(x == ("__debug__":Str))=false:=by decide) (he:starEach (e :: es) X.env=(false,eval e X.env) :: starEach es X.env:=by rfl) (hpl:(backTo pos (starEach es X.env)).any (·.1)=false:=by rfl) :
    PE X (.Call (.Name x p) (e :: es) [] pos) (tCall sp dvs E t):=by
  intro pins s σ H Q I h
  refine wpAny_Call_Name_kw (ld_glob I hg hm ?_ hdb)
  refine PySem.W.callWith_K (h₀:=X.base) I.ok.mod.kin hk (thn (ha pos pins s σ H _ I h) fun us s1 ⟨vs,H1,I1,r,q⟩=>⟨I1.kIn,?_⟩) he hpl
  exact run_fn F hr hb hd hx I1 r q
structure Mk (K:PySem.W.Frag) (C f:Addr):Prop where
  makes:PySem.W.makesIn K C=true
  init:PySem.W.findIn K (.ref C) "__init__"=some (some (.ref f))
  fn:PySem.W.isFn K (.ref f)=true
  kp:PySem.W.keepIn K (.ref C)=true
end
section
variable {X:Cx} {CX:CXT} {k:Nat} {f C:Addr} {fd:FuncData} {ps ks:List Str} {sp:Sp} {E:XK} {x m:Str} {p pos apos kpos:Pos} {e o:Expr} {es:List Expr} {kws:List Keyword} {te ta:TE} {t tk:TA} {nm:Option Str}
structure KBinds (K:PySem.W.Frag) (fd:FuncData) (ps ks:List Str) (g:List Value→List Value→List Value) (gV:List V→List V→List V):Prop where
  to:∀ (s:Shared) (us ws:List Value),K.In s.heap→(g us ws).length=ps.length→BindsTo s fd ⟨us,ks.zip ws⟩ (ps.zip (g us ws))
  rel:∀ {vs:List V} {us:List Value} {zs:List V} {ws:List Value},Vals vs us→Vals zs ws→Vals (gV vs zs) (g us ws)
variable {g:List Value→List Value→List Value} {gV:List V→List V→List V}
end
structure FnScope (N P:List Str) (sc:Scope):Prop where
  kind:sc.kind = .function
  co:sc.isCoroutine=false
  gen:sc.isGenerator=false
  nd:N.Nodup
  pre:N.take P.length=P
  par:∀ x ∈ P,sc.names.lookup x=some .local ∨ sc.names.lookup x=some .cell
  nofree:∀ y ∈ sc.names,y.2 ≠ .free
theorem bindL_out {kindOf:Str→Option NameKind} {x:Str}:∀ {binds:List (Str × Value)} {m:Str→Option Value},(∀ v,(x,v) ∉ binds)→bindL kindOf binds m x=m x
  | [],_,_=>rfl
  | (n,v) :: r,m,h=>by
    unfold bindL
    rw [bindL_out fun w hw=>h w (List.mem_cons_of_mem _ hw)]
    split
    · have:x ≠ n:=by rintro rfl; exact h v List.mem_cons_self
      simp [this]
    · rfl
theorem bindC_out {kindOf:Str→Option NameKind} {x:Str}:∀ {binds:List (Str × Value)} {m:Str→Option Value},(∀ v,(x,v) ∉ binds)→bindC kindOf binds m x=m x
  | [],_,_=>rfl
  | (n,v) :: r,m,h=>by
    unfold bindC
    rw [bindC_out fun w hw=>h w (List.mem_cons_of_mem _ hw)]
    split
    · rfl
    · have:x ≠ n:=by rintro rfl; exact h v List.mem_cons_self
      simp [this]
theorem bindL_get {kindOf:Str→Option NameKind} {x:Str} {v:Value}:∀ {P:List Str} {vs:List Value} {i:Nat} {m:Str→Option Value},P.Nodup→P[i]?=some x→vs[i]?=some v→kindOf x=some .local →
    bindL kindOf (P.zip vs) m x=some v
  | [],_,_,_,_,h,_,_=>by simp at h
  | _ :: _,[],_,_,_,_,h,_=>by simp at h
  | p :: P,w :: vs,0,m,nd,h1,h2,hk=>by
    simp at h1 h2; subst h1; subst h2
    show bindL kindOf ((p,w) :: P.zip vs) m p=_
    unfold bindL
    rw [bindL_out fun v hv=>(List.nodup_cons.mp nd).1 (List.of_mem_zip hv).1,if_pos hk]
    simp
  | p :: P,w :: vs,i + 1,m,nd,h1,h2,hk=>by
    show bindL kindOf ((p,w) :: P.zip vs) m x=_
    unfold bindL
    exact bindL_get (i:=i) (List.nodup_cons.mp nd).2 (by simpa using h1) (by simpa using h2) hk
theorem bindC_get {kindOf:Str→Option NameKind} {x:Str} {v:Value}:∀ {P:List Str} {vs:List Value} {i:Nat} {m:Str→Option Value},P.Nodup→P[i]?=some x→vs[i]?=some v→kindOf x ≠ some .local →
    bindC kindOf (P.zip vs) m x=some v
  | [],_,_,_,_,h,_,_=>by simp at h
  | _ :: _,[],_,_,_,_,h,_=>by simp at h
  | p :: P,w :: vs,0,m,nd,h1,h2,hk=>by
    simp at h1 h2; subst h1; subst h2
    show bindC kindOf ((p,w) :: P.zip vs) m p=_
    unfold bindC
    rw [bindC_out fun v hv=>(List.nodup_cons.mp nd).1 (List.of_mem_zip hv).1,if_neg hk]
    simp
  | p :: P,w :: vs,i + 1,m,nd,h1,h2,hk=>by
    show bindC kindOf ((p,w) :: P.zip vs) m x=_
    unfold bindC
    exact bindC_get (i:=i) (List.nodup_cons.mp nd).2 (by simpa using h1) (by simpa using h2) hk
def start (N:List Str) (vs:List V):St:=vs.map some ++ List.replicate (N.length - vs.length) none
def cxOf (CX:CXT) (P:Program) (w:World) (K:PySem.W.Frag) (mg:Str→Option Value) (base:BHeap) (N:List Str) (qual:Str) (scope:Scope) (f:Addr) (cd:Value) (A:Around) (outer:List Env) (s:Shared) (H:Hp) (E:XK):Cx where
  prog:=P
  w:=w
  K:=K
  mg:=mg
  base:=base
  A:=A.deeper (envOfC qual scope s.heap.objs.size f cd)
  N:=N
  s₀:=s
  H₀:=H
  env:=envOfC qual scope s.heap.objs.size f cd
  outer:=outer
  stack:=envOfC qual scope s.heap.objs.size f cd :: outer
  ex:=[]
  calm:=true
  fn:=fun _=>true
  pn:=[]
  xe:=fun e s'=>wpAny (model P w) (A.deeper (envOfC qual scope s.heap.objs.size f cd)) (leaving (envOfC qual scope s.heap.objs.size f cd) e) (fun _ s''=>CX outer H s E e s'') (fun e' s''=>CX outer H s E e' s'') s'
theorem cell_has {sc:Scope} {n:Nat} {x:Str} (h:sc.names.lookup x=some .cell):∃ c,(cellsFrom n sc.names []).lookup x=some c:=by
  have q:=PySem.W.cellsFrom_some sc.names n [] (.inl h)
  exact Option.isSome_iff_exists.mp q
theorem inv_start {CX:CXT} {P:Program} {w:World} {K:PySem.W.Frag} {mg:Str→Option Value} {base:BHeap} {N ps:List Str} {qual:Str} {scope:Scope} {f:Addr} {cd:Value} {A:Around} {outer:List Env} {s s1:Shared} {H:Hp} {E:XK} {us:List Value} {vs:List V}
    (S:FnScope N ps scope) (hd:A.handled=none) (e0:Env0 P w K mg base A outer s H) (hl:vs.length=ps.length) (r:Vals vs us)
    (x:InCallC s s.heap.objs.size (bindL (envOfC qual scope s.heap.objs.size f cd).kindOf (ps.zip us) fun _=>none) (cellsFrom (s.heap.objs.size + 1) scope.names []) (bindC (envOfC qual scope s.heap.objs.size f cd).kindOf (ps.zip us) fun _=>none) s1) :
    Inv (cxOf CX P w K mg base N qual scope f cd A outer s H E) [] (start N vs) H s1:=by
  have hpl:ps.length ≤ N.length:=by have:=congrArg List.length S.pre; rw [List.length_take] at this; omega
  obtain ⟨h1,tk,rfl,hk⟩:=x.done
  have noA:∀ b:Addr,b ∉ (cxOf CX P w K mg base N qual scope f cd A outer s H E).ex:=fun b z=>absurd (show b ∈ ([]:List Addr) from z) (by simp)
  refine ⟨⟨e0.mod,S.kind,rfl,rfl,Nat.le_refl _,fun y z c h1 h2=>?_,fun y hy=>?_,fun y c _ h=>?_,fun _=>hd,Around.frames_deeper e0.frames, .inr ⟨rfl,rfl⟩,fun b z=>absurd z (noA b),e0.bs,e0.bsz,fun b _ _=>noA b,fun b z=>absurd z (noA b),e0.funs,e0.frf,e0.tabs⟩,
    rfl,e0.bare,Un.kept hk,⟨_,x.toInCall.ns,fun i y v h1 h2 h3=>?_⟩,fun y c h=>⟨_,x.cell y c h⟩,e0.hok.fresh (Nat.le_refl _),fun y c h=>?_,fun p hp=>absurd (show p ∈ ([]:List (Addr × Obj)) from hp) (by simp),e0.hok.kept hk,?_⟩
  · exact name_of_addr x.apart (PySem.mem_of_lookup h1) (PySem.mem_of_lookup h2)
  · have hy:scope.names.lookup y=some .cell ∨ scope.names.lookup y=some .free:=hy
    rcases hy with hy | hy
    · exact cell_has hy
    · exact absurd rfl (S.nofree _ (PySem.mem_of_lookup hy))
  · exact Nat.le_of_lt (x.above y c (PySem.mem_of_lookup h))
  · have hi:i < vs.length:=by
      unfold start at h2
      by_cases hi:i < vs.length
      · exact hi
      · rw [List.getElem?_append_right (by simpa using hi)] at h2
        rw [List.getElem?_replicate] at h2
        split at h2 <;> cases h2
    have ha:vs[i]?=some v:=by
      unfold start at h2
      rw [List.getElem?_append_left (by simpa using hi),List.getElem?_map] at h2
      cases e:vs[i]? with
      | none=>rw [e] at h2; cases h2
      | some a=>rw [e] at h2; cases h2; rfl
    obtain ⟨u,hu,rv⟩:=r.get ha
    have hp:ps[i]?=some y:=by
      rw [← S.pre,List.getElem?_take_of_lt (by omega)]; exact h1
    have ndP:ps.Nodup:=by rw [← S.pre]; exact S.nd.sublist (List.take_sublist _ _)
    refine ⟨u,rv,?_⟩
    rcases S.par y (List.mem_of_getElem? hp) with k | k
    · exact .inl ⟨k,bindL_get ndP hp hu k⟩
    · obtain ⟨c,e⟩:=cell_has (n:=s.heap.objs.size + 1) k
      refine .inr ⟨.inl k,c,e,?_⟩
      have q:=x.cell y c e
      rw [bindC_get ndP hp hu (by show scope.names.lookup y ≠ _; rw [k]; decide)] at q
      exact q
  · exact e0.hok.fresh (Nat.le_of_lt (x.above y c (PySem.mem_of_lookup h)))
  · unfold start
    show _=N.length
    rw [List.length_append,List.length_map,List.length_replicate]
    omega
theorem fn_of {CX:CXT} {P:Program} {w:World} {K:PySem.W.Frag} {mg:Str→Option Value} {base:BHeap} {k:Nat} {f:Addr} {name qual:Str} {params:Arguments} {body:List Stmt} {scope:Scope} {dV kV doc pm cdv ct oc:Value} {an od:Option Addr}
    {osl:Array (Option Value)} {N ps:List Str} {sp:Sp} (lk:K.lookup f=some ⟨oc,od, .func (PySem.W.fnOf name qual params body scope dV kV doc pm an cdv ct),osl⟩) (hcd:PySem.W.codeIn K cdv qual=true) (S:FnScope N ps scope)
    (len:∀ vs H Q E,sp vs H Q E→vs.length=ps.length)
    (hbody:∀ (A:Around) (outer:List Env) (s:Shared) (H:Hp) (vs:List V) (Q:VK) (E:XK),Room k (A.deeper (envOfC qual scope s.heap.objs.size f cdv))→sp vs H Q E →
      ∃ t,PSs (cxOf CX P w K mg base N qual scope f cdv A outer s H E) body t∧t { nx:=fun _ H'=>Q .non H',rt:=Q } (start N vs) H) :
    FnOk P w K mg base CX (k + 1) f (PySem.W.fnOf name qual params body scope dV kV doc pm an cdv ct) ps sp:=by
  refine ⟨len,fun A outer s H args us vs Q E hr e0 hb r hsp=>?_⟩
  have hl:=len _ _ _ _ hsp
  have KX:K.In s.heap:=e0.mod.kin.keeps fun b o e=>(e0.bs b o e).1
  have lim:s.heap.NoLimit:=e0.mod.nolimit.keeps fun b o e=>(e0.bs b o e).1
  have hkind:∀ y ∈ ps.zip us,scope.names.lookup y.1=some .local ∨ (scope.names.lookup y.1=some .cell∧((cellsFrom (s.heap.objs.size + 1) scope.names []).lookup y.1).isSome=true):=fun ⟨n,v⟩ hy=>by
    rcases S.par n (List.of_mem_zip hy).1 with q | q
    · exact .inl q
    · exact .inr ⟨q,PySem.W.cellsFrom_some _ _ _ (.inl q)⟩
  refine codeAny_call_function hr.depth (KX _ _ lk) rfl S.co S.gen rfl (PySem.W.codeRec_of KX hcd) (hb _ _ _ _ ?_)
  refine wpAny_newFunctionEnv_cells S.kind hkind fun env he s1 x=>?_
  subst he
  refine ⟨lim.keeps x.toInCall.keep,codeAny_func ?_⟩
  obtain ⟨t,ht,hq⟩:=hbody A outer s H vs Q E (hr.deeper _) hsp
  have I:Inv (cxOf CX P w K mg base N qual scope f cdv A outer s H E) [] (start N vs) H s1:=inv_start S hr.hd e0 hl r x
  refine wpAny_mono (ht [] s1 (start N vs) H _ I hq) (fun fl s' hs=>?_) fun e s' hs=>hs
  have fin:∀ {σ':St} {H':Hp} {v:V} {u:Value},Inv (cxOf CX P w K mg base N qual scope f cdv A outer s H E) [] σ' H' s'→RelV v u→Q v H'→CE outer P w H s Q u s' :=
    fun {σ' H' v u} J rv q=>⟨v,H',J.os,J.bare,J.base,J.hok,rv,q⟩
  cases fl with
  | ret u =>
    obtain ⟨v,σ',H',J,rv,q⟩:=hs
    exact fin J rv q
  | next =>
    obtain ⟨σ',H',J,q⟩:=hs
    exact fin (v:=V.non) (u:=Value.none) J rfl q
  | brk =>
    obtain ⟨_,_,_,q⟩:=hs
    exact False.elim q
  | cont =>
    obtain ⟨_,_,_,q⟩:=hs
    exact False.elim q
end L2
namespace L2
open PySem PySem.Spec PyProof.Rows
section
variable {X:Cx} {x:Str} {p pos:Pos} {e:Expr} {es:List Expr} {t:TA} {id T:String} {r:List V→Hp→VK→Prop}
def tCB (r:List V→Hp→VK→Prop) (t:TA):TE:=fun σ H Q=>t σ H fun vs H1=>r vs H1 Q
theorem pe_callB (hc:CallR X (.builtin id) r) (hg:Gl X x) (hm:X.mg x=none) (hv:bootBuiltins x=some (.builtin id)) (ha:PA X (e :: es) t) (hn:x ≠ "__name__":=by decide) (hdb:(x == ("__debug__":Str))=false:=by decide)
    (he:starEach (e :: es) X.env=(false,eval e X.env) :: starEach es X.env:=by rfl) (hpl:(backTo pos (starEach es X.env)).any (·.1)=false:=by rfl):PE X (.Call (.Name x p) (e :: es) [] pos) (tCB r t):=by
  intro pins s σ H Q I h
  refine wpAny_Call_Name_kw (ld_blt I hg hm hv ?_ hn hdb)
  exact PyProof.Rows.callWith_builtin1 (thn (ha pos pins s σ H _ I h) fun us s1 ⟨vs,H1,I1,r1,q1⟩=>hc pins s1 σ H1 vs us Q I1 r1 q1) he hpl
end
end L2
namespace L2
open PySem PySem.Spec PyProof.Rows
abbrev TO:=St→Hp→(Option Int→Hp→Prop)→Prop
theorem intsAre_of {ns:List Int}:∀ {us:List Value},Vals (ns.map V.int) us→IntsAre us ns:=by
  induction ns with
  | nil=>intro us r; rw [List.map_nil] at r; cases r; exact .nil
  | cons n ns ih =>
    intro us r
    rw [List.map_cons] at r
    cases r with
    | cons r1 r2 =>
      obtain ⟨t,e⟩:=r1
      subst e
      exact .cons n t (ih r2)
def ixN (n:Nat) (i:Int):Option Nat:=if 0 ≤ i then (if i < n then some i.toNat else none) else if -(n:Int) ≤ i then some (i + n).toNat else none
def atI {α:Type} (xs:List α) (i:Int):Option α:=(ixN xs.length i).bind fun j=>xs[j]?
theorem ixN_seq {n:Nat} {i:Int} {j:Nat} (h:ixN n i=some j):seqIndex? i n=some j∧j < n ∧ -(n:Int) ≤ i∧i < n:=by
  unfold ixN at h
  by_cases h0:0 ≤ i
  · rw [if_pos h0] at h
    by_cases h1:i < n
    · rw [if_pos h1] at h
      have e:i.toNat=j:=Option.some.inj h
      exact ⟨by rw [seqIndex_of h0 h1,e],by omega,by omega,h1⟩
    · rw [if_neg h1] at h; cases h
  · rw [if_neg h0] at h
    by_cases h1 : -(n:Int) ≤ i
    · rw [if_pos h1] at h
      have e:(i + n).toNat=j:=Option.some.inj h
      exact ⟨by rw [seqIndex_neg (by omega) h1,e],by omega,h1,by omega⟩
    · rw [if_neg h1] at h; cases h
theorem atI_get {α:Type} {xs:List α} {i:Int} {v:α} (h:atI xs i=some v):∃ j,seqIndex? i xs.length=some j∧xs[j]?=some v∧j < xs.length ∧ -(xs.length:Int) ≤ i∧i < xs.length:=by
  unfold atI at h
  cases e:ixN xs.length i with
  | none=>rw [e] at h; cases h
  | some j =>
    rw [e] at h
    obtain ⟨h1,h2,h3,h4⟩:=ixN_seq e
    exact ⟨j,h1,h,h2,h3,h4⟩
def PlainIx (b:Expr):Prop := ∀ o i,subscripted b false o i=operate [o,i] (getItem o i)
def IxR (X:Cx) (r:R2):Prop :=
  ∀ (value slice:Expr) (pins:List (Addr × Obj)) (s:Shared) (σ:St) (H:Hp) (x y:V) (v u:Value) (Q:VK),Inv X pins σ H s→RelV x v→RelV y u→r x y H Q →
    subscripted slice false v u=operate [v,u] (getItem v u)→wpAny (model X.prog X.w) X.A (subscriptTail value slice v u) (EP X pins σ Q) X.xe s
def MtR (X:Cx) (id:String) (r:V→List V→Hp→VK→Prop):Prop :=
  ∀ (pins:List (Addr × Obj)) (s:Shared) (σ:St) (H:Hp) (x:V) (xs:List V) (v:Value) (us:List Value) (Q:VK),Inv X pins σ H s→RelV x v→Vals xs us→r x xs H Q →
    wpAny (model X.prog X.w) X.A (call (.builtin id) (v :: us)) (EP X pins σ Q) X.xe s
section
variable {X:Cx} {a b:Expr} {ta tb:TE} {pos:Pos}
theorem IxR.or {r r':R2} (h:IxR X r) (h':IxR X r'):IxR X (fun x y H Q=>r x y H Q ∨ r' x y H Q):=by
  intro value slice pins s σ H x y v u Q I rx ry q hs
  rcases q with q | q
  · exact h value slice pins s σ H x y v u Q I rx ry q hs
  · exact h' value slice pins s σ H x y v u Q I rx ry q hs
theorem pe_ix {r:R2} (hr:IxR X r) (ha:PE X a ta) (hb:PE X b tb) (hs:PlainIx b):PE X (.Subscript a b pos) (tOp r ta tb):=by
  intro pins s σ H Q I h
  exact Subscript_ (binT ha hb I h fun v u s2 x y H2 I2 rx ry q=>hr a b pins s2 σ H2 x y v u Q I2 rx ry q (hs _ _))
def rIxL (K:PySem.W.Frag):R2:=fun x y H Q => ∃ p xs i v,x = .ref p∧y = .int i∧SqL K H p xs∧atI xs i=some v∧Q v H
def rIxT (K:PySem.W.Frag):R2:=fun x y H Q => ∃ p xs i v,x = .ref p∧y = .int i∧SqT K H p xs∧atI xs i=some v∧Q v H
theorem ix_list:IxR X (rIxL X.K):=by
  intro value slice pins s σ H x y v u Q I rx ry h hs
  obtain ⟨p,xs,i,z,rfl,rfl,hq,he,q⟩:=h
  cases rx
  obtain ⟨t,rfl⟩:=ry
  obtain ⟨its,r,pl,hz⟩:=I.list hq
  obtain ⟨j,h1,h2,h3,h4,h5⟩:=atI_get he
  obtain ⟨w,ew,rw'⟩:=r.get h2
  have hl:=r.length
  have hn:=line63
  have fin:EP X pins σ Q w s:=⟨z,H,I,rw',q⟩
  by_cases h0:0 ≤ i
  · have hj:i.toNat=j:=by
      rw [seqIndex_of h0 h5] at h1
      exact Option.some.inj h1
    exact item_listR pl.isList h0 (by omega) (by rw [hj]; simpa using ew) fin hs
  · have hj:(i + (its.toArray.size:Int)).toNat=j:=by
      rw [seqIndex_neg (by omega) h4] at h1
      rw [List.size_toArray, ← hl]
      exact Option.some.inj h1
    exact subscriptTail_builtinR (x:=w) pl.isList.typeIs slot_list_getitem.lookup
      (wpAny_getItem_list_neg (Q:=fun r s'=>r=w∧EP X pins σ Q r s') pl.isList (by omega) (by rw [List.size_toArray] <;> omega) (by omega) (by rw [hj]; simpa using ew) ⟨rfl,fin⟩) hs
theorem ix_tup:IxR X (rIxT X.K):=by
  intro value slice pins s σ H x y v u Q I rx ry h hs
  obtain ⟨p,xs,i,z,rfl,rfl,hq,he,q⟩:=h
  cases rx
  obtain ⟨t,rfl⟩:=ry
  obtain ⟨its,r,pl,hz⟩:=I.tuple hq
  obtain ⟨j,h1,h2,h3,h4,h5⟩:=atI_get he
  obtain ⟨w,ew,rw'⟩:=r.get h2
  have hl:=r.length
  have hn:=line63
  have fin:EP X pins σ Q w s:=⟨z,H,I,rw',q⟩
  exact subscriptTail_builtinR (x:=w) pl.typeIs slot_tuple_getitem.lookup
    (getItem_tuple (j:=j) (Q:=fun r s'=>r=w∧EP X pins σ Q r s') pl (by omega) (by omega) (by rw [List.size_toArray, ← hl]; exact h1) (by simpa using ew) ⟨rfl,fin⟩) hs
theorem mapSeq_set (its:List Value) (n j:Nat) (u:Value):Obj.mapSeq (·.setIfInBounds j u) { cls := .type "list",data := .seq its.toArray n }={ cls := .type "list",data := .seq (its.set j u).toArray n }:=by
  simp [Obj.mapSeq]
theorem Inv.lst {pins:List (Addr × Obj)} {σ:St} {H:Hp} {s:Shared} {p:Addr} {xs:List V} (I:Inv X pins σ H s) (h:H p=some (.lst xs)) :
    ∃ (its:List Value) (n:Nat),Vals xs its∧s.heap.get? p=some { cls := .type "list",data := .seq its.toArray n }∧xs.length ≤ sizeLine:=by
  obtain ⟨z,its,n,r,e⟩:=I.hok p _ h
  exact ⟨its,n,r,e,z⟩
theorem Inv.lstUpd {pins:List (Addr × Obj)} {σ:St} {H:Hp} {s:Shared} {p:Addr} {xs ys:List V} {its its':List Value} {n n':Nat} {f:Obj→Obj} (I:Inv X pins σ H s) (h:H p=some (.lst xs))
    (ho:s.heap.get? p=some { cls := .type "list",data := .seq its.toArray n }) (hf:f { cls := .type "list",data := .seq its.toArray n }={ cls := .type "list",data := .seq its'.toArray n' }) (r:Vals ys its') (hz:ys.length ≤ sizeLine) (t:Nat) :
    Inv X pins σ (upd H p (.lst ys)) { s with heap:=s.heap.update p f,toks:=t }:=by
  have e:(s.heap.update p f).get? p=some { cls := .type "list",data := .seq its'.toArray n' }:=by
    rw [Heap.get?_update_self f ho (by rw [hf] <;> rfl),hf]
  refine I.write (x:=p) (e:=p) (by rw [h]; trivial) (.inl rfl) (fun b u hb q=>(Heap.get?_update_other _ _ (Ne.symm hb)).trans q) ⟨_,e⟩ ?_
  exact ⟨hz,its',n',r,e⟩
def rSetL:V→V→V→Hp→(Hp→Prop)→Prop:=fun o i v H Q => ∃ p xs k j,o = .ref p∧i = .int k∧H p=some (.lst xs)∧ixN xs.length k=some j∧Q (upd H p (.lst (xs.set j v)))
theorem set_list:PSet X rSetL:=by
  intro pins s σ H o i v ov iv u Q I ro ri rv h
  obtain ⟨p,xs,k,j,rfl,rfl,hp,hj,q⟩:=h
  cases ro
  obtain ⟨t,rfl⟩:=ri
  obtain ⟨its,n,r,ho,hz⟩:=I.lst hp
  obtain ⟨h1,h2,h3,h4⟩:=ixN_seq hj
  have hl:=r.length
  have hn:=line63
  have I':Inv X pins σ (upd H p (.lst (xs.set j v))) { s with heap:=s.heap.update p (Obj.mapSeq (·.setIfInBounds j u)) } :=
    I.lstUpd hp ho (mapSeq_set its n j u) (r.set rv j) (by rw [List.length_set]; exact hz) s.toks
  by_cases h0:0 ≤ k
  · have hk:k.toNat=j:=by
      rw [seqIndex_of h0 h4] at h1
      exact Option.some.inj h1
    exact PySem.W.ki_setAt ho h0 (by omega) (by rw [List.size_toArray, ← hl]; exact h4) (by rw [hk]; exact ⟨_,I',q⟩)
  · have hk:(k + (its.toArray.size:Int)).toNat=j:=by
      rw [seqIndex_neg (by omega) h3] at h1
      rw [List.size_toArray, ← hl]
      exact Option.some.inj h1
    exact PySem.W.ki_setBack ho (by omega) (by rw [List.size_toArray, ← hl]; exact h3) (by omega) (by rw [hk]; exact ⟨_,I',q⟩)
def flatV:V→Bool
  | .non=>true
  | .bl _=>true
  | .int _=>true
  | .str _=>true
  | _=>false
def eqV:V→V→Bool
  | .non, .non=>true
  | .bl a, .bl b=>a == b
  | .bl a, .int b=>(if a then 1 else 0) == b
  | .int a, .bl b=>a == (if b then 1 else 0)
  | .int a, .int b=>a == b
  | .str a, .str b=>a == b
  | _,_=>false
theorem eqAt_V {A:Around} {s:Shared} {y x:V} {u v:Value} (ry:RelV y u) (rx:RelV x v) (fy:flatV y=true) (fx:flatV x=true):SeqAt.EqAt A s u v (eqV y x):=by
  cases y with
  | non =>
    cases ry
    cases x with
    | non=>cases rx; exact SeqAt.EqAt.same _
    | bl b=>cases rx; exact SeqAt.EqAt.none_bool b
    | int b=>obtain ⟨t,rfl⟩:=rx; exact SeqAt.EqAt.none_int b t
    | str b=>obtain ⟨t,rfl⟩:=rx; exact SeqAt.EqAt.none_str b t
    | _=>exact absurd (show false=true from fx) Bool.false_ne_true
  | bl a =>
    cases ry
    cases x with
    | non=>cases rx; exact SeqAt.EqAt.bool_none a
    | bl b=>cases rx; exact SeqAt.EqAt.bool_bool a b
    | int b=>obtain ⟨t,rfl⟩:=rx; exact SeqAt.EqAt.bool_int a b t
    | str b=>obtain ⟨t,rfl⟩:=rx; exact SeqAt.EqAt.bool_str a b t
    | _=>exact absurd (show false=true from fx) Bool.false_ne_true
  | int a =>
    obtain ⟨t',rfl⟩:=ry
    cases x with
    | non=>cases rx; exact SeqAt.EqAt.int_none a t'
    | bl b=>cases rx; exact SeqAt.EqAt.int_bool a t' b
    | int b=>obtain ⟨t,rfl⟩:=rx; exact SeqAt.EqAt.int_int a t' b t
    | str b=>obtain ⟨t,rfl⟩:=rx; exact SeqAt.EqAt.int_str a t' b t
    | _=>exact absurd (show false=true from fx) Bool.false_ne_true
  | str a =>
    obtain ⟨t',rfl⟩:=ry
    cases x with
    | non=>cases rx; exact SeqAt.EqAt.str_none a t'
    | bl b=>cases rx; exact SeqAt.EqAt.str_bool a t' b
    | int b=>obtain ⟨t,rfl⟩:=rx; exact SeqAt.EqAt.str_int a t' b t
    | str b=>obtain ⟨t,rfl⟩:=rx; exact SeqAt.EqAt.str_str a t' b t
    | _=>exact absurd (show false=true from fx) Bool.false_ne_true
  | _=>exact absurd (show false=true from fy) Bool.false_ne_true
theorem call_len_seq:CallR X (.builtin "len") (fun xs H Q => ∃ p ys,xs=[.ref p]∧(SqL X.K H p ys ∨ SqT X.K H p ys)∧Q (.int ys.length) H):=by
  intro pins s σ H xs us Q I r h
  obtain ⟨p,ys,rfl,hq,q⟩:=h
  obtain ⟨u,rfl,rx⟩:=vals1 r
  cases rx
  have hn:=line63
  rcases hq with hq | hq
  · obtain ⟨its,r',pl,hz⟩:=I.list hq
    have hlen:=r'.length
    exact Calls.call_len_list pl.isList (by simp only [List.size_toArray] <;> omega) ⟨.int ys.length,H,I.tok _,⟨s.toks + 1,by rw [List.size_toArray,hlen]⟩,q⟩
  · obtain ⟨its,r',pl,hz⟩:=I.tuple hq
    have hlen:=r'.length
    exact len_tuple pl (by simp only [List.size_toArray] <;> omega) ⟨.int ys.length,H,I.tok _,⟨s.toks + 1,by rw [List.size_toArray,hlen]⟩,q⟩
def tyV (K:PySem.W.Frag) (T:String) (x:V) (H:Hp):Prop:=match x with
  | .str _=>T = "str"
  | .int _=>T = "int"
  | .ref p=>(T = "list"∧∃ xs,SqL K H p xs) ∨ (T = "tuple"∧∃ o,K.lookup p=some o∧o.cls = .type "tuple"∧o.dict=none) ∨
      (T = "dict"∧((∃ kvs,H p=some (.dK kvs)) ∨ ∃ kvs,H p=some (.dT kvs))) ∨ (T = "set"∧∃ S n,H p=some (.set S n))
  | _=>False
theorem tyV_is {pins:List (Addr × Obj)} {σ:St} {H:Hp} {s:Shared} {T:String} {x:V} {v:Value} (I:Inv X pins σ H s) (r:RelV x v) (ty:tyV X.K T x H) :
    s.TypeIs v T∧∀ a,v = .ref a→∃ ob,s.heap.get? a=some ob∧ob.dict=none:=by
  cases x with
  | str z =>
    obtain ⟨t,rfl⟩:=r
    cases (show T = "str" from ty)
    exact ⟨typeIs_str s z t,fun _ e=>nomatch e⟩
  | int i =>
    obtain ⟨t,rfl⟩:=r
    cases (show T = "int" from ty)
    exact ⟨typeIs_int s i t,fun _ e=>nomatch e⟩
  | ref p =>
    cases r
    rcases ty with ⟨rfl,xs,hq⟩ | ⟨rfl,o,hk,hc,hd⟩ | ⟨rfl,hk⟩ | ⟨rfl,S,n,hk⟩
    · obtain ⟨its,_,pl,_⟩:=I.list hq
      refine ⟨pl.isList.typeIs,fun a e=>?_⟩
      cases e
      obtain ⟨o,n,e,c,hd,_⟩:=pl
      exact ⟨o,e,hd⟩
    · refine ⟨⟨o,I.kIn p o hk,hc⟩,fun a e=>?_⟩
      cases e
      exact ⟨o,I.kIn _ o hk,hd⟩
    · have z:∃ o,s.heap.get? p=some o∧o.ExactDict:=by
        rcases hk with ⟨kvs,hk⟩ | ⟨kvs,hk⟩
        · obtain ⟨_,_,_,_,o,_,_,e,ex,_⟩:=I.hok p _ hk
          exact ⟨o,e,ex⟩
        · obtain ⟨_,_,_,_,o,_,_,e,ex,_⟩:=I.hok p _ hk
          exact ⟨o,e,ex⟩
      obtain ⟨o,e,ex⟩:=z
      refine ⟨⟨o,e,ex.1⟩,fun a e2=>?_⟩
      cases e2
      exact ⟨o,e,ex.2.1⟩
    · obtain ⟨o,_,_,_,e,ex,_⟩:=I.hok p _ hk
      refine ⟨⟨o,e,ex.1⟩,fun a e2=>?_⟩
      cases e2
      exact ⟨o,e,ex.2.1⟩
  | _=>exact False.elim ty
def tBM (K:PySem.W.Frag) (T:String) (r:V→List V→Hp→VK→Prop) (to:TE) (t:TA):TE:=fun σ H Q=>to σ H fun x H1=>tyV K T x H1∧t σ H1 fun xs H2=>r x xs H2 Q
variable {o e:Expr} {es:List Expr} {to:TE} {t:TA} {name:Str} {apos cpos:Pos} {T id:String} {r:V→List V→Hp→VK→Prop}
theorem pe_bm (pa:PlainAttrs T) (slot:Slot T name id) (hty:typeOf (.builtin id)=pure (.type "method_descriptor")) (hm:MtR X id r) (ho:PE X o to) (ha:PA X (e :: es) t)
    (hbase:attributeBase o name X.env (eval o X.env)=eval o X.env:=by rfl)
    (hfew:((backTo cpos (starEach (e :: es) X.env)).all (fun x => !x.1) && (backToKw cpos (keywordEach [] X.env)).all (fun x=>x.1.isSome)
      && decide ((e :: es).length + ([]:List Keyword).length + (if ([]:List Keyword).isEmpty then 0 else 1) < 30))=true:=by rfl)
    (hline:(apos.endLine == cpos.line)=true:=by rfl) (hs:starEach (e :: es) X.env=(false,eval e X.env) :: starEach es X.env:=by rfl) (hplain:(backTo cpos (starEach es X.env)).any (·.1)=false:=by rfl) :
    PE X (.Call (.Attribute o name apos) (e :: es) [] cpos) (tBM X.K T r to t):=by
  intro pins s σ H Q I h
  refine wpAny_Call_method_late hbase hfew hline rfl (thn (ho pins s σ H _ I h) fun v s1 ⟨x,H1,I1,r1,ty,q1⟩=>?_)
  obtain ⟨h1,h2⟩:=tyV_is I1 r1 ty
  refine ⟨T,id,pa,slot,hty,h1,h2,?_⟩
  have hA:=ha cpos pins s1 σ H1 _ I1 q1
  rw [hs] at hA ⊢
  refine Calls.callWith_builtin (by show (false || (backTo cpos (starEach es X.env)).any (·.1))=false; rw [hplain] <;> rfl) (Calls.evalArgs_plain ?_)
  exact thn hA fun us s2 ⟨vs,H2,I2,r2,q2⟩=>hm pins s2 σ H2 x vs v us Q I2 r1 r2 q2
end
end L2
namespace L2
open PySem PySem.Spec PyProof.Rows
def MtM (X:Cx) (id:String) (r:V→List V→Hp→VK→Prop):Prop :=
  ∀ (pins:List (Addr × Obj)) (s:Shared) (σ:St) (H:Hp) (x:V) (xs:List V) (v:Value) (us:List Value) (Q:VK),Inv X pins σ H s→RelV x v→Vals xs us→r x xs H Q →
    wpAny (model X.prog X.w) X.A (call (.builtin id) (v :: us)) (EP X pins σ Q) X.xe s
theorem Vals.one:∀ {x:V} {us:List Value},Vals [x] us→∃ u,us=[u]∧RelV x u
  | _,_, .cons r .nil=>⟨_,rfl,r⟩
theorem Vals.two:∀ {x y:V} {us:List Value},Vals [x,y] us→∃ u v,us=[u,v]∧RelV x u∧RelV y v
  | _,_,_, .cons r (.cons q .nil)=>⟨_,_,rfl,r,q⟩
theorem Vals.rep {xs:List V} {us:List Value} (h:Vals xs us):∀ k:Nat,Vals (List.replicate k xs).flatten (List.replicate k us).flatten
  | 0 => .nil
  | k + 1=>by
    rw [List.replicate_succ,List.replicate_succ,List.flatten_cons,List.flatten_cons]
    exact Vals.append h (Vals.rep h k)
theorem foldl_rep (its:List Value):∀ (k:Nat) (acc:List Value),
    List.foldl (fun x1 x2=>x1 ++ x2) acc.toArray (List.replicate k its.toArray)=(acc ++ (List.replicate k its).flatten).toArray
  | 0,acc=>by simp
  | k + 1,acc=>by
    have e:acc.toArray ++ its.toArray=(acc ++ its).toArray:=by simp
    have e2:(acc ++ its) ++ (List.replicate k its).flatten=acc ++ (List.replicate (k + 1) its).flatten:=by
      rw [List.replicate_succ,List.flatten_cons,List.append_assoc]
    rw [← e2, ← foldl_rep its k (acc ++ its), ← e,List.replicate_succ,List.foldl_cons]
section
variable {X:Cx} {pins:List (Addr × Obj)} {σ:St} {H:Hp} {s:Shared} {l b:Addr} {xs ys zs:List V}
theorem Inv.lset {its its':List Value} {n:Nat} {f:Array Value→Array Value} {t':Nat} (I:Inv X pins σ H s) (hH:H l=some (.lst xs))
    (e:s.heap.get? l=some { cls := .type "list",data := .seq its.toArray n }) (hf:f its.toArray=its'.toArray) (hv:Vals ys its') (hz:ys.length ≤ sizeLine) :
    Inv X pins σ (upd H l (.lst ys)) { s with heap:=s.heap.update l (Obj.mapSeq f),toks:=t' }:=by
  have q:=PySem.IsL.update e f
  rw [hf] at q
  refine I.write (x:=l) (e:=l) (by rw [hH]; exact trivial) (.inl rfl) (fun b' u hb hu=>(Heap.get?_update_other s.heap (Obj.mapSeq f) (Ne.symm hb)).trans hu) ⟨_,q⟩ ?_
  exact ⟨hz,its',_,hv,q⟩
theorem Inv.lnew {its:List Value} {t':Nat} (I:Inv X pins σ H s) (hv:Vals ys its) (hz:ys.length ≤ sizeLine) :
    Inv X pins σ (upd H s.heap.objs.size (.lst ys)) { s with heap:=s.heap.push { cls := .type "list",data := .seq its.toArray },toks:=t' } :=
  I.laid (fun _ _ q=>Heap.get?_push_of_some _ q) (Nat.le_refl _) ⟨hz,its,0,hv,Heap.get?_push_size _ rfl⟩
theorem Inv.fresh (I:Inv X pins σ H s):H s.heap.objs.size=none:=I.hok.fresh (Nat.le_refl _)
theorem Inv.lstM (I:Inv X pins σ H s) (hH:H l=some (.lst xs)):xs.length ≤ sizeLine∧∃ (its:List Value) (n:Nat),Vals xs its∧xs.length=its.length∧s.heap.get? l=some { cls := .type "list",data := .seq its.toArray n }:=by
  obtain ⟨z,its,n,r,e⟩:=I.hok l _ hH
  exact ⟨z,its,n,r,r.length,e⟩
theorem notLongL {n:Nat} (h:n ≤ sizeLine):Builtin.List.listTooLong n=false:=by
  unfold Builtin.List.listTooLong
  exact decide_eq_false (by omega)
end
section
variable {X:Cx}
def rAppend:V→List V→Hp→VK→Prop:=fun x vs H Q => ∃ l xs y,x = .ref l∧vs=[y]∧H l=some (.lst xs)∧xs.length < sizeLine∧Q .non (upd H l (.lst (xs ++ [y])))
theorem mt_append:MtM X "list.append" rAppend:=by
  intro pins s σ H x vs v us Q I rx rv h
  obtain ⟨l,xs,y,rfl,rfl,hH,hz,q⟩:=h
  cases rx
  obtain ⟨u,rfl,ru⟩:=rv.one
  obtain ⟨z,its,n,r,hl,e⟩:=I.lstM hH
  refine call_meets F.slot_list_append ⟨_,e,rfl⟩ F.entry_list_append (F.args_list_append_2 _ _) (PySem.list_append l its.toArray n u (by rw [List.size_toArray]; omega)) ⟨e,?_⟩
  refine ⟨.non,_,I.lset (its':=its ++ [u]) hH e (by simp) (r.append (.cons ru .nil)) ?_,rfl,q⟩
  rw [List.length_append,List.length_singleton]
  omega
def rRep:R2:=fun x y H Q => ∃ l k xs,x = .ref l∧y = .int k∧H l=some (.lst xs) ∧ -(2 ^ 63) ≤ k∧k < 2 ^ 63∧xs.length * k.toNat ≤ sizeLine ∧
  ∀ p,H p=none→Q (.ref p) (upd H p (.lst (List.replicate k.toNat xs).flatten))
theorem len_rep {α:Type} (xs:List α) (k:Nat):(List.replicate k xs).flatten.length=k * xs.length:=by
  induction k with
  | zero=>simp
  | succ k ih=>rw [List.replicate_succ,List.flatten_cons,List.length_append,ih,Nat.succ_mul,Nat.add_comm]
theorem op_rep:OpR X (binaryOp .Mult) rRep:=by
  intro pins s σ H x y v u Q I rx ry h
  obtain ⟨l,k,xs,rfl,rfl,hH,h1,h2,hz,q⟩:=h
  cases rx
  obtain ⟨t,rfl⟩:=ry
  obtain ⟨z,its,n,r,hl,e⟩:=I.lstM hH
  have hlen:its.toArray.size * k.toNat ≤ sizeLine:=by rw [List.size_toArray, ← hl]; exact hz
  have hcap : ¬ its.toArray.size * k.toNat > (2 ^ 63 - 1) / 8:=by
    have:(sizeLine:Nat) ≤ (2 ^ 63 - 1) / 8:=by decide
    omega
  have hfit : ¬ (!Builtin.List.listFitsIndex k)=true:=by
    rw [fitsIndex_both h1 h2]
    exact Bool.false_ne_true
  have hlong : ¬ Builtin.List.listTooLong (its.toArray.size * k.toNat)=true:=by
    rw [notLongL hlen]
    exact Bool.false_ne_true
  have hnew:List.foldl (fun x1 x2=>x1 ++ x2) #[] (List.replicate (if its.toArray.isEmpty=true then 0 else k.toNat) its.toArray)=(List.replicate k.toNat its).flatten.toArray:=by
    have f0:∀ m:Nat,List.foldl (fun x1 x2=>x1 ++ x2) #[] (List.replicate m its.toArray)=(List.replicate m its).flatten.toArray:=fun m=>by
      have:=foldl_rep its m []
      rw [List.nil_append] at this
      exact this
    rw [f0]
    cases its with
    | nil=>simp
    | cons a r'=>rw [if_neg (by simp)]
  refine wpAny_binaryOp_repeat_ref (T := "list") (U := "int") (by decide) ⟨_,e,rfl⟩ (fun s'=>typeIs_int s' k t) noFill_list_mul F.fills_int_mul F.slot_int_rmul repeat_list F.slot_int_index.lookup
    (call_meets F.slot_int_rmul (typeIs_int s k t) F.entry_int_rmul (F.args_int_rmul_2 _ _) (int___rmul___int_list k t l its.toArray n)
      ⟨e,rfl,⟨_,e,rfl⟩,call_meets F.slot_list_mul ⟨_,e,rfl⟩ F.entry_list_mul (F.args_list_mul_2 _ _) (AutoListH.list___mul___list_int_3 l its.toArray n k t hfit hcap hlong) ⟨e,?_⟩⟩)
  rw [hnew]
  exact ⟨.ref _,_,I.lnew (t':=s.toks) (r.rep k.toNat) (by rw [len_rep,Nat.mul_comm]; exact hz),rfl,q _ I.fresh⟩
end
end L2
namespace Att
open PySem PySem.W PySem.Calls PyProof.Rows
theorem ints_of_wellAll {P:Params} {h:Heap}:∀ (ns:List Int) (vs:List Value),WellAll P h vs (ns.map WData.int)→IntsAre vs ns:=by
  intro ns
  induction ns with
  | nil =>
    intro vs w
    rw [List.map_nil] at w
    cases w
    exact .nil
  | cons n ns ih =>
    intro vs w
    rw [List.map_cons] at w
    cases w with
    | cons a b =>
      cases a
      exact .cons _ _ (ih _ b)
theorem script_of {l:OpenLaw} {n:Nat} (hn:l.most=some n) {P:Params} {h:Heap} {args:List WData} {vals:List Value}
    (hpre:l.row.toRowW.claim.pre args=true) (hwl:WellAll P h vals args) :
    ∃ a vs ns,vals=[Value.ref a]∧args=[WData.list (ns.map WData.int)]∧h.get? a=some { cls := .type "list",data := .seq vs.toArray }∧IntsAre vs ns∧ns.length ≤ n:=by
  have hsh:WShape.hasAll [] args [.list .int]=true:=(pre_splitW hpre).1
  have hc:l.pre.holds [] { args:=args }=true:=(pre_splitW hpre).2
  obtain ⟨d,r,rfl,h1,h2⟩:=hasAllW_cons hsh
  obtain rfl:=hasAllW_nil h2
  obtain ⟨xs,rfl,h3⟩:=hasW_list h1
  obtain ⟨ns,rfl⟩:=items_int h3
  have hlen:ns.length ≤ n:=by
    unfold OpenLaw.pre at hc
    have h4:(WTm.not (.lt (.lit (.int (n:Int))) (.len (.arg 0)))).holds [] { args:=[.list (ns.map .int)] }=true:=by
      have h4:=(holds_andW hc).1
      rw [hn] at h4
      exact h4
    have h5:=condW_of h4 (w_not (w_lt w_lit (w_len_list (w_arg rfl))))
    rw [List.length_map] at h5
    refine Nat.le_of_not_lt fun q=>?_
    have q':(n:Int) < ((ns.length:Nat):Int):=by omega
    first
      | (rw [decide_eq_true q'] at h5; exact absurd h5 (by decide))
      | (simp at h5; omega)
  cases hwl with
  | cons w1 w2 =>
    cases w2
    cases w1 with
    | list ho hall=>exact ⟨_,_,ns,rfl,rfl,ho,ints_of_wellAll ns _ hall,hlen⟩
theorem post_true (l:OpenLaw) (args:List WData):l.row.toRowW.claim.post args (.bool true) args=true :=
  postW_of (r:=l.row.toRowW) (X:=(true == true))
    (show WShape.has [] (.bool true) .bool=true by first | rfl | decide | simp [WShape.has,WShape.arms,WShape.armsAll])
    (show (WTm.eq .res (.lit (.bool true))).value [] { args:=args,res:=some (.bool true),after:=args }=some (.bool (true == true)) from w_eq_bool (w_res rfl) w_lit) rfl
end Att
namespace L2
open PySem PySem.Spec PyProof.Rows
theorem vals_ints:∀ {vs:List Value} {ns:List Int},IntsAre vs ns→Vals (ns.map V.int) vs
  | _,_, .nil => .nil
  | _,_, .cons n t h => .cons ⟨t,rfl⟩ (vals_ints h)
def defArgs (s:Stmt):Arguments:=match s with
  | .FunctionDef _ a _ _ _ _ _ _ _ _=>a
  | _=>{ posonlyargs:=[],args:=[],vararg:=none,kwonlyargs:=[],kw_defaults:=[],kwarg:=none,defaults:=[] }
def defBody (s:Stmt):List Stmt:=match s with
  | .FunctionDef _ _ b _ _ _ _ _ _ _=>b
  | _=>[]
def defScope (s:Stmt):Scope:=match s with
  | .FunctionDef _ _ _ _ _ _ sc _ _ _=>sc
  | _=>{ kind := .function,names:=[],isGenerator:=false,isCoroutine:=false }
abbrev CX0:CXT:=fun _ _ _ _ _ _=>False
abbrev E0:XK:=fun _ _ _=>False
theorem pass0 {X:Cx}:Passes CX0 X E0:=fun _ _ _ _ _ _ _ h=>h.elim
structure Fun (K:PySem.W.Frag) (x qual:Str) (st:Stmt) (f:Addr) (fd:FuncData):Prop where
  ex:∃ (oc:Value) (od:Option Addr) (kV doc pm:Value) (an:Option Addr) (cdv ct:Value) (osl:Array (Option Value)),
    fd=PySem.W.fnOf x qual (defArgs st) (defBody st) (defScope st) .none kV doc pm an cdv ct∧K.lookup f=some ⟨oc,od, .func fd,osl⟩∧PySem.W.codeIn K cdv qual=true
  kp:PySem.W.keepIn K (.ref f)=true
section
variable {P:Program} {w:World} {K:PySem.W.Frag} {mg:Str→Option Value} {base:BHeap}
theorem Fun.ok {x qual:Str} {st:Stmt} {f:Addr} {fd:FuncData} {N ps:List Str} {k:Nat} {sp:Sp} (F:Fun K x qual st f fd) (S:FnScope N ps (defScope st)) (len:∀ vs H Q E,sp vs H Q E→vs.length=ps.length)
    (hbody:∀ (cdv:Value) (A:Around) (outer:List Env) (s:Shared) (H:Hp) (vs:List V) (Q:VK) (E:XK),Room k (A.deeper (envOfC qual (defScope st) s.heap.objs.size f cdv))→sp vs H Q E →
      ∃ t,PSs (cxOf CX0 P w K mg base N qual (defScope st) f cdv A outer s H E).nox (defBody st) t∧t { nx:=fun _ H'=>Q .non H',rt:=Q } (start N vs) H):FnOk P w K mg base CX0 (k + 1) f fd ps sp:=by
  obtain ⟨oc,od,kV,doc,pm,an,cdv,ct,osl,rfl,lk,hcd⟩:=F.ex
  refine fn_of lk hcd S len fun A outer s H vs Q E hr hsp=>?_
  obtain ⟨t,h,q⟩:=hbody cdv A outer s H vs Q E hr hsp
  exact ⟨t,h.nox,q⟩
theorem Fun.binds {x qual:Str} {st:Stmt} {f:Addr} {fd:FuncData} {ps:List Str} (F:Fun K x qual st f fd)
    (h:∀ (kV doc pm:Value) (an:Option Addr) (cdv ct:Value) (us:List Value),us.length=ps.length→bindArgs (PySem.W.fnOf x qual (defArgs st) (defBody st) (defScope st) .none kV doc pm an cdv ct) ⟨us,[]⟩=pure (ps.zip us)):Binds K fd ps []:=by
  obtain ⟨oc,od,kV,doc,pm,an,cdv,ct,osl,rfl,lk,hcd⟩:=F.ex
  exact .all (h kV doc pm an cdv ct)
theorem fun_mk {x qual:Str} {st:Stmt} {f:Addr} {oc:Value} {od an:Option Addr} {osl:Array (Option Value)} {kV doc pm cdv ct:Value} (l:K.lookup f=some ⟨oc,od, .func (PySem.W.fnOf x qual (defArgs st) (defBody st) (defScope st) .none kV doc pm an cdv ct),osl⟩)
    (c:PySem.W.codeIn K cdv qual=true) (k:PySem.W.keepIn K (.ref f)=true):Fun K x qual st f (PySem.W.fnOf x qual (defArgs st) (defBody st) (defScope st) .none kV doc pm an cdv ct):=⟨⟨oc,od,kV,doc,pm,an,cdv,ct,osl,rfl,l,c⟩,k⟩
end
theorem iteF {A B:Prop} (h:B):if false=true then A else B:=by
  rw [if_neg Bool.false_ne_true]
  exact h
theorem iteT {A B:Prop} (h:A):if true=true then A else B:=by
  rw [if_pos rfl]
  exact h
def Same (H H':Hp):Prop := ∀ b o,H b=some o→H' b=some o
theorem Same.refl (H:Hp):Same H H:=fun _ _ h=>h
theorem Same.trans {H H1 H2:Hp} (a:Same H H1) (b:Same H1 H2):Same H H2:=fun c o h=>b c o (a c o h)
theorem Same.free {H H':Hp} (e:Same H H') {l:Addr} (h:H' l=Option.none):H l=Option.none:=by
  cases q:H l with
  | none=>rfl
  | some o =>
    rw [e l o q] at h
    cases h
theorem Same.seq {K:PySem.W.Frag} {H H':Hp} {a:Addr} {xs:List V} (e:Same H H') (h:SqL K H a xs):SqL K H' a xs:=by
  rcases h with (h | ⟨o,h⟩) | h
  · exact .inl (.inl (e _ _ h))
  · exact .inl (.inr ⟨o,e _ _ h⟩)
  · exact .inr h
end L2
set_option maxHeartbeats 4000000
namespace L2
open PySem PySem.Spec PyProof.Rows
section
variable {κ:Type} [DecidableEq κ]
def valV (kvs:List (κ × V)) (k:κ):Option V:=(kvs.find? fun kv=>decide (kv.1=k)).map (·.2)
def putK (kvs:List (κ × V)) (k:κ) (v:V):List (κ × V) :=
  if (kvs.any fun kv=>decide (kv.1=k))=true then kvs.map (fun kv=>if kv.1=k then (kv.1,v) else kv) else kvs ++ [(k,v)]
theorem valV_pos {p:κ × V} {r:List (κ × V)} {k:κ} (e:p.1=k):valV (p :: r) k=some p.2:=by simp [valV,List.find?_cons,e]
theorem valV_neg {p:κ × V} {r:List (κ × V)} {k:κ} (e : ¬ p.1=k):valV (p :: r) k=valV r k:=by simp [valV,List.find?_cons,e]
theorem valV_any (k:κ):∀ kvs:List (κ × V),(kvs.any fun kv=>decide (kv.1=k))=(valV kvs k).isSome
  | []=>rfl
  | p :: r=>by
    rw [List.any_cons]
    by_cases e:p.1=k
    · simp only [valV_pos e,decide_eq_true e,Bool.true_or,Option.isSome_some]
    · rw [valV_neg e,decide_eq_false e,Bool.false_or]; exact valV_any k r
theorem length_putK (kvs:List (κ × V)) (k:κ) (v:V):(putK kvs k v).length ≤ kvs.length + 1:=by
  unfold putK
  split
  · rw [List.length_map]; omega
  · rw [List.length_append,List.length_cons,List.length_nil]; omega
theorem RelO.isSome_eq {o:Option V} {u:Option Value} (r:RelO o u):o.isSome=u.isSome:=by
  cases o with
  | none=>cases u with
    | none=>rfl
    | some _=>exact (show False from r).elim
  | some _=>cases u with
    | none=>exact (show False from r).elim
    | some _=>rfl
theorem KV.val {kvs:List (κ × V)} {vs:List (κ × Value)} (r:KV kvs vs) (k:κ):RelO (valV kvs k) (valueAt vs k):=by
  unfold KV at r
  induction r with
  | nil=>exact True.intro
  | @cons p q ps qs h t ih =>
    obtain ⟨h1,h2⟩:=h
    by_cases e:p.1=k
    · have e':q.1=k:=h1.symm.trans e
      have b:valueAt (q :: qs) k=some q.2:=by simp [valueAt,List.find?_cons,e']
      rw [valV_pos e,b]; exact h2
    · have e' : ¬ q.1=k:=fun z=>e (h1.trans z)
      have b:valueAt (q :: qs) k=valueAt qs k:=by simp [valueAt,List.find?_cons,e']
      rw [valV_neg e,b]; exact ih
theorem KV.any {kvs:List (κ × V)} {vs:List (κ × Value)} (r:KV kvs vs) (k:κ):(kvs.any fun kv=>decide (kv.1=k))=vs.any fun kv=>decide (kv.1=k):=by
  unfold KV at r
  induction r with
  | nil=>rfl
  | cons h t ih=>rw [List.any_cons,List.any_cons,ih,h.1]
theorem KV.repl {kvs:List (κ × V)} {vs:List (κ × Value)} (r:KV kvs vs) (k:κ) {y:V} {u:Value} (ry:RelV y u) :
    KV (kvs.map fun kv=>if kv.1=k then (kv.1,y) else kv) (vs.map fun kv=>if kv.1=k then (kv.1,u) else kv):=by
  unfold KV at r ⊢
  induction r with
  | nil=>exact .nil
  | @cons p q ps qs h t ih =>
    rw [List.map_cons,List.map_cons]
    refine .cons ?_ ih
    obtain ⟨h1,h2⟩:=h
    by_cases e:p.1=k
    · rw [if_pos e,if_pos (h1.symm.trans e)]; exact ⟨h1,ry⟩
    · rw [if_neg e,if_neg (fun z=>e (h1.trans z))]; exact ⟨h1,h2⟩
theorem KV.put {kvs:List (κ × V)} {vs:List (κ × Value)} (r:KV kvs vs) (k:κ) {y:V} {u:Value} (ry:RelV y u):KV (putK kvs k y) (stored vs k u):=by
  unfold putK stored
  rw [r.any k]
  by_cases e:(vs.any fun kv=>decide (kv.1=k))=true
  · rw [if_pos e,if_pos e]; exact r.repl k ry
  · rw [if_neg e,if_neg e]; exact Paired.snoc r ⟨rfl,ry⟩
theorem KV.length {kvs:List (κ × V)} {vs:List (κ × Value)} (r:KV kvs vs):kvs.length=vs.length:=Paired.length r
end
theorem kV_is {P:Program} {w:World} {k:Key} {u:Value} (r:RelV (kV k) u):(mixKind P w).is k u=true:=by
  cases k with
  | inl i=>obtain ⟨t,e⟩:=(show ∃ t,u=Value.int i t from r); subst e; exact mixKind_int P w i t
  | inr x=>obtain ⟨t,e⟩:=(show ∃ t,u=Value.str x t from r); subst e; exact mixKind_str P w x t
theorem items_are {P:Program} {w:World}:∀ {ks:List Key} {us:List Value},Vals (ks.map kV) us→ItemsAre (mixKind P w) ks us
  | [],_,r=>by rw [List.map_nil] at r; cases r; exact .nil
  | k :: ks,_,r=>by
    rw [List.map_cons] at r
    cases r with
    | cons h t=>exact .cons (kV_is h) (items_are t)
abbrev KT (H:Hp):List (List Key × V)→List (List Key × Addr × Value)→Prop:=Paired fun p q=>p.1=q.1∧H q.2.1=some (.tup (p.1.map kV))∧RelV p.2 q.2.2
theorem KT.val {H:Hp} {kvs:List (List Key × V)} {xs:List (List Key × Addr × Value)} (r:KT H kvs xs) (k:List Key):RelO (valV kvs k) ((atKey xs k).map (·.2)):=by
  induction r with
  | nil=>exact True.intro
  | @cons p q ps qs h t ih =>
    obtain ⟨h1,_,h2⟩:=h
    by_cases e:p.1=k
    · have e':q.1=k:=h1.symm.trans e
      have b:atKey (q :: qs) k=some q.2:=by simp [atKey,List.find?_cons,e']
      rw [valV_pos e,b]; exact h2
    · have e' : ¬ q.1=k:=fun z=>e (h1.trans z)
      have b:atKey (q :: qs) k=atKey qs k:=by simp [atKey,List.find?_cons,e']
      rw [valV_neg e,b]; exact ih
theorem KT.repl {H:Hp} {kvs:List (List Key × V)} {xs:List (List Key × Addr × Value)} (r:KT H kvs xs) (k:List Key) {y:V} {u:Value} (ry:RelV y u) :
    KT H (kvs.map fun kv=>if kv.1=k then (kv.1,y) else kv) (xs.map (putAt k u)):=by
  induction r with
  | nil=>exact .nil
  | @cons p q ps qs h t ih =>
    rw [List.map_cons,List.map_cons]
    refine .cons ?_ ih
    obtain ⟨h1,h2,h3⟩:=h
    unfold putAt
    by_cases e:p.1=k
    · rw [if_pos e,if_pos (h1.symm.trans e)]; exact ⟨h1,h2,ry⟩
    · rw [if_neg e,if_neg (fun z=>e (h1.trans z))]; exact ⟨h1,h2,h3⟩
theorem KT.put {H:Hp} {kvs:List (List Key × V)} {xs:List (List Key × Addr × Value)} (r:KT H kvs xs) (k:List Key) {b:Addr} {y:V} {u:Value} (hb:H b=some (.tup (k.map kV))) (ry:RelV y u) :
    KT H (putK kvs k y) (storedH xs k b u):=by
  have e:(kvs.any fun kv=>decide (kv.1=k))=(atKey xs k).isSome:=by
    rw [valV_any,(r.val k).isSome_eq,Option.isSome_map]
  unfold putK storedH
  rw [e]
  by_cases q:(atKey xs k).isSome=true
  · rw [if_pos q,if_pos q]; exact r.repl k ry
  · rw [if_neg q,if_neg q]; exact Paired.snoc r ⟨rfl,hb,ry⟩
theorem KT.keeps {H H':Hp} {kvs:List (List Key × V)} {xs:List (List Key × Addr × Value)} (r:KT H kvs xs) (ht:∀ b ys,H b=some (.tup ys)→H' b=some (.tup ys)):KT H' kvs xs :=
  Paired.mapP r fun _ _ z=>⟨z.1,ht _ _ z.2.1,z.2.2⟩
section
variable {P:Program} {w:World} {H:Hp} {h:Heap} {a:Addr}
theorem rd_of {u:HO} (ok:HOk P w H h) (e:Rd H a u):ObjOk P w H h a u:=e.ok ok
theorem dk_rd {kvs:List (Key × V)} (ok:HOk P w H h) (e:Rd H a (.dK kvs)):kvs.length ≤ sizeLine∧(a == sysModules)=false∧∃ vs,KV kvs vs∧h.DictOf (mixKind P w) a vs :=
  show ObjOk P w H h a (.dK kvs) from rd_of ok e
theorem dk_of {kvs:List (Key × V)} (ok:HOk P w H h) (e:H a=some (.dK kvs)):kvs.length ≤ sizeLine∧(a == sysModules)=false∧∃ vs,KV kvs vs∧h.DictOf (mixKind P w) a vs:=dk_rd ok (.inl e)
theorem key_of {ks:List Key} (ok:HOk P w H h) (e:H a=some (.tup (ks.map kV))):(tupleKind (mixKind P w)).is h ks a:=by
  obtain ⟨_,its,r,o,h1,h2,n,h3⟩:=(show ObjOk P w H h a (.tup (ks.map kV)) from ok a _ e)
  exact ⟨o,its.toArray,n,h1,h2,h3,by simpa using items_are r⟩
theorem dt_rd {kvs:List (List Key × V)} (ok:HOk P w H h) (e:Rd H a (.dT kvs)):kvs.length ≤ sizeLine∧(a == sysModules)=false ∧
    ∃ xs,KT H kvs xs∧h.DictOfH (tupleKind (mixKind P w)) a xs:=by
  obtain ⟨z,y,xs,r,o,es,ep,h1,h2,h3,h4,h5⟩:=(show ObjOk P w H h a (.dT kvs) from rd_of ok e)
  refine ⟨z,y,xs,r,o,es,ep,h1,h2,h3,h4,fun x hx=>?_,h5⟩
  have all:∀ {l:List (List Key × V)} {m:List (List Key × Addr × Value)},KT H l m→∀ x ∈ m,(tupleKind (mixKind P w)).is h x.1 x.2.1:=by
    intro l m q
    induction q with
    | nil=>intro x hx; exact nomatch hx
    | @cons p q ps qs hq t ih =>
      intro x hx
      rcases List.mem_cons.mp hx with e | hx
      · subst e
        exact key_of ok (by rw [← hq.1]; exact hq.2.1)
      · exact ih x hx
  exact all r x hx
theorem dt_of {kvs:List (List Key × V)} (ok:HOk P w H h) (e:H a=some (.dT kvs)):kvs.length ≤ sizeLine∧(a == sysModules)=false ∧
    ∃ xs,KT H kvs xs∧h.DictOfH (tupleKind (mixKind P w)) a xs:=dt_rd ok (.inl e)
end
def DGet (H:Hp) (a:Addr) (y:V) (r:Option V):Prop :=
  (∃ kvs k,Rd H a (.dK kvs)∧y=kV k∧r=valV kvs k) ∨ ∃ kvs k b,Rd H a (.dT kvs)∧y = .ref b∧H b=some (.tup (k.map kV))∧r=valV kvs k
def DPut (H:Hp) (a:Addr) (y v:V) (H':Hp):Prop :=
  (∃ kvs k,H a=some (.dK kvs)∧y=kV k∧kvs.length < sizeLine∧H'=upd H a (.dK (putK kvs k v))) ∨
  ∃ kvs k b,H a=some (.dT kvs)∧y = .ref b∧H b=some (.tup (k.map kV))∧kvs.length < sizeLine∧H'=upd H a (.dT (putK kvs k v))
theorem DGet.k {H:Hp} {a:Addr} {kvs:List (Key × V)} {k:Key} (e:H a=some (.dK kvs)):DGet H a (kV k) (valV kvs k) := .inl ⟨kvs,k, .inl e,rfl,rfl⟩
theorem DPut.k {H:Hp} {a:Addr} {kvs:List (Key × V)} {k:Key} {v:V} (e:H a=some (.dK kvs)) (hl:kvs.length < sizeLine):DPut H a (kV k) v (upd H a (.dK (putK kvs k v))) := .inl ⟨kvs,k,e,rfl,hl,rfl⟩
section
variable {X:Cx} {pins:List (Addr × Obj)} {σ:St} {H:Hp} {s:Shared} {a:Addr} {y v:V} {u r:Value} {o:Option V} {A:Around} {E:Value→Shared→Prop}
theorem Inv.big (I:Inv X pins σ H s):sysModules < s.heap.objs.size:=by
  have h:mainGlobals < s.heap.objs.size:=(I.mod.glob.keeps I.bk).lt
  exact Nat.lt_trans (by decide) h
theorem d_getItem {Q:Value→Shared→Prop} (hu:A.units + 1 < cLine) (I:Inv X pins σ H s) (g:DGet H a y (some v)) (ry:RelV y u) (h:∀ w' s',Inv X pins σ H s'→RelV v w'→Q w' s') :
    wpAny (model X.prog X.w) A (getItem (.ref a) u) Q E s:=by
  rcases g with ⟨kvs,k,e,ey,l⟩ | ⟨kvs,k,b,e,ey,eb,l⟩
  · subst ey
    obtain ⟨z,hd,vs,rel,dd⟩:=dk_rd I.hok e
    obtain ⟨w',hw,rw'⟩:=RelO.some_of (v:=v) (o:=valueAt vs k) (by rw [l]; exact rel.val k)
    exact wpAny_getItem_of (kV_is ry) dd.mapOf hw (h w' _ (I.tok _) rw')
  · subst ey
    cases (show u=Value.ref b from ry)
    obtain ⟨z,hd,xs,rel,dd⟩:=dt_rd I.hok e
    obtain ⟨w',hw,rw'⟩:=RelO.some_of (v:=v) (o:=(atKey xs k).map (·.2)) (by rw [l]; exact rel.val k)
    obtain ⟨p,hp,hp2⟩:=Option.map_eq_some_iff.mp hw
    refine wpAny_getItem_heap (tupleKind_room_in1 hu) (key_of I.hok eb) dd hp ?_
    rw [hp2]
    exact h w' _ (I.tok _) rw'
theorem d_notIn {Q:Value→Shared→Prop} (hu:A.units + 1 < cLine) (I:Inv X pins σ H s) (g:DGet H a y o) (ry:RelV y u) (h:∀ s',Inv X pins σ H s'→Q (.bool (!o.isSome)) s') :
    wpAny (model X.prog X.w) A (compareOp .NotIn u (.ref a)) Q E s:=by
  rcases g with ⟨kvs,k,e,ey,l⟩ | ⟨kvs,k,b,e,ey,eb,l⟩
  · subst ey
    obtain ⟨z,hd,vs,rel,dd⟩:=dk_rd I.hok e
    refine wpAny_notIn_of (kV_is ry) hd dd.mapOf ?_
    rw [← (rel.val k).isSome_eq, ← l]
    exact h _ (I.tok _)
  · subst ey
    cases (show u=Value.ref b from ry)
    obtain ⟨z,hd,xs,rel,dd⟩:=dt_rd I.hok e
    refine wpAny_notIn_heap (tupleKind_room_in1 hu) (key_of I.hok eb) hd dd ?_
    have q:=(rel.val k).isSome_eq
    rw [Option.isSome_map] at q
    rw [← q, ← l]
    exact h _ (I.tok _)
theorem d_write {h':Heap} {t':Nat} {ob:HO} (I:Inv X pins σ H s) (mu:Mut (H a)) (hs:Heap.SameBut a s.heap h') (he:∃ q,h'.get? a=some q) (new:ObjOk X.prog X.w (upd H a ob) h' a ob) :
    Inv X pins σ (upd H a ob) { s with heap:=h',toks:=t' } :=
  I.write (x:=a) (e:=a) mu (.inl rfl) (fun b q hb z=>(hs.2 b hb).trans z) he new
theorem dk_new {P:Program} {w:World} {H':Hp} {h':Heap} {kvs:List (Key × V)} {vs:List (Key × Value)} (z:kvs.length ≤ sizeLine) (hd:(a == sysModules)=false) (rel:KV kvs vs) (dd:h'.DictOf (mixKind P w) a vs) :
    ObjOk P w H' h' a (.dK kvs):=⟨z,hd,vs,rel,dd⟩
theorem d_setItem {H':Hp} {Q:Unit→Shared→Prop} (hu:A.units + 1 < cLine) (I:Inv X pins σ H s) (g:DPut H a y v H') (ry:RelV y u) (rv:RelV v r) (h:∀ s',Inv X pins σ H' s'→Q () s') :
    wpAny (model X.prog X.w) A (setItem (.ref a) u r) Q E s:=by
  rcases g with ⟨kvs,k,e,ey,l,eH⟩ | ⟨kvs,k,b,e,ey,eb,l,eH⟩
  · subst ey eH
    obtain ⟨z,hd,vs,rel,dd⟩:=dk_of I.hok e
    have hz:vs.length ≤ sizeLine:=by rw [← rel.length]; exact z
    have hl:(putK kvs k v).length ≤ sizeLine:=by have:=length_putK kvs k v; omega
    refine wpAny_setItem_pairs (hsz:=hz) (kV_is ry) dd fun h' dd' hs=>h _ ?_
    have he:∃ q,h'.get? a=some q:=let ⟨q,_,_,hq,_⟩:=dd'; ⟨q,hq⟩
    exact d_write I (by rw [e]; exact True.intro) hs he (dk_new hl hd (rel.put k rv) dd')
  · subst ey eH
    cases (show u=Value.ref b from ry)
    obtain ⟨z,hd,xs,rel,dd⟩:=dt_of I.hok e
    have hz:xs.length ≤ sizeLine:=by rw [← Paired.length rel]; exact z
    have hl:(putK kvs k v).length ≤ sizeLine:=by have:=length_putK kvs k v; omega
    refine wpAny_setItem_heap (hsz:=hz) (tupleKind_room_in1 hu) (key_of I.hok eb) dd fun h' dd' hs=>h _ ?_
    obtain ⟨q,es,ep,hq,h2,h3,h4,_,h5⟩:=dd'
    refine d_write I (by rw [e]; exact True.intro) hs ⟨q,hq⟩ ⟨hl,hd,_,(rel.put k eb rv).keeps fun c ys ec=>?_,q,es,ep,hq,h2,h3,h4,h5⟩
    rw [upd_ne (ne_of ec e (fun z=>nomatch z))]
    exact ec
end
section
variable {X:Cx} {pins:List (Addr × Obj)} {σ:St} {H:Hp} {s:Shared} {a:Addr} {kvs:List (Key × V)} {k:Key} {u:Value} {A:Around} {E:Value→Shared→Prop}
theorem d_len {Q:Value→Shared→Prop} (I:Inv X pins σ H s) (e:Rd H a (.dK kvs)) (h:∀ t s',Inv X pins σ H s'→Q (.int kvs.length t) s'):wpAny (model X.prog X.w) A (call (.builtin "len") [.ref a]) Q E s:=by
  obtain ⟨z,hd,vs,rel,dd⟩:=dk_rd I.hok e
  refine call_len_dict hd dd (by rw [← rel.length]; rw [sizeLine_eq] at z; omega) ?_
  rw [← rel.length]
  exact h _ _ (I.tok _)
end
def NoSl (i:Expr):Prop := ∀ ov iv,subscripted i false ov iv=operate [ov,iv] (getItem ov iv)
theorem subD_of {prog:Program} {w:World} {A:Around} {E:Value→Shared→Prop} {s:Shared} {env:Env} {value slice:Expr} {pos:Pos} {T id:String} {Q:Value→Shared→Prop}
    (hl:typeLookup (.type T) "__getitem__"=pure (some (.builtin id))) (hs:NoSl slice)
    (h:wpAny (model prog w) A (eval value env) (fun o s₁=>wpAny (model prog w) A (eval slice env) (fun i s₂=>s₂.TypeIs o T∧wpAny (model prog w) A (getItem o i) Q E s₂) E s₁) E s) :
    wpAny (model prog w) A (eval (.Subscript value slice pos) env) Q E s:=by
  refine Subscript_ (wpAny_mono h (fun o s₁ h₁=>wpAny_mono h₁ (fun i s₂ h₂=>?_) fun _ _ x=>x) fun _ _ x=>x)
  obtain ⟨hT,h₂⟩:=h₂
  unfold subscriptTail
  refine wpAny_bind ?_
  rw [getitemInPython_of_ne hT.not_modules]
  refine wpAny_bind (wpAny_specialOf hT hl ?_)
  have fin:wpAny (model prog w) A (subscripted slice false o i) (fun r s₃=>wpAny (model prog w) A (letTemporaryGo value o r >>= fun _=>pure r) Q E s₃) E s₂:=by
    rw [hs o i]
    exact wpAny_operating (wpAny_mono h₂ (fun r s₃ h₃=>wpAny_bind (wpAny_letTemporaryGo (wpAny_pure h₃))) fun _ _ x=>x)
  first
    | exact wpAny_pure (wpAny_bind fin)
    | exact wpAny_bind (wpAny_pure (wpAny_bind fin))
    | exact wpAny_bind fin
theorem dict_typeIs {X:Cx} {pins:List (Addr × Obj)} {σ:St} {H:Hp} {s:Shared} {a:Addr} {y:V} {o:Option V} (I:Inv X pins σ H s) (g:DGet H a y o):s.TypeIs (.ref a) "dict":=by
  rcases g with ⟨kvs,k,e,_,_⟩ | ⟨kvs,k,b,e,_,_,_⟩
  · obtain ⟨_,_,vs,_,dd⟩:=dk_rd I.hok e
    exact dd.typeIs
  · obtain ⟨_,_,xs,_,dd⟩:=dt_rd I.hok e
    exact dd.typeIs
def tDGet (td ty:TE):TE:=fun σ H Q=>td σ H fun x H1=>ty σ H1 fun y H2 => ∃ a v,x = .ref a∧DGet H2 a y (some v)∧Q v H2
def sDPut (td ty tv:TE):TS:=fun D σ H=>tv σ H fun v H1=>td σ H1 fun x H2=>ty σ H2 fun y H3 => ∃ a H4,x = .ref a∧DPut H3 a y v H4∧D.nx σ H4
section
variable {X:Cx} {o i e value:Expr} {pos pos' tpos:Pos} {td ty tv:TE}
theorem pe_dget (hu:X.A.units + 1 < cLine) (ho:PE X o td) (hi:PE X i ty) (hs:NoSl i):PE X (.Subscript o i pos) (tDGet td ty):=by
  intro pins s σ H Q I h
  refine subD_of PySem.F.slot_dict_getitem.lookup hs (thn (ho pins s σ H _ I h) fun u s1 ⟨x,H1,I1,rx,q1⟩=>thn (hi pins s1 σ H1 _ I1 q1) fun iv s2 ⟨y,H2,I2,ry,a,v,ex,g,q2⟩=>?_)
  subst ex
  obtain rfl:u=Value.ref a:=rx
  exact ⟨dict_typeIs I2 g,d_getItem hu I2 g ry fun w' s3 I3 rw'=>⟨v,H2,I3,rw',q2⟩⟩
theorem ps_dput (hu:X.A.units + 1 < cLine) (ho:PE X o td) (hi:PE X i ty) (hv:PE X value tv) (hs:swapsWith value (some (.Subscript o i pos')) pos.line X.env=pure false) :
    PS X (.Assign [.Subscript o i pos'] value pos) (sDPut td ty tv):=by
  intro pins s σ H D I h
  refine wpAny_Assign_Subscript (thn (hv pins s σ H _ I h) fun r s1 ⟨v,H1,I1,rv,q1⟩=>thn (ho pins s1 σ H1 _ I1 q1) fun u s2 ⟨x,H2,I2,rx,q2⟩=>thn (hi pins s2 σ H2 _ I2 q2) fun iv s3 ⟨y,H3,I3,ry,a,H4,ex,g,q3⟩=>?_) hs
  subst ex
  obtain rfl:u=Value.ref a:=rx
  exact d_setItem hu I3 g ry rv fun s4 I4=>⟨σ,H4,I4,q3⟩
end
theorem dk_empty {P:Program} {w:World} {H:Hp} (h:Heap) (hb:sysModules < h.objs.size):ObjOk P w H (h.push { cls := .type "dict",data := .dict #[] }) h.objs.size (.dK []) :=
  ⟨Nat.zero_le _,beq_eq_false_iff_ne.mpr (Ne.symm (Nat.ne_of_lt hb)),[], .nil,Heap.DictOf.new h⟩
def tDNewK:TE:=fun _ H Q => ∀ p,H p=none→Q (.ref p) (upd H p (.dK []))
section
variable {X:Cx} {pos:Pos}
theorem pe_dnewK:PE X (.Dict [] [] pos) tDNewK:=fun pins s σ H Q I h =>
  wpAny_Dict_empty ⟨.ref s.heap.objs.size,_,I.laid (a:=s.heap.objs.size) (o := .dK []) (t':=s.toks) (fun _ _ q=>Heap.get?_push_of_some _ q) (Nat.le_refl _) (dk_empty s.heap I.big),rfl,h _ (I.hok.fresh (Nat.le_refl _))⟩
end
structure M1 (X:Cx) (o:Expr) (m:Str) (apos:Pos) (e:Expr) (cpos:Pos):Prop where
  base:attributeBase o m X.env (eval o X.env)=eval o X.env
  few:((backTo cpos (starEach [e] X.env)).all (fun x => !x.1) && (backToKw cpos (keywordEach [] X.env)).all (fun x=>x.1.isSome)
    && decide (([e]:List Expr).length + ([]:List Keyword).length + (if ([]:List Keyword).isEmpty then 0 else 1) < 30))=true
  line:(apos.endLine == cpos.line)=true
  trees:backTo cpos (starEach [e] X.env)=[(false,eval e X.env)]
structure M2 (X:Cx) (o:Expr) (m:Str) (apos:Pos) (e f:Expr) (cpos:Pos):Prop where
  base:attributeBase o m X.env (eval o X.env)=eval o X.env
  few:((backTo cpos (starEach [e,f] X.env)).all (fun x => !x.1) && (backToKw cpos (keywordEach [] X.env)).all (fun x=>x.1.isSome)
    && decide (([e,f]:List Expr).length + ([]:List Keyword).length + (if ([]:List Keyword).isEmpty then 0 else 1) < 30))=true
  line:(apos.endLine == cpos.line)=true
  trees:backTo cpos (starEach [e,f] X.env)=[(false,eval e X.env),(false,eval f X.env)]
end L2
namespace L2
open PySem PySem.Spec PyProof.Rows
section
variable {X:Cx}
theorem call_lenD:CallR X (.builtin "len") (fun xs H Q => ∃ a kvs,xs=[V.ref a]∧H a=some (.dK kvs)∧Q (.int kvs.length) H):=by
  intro pins s σ H xs us Q I r h
  obtain ⟨a,kvs,rfl,ha,q⟩:=h
  obtain ⟨u,rfl,ru⟩:=vals1 r
  cases ru
  exact d_len I (.inl ha) fun t s' I'=>⟨.int kvs.length,H,I',⟨t,rfl⟩,q⟩
end
end L2
namespace DL
open PySem PySem.Spec PyProof.Rows L2
inductive D where
  | non | bl (b:Bool) | int (i:Int) | str (x:Str) | tup (xs:List D) | lst (xs:List D) | dct (ks:List Key) (ds:List D)
def mkKV (ks:List Key) (vs:List V):List (Key × V):=ks.zip vs
mutual
inductive Rep (K:PySem.W.Frag) (H:Hp):D→V→Prop
  | non:Rep K H .non .non
  | bl (b:Bool):Rep K H (.bl b) (.bl b)
  | int (i:Int):Rep K H (.int i) (.int i)
  | str (x:Str):Rep K H (.str x) (.str x)
  | tup {ds:List D} {p:Addr} {vs:List V}:SqT K H p vs→Reps K H ds vs→Rep K H (.tup ds) (.ref p)
  | lst {ds:List D} {p:Addr} {vs:List V}:SqL K H p vs→Reps K H ds vs→Rep K H (.lst ds) (.ref p)
  | dct {ks:List Key} {ds:List D} {p:Addr} {vs:List V}:ks.length=vs.length→H p=some (.dK (mkKV ks vs))→Reps K H ds vs→Rep K H (.dct ks ds) (.ref p)
inductive Reps (K:PySem.W.Frag) (H:Hp):List D→List V→Prop
  | nil:Reps K H [] []
  | cons {d:D} {v:V} {ds:List D} {vs:List V}:Rep K H d v→Reps K H ds vs→Reps K H (d :: ds) (v :: vs)
end
theorem SqL.mono {K:PySem.W.Frag} {H H':Hp} {a:Addr} {xs:List V} (e:Same H H') (h:SqL K H a xs):SqL K H' a xs:=e.seq h
theorem SqT.mono {K:PySem.W.Frag} {H H':Hp} {a:Addr} {xs:List V} (e:Same H H') (h:SqT K H a xs):SqT K H' a xs:=by
  rcases h with (h | ⟨o,h⟩) | h
  · exact .inl (.inl (e _ _ h))
  · exact .inl (.inr ⟨o,e _ _ h⟩)
  · exact .inr h
mutual
theorem Rep.mono {K:PySem.W.Frag} {H H':Hp} (e:Same H H'):∀ {d:D} {v:V},Rep K H d v→Rep K H' d v
  | _,_, .non => .non
  | _,_, .bl b => .bl b
  | _,_, .int i => .int i
  | _,_, .str x => .str x
  | _,_, .tup h r => .tup (SqT.mono e h) (Reps.mono e r)
  | _,_, .lst h r => .lst (SqL.mono e h) (Reps.mono e r)
  | _,_, .dct l h r => .dct l (e _ _ h) (Reps.mono e r)
theorem Reps.mono {K:PySem.W.Frag} {H H':Hp} (e:Same H H'):∀ {ds:List D} {vs:List V},Reps K H ds vs→Reps K H' ds vs
  | _,_, .nil => .nil
  | _,_, .cons h r => .cons (Rep.mono e h) (Reps.mono e r)
end
theorem Reps.length {K:PySem.W.Frag} {H:Hp}:∀ {ds:List D} {vs:List V},Reps K H ds vs→vs.length=ds.length
  | _,_, .nil=>rfl
  | _,_, .cons _ r=>by simp [Reps.length r]
theorem Reps.get {K:PySem.W.Frag} {H:Hp}:∀ {ds:List D} {vs:List V},Reps K H ds vs→∀ {i:Nat} {d:D},ds[i]?=some d→∃ v,vs[i]?=some v∧Rep K H d v
  | _,_, .nil,i,d,e=>by simp at e
  | _,_, .cons (v:=v) h r,0,d,e=>by simp at e; subst e; exact ⟨v,rfl,h⟩
  | _,_, .cons h r,i + 1,d,e=>by
    obtain ⟨v,a,b⟩:=Reps.get r (i:=i) (d:=d) (by simpa using e)
    exact ⟨v,by simpa using a,b⟩
theorem Reps.getV {K:PySem.W.Frag} {H:Hp}:∀ {ds:List D} {vs:List V},Reps K H ds vs→∀ {i:Nat} {v:V},vs[i]?=some v→∃ d,ds[i]?=some d∧Rep K H d v
  | _,_, .nil,i,d,e=>by simp at e
  | _,_, .cons (d:=d) h r,0,v,e=>by simp at e; subst e; exact ⟨d,rfl,h⟩
  | _,_, .cons h r,i + 1,v,e=>by
    obtain ⟨d,a,b⟩:=Reps.getV r (i:=i) (v:=v) (by simpa using e)
    exact ⟨d,by simpa using a,b⟩
theorem Reps.app {K:PySem.W.Frag} {H:Hp}:∀ {ds:List D} {vs:List V} {es:List D} {us:List V},Reps K H ds vs→Reps K H es us→Reps K H (ds ++ es) (vs ++ us)
  | _,_,_,_, .nil,r=>r
  | _,_,_,_, .cons h r,q => .cons h (Reps.app r q)
theorem Reps.set {K:PySem.W.Frag} {H:Hp} {d:D} {v:V} (h:Rep K H d v):∀ {ds:List D} {vs:List V} (i:Nat),Reps K H ds vs→Reps K H (ds.set i d) (vs.set i v)
  | _,_,_, .nil => .nil
  | _,_,0, .cons _ r => .cons h r
  | _,_,i + 1, .cons q r => .cons q (Reps.set h i r)
theorem Reps.one {K:PySem.W.Frag} {H:Hp} {d:D} {v:V} (h:Rep K H d v):Reps K H [d] [v] := .cons h .nil
theorem Reps.ints {K:PySem.W.Frag} {H:Hp}:∀ ns:List Int,Reps K H (ns.map D.int) (ns.map V.int)
  | [] => .nil
  | n :: ns => .cons (.int n) (Reps.ints ns)
mutual
def flat:D→Bool
  | .lst _=>false
  | .dct _ _=>false
  | .tup xs=>flats xs
  | _=>true
def flats:List D→Bool
  | []=>true
  | d :: ds=>flat d && flats ds
end
def hide (P:List Addr) (H:Hp):Hp:=fun a=>if a ∈ P then none else H a
theorem hide_sub (P:List Addr) (H:Hp):Same (hide P H) H:=fun b o e=>by
  unfold hide at e
  split at e
  · cases e
  · exact e
theorem hide_get {P:List Addr} {H:Hp} {a:Addr} {o:HO} (h:H a=some o) (n:a ∉ P):hide P H a=some o:=by
  unfold hide; rw [if_neg n]; exact h
theorem of_hide {P:List Addr} {H:Hp} {a:Addr} {o:HO} (h:hide P H a=some o):a ∉ P∧H a=some o:=by
  unfold hide at h
  split at h
  · cases h
  · exact ⟨by assumption,h⟩
theorem hide_nil (H:Hp):hide [] H=H:=by funext a; simp [hide]
theorem hide_less {P P':List Addr} (H:Hp) (h:∀ a ∈ P',a ∈ P):Same (hide P H) (hide P' H):=fun b o e=>by
  obtain ⟨n,e⟩:=of_hide e
  exact hide_get e fun z=>n (h b z)
def mutO:HO→Bool
  | .lst _=>true
  | .dK _=>true
  | _=>false
abbrev MO:={o:HO // mutO o=true}
def mL (vs:List V):MO:=⟨.lst vs,rfl⟩
def mD (kvs:List (Key × V)):MO:=⟨.dK kvs,rfl⟩
def Lists (H:Hp) (P:List Addr):Prop := ∀ p ∈ P, ∃ o:MO,H p=some o.1
theorem Lists.mono {H H':Hp} {P:List Addr} (h:Lists H P) (e:Same H H'):Lists H' P:=fun p hp=>let ⟨vs,q⟩:=h p hp; ⟨vs,e _ _ q⟩
theorem SqT.hid {K:PySem.W.Frag} {H:Hp} {P:List Addr} {a:Addr} {xs:List V} (m:Lists H P) (h:SqT K H a xs):SqT K (hide P H) a xs:=by
  rcases h with (h | ⟨o,h⟩) | h
  · exact .inl (.inl (hide_get h fun z=>by obtain ⟨⟨vs,w⟩,q⟩:=m _ z; rw [q] at h; cases h; cases w))
  · exact .inl (.inr ⟨o,hide_get h fun z=>by obtain ⟨⟨vs,w⟩,q⟩:=m _ z; rw [q] at h; cases h; cases w⟩)
  · exact .inr h
mutual
theorem Rep.hid {K:PySem.W.Frag} {H:Hp} {P:List Addr} (m:Lists H P):∀ {d:D} {v:V},flat d=true→Rep K H d v→Rep K (hide P H) d v
  | _,_,_, .non => .non
  | _,_,_, .bl b => .bl b
  | _,_,_, .int i => .int i
  | _,_,_, .str x => .str x
  | _,_,f, .tup h r => .tup (SqT.hid m h) (Reps.hid m (by simpa [flat] using f) r)
  | _,_,f, .lst h r=>by simp [flat] at f
  | _,_,f, .dct _ h r=>by simp [flat] at f
theorem Reps.hid {K:PySem.W.Frag} {H:Hp} {P:List Addr} (m:Lists H P):∀ {ds:List D} {vs:List V},flats ds=true→Reps K H ds vs→Reps K (hide P H) ds vs
  | _,_,_, .nil => .nil
  | _,_,f, .cons h r=>by
    simp [flats] at f
    exact .cons (Rep.hid m f.1 h) (Reps.hid m f.2 r)
end
mutual
inductive RepD (K:PySem.W.Frag) (H0 H:Hp):D→V→List Addr→Prop
  | flat {d:D} {v:V}:flat d=true→Rep K H0 d v→RepD K H0 H d v []
  | tup {ds:List D} {p:Addr} {vs:List V} {B:List Addr}:SqT K H0 p vs→RepDs K H0 H ds vs B→RepD K H0 H (.tup ds) (.ref p) B
  | lst {ds:List D} {p:Addr} {vs:List V} {B:List Addr}:H p=some (.lst vs)→RepDs K H0 H ds vs B→RepD K H0 H (.lst ds) (.ref p) (p :: B)
  | dct {ks:List Key} {ds:List D} {p:Addr} {vs:List V} {B:List Addr}:ks.length=vs.length→H p=some (.dK (mkKV ks vs))→RepDs K H0 H ds vs B→RepD K H0 H (.dct ks ds) (.ref p) (p :: B)
inductive RepDs (K:PySem.W.Frag) (H0 H:Hp):List D→List V→List Addr→Prop
  | nil:RepDs K H0 H [] [] []
  | cons {d:D} {v:V} {ds:List D} {vs:List V} {B C:List Addr}:RepD K H0 H d v B→RepDs K H0 H ds vs C→RepDs K H0 H (d :: ds) (v :: vs) (B ++ C)
end
mutual
theorem RepD.mono {K:PySem.W.Frag} {H0 H H0' H':Hp} (e:Same H0 H0'):∀ {d:D} {v:V} {B:List Addr},RepD K H0 H d v B→(∀ p ∈ B, ∀ o,H p=some o→H' p=some o)→RepD K H0' H' d v B
  | _,_,_, .flat f r,_ => .flat f (Rep.mono e r)
  | _,_,_, .tup h r,k => .tup (SqT.mono e h) (RepDs.mono e r k)
  | _,_,_, .lst h r,k => .lst (k _ (List.mem_cons_self ..) _ h) (RepDs.mono e r fun p hp=>k p (List.mem_cons_of_mem _ hp))
  | _,_,_, .dct l h r,k => .dct l (k _ (List.mem_cons_self ..) _ h) (RepDs.mono e r fun p hp=>k p (List.mem_cons_of_mem _ hp))
theorem RepDs.mono {K:PySem.W.Frag} {H0 H H0' H':Hp} (e:Same H0 H0'):∀ {ds:List D} {vs:List V} {B:List Addr},RepDs K H0 H ds vs B→(∀ p ∈ B, ∀ o,H p=some o→H' p=some o)→RepDs K H0' H' ds vs B
  | _,_,_, .nil,_ => .nil
  | _,_,_, .cons h r,k => .cons (RepD.mono e h fun p hp=>k p (List.mem_append_left _ hp)) (RepDs.mono e r fun p hp=>k p (List.mem_append_right _ hp))
end
mutual
theorem RepD.rep {K:PySem.W.Frag} {H0 H H1:Hp} (e:Same H0 H1):∀ {d:D} {v:V} {B:List Addr},RepD K H0 H d v B→(∀ p ∈ B, ∀ o,H p=some o→H1 p=some o)→Rep K H1 d v
  | _,_,_, .flat f r,_=>Rep.mono e r
  | _,_,_, .tup h r,k => .tup (SqT.mono e h) (RepDs.rep e r k)
  | _,_,_, .lst h r,k => .lst (SqL.of (k _ (List.mem_cons_self ..) _ h)) (RepDs.rep e r fun p hp=>k p (List.mem_cons_of_mem _ hp))
  | _,_,_, .dct l h r,k => .dct l (k _ (List.mem_cons_self ..) _ h) (RepDs.rep e r fun p hp=>k p (List.mem_cons_of_mem _ hp))
theorem RepDs.rep {K:PySem.W.Frag} {H0 H H1:Hp} (e:Same H0 H1):∀ {ds:List D} {vs:List V} {B:List Addr},RepDs K H0 H ds vs B→(∀ p ∈ B, ∀ o,H p=some o→H1 p=some o)→Reps K H1 ds vs
  | _,_,_, .nil,_ => .nil
  | _,_,_, .cons h r,k => .cons (RepD.rep e h fun p hp=>k p (List.mem_append_left _ hp)) (RepDs.rep e r fun p hp=>k p (List.mem_append_right _ hp))
end
mutual
theorem RepD.lists {K:PySem.W.Frag} {H0 H:Hp}:∀ {d:D} {v:V} {B:List Addr},RepD K H0 H d v B→Lists H B
  | _,_,_, .flat f r=>fun p hp=>by cases hp
  | _,_,_, .tup h r=>RepDs.lists r
  | _,_,_, .lst h r=>fun p hp=>by
    rcases List.mem_cons.mp hp with rfl | hp
    · exact ⟨mL _,h⟩
    · exact RepDs.lists r p hp
  | _,_,_, .dct _ h r=>fun p hp=>by
    rcases List.mem_cons.mp hp with rfl | hp
    · exact ⟨mD _,h⟩
    · exact RepDs.lists r p hp
theorem RepDs.lists {K:PySem.W.Frag} {H0 H:Hp}:∀ {ds:List D} {vs:List V} {B:List Addr},RepDs K H0 H ds vs B→Lists H B
  | _,_,_, .nil=>fun p hp=>by cases hp
  | _,_,_, .cons h r=>fun p hp=>(List.mem_append.mp hp).elim (RepD.lists h p) (RepDs.lists r p)
end
mutual
theorem RepD.hid {K:PySem.W.Frag} {H0 H:Hp} {P:List Addr} (m:Lists H P) (e:Same H0 H):∀ {d:D} {v:V} {B:List Addr},RepD K H0 H d v B→RepD K (hide P H) H d v B
  | _,_,_, .flat f r => .flat f (Rep.hid m f (Rep.mono e r))
  | _,_,_, .tup h r => .tup (SqT.hid m (SqT.mono e h)) (RepDs.hid m e r)
  | _,_,_, .lst h r => .lst h (RepDs.hid m e r)
  | _,_,_, .dct l h r => .dct l h (RepDs.hid m e r)
theorem RepDs.hid {K:PySem.W.Frag} {H0 H:Hp} {P:List Addr} (m:Lists H P) (e:Same H0 H):∀ {ds:List D} {vs:List V} {B:List Addr},RepDs K H0 H ds vs B→RepDs K (hide P H) H ds vs B
  | _,_,_, .nil => .nil
  | _,_,_, .cons h r => .cons (RepD.hid m e h) (RepDs.hid m e r)
end
theorem Lists.app {H:Hp} {P Q:List Addr} (h:Lists H P) (k:Lists H Q):Lists H (P ++ Q):=fun p hp=>(List.mem_append.mp hp).elim (h p) (k p)
inductive Ev where
  | cl (d:D) | tm (d:D) | nw (xs:List D) | dn (d:D)
def Ev.d:Ev→D
  | .cl d=>d
  | .tm d=>d
  | .nw xs => .lst xs
  | .dn d=>d
def RepEv (K:PySem.W.Frag) (F A:List Addr) (H H':Hp):Ev→V→Prop
  | .cl d,v=>Rep K (hide (A ++ F) H') d v
  | .tm d,v=>Rep K (hide F H') d v
  | .nw xs,v => ∃ p vs,v = .ref p∧H p=none∧H' p=some (.lst vs)∧Reps K (hide (p :: (A ++ F)) H') xs vs
  | .dn d,v => ∃ B,B.Nodup∧(∀ b ∈ B,H b=none)∧RepD K (hide (B ++ (A ++ F)) H') H' d v B
theorem same_hide {P:List Addr} {H H':Hp} (e:Same H H'):Same (hide P H) (hide P H'):=fun b o h=>by
  obtain ⟨n,h⟩:=of_hide h
  exact hide_get (e _ _ h) n
theorem RepEv.mono {K:PySem.W.Frag} {F A:List Addr} {H H1 H2:Hp} {r:Ev} {v:V} (h:RepEv K F A H H1 r v) (e:Same H1 H2):RepEv K F A H H2 r v:=by
  cases r with
  | cl d=>exact Rep.mono (same_hide e) h
  | tm d=>exact Rep.mono (same_hide e) h
  | nw xs =>
    obtain ⟨p,vs,rfl,h1,h2,h3⟩:=h
    exact ⟨p,vs,rfl,h1,e _ _ h2,Reps.mono (same_hide e) h3⟩
  | dn d =>
    obtain ⟨B,h1,h2,h3⟩:=h
    exact ⟨B,h1,h2,RepD.mono (same_hide e) h3 fun p _ o q=>e _ _ q⟩
theorem RepEv.back {K:PySem.W.Frag} {F A:List Addr} {H0 H H1:Hp} {r:Ev} {v:V} (h:RepEv K F A H H1 r v) (e:Same H0 H):RepEv K F A H0 H1 r v:=by
  cases r with
  | cl d=>exact h
  | tm d=>exact h
  | nw xs =>
    obtain ⟨p,vs,rfl,h1,h2,h3⟩:=h
    refine ⟨p,vs,rfl,?_,h2,h3⟩
    cases q:H0 p with
    | none=>rfl
    | some o=>rw [e _ _ q] at h1; cases h1
  | dn d =>
    obtain ⟨B,h1,h2,h3⟩:=h
    exact ⟨B,h1,fun b hb=>Same.free e (h2 b hb),h3⟩
theorem RepEv.full {K:PySem.W.Frag} {F A:List Addr} {H H':Hp} {r:Ev} {v:V} (h:RepEv K F A H H' r v):Rep K H' r.d v:=by
  cases r with
  | cl d=>exact Rep.mono (hide_sub _ _) h
  | tm d=>exact Rep.mono (hide_sub _ _) h
  | nw xs =>
    obtain ⟨p,vs,rfl,h1,h2,h3⟩:=h
    exact .lst (SqL.of h2) (Reps.mono (hide_sub _ _) h3)
  | dn d =>
    obtain ⟨B,h1,h2,h3⟩:=h
    exact h3.rep (hide_sub _ _) fun _ _ _ q=>q
theorem notin_lists {H:Hp} {P:List Addr} {p:Addr} (m:Lists H P) (h:H p=none):p ∉ P:=fun z=>by
  obtain ⟨vs,q⟩:=m _ z
  rw [q] at h; cases h
theorem RepEv.cleanF {K:PySem.W.Frag} {F A:List Addr} {H H':Hp} {r:Ev} {v:V} (m:Lists H (A ++ F)) (h:RepEv K F A H H' r v):Rep K (hide F H') r.d v:=by
  cases r with
  | cl d=>exact Rep.mono (hide_less H' fun a z=>List.mem_append_right _ z) h
  | tm d=>exact h
  | nw xs =>
    obtain ⟨p,vs,rfl,h1,h2,h3⟩:=h
    have n:p ∉ F:=fun z=>notin_lists m h1 (List.mem_append_right _ z)
    exact .lst (SqL.of (hide_get h2 n)) (Reps.mono (hide_less H' fun a z=>List.mem_cons_of_mem _ (List.mem_append_right _ z)) h3)
  | dn d =>
    obtain ⟨B,h1,h2,h3⟩:=h
    refine h3.rep (hide_less H' fun a z=>List.mem_append_right _ (List.mem_append_right _ z)) fun b hb o q=>hide_get q fun z=>?_
    exact notin_lists m (h2 b hb) (List.mem_append_right _ z)
def Ev.ok:Ev→Bool
  | .cl _=>true
  | .tm d=>flat d
  | .nw _=>true
  | .dn _=>true
theorem RepEv.clean {K:PySem.W.Frag} {F A:List Addr} {H H':Hp} {r:Ev} {v:V} (m:Lists H (A ++ F)) (e:Same H H') (h:RepEv K F A H H' r v) (c:r.ok=true):Rep K (hide (A ++ F) H') r.d v:=by
  cases r with
  | cl d=>exact h
  | tm d =>
    have m':Lists H' (A ++ F):=m.mono e
    exact Rep.hid m' c (Rep.mono (hide_sub _ _) h)
  | nw xs =>
    obtain ⟨p,vs,rfl,h1,h2,h3⟩:=h
    have n:p ∉ A ++ F:=notin_lists m h1
    exact .lst (SqL.of (hide_get h2 n)) (Reps.mono (hide_less H' fun a z=>List.mem_cons_of_mem _ z) h3)
  | dn d =>
    obtain ⟨B,h1,h2,h3⟩:=h
    exact h3.rep (hide_less H' fun a z=>List.mem_append_right _ z) fun b hb o q=>hide_get q fun z=>notin_lists m (h2 b hb) z
inductive Sl where
  | no | val (d:D) | own (xs:List D) | dp (d:D)
abbrev Th:=List Sl
inductive RSl (K:PySem.W.Frag) (H0 H:Hp):Th→L2.St→List Addr→Prop
  | nil:RSl K H0 H [] [] []
  | no {x:Option V} {t:Th} {σ:L2.St} {A:List Addr}:RSl K H0 H t σ A→RSl K H0 H (.no :: t) (x :: σ) A
  | val {d:D} {v:V} {t:Th} {σ:L2.St} {A:List Addr}:Rep K H0 d v→RSl K H0 H t σ A→RSl K H0 H (.val d :: t) (some v :: σ) A
  | own {p:Addr} {vs:List V} {ds:List D} {t:Th} {σ:L2.St} {A:List Addr}:H p=some (.lst vs)→Reps K H0 ds vs→RSl K H0 H t σ A→RSl K H0 H (.own ds :: t) (some (.ref p) :: σ) (p :: A)
  | dp {d:D} {v:V} {B:List Addr} {t:Th} {σ:L2.St} {A:List Addr}:RepD K H0 H d v B→RSl K H0 H t σ A→RSl K H0 H (.dp d :: t) (some v :: σ) (B ++ A)
structure RS (K:PySem.W.Frag) (F:List Addr) (H:Hp) (A:List Addr) (t:Th) (σ:L2.St):Prop where
  mu:Lists H (A ++ F)
  nd:A.Nodup
  dj:∀ p ∈ A,p ∉ F
  rel:RSl K (hide (A ++ F) H) H t σ A
theorem RSl.mono {K:PySem.W.Frag} {H0 H H0' H':Hp} (e0:Same H0 H0'):∀ {t:Th} {σ:L2.St} {A:List Addr},RSl K H0 H t σ A→(∀ p ∈ A, ∀ o,H p=some o→H' p=some o)→RSl K H0' H' t σ A
  | _,_,_, .nil,_ => .nil
  | _,_,_, .no r,e => .no (RSl.mono e0 r e)
  | _,_,_, .val h r,e => .val (Rep.mono e0 h) (RSl.mono e0 r e)
  | _,_,_, .own h1 h2 r,e => .own (e _ (List.mem_cons_self ..) _ h1) (Reps.mono e0 h2) (RSl.mono e0 r fun p hp=>e p (List.mem_cons_of_mem _ hp))
  | _,_,_, .dp h r,e => .dp (RepD.mono e0 h fun p hp=>e p (List.mem_append_left _ hp)) (RSl.mono e0 r fun p hp=>e p (List.mem_append_right _ hp))
theorem RS.grow {K:PySem.W.Frag} {F A:List Addr} {H H':Hp} {t:Th} {σ:L2.St} (h:RS K F H A t σ) (e:Same H H'):RS K F H' A t σ :=
  ⟨h.mu.mono e,h.nd,h.dj,h.rel.mono (same_hide e) fun p _ o q=>e _ _ q⟩
theorem RSl.len {K:PySem.W.Frag} {H0 H:Hp}:∀ {t:Th} {σ:L2.St} {A:List Addr},RSl K H0 H t σ A→σ.length=t.length
  | _,_,_, .nil=>rfl
  | _,_,_, .no r=>by simp [RSl.len r]
  | _,_,_, .val _ r=>by simp [RSl.len r]
  | _,_,_, .own _ _ r=>by simp [RSl.len r]
  | _,_,_, .dp _ r=>by simp [RSl.len r]
theorem RSl.getVal {K:PySem.W.Frag} {H0 H:Hp}:∀ {t:Th} {σ:L2.St} {A:List Addr},RSl K H0 H t σ A→∀ {i:Nat} {d:D},t[i]?=some (.val d)→∃ v,σ[i]?=some (some v)∧Rep K H0 d v
  | _,_,_, .nil,i,d,e=>by simp at e
  | _,_,_, .no r,0,d,e=>by simp at e
  | _,_,_, .no r,i + 1,d,e=>by simpa using RSl.getVal r (i:=i) (by simpa using e)
  | _,_,_, .val (v:=v) h r,0,d,e=>by simp at e; subst e; exact ⟨v,rfl,h⟩
  | _,_,_, .val h r,i + 1,d,e=>by simpa using RSl.getVal r (i:=i) (by simpa using e)
  | _,_,_, .own _ _ r,0,d,e=>by simp at e
  | _,_,_, .own _ _ r,i + 1,d,e=>by simpa using RSl.getVal r (i:=i) (by simpa using e)
  | _,_,_, .dp _ r,0,d,e=>by simp at e
  | _,_,_, .dp _ r,i + 1,d,e=>by simpa using RSl.getVal r (i:=i) (by simpa using e)
theorem RSl.getOwn {K:PySem.W.Frag} {H0 H:Hp}:∀ {t:Th} {σ:L2.St} {A:List Addr},RSl K H0 H t σ A→∀ {i:Nat} {ds:List D},t[i]?=some (.own ds)→∃ p vs,σ[i]?=some (some (.ref p))∧p ∈ A∧H p=some (.lst vs)∧Reps K H0 ds vs
  | _,_,_, .nil,i,d,e=>by simp at e
  | _,_,_, .no r,0,d,e=>by simp at e
  | _,_,_, .no r,i + 1,d,e=>by simpa using RSl.getOwn r (i:=i) (by simpa using e)
  | _,_,_, .val (v:=v) h r,0,d,e=>by simp at e
  | _,_,_, .val h r,i + 1,d,e=>by simpa using RSl.getOwn r (i:=i) (by simpa using e)
  | _,_,_, .own (p:=p) (vs:=vs) h1 h2 r,0,d,e=>by simp at e; subst e; exact ⟨p,vs,rfl,List.mem_cons_self ..,h1,h2⟩
  | _,_,_, .own h1 h2 r,i + 1,d,e=>by
    obtain ⟨p,vs,a,b,c,f⟩:=RSl.getOwn r (i:=i) (ds:=d) (by simpa using e)
    exact ⟨p,vs,by simpa using a,List.mem_cons_of_mem _ b,c,f⟩
  | _,_,_, .dp _ r,0,d,e=>by simp at e
  | _,_,_, .dp _ r,i + 1,d,e=>by
    obtain ⟨p,vs,a,b,c,f⟩:=RSl.getOwn r (i:=i) (ds:=d) (by simpa using e)
    exact ⟨p,vs,by simpa using a,List.mem_append_right _ b,c,f⟩
theorem RSl.getDp {K:PySem.W.Frag} {H0 H:Hp}:∀ {t:Th} {σ:L2.St} {A:List Addr},RSl K H0 H t σ A→A.Nodup→∀ {i:Nat} {d:D},t[i]?=some (.dp d)→∃ v B,σ[i]?=some (some v)∧(∀ b ∈ B,b ∈ A)∧B.Nodup∧RepD K H0 H d v B
  | _,_,_, .nil,n,i,d,e=>by simp at e
  | _,_,_, .no r,n,0,d,e=>by simp at e
  | _,_,_, .no r,n,i + 1,d,e=>by simpa using RSl.getDp r n (i:=i) (by simpa using e)
  | _,_,_, .val (v:=v) h r,n,0,d,e=>by simp at e
  | _,_,_, .val h r,n,i + 1,d,e=>by simpa using RSl.getDp r n (i:=i) (by simpa using e)
  | _,_,_, .own _ _ r,n,0,d,e=>by simp at e
  | _,_,_, .own _ _ r,n,i + 1,d,e=>by
    obtain ⟨v,B,a,b,n',c⟩:=RSl.getDp r (List.nodup_cons.mp n).2 (i:=i) (d:=d) (by simpa using e)
    exact ⟨v,B,by simpa using a,fun x hx=>List.mem_cons_of_mem _ (b x hx),n',c⟩
  | _,_,_, .dp (v:=v) (B:=B) h r,n,0,d,e=>by simp at e; subst e; exact ⟨v,B,rfl,fun x hx=>List.mem_append_left _ hx,(List.nodup_append.mp n).1,h⟩
  | _,_,_, .dp h r,n,i + 1,d,e=>by
    obtain ⟨v,B,a,b,n',c⟩:=RSl.getDp r (List.nodup_append.mp n).2.1 (i:=i) (d:=d) (by simpa using e)
    exact ⟨v,B,by simpa using a,fun x hx=>List.mem_append_right _ (b x hx),n',c⟩
structure Gr (A:List Addr) (H:Hp) (A':List Addr) (H':Hp):Prop where
  kp:∀ b o,b ∉ A→H b=some o→H' b=some o
  al:∀ b ∈ A,H' b ≠ none
  nw:∀ b ∈ A',b ∈ A ∨ H b=none
theorem Gr.refl {A:List Addr} {H:Hp} (m:Lists H A):Gr A H A H:=⟨fun _ _ _ h=>h,fun b hb=>by obtain ⟨vs,q⟩:=m b hb; rw [q]; simp,fun b h => .inl h⟩
theorem Gr.of_same {A:List Addr} {H H':Hp} (m:Lists H A) (e:Same H H'):Gr A H A H':=⟨fun _ _ _ h=>e _ _ h,fun b hb=>by obtain ⟨vs,q⟩:=m b hb; rw [e _ _ q]; simp,fun b h => .inl h⟩
theorem Gr.trans {A A1 A2:List Addr} {H H1 H2:Hp} (a:Gr A H A1 H1) (b:Gr A1 H1 A2 H2):Gr A H A2 H2 where
  kp:=fun x o n h=>b.kp x o (fun z=>by rcases a.nw x z with q | q; exact n q; rw [q] at h; cases h) (a.kp x o n h)
  al:=fun x hx=>by
    by_cases z:x ∈ A1
    · exact b.al x z
    · have:=a.al x hx
      cases q:H1 x with
      | none=>exact absurd q this
      | some o=>rw [b.kp x o z q]; simp
  nw:=fun x hx=>by
    rcases b.nw x hx with q | q
    · exact a.nw x q
    · by_cases z:x ∈ A
      · exact .inl z
      · refine .inr ?_
        cases w:H x with
        | none=>rfl
        | some o=>rw [a.kp x o z w] at q; cases q
theorem Gr.same {F A A':List Addr} {H H':Hp} (g:Gr A H A' H'):Same (hide (A ++ F) H) (hide (A' ++ F) H'):=fun b o h=>by
  obtain ⟨n,h⟩:=of_hide h
  have n1:b ∉ A:=fun z=>n (List.mem_append_left _ z)
  refine hide_get (g.kp b o n1 h) fun z=>?_
  rcases List.mem_append.mp z with z | z
  · rcases g.nw b z with q | q
    · exact n1 q
    · rw [q] at h; cases h
  · exact n (List.mem_append_right _ z)
end DL
namespace DL
open PySem PySem.Spec PyProof.Rows L2
abbrev DE:=Th→Option Ev
def dE (K:PySem.W.Frag) (F:List Addr) (f:DE):TE:=fun σ H Q => ∃ A t r,RS K F H A t σ∧f t=some r∧∀ v H',Same H H'→RepEv K F A H H' r v→Q v H'
theorem PE.imp {X:Cx} {e:Expr} {t t':TE} (h:PE X e t) (i:∀ σ H Q,t' σ H Q→t σ H Q):PE X e t':=fun pins s σ H Q I q=>h pins s σ H Q I (i σ H Q q)
section
variable {X:Cx} {F:List Addr} {a b c:Expr} {fa fb fc:DE} {pos:Pos}
def dVar (i:Nat):DE:=fun t=>match t[i]? with
  | some (.val d)=>some (.cl d)
  | some (.own xs)=>some (.tm (.lst xs))
  | some (.dp d)=>some (.tm d)
  | _=>none
theorem ped_var (i:Nat) {x:Str} (hN:X.N[i]?=some x:=by rfl) (hv:Vis X.env.scope x:=by first | exact Or.inl rfl | exact Or.inr (Or.inl rfl) | exact Or.inr (Or.inr rfl)) (hd:(x == ("__debug__":Str))=false:=by decide)
    (hcd:(x == ("__classdict__":Str))=false:=by decide):PE X (.Name x pos) (dE X.K F (dVar i)):=by
  refine PE.imp (pe_var (i:=i) hN hv hd hcd) ?_
  rintro σ H Q ⟨A,t,r,R,e,h⟩
  unfold dVar at e
  split at e
  · rename_i d q
    cases e
    obtain ⟨v,h1,h2⟩:=R.rel.getVal q
    exact ⟨v,h1,h v H (Same.refl H) h2⟩
  · rename_i ds q
    cases e
    obtain ⟨p,vs,h1,h2,h3,h4⟩:=R.rel.getOwn q
    refine ⟨_,h1,h _ H (Same.refl H) ?_⟩
    exact .lst (SqL.of (hide_get h3 (R.dj p h2))) (Reps.mono (hide_less H fun a z=>List.mem_append_right _ z) h4)
  · rename_i d q
    cases e
    obtain ⟨v,B,h1,h2,h0,h3⟩:=R.rel.getDp R.nd q
    refine ⟨_,h1,h _ H (Same.refl H) ?_⟩
    exact h3.rep (hide_less H fun a z=>List.mem_append_right _ z) fun b hb o w=>hide_get w (R.dj b (h2 b hb))
  · cases e
def dC (d:D):DE:=fun _=>some (.cl d)
theorem ped_int {i j pos}:PE X (.Constant (.int i) j pos) (dE X.K F (dC (.int i))):=PE.imp pe_int fun σ H Q ⟨A,t,r,R,e,h⟩=>by cases e; exact h _ H (Same.refl H) (.int i)
theorem ped_bl {b j pos}:PE X (.Constant (.bool b) j pos) (dE X.K F (dC (.bl b))):=PE.imp pe_bl fun σ H Q ⟨A,t,r,R,e,h⟩=>by cases e; exact h _ H (Same.refl H) (.bl b)
def OpD (X:Cx) (F:List Addr) (f:Value→Value→Sem Value) (k:Ev→Ev→Option Ev):Prop :=
  ∀ (pins:List (Addr × Obj)) (s:Shared) (σ:L2.St) (H0 H:Hp) (A:List Addr) (x y:V) (v u:Value) (Q:VK) (r1 r2 r:Ev),Inv X pins σ H s→Lists H0 (A ++ F)→Same H0 H→RelV x v→RelV y u →
    RepEv X.K F A H0 H r1 x→RepEv X.K F A H0 H r2 y→k r1 r2=some r→(∀ z H',Same H H'→RepEv X.K F A H0 H' r z→Q z H')→wpAny (model X.prog X.w) X.A (f v u) (EP X pins σ Q) X.xe s
def d2 (k:Ev→Ev→Option Ev) (fa fb:DE):DE:=fun t=>(fa t).bind fun r1=>(fb t).bind fun r2=>k r1 r2
theorem two {k:Ev→Ev→Option Ev} {σ:L2.St} {H:Hp} {Q:VK} (h:dE X.K F (d2 k fa fb) σ H Q):∃ A t r1 r2 r,RS X.K F H A t σ∧fa t=some r1∧fb t=some r2∧k r1 r2=some r ∧
    (∀ v H',Same H H'→RepEv X.K F A H H' r v→Q v H')∧dE X.K F fa σ H fun x H1=>dE X.K F fb σ H1 fun y H2=>Same H H2∧RepEv X.K F A H H2 r1 x∧RepEv X.K F A H H2 r2 y:=by
  obtain ⟨A,t,r,R,e,h⟩:=h
  unfold d2 at e
  cases e1:fa t with
  | none=>rw [e1] at e; cases e
  | some r1 =>
    cases e2:fb t with
    | none=>rw [e1,e2] at e; cases e
    | some r2 =>
      rw [e1,e2] at e
      exact ⟨A,t,r1,r2,r,R,e1,e2,e,h,A,t,r1,R,e1,fun x H1 g1 q1=>⟨A,t,r2,R.grow g1,e2,fun y H2 g2 q2=>⟨g1.trans g2,q1.mono g2,q2.back g1⟩⟩⟩
theorem ped_op {op:Operator} {k:Ev→Ev→Option Ev} (ho:OpD X F (binaryOp op) k) (ha:PE X a (dE X.K F fa)) (hb:PE X b (dE X.K F fb)):PE X (.BinOp a op b pos) (dE X.K F (d2 k fa fb)):=by
  intro pins s σ H Q I h
  obtain ⟨A,t,r1,r2,r,R,e1,e2,e,h,w⟩:=two h
  refine wpAny_BinOp (bin ha hb I w fun v u s2 x y H2 I2 rx ry q=>?_)
  obtain ⟨g,q1,q2⟩:=q
  exact ho pins s2 σ H H2 A x y v u Q r1 r2 r I2 R.mu g rx ry q1 q2 e fun z H' g'=>h z H' (g.trans g')
theorem ped_cmp {op:CmpOp} {k:Ev→Ev→Option Ev} (ho:OpD X F (compareOp op) k) (ha:PE X a (dE X.K F fa)) (hb:PE X b (dE X.K F fb)) (hm:behindInMarks op b=false:=by first | exact nomark _ | (with_unfolding_all rfl)) :
    PE X (.Compare a [op] [b] pos) (dE X.K F (d2 k fa fb)):=by
  intro pins s σ H Q I h
  obtain ⟨A,t,r1,r2,r,R,e1,e2,e,h,w⟩:=two h
  refine wpAny_Compare1 (bin ha hb I w fun v u s2 x y H2 I2 rx ry q=>?_) hm
  obtain ⟨g,q1,q2⟩:=q
  exact ho pins s2 σ H H2 A x y v u Q r1 r2 r I2 R.mu g rx ry q1 q2 e fun z H' g'=>h z H' (g.trans g')
def kI (C:Int→Int→Bool) (g:Int→Int→D):Ev→Ev→Option Ev:=fun r1 r2=>match r1.d,r2.d with
  | .int i, .int j=>if C i j then some (.cl (g i j)) else none
  | _,_=>none
theorem rep_int {K:PySem.W.Frag} {H:Hp} {i:Int} {v:V} (h:Rep K H (.int i) v):v = .int i:=by cases h; rfl
theorem opd_I {f:Value→Value→Sem Value} {C:Int→Int→Prop} {g:Int→Int→V} {C':Int→Int→Bool} {g':Int→Int→D} (h:OpR X f (rI C g)) (hc:∀ i j,C' i j=true→C i j)
    (hg:∀ H i j,Rep X.K H (g' i j) (g i j)):OpD X F f (kI C' g'):=by
  intro pins s σ H0 H A x y v u Q r1 r2 r I m g0 rx ry q1 q2 e hq
  have p1:=q1.full
  have p2:=q2.full
  unfold kI at e
  split at e
  · rename_i i j d1 d2
    split at e
    · rename_i c
      cases e
      rw [d1] at p1; rw [d2] at p2
      cases rep_int p1; cases rep_int p2
      exact h pins s σ H _ _ v u Q I rx ry ⟨i,j,rfl,rfl,hc i j c,hq _ H (Same.refl H) (hg _ i j)⟩
    · cases e
  · cases e
theorem rI_of {f:Value→Value→Sem Value} {g:Int→Int→V} (h:OpR X f (rI0 g)):OpR X f (rI (fun _ _=>True) g):=fun pins s σ H x y v u Q I rx ry ⟨i,j,e1,e2,_,q⟩=>h pins s σ H x y v u Q I rx ry ⟨i,j,e1,e2,q⟩
def tt2:Int→Int→Bool:=fun _ _=>true
theorem od_add:OpD X F (binaryOp .Add) (kI tt2 fun i j => .int (i + j)):=opd_I (rI_of op_add) (fun _ _ _=>trivial) fun _ _ _ => .int _
theorem od_sub:OpD X F (binaryOp .Sub) (kI tt2 fun i j => .int (i - j)):=opd_I (rI_of op_sub) (fun _ _ _=>trivial) fun _ _ _ => .int _
def bnd:Nat:=2 ^ 4096
def sm (i:Int):Bool:=decide (i.natAbs < bnd)
def cMul (i j:Int):Bool:=sm i && sm j
def cDiv (_ j:Int):Bool:=sm j && decide (j ≠ 0)
theorem log2_le {n k:Nat} (h:n < 2 ^ k):n.log2 ≤ k:=by
  by_cases z:n=0
  · subst z; simp
  · exact Nat.le_of_lt ((Nat.log2_lt z).mpr h)
theorem cMul.ok {i j:Int} (h:cMul i j=true):IntMulOk i j:=by
  simp only [cMul,sm,Bool.and_eq_true,decide_eq_true_eq] at h
  refine mulOk_of_bits (m:=4097) (n:=4097) ?_ ?_ (by decide)
  · exact intBits_le (Nat.lt_of_lt_of_le h.1 (by unfold bnd; exact Nat.pow_le_pow_right (by decide) (by decide)))
  · exact intBits_le (Nat.lt_of_lt_of_le h.2 (by unfold bnd; exact Nat.pow_le_pow_right (by decide) (by decide)))
theorem od_mul:OpD X F (binaryOp .Mult) (kI cMul fun i j => .int (i * j)):=opd_I (C:=IntMulOk) (opI fun _ _ _ _ _ _ _ hc q=>mul_int q hc) (fun _ _ h=>cMul.ok h) fun _ _ _ => .int _
theorem cDiv.ok {i j:Int} (h:cDiv i j=true):j ≠ 0∧j.natAbs.log2 < 9000:=by
  simp only [cDiv,sm,Bool.and_eq_true,decide_eq_true_eq] at h
  have:=log2_le h.1
  exact ⟨h.2,by omega⟩
theorem od_div:OpD X F (binaryOp .FloorDiv) (kI cDiv fun i j => .int (i.fdiv j)):=opd_I (C:=fun _ j=>j ≠ 0∧j.natAbs.log2 < 9000) (opI fun _ _ _ _ _ _ _ hc q=>floordiv_int hc.1 q (.inl (PyProof.noPylong_of_log2 hc.2))) (fun _ _ h=>cDiv.ok h) fun _ _ _ => .int _
def cMod (_ j:Int):Bool:=decide (j ≠ 0)
theorem od_mod:OpD X F (binaryOp .Mod) (kI cMod fun i j => .int (i.fmod j)):=opd_I op_modN (fun i j h=>by simpa [cMod] using h) fun _ _ _ => .int _
theorem od_lt:OpD X F (compareOp .Lt) (kI tt2 fun i j => .bl (decide (i < j))):=opd_I (rI_of op_lt) (fun _ _ _=>trivial) fun _ _ _ => .bl _
theorem od_le:OpD X F (compareOp .LtE) (kI tt2 fun i j => .bl (decide (i ≤ j))):=opd_I (rI_of op_le) (fun _ _ _=>trivial) fun _ _ _ => .bl _
theorem od_gt:OpD X F (compareOp .Gt) (kI tt2 fun i j => .bl (decide (j < i))):=opd_I (rI_of op_gt) (fun _ _ _=>trivial) fun _ _ _ => .bl _
theorem od_ge:OpD X F (compareOp .GtE) (kI tt2 fun i j => .bl (decide (j ≤ i))):=opd_I (rI_of op_ge) (fun _ _ _=>trivial) fun _ _ _ => .bl _
def kOr (k k':Ev→Ev→Option Ev):Ev→Ev→Option Ev:=fun r1 r2=>match k r1 r2 with
  | some r=>some r
  | none=>k' r1 r2
theorem OpD.or {f:Value→Value→Sem Value} {k k':Ev→Ev→Option Ev} (h:OpD X F f k) (h':OpD X F f k'):OpD X F f (kOr k k'):=by
  intro pins s σ H0 H A x y v u Q r1 r2 r I m g0 rx ry q1 q2 e hq
  unfold kOr at e
  split at e
  · rename_i z
    cases e
    exact h pins s σ H0 H A x y v u Q r1 r2 _ I m g0 rx ry q1 q2 z hq
  · exact h' pins s σ H0 H A x y v u Q r1 r2 _ I m g0 rx ry q1 q2 e hq
def d1 (k:Ev→Option Ev) (fa:DE):DE:=fun t=>(fa t).bind k
def kNeg:Ev→Option Ev:=fun r=>match r.d with
  | .int i=>some (.cl (.int (-i)))
  | _=>none
theorem ped_neg (ha:PE X a (dE X.K F fa)):PE X (.UnaryOp .USub a pos) (dE X.K F (d1 kNeg fa)):=by
  refine PE.imp (pe_un un_neg ha) ?_
  rintro σ H Q ⟨A,t,r,R,e,h⟩
  unfold d1 at e
  cases e1:fa t with
  | none=>rw [e1] at e; cases e
  | some r1 =>
    rw [e1] at e
    refine ⟨A,t,r1,R,e1,fun x H1 g1 q1=>?_⟩
    have e:kNeg r1=some r:=e
    unfold kNeg at e
    split at e
    · rename_i i z
      cases e
      have p:=q1.full
      rw [z] at p
      exact ⟨i,rep_int p,h _ H1 g1 (.int _)⟩
    · cases e
end
end DL
namespace DL
open PySem PySem.Spec PyProof.Rows L2
inductive RepEvs (K:PySem.W.Frag) (F A:List Addr) (H H':Hp):List Ev→List V→Prop
  | nil:RepEvs K F A H H' [] []
  | cons {r:Ev} {v:V} {rs:List Ev} {vs:List V}:RepEv K F A H H' r v→RepEvs K F A H H' rs vs→RepEvs K F A H H' (r :: rs) (v :: vs)
theorem RepEvs.back {K:PySem.W.Frag} {F A:List Addr} {H0 H H1:Hp} (e:Same H0 H):∀ {rs:List Ev} {vs:List V},RepEvs K F A H H1 rs vs→RepEvs K F A H0 H1 rs vs
  | _,_, .nil => .nil
  | _,_, .cons h r => .cons (h.back e) (RepEvs.back e r)
theorem RepEvs.full {K:PySem.W.Frag} {F A:List Addr} {H H':Hp}:∀ {rs:List Ev} {vs:List V},RepEvs K F A H H' rs vs→Reps K H' (rs.map Ev.d) vs
  | _,_, .nil => .nil
  | _,_, .cons h r => .cons h.full (RepEvs.full r)
theorem RepEvs.cleanF {K:PySem.W.Frag} {F A:List Addr} {H H':Hp} (m:Lists H (A ++ F)):∀ {rs:List Ev} {vs:List V},RepEvs K F A H H' rs vs→Reps K (hide F H') (rs.map Ev.d) vs
  | _,_, .nil => .nil
  | _,_, .cons h r => .cons (h.cleanF m) (RepEvs.cleanF m r)
theorem RepEvs.clean {K:PySem.W.Frag} {F A:List Addr} {H H':Hp} (m:Lists H (A ++ F)) (e:Same H H'):∀ {rs:List Ev} {vs:List V},RepEvs K F A H H' rs vs→rs.all Ev.ok=true→Reps K (hide (A ++ F) H') (rs.map Ev.d) vs
  | _,_, .nil,_ => .nil
  | _,_, .cons h r,c=>by
    simp only [List.all_cons,Bool.and_eq_true] at c
    exact .cons (h.clean m e c.1) (RepEvs.clean m e r c.2)
abbrev DA:=Th→Option (List Ev)
def dA (K:PySem.W.Frag) (F:List Addr) (f:DA):TA:=fun σ H Q => ∃ A t rs,RS K F H A t σ∧f t=some rs∧∀ vs H',Same H H'→RepEvs K F A H H' rs vs→Q vs H'
theorem PA.imp {X:Cx} {e:List Expr} {t t':TA} (h:PA X e t) (i:∀ σ H Q,t' σ H Q→t σ H Q):PA X e t':=fun pos pins s σ H Q I q=>h pos pins s σ H Q I (i σ H Q q)
def dNil:DA:=fun _=>some []
def dCons (f:DE) (g:DA):DA:=fun t=>(f t).bind fun r=>(g t).bind fun rs=>some (r :: rs)
section
variable {X:Cx} {F:List Addr} {a b c:Expr} {es:List Expr} {fa fb fc:DE} {g:DA} {pos:Pos}
theorem pad_nil:PA X [] (dA X.K F dNil):=PA.imp pa_nil fun σ H Q ⟨A,t,rs,R,e,h⟩=>by cases e; exact h [] H (Same.refl H) .nil
theorem pad_cons (ha:PE X a (dE X.K F fa)) (hr:PA X es (dA X.K F g)) (hs:starEach (a :: es) X.env=(false,eval a X.env) :: starEach es X.env:=by rfl):PA X (a :: es) (dA X.K F (dCons fa g)):=by
  refine PA.imp (pa_cons ha hr hs) ?_
  rintro σ H Q ⟨A,t,rs,R,e,h⟩
  unfold dCons at e
  cases e1:fa t with
  | none=>rw [e1] at e; cases e
  | some r1 =>
    cases e2:g t with
    | none=>rw [e1,e2] at e; cases e
    | some rs2 =>
      rw [e1,e2] at e
      cases e
      exact ⟨A,t,r1,R,e1,fun x H1 g1 q1=>⟨A,t,rs2,R.grow g1,e2,fun xs H2 g2 q2=>h _ _ (g1.trans g2) (.cons (q1.mono g2) (q2.back g1))⟩⟩
def kTup:List Ev→Option Ev:=fun rs=>if rs.length ≤ 1000 then (if rs.all Ev.ok then some (.cl (.tup (rs.map Ev.d))) else some (.tm (.tup (rs.map Ev.d)))) else none
def dT1 (k:List Ev→Option Ev) (g:DA):DE:=fun t=>(g t).bind k
theorem RepEvs.length {K:PySem.W.Frag} {F A:List Addr} {H H':Hp}:∀ {rs:List Ev} {vs:List V},RepEvs K F A H H' rs vs→vs.length=rs.length
  | _,_, .nil=>rfl
  | _,_, .cons _ r=>by simp [RepEvs.length r]
theorem le_line {n:Nat} (h:n ≤ 100000):n ≤ sizeLine:=Nat.le_trans h (by rw [sizeLine_eq]; decide)
theorem upd_sameH {H:Hp} {p:Addr} {o:HO} (h:H p=none):Same H (upd H p o):=fun b u e=>by rw [upd_ne (fun z=>by rw [z,h] at e; cases e)]; exact e
theorem ped_tup {x1} (h:PA X es (dA X.K F g)):PE X (.Tuple es x1 pos) (dE X.K F (dT1 kTup g)):=by
  refine PE.imp (pe_tup h) ?_
  rintro σ H Q ⟨A,t,r,R,e,h⟩
  unfold dT1 at e
  cases e1:g t with
  | none=>rw [e1] at e; cases e
  | some rs =>
    rw [e1] at e
    have e:kTup rs=some r:=e
    unfold kTup at e
    split at e
    case isFalse=>cases e
    rename_i hl
    refine ⟨A,t,rs,R,e1,fun vs H1 g1 q1=>⟨by rw [q1.length]; exact le_line (by omega),fun p hp=>?_⟩⟩
    have s1:=upd_sameH (o:=HO.tup vs) hp
    refine h _ _ (g1.trans s1) ?_
    have np:p ∉ A ++ F:=notin_lists (R.mu.mono g1) hp
    split at e
    · rename_i c
      cases e
      exact .tup (SqT.of (hide_get upd_same np)) (Reps.mono (same_hide s1) (q1.clean R.mu g1 c))
    · cases e
      exact .tup (SqT.of (hide_get upd_same fun z=>np (List.mem_append_right _ z))) (Reps.mono (same_hide s1) (q1.cleanF R.mu))
def kLst:List Ev→Option Ev:=fun rs=>if rs.length ≤ 1000∧rs.all Ev.ok then some (.nw (rs.map Ev.d)) else none
theorem hide_upd {P:List Addr} {H:Hp} {p:Addr} {o:HO} (h:H p=none):Same (hide P H) (hide (p :: P) (upd H p o)):=fun b u e=>by
  obtain ⟨n,e⟩:=of_hide e
  have nb:b ≠ p:=fun z=>by rw [z,h] at e; cases e
  refine hide_get (by rw [upd_ne nb]; exact e) fun z=>?_
  rcases List.mem_cons.mp z with z | z
  · exact nb z
  · exact n z
theorem ped_lst (h:PA X es (dA X.K F g)):PE X (.List es pos) (dE X.K F (dT1 kLst g)):=by
  refine PE.imp (pe_lst h) ?_
  rintro σ H Q ⟨A,t,r,R,e,h⟩
  unfold dT1 at e
  cases e1:g t with
  | none=>rw [e1] at e; cases e
  | some rs =>
    rw [e1] at e
    have e:kLst rs=some r:=e
    unfold kLst at e
    split at e
    case isFalse=>cases e
    rename_i hl
    cases e
    refine ⟨A,t,rs,R,e1,fun vs H1 g1 q1=>⟨by rw [q1.length]; exact le_line (by omega),fun p hp=>?_⟩⟩
    have s1:=upd_sameH (o:=HO.lst vs) hp
    refine h _ _ (g1.trans s1) ⟨p,vs,rfl,?_,upd_same,Reps.mono (hide_upd hp) (q1.clean R.mu g1 hl.2)⟩
    exact Same.free g1 hp
def spD (K:PySem.W.Frag) (G:List D→Option Ev):Sp:=fun vs H Q _ => ∃ Fo ds r,Lists H Fo∧Reps K (hide Fo H) ds vs∧G ds=some r∧∀ v H',Same H H'→RepEv K Fo [] H H' r v→Q v H'
def upEv (ok:Bool) (r:Ev):Ev:=if ok then (match r with
    | .cl d => .cl d
    | .tm d => .cl d
    | .nw xs => .nw xs
    | .dn d => .dn d) else match r with
    | .cl d=>if flat d then .cl d else .tm d
    | .tm d=>if flat d then .cl d else .tm d
    | .nw xs=>if flats xs then .nw xs else .tm (.lst xs)
    | .dn d => .dn d
def kCall (G:List D→Option Ev):List Ev→Option Ev:=fun rs=>(G (rs.map Ev.d)).map (upEv (rs.all Ev.ok))
theorem call_up {K:PySem.W.Frag} {A:List Addr} {G:List D→Option Ev} {H0 H:Hp} {rs:List Ev} {r:Ev} {vs:List V} {Q:VK} {E:XK} (m:Lists H0 (A ++ F)) (g:Same H0 H) (q:RepEvs K F A H0 H rs vs) (e:kCall G rs=some r)
    (h:∀ v H',Same H H'→RepEv K F A H0 H' r v→Q v H'):spD K G vs H Q E:=by
  unfold kCall at e
  cases e1:G (rs.map Ev.d) with
  | none=>rw [e1] at e; cases e
  | some r0 =>
    rw [e1] at e
    have e:upEv (rs.all Ev.ok) r0=r:=by simpa using e
    have mH:=m.mono g
    by_cases c:rs.all Ev.ok=true
    · refine ⟨A ++ F,rs.map Ev.d,r0,mH,q.clean m g c,e1,fun v H' g' w=>h v H' g' ?_⟩
      rw [c] at e
      subst e
      cases r0 with
      | cl d=>exact w
      | tm d=>exact w
      | nw xs =>
        obtain ⟨p,us,rfl,h1,h2,h3⟩:=w
        exact ⟨p,us,rfl,Same.free g h1,h2,h3⟩
      | dn d =>
        obtain ⟨B,h1,h2,h3⟩:=w
        exact ⟨B,h1,fun b hb=>Same.free g (h2 b hb),h3⟩
    · refine ⟨F,rs.map Ev.d,r0,fun p hp=>mH p (List.mem_append_right _ hp),q.cleanF m,e1,fun v H' g' w=>h v H' g' ?_⟩
      have c:rs.all Ev.ok=false:=by simpa using c
      rw [c] at e
      subst e
      have m':=mH.mono g'
      cases r0 with
      | cl d =>
        show RepEv K F A H0 H' (if flat d then .cl d else .tm d) v
        split
        · rename_i f; exact Rep.hid m' f (Rep.mono (hide_sub _ _) w)
        · exact w
      | tm d =>
        show RepEv K F A H0 H' (if flat d then .cl d else .tm d) v
        split
        · rename_i f; exact Rep.hid m' f (Rep.mono (hide_sub _ _) w)
        · exact w
      | nw xs =>
        obtain ⟨p,us,rfl,h1,h2,h3⟩:=w
        have np:p ∉ A ++ F:=notin_lists mH h1
        show RepEv K F A H0 H' (if flats xs then .nw xs else .tm (.lst xs)) _
        split
        · rename_i f
          refine ⟨p,us,rfl,Same.free g h1,h2,Reps.hid (P:=p :: (A ++ F)) (fun b hb=>?_) f (Reps.mono (hide_sub _ _) h3)⟩
          rcases List.mem_cons.mp hb with rfl | hb
          · exact ⟨mL us,h2⟩
          · exact m' b hb
        · exact .lst (SqL.of (hide_get h2 fun z=>np (List.mem_append_right _ z))) (Reps.mono (hide_less H' fun b z=>List.mem_cons_of_mem _ z) h3)
      | dn d =>
        obtain ⟨B,h1,h2,h3⟩:=w
        exact ⟨B,h1,fun b hb=>Same.free g (h2 b hb),h3.hid (h3.lists.app m') (hide_sub _ _)⟩
theorem ped_call {k:Nat} {f:Addr} {fd:FuncData} {ps:List Str} {G:List D→Option Ev} {x:Str} {p:Pos} (Fn:FnOk X.prog X.w X.K X.mg X.base CX0 k f fd ps (spD X.K G)) (hr:Room k X.A) (hg:Gl X x) (hm:X.mg x=some (.ref f)) (hk:PySem.W.keepIn X.K (.ref f)=true)
    (hb:Binds X.K fd ps []) (ha:PA X (a :: es) (dA X.K F g)) (hdb:(x == ("__debug__":Str))=false:=by decide) (he:starEach (a :: es) X.env=(false,eval a X.env) :: starEach es X.env:=by rfl)
    (hpl:(backTo pos (starEach es X.env)).any (·.1)=false:=by rfl):PE X (.Call (.Name x p) (a :: es) [] pos) (dE X.K F (dT1 (kCall G) g)):=by
  refine PE.imp (pe_call Fn hr hg hm hk hb .nil (E:=E0) pass0 ha hdb he hpl) ?_
  rintro σ H Q ⟨A,t,r,R,e,h⟩
  unfold dT1 at e
  cases e1:g t with
  | none=>rw [e1] at e; cases e
  | some rs =>
    rw [e1] at e
    refine ⟨A,t,rs,R,e1,fun vs H1 g1 q1=>?_⟩
    show spD X.K G (vs ++ []) H1 Q E0
    rw [List.append_nil]
    exact call_up R.mu g1 q1 e fun v H' g' w=>h v H' (g1.trans g') w
def CallD (X:Cx) (F:List Addr) (f:Value) (k:List Ev→Option Ev):Prop :=
  ∀ (pins:List (Addr × Obj)) (s:Shared) (σ:L2.St) (H0 H:Hp) (A:List Addr) (xs:List V) (us:List Value) (Q:VK) (rs:List Ev) (r:Ev),Inv X pins σ H s→Lists H0 (A ++ F)→Same H0 H→Vals xs us→RepEvs X.K F A H0 H rs xs→k rs=some r →
    (∀ z H',Same H H'→RepEv X.K F A H0 H' r z→Q z H')→wpAny (model X.prog X.w) X.A (call f us) (EP X pins σ Q) X.xe s
theorem PA.run (ha:PA X es (dA X.K F g)) {k:List Ev→Option Ev} {f:Value} (hc:CallD X F f k) {pins:List (Addr × Obj)} {s:Shared} {σ:L2.St} {H:Hp} {Q:VK} (p:Pos) (I:Inv X pins σ H s) (h:dE X.K F (dT1 k g) σ H Q) :
    wpAny (model X.prog X.w) X.A (spliced (backTo p (starEach es X.env))) (fun us s1=>wpAny (model X.prog X.w) X.A (call f us) (EP X pins σ Q) X.xe s1) X.xe s:=by
  obtain ⟨A,t,r,R,e,h⟩:=h
  unfold dT1 at e
  cases e1:g t with
  | none=>rw [e1] at e; cases e
  | some rs =>
    rw [e1] at e
    refine thn (ha p pins s σ H (fun vs H1=>Same H H1∧RepEvs X.K F A H H1 rs vs) I ⟨A,t,rs,R,e1,fun vs H1 g1 q1=>⟨g1,q1⟩⟩) fun us s1 ⟨vs,H1,I1,r1,g1,q1⟩=>?_
    exact hc pins s1 σ H H1 A vs us Q rs r I1 R.mu g1 r1 q1 e fun z H' g'=>h z H' (g1.trans g')
theorem ped_callB {k:List Ev→Option Ev} {x:Str} {p:Pos} {id:String} (hc:CallD X F (.builtin id) k) (hg:Gl X x) (hm:X.mg x=none) (hv:bootBuiltins x=some (.builtin id)) (ha:PA X (a :: es) (dA X.K F g)) (hn:x ≠ "__name__":=by decide) (hdb:(x == ("__debug__":Str))=false:=by decide)
    (he:starEach (a :: es) X.env=(false,eval a X.env) :: starEach es X.env:=by rfl) (hpl:(backTo pos (starEach es X.env)).any (·.1)=false:=by rfl):PE X (.Call (.Name x p) (a :: es) [] pos) (dE X.K F (dT1 k g)):=by
  intro pins s σ H Q I h
  refine wpAny_Call_Name_kw (ld_blt I hg hm hv ?_ hn hdb)
  exact PyProof.Rows.callWith_builtin1 (PA.run ha hc pos I h) he hpl
theorem CallD.of {f:Value} {r:List V→Hp→VK→Prop} {k:List Ev→Option Ev} (h:CallR X f r)
    (i:∀ (H0 H:Hp) (A:List Addr) (xs:List V) (rs:List Ev) (e:Ev) (Q:VK),Lists H0 (A ++ F)→Same H0 H→RepEvs X.K F A H0 H rs xs→k rs=some e→(∀ z H',Same H H'→RepEv X.K F A H0 H' e z→Q z H')→r xs H Q):CallD X F f k :=
  fun pins s σ H0 H A xs us Q rs e I m g v q ek hq=>h pins s σ H xs us Q I v (i H0 H A xs rs e Q m g q ek hq)
def kAbs:List Ev→Option Ev:=fun rs=>match rs with
  | [r]=>(match r.d with
    | .int i=>some (.cl (.int (if i < 0 then -i else i)))
    | _=>none)
  | _=>none
theorem cd_abs:CallD X F (.builtin "abs") kAbs:=CallD.of call_abs fun H0 H A xs rs e Q m g q ek hq=>by
  unfold kAbs at ek
  split at ek
  · rename_i r
    split at ek
    · rename_i i z
      cases ek
      cases q with
      | cons q1 q2 =>
        cases q2
        have p:=q1.full
        rw [z] at p
        cases rep_int p
        exact ⟨i,rfl,hq _ H (Same.refl H) (.int _)⟩
    · cases ek
  · cases ek
def kLen:List Ev→Option Ev:=fun rs=>match rs with
  | [r]=>(match r.d with
    | .lst xs=>some (.cl (.int xs.length))
    | .tup xs=>some (.cl (.int xs.length))
    | _=>none)
  | _=>none
theorem cd_len:CallD X F (.builtin "len") kLen:=CallD.of call_len_seq fun H0 H A xs rs e Q m g q ek hq=>by
  unfold kLen at ek
  split at ek
  · rename_i r
    cases q with
    | cons q1 q2 =>
      cases q2
      have p:=q1.full
      split at ek
      · rename_i ds z
        cases ek
        rw [z] at p
        cases p with
        | lst h1 h2=>exact ⟨_,_,rfl, .inl h1,by rw [h2.length]; exact hq _ H (Same.refl H) (.int _)⟩
      · rename_i ds z
        cases ek
        rw [z] at p
        cases p with
        | tup h1 h2=>exact ⟨_,_,rfl, .inr h1,by rw [h2.length]; exact hq _ H (Same.refl H) (.int _)⟩
      · cases ek
  · cases ek
end
end DL
namespace DL
open PySem PySem.Spec PyProof.Rows L2
abbrev DT:=Th→Option Bool
def dT (K:PySem.W.Frag) (F:List Addr) (f:DT):TT:=fun σ H Q => ∃ A t b,RS K F H A t σ∧f t=some b∧∀ H',Same H H'→Q b H'
theorem PT.imp {X:Cx} {e:Expr} {t t':TT} (h:PT X e t) (i:∀ σ H Q,t' σ H Q→t σ H Q):PT X e t':=fun pins s σ H Q I q=>h pins s σ H Q I (i σ H Q q)
theorem PW.imp {X:Cx} {e:Expr} {t t':TT} (h:PW X e t) (i:∀ σ H Q,t' σ H Q→t σ H Q):PW X e t':=fun w pins s σ H Q I q=>h w pins s σ H Q I (i σ H Q q)
def truD:D→Option Bool
  | .non=>some false
  | .bl b=>some b
  | .int i=>some (i != 0)
  | .tup xs=>some (!xs.isEmpty)
  | .lst xs=>some (!xs.isEmpty)
  | .dct ks _=>some (!ks.isEmpty)
  | .str y=>if y.length ≤ 100000 then some ((y.length:Int) != 0) else none
theorem isEmpty_len {α β:Type} {xs:List α} {ys:List β} (h:xs.length=ys.length):xs.isEmpty=ys.isEmpty:=by
  cases xs <;> cases ys <;> simp_all
theorem truV_of {K:PySem.W.Frag} {H:Hp} {d:D} {v:V} {b:Bool} (r:Rep K H d v) (e:truD d=some b):TruV K v H b:=by
  cases r with
  | non=>cases e; rfl
  | bl b=>cases e; rfl
  | int i=>cases e; rfl
  | str x =>
    simp only [truD] at e
    split at e
    · cases e; exact ⟨le_line (by assumption),rfl⟩
    · cases e
  | tup h1 h2=>cases e; exact .inr (.inl ⟨_,h1,by rw [isEmpty_len h2.length]⟩)
  | lst h1 h2=>cases e; exact .inl ⟨_,h1,by rw [isEmpty_len h2.length]⟩
  | @dct ks ds p vs l h1 h2 =>
    cases e
    have e1:(mkKV ks vs).length=ks.length:=by unfold mkKV; rw [List.length_zip]; omega
    exact .inr (.inr ⟨_,h1,by rw [isEmpty_len e1]⟩)
def dTr (f:DE):DT:=fun t=>(f t).bind fun r=>truD r.d
def dBo (f:DE):DT:=fun t=>(f t).bind fun r=>match r.d with
  | .bl b=>some b
  | _=>none
def dIf (c:DT) (fa fb:DE):DE:=fun t=>(c t).bind fun b=>if b then fa t else fb t
def dAnd (f g:DT):DT:=fun t=>(f t).bind fun b=>if b then g t else some false
def dOr (f g:DT):DT:=fun t=>(f t).bind fun b=>if b then some true else g t
def dNot (f:DT):DT:=fun t=>(f t).bind fun b=>some (!b)
section
variable {X:Cx} {F:List Addr} {a b c:Expr} {es:List Expr} {fa fb fc:DE} {g g':DA} {ft fu:DT} {pos:Pos} {rest:List Expr}
theorem ptd_val (ha:PE X a (dE X.K F fa)) (he:∀ whole,isTrue a X.env whole=(do let v ← whole; standAt a.pos; holding [v] (truthy v)):=by intro _; rfl):PT X a (dT X.K F (dTr fa)):=by
  refine PT.imp (pt_truth ha he) ?_
  rintro σ H Q ⟨A,t,r,R,e,h⟩
  unfold dTr at e
  cases e1:fa t with
  | none=>rw [e1] at e; cases e
  | some r1 =>
    rw [e1] at e
    exact ⟨A,t,r1,R,e1,fun v H' g' q=>⟨r,truV_of q.full e,h H' g'⟩⟩
theorem ptd_cmp {op:CmpOp} {k:Ev→Ev→Option Ev} (ho:OpD X F (compareOp op) k) (ha:PE X a (dE X.K F fa)) (hb:PE X b (dE X.K F fb)) (hm:behindInMarks op b=false:=by first | exact nomark _ | (with_unfolding_all rfl)) :
    PT X (.Compare a [op] [b] pos) (dT X.K F (dBo (d2 k fa fb))):=by
  intro pins s σ H Q I h
  obtain ⟨A,t,b',R,e,h⟩:=h
  unfold dBo at e
  cases e1:d2 k fa fb t with
  | none=>rw [e1] at e; cases e
  | some r0 =>
    rw [e1] at e
    have w0:dE X.K F (d2 k fa fb) σ H (fun z H'=>Same H H'∧Rep X.K H' r0.d z):=⟨A,t,r0,R,e1,fun v H' g q=>⟨g,q.full⟩⟩
    obtain ⟨A2,t2,r1,r2,r,R2,e1',e2',e3,h3,w⟩:=two w0
    refine wpAny_isTrue_Compare1 (bin ha hb I w fun v u s2 x y H2 I2 rx ry q=>?_) hm
    obtain ⟨g,q1,q2⟩:=q
    refine thn (ho pins s2 σ H H2 A2 x y v u (fun z H'=>Same H H'∧Rep X.K H' r0.d z) r1 r2 r I2 R2.mu g rx ry q1 q2 e3 fun z H' g'=>h3 z H' (g.trans g')) fun cc s3 ⟨z,H3,I3,r3,g3,q3⟩=>?_
    have e:(match r0.d with | .bl b=>some b | _=>none)=some b':=e
    split at e
    · rename_i b2 z2
      cases e
      rw [z2] at q3
      cases q3
      cases r3
      exact wpAny_truthy_bool ⟨H3,I3,h H3 g3⟩
    · cases e
theorem pwd_and1 (ha:PT X a (dT X.K F ft)):PW X (.BoolOp .And [a] pos) (dT X.K F ft):=pw_and1 ha
theorem pwd_or1 (ha:PT X a (dT X.K F ft)):PW X (.BoolOp .Or [a] pos) (dT X.K F ft):=pw_or1 ha
theorem pwd_and (ha:PT X a (dT X.K F ft)) (hb:PW X (.BoolOp .And (b :: rest) pos) (dT X.K F fu)):PW X (.BoolOp .And (a :: b :: rest) pos) (dT X.K F (dAnd ft fu)):=by
  refine PW.imp (pw_and ha hb) ?_
  rintro σ H Q ⟨A,t,r,R,e,h⟩
  unfold dAnd at e
  cases e1:ft t with
  | none=>rw [e1] at e; cases e
  | some r1 =>
    rw [e1] at e
    refine ⟨A,t,r1,R,e1,fun H1 g1=>?_⟩
    cases r1 with
    | true=>exact ⟨A,t,r,R.grow g1,e,fun H2 g2=>h H2 (g1.trans g2)⟩
    | false=>cases e; exact h H1 g1
theorem pwd_or (ha:PT X a (dT X.K F ft)) (hb:PW X (.BoolOp .Or (b :: rest) pos) (dT X.K F fu)):PW X (.BoolOp .Or (a :: b :: rest) pos) (dT X.K F (dOr ft fu)):=by
  refine PW.imp (pw_or ha hb) ?_
  rintro σ H Q ⟨A,t,r,R,e,h⟩
  unfold dOr at e
  cases e1:ft t with
  | none=>rw [e1] at e; cases e
  | some r1 =>
    rw [e1] at e
    refine ⟨A,t,r1,R,e1,fun H1 g1=>?_⟩
    cases r1 with
    | true=>cases e; exact h H1 g1
    | false=>exact ⟨A,t,r,R.grow g1,e,fun H2 g2=>h H2 (g1.trans g2)⟩
theorem ptd_not (ha:PT X a (dT X.K F ft)):PT X (.UnaryOp .Not a pos) (dT X.K F (dNot ft)):=by
  refine PT.imp (pt_not ha) ?_
  rintro σ H Q ⟨A,t,r,R,e,h⟩
  unfold dNot at e
  cases e1:ft t with
  | none=>rw [e1] at e; cases e
  | some r1 =>
    rw [e1] at e
    cases e
    exact ⟨A,t,r1,R,e1,fun H1 g1=>h H1 g1⟩
theorem ped_if (hc:PT X c (dT X.K F ft)) (ha:PE X a (dE X.K F fa)) (hb:PE X b (dE X.K F fb)):PE X (.IfExp c a b pos) (dE X.K F (dIf ft fa fb)):=by
  refine PE.imp (pe_ifExp hc ha hb) ?_
  rintro σ H Q ⟨A,t,r,R,e,h⟩
  unfold dIf at e
  cases e1:ft t with
  | none=>rw [e1] at e; cases e
  | some r1 =>
    rw [e1] at e
    refine ⟨A,t,r1,R,e1,fun H1 g1=>?_⟩
    cases r1 with
    | true=>exact ⟨A,t,r,R.grow g1,e,fun v2 H2 g2 q2=>h v2 H2 (g1.trans g2) (q2.back g1)⟩
    | false=>exact ⟨A,t,r,R.grow g1,e,fun v2 H2 g2 q2=>h v2 H2 (g1.trans g2) (q2.back g1)⟩
end
inductive Out where
  | nx (t:Th) | rt (r:Ev) | bk (t:Th) | ct (t:Th)
abbrev DS:=Th→Option Out
def After (K:PySem.W.Frag) (F A:List Addr) (H:Hp) (N:L2.St→Hp→Prop) (t:Th):Prop := ∀ σ' H' A',Gr A H A' H'→RS K F H' A' t σ'→N σ' H'
def RetEv (K:PySem.W.Frag) (F A:List Addr) (H H':Hp):Ev→V→Prop
  | .cl d,v=>Rep K (hide F H') d v
  | .tm d,v=>Rep K (hide F H') d v
  | .nw xs,v => ∃ p vs,v = .ref p∧(p ∈ A ∨ H p=none)∧p ∉ F∧H' p=some (.lst vs)∧Reps K (hide (p :: F) H') xs vs
  | .dn d,v => ∃ B,B.Nodup∧(∀ b ∈ B,(b ∈ A ∨ H b=none)∧b ∉ F)∧RepD K (hide (B ++ F) H') H' d v B
def Back (K:PySem.W.Frag) (F A:List Addr) (H:Hp) (N:VK) (r:Ev):Prop := ∀ v H' A',Gr A H A' H'→RetEv K F A H H' r v→N v H'
def dS (K:PySem.W.Frag) (F:List Addr) (g:DS):TS:=fun E σ H => ∃ A t o,RS K F H A t σ∧g t=some o∧match o with
  | .nx t'=>After K F A H E.nx t'
  | .bk t'=>After K F A H E.bk t'
  | .ct t'=>After K F A H E.ct t'
  | .rt r=>Back K F A H E.rt r
end DL
namespace DL
open PySem PySem.Spec PyProof.Rows L2
theorem RetEv.back {K:PySem.W.Frag} {F A A1:List Addr} {H H1 H':Hp} {r:Ev} {v:V} (g:Gr A H A1 H1) (h:RetEv K F A1 H1 H' r v):RetEv K F A H H' r v:=by
  cases r with
  | cl d=>exact h
  | tm d=>exact h
  | nw xs =>
    obtain ⟨p,vs,rfl,h1,h2,h3,h4⟩:=h
    refine ⟨p,vs,rfl,?_,h2,h3,h4⟩
    rcases h1 with h1 | h1
    · exact g.nw p h1
    · by_cases z:p ∈ A
      · exact .inl z
      · refine .inr ?_
        cases w:H p with
        | none=>rfl
        | some o=>rw [g.kp p o z w] at h1; cases h1
  | dn d =>
    obtain ⟨B,h0,h1,h2⟩:=h
    refine ⟨B,h0,fun p hp=>⟨?_,(h1 p hp).2⟩,h2⟩
    rcases (h1 p hp).1 with h1 | h1
    · exact g.nw p h1
    · by_cases z:p ∈ A
      · exact .inl z
      · refine .inr ?_
        cases w:H p with
        | none=>rfl
        | some o=>rw [g.kp p o z w] at h1; cases h1
theorem After.back {K:PySem.W.Frag} {F A A1:List Addr} {H H1:Hp} {N:L2.St→Hp→Prop} {t:Th} (h:After K F A H N t) (g:Gr A H A1 H1):After K F A1 H1 N t:=fun σ' H' A' g' R=>h σ' H' A' (g.trans g') R
theorem Back.back {K:PySem.W.Frag} {F A A1:List Addr} {H H1:Hp} {N:VK} {r:Ev} (h:Back K F A H N r) (g:Gr A H A1 H1):Back K F A1 H1 N r:=fun v H' A' g' R=>h v H' A' (g.trans g') (R.back g)
theorem PS.imp {X:Cx} {e:Stmt} {t t':TS} (h:PS X e t) (i:∀ E σ H,t' E σ H→t E σ H):PS X e t':=fun pins s σ H D I q=>h pins s σ H D I (i D σ H q)
theorem PSs.imp {X:Cx} {e:List Stmt} {t t':TS} (h:PSs X e t) (i:∀ E σ H,t' E σ H→t E σ H):PSs X e t':=fun pins s σ H D I q=>h pins s σ H D I (i D σ H q)
theorem Lists.left {H:Hp} {A F:List Addr} (h:Lists H (A ++ F)):Lists H A:=fun p hp=>h p (List.mem_append_left _ hp)
def dSkip:DS:=fun t=>some (.nx t)
def dSeq (g1 g2:DS):DS:=fun t=>(g1 t).bind fun o=>match o with
  | .nx t'=>g2 t'
  | .rt r=>some (.rt r)
  | .bk t'=>some (.bk t')
  | .ct t'=>some (.ct t')
section
variable {X:Cx} {F:List Addr} {a b c:Expr} {es:List Expr} {fa fb fc:DE} {g g1 g2:DS} {ft fu:DT} {pos:Pos} {st:Stmt} {rest:List Stmt}
theorem psd_nil:PSs X [] (dS X.K F dSkip):=PSs.imp pss_nil fun E σ H ⟨A,t,o,R,e,h⟩=>by cases e; exact h σ H A (Gr.refl R.mu.left) R
theorem psd_cons (h1:PS X st (dS X.K F g1)) (h2:PSs X rest (dS X.K F g2)):PSs X (st :: rest) (dS X.K F (dSeq g1 g2)):=by
  refine PSs.imp (pss_cons h1 h2) ?_
  rintro E σ H ⟨A,t,o,R,e,h⟩
  unfold dSeq at e
  cases e1:g1 t with
  | none=>rw [e1] at e; cases e
  | some o1 =>
    rw [e1] at e
    refine ⟨A,t,o1,R,e1,?_⟩
    cases o1 with
    | nx t' =>
      intro σ' H' A' g' R'
      refine ⟨A',t',o,R',e,?_⟩
      cases o with
      | nx t2=>exact After.back h g'
      | bk t2=>exact After.back h g'
      | ct t2=>exact After.back h g'
      | rt r=>exact Back.back h g'
    | rt r=>cases e; exact h
    | bk t2=>cases e; exact h
    | ct t2=>cases e; exact h
theorem psd_one (h1:PS X st (dS X.K F g1)):PSs X [st] (dS X.K F g1):=pss_one h1
def dIfS (c:DT) (g1 g2:DS):DS:=fun t=>(c t).bind fun b=>if b then g1 t else g2 t
theorem psd_if {s1 s2:List Stmt} (hc:PT X c (dT X.K F ft)) (ha:PSs X s1 (dS X.K F g1)) (hb:PSs X s2 (dS X.K F g2)):PS X (.If c s1 s2 pos) (dS X.K F (dIfS ft g1 g2)):=by
  refine PS.imp (ps_if hc ha hb) ?_
  rintro E σ H ⟨A,t,o,R,e,h⟩
  unfold dIfS at e
  cases e1:ft t with
  | none=>rw [e1] at e; cases e
  | some r1 =>
    rw [e1] at e
    refine ⟨A,t,r1,R,e1,fun H1 gs=>?_⟩
    have gr:Gr A H A H1:=Gr.of_same R.mu.left gs
    cases r1 with
    | true =>
      refine ⟨A,t,o,R.grow gs,e,?_⟩
      cases o with
      | nx t2=>exact After.back h gr
      | bk t2=>exact After.back h gr
      | ct t2=>exact After.back h gr
      | rt r=>exact Back.back h gr
    | false =>
      refine ⟨A,t,o,R.grow gs,e,?_⟩
      cases o with
      | nx t2=>exact After.back h gr
      | bk t2=>exact After.back h gr
      | ct t2=>exact After.back h gr
      | rt r=>exact Back.back h gr
def dRet (f:DE):DS:=fun t=>(f t).bind fun r=>some (.rt r)
theorem RetEv.of {K:PySem.W.Frag} {F A:List Addr} {H H':Hp} {r:Ev} {v:V} (m:Lists H (A ++ F)) (h:RepEv K F A H H' r v):RetEv K F A H H' r v:=by
  cases r with
  | cl d=>exact Rep.mono (hide_less H' fun a z=>List.mem_append_right _ z) h
  | tm d=>exact h
  | nw xs =>
    obtain ⟨p,vs,rfl,h1,h2,h3⟩:=h
    have np:p ∉ A ++ F:=notin_lists m h1
    refine ⟨p,vs,rfl, .inr h1,fun z=>np (List.mem_append_right _ z),h2,Reps.mono (hide_less H' fun a z=>?_) h3⟩
    rcases List.mem_cons.mp z with z | z
    · rw [z]; exact List.mem_cons_self ..
    · exact List.mem_cons_of_mem _ (List.mem_append_right _ z)
  | dn d =>
    obtain ⟨B,h1,h2,h3⟩:=h
    refine ⟨B,h1,fun b hb=>⟨.inr (h2 b hb),fun z=>notin_lists m (h2 b hb) (List.mem_append_right _ z)⟩,RepD.mono (hide_less H' fun a z=>?_) h3 fun _ _ _ q=>q⟩
    rcases List.mem_append.mp z with z | z
    · exact List.mem_append_left _ z
    · exact List.mem_append_right _ (List.mem_append_right _ z)
theorem psd_ret (ha:PE X a (dE X.K F fa)):PS X (.Return (some a) pos) (dS X.K F (dRet fa)):=by
  refine PS.imp (ps_ret ha) ?_
  rintro E σ H ⟨A,t,o,R,e,h⟩
  unfold dRet at e
  cases e1:fa t with
  | none=>rw [e1] at e; cases e
  | some r1 =>
    rw [e1] at e
    cases e
    exact ⟨A,t,r1,R,e1,fun v H' gs q=>h v H' A (Gr.of_same R.mu.left gs) (RetEv.of R.mu q)⟩
def dRetO (i:Nat):DS:=fun t=>match t[i]? with
  | some (.own xs)=>some (.rt (.nw xs))
  | some (.val d)=>some (.rt (.cl d))
  | some (.dp d)=>some (.rt (.dn d))
  | _=>none
theorem psd_retO (i:Nat) {x:Str} {pos':Pos} (hN:X.N[i]?=some x:=by rfl) (hv:Vis X.env.scope x:=by first | exact Or.inl rfl | exact Or.inr (Or.inl rfl) | exact Or.inr (Or.inr rfl)) (hd:(x == ("__debug__":Str))=false:=by decide)
    (hcd:(x == ("__classdict__":Str))=false:=by decide):PS X (.Return (some (.Name x pos')) pos) (dS X.K F (dRetO i)):=by
  refine PS.imp (ps_ret (pe_var (i:=i) hN hv hd hcd)) ?_
  rintro E σ H ⟨A,t,o,R,e,h⟩
  unfold dRetO at e
  split at e
  · rename_i ds q
    cases e
    obtain ⟨p,vs,h1,h2,h3,h4⟩:=R.rel.getOwn q
    refine ⟨_,h1,h _ H A (Gr.refl R.mu.left) ⟨p,vs,rfl, .inl h2,R.dj p h2,h3,Reps.mono (hide_less H fun a z=>?_) h4⟩⟩
    rcases List.mem_cons.mp z with z | z
    · rw [z]; exact List.mem_append_left _ h2
    · exact List.mem_append_right _ z
  · rename_i d q
    cases e
    obtain ⟨v,h1,h2⟩:=R.rel.getVal q
    exact ⟨v,h1,h v H A (Gr.refl R.mu.left) (Rep.mono (hide_less H fun a z=>List.mem_append_right _ z) h2)⟩
  · rename_i d q
    cases e
    obtain ⟨v,B,h1,h2,h0,h3⟩:=R.rel.getDp R.nd q
    refine ⟨v,h1,h v H A (Gr.refl R.mu.left) ⟨B,h0,fun b hb=>⟨.inl (h2 b hb),R.dj b (h2 b hb)⟩,RepD.mono (hide_less H fun a z=>?_) h3 fun _ _ _ q=>q⟩⟩
    rcases List.mem_append.mp z with z | z
    · exact List.mem_append_left _ (h2 a z)
    · exact List.mem_append_right _ z
  · cases e
end
theorem RSl.setVal {K:PySem.W.Frag} {H0 H:Hp} {d:D} {v:V} (h:Rep K H0 d v):∀ {t:Th} {σ:L2.St} {A:List Addr} (i:Nat),RSl K H0 H t σ A→i < t.length→∃ A',RSl K H0 H (t.set i (.val d)) (σ.set i (some v)) A'∧List.Sublist A' A
  | _,_,_,_, .nil,l=>by simp at l
  | _,_,_,0, .no r,_=>⟨_, .val h r,List.Sublist.refl _⟩
  | _,_,_,0, .val _ r,_=>⟨_, .val h r,List.Sublist.refl _⟩
  | _,_,_,0, .own _ _ r,_=>⟨_, .val h r,List.sublist_cons_self _ _⟩
  | _,_,_,0, .dp _ r,_=>⟨_, .val h r,List.sublist_append_right _ _⟩
  | _,_,_,i + 1, .no r,l=>let ⟨A',a,b⟩:=RSl.setVal h i r (by simpa using l); ⟨A', .no a,b⟩
  | _,_,_,i + 1, .val q r,l=>let ⟨A',a,b⟩:=RSl.setVal h i r (by simpa using l); ⟨A', .val q a,b⟩
  | _,_,_,i + 1, .own q1 q2 r,l=>let ⟨A',a,b⟩:=RSl.setVal h i r (by simpa using l); ⟨_, .own q1 q2 a,b.cons₂ _⟩
  | _,_,_,i + 1, .dp q r,l=>let ⟨A',a,b⟩:=RSl.setVal h i r (by simpa using l); ⟨_, .dp q a,List.Sublist.append (List.Sublist.refl _) b⟩
theorem RSl.setAny {K:PySem.W.Frag} {H0 H:Hp} {s:Sl} {v:V} {B:List Addr} (h:∀ {t:Th} {σ:L2.St} {A:List Addr},RSl K H0 H t σ A→RSl K H0 H (s :: t) (some v :: σ) (B ++ A)):∀ {t:Th} {σ:L2.St} {A:List Addr} (i:Nat),RSl K H0 H t σ A→i < t.length →
    ∃ A',RSl K H0 H (t.set i s) (σ.set i (some v)) A'∧(∀ x ∈ A',x ∈ B ∨ x ∈ A)∧(A.Nodup→B.Nodup→(∀ b ∈ B,b ∉ A)→A'.Nodup)
  | _,_,_,_, .nil,l=>by simp at l
  | _,_,A,0, .no r,_=>⟨_,h r,fun x hx=>List.mem_append.mp hx,fun n1 n2 d=>List.nodup_append.mpr ⟨n2,n1,fun a ha b hb e=>d a ha (e ▸ hb)⟩⟩
  | _,_,A,0, .val _ r,_=>⟨_,h r,fun x hx=>List.mem_append.mp hx,fun n1 n2 d=>List.nodup_append.mpr ⟨n2,n1,fun a ha b hb e=>d a ha (e ▸ hb)⟩⟩
  | _,_,_,0, .own _ _ r,_=>⟨_,h r,fun x hx=>(List.mem_append.mp hx).imp id (List.mem_cons_of_mem _),fun n1 n2 d=>List.nodup_append.mpr ⟨n2,(List.nodup_cons.mp n1).2,fun a ha b hb e=>d a ha (e ▸ List.mem_cons_of_mem _ hb)⟩⟩
  | _,_,_,0, .dp _ r,_=>⟨_,h r,fun x hx=>(List.mem_append.mp hx).imp id (List.mem_append_right _),fun n1 n2 d=>List.nodup_append.mpr ⟨n2,(List.nodup_append.mp n1).2.1,fun a ha b hb e=>d a ha (e ▸ List.mem_append_right _ hb)⟩⟩
  | _,_,_,i + 1, .no r,l=>let ⟨A',a,b,c⟩:=RSl.setAny h i r (by simpa using l); ⟨A', .no a,b,c⟩
  | _,_,_,i + 1, .val q r,l=>let ⟨A',a,b,c⟩:=RSl.setAny h i r (by simpa using l); ⟨A', .val q a,b,c⟩
  | _,_,_,i + 1, .own (p:=p2) q1 q2 r,l=>by
    obtain ⟨A',a,b,c⟩:=RSl.setAny h i r (by simpa using l)
    refine ⟨_, .own q1 q2 a,fun x hx=>?_,fun nd nb np=>?_⟩
    · rcases List.mem_cons.mp hx with z | z
      · exact .inr (z ▸ List.mem_cons_self ..)
      · exact (b x z).imp id (List.mem_cons_of_mem _)
    · have n1:=List.nodup_cons.mp nd
      refine List.nodup_cons.mpr ⟨fun z=>?_,c n1.2 nb fun x hx z=>np x hx (List.mem_cons_of_mem _ z)⟩
      rcases b _ z with z | z
      · exact np _ z (List.mem_cons_self ..)
      · exact n1.1 z
  | _,_,_,i + 1, .dp (B:=C) q r,l=>by
    obtain ⟨A',a,b,c⟩:=RSl.setAny h i r (by simpa using l)
    refine ⟨_, .dp q a,fun x hx=>?_,fun nd nb np=>?_⟩
    · rcases List.mem_append.mp hx with z | z
      · exact .inr (List.mem_append_left _ z)
      · exact (b x z).imp id (List.mem_append_right _)
    · have n1:=List.nodup_append.mp nd
      refine List.nodup_append.mpr ⟨n1.1,c n1.2.1 nb fun x hx z=>np x hx (List.mem_append_right _ z),fun x hx y hy e=>?_⟩
      subst e
      rcases b _ hy with z | z
      · exact np _ z (List.mem_append_left _ hx)
      · exact n1.2.2 _ hx _ z rfl
theorem RS.putAny {K:PySem.W.Frag} {F A:List Addr} {H H':Hp} {t:Th} {σ:L2.St} {i:Nat} {s:Sl} {v:V} {B:List Addr} (R:RS K F H A t σ) (g:Same H H') (fr:∀ b ∈ B,H b=none) (nb:B.Nodup) (lb:Lists H' B)
    (mk:∀ {t:Th} {σ:L2.St} {A':List Addr},RSl K (hide (B ++ (A ++ F)) H') H' t σ A'→RSl K (hide (B ++ (A ++ F)) H') H' (s :: t) (some v :: σ) (B ++ A')) (hi:i < t.length) :
    ∃ A',Gr A H A' H'∧RS K F H' A' (t.set i s) (σ.set i (some v)):=by
  have R':=R.grow g
  have np:∀ b ∈ B,b ∉ A ++ F:=fun b hb=>notin_lists R.mu (fr b hb)
  have r0:RSl K (hide (B ++ (A ++ F)) H') H' t σ A:=RSl.mono (fun b o h=>by
    obtain ⟨n,h⟩:=of_hide h
    refine hide_get (g _ _ h) fun z=>?_
    rcases List.mem_append.mp z with z | z
    · rw [fr b z] at h; cases h
    · exact n z) R.rel fun b _ o h=>g _ _ h
  obtain ⟨A',r1,sub,nd⟩:=RSl.setAny mk i r0 hi
  refine ⟨A',⟨fun b o _ h=>g b o h,fun b hb=>by obtain ⟨ws,z⟩:=R.mu b (List.mem_append_left _ hb); rw [g _ _ z]; simp,fun b hb=>?_⟩,?_,nd R.nd nb fun b hb z=>np b hb (List.mem_append_left _ z),fun b hb=>?_,?_⟩
  · rcases sub b hb with z | z
    · exact .inr (fr b z)
    · exact .inl z
  · intro b hb
    rcases List.mem_append.mp hb with z | z
    · rcases sub b z with z | z
      · exact lb b z
      · exact R'.mu b (List.mem_append_left _ z)
    · exact R'.mu b (List.mem_append_right _ z)
  · rcases sub b hb with z | z
    · exact fun w=>np b z (List.mem_append_right _ w)
    · exact R.dj b z
  · refine RSl.mono (hide_less H' fun b z=>?_) r1 fun _ _ _ h=>h
    rcases List.mem_append.mp z with z | z
    · rcases sub b z with z | z
      · exact List.mem_append_left _ z
      · exact List.mem_append_right _ (List.mem_append_left _ z)
    · exact List.mem_append_right _ (List.mem_append_right _ z)
def setSl (t:Th) (i:Nat) (r:Ev):Option Th:=if i < t.length then (match r with
  | .cl d=>some (t.set i (.val d))
  | .tm d=>if flat d then some (t.set i (.val d)) else none
  | .nw xs=>some (t.set i (.own xs))
  | .dn d=>some (t.set i (.dp d))) else none
theorem RS.put {K:PySem.W.Frag} {F A:List Addr} {H H':Hp} {t t':Th} {σ:L2.St} {i:Nat} {r:Ev} {v:V} (R:RS K F H A t σ) (g:Same H H') (q:RepEv K F A H H' r v) (e:setSl t i r=some t') :
    ∃ A',Gr A H A' H'∧RS K F H' A' t' (σ.set i (some v)):=by
  have R':=R.grow g
  have val:∀ d,Rep K (hide (A ++ F) H') d v→i < t.length→∃ A',Gr A H A' H'∧RS K F H' A' (t.set i (.val d)) (σ.set i (some v)):=fun d hd hi=>by
    obtain ⟨A',r1,sub⟩:=RSl.setVal hd i R'.rel hi
    have sub':∀ x ∈ A',x ∈ A:=fun x hx=>sub.subset hx
    refine ⟨A',⟨fun b o _ h=>g b o h,fun b hb=>by obtain ⟨vs,z⟩:=R.mu b (List.mem_append_left _ hb); rw [g _ _ z]; simp,fun b hb => .inl (sub' b hb)⟩,?_,R.nd.sublist sub,fun p hp=>R.dj p (sub' p hp),?_⟩
    · intro p hp
      rcases List.mem_append.mp hp with z | z
      · exact R'.mu p (List.mem_append_left _ (sub' p z))
      · exact R'.mu p (List.mem_append_right _ z)
    · refine RSl.mono (hide_less H' fun a z=>?_) r1 fun _ _ _ h=>h
      rcases List.mem_append.mp z with z | z
      · exact List.mem_append_left _ (sub' a z)
      · exact List.mem_append_right _ z
  unfold setSl at e
  split at e
  case isFalse=>cases e
  rename_i hi
  cases r with
  | cl d=>cases e; exact val d q hi
  | tm d =>
    simp only at e
    split at e
    · rename_i f
      cases e
      exact val d (Rep.hid R'.mu f (Rep.mono (hide_sub _ _) q)) hi
    · cases e
  | nw xs =>
    cases e
    obtain ⟨p,vs,rfl,h1,h2,h3⟩:=q
    exact R.putAny (B:=[p]) g (fun b hb=>by simp at hb; subst hb; exact h1) (by simp) (fun b hb=>by simp at hb; subst hb; exact ⟨mL vs,h2⟩) (fun r => .own h2 h3 r) hi
  | dn d =>
    cases e
    obtain ⟨B,h1,h2,h3⟩:=q
    exact R.putAny (B:=B) g h2 h1 h3.lists (fun r => .dp h3 r) hi
section
variable {X:Cx} {F:List Addr} {a b c:Expr} {es:List Expr} {fa fb fc:DE} {g g1 g2:DS} {ft fu:DT} {pos:Pos} {st:Stmt} {rest:List Stmt}
def dAsg (i:Nat) (f:DE):DS:=fun t=>(f t).bind fun r=>(setSl t i r).map Out.nx
theorem psd_set {i:Nat} {x:Str} {pos':Pos} (hN:X.N.Nodup) (hi:X.N[i]?=some x) (hx:Loc X.env.scope x) (he:PE X a (dE X.K F fa)) (hs:swapsWith a (some (.Name x pos')) pos.line X.env=pure false:=by rfl) (hf:X.fn x=true ∨ X.env.scope.names.lookup x=some .local:=by first | exact .inl rfl | exact .inr rfl | assumption) :
    PS X (.Assign [.Name x pos'] a pos) (dS X.K F (dAsg i fa)):=by
  refine PS.imp (ps_set hN hi hx he hs hf) ?_
  rintro E σ H ⟨A,t,o,R,e,h⟩
  unfold dAsg at e
  cases e1:fa t with
  | none=>rw [e1] at e; cases e
  | some r1 =>
    rw [e1] at e
    have e:(setSl t i r1).map Out.nx=some o:=e
    cases e2:setSl t i r1 with
    | none=>rw [e2] at e; cases e
    | some t' =>
      rw [e2] at e
      cases e
      refine ⟨A,t,r1,R,e1,fun v H' gs q=>?_⟩
      obtain ⟨A',g',R'⟩:=R.put gs q e2
      exact h _ _ _ g' R'
end
end DL
namespace DL
open PySem PySem.Spec PyProof.Rows L2
def TgOk (K:PySem.W.Frag) (F:List Addr) (g:TG) (k:D→Th→Option Th):Prop :=
  ∀ σ H A t t' d x (Q:L2.St→Hp→Prop),RS K F H A t σ→Rep K (hide (A ++ F) H) d x→k d t=some t'→(∀ σ2 A2,Gr A H A2 H→RS K F H A2 t' σ2→Q σ2 H)→g x σ H Q
def TgsOk (K:PySem.W.Frag) (F:List Addr) (g:TGs) (k:List D→Th→Option Th):Prop :=
  ∀ σ H A t t' ds xs (Q:L2.St→Hp→Prop),RS K F H A t σ→Reps K (hide (A ++ F) H) ds xs→k ds t=some t'→(∀ σ2 A2,Gr A H A2 H→RS K F H A2 t' σ2→Q σ2 H)→g xs σ H Q
def gkName (i:Nat):D→Th→Option Th:=fun d t=>setSl t i (.cl d)
def gkNil:List D→Th→Option Th:=fun ds t=>match ds with
  | []=>some t
  | _=>none
def gkCons (k:D→Th→Option Th) (k':List D→Th→Option Th):List D→Th→Option Th:=fun ds t=>match ds with
  | d :: r=>(k d t).bind (k' r)
  | []=>none
def gkTup (n:Nat) (k:List D→Th→Option Th):D→Th→Option Th:=fun d t=>match d with
  | .tup ds=>if ds.length=n then k ds t else none
  | _=>none
theorem tg_name {K:PySem.W.Frag} {F:List Addr} (i:Nat):TgOk K F (gName i) (gkName i):=by
  intro σ H A t t' d x Q R r e h
  obtain ⟨A',g,R'⟩:=R.put (i:=i) (r := .cl d) (Same.refl H) r e
  exact h _ _ g R'
theorem tgs_nil {K:PySem.W.Frag} {F:List Addr}:TgsOk K F gNil gkNil:=by
  intro σ H A t t' ds xs Q R r e h
  cases r with
  | nil=>cases e; exact ⟨rfl,h σ A (Gr.refl R.mu.left) R⟩
  | cons _ _=>cases e
theorem tgs_cons {K:PySem.W.Frag} {F:List Addr} {g:TG} {g':TGs} {k:D→Th→Option Th} {k':List D→Th→Option Th} (h1:TgOk K F g k) (h2:TgsOk K F g' k'):TgsOk K F (gCons g g') (gkCons k k'):=by
  intro σ H A t t' ds xs Q R r e h
  cases r with
  | nil=>cases e
  | @cons d v ds vs r1 r2 =>
    unfold gkCons at e
    cases e1:k d t with
    | none=>simp only [e1] at e; cases e
    | some t1 =>
      simp only [e1] at e
      refine ⟨v,vs,rfl,h1 σ H A t t1 d v _ R r1 e1 fun σ2 A2 g2 R2=>?_⟩
      exact h2 σ2 H A2 t1 t' ds vs Q R2 (Reps.mono g2.same r2) e fun σ3 A3 g3 R3=>h σ3 A3 (g2.trans g3) R3
theorem tg_tup {K:PySem.W.Frag} {F:List Addr} {n:Nat} {g':TGs} {k':List D→Th→Option Th} (h2:TgsOk K F g' k'):TgOk K F (gTup K n g') (gkTup n k'):=by
  intro σ H A t t' d x Q R r e h
  unfold gkTup at e
  split at e
  · rename_i ds
    split at e
    · rename_i hl
      cases r with
      | @tup _ p vs h1 hr=>exact ⟨p,vs,rfl,SqT.mono (hide_sub _ _) h1,by rw [hr.length]; exact hl,h2 σ H A t t' ds vs Q R hr e h⟩
    · cases e
  · cases e
def dAsgT (k:D→Th→Option Th) (f:DE):DS:=fun t=>(f t).bind fun r=>if r.ok then (k r.d t).map Out.nx else none
section
variable {X:Cx} {F:List Addr} {a b c:Expr} {es:List Expr} {fa fb fc:DE} {g g1 g2:DS} {ft fu:DT} {pos:Pos} {st:Stmt} {rest:List Stmt} {tg:Expr} {gt:TG} {kt:D→Th→Option Th}
theorem psd_asg (he:PE X a (dE X.K F fa)) (hg:PG X tg gt) (ht:TgOk X.K F gt kt) (hs:swapsWithSole [tg] a pos.line X.env=pure false:=by rfl) (hw:swappedStores [tg] a X.env=pure none:=by rfl)
    (h1:(assignEach [tg] X.env).map (·.2)=[assign tg X.env]:=by rfl):PS X (.Assign [tg] a pos) (dS X.K F (dAsgT kt fa)):=by
  refine PS.imp (ps_asg he hg hs hw h1) ?_
  rintro E σ H ⟨A,t,o,R,e,h⟩
  unfold dAsgT at e
  cases e1:fa t with
  | none=>rw [e1] at e; cases e
  | some r1 =>
    rw [e1] at e
    have e:(if r1.ok then (kt r1.d t).map Out.nx else none)=some o:=e
    split at e
    case isFalse=>cases e
    rename_i ok
    cases e2:kt r1.d t with
    | none=>rw [e2] at e; cases e
    | some t' =>
      rw [e2] at e
      cases e
      refine ⟨A,t,r1,R,e1,fun v H' gs q=>?_⟩
      exact ht σ H' A t t' r1.d v E.nx (R.grow gs) (q.clean R.mu gs ok) e2 fun σ2 A2 g2 R2=>h σ2 H' A2 ((Gr.of_same R.mu.left gs).trans g2) R2
def kPar (t:Th) (i j:Nat):List Ev→Option Out
  | [r1,r2]=>if r1.ok && r2.ok then ((setSl t i (.cl r1.d)).bind fun t1=>setSl t1 j (.cl r2.d)).map Out.nx else none
  | _=>none
def dPar (i j:Nat) (f:DA):DS:=fun t=>(f t).bind (kPar t i j)
theorem psd_par {i j:Nat} {x y:Str} {ga:DA} {px py pt:Pos} {kt k2 pt2} (hc:X.calm=true) (hN:X.N.Nodup) (hi:X.N[i]?=some x) (hj:X.N[j]?=some y) (hij:i ≠ j)
    (hx:X.env.scope.names.lookup x=some .local) (hy:X.env.scope.names.lookup y=some .local) (ha:PA X [a,b] (dA X.K F ga))
    (hw:swappedStores [.Tuple [.Name x px, .Name y py] kt pt] (.Tuple [a,b] k2 pt2) X.env=pure (some [x,y]))
    (hs:swapsWithSole [.Tuple [.Name x px, .Name y py] kt pt] (.Tuple [a,b] k2 pt2) pos.line X.env=pure false:=by rfl) :
    PS X (.Assign [.Tuple [.Name x px, .Name y py] kt pt] (.Tuple [a,b] k2 pt2) pos) (dS X.K F (dPar i j ga)):=by
  refine PS.imp (ps_par hc hN hi hj hij hx hy ha hw hs) ?_
  rintro E σ H ⟨A,t,o,R,e,h⟩
  unfold dPar at e
  cases e1:ga t with
  | none=>rw [e1] at e; cases e
  | some rs =>
    rw [e1] at e
    refine ⟨A,t,rs,R,e1,fun vs H' gs q=>?_⟩
    have e:kPar t i j rs=some o:=e
    cases q with
    | nil=>cases e
    | @cons r1 _ _ _ q1 q' =>
     cases q' with
     | nil=>cases e
     | @cons r2 _ _ _ q2 q3 =>
      cases q3 with
      | cons _ _=>cases e
      | nil =>
        simp only [kPar] at e
        split at e
        case isFalse=>cases e
        rename_i ok
        simp only [Bool.and_eq_true] at ok
        refine ⟨_,_,rfl,?_⟩
        cases e2:setSl t i (.cl r1.d) with
        | none=>rw [e2] at e; cases e
        | some t1 =>
          rw [e2] at e
          have e:(setSl t1 j (.cl r2.d)).map Out.nx=some o:=e
          cases e3:setSl t1 j (.cl r2.d) with
          | none=>rw [e3] at e; cases e
          | some t2 =>
            rw [e3] at e
            cases e
            have c2:=q2.clean R.mu gs ok.2
            obtain ⟨A1,g1,R1⟩:=(R.grow gs).put (i:=i) (r := .cl r1.d) (Same.refl H') (q1.clean R.mu gs ok.1) e2
            obtain ⟨A2,g2,R2⟩:=R1.put (i:=j) (r := .cl r2.d) (Same.refl H') (Rep.mono g1.same c2) e3
            exact h _ _ _ (((Gr.of_same R.mu.left gs).trans g1).trans g2) R2
end
def forD (k:D→Th→Option Th) (body:DS):List D→Th→Option Out
  | [],t=>some (.nx t)
  | d :: ds,t=>(k d t).bind fun t1=>(body t1).bind fun o=>match o with
    | .nx t'=>forD k body ds t'
    | .ct t'=>forD k body ds t'
    | .bk t'=>some (.nx t')
    | .rt r=>some (.rt r)
def whD (c:DT) (body:DS):Nat→Th→Option Out
  | 0,_=>none
  | n + 1,t=>(c t).bind fun b=>if b then (body t).bind fun o=>match o with
    | .nx t'=>whD c body n t'
    | .ct t'=>whD c body n t'
    | .bk t'=>some (.nx t')
    | .rt r=>some (.rt r) else some (.nx t)
def dWhile (fu:Th→Nat) (c:DT) (body:DS):DS:=fun t=>whD c body (fu t) t
def Post (K:PySem.W.Frag) (F A:List Addr) (H:Hp) (E:Ends):Out→Prop
  | .nx t'=>After K F A H E.nx t'
  | .bk t'=>After K F A H E.bk t'
  | .ct t'=>After K F A H E.ct t'
  | .rt r=>Back K F A H E.rt r
theorem Post.back {K:PySem.W.Frag} {F A A1:List Addr} {H H1:Hp} {E:Ends} {o:Out} (h:Post K F A H E o) (g:Gr A H A1 H1):Post K F A1 H1 E o:=by
  cases o with
  | nx t2=>exact After.back h g
  | bk t2=>exact After.back h g
  | ct t2=>exact After.back h g
  | rt r=>exact Back.back h g
theorem dS_mk {K:PySem.W.Frag} {F A:List Addr} {g:DS} {E:Ends} {σ:L2.St} {H:Hp} {t:Th} {o:Out} (R:RS K F H A t σ) (e:g t=some o) (p:Post K F A H E o):dS K F g E σ H:=⟨A,t,o,R,e,by cases o <;> exact p⟩
theorem dS_of {K:PySem.W.Frag} {F:List Addr} {g:DS} {E:Ends} {σ:L2.St} {H:Hp} (h:dS K F g E σ H):∃ A t o,RS K F H A t σ∧g t=some o∧Post K F A H E o:=by
  obtain ⟨A,t,o,R,e,h⟩:=h
  exact ⟨A,t,o,R,e,by cases o <;> exact h⟩
section
variable {X:Cx} {F:List Addr} {a b c:Expr} {es:List Expr} {fa fb fc:DE} {g g1 g2:DS} {ft fu:DT} {pos:Pos} {st:Stmt} {rest:List Stmt} {tg:Expr} {gt:TG} {kt:D→Th→Option Th}
theorem psd_while {body:List Stmt} (m:Th→Nat) (hp:PassesOwn (model X.prog X.w) X.A X.env X.xe) (hc:PT X c (dT X.K F ft)) (hb:PSs X body (dS X.K F g)):PS X (.While c body [] pos) (dS X.K F (dWhile m ft g)):=by
  refine PS.imp (ps_while hp hc hb) ?_
  intro E σ H hh
  obtain ⟨A,t,o,R,e,h⟩:=dS_of hh
  refine ⟨fun n σ H => ∃ A t o,whD ft g n t=some o∧RS X.K F H A t σ∧Post X.K F A H E o,⟨m t,A,t,o,e,R,h⟩,?_⟩
  rintro n σ H ⟨A,t,o,e,R,h⟩
  cases n with
  | zero=>cases e
  | succ n =>
    simp only [whD] at e
    cases e1:ft t with
    | none=>rw [e1] at e; cases e
    | some b =>
      rw [e1] at e
      refine ⟨A,t,b,R,e1,fun H1 gs=>?_⟩
      have gr:Gr A H A H1:=Gr.of_same R.mu.left gs
      cases b with
      | false =>
        have e:some (Out.nx t)=some o:=e
        cases e
        exact iteF (h σ H1 A gr (R.grow gs))
      | true =>
        have e:((g t).bind fun o=>match o with
          | .nx t'=>whD ft g n t'
          | .ct t'=>whD ft g n t'
          | .bk t'=>some (.nx t')
          | .rt r=>some (.rt r))=some o:=e
        refine iteT ⟨fun σ' H' => ∃ A t o,whD ft g n t=some o∧RS X.K F H' A t σ'∧Post X.K F A H' E o,fun σ' H' q=>⟨n,Nat.lt_succ_self n,q⟩,?_⟩
        cases e2:g t with
        | none=>rw [e2] at e; cases e
        | some o2 =>
          rw [e2] at e
          refine dS_mk (R.grow gs) e2 ?_
          cases o2 with
          | nx t'=>exact fun σ' H' A' g' R'=>⟨A',t',o,e,R',h.back (gr.trans g')⟩
          | ct t'=>exact fun σ' H' A' g' R'=>⟨A',t',o,e,R',h.back (gr.trans g')⟩
          | bk t'=>cases e; exact fun σ' H' A' g' R'=>h σ' H' A' (gr.trans g') R'
          | rt r=>cases e; exact Back.back h gr
theorem for_core {K:PySem.W.Frag} {J:It} {ds:List D} {E:Ends} {σ:L2.St} {H:Hp} {A:List Addr} {t:Th} {o:Out} (Good:List Addr→Hp→Prop) (ht:TgOk K F gt kt) (R:RS K F H A t σ) (e:forD kt g ds t=some o) (h:Post K F A H E o) (g0:Good A H)
    (keep:∀ A H A' H',Good A H→Gr A H A' H'→Good A' H') (stop:∀ A H,Good A H→J.stop ds.length H) (go:∀ A H i,Good A H→i < ds.length→J.go i H)
    (yld:∀ A H i x H',Good A H→Lists H (A ++ F)→J.yld i H x H'→i < ds.length→Same H H'∧∃ d,ds[i]?=some d∧Rep K (hide (A ++ F) H') d x) :
    ∃ W:Nat→Nat→L2.St→Hp→Prop,(∃ m,W 0 m σ H)∧∀ i m σ H,W i m σ H →
      (J.stop i H∧E.nx σ H) ∨ (J.go i H∧∃ N:L2.St→Hp→Prop,(∀ σ' H',N σ' H'→∃ m',m' < m∧W (i + 1) m' σ' H')∧∀ x H',J.yld i H x H'→gt x σ H' fun σ2 H2=>dS K F g { E with nx:=N,ct:=N,bk:=E.nx } σ2 H2):=by
  refine ⟨fun i m σ H=>i + m=ds.length∧∃ A t o,forD kt g (ds.drop i) t=some o∧RS K F H A t σ∧Post K F A H E o∧Good A H,⟨ds.length,by omega,A,t,o,by simpa using e,R,h,g0⟩,?_⟩
  rintro i m σ H ⟨hm,A,t,o,e,R,h,gd⟩
  cases m with
  | zero =>
    have z:i=ds.length:=by omega
    subst z
    rw [List.drop_length] at e
    cases e
    exact .inl ⟨stop A H gd,h σ H A (Gr.refl R.mu.left) R⟩
  | succ m =>
    have hi:i < ds.length:=by omega
    refine .inr ⟨go A H i gd hi,fun σ' H'=>i + 1 + m=ds.length∧∃ A t o,forD kt g (ds.drop (i + 1)) t=some o∧RS K F H' A t σ'∧Post K F A H' E o∧Good A H',fun σ' H' q=>⟨m,Nat.lt_succ_self m,q⟩,fun x H' y=>?_⟩
    obtain ⟨gs,d,hd,rd⟩:=yld A H i x H' gd R.mu y hi
    have ed:ds.drop i=d :: ds.drop (i + 1):=by
      have hd':ds[i]=d:=by
        rw [List.getElem?_eq_getElem hi] at hd
        exact Option.some.inj hd
      rw [← hd']
      exact List.drop_eq_getElem_cons hi
    rw [ed] at e
    simp only [forD] at e
    cases e1:kt d t with
    | none=>rw [e1] at e; cases e
    | some t1 =>
      rw [e1] at e
      refine ht σ H' A t t1 d x _ (R.grow gs) rd e1 fun σ2 A2 gr3 R2=>?_
      have gr2:Gr A H A2 H':=(Gr.of_same R.mu.left gs).trans gr3
      have e:((g t1).bind fun o=>match o with
          | .nx t'=>forD kt g (ds.drop (i + 1)) t'
          | .ct t'=>forD kt g (ds.drop (i + 1)) t'
          | .bk t'=>some (.nx t')
          | .rt r=>some (.rt r))=some o:=e
      cases e2:g t1 with
      | none=>rw [e2] at e; cases e
      | some o2 =>
        rw [e2] at e
        refine dS_mk R2 e2 ?_
        cases o2 with
        | nx t'=>exact fun σ' H' A' g' R'=>⟨by omega,A',t',o,e,R',h.back (gr2.trans g'),keep _ _ _ _ gd (gr2.trans g')⟩
        | ct t'=>exact fun σ' H' A' g' R'=>⟨by omega,A',t',o,e,R',h.back (gr2.trans g'),keep _ _ _ _ gd (gr2.trans g')⟩
        | bk t'=>cases e; exact fun σ' H' A' g' R'=>h σ' H' A' (gr2.trans g') R'
        | rt r=>cases e; exact Back.back h gr2
def dFor (k:D→Th→Option Th) (f:DE) (body:DS):DS:=fun t=>(f t).bind fun r=>match r.d with
  | .lst ds=>if r.ok then forD k body ds t else none
  | _=>none
theorem psd_for {body:List Stmt} (hp:PassesOwn (model X.prog X.w) X.A X.env X.xe) (hc:X.calm=true) (hl:PE X a (dE X.K F fa)) (hg:PG X tg gt) (ht:TgOk X.K F gt kt) (hb:PSs X body (dS X.K F g))
    (hs:∀ x,foldedSetIterable a X.env x=pure x:=by intro _; rfl):PS X (.For tg a body [] pos) (dS X.K F (dFor kt fa g)):=by
  refine PS.imp (ps_for hp hc (pi_list hl) hg hb hs) ?_
  intro E σ H hh
  obtain ⟨A,t,o,R,e,h⟩:=dS_of hh
  unfold dFor at e
  cases e1:fa t with
  | none=>rw [e1] at e; cases e
  | some r =>
    rw [e1] at e
    refine ⟨A,t,r,R,e1,fun v H1 gs q=>?_⟩
    have e:(match r.d with
      | .lst ds=>if r.ok then forD kt g ds t else none
      | _=>none)=some o:=e
    split at e
    case h_2=>cases e
    rename_i ds z
    split at e
    case isFalse=>cases e
    rename_i ok
    have cl:=q.clean R.mu gs ok
    rw [z] at cl
    cases cl with
    | @lst _ p vs h1 h2 =>
      refine ⟨p,rfl,⟨vs,SqL.mono (hide_sub _ _) h1⟩,?_⟩
      refine for_core (fun A H=>SqL X.K (hide (A ++ F) H) p vs∧Reps X.K (hide (A ++ F) H) ds vs) ht (R.grow gs) e (h.back (Gr.of_same R.mu.left gs)) ⟨h1,h2⟩ (fun A H A' H' q gr=>⟨SqL.mono gr.same q.1,Reps.mono gr.same q.2⟩)
        (fun A H q=>⟨vs,SqL.mono (hide_sub _ _) q.1,by rw [h2.length]; exact Nat.le_refl _⟩) (fun A H i q hi=>?_) (fun A H i x H' q _ y hi=>?_)
      · have hi':i < vs.length:=by rw [h2.length]; exact hi
        exact ⟨vs,vs[i],SqL.mono (hide_sub _ _) q.1,List.getElem?_eq_getElem hi'⟩
      · obtain ⟨e1,e2⟩:=y
        have z:=e2 vs (SqL.mono (hide_sub _ _) q.1)
        subst e1
        exact ⟨Same.refl _,q.2.getV z⟩
def rngD (lo:Int) (n:Nat):List D:=(List.range n).map fun (i:Nat)=>D.int (lo + (i:Int))
def bigI (i:Int):Bool:=decide (-1000000000000 ≤ i∧i ≤ 1000000000000)
def dRng1 (k:D→Th→Option Th) (f:DE) (body:DS):DS:=fun t=>(f t).bind fun r=>match r.d with
  | .int n=>if bigI n then forD k body (rngD 0 n.toNat) t else none
  | _=>none
def dRng2 (k:D→Th→Option Th) (f f':DE) (body:DS):DS:=fun t=>(f t).bind fun r=>(f' t).bind fun r'=>match r.d,r'.d with
  | .int lo, .int n=>if bigI n && bigI lo then forD k body (rngD lo (n - lo).toNat) t else none
  | _,_=>none
theorem rng_len (lo:Int) (n:Nat):(rngD lo n).length=n:=by simp [rngD]
theorem rng_core {K:PySem.W.Frag} {lo:Int} {n:Nat} {E:Ends} {σ:L2.St} {H:Hp} {A:List Addr} {t:Th} {o:Out} (ht:TgOk K F gt kt) (R:RS K F H A t σ) (e:forD kt g (rngD lo n) t=some o) (h:Post K F A H E o) :
    ∃ W:Nat→Nat→L2.St→Hp→Prop,(∃ m,W 0 m σ H)∧∀ i m σ H,W i m σ H →
      ((Itr lo n).stop i H∧E.nx σ H) ∨ ((Itr lo n).go i H∧∃ N:L2.St→Hp→Prop,(∀ σ' H',N σ' H'→∃ m',m' < m∧W (i + 1) m' σ' H')∧∀ x H',(Itr lo n).yld i H x H'→gt x σ H' fun σ2 H2=>dS K F g { E with nx:=N,ct:=N,bk:=E.nx } σ2 H2):=by
  refine for_core (fun _ _=>True) ht R e h trivial (fun _ _ _ _ _ _=>trivial) (fun A H _=>?_) (fun A H i _ hi=>?_) (fun A H i x H' _ _ y hi=>?_)
  · rw [rng_len]; exact Nat.le_refl n
  · rw [rng_len] at hi; exact hi
  · rw [rng_len] at hi
    obtain ⟨e1,e2⟩:=y
    subst e1
    refine ⟨Same.refl _, .int (lo + i),by simp [rngD,hi],?_⟩
    rw [e2]; exact .int _
theorem psd_rng1 {body:List Stmt} {p1 p2:Pos} (hp:PassesOwn (model X.prog X.w) X.A X.env X.xe) (hc:X.calm=true) (hgr:Gl X "range") (hm:X.mg "range"=none) (ha:PE X a (dE X.K F fa)) (hg:PG X tg gt) (ht:TgOk X.K F gt kt) (hb:PSs X body (dS X.K F g))
    (hst:starEach [a] X.env=[(false,eval a X.env)]:=by rfl) (hs:∀ x,foldedSetIterable (.Call (.Name "range" p1) [a] [] p2) X.env x=pure x:=by intro _; rfl):PS X (.For tg (.Call (.Name "range" p1) [a] [] p2) body [] pos) (dS X.K F (dRng1 kt fa g)):=by
  refine PS.imp (ps_for hp hc (pi_range1 hgr hm (pa_cons ha pa_nil hst) hst) hg hb hs) ?_
  intro E σ H hh
  obtain ⟨A,t,o,R,e,h⟩:=dS_of hh
  unfold dRng1 at e
  cases e1:fa t with
  | none=>rw [e1] at e; cases e
  | some r =>
    rw [e1] at e
    refine ⟨A,t,r,R,e1,fun v H1 gs q=>?_⟩
    have e:(match r.d with
      | .int n=>if bigI n then forD kt g (rngD 0 n.toNat) t else none
      | _=>none)=some o:=e
    split at e
    case h_2=>cases e
    rename_i n z
    split at e
    case isFalse=>cases e
    rename_i ok
    simp only [bigI,decide_eq_true_eq] at ok
    have p:=q.full
    rw [z] at p
    cases rep_int p
    exact ⟨n,rfl,by omega,by omega,rng_core ht (R.grow gs) e (h.back (Gr.of_same R.mu.left gs))⟩
theorem psd_rng2 {body:List Stmt} {p1 p2:Pos} (hp:PassesOwn (model X.prog X.w) X.A X.env X.xe) (hc:X.calm=true) (hgr:Gl X "range") (hm:X.mg "range"=none) (ha:PE X a (dE X.K F fa)) (hb':PE X b (dE X.K F fb)) (hg:PG X tg gt) (ht:TgOk X.K F gt kt) (hb:PSs X body (dS X.K F g))
    (hst:starEach [a,b] X.env=[(false,eval a X.env),(false,eval b X.env)]:=by rfl) (hst2:starEach [b] X.env=[(false,eval b X.env)]:=by rfl) (hs:∀ x,foldedSetIterable (.Call (.Name "range" p1) [a,b] [] p2) X.env x=pure x:=by intro _; rfl) :
    PS X (.For tg (.Call (.Name "range" p1) [a,b] [] p2) body [] pos) (dS X.K F (dRng2 kt fa fb g)):=by
  refine PS.imp (ps_for hp hc (pi_range2 hgr hm (pa_cons ha (pa_cons hb' pa_nil hst2) (by rw [hst,hst2])) hst hst2) hg hb hs) ?_
  intro E σ H hh
  obtain ⟨A,t,o,R,e,h⟩:=dS_of hh
  unfold dRng2 at e
  cases e1:fa t with
  | none=>rw [e1] at e; cases e
  | some r =>
    cases e2:fb t with
    | none=>rw [e1,e2] at e; cases e
    | some r' =>
      rw [e1,e2] at e
      refine ⟨A,t,r,R,e1,fun v H1 gs q=>⟨A,t,r',R.grow gs,e2,fun v2 H2 gs2 q2=>?_⟩⟩
      have e:(match r.d,r'.d with
        | .int lo, .int n=>if bigI n && bigI lo then forD kt g (rngD lo (n - lo).toNat) t else none
        | _,_=>none)=some o:=e
      split at e
      case h_2=>cases e
      rename_i lo n z1 z2
      split at e
      case isFalse=>cases e
      rename_i ok
      simp only [bigI,Bool.and_eq_true,decide_eq_true_eq] at ok
      have p:=q.full
      rw [z1] at p
      cases rep_int p
      have p':=q2.full
      rw [z2] at p'
      cases rep_int p'
      exact ⟨lo,n,rfl,⟨by omega,by omega,by omega,by omega⟩,rng_core ht (R.grow (gs.trans gs2)) e (h.back (Gr.of_same R.mu.left (gs.trans gs2)))⟩
end
end DL
namespace DL
open PySem PySem.Spec PyProof.Rows L2
theorem RSl.upd {K:PySem.W.Frag} {H0 H H':Hp} {ds es:List D} {ws:List V} {p:Addr} (hp:H' p=some (.lst ws)) (he:Reps K H0 es ws):∀ {t:Th} {σ:L2.St} {A:List Addr} (i:Nat),RSl K H0 H t σ A→A.Nodup→t[i]?=some (.own ds)→σ[i]?=some (some (.ref p)) →
    (∀ q ∈ A,q ≠ p→H' q=H q)→RSl K H0 H' (t.set i (.own es)) σ A
  | _,_,_,i, .nil,_,e,_,_=>by simp at e
  | _,_,_,0, .no r,_,e,_,_=>by simp at e
  | _,_,_,0, .val _ r,_,e,_,_=>by simp at e
  | _,_,_,0, .dp _ r,_,e,_,_=>by simp at e
  | _,_,_,i + 1, .dp (B:=B) h1 r,nd,e,e2,k=>by
    have n:=List.nodup_append.mp nd
    obtain ⟨p3,vs3,a1,a2,_⟩:=RSl.getOwn r (i:=i) (ds:=ds) (by simpa using e)
    have:p3=p:=by simpa [a1] using e2
    subst this
    refine .dp (RepD.mono (Same.refl _) h1 fun q hq o w=>?_) (RSl.upd hp he i r n.2.1 (by simpa using e) (by simpa using e2) fun q hq=>k q (List.mem_append_right _ hq))
    rw [k q (List.mem_append_left _ hq) (fun z=>n.2.2 q hq p3 a2 z)]; exact w
  | _,_,_,0, .own (p:=p2) (A:=A) h1 h2 r,nd,e,e2,k=>by
    simp at e2
    subst e2
    exact .own hp he (RSl.mono (Same.refl _) r fun q hq o h=>by
      have n:q ≠ p2:=fun z=>(List.nodup_cons.mp nd).1 (z ▸ hq)
      rw [k q (List.mem_cons_of_mem _ hq) n]; exact h)
  | _,_,_,i + 1, .no r,nd,e,e2,k => .no (RSl.upd hp he i r nd (by simpa using e) (by simpa using e2) k)
  | _,_,_,i + 1, .val h r,nd,e,e2,k => .val h (RSl.upd hp he i r nd (by simpa using e) (by simpa using e2) k)
  | _,_,_,i + 1, .own (p:=p2) h1 h2 r,nd,e,e2,k=>by
    have n:=List.nodup_cons.mp nd
    have e2':=(show _ from e2)
    obtain ⟨p3,vs3,a1,a2,_⟩:=RSl.getOwn r (i:=i) (ds:=ds) (by simpa using e)
    have:p3=p:=by simpa [a1] using e2
    subst this
    have np:p2 ≠ p3:=fun z=>n.1 (z ▸ a2)
    refine .own (by rw [k p2 (List.mem_cons_self ..) np]; exact h1) h2 (RSl.upd hp he i r n.2 (by simpa using e) (by simpa using e2) fun q hq=>k q (List.mem_cons_of_mem _ hq))
theorem RS.write {K:PySem.W.Frag} {F A:List Addr} {H:Hp} {t:Th} {σ:L2.St} {i:Nat} {ds es:List D} {ws:List V} {p:Addr} (R:RS K F H A t σ) (e:t[i]?=some (.own ds)) (e2:σ[i]?=some (some (.ref p))) (h:Reps K (hide (A ++ F) H) es ws) :
    RS K F (L2.upd H p (.lst ws)) A (t.set i (.own es)) σ∧Gr A H A (L2.upd H p (.lst ws)):=by
  obtain ⟨p',vs,a1,a2,a3,a4⟩:=R.rel.getOwn e
  have:p'=p:=by simpa [a1] using e2
  subst this
  have hh:Same (hide (A ++ F) H) (hide (A ++ F) (L2.upd H p' (.lst ws))):=fun b o q=>by
    obtain ⟨n,q⟩:=of_hide q
    have nb:b ≠ p':=fun z=>n (List.mem_append_left _ (z ▸ a2))
    exact hide_get (by rw [upd_ne nb]; exact q) n
  have mu:Lists (L2.upd H p' (.lst ws)) (A ++ F):=fun q hq=>by
    by_cases z:q=p'
    · exact ⟨mL ws,by rw [z]; exact upd_same⟩
    · obtain ⟨us,w⟩:=R.mu q hq
      exact ⟨us,by rw [upd_ne z]; exact w⟩
  refine ⟨⟨mu,R.nd,R.dj,RSl.upd upd_same (Reps.mono hh h) i (RSl.mono hh R.rel (H':=H) fun _ _ _ h=>h) R.nd e e2 fun q _ n=>upd_ne n⟩,?_⟩
  refine ⟨fun b o n q=>?_,fun b hb=>?_,fun b hb => .inl hb⟩
  · rw [upd_ne (fun z=>n (by rw [z]; exact a2))]; exact q
  · obtain ⟨us,w⟩:=mu b (List.mem_append_left _ hb)
    rw [w]; simp
def kApp (t:Th) (i:Nat) (r:Ev):Option Out:=match t[i]? with
  | some (.own xs)=>if r.ok && decide (xs.length < 100000) then some (.nx (t.set i (.own (xs ++ [r.d])))) else none
  | _=>none
def dApp (i:Nat) (f:DE):DS:=fun t=>(f t).bind (kApp t i)
section
variable {X:Cx} {F:List Addr} {a b c:Expr} {es:List Expr} {fa fb fc:DE} {g g1 g2:DS} {ft fu:DT} {pos:Pos} {st:Stmt} {rest:List Stmt} {tg:Expr} {gt:TG} {kt:D→Th→Option Th}
theorem psd_app (i:Nat) {x:Str} {p0 apos cpos:Pos} (he:PE X a (dE X.K F fa)) (hN:X.N[i]?=some x:=by rfl) (hv:Vis X.env.scope x:=by first | exact Or.inl rfl | exact Or.inr (Or.inl rfl) | exact Or.inr (Or.inr rfl)) (hd:(x == ("__debug__":Str))=false:=by decide)
    (hcd:(x == ("__classdict__":Str))=false:=by decide) (hst:starEach [a] X.env=[(false,eval a X.env)]:=by rfl)
    (hbase:attributeBase (.Name x p0) "append" X.env (eval (.Name x p0) X.env)=eval (.Name x p0) X.env:=by rfl)
    (hfew:((backTo cpos (starEach [a] X.env)).all (fun x => !x.1) && (backToKw cpos (keywordEach [] X.env)).all (fun x=>x.1.isSome)
      && decide ([a].length + ([]:List Keyword).length + (if ([]:List Keyword).isEmpty then 0 else 1) < 30))=true:=by rfl)
    (hline:(apos.endLine == cpos.line)=true:=by rfl) (hplain:(backTo cpos (starEach [] X.env)).any (·.1)=false:=by rfl)
    (hsw:swapsWith (.Call (.Attribute (.Name x p0) "append" apos) [a] [] cpos) none pos.line X.env=pure false:=by rfl) :
    PS X (.Expr (.Call (.Attribute (.Name x p0) "append" apos) [a] [] cpos) pos) (dS X.K F (dApp i fa)):=by
  refine PS.imp (ps_expr (pe_bm PySem.F.plainAttrs_list PySem.F.slot_list_append PySem.F.type_list_append mt_append (pe_var (i:=i) hN hv hd hcd) (pa_cons he pa_nil hst) hbase hfew hline hst hplain) hsw) ?_
  rintro E σ H ⟨A,t,o,R,e,h⟩
  unfold dApp at e
  cases e1:fa t with
  | none=>rw [e1] at e; cases e
  | some r =>
    rw [e1] at e
    have e:kApp t i r=some o:=e
    unfold kApp at e
    split at e
    case h_2=>cases e
    rename_i xs z
    split at e
    case isFalse=>cases e
    rename_i ok
    simp only [Bool.and_eq_true,decide_eq_true_eq] at ok
    cases e
    obtain ⟨p,vs,a1,a2,a3,a4⟩:=R.rel.getOwn z
    refine ⟨_,a1, .inl ⟨rfl,vs,SqL.of a3⟩,A,t,r,R,e1,fun y H1 gs q=>⟨p,vs,y,rfl,rfl,gs _ _ a3,?_,?_⟩⟩
    · have:vs.length < 100000:=by rw [a4.length]; exact ok.2
      exact Nat.lt_of_lt_of_le this (by rw [sizeLine_eq]; decide)
    · obtain ⟨R',g'⟩:=(R.grow gs).write (es:=xs ++ [r.d]) (ws:=vs ++ [y]) z a1 ((Reps.mono (same_hide gs) a4).app (Reps.one (q.clean R.mu gs ok.1)))
      exact h _ _ _ ((Gr.of_same R.mu.left gs).trans g') R'
def kIx:Ev→Ev→Option Ev:=fun r1 r2=>match r1.d,r2.d with
  | .lst ds, .int i=>(atI ds i).map fun d=>if r1.ok || flat d then .cl d else .tm d
  | .tup ds, .int i=>(atI ds i).map fun d=>if r1.ok || flat d then .cl d else .tm d
  | _,_=>none
theorem Reps.atI {K:PySem.W.Frag} {H:Hp} {ds:List D} {vs:List V} (r:Reps K H ds vs) {i:Int} {d:D} (e:L2.atI ds i=some d):∃ v,L2.atI vs i=some v∧Rep K H d v:=by
  unfold L2.atI at e ⊢
  rw [r.length]
  cases e1:ixN ds.length i with
  | none=>rw [e1] at e; cases e
  | some j=>rw [e1] at e; exact r.get e
theorem ped_ix (ha:PE X a (dE X.K F fa)) (hb:PE X b (dE X.K F fb)) (hs:PlainIx b:=by intro _ _; rfl):PE X (.Subscript a b pos) (dE X.K F (d2 kIx fa fb)):=by
  refine PE.imp (pe_ix (ix_list.or ix_tup) ha hb hs) ?_
  intro σ H Q h
  obtain ⟨A,t,r1,r2,r,R,e1,e2,e,h,w⟩:=two h
  refine ⟨A,t,r1,R,e1,fun x H1 gs1 q1=>⟨A,t,r2,R.grow gs1,e2,fun y H2 gs2 q2=>?_⟩⟩
  have q1:=q1.mono gs2
  have gs:=gs1.trans gs2
  have p2:=q2.full
  have m2:=R.mu.mono gs
  have key:∀ (P:List Addr),Rep X.K (hide P H2) r1.d x→(∀ d v,Rep X.K (hide P H2) d v→RepEv X.K F A H H2 (if r1.ok || flat d then Ev.cl d else Ev.tm d) v)→rIxL X.K x y H2 Q ∨ rIxT X.K x y H2 Q:=fun P hP fin=>by
    unfold kIx at e
    split at e
    · rename_i ds i z1 z2
      rw [z2] at p2
      cases rep_int p2
      rw [z1] at hP
      cases hP with
      | @lst _ p vs h1 h2 =>
        cases e4:atI ds i with
        | none=>rw [e4] at e; cases e
        | some d =>
          rw [e4] at e
          have e:(if r1.ok || flat d then Ev.cl d else Ev.tm d)=r:=by simpa using e
          obtain ⟨v,e5,rv⟩:=Reps.atI h2 e4
          exact .inl ⟨p,vs,i,v,rfl,rfl,SqL.mono (hide_sub _ _) h1,e5,h v H2 gs (e ▸ fin d v rv)⟩
    · rename_i ds i z1 z2
      rw [z2] at p2
      cases rep_int p2
      rw [z1] at hP
      cases hP with
      | @tup _ p vs h1 h2 =>
        cases e4:atI ds i with
        | none=>rw [e4] at e; cases e
        | some d =>
          rw [e4] at e
          have e:(if r1.ok || flat d then Ev.cl d else Ev.tm d)=r:=by simpa using e
          obtain ⟨v,e5,rv⟩:=Reps.atI h2 e4
          exact .inr ⟨p,vs,i,v,rfl,rfl,SqT.mono (hide_sub _ _) h1,e5,h v H2 gs (e ▸ fin d v rv)⟩
    · cases e
  by_cases c:r1.ok=true
  · refine key (A ++ F) (q1.clean R.mu gs c) fun d v rv=>?_
    rw [c,Bool.true_or,if_pos rfl]
    exact rv
  · refine key F (q1.cleanF R.mu) fun d v rv=>?_
    have c:r1.ok=false:=by simpa using c
    rw [c,Bool.false_or]
    split
    · rename_i f; exact Rep.hid m2 f (Rep.mono (hide_sub _ _) rv)
    · exact rv
def kCat:Ev→Ev→Option Ev:=fun r1 r2=>match r1.d,r2.d with
  | .lst ds, .lst es=>if (r1.ok || flats ds) && (r2.ok || flats es) && decide (ds.length + es.length ≤ 100000) then some (.nw (ds ++ es)) else none
  | _,_=>none
theorem RepEv.items {K:PySem.W.Frag} {F A:List Addr} {H H':Hp} {r:Ev} {v:V} {ds:List D} (m:Lists H (A ++ F)) (gs:Same H H') (q:RepEv K F A H H' r v) (z:r.d = .lst ds) (c:(r.ok || flats ds)=true) :
    ∃ p vs,v = .ref p∧SqL K H' p vs∧Reps K (hide (A ++ F) H') ds vs:=by
  rcases Bool.or_eq_true _ _ ▸ c with c | c
  · have w:=q.clean m gs c
    rw [z] at w
    cases w with
    | @lst _ p vs h1 h2=>exact ⟨p,vs,rfl,SqL.mono (hide_sub _ _) h1,h2⟩
  · have w:=q.full
    rw [z] at w
    cases w with
    | @lst _ p vs h1 h2=>exact ⟨p,vs,rfl,h1,Reps.hid (m.mono gs) c h2⟩
theorem cat_any {E:Value→Shared→Prop} {A:Around} {prog:Program} {w:World} {s:Shared} {l b:Addr} {vs ws:List Value} {Q:Value→Shared→Prop} (hl:PlainL s.heap l vs.toArray) (hb:PlainL s.heap b ws.toArray)
    (h:Q (.ref s.heap.objs.size) { s with heap:=s.heap.push { cls := .type "list",data := .seq (vs ++ ws).toArray } }) (hsz:vs.length + ws.length ≤ sizeLine) :
    wpAny (model prog w) A (binaryOp .Add (.ref l) (.ref b)) Q E s:=by
  obtain ⟨⟨cls,dd,data,sl⟩,n,ho,hc,hdd,hd⟩:=id hl
  obtain ⟨⟨cls2,dd2,data2,sl2⟩,n2,ho2,hc2,hdd2,hd2⟩:=id hb
  simp only at hc hd hc2 hd2
  subst hc hd hc2 hd2
  have e:vs.toArray ++ ws.toArray=(vs ++ ws).toArray:=by simp
  refine concat_meets ⟨_,ho,rfl⟩ ⟨_,ho2,rfl⟩ noFill_list_add seq_list_add PySem.F.slot_list_add PySem.F.entry_list_add (PySem.F.args_list_add_2 _ _) (list_addW l b vs.toArray ws.toArray n n2 dd dd2 sl sl2 (by simpa using hsz)) ⟨ho,ho2,?_⟩
  rw [e]
  exact h
theorem od_cat:OpD X F (binaryOp .Add) kCat:=by
  intro pins s σ H0 H A x y v u Q r1 r2 r I m g0 rx ry q1 q2 e hq
  unfold kCat at e
  split at e
  case h_2=>cases e
  rename_i ds es' z1 z2
  split at e
  case isFalse=>cases e
  rename_i c
  simp only [Bool.and_eq_true,decide_eq_true_eq] at c
  cases e
  obtain ⟨p,vs,rfl,h1,h2⟩:=q1.items m g0 z1 c.1.1
  obtain ⟨p',ws,rfl,h1',h2'⟩:=q2.items m g0 z2 c.1.2
  cases rx
  cases ry
  obtain ⟨its,w1,w2,w3⟩:=I.list h1
  obtain ⟨its',w1',w2',w3'⟩:=I.list h1'
  have l1:=h2.length
  have l2:=h2'.length
  have l3:=w1.length
  have l4:=w1'.length
  have hz:vs.length + ws.length ≤ sizeLine:=le_line (by omega)
  refine cat_any w2 w2' ⟨.ref _,_,I.lnew (t':=s.toks) (w1.append w1') (by rw [List.length_append]; exact hz),rfl,?_⟩ (by omega)
  refine hq _ _ (upd_sameH I.fresh) ⟨_,_,rfl,Same.free g0 I.fresh,upd_same,Reps.mono (hide_upd I.fresh) (h2.app h2')⟩
mutual
def eqD:D→D→Bool
  | .non, .non=>true
  | .bl a, .bl b=>decide (a=b)
  | .int a, .int b=>decide (a=b)
  | .str a, .str b=>decide (a=b)
  | .tup a, .tup b=>eqDs a b
  | .lst a, .lst b=>eqDs a b
  | .dct ks a, .dct ks' b=>decide (ks=ks') && eqDs a b
  | _,_=>false
def eqDs:List D→List D→Bool
  | [],[]=>true
  | a :: as,b :: bs=>eqD a b && eqDs as bs
  | _,_=>false
end
def eqOk:Nat→D→D→Bool
  | _, .non, .non=>true
  | _, .bl _, .bl _=>true
  | _, .int _, .int _=>true
  | _, .str _, .str _=>true
  | _, .non, .int _=>true
  | _, .int _, .non=>true
  | _, .non, .str _=>true
  | _, .str _, .non=>true
  | _, .non, .bl _=>true
  | _, .bl _, .non=>true
  | _, .int _, .str _=>true
  | _, .str _, .int _=>true
  | n + 1, .tup xs, .tup ys=>(xs.zip ys).all fun p=>eqOk n p.1 p.2
  | n + 1, .lst xs, .lst ys=>(xs.zip ys).all fun p=>eqOk n p.1 p.2
  | _,_,_=>false
theorem dct_cls {pins:List (Addr × Obj)} {s:Shared} {σ:L2.St} {H:Hp} {p:Addr} {kvs:List (Key × V)} (I:Inv X pins σ H s) (h:H p=some (.dK kvs)):∃ o,s.heap.get? p=some o∧o.cls = .type "dict":=by
  obtain ⟨_,_,vs,_,m⟩:kvs.length ≤ sizeLine∧(p == sysModules)=false∧∃ vs,KV kvs vs∧s.heap.DictOf (mixKind X.prog X.w) p vs:=I.hok p _ h
  exact m.typeIs
theorem zip_inj {ks ks':List Key} {vs vs':List V} (l:ks.length=vs.length) (l':ks'.length=vs'.length) (h:mkKV ks vs=mkKV ks' vs'):ks=ks'∧vs=vs':=by
  unfold mkKV at h
  have h1:=congrArg (List.map Prod.fst) h
  have h2:=congrArg (List.map Prod.snd) h
  rw [List.map_fst_zip (by omega),List.map_fst_zip (by omega)] at h1
  rw [List.map_snd_zip (by omega),List.map_snd_zip (by omega)] at h2
  exact ⟨h1,h2⟩
mutual
theorem Rep.inj {pins:List (Addr × Obj)} {s:Shared} {σ:L2.St} {H:Hp} (I:Inv X pins σ H s):∀ {d e:D} {v:V},Rep X.K H d v→Rep X.K H e v→d=e
  | _,_,_, .non, .non=>rfl
  | _,_,_, .bl _, .bl _=>rfl
  | _,_,_, .int _, .int _=>rfl
  | _,_,_, .str _, .str _=>rfl
  | _,_,_, .tup h1 r1, .tup h2 r2=>by
    have e:=I.tuple_inj h1 h2
    subst e
    rw [Reps.inj I r1 r2]
  | _,_,_, .lst h1 r1, .lst h2 r2=>by
    have e:=I.list_inj h1 h2
    subst e
    rw [Reps.inj I r1 r2]
  | _,_,_, .tup h1 r1, .lst h2 r2=>by
    obtain ⟨its,_,⟨o,e,c,_⟩,_⟩:=I.tuple h1
    obtain ⟨its',_,⟨o',n',e',c',_⟩,_⟩:=I.list h2
    rw [e] at e'; cases e'
    rw [c] at c'; exact absurd c' (by decide +kernel)
  | _,_,_, .lst h1 r1, .tup h2 r2=>by
    obtain ⟨its,_,⟨o,e,c,_⟩,_⟩:=I.tuple h2
    obtain ⟨its',_,⟨o',n',e',c',_⟩,_⟩:=I.list h1
    rw [e] at e'; cases e'
    rw [c] at c'; exact absurd c' (by decide +kernel)
  | _,_,_, .tup h1 r1, .dct _ h2 r2=>by
    obtain ⟨its,_,⟨o,e,c,_⟩,_⟩:=I.tuple h1
    obtain ⟨o',e',c'⟩:=dct_cls I h2
    rw [e] at e'; cases e'
    rw [c] at c'; exact absurd c' (by decide +kernel)
  | _,_,_, .dct _ h2 r2, .tup h1 r1=>by
    obtain ⟨its,_,⟨o,e,c,_⟩,_⟩:=I.tuple h1
    obtain ⟨o',e',c'⟩:=dct_cls I h2
    rw [e] at e'; cases e'
    rw [c] at c'; exact absurd c' (by decide +kernel)
  | _,_,_, .lst h1 r1, .dct _ h2 r2=>by
    obtain ⟨its,_,⟨o,n,e,c,_⟩,_⟩:=I.list h1
    obtain ⟨o',e',c'⟩:=dct_cls I h2
    rw [e] at e'; cases e'
    rw [c] at c'; exact absurd c' (by decide +kernel)
  | _,_,_, .dct _ h2 r2, .lst h1 r1=>by
    obtain ⟨its,_,⟨o,n,e,c,_⟩,_⟩:=I.list h1
    obtain ⟨o',e',c'⟩:=dct_cls I h2
    rw [e] at e'; cases e'
    rw [c] at c'; exact absurd c' (by decide +kernel)
  | _,_,_, .dct l1 h1 r1, .dct l2 h2 r2=>by
    rw [h1] at h2
    obtain ⟨e1,e2⟩:=zip_inj l1 l2 (by injection h2 with h2; injection h2)
    subst e1 e2
    rw [Reps.inj I r1 r2]
theorem Reps.inj {pins:List (Addr × Obj)} {s:Shared} {σ:L2.St} {H:Hp} (I:Inv X pins σ H s):∀ {ds es:List D} {vs:List V},Reps X.K H ds vs→Reps X.K H es vs→ds=es
  | _,_,_, .nil, .nil=>rfl
  | _,_,_, .cons h r, .cons h' r'=>by rw [Rep.inj I h h',Reps.inj I r r']
end
mutual
theorem eqD_iff:∀ {a b:D},eqD a b=true ↔ a=b
  | .non,b=>by cases b <;> simp [eqD]
  | .bl _,b=>by cases b <;> simp [eqD]
  | .int _,b=>by cases b <;> simp [eqD]
  | .str _,b=>by cases b <;> simp [eqD]
  | .tup xs,b=>by
    cases b with
    | tup ys=>simp only [eqD,D.tup.injEq]; exact eqDs_iff
    | _=>simp [eqD]
  | .lst xs,b=>by
    cases b with
    | lst ys=>simp only [eqD,D.lst.injEq]; exact eqDs_iff
    | _=>simp [eqD]
  | .dct ks xs,b=>by
    cases b with
    | dct ks' ys=>simp only [eqD,D.dct.injEq,Bool.and_eq_true,decide_eq_true_eq]; rw [eqDs_iff (a:=xs) (b:=ys)]
    | _=>simp [eqD]
theorem eqDs_iff:∀ {a b:List D},eqDs a b=true ↔ a=b
  | [],b=>by cases b <;> simp [eqDs]
  | x :: xs,b=>by
    cases b with
    | nil=>simp [eqDs]
    | cons y ys =>
      simp only [eqDs,Bool.and_eq_true,List.cons.injEq]
      rw [eqD_iff (a:=x) (b:=y),eqDs_iff (a:=xs) (b:=ys)]
end
theorem eqD_true {a b:D}:eqD a b=true ↔ a=b:=eqD_iff
theorem eqD_false {a b:D}:eqD a b=false ↔ ¬ a=b:=by rw [← eqD_true]; simp
def eAt (xs ys:List D) (j:Nat):Bool:=match xs[j]?,ys[j]? with
  | some a,some b=>eqD a b
  | _,_=>true
end
end DL
namespace DL
open PySem PySem.Spec PyProof.Rows L2
theorem PlainL.isL {h:Heap} {a:Addr} {its:Array Value} (p:PlainL h a its):h.IsList a its:=by
  obtain ⟨o,n,e,c,_,d⟩:=p
  exact ⟨o,e,c,n,d⟩
section
variable {X:Cx} {F:List Addr} {a b c:Expr} {es:List Expr} {fa fb fc:DE} {g g1 g2:DS} {ft fu:DT} {pos:Pos} {st:Stmt} {rest:List Stmt} {tg:Expr} {gt:TG} {kt:D→Th→Option Th}
def scD:D→Bool
  | .tup _=>false
  | .lst _=>false
  | .dct _ _=>false
  | _=>true
theorem eqV_D {K:PySem.W.Frag} {H:Hp} {n:Nat} {d e:D} {v u:V} (r:Rep K H d v) (q:Rep K H e u) (s1:scD d=true) (s2:scD e=true) (ok:eqOk n d e=true):flatV v=true∧flatV u=true∧eqV v u=eqD d e:=by
  cases r <;> cases q <;> simp_all [scD,eqOk,flatV,eqV,eqD]
  all_goals (rw [Bool.eq_iff_iff]; simp)
theorem all_eAt {xs ys:List D} (h:xs.length=ys.length):(List.range xs.length).all (eAt xs ys)=eqD (.lst xs) (.lst ys):=by
  rw [Bool.eq_iff_iff,eqD_true,List.all_eq_true]
  constructor
  · intro hh
    congr 1
    apply List.ext_getElem h
    intro i h1 h2
    have:=hh i (List.mem_range.mpr h1)
    simp only [eAt,List.getElem?_eq_getElem h1,List.getElem?_eq_getElem h2] at this
    exact eqD_true.mp this
  · intro hh i hi
    injection hh with hh
    subst hh
    simp only [eAt]
    split
    · rename_i a b z1 z2
      rw [z1] at z2; cases z2
      exact eqD_true.mpr rfl
    · rfl
theorem all_eAtT {xs ys:List D}:((List.range (min xs.length ys.length)).all (eAt xs ys) && xs.length == ys.length)=eqD (.tup xs) (.tup ys):=by
  by_cases h:xs.length=ys.length
  · have e:min xs.length ys.length=xs.length:=by omega
    rw [e,all_eAt h,beq_iff_eq.mpr h,Bool.and_true]
    rw [Bool.eq_iff_iff,eqD_true,eqD_true]
    simp
  · have e:(xs.length == ys.length)=false:=by simpa using h
    rw [e,Bool.and_false]
    symm
    rw [eqD_false]
    intro z
    injection z with z
    exact h (by rw [z])
theorem zip_all {n:Nat} {xs ys:List D} (h:((xs.zip ys).all fun p=>eqOk n p.1 p.2)=true) {j:Nat} {x y:D} (hx:xs[j]?=some x) (hy:ys[j]?=some y):eqOk n x y=true:=by
  rw [List.all_eq_true] at h
  refine h (x,y) (List.mem_of_getElem? (i:=j) ?_)
  rw [List.getElem?_zip_eq_some]
  exact ⟨hx,hy⟩
theorem in1_units {A:Around}:A.in1.units=A.units + 1:=rfl
theorem Vals.getL {vs:List V} {us:List Value} (h:Vals vs us) {j:Nat} (hj:j < us.toArray.size):∃ v,vs[j]?=some v∧RelV v us.toArray[j]:=by
  have hj':j < vs.length:=by rw [h.length]; simpa using hj
  obtain ⟨u,e,r⟩:=Vals.get h (List.getElem?_eq_getElem hj')
  refine ⟨_,List.getElem?_eq_getElem hj',?_⟩
  have:us.toArray[j]=u:=by
    have hj2:j < us.length:=by simpa using hj
    have:=List.getElem?_eq_getElem hj2
    rw [e] at this
    simpa using (Option.some.inj this).symm
  rw [this]; exact r
theorem eqAt_D {pins:List (Addr × Obj)} {s:Shared} {σ:L2.St} {H:Hp} (I:Inv X pins σ H s):∀ (n:Nat) (A:Around) (d e:D) (v u:V) (y z:Value),A.units + n < cLine→eqOk n d e=true→Rep X.K H d v→Rep X.K H e u→RelV v y→RelV u z→SeqAt.EqAt A s y z (eqD d e):=by
  intro n
  induction n with
  | zero =>
    intro A d e v u y z hu ok r q ry rz
    have s1:scD d=true:=by cases d <;> cases e <;> simp_all [scD,eqOk]
    have s2:scD e=true:=by cases d <;> cases e <;> simp_all [scD,eqOk]
    obtain ⟨f1,f2,ee⟩:=eqV_D r q s1 s2 ok
    rw [← ee]
    exact eqAt_V ry rz f1 f2
  | succ n ih =>
    intro A d e v u y z hu ok r q ry rz
    by_cases s1:scD d=true
    · have s2:scD e=true:=by cases d <;> cases e <;> simp_all [scD,eqOk]
      obtain ⟨f1,f2,ee⟩:=eqV_D r q s1 s2 ok
      rw [← ee]
      exact eqAt_V ry rz f1 f2
    · have hu':A.in1.units + n < cLine:=by rw [in1_units]; omega
      have hu0:A.units < cLine:=by omega
      cases r with
      | @tup xs p vs h1 h2 =>
        cases q with
        | @tup ys p' ws h1' h2' =>
          cases ry; cases rz
          by_cases z:p=p'
          · subst z
            have e:=Rep.inj I (.tup h1 h2) (.tup h1' h2')
            rw [eqD_true.mpr e]
            exact SeqAt.EqAt.same _
          · obtain ⟨its,w1,w2,_⟩:=I.tuple h1
            obtain ⟨its',w1',w2',_⟩:=I.tuple h1'
            refine SeqAt.EqAt.of_refs z ?_
            have k:=SeqAt.RcAt.tuples (A:=A) (e:=eAt xs ys) w2 w2' hu0 (fun j g1 g2=>by
              obtain ⟨v1,a1,a2⟩:=Vals.getL w1 g1
              obtain ⟨v2,b1,b2⟩:=Vals.getL w1' g2
              obtain ⟨x1,c1,c2⟩:=h2.getV a1
              obtain ⟨x2,d1,d2⟩:=h2'.getV b1
              have:=ih A.in1 x1 x2 v1 v2 _ _ hu' (zip_all (by simpa [eqOk] using ok) c1 d1) c2 d2 a2 b2
              have ee:eAt xs ys j=eqD x1 x2:=by simp only [eAt,c1,d1]
              rw [ee]; exact this)
            have l1:its.toArray.size=xs.length:=by have:=w1.length; have:=h2.length; simp; omega
            have l2:its'.toArray.size=ys.length:=by have:=w1'.length; have:=h2'.length; simp; omega
            rw [l1,l2,all_eAtT] at k
            exact k
        | _=>simp_all [eqOk]
      | @lst xs p vs h1 h2 =>
        cases q with
        | @lst ys p' ws h1' h2' =>
          cases ry; cases rz
          by_cases z:p=p'
          · subst z
            have e:=Rep.inj I (.lst h1 h2) (.lst h1' h2')
            rw [eqD_true.mpr e]
            exact SeqAt.EqAt.same _
          · obtain ⟨its,w1,w2,_⟩:=I.list h1
            obtain ⟨its',w1',w2',_⟩:=I.list h1'
            refine SeqAt.EqAt.of_refs z ?_
            have l1:its.toArray.size=xs.length:=by have:=w1.length; have:=h2.length; simp; omega
            have l2:its'.toArray.size=ys.length:=by have:=w1'.length; have:=h2'.length; simp; omega
            by_cases hl:xs.length=ys.length
            · have k:=SeqAt.RcAt.lists (A:=A) (e:=eAt xs ys) (PlainL.isL w2) (PlainL.isL w2') (by rw [l1,l2]; exact hl) hu0 (fun j g1 g2=>by
                obtain ⟨v1,a1,a2⟩:=Vals.getL w1 g1
                obtain ⟨v2,b1,b2⟩:=Vals.getL w1' g2
                obtain ⟨x1,c1,c2⟩:=h2.getV a1
                obtain ⟨x2,d1,d2⟩:=h2'.getV b1
                have:=ih A.in1 x1 x2 v1 v2 _ _ hu' (zip_all (by simpa [eqOk] using ok) c1 d1) c2 d2 a2 b2
                have ee:eAt xs ys j=eqD x1 x2:=by simp only [eAt,c1,d1]
                rw [ee]; exact this)
              rw [l1,all_eAt hl] at k
              exact k
            · have ee:eqD (.lst xs) (.lst ys)=false:=eqD_false.mpr fun z=>hl (by injection z with z; rw [z])
              rw [ee]
              exact SeqAt.RcAt.lists_lengths (PlainL.isL w2) (PlainL.isL w2') (by rw [l1,l2]; simpa using hl) hu0
        | _=>simp_all [eqOk]
      | dct=>exact absurd ok (by cases e <;> simp [eqOk])
      | _=>simp_all [scD]
theorem seqAts {pins:List (Addr × Obj)} {s:Shared} {σ:L2.St} {H:Hp} (I:Inv X pins σ H s) {n:Nat} {A:Around} {xs ys:List D} {vs ws:List V} {its its':List Value} (hu:A.units + n + 1 < cLine) (ok:((xs.zip ys).all fun p=>eqOk n p.1 p.2)=true)
    (h2:Reps X.K H xs vs) (h2':Reps X.K H ys ws) (w1:Vals vs its) (w1':Vals ws its'):∀ j (g1:j < its.toArray.size) (g2:j < its'.toArray.size),SeqAt.EqAt A.in1 s its.toArray[j] its'.toArray[j] (eAt xs ys j):=fun j g1 g2=>by
  obtain ⟨v1,a1,a2⟩:=Vals.getL w1 g1
  obtain ⟨v2,b1,b2⟩:=Vals.getL w1' g2
  obtain ⟨x1,c1,c2⟩:=h2.getV a1
  obtain ⟨x2,d1,d2⟩:=h2'.getV b1
  have:=eqAt_D I n A.in1 x1 x2 v1 v2 _ _ (by rw [in1_units]; omega) (zip_all ok c1 d1) c2 d2 a2 b2
  have ee:eAt xs ys j=eqD x1 x2:=by simp only [eAt,c1,d1]
  rw [ee]; exact this
def kEq:Ev→Ev→Option Ev:=fun r1 r2=>if eqOk 6 r1.d r2.d then some (.cl (.bl (eqD r1.d r2.d))) else none
def kNe:Ev→Ev→Option Ev:=fun r1 r2=>if eqOk 6 r1.d r2.d then some (.cl (.bl (!eqD r1.d r2.d))) else none
theorem scal_D {K:PySem.W.Frag} {H:Hp} {n:Nat} {d e:D} {v u:V} (r:Rep K H d v) (q:Rep K H e u) (s1:scD d=true) (ok:eqOk n d e=true):scal v u=true∧decide (v=u)=eqD d e:=by
  cases r <;> cases q <;> simp_all [scD,eqOk,scal,eqD]
theorem od_eq (hu:X.A.units + 64 < cLine):OpD X F (compareOp .Eq) kEq:=by
  intro pins s σ H0 H A x y v u Q r1 r2 r I m g0 rx ry q1 q2 e hq
  unfold kEq at e
  split at e
  case isFalse=>cases e
  rename_i ok
  cases e
  have p1:=q1.full
  have p2:=q2.full
  by_cases s1:scD r1.d=true
  · obtain ⟨a1,a2⟩:=scal_D p1 p2 s1 ok
    exact op_eq pins s σ H x y v u Q I rx ry ⟨a1,by rw [a2]; exact hq _ H (Same.refl H) (.bl _)⟩
  · generalize r1.d=d1 at *
    generalize r2.d=d2 at *
    have hu0:X.A.units < cLine:=by omega
    cases p1 with
    | @tup xs p vs h1 h2 =>
      cases p2 with
      | @tup ys p' ws h1' h2' =>
        cases rx; cases ry
        obtain ⟨its,w1,w2,_⟩:=I.tuple h1
        obtain ⟨its',w1',w2',_⟩:=I.tuple h1'
        have l1:its.toArray.size=xs.length:=by have:=w1.length; have:=h2.length; simp; omega
        have l2:its'.toArray.size=ys.length:=by have:=w1'.length; have:=h2'.length; simp; omega
        refine SeqAt.eq_tupleAt w2 w2' hu0 (seqAts I (n:=5) (by omega) (by simpa [eqOk] using ok) h2 h2' w1 w1') ?_
        rw [l1,l2,all_eAtT]
        exact ⟨.bl _,H,I,rfl,hq _ H (Same.refl H) (.bl _)⟩
      | _=>simp_all [eqOk]
    | @lst xs p vs h1 h2 =>
      cases p2 with
      | @lst ys p' ws h1' h2' =>
        cases rx; cases ry
        obtain ⟨its,w1,w2,_⟩:=I.list h1
        obtain ⟨its',w1',w2',_⟩:=I.list h1'
        have l1:its.toArray.size=xs.length:=by have:=w1.length; have:=h2.length; simp; omega
        have l2:its'.toArray.size=ys.length:=by have:=w1'.length; have:=h2'.length; simp; omega
        by_cases hl:xs.length=ys.length
        · refine SeqAt.eq_listAt (PlainL.isL w2) (PlainL.isL w2') (by rw [l1,l2]; exact hl) hu0 (seqAts I (n:=5) (by omega) (by simpa [eqOk] using ok) h2 h2' w1 w1') ?_
          rw [l1,all_eAt hl]
          exact ⟨.bl _,H,I,rfl,hq _ H (Same.refl H) (.bl _)⟩
        · have ee:eqD (.lst xs) (.lst ys)=false:=eqD_false.mpr fun z=>hl (by injection z with z; rw [z])
          rw [ee] at hq
          exact SeqAt.eq_list_lengthsAt (PlainL.isL w2) (PlainL.isL w2') (by rw [l1,l2]; simpa using hl) hu0 ⟨.bl _,H,I,rfl,hq _ H (Same.refl H) (.bl _)⟩
      | _=>simp_all [eqOk]
    | dct=>exact absurd ok (by cases d2 <;> simp [eqOk])
    | _=>simp_all [scD]
theorem od_ne (hu:X.A.units + 64 < cLine):OpD X F (compareOp .NotEq) kNe:=by
  intro pins s σ H0 H A x y v u Q r1 r2 r I m g0 rx ry q1 q2 e hq
  unfold kNe at e
  split at e
  case isFalse=>cases e
  rename_i ok
  cases e
  have p1:=q1.full
  have p2:=q2.full
  by_cases s1:scD r1.d=true
  · obtain ⟨a1,a2⟩:=scal_D p1 p2 s1 ok
    exact op_ne pins s σ H x y v u Q I rx ry ⟨a1,by rw [a2]; exact hq _ H (Same.refl H) (.bl _)⟩
  · generalize r1.d=d1 at *
    generalize r2.d=d2 at *
    have hu0:X.A.units < cLine:=by omega
    cases p1 with
    | @tup xs p vs h1 h2 =>
      cases p2 with
      | @tup ys p' ws h1' h2' =>
        cases rx; cases ry
        obtain ⟨its,w1,w2,_⟩:=I.tuple h1
        obtain ⟨its',w1',w2',_⟩:=I.tuple h1'
        have l1:its.toArray.size=xs.length:=by have:=w1.length; have:=h2.length; simp; omega
        have l2:its'.toArray.size=ys.length:=by have:=w1'.length; have:=h2'.length; simp; omega
        have k:=SeqAt.RcNeAt.tuples (A:=X.A) w2 w2' hu0 (seqAts I (n:=5) (by omega) (by simpa [eqOk] using ok) h2 h2' w1 w1')
        rw [l1,l2,all_eAtT] at k
        exact k _ _ _ _ ⟨.bl _,H,I,rfl,hq _ H (Same.refl H) (.bl _)⟩
      | _=>simp_all [eqOk]
    | @lst xs p vs h1 h2 =>
      cases p2 with
      | @lst ys p' ws h1' h2' =>
        cases rx; cases ry
        obtain ⟨its,w1,w2,_⟩:=I.list h1
        obtain ⟨its',w1',w2',_⟩:=I.list h1'
        have l1:its.toArray.size=xs.length:=by have:=w1.length; have:=h2.length; simp; omega
        have l2:its'.toArray.size=ys.length:=by have:=w1'.length; have:=h2'.length; simp; omega
        by_cases hl:xs.length=ys.length
        · have k:=SeqAt.RcNeAt.lists (A:=X.A) (PlainL.isL w2) (PlainL.isL w2') (by rw [l1,l2]; exact hl) hu0 (seqAts I (n:=5) (by omega) (by simpa [eqOk] using ok) h2 h2' w1 w1')
          rw [l1,all_eAt hl] at k
          exact k _ _ _ _ ⟨.bl _,H,I,rfl,hq _ H (Same.refl H) (.bl _)⟩
        · have ee:eqD (.lst xs) (.lst ys)=false:=eqD_false.mpr fun z=>hl (by injection z with z; rw [z])
          rw [ee] at hq
          exact SeqAt.RcNeAt.lists_lengths (A:=X.A) (PlainL.isL w2) (PlainL.isL w2') (by rw [l1,l2]; simpa using hl) hu0 _ _ _ _ ⟨.bl _,H,I,rfl,hq _ H (Same.refl H) (.bl _)⟩
      | _=>simp_all [eqOk]
    | dct=>exact absurd ok (by cases d2 <;> simp [eqOk])
    | _=>simp_all [scD]
def tyD:D→String
  | .non => "NoneType"
  | .bl _ => "bool"
  | .int _ => "int"
  | .str _ => "str"
  | .tup _ => "tuple"
  | .lst _ => "list"
  | .dct _ _ => "dict"
def isiT (d:D) (T:String):Bool:=tyD d == T || (tyD d == "bool" && T == "int")
def dIsi (T:String) (f:DE):DE:=fun t=>(f t).bind fun r=>some (.cl (.bl (isiT r.d T)))
def IsiOk (K:PySem.W.Frag) (T:String):Prop := ∀ d:D,PySem.W.kitOne K (.type (tyD d)) (.type T)=some (isiT d T)
theorem ped_isi {T:String} {x:Str} {p p2:Pos} (ok:IsiOk X.K T) (ha:PE X a (dE X.K F fa)) (hg:Gl X "isinstance") (hm:X.mg "isinstance"=none) (hgT:Gl X x) (hmT:X.mg x=none) (hvT:bootBuiltins x=some (.type T)) (hnT:x ≠ "__name__":=by decide) (hdT:(x == ("__debug__":Str))=false:=by decide)
    (he:starEach (a :: [Expr.Name x p2]) X.env=(false,eval a X.env) :: starEach [.Name x p2] X.env:=by rfl) (he2:starEach [Expr.Name x p2] X.env=[(false,eval (.Name x p2) X.env)]:=by rfl) (hpl:(backTo pos (starEach [Expr.Name x p2] X.env)).any (·.1)=false:=by rfl) :
    PE X (.Call (.Name "isinstance" p) [a, .Name x p2] [] pos) (dE X.K F (dIsi T fa)):=by
  have rule:CallR X (.builtin "isinstance") (fun xs H Q => ∃ v d,xs=[v, .ty T]∧Rep X.K H d v∧Q (.bl (isiT d T)) H):=by
    intro pins s σ H xs us Q I r h
    obtain ⟨v,d,rfl,rp,hq⟩:=h
    obtain ⟨u,w',rfl,r1,r2⟩:=vals2 r
    cases (show w'=Value.type T from r2)
    have fin:∀ tk,EP X pins σ Q (.bool (isiT d T)) { s with toks:=tk }:=fun tk=>⟨.bl _,H,I.tok tk,rfl,hq⟩
    have e:=ok d
    cases rp with
    | non=>cases (show u=Value.none from r1); exact PySem.W.kia_one PySem.W.kitx_none I.kIn True.intro e (fun z=>nomatch z) fin
    | bl y=>cases (show u=Value.bool y from r1); exact PySem.W.kia_one PySem.W.kitx_bool I.kIn True.intro e (fun z=>nomatch z) fin
    | int i=>obtain ⟨t,q⟩:=(show ∃ t,u=Value.int i t from r1); cases q; exact PySem.W.kia_one PySem.W.kitx_int I.kIn True.intro e (fun z=>nomatch z) fin
    | str y=>obtain ⟨t,q⟩:=(show ∃ t,u=Value.str y t from r1); cases q; exact PySem.W.kia_one PySem.W.kitx_str I.kIn True.intro e (fun z=>nomatch z) fin
    | @tup _ p _ h1 h2 =>
      cases (show u=Value.ref p from r1)
      obtain ⟨its,_,⟨o,e1,c1,_⟩,_⟩:=I.tuple h1
      exact PySem.W.kia_one PySem.W.kitx_tuple I.kIn ⟨o,e1,c1⟩ e (fun z=>nomatch z) fin
    | @lst _ p _ h1 h2 =>
      cases (show u=Value.ref p from r1)
      obtain ⟨its,_,⟨o,n,e1,c1,_⟩,_⟩:=I.list h1
      exact PySem.W.kia_one PySem.W.kitx_list I.kIn ⟨o,e1,c1⟩ e (fun z=>nomatch z) fin
    | @dct _ _ p _ _ h1 h2 =>
      cases (show u=Value.ref p from r1)
      exact PySem.W.kia_one PySem.W.kitx_dict I.kIn (dct_cls I h1) e (fun z=>nomatch z) fin
  refine PE.imp (pe_callB rule hg hm boot_isinstance (pa_cons ha (pa_cons (pe_bltn (v := .ty T) hgT hmT hvT rfl hnT hdT) pa_nil he2) he) (by decide) (by decide) he hpl) ?_
  rintro σ H Q ⟨A,t,r,R,e,h⟩
  unfold dIsi at e
  cases e1:fa t with
  | none=>rw [e1] at e; cases e
  | some r1 =>
    rw [e1] at e
    cases e
    exact ⟨A,t,r1,R,e1,fun v H' gs q=>⟨v,r1.d,rfl,q.full,h _ H' gs (.bl _)⟩⟩
end
def startD (N:List Str) (ds:List D):Th:=ds.map Sl.val ++ List.replicate (N.length - ds.length) Sl.no
theorem RSl.no_all {K:PySem.W.Frag} {H0 H:Hp}:∀ n,RSl K H0 H (List.replicate n Sl.no) (List.replicate n none) []
  | 0 => .nil
  | n + 1 => .no (RSl.no_all n)
theorem RSl.start {K:PySem.W.Frag} {H0 H:Hp} {t:Th} {σ:L2.St} (r0:RSl K H0 H t σ []):∀ {ds:List D} {vs:List V},Reps K H0 ds vs→RSl K H0 H (ds.map Sl.val ++ t) (vs.map some ++ σ) []
  | _,_, .nil=>r0
  | _,_, .cons h r => .val h (RSl.start r0 r)
def outEv:Out→Option Ev
  | .rt r=>some r
  | .nx _=>some (.cl .non)
  | _=>none
theorem fun_ok {P:Program} {w:World} {K:PySem.W.Frag} {mg:Str→Option Value} {base:BHeap} {x qual:Str} {st:Stmt} {f:Addr} {fd:FuncData} {N ps:List Str} {k:Nat} {G:List D→Option Ev} (Fn:L2.Fun K x qual st f fd) (S:FnScope N ps (defScope st))
    (hlen:∀ ds r,G ds=some r→ds.length=ps.length) (g:DS) (hG:∀ ds r,G ds=some r→∃ o,g (startD N ds)=some o∧outEv o=some r)
    (hbody:∀ (cdv:Value) (A:Around) (outer:List Env) (s:Shared) (H:Hp) (E:XK) (F:List Addr),Room k (A.deeper (envOfC qual (defScope st) s.heap.objs.size f cdv)) →
      PSs (cxOf CX0 P w K mg base N qual (defScope st) f cdv A outer s H E).nox (defBody st) (dS K F g)):FnOk P w K mg base CX0 (k + 1) f fd ps (spD K G):=by
  refine Fn.ok S (fun vs H Q E h=>?_) (fun cdv A outer s H vs Q E hr h=>?_)
  · obtain ⟨Fo,ds,r,_,hr,hg,_⟩:=h
    rw [hr.length]; exact hlen ds r hg
  · obtain ⟨Fo,ds,r,hl,hr',hg,cont⟩:=h
    obtain ⟨o,ho,hoe⟩:=hG ds r hg
    refine ⟨_,hbody cdv A outer s H E Fo hr,dS_mk (A:=[]) (t:=startD N ds) ⟨hl,List.nodup_nil,fun p hp=>(by cases hp),?_⟩ ho ?_⟩
    · unfold startD L2.start
      rw [hr'.length]
      exact RSl.start (RSl.no_all _) hr'
    · have sm:∀ {A' H'},Gr [] H A' H'→Same H H':=fun g b o q=>g.kp b o (by simp) q
      cases o with
      | nx t' =>
        cases hoe
        exact fun σ' H' A' g' R'=>cont .non H' (sm g') .non
      | bk t'=>cases hoe
      | ct t'=>cases hoe
      | rt r' =>
        cases hoe
        intro v H' A' g' q
        refine cont v H' (sm g') ?_
        cases r with
        | cl d=>exact q
        | tm d=>exact q
        | nw xs =>
          obtain ⟨p,vs',rfl,h1,h2,h3,h4⟩:=q
          rcases h1 with h1 | h1
          · cases h1
          · exact ⟨p,vs',rfl,h1,h3,h4⟩
        | dn d =>
          obtain ⟨B,h1,h2,h3⟩:=q
          exact ⟨B,h1,fun b hb=>by rcases (h2 b hb).1 with z | z; cases z; exact z,h3⟩
end DL
namespace DL
open PySem PySem.Spec PyProof.Rows L2
structure Cal (P:Program) (w:World) (K:PySem.W.Frag) (mg:Str→Option Value) (base:BHeap) (x:Str) (k:Nat) (G:List D→Option Ev):Prop where
  ex:∃ (a:Addr) (fd:FuncData) (ps:List Str),mg x=some (.ref a)∧PySem.W.keepIn K (.ref a)=true∧L2.Binds K fd ps []∧FnOk P w K mg base CX0 k a fd ps (spD K G)
section
variable {X:Cx} {F:List Addr} {a b c:Expr} {es:List Expr} {fa fb fc:DE} {ga:DA} {pos:Pos}
theorem ped_callC {k:Nat} {G:List D→Option Ev} {x:Str} {p:Pos} (c:Cal X.prog X.w X.K X.mg X.base x k G) (hr:Room k X.A) (ha:PA X (a :: es) (dA X.K F ga)) (hg:Gl X x:=by rfl) (hdb:(x == ("__debug__":Str))=false:=by decide)
    (he:starEach (a :: es) X.env=(false,eval a X.env) :: starEach es X.env:=by rfl) (hpl:(backTo pos (starEach es X.env)).any (·.1)=false:=by rfl):PE X (.Call (.Name x p) (a :: es) [] pos) (dE X.K F (dT1 (kCall G) ga)):=by
  obtain ⟨f,fd,ps,h1,h2,h3,h4⟩:=c.ex
  exact ped_call h4 hr hg h1 h2 h3 ha hdb he hpl
end
structure Df (K:PySem.W.Frag) (mg:Str→Option Value) (x:Str) (st:Stmt) (ps:List Str) (a:Addr) (fd:FuncData):Prop where
  fn:L2.Fun K x x st a fd
  mgx:mg x=some (.ref a)
  bd:L2.Binds K fd ps []
theorem Df.cal {P:Program} {w:World} {K:PySem.W.Frag} {mg:Str→Option Value} {base:BHeap} {x:Str} {st:Stmt} {ps:List Str} {a:Addr} {fd:FuncData} {k:Nat} {G:List D→Option Ev} (d:Df K mg x st ps a fd) (h:FnOk P w K mg base CX0 k a fd ps (spD K G)):Cal P w K mg base x k G :=
  ⟨a,fd,ps,d.mgx,d.fn.kp,d.bd,h⟩
theorem bt_abs:bootBuiltins "abs"=some (.builtin "abs"):=by decide +kernel
end DL
namespace L2
open PySem PySem.Spec PyProof.Rows
section
variable {X:Cx} {pins:List (Addr × Obj)} {σ:L2.St} {H:Hp} {s:Shared} {h':Heap}
theorem Inv.turnedNew {t':Nat} {fp:List Addr} {a:Addr} {o:HO} (I:Inv X pins σ H s) (k:∀ b u,b ∉ fp→s.heap.get? b=some u→h'.get? b=some u) (hf:∀ b ∈ fp,FpOk X pins H b) (hp:s.heap.objs.size ≤ a)
    (new:ObjOk X.prog X.w (upd H a o) h' a o):Inv X pins σ (upd H a o) { s with heap:=h',toks:=t' }:=by
  have ha:H a=none:=I.hok.fresh hp
  have sm:∀ b u,H b=some u→upd H a o b=some u:=fun b u e=>by rw [upd_ne (fun z=>by rw [z,ha] at e; cases e)]; exact e
  have nfp:∀ b u,H b=some u→b ∉ fp:=fun b u e z=>by rw [(hf b z).1] at e; cases e
  refine I.step (g':=s.gens) (d':=s.drawn) (ch:=fp) (fun b hb=>?_) (fun b u _ _ hc e _=>k b u hc e) (fun b u _ _ hc e _=>⟨u.slots,k b u hc e⟩) (fun b u _ e n=>?_)
    (fun b u hc e=>⟨u,k b u hc e⟩) (fun b xs e=>sm b _ e) (fun b q u e=>sm b _ e) (fun b ps e=>sm b _ e) (fun m hm=>?_) (fun b u e=>?_) I.bare
  · obtain ⟨f0,f1,f2,f3,f4,f5⟩:=hf b hb
    exact ⟨f3,f1,f4,f5⟩
  · rw [upd_ne (Nat.ne_of_lt (Nat.lt_of_lt_of_le (Heap.lt_size e) hp))]; exact n
  · obtain ⟨q,es,ep,ho,r⟩:=hm
    exact ⟨q,es,ep,k _ q (fun z=>(hf _ z).2.1 rfl) ho,r⟩
  · by_cases z:b=a
    · subst z
      rw [upd_same] at e
      cases e
      exact new
    · rw [upd_ne z] at e
      refine (I.hok b u e).stay (fun c v hc q=>k c v ?_ q) (fun c q=>sm c _ q) (fun c xs q=>sm c _ q) fun c o u q=>sm c _ q
      rcases hc with w | w
      · rw [w]; exact nfp b u e
      · exact nfp c _ w
theorem Inv.turnedL {t':Nat} {fp:List Addr} (I:Inv X pins σ H s) (k:∀ b u,b ∉ fp→s.heap.get? b=some u→h'.get? b=some u) (hf:∀ b ∈ fp,FpOk X pins H b):Inv X pins σ H { s with heap:=h',toks:=t' }:=by
  have nfp:∀ b u,H b=some u→b ∉ fp:=fun b u e z=>by rw [(hf b z).1] at e; cases e
  refine I.step (g':=s.gens) (d':=s.drawn) (ch:=fp) (fun b hb=>?_) (fun b u _ _ hc e _=>k b u hc e) (fun b u _ _ hc e _=>⟨u.slots,k b u hc e⟩) (fun b u _ e n=>n)
    (fun b u hc e=>⟨u,k b u hc e⟩) (fun b xs e=>e) (fun b q u e=>e) (fun b ps e=>e) (fun m hm=>?_) (fun b u e=>?_) I.bare
  · obtain ⟨f0,f1,f2,f3,f4,f5⟩:=hf b hb
    exact ⟨f3,f1,f4,f5⟩
  · obtain ⟨q,es,ep,ho,r⟩:=hm
    exact ⟨q,es,ep,k _ q (fun z=>(hf _ z).2.1 rfl) ho,r⟩
  · refine (I.hok b u e).stay (fun c v hc q=>k c v ?_ q) (fun c q=>q) (fun c xs q=>q) fun c o u q=>q
    rcases hc with w | w
    · rw [w]; exact nfp b u e
    · exact nfp c _ w
end
def Ite (K:PySem.W.Frag) (a:Addr):It :=
  ⟨fun i H => ∃ xs x,SqL K H a xs∧xs[i]?=some x,fun i H x H' => ∃ p v,H p=none∧x = .ref p∧H'=upd H p (.tup [.int i,v])∧∀ xs,SqL K H a xs→xs[i]?=some v,fun i H => ∃ xs,SqL K H a xs∧xs.length ≤ i⟩
def EnumAt (e it a:Addr) (i:Nat) (h:Heap):Prop:=(∃ old,IsEnum h e it (i:Int) old)∧h.IsListIter it a i∧e ≠ it
theorem turn_enum {P:Program} {w:World} {K:PySem.W.Frag} {elts:List Expr} {k:Nat} {pos:Pos} (a e it:Addr):Turn P w K (.Tuple elts k pos) (Ite K a) [e,it] e (EnumAt e it a) where
  mem:=by simp
  obj:=fun i h st b hb=>by
    obtain ⟨⟨old,h1⟩,h2,_⟩:=st
    rcases (by simpa using hb:b=e ∨ b=it) with rfl | rfl
    · exact ⟨_,h1,fun v z=>by cases z⟩
    · obtain ⟨o,e1,c,d⟩:=h2
      exact ⟨o,e1,fun v z=>by rw [d] at z; cases z⟩
  keep:=fun i h h' st kk=>by
    obtain ⟨⟨old,h1⟩,h2,ne⟩:=st
    exact ⟨⟨old,kk e (by simp) _ h1⟩,h2.at fun o q=>kk it (by simp) o q,ne⟩
  item:=by
    intro X hP hw hK hc i pins s σ H E I hf st hg
    subst hP hw hK
    obtain ⟨xs,x,hq,hx⟩:=hg
    obtain ⟨its,rv,p,hz⟩:=I.list hq
    obtain ⟨u,hu,ru⟩:=rv.get hx
    obtain ⟨⟨old,h1⟩,h2,ne⟩:=st
    refine wpAny_pyNext_enum_item h1 h2 p.isList (x:=u) (by simpa using hu) ne fun h1' heo hit1 ht1 hz1 hk1=>?_
    refine ⟨_,rfl,wpAny_letOwnedTupleGo_enum heo fun h2' he2 hs2=>?_⟩
    replace hs2:Heap.SameBut e h1' h2':=hs2
    have es:e < s.heap.objs.size:=Heap.lt_size h1
    have kp:∀ b o,b ∉ [e,it]→s.heap.get? b=some o→h2'.get? b=some o:=fun b o nb q=>by
      have n1:b ≠ e:=fun z=>nb (by simp [z])
      have n2:b ≠ it:=fun z=>nb (by simp [z])
      exact (hs2.2 b n1).trans (hk1 b o n1 n2 q)
    have ht2:h2'.get? s.heap.objs.size=some { cls := .type "tuple",data := .seq #[.int i s.toks,u] }:=(hs2.2 _ (Nat.ne_of_gt es)).trans ht1
    have I2:Inv X pins σ (upd H s.heap.objs.size (.tup [.int i,x])) { s with heap:=h2',toks:=s.toks + 1 }:=I.turnedNew (t':=s.toks + 1) kp hf (Nat.le_refl _)
      ⟨by show 2 ≤ sizeLine; decide,[.int i s.toks,u], .cons ⟨_,rfl⟩ (.cons ru .nil),⟨_,ht2,rfl,_,rfl⟩⟩
    refine ⟨.ref s.heap.objs.size,_,I2,rfl,⟨s.heap.objs.size,x,I.hok.fresh (Nat.le_refl _),rfl,rfl,fun ys hy=>by rw [I.list_inj hy hq]; exact hx⟩,⟨⟨u,?_⟩,?_,ne⟩,fun b hb=>?_⟩
    · exact he2
    · exact hit1.extBut hs2.extBut (Ne.symm ne)
    · rw [upd_ne (fun z=>?_)]
      · exact (hf b hb).1
      · rcases (by simpa using hb:b=e ∨ b=it) with w' | w'
        · rw [← z,w'] at es; exact absurd es (Nat.lt_irrefl _)
        · obtain ⟨o,e1,_⟩:=h2
          have:=Heap.lt_size e1
          rw [← w',z] at this; exact absurd this (Nat.lt_irrefl _)
  done:=by
    intro X hP hw hK hc i pins s σ H E I hf st hg
    subst hP hw hK
    obtain ⟨xs,hq,hx⟩:=hg
    obtain ⟨its,rv,p,hz⟩:=I.list hq
    obtain ⟨⟨old,h1⟩,h2,ne⟩:=st
    have hl:=rv.length
    refine wpAny_pyNext_enum_end (I.ok.hd hc) h1 h2 p.isList (by simp; omega) fun h' eb=>⟨rfl,I.turnedL (t':=s.toks) (fun b o nb q=>eb b o (fun z=>nb (by simp [z])) q) hf⟩
  self:=fun _ _ _ _ _ st h=>by
    obtain ⟨⟨old,h1⟩,_,_⟩:=st
    exact wpAny_pyIter_enum h1 h
def iEnum (K:PySem.W.Frag) (tl:TE):TI:=fun σ H R=>tl σ H fun x H1 => ∃ a,x = .ref a∧(∃ xs,SqL K H1 a xs)∧R (Ite K a) H1
theorem bt_enum:bootBuiltins "enumerate"=some (.type "enumerate"):=by decide +kernel
theorem pi_enum {X:Cx} {l:Expr} {tl:TE} {elts:List Expr} {k:Nat} {tp p pos:Pos} (hg:Gl X "enumerate") (hm:X.mg "enumerate"=none) (hl:PE X l tl) (hs:starEach [l] X.env=[(false,eval l X.env)]:=by rfl) :
    PI X (.Tuple elts k tp) (.Call (.Name "enumerate" p) [l] [] pos) (iEnum X.K tl):=by
  intro pins s σ H R I h
  refine Call_ (ld_blt I hg hm bt_enum (PyProof.Rows.callWith_type1 (thn ((pa_cons hl pa_nil hs) pos pins s σ H (fun vs H1=>match vs with | [x] => ∃ a,x = .ref a∧(∃ xs,SqL X.K H1 a xs)∧R (Ite X.K a) H1 | _=>False) I h) fun us s1 ⟨vs,H1,I1,r1,q1⟩=>?_) hs rfl))
  cases r1 with
  | nil=>exact q1.elim
  | @cons x u xr ur ru rr =>
   cases rr with
   | cons _ _=>exact q1.elim
   | nil =>
    obtain ⟨a,rfl,⟨xs,hq⟩,q⟩:=q1
    cases ru
    obtain ⟨its,rv,p,hz⟩:=I1.list hq
    refine call_enumerate_list p.isList fun h' he hit hz' hk=>?_
    have I2:Inv X pins σ H1 { s1 with heap:=h' }:=I1.kept (t':=s1.toks) hk
    refine wpAny_pyIter_enum he ?_
    refine ⟨s1.heap.objs.size + 1,[s1.heap.objs.size + 1,s1.heap.objs.size],EnumAt (s1.heap.objs.size + 1) s1.heap.objs.size a,Ite X.K a,H1,rfl,I2,turn_enum a _ _,⟨⟨_,he⟩,hit,Nat.succ_ne_self _⟩,fun b hb=>?_,q⟩
    rcases (by simpa using hb:b=s1.heap.objs.size + 1 ∨ b=s1.heap.objs.size) with rfl | rfl
    · exact I1.fpOk (Nat.le_succ _) (I1.hok.fresh (Nat.le_succ _))
    · exact I1.fpOk (Nat.le_refl _) (I1.hok.fresh (Nat.le_refl _))
end L2
namespace DL
open PySem PySem.Spec PyProof.Rows L2
def enumD (i:Nat):List D→List D
  | []=>[]
  | d :: ds => .tup [.int i,d] :: enumD (i + 1) ds
theorem enumD_len:∀ (i:Nat) (ds:List D),(enumD i ds).length=ds.length
  | _,[]=>rfl
  | i,d :: ds=>by simp [enumD,enumD_len (i + 1) ds]
theorem enumD_get:∀ (i:Nat) (ds:List D) (j:Nat) (d:D),ds[j]?=some d→(enumD i ds)[j]?=some (.tup [.int ((i + j:Nat):Int),d])
  | _,[],j,d,h=>by simp at h
  | i,e :: ds,0,d,h=>by simp at h; subst h; simp [enumD]
  | i,e :: ds,j + 1,d,h=>by
    have:=enumD_get (i + 1) ds j d (by simpa using h)
    simp only [enumD,List.getElem?_cons_succ,this]
    rw [show i + 1 + j=i + (j + 1) by omega]
def dEnum (k:D→Th→Option Th) (f:DE) (body:DS):DS:=fun t=>(f t).bind fun r=>match r.d with
  | .lst ds=>if r.ok then forD k body (enumD 0 ds) t else none
  | _=>none
section
variable {X:Cx} {F:List Addr} {a b c:Expr} {es:List Expr} {fa fb fc:DE} {g g1 g2:DS} {pos:Pos} {gt:TG} {kt:D→Th→Option Th}
theorem psd_enum {body:List Stmt} {elts:List Expr} {kk:Nat} {tp p1 p2:Pos} (hp:PassesOwn (model X.prog X.w) X.A X.env X.xe) (hc:X.calm=true) (hge:Gl X "enumerate") (hm:X.mg "enumerate"=none) (hl:PE X a (dE X.K F fa)) (hg:PG X (.Tuple elts kk tp) gt) (ht:TgOk X.K F gt kt) (hb:PSs X body (dS X.K F g))
    (hst:starEach [a] X.env=[(false,eval a X.env)]:=by rfl) (hs:∀ x,foldedSetIterable (.Call (.Name "enumerate" p1) [a] [] p2) X.env x=pure x:=by intro _; rfl):PS X (.For (.Tuple elts kk tp) (.Call (.Name "enumerate" p1) [a] [] p2) body [] pos) (dS X.K F (dEnum kt fa g)):=by
  refine PS.imp (ps_for hp hc (pi_enum hge hm hl hst) hg hb hs) ?_
  intro E σ H hh
  obtain ⟨A,t,o,R,e,h⟩:=dS_of hh
  unfold dEnum at e
  cases e1:fa t with
  | none=>rw [e1] at e; cases e
  | some r =>
    rw [e1] at e
    refine ⟨A,t,r,R,e1,fun v H1 gs q=>?_⟩
    have e:(match r.d with
      | .lst ds=>if r.ok then forD kt g (enumD 0 ds) t else none
      | _=>none)=some o:=e
    split at e
    case h_2=>cases e
    rename_i ds z
    split at e
    case isFalse=>cases e
    rename_i ok
    have cl:=q.clean R.mu gs ok
    rw [z] at cl
    cases cl with
    | @lst _ p vs h1 h2 =>
      refine ⟨p,rfl,⟨vs,SqL.mono (hide_sub _ _) h1⟩,?_⟩
      refine for_core (fun A H=>SqL X.K (hide (A ++ F) H) p vs∧Reps X.K (hide (A ++ F) H) ds vs) ht (R.grow gs) e (h.back (Gr.of_same R.mu.left gs)) ⟨h1,h2⟩ (fun A H A' H' q gr=>⟨SqL.mono gr.same q.1,Reps.mono gr.same q.2⟩)
        (fun A H q=>⟨vs,SqL.mono (hide_sub _ _) q.1,by rw [h2.length,enumD_len]; exact Nat.le_refl _⟩) (fun A H i q hi=>?_) (fun A H i x H' q mu y hi=>?_)
      · have hi':i < vs.length:=by rw [h2.length]; rw [enumD_len] at hi; exact hi
        exact ⟨vs,vs[i],SqL.mono (hide_sub _ _) q.1,List.getElem?_eq_getElem hi'⟩
      · obtain ⟨l,v,hl0,rfl,rfl,hv⟩:=y
        have zz:=hv vs (SqL.mono (hide_sub _ _) q.1)
        obtain ⟨d,hd,rd⟩:=q.2.getV zz
        have sm:=upd_sameH (o:=HO.tup [.int i,v]) hl0
        refine ⟨sm,_,enumD_get 0 ds i d hd,?_⟩
        rw [Nat.zero_add]
        exact .tup (SqT.of (hide_get upd_same (notin_lists mu hl0))) (.cons (.int _) (.cons (Rep.mono (same_hide sm) rd) .nil))
end
end DL
namespace L2
open PySem PySem.Spec PyProof.Rows
def clOf (cells:List (Str × Addr)):List (Str × NameKind)→List (Str × Addr)→List (Str × Addr)
  | [],acc=>acc
  | (n,k) :: r,acc=>if k == .free then clOf cells r ((n,(cells.lookup n).getD 0) :: acc) else clOf cells r acc
theorem clOf_lookup {cells:List (Str × Addr)}:∀ {names:List (Str × NameKind)} {acc:List (Str × Addr)} {x:Str} {c:Addr},(∀ y ∈ names,y.2 = .free→∃ c,cells.lookup y.1=some c)→(clOf cells names acc).lookup x=some c→acc.lookup x=some c ∨ cells.lookup x=some c
  | [],acc,x,c,_,h => .inl h
  | (n,k) :: r,acc,x,c,hy,h=>by
    unfold clOf at h
    have hr:∀ y ∈ r,y.2 = .free→∃ c,cells.lookup y.1=some c:=fun y h1=>hy y (List.mem_cons_of_mem _ h1)
    split at h
    · rename_i hk
      rcases clOf_lookup hr h with z | z
      · rw [List.lookup_cons] at z
        split at z
        · rename_i e
          have e:x=n:=by simpa using e
          obtain ⟨c',hc'⟩:=hy (n,k) (List.mem_cons_self ..) (by simpa using hk)
          simp only [hc',Option.getD_some] at z
          cases z
          rw [e]; exact .inr hc'
        · exact .inl z
      · exact .inr z
    · exact clOf_lookup hr h
theorem clOf_mono {cells:List (Str × Addr)}:∀ {names:List (Str × NameKind)} {acc:List (Str × Addr)} {x:Str},(∃ c,acc.lookup x=some c)→∃ c,(clOf cells names acc).lookup x=some c
  | [],acc,x,h=>h
  | (n,k) :: r,acc,x,h=>by
    unfold clOf
    split
    · refine clOf_mono ?_
      rw [List.lookup_cons]
      split
      · exact ⟨_,rfl⟩
      · exact h
    · exact clOf_mono h
theorem clOf_has {cells:List (Str × Addr)}:∀ {names:List (Str × NameKind)} {acc:List (Str × Addr)} {x:Str},(x,NameKind.free) ∈ names→∃ c,(clOf cells names acc).lookup x=some c
  | (n,k) :: r,acc,x,h=>by
    unfold clOf
    rcases List.mem_cons.mp h with z | z
    · cases z
      rw [if_pos (by rfl)]
      refine clOf_mono ⟨(cells.lookup n).getD 0,?_⟩
      simp [List.lookup_cons]
    · split
      · exact clOf_has z
      · exact clOf_has z
theorem closure_eq {scope:Scope} {env:Env} (h:∀ y ∈ scope.names,y.2 = .free→∃ c,env.cells.lookup y.1=some c):closureFor scope env=pure (clOf env.cells scope.names []):=by
  unfold closureFor
  have key:∀ (names:List (Str × NameKind)) (acc:List (Str × Addr)),(∀ y ∈ names,y.2 = .free→∃ c,env.cells.lookup y.1=some c) →
      (forIn names acc fun (x:Str × NameKind) (cs:List (Str × Addr))=>(do
        if x.2 == .free then
          let a ← cellOf env x.1
          pure (ForInStep.yield ((x.1,a) :: cs))
        else pure (ForInStep.yield cs):Sem (ForInStep (List (Str × Addr)))))=pure (clOf env.cells names acc):=by
    intro names
    induction names with
    | nil=>intro acc _; rfl
    | cons y r ih =>
      intro acc hy
      obtain ⟨n,k⟩:=y
      have hr:∀ y ∈ r,y.2 = .free→∃ c,env.cells.lookup y.1=some c:=fun y h1=>hy y (List.mem_cons_of_mem _ h1)
      rw [List.forIn_cons]
      unfold clOf
      by_cases hk:(k == NameKind.free)=true
      · obtain ⟨c,hc⟩:=hy (n,k) (List.mem_cons_self ..) (by simpa using hk)
        have hc':cellOf env n=pure c:=by unfold cellOf; rw [hc]
        simp only [hk,if_true,hc']
        rw [← ih _ hr]
        simp only [hc,Option.getD_some]
        rfl
      · have hk':(k == NameKind.free)=false:=by simpa using hk
        simp only [hk',Bool.false_eq_true,if_false]
        rw [← ih _ hr]
        rfl
  have:=key scope.names [] h
  simp only [bind_pure_comp] at this ⊢
  rw [this]
  rfl
theorem relabel_lookup {env:Env}:∀ {names:List (Str × NameKind)} {x:Str} {k':NameKind},(names.map fun (n,k)=>if (k == NameKind.free && env.scope.kind == .function && env.kindOf n == some .cell) then (n,NameKind.cell) else (n,k)).lookup x=some k' →
    ∃ k,(x,k) ∈ names∧(k'=k ∨ (k = .free∧k' = .cell))
  | [],x,k',h=>by simp at h
  | (n,k) :: r,x,k',h=>by
    rw [List.map_cons] at h
    by_cases hc:(k == NameKind.free && env.scope.kind == .function && env.kindOf n == some .cell)=true
    · simp only [hc,if_true,List.lookup_cons] at h
      split at h
      · rename_i e
        have e:x=n:=by simpa using e
        cases h
        simp only [Bool.and_eq_true,beq_iff_eq] at hc
        have hk:k = .free:=by simpa using hc.1.1
        exact ⟨k,by rw [e]; exact List.mem_cons_self .., .inr ⟨hk,rfl⟩⟩
      · obtain ⟨q,a,b⟩:=relabel_lookup h
        exact ⟨q,List.mem_cons_of_mem _ a,b⟩
    · have hc':(k == NameKind.free && env.scope.kind == .function && env.kindOf n == some .cell)=false:=by simpa using hc
      simp only [hc',Bool.false_eq_true,if_false,List.lookup_cons] at h
      split at h
      · rename_i e
        have e:x=n:=by simpa using e
        cases h
        exact ⟨_,by rw [e]; exact List.mem_cons_self .., .inl rfl⟩
      · obtain ⟨q,a,b⟩:=relabel_lookup h
        exact ⟨q,List.mem_cons_of_mem _ a,b⟩
theorem compLoop_any {prog:Program} {w:World} {A:Around} {R:Result→Shared→Prop} {s:Shared} {elt target iter:Expr} {ifs:List Expr} {scope:Scope} {pos:Pos} {it acc:Value} {env:Env} (I:Nat→Shared→Prop)
    (turn:∀ n s,I n s→wpAny (model prog w) A (pyNext it) (fun r s₁=>match r with
      | none=>R (.ok .next) s₁
      | some v=>wpAny (model prog w) A (letOwnedTupleGo target it v) (fun _ s₁'=>wpAny (model prog w) A (assign target env v) (fun _ s₂ =>
          wpAny (model prog w) A (forIn ifs true fun c r=>if r=true then do let ok ← isTrue c env (eval c env); pure (ForInStep.yield ok) else pure (ForInStep.yield r)) (fun ok s₃ =>
            if ok=true then wpAny (model prog w) A (eval elt env) (fun x s₄ =>
              wpAny (model prog w) A (call (.builtin "list.append") [acc,x]) (fun _ s₅ => ∃ m,m < n∧I m s₅) (fun _ _=>False) s₄) (fun _ _=>False) s₃
            else ∃ m,m < n∧I m s₃) (fun _ _=>False) s₂) (fun _ _=>False) s₁') (fun _ _=>False) s₁) (fun _ _=>False) s)
    (n:Nat) (h:I n s):codeAny (model prog w) A (.compLoop (.ListComp elt [⟨target,iter,ifs,0⟩] scope pos) 0 it acc env) R s:=by
  refine codeAny_loop rfl I (fun n s hI=>?_) n h
  show wpAny _ A ((compTurn (.ListComp elt [⟨target,iter,ifs,0⟩] scope pos) 0 it acc env).onRaise (fun x=>do noteFrame x env; theTreesLotGoes x)) _ _ s
  refine wpAny_noted ?_
  rw [compTurn_list]
  refine wpAny_bind (wpAny_standAt (wpAny_bind (wpAny_mono (turn n s hI) (fun r s₁ h₁=>?_) fun _ _ h'=>h'.elim)))
  cases r with
  | none=>exact wpAny_pure h₁
  | some v =>
    refine wpAny_bind (wpAny_mono h₁ (fun _ s₁' h₁'=>?_) fun _ _ h'=>h'.elim)
    refine wpAny_bind (wpAny_mono h₁' (fun _ s₂ h₂=>wpAny_bind (wpAny_mono h₂ (fun ok s₃ h₃=>?_) fun _ _ h'=>h'.elim)) fun _ _ h'=>h'.elim)
    cases ok with
    | false=>exact wpAny_pure ⟨rfl,h₃⟩
    | true =>
      exact wpAny_bind (wpAny_bind (wpAny_mono h₃ (fun x s₄ h₄=>wpAny_bind (wpAny_mono h₄ (fun _ s₅ h₅=>wpAny_pure (wpAny_pure ⟨rfl,h₅⟩)) fun _ _ h'=>h'.elim)) fun _ _ h'=>h'.elim))
theorem cf_bound {x:Str} {c:Addr}:∀ {names:List (Str × NameKind)} {n:Nat} {acc:List (Str × Addr)},(cellsFrom n names acc).lookup x=some c→acc.lookup x=some c ∨ n ≤ c
  | [],n,acc,h => .inl h
  | (y,k) :: r,n,acc,h=>by
    unfold cellsFrom at h
    split at h
    · rcases cf_bound h with z | z
      · rw [List.lookup_cons] at z
        split at z
        · cases z; exact .inr (Nat.le_refl _)
        · exact .inl z
      · exact .inr (by omega)
    · exact cf_bound h
theorem cf_has {x:Str}:∀ {names:List (Str × NameKind)} {n:Nat} {acc:List (Str × Addr)},(∃ c,acc.lookup x=some c)→∃ c,(cellsFrom n names acc).lookup x=some c
  | [],n,acc,h=>h
  | (y,k) :: r,n,acc,h=>by
    unfold cellsFrom
    split
    · refine cf_has ?_
      rw [List.lookup_cons]
      split
      · exact ⟨_,rfl⟩
      · exact h
    · exact cf_has h
theorem cf_some {x:Str}:∀ {names:List (Str × NameKind)} {n:Nat} {acc:List (Str × Addr)},(x,NameKind.cell) ∈ names→∃ c,(cellsFrom n names acc).lookup x=some c
  | (y,k) :: r,n,acc,h=>by
    unfold cellsFrom
    rcases List.mem_cons.mp h with z | z
    · cases z
      rw [if_pos (by rfl)]
      exact cf_has ⟨n,by simp [List.lookup_cons]⟩
    · split
      · exact cf_some z
      · exact cf_some z
theorem cf_ge {x:Str} {c:Addr} {lo:Nat}:∀ {names:List (Str × NameKind)} {n:Nat} {acc:List (Str × Addr)},lo ≤ n→(∀ c,acc.lookup x=some c→lo ≤ c)→(cellsFrom n names acc).lookup x=some c→lo ≤ c
  | [],n,acc,_,ha,h=>ha c h
  | (y,k) :: r,n,acc,hn,ha,h=>by
    unfold cellsFrom at h
    split at h
    · refine cf_ge (n:=n + 1) (by omega) (fun c' h'=>?_) h
      rw [List.lookup_cons] at h'
      split at h'
      · cases h'; exact hn
      · exact ha c' h'
    · exact cf_ge hn ha h
theorem cf_new {x:Str} {c:Addr}:∀ {names:List (Str × NameKind)} {n:Nat} {acc:List (Str × Addr)},(x,NameKind.cell) ∈ names→(cellsFrom n names acc).lookup x=some c→n ≤ c
  | (y,k) :: r,n,acc,hm,h=>by
    unfold cellsFrom at h
    rcases List.mem_cons.mp hm with z | z
    · cases z
      rw [if_pos (by rfl)] at h
      refine cf_ge (lo:=n) (n:=n + 1) (by omega) (fun c' h'=>?_) h
      rw [List.lookup_cons,beq_self_eq_true] at h'
      cases h'
      exact Nat.le_refl _
    · split at h
      · have:=cf_new z h; omega
      · exact cf_new z h
theorem cf_old {x:Str}:∀ {names:List (Str × NameKind)} {n:Nat} {acc:List (Str × Addr)},(x,NameKind.cell) ∉ names→(cellsFrom n names acc).lookup x=acc.lookup x
  | [],n,acc,_=>rfl
  | (y,k) :: r,n,acc,h=>by
    have hr:(x,NameKind.cell) ∉ r:=fun z=>h (List.mem_cons_of_mem _ z)
    unfold cellsFrom
    split
    · rename_i hk
      rw [cf_old hr,List.lookup_cons]
      split
      · rename_i e
        exact absurd (List.mem_cons.mpr (.inl (by rw [show x=y by simpa using e,show k=NameKind.cell by simpa using hk]))) h
      · rfl
    · exact cf_old hr
theorem cf_inj:∀ {names:List (Str × NameKind)} {n:Nat} {acc:List (Str × Addr)},(∀ x c,acc.lookup x=some c→c < n)→(∀ x y c,acc.lookup x=some c→acc.lookup y=some c→x=y) →
    ∀ x y c,(cellsFrom n names acc).lookup x=some c→(cellsFrom n names acc).lookup y=some c→x=y
  | [],n,acc,_,hi=>hi
  | (z,k) :: r,n,acc,hb,hi=>by
    unfold cellsFrom
    split
    · refine cf_inj (n:=n + 1) (fun x c h=>?_) (fun x y c h1 h2=>?_)
      · rw [List.lookup_cons] at h
        split at h
        · cases h; exact Nat.lt_succ_self _
        · exact Nat.lt_succ_of_lt (hb x c h)
      · rw [List.lookup_cons] at h1 h2
        split at h1
        · rename_i e1
          cases h1
          split at h2
          · rename_i e2; rw [show x=z by simpa using e1,show y=z by simpa using e2]
          · exact absurd (hb y _ h2) (Nat.lt_irrefl _)
        · split at h2
          · cases h2; exact absurd (hb x _ h1) (Nat.lt_irrefl _)
          · exact hi x y c h1 h2
    · exact cf_inj hb hi
theorem cf_cell {x:Str} {c:Addr}:∀ {names:List (Str × NameKind)} {h:Heap} {acc:List (Str × Addr)},(∀ c,acc.lookup x=some c→∃ v,h.IsCell c v)→(cellsFrom h.objs.size names acc).lookup x=some c→∃ v,(pushCells h names).IsCell c v
  | [],h,acc,ha,e=>ha c e
  | (y,k) :: r,h,acc,ha,e=>by
    unfold cellsFrom at e
    unfold pushCells
    split at e
    · rename_i hk
      rw [if_pos hk]
      rw [show h.objs.size + 1=(h.push { cls := .type "cell",data := .cell none }).objs.size from (Heap.size_push ..).symm] at e
      refine cf_cell (fun c' e'=>?_) e
      rw [List.lookup_cons] at e'
      split at e'
      · cases e'; exact ⟨none,_,Heap.get?_push_size _ rfl,rfl⟩
      · obtain ⟨v,z⟩:=ha c' e'
        exact ⟨v,z.keeps fun b o q=>Heap.get?_push_of_some _ q⟩
    · rename_i hk
      rw [if_neg hk]
      exact cf_cell ha e
theorem wpAny_newBlock {M:Model} {A:Around} {E:Value→Shared→Prop} {s:Shared} {scope:Scope} {globals:Addr} {cl:List (Str × Addr)} {qual:Str} {func:Option Addr} {code:Value} {env:Env} {builtins:Addr} {Q:Env→Shared→Prop}
    (hQ:∀ h',h'.Ns s.heap.objs.size (fun _=>none)→(∀ b o,s.heap.get? b=some o→h'.get? b=some o)→(∀ x c,(∀ c,cl.lookup x=some c→∃ v,s.heap.IsCell c v)→(cellsFrom (s.heap.objs.size + 1) scope.names cl).lookup x=some c→∃ v,h'.IsCell c v) →
      Q (newEnv scope s.heap.objs.size globals (cellsFrom (s.heap.objs.size + 1) scope.names cl) qual func code (some env) builtins) { s with heap:=h',toks:=s.toks }) :
    wpAny M A (newFunctionEnv scope globals cl [] qual func code (some env) builtins) Q E s:=by
  simp only [newFunctionEnv,Option.isSome_some,if_true]
  refine wpAny_bind (wpAny_alloc ?_)
  refine wpAny_bind (wpAny_layCells _ (fun name kind cells=>by cases hkc:kind == NameKind.cell <;> simp [hkc]) _ _ _ _ ?_)
  have sz:(s.heap.push { cls := .type "dict",data := .dict #[] }).objs.size=s.heap.objs.size + 1:=Heap.size_push ..
  rw [show ({ s with heap:=s.heap.push { cls := .type "dict",data := .dict #[] } }:Shared).heap.objs.size=s.heap.objs.size + 1 from sz]
  rw [List.forIn_nil]
  refine wpAny_bind (wpAny_pure (wpAny_pure ?_))
  refine hQ _ ((Heap.Ns.new s.heap (.type "dict")).keeps (pushCells_keeps _ _)) (fun b o e=>pushCells_keeps _ _ b o (Heap.get?_push_of_some _ e)) fun x c ha e=>?_
  rw [← sz] at e
  exact cf_cell (fun c' e'=>let ⟨v,z⟩:=ha c' e'; ⟨v,z.keeps fun b o q=>Heap.get?_push_of_some _ q⟩) e
abbrev blk (X:Cx) (N':List Str) (scope:Scope) (C:Addr) (s₃:Shared) (H₃:Hp) (fp:List Addr) (pins:List (Addr × Obj)):Cx :=
  { X with N:=N',s₀:=s₃,H₀:=H₃,env:=compEnvC scope (cellsFrom (C + 1) scope.names (clOf X.env.cells scope.names [])) C X.env,outer:=X.stack,stack:=X.stack,ex:=fp,fn:=fun x=>scope.names.lookup x == some .cell,calm:=true,pn:=X.pn ++ pins,xe:=fun _ _=>False }
structure CompSc (X:Cx) (scope:Scope):Prop where
  kind:scope.kind = .function
  free:∀ y ∈ scope.names,y.2 = .free→X.env.kindOf y.1=some .cell ∨ X.env.kindOf y.1=some .free
  names:∀ y ∈ scope.names,scope.names.lookup y.1=some y.2
section
variable {X:Cx} {pins:List (Addr × Obj)} {σ:L2.St} {H:Hp} {s:Shared} {scope:Scope} {N':List Str} {fp:List Addr}
theorem CompSc.frees (S:CompSc X scope) (ok:X.Ok):∀ y ∈ scope.names,y.2 = .free→∃ c,X.env.cells.lookup y.1=some c:=fun y hy hf=>ok.has y.1 (S.free y hy hf)
theorem CompSc.cells (S:CompSc X scope) (ok:X.Ok) {x:Str} {c:Addr} (h:(clOf X.env.cells scope.names []).lookup x=some c):X.env.cells.lookup x=some c:=by
  rcases clOf_lookup (S.frees ok) h with z | z
  · simp at z
  · exact z
theorem CompSc.nc (S:CompSc X scope) {x:Str} (h:(x,NameKind.free) ∈ scope.names):(x,NameKind.cell) ∉ scope.names:=fun z=>by
  have w1:=S.names _ h
  have w2:=S.names _ z
  rw [show (x,NameKind.cell).1=(x,NameKind.free).1 from rfl,w1] at w2
  cases w2
theorem CompSc.cls (S:CompSc X scope) (I:Inv X pins σ H s) {x:Str} {c:Addr} (h:(clOf X.env.cells scope.names []).lookup x=some c):c < s.heap.objs.size:=by
  obtain ⟨v,o,ho,_⟩:=I.cell x c (S.cells I.ok h)
  exact Heap.lt_size ho
theorem CompSc.old (S:CompSc X scope) (I:Inv X pins σ H s) {x:Str} {c:Addr} (h:(cellsFrom (s.heap.objs.size + 1) scope.names (clOf X.env.cells scope.names [])).lookup x=some c):X.env.cells.lookup x=some c ∨ s.heap.objs.size < c:=by
  rcases cf_bound h with z | z
  · exact .inl (S.cells I.ok z)
  · exact .inr z
theorem blk_ok (I:Inv X pins σ H s) (S:CompSc X scope) (hc:X.calm=true) (hf:∀ b ∈ fp,FpOk X pins H b) (hlt:∀ b ∈ fp,b < s.heap.objs.size):(blk X N' scope s.heap.objs.size s H fp pins).Ok where
  mod:=I.ok.mod
  kind:=S.kind
  glob:=I.ok.glob
  blt:=I.ok.blt
  above:=Nat.le_refl _
  inj:=cf_inj (fun x c h=>Nat.lt_succ_of_lt (S.cls I h)) fun x y c h1 h2=>I.ok.inj x y c (S.cells I.ok h1) (S.cells I.ok h2)
  has:=fun x hx=>by
    have hx:(relabel scope X.env).names.lookup x=some .cell ∨ (relabel scope X.env).names.lookup x=some .free:=hx
    have:(x,NameKind.free) ∈ scope.names ∨ (x,NameKind.cell) ∈ scope.names:=by
      rcases hx with hx | hx
      · obtain ⟨k,a,b⟩:=relabel_lookup hx
        rcases b with b | b
        · rw [← b] at a; exact .inr a
        · rw [b.1] at a; exact .inl a
      · obtain ⟨k,a,b⟩:=relabel_lookup hx
        rcases b with b | b
        · rw [← b] at a; exact .inl a
        · cases b.2
    rcases this with z | z
    · exact cf_has (clOf_has z)
    · exact cf_some z
  cab:=fun x c h e=>by
    have h:(scope.names.lookup x == some NameKind.cell)=true:=h
    have h:scope.names.lookup x=some .cell:=by simpa using h
    exact Nat.le_of_succ_le (cf_new (PySem.mem_of_lookup h) e)
  hd:=fun _=>I.ok.hd hc
  frames:=I.ok.frames
  stk := .inl rfl
  exf:=fun b hb=>⟨Nat.ne_of_lt (hlt b hb),fun x c h=>by
    rcases S.old I h with z | z
    · exact (hf b hb).2.2.2.2.1 x c z
    · exact Nat.ne_of_gt (Nat.lt_trans (hlt b hb) z)⟩
  bs:=fun b o e=>I.bs b o e
  bsz:=Nat.le_trans I.ok.bsz I.sz
  noex:=fun b o e hb=>by
    rcases (hf b hb).2.2.2.1 with z | z
    · exact I.ok.noex b o e z
    · exact absurd (Nat.lt_of_lt_of_le (Heap.lt_size e) (Nat.le_trans I.ok.bsz z)) (Nat.lt_irrefl _)
  exfs:=fun b hb z=>(List.mem_cons.mp (I.stkSub b z)).elim (hf b hb).2.1 (hf b hb).2.2.1
  funs:=I.stack
  frf:=I.stkFree
  tabs:=fun p hp=>I.base.tbls _ _ (I.ok.tabs p hp)
theorem blk_inv (I:Inv X pins σ H s) (S:CompSc X scope) (hc:X.calm=true) (hf:∀ b ∈ fp,FpOk X pins H b) (hlt:∀ b ∈ fp,b < s.heap.objs.size) {h1:Heap} {t1:Nat} {m:Str→Option Value} {σ':L2.St}
    (hns:h1.Ns s.heap.objs.size m) (hk:∀ b o,s.heap.get? b=some o→h1.get? b=some o) (hcl:∀ x c,(∀ c,(clOf X.env.cells scope.names []).lookup x=some c→∃ v,s.heap.IsCell c v)→(cellsFrom (s.heap.objs.size + 1) scope.names (clOf X.env.cells scope.names [])).lookup x=some c→∃ v,h1.IsCell c v) (hl:σ'.length=N'.length)
    (cap:∀ (i:Nat) (x:Str) (v:V),N'[i]?=some x→σ'[i]?=some (some v)→(x,NameKind.free) ∈ scope.names∧∃ j:Nat,X.N[j]?=some x∧σ[j]?=some (some v)) :
    Inv (blk X N' scope s.heap.objs.size s H fp pins) [] σ' H { s with heap:=h1,toks:=t1 } where
  ok:=blk_ok I S hc hf hlt
  os:=rfl
  bare:=I.bare
  base:=Un.kept hk
  loc:=⟨m,hns,fun i x v e1 e2 vs=>by
    obtain ⟨hfree,j,j1,j2⟩:=cap i x v e1 e2
    obtain ⟨m0,hn0,hl0⟩:=I.loc
    have vis:Vis X.env.scope x:=by
      rcases S.free _ hfree rfl with z | z
      · exact .inr (.inl z)
      · exact .inr (.inr z)
    obtain ⟨u,r,l⟩:=hl0 j x v j1 j2 vis
    refine ⟨u,r,?_⟩
    rcases l with ⟨k,_⟩ | ⟨k,c,e,z⟩
    · exfalso
      rcases S.free _ hfree rfl with q | q
      · rw [k] at q; cases q
      · rw [k] at q; cases q
    · obtain ⟨c',hc'⟩:=clOf_has (cells:=X.env.cells) (acc:=[]) hfree
      have e':=S.cells I.ok hc'
      rw [e] at e'; cases e'
      refine .inr ⟨?_,c,by rw [show (blk X N' scope s.heap.objs.size s H fp pins).env.cells.lookup x=_ from cf_old (S.nc hfree)]; exact hc',?_⟩
      · have vs:(relabel scope X.env).names.lookup x=some .local ∨ (relabel scope X.env).names.lookup x=some .cell ∨ (relabel scope X.env).names.lookup x=some .free:=vs
        rcases vs with q | q
        · obtain ⟨k2,a,b⟩:=relabel_lookup q
          rcases b with b | b
          · rw [← b] at a
            have w1:=S.names _ a
            have w2:=S.names _ hfree
            rw [show (x,NameKind.local).1=(x,NameKind.free).1 from rfl,w2] at w1
            cases w1
          · cases b.2
        · exact q
      · obtain ⟨o,ho,hd⟩:=z
        exact ⟨o,hk _ _ ho,hd⟩⟩
  cell:=fun x c h=>hcl x c (fun c' h'=>I.cell x c' (S.cells I.ok h')) h
  free:=I.hok.fresh (Nat.le_refl _)
  freeC:=fun x c h=>by
    rcases S.old I h with z | z
    · exact I.freeC x c z
    · exact I.hok.fresh (Nat.le_of_lt z)
  pin:=fun p hp=>by
    have hp:p ∈ (X.pn ++ pins) ++ []:=hp
    rw [List.append_nil] at hp
    obtain ⟨a,b,c,d,e⟩:=I.pin p hp
    exact ⟨hk _ _ a,b,Nat.ne_of_lt (Heap.lt_size a),fun z=>(List.mem_cons.mp (I.stkSub _ z)).elim c d,e⟩
  hok:=I.hok.kept hk
  len:=hl
theorem blk_back {H3 H':Hp} {s':Shared} {h'':Heap} {σ':L2.St} {C:Addr} {pins':List (Addr × Obj)} (I:Inv X pins σ H3 s) (hf:∀ b ∈ fp,FpOk X pins H3 b) (hC:C=s.heap.objs.size) (I':Inv (blk X N' scope C s H3 fp pins) pins' σ' H' s') (hb:Heap.SameBut C s'.heap h''):Inv X pins σ H' { s' with heap:=h'' }:=by
  subst hC
  have bs:Un (frs X.stack) fp H3 H' s.heap s'.heap:=I'.base
  have nC:∀ b o,s.heap.get? b=some o→b ≠ s.heap.objs.size:=fun b o e=>Nat.ne_of_lt (Heap.lt_size e)
  have tr:∀ b,b ≠ s.heap.objs.size→h''.get? b=s'.heap.get? b:=fun b n=>hb.2 b n
  have u:Un (frs X.stack) fp H3 H' s.heap h'' :=
    ⟨fun b o e n h1 h2=>(tr b (nC b o e)).trans (bs.keep b o e n h1 h2),fun b o e n h1 h2=>by obtain ⟨sl,q⟩:=bs.slot b o e n h1 h2; exact ⟨sl,(tr b (nC b o e)).trans q⟩,bs.free,
      fun b o e h1=>by obtain ⟨o',q⟩:=bs.there b o e h1; exact ⟨o',(tr b (nC b o e)).trans q⟩,bs.tups,bs.frzs,bs.tbls⟩
  have cf:H' s.heap.objs.size=none:=I'.free
  have hok:HOk X.prog X.w H' h'':=fun b o e=>by
    have nb:b ≠ s.heap.objs.size:=fun z=>by rw [z,cf] at e; cases e
    refine (I'.hok b o e).stay (fun c v hc q=>(tr c ?_).trans q) (fun _ q=>q) (fun _ _ q=>q) fun _ _ _ q=>q
    rcases hc with w | w
    · rw [w]; exact nb
    · exact fun z=>by rw [z,cf] at w; cases w
  obtain ⟨h0,g0,d0,t0,o0⟩:=s'
  have e:o0=s.os:=I'.os
  subst e
  exact I.call (g':=g0) (t':=t0) (d':=d0) u hok I'.bare fun b hb'=>by
    obtain ⟨f0,f1,f2,f3,f4,f5⟩:=hf b hb'
    exact ⟨f3,f1,f4,f5⟩
end
end L2
namespace L2
open PySem PySem.Spec PyProof.Rows
def PTs (Y:Cx) (ifs:List Expr) (t:TT):Prop :=
  ∀ (pins:List (Addr × Obj)) (s:Shared) (σ:L2.St) (H:Hp) (Q:Bool→Hp→Prop),Inv Y pins σ H s→t σ H Q →
    wpAny (model Y.prog Y.w) Y.A (forIn ifs true fun c r=>if r=true then do let ok ← isTrue c Y.env (eval c Y.env); pure (ForInStep.yield ok) else pure (ForInStep.yield r)) (TP Y pins σ Q) Y.xe s
theorem pts_nil {Y:Cx}:PTs Y [] (fun _ H Q=>Q true H):=fun pins s σ H Q I h=>wpAny_tests_nil ⟨H,I,h⟩
def capV (n:Nat) (cap:List Nat) (σ:L2.St):L2.St:=List.replicate n none ++ cap.map fun j=>(σ[j]?).getD none
def tComp (n:Nat) (cap:List Nat) (wi:TI) (g:TG) (tt:TT) (te:TE):TE:=fun σ H Q=>wi σ H fun J H1 => ∀ D,H1 D=none→∃ W:Nat→Nat→L2.St→Hp→Prop,(∃ m,W 0 m (capV n cap σ) (upd H1 D (.lst [])))∧∀ i m σ' H',W i m σ' H' →
  (J.stop i H'∧Q (.ref D) H') ∨ (J.go i H'∧∃ N:L2.St→Hp→Prop,(∀ σ'' H'',N σ'' H''→∃ m',m' < m∧W (i + 1) m' σ'' H'')∧∀ x H2,J.yld i H' x H2→g x σ' H2 fun σ2 H3=>tt σ2 H3 fun b H4 =>
    if b=true then te σ2 H4 fun v H5 => ∃ vs,H5 D=some (.lst vs)∧vs.length < sizeLine∧N σ2 (upd H5 D (.lst (vs ++ [v]))) else N σ2 H4)
theorem pe_comp {X:Cx} {elt tg iter:Expr} {ifs:List Expr} {scope:Scope} {pos:Pos} {n:Nat} {cap:List Nat} {N':List Str} {wi:TI} {g:TG} {tt:TT} {te:TE} (S:CompSc X scope) (hc:X.calm=true) (hi:PI X tg iter wi)
    (hN:N'.length=n + cap.length) (hcap:∀ (k:Nat) (j:Nat),cap[k]?=some j→∃ x,N'[n + k]?=some x∧X.N[j]?=some x∧(x,NameKind.free) ∈ scope.names)
    (hg:∀ C s₃ H₃ fp pins,PG (blk X N' scope C s₃ H₃ fp pins) tg g) (ht:∀ C s₃ H₃ fp pins,PTs (blk X N' scope C s₃ H₃ fp pins) ifs tt) (he:∀ C s₃ H₃ fp pins,PE (blk X N' scope C s₃ H₃ fp pins) elt te)
    (hs:∀ x,foldedSetIterable iter X.env x=pure x:=by intro _; rfl):PE X (.ListComp elt [⟨tg,iter,ifs,0⟩] scope pos) (tComp n cap wi g tt te):=by
  intro pins s σ H Q I h
  rw [eval_ListComp]
  refine wpAny_comprehension_free (use:=none) rfl hs (closure_eq (S.frees I.ok)) S.kind (fun x hx hl=>by rw [S.names x hx,hl]) (thn (hi pins s σ H _ I h) fun v s1 h1=>thn h1 fun itv s2 h2=>?_)
  obtain ⟨it,fp,tn,J,H2,e,I2,T,st2,f2,R⟩:=h2
  subst e
  have lt2:∀ b ∈ fp,b < s2.heap.objs.size:=fun b hb=>by obtain ⟨o,e,_⟩:=T.obj _ _ st2 b hb; exact Heap.lt_size e
  have hD:H2 s2.heap.objs.size=none:=I2.fresh
  obtain ⟨W,⟨m0,w0⟩,turn⟩:=R s2.heap.objs.size hD
  have I3:Inv X pins σ (upd H2 s2.heap.objs.size (.lst [])) { s2 with heap:=s2.heap.push { cls := .type "list",data := .seq ([]:List Value).toArray },toks:=s2.toks }:=I2.lnew (t':=s2.toks) .nil (by simp)
  have f3:∀ b ∈ fp,FpOk X pins (upd H2 s2.heap.objs.size (.lst [])) b:=fun b hb=>⟨by rw [upd_ne (Nat.ne_of_lt (lt2 b hb))]; exact (f2 b hb).1,(f2 b hb).2⟩
  refine wpAny_newObj_type (wpAny_newBlock fun h₁ hns₁ hk hcl₁=>?_)
  have lt3:∀ b ∈ fp,b < (s2.heap.push { cls := .type "list",data := .seq ([]:List Value).toArray }).objs.size:=fun b hb=>by rw [Heap.size_push]; exact Nat.lt_succ_of_lt (lt2 b hb)
  have I4:Inv (blk X N' scope (s2.heap.push { cls := .type "list",data := .seq ([]:List Value).toArray }).objs.size { s2 with heap:=s2.heap.push { cls := .type "list",data := .seq ([]:List Value).toArray },toks:=s2.toks } (upd H2 s2.heap.objs.size (.lst [])) fp pins) [] (capV n cap σ) (upd H2 s2.heap.objs.size (.lst [])) { s2 with heap:=h₁,toks:=s2.toks } :=
    blk_inv I3 S hc f3 lt3 (t1:=s2.toks) hns₁ hk hcl₁ (by simp [capV,hN]) (fun i x v e1 e2=>by
      unfold capV at e2
      by_cases hi:i < n
      · rw [List.getElem?_append_left (by simpa using hi),List.getElem?_replicate] at e2
        split at e2 <;> cases e2
      · rw [List.getElem?_append_right (by simpa using hi),List.length_replicate,List.getElem?_map] at e2
        cases ej:cap[i - n]? with
        | none=>rw [ej] at e2; cases e2
        | some j =>
          rw [ej] at e2
          obtain ⟨x',a1,a2,a3⟩:=hcap (i - n) j ej
          have:n + (i - n)=i:=by omega
          rw [this,e1] at a1
          cases a1
          refine ⟨a3,j,a2,?_⟩
          have e2:(σ[j]?).getD none=some v:=by simpa using e2
          cases q:σ[j]? with
          | none=>rw [q] at e2; cases e2
          | some z=>rw [q] at e2; have:z=some v:=e2; rw [this])
  have loop:codeAny (model X.prog X.w) X.A (.compLoop (.ListComp elt [⟨tg,iter,ifs,0⟩] scope pos) 0 (.ref it) (.ref s2.heap.objs.size) (compEnvC scope (cellsFrom ((s2.heap.push { cls := .type "list",data := .seq ([]:List Value).toArray }).objs.size + 1) scope.names (clOf X.env.cells scope.names [])) (s2.heap.push { cls := .type "list",data := .seq ([]:List Value).toArray }).objs.size X.env))
      (compPost (model X.prog X.w) X.A X.xe none (EP X pins σ Q) (.ref s2.heap.objs.size) (s2.heap.push { cls := .type "list",data := .seq ([]:List Value).toArray }).objs.size) { s2 with heap:=h₁,toks:=s2.toks }:=by
    generalize hY:(blk X N' scope (s2.heap.push { cls := .type "list",data := .seq ([]:List Value).toArray }).objs.size { s2 with heap:=s2.heap.push { cls := .type "list",data := .seq ([]:List Value).toArray },toks:=s2.toks } (upd H2 s2.heap.objs.size (.lst [])) fp pins)=Y at I4
    have st4:tn 0 h₁:=T.keep _ _ _ st2 fun b hb o e=>hk b o (Heap.get?_push_of_some _ e)
    have stat:∀ {H':Hp},(∀ b ∈ fp,H' b=none)→∀ b ∈ fp,FpOk Y [] H' b:=fun hn b hb=>by
      subst hY
      obtain ⟨f0,f1,f2',f3',f4,f5⟩:=f3 b hb
      exact ⟨hn b hb,Nat.ne_of_lt (lt3 b hb),fun z=>(List.mem_cons.mp (I3.stkSub b z)).elim f1 f2', .inl hb,fun x c e=>(by
        rcases S.old I3 e with z | z
        · exact f4 x c z
        · exact Nat.ne_of_gt (Nat.lt_trans (lt3 b hb) z)),fun p hp=>f5 p (by simpa using hp)⟩
    have hgY:PG Y tg g:=hY ▸ hg _ _ _ _ _
    have htY:PTs Y ifs tt:=hY ▸ ht _ _ _ _ _
    have heY:PE Y elt te:=hY ▸ he _ _ _ _ _
    have yp:Y.prog=X.prog:=by subst hY; rfl
    have yw:Y.w=X.w:=by subst hY; rfl
    have yK:Y.K=X.K:=by subst hY; rfl
    have yA:Y.A=X.A:=by subst hY; rfl
    have yc:Y.calm=true:=by subst hY; rfl
    have yx:Y.xe=fun _ _=>False:=by subst hY; rfl
    have ye:Y.env=compEnvC scope (cellsFrom ((s2.heap.push { cls := .type "list",data := .seq ([]:List Value).toArray }).objs.size + 1) scope.names (clOf X.env.cells scope.names [])) (s2.heap.push { cls := .type "list",data := .seq ([]:List Value).toArray }).objs.size X.env:=by subst hY; rfl
    rw [← ye]
    refine compLoop_any (fun n s' => ∃ i σ' H',Inv Y [] σ' H' s'∧tn i s'.heap∧(∀ b ∈ fp,H' b=none)∧W i n σ' H') ?_ m0 ⟨0,_,_,I4,st4,fun b hb=>(f3 b hb).1,w0⟩
    rintro n s3 ⟨i,σ3,H3,I5,st3,fr3,w3⟩
    rcases turn i n σ3 H3 w3 with ⟨stop,qn⟩ | ⟨go,N,hNN,step⟩
    · have d:=T.done Y yp yw yK yc i [] s3 σ3 H3 (fun _ _=>False) I5 (stat fr3) st3 stop
      rw [yA] at d
      refine thn d fun r s4 ⟨hr,I6⟩=>?_
      subst hr
      obtain ⟨m,hm,_⟩:=I6.loc
      rw [ye] at hm
      refine ⟨m,hm,fun h' hb=>⟨.ref s2.heap.objs.size,H3,?_,rfl,qn⟩⟩
      subst hY
      exact blk_back I3 f3 rfl I6 hb
    · have d:=T.item Y yp yw yK yc i [] s3 σ3 H3 (fun _ _=>False) I5 (stat fr3) st3 go
      rw [yA] at d
      refine thn d fun r s4 ⟨u,hr,h4⟩=>?_
      subst hr
      refine thn h4 fun _ s5 ⟨x,H5,I6,r5,y5,st5,fr5⟩=>?_
      have I6':=I6.pinned (stat fr5) (T.obj _ _ st5)
      have a:=hgY _ s5 σ3 H5 x u _ I6' r5 (step x H5 y5)
      rw [yp,yw,yA,yx] at a
      refine thn a fun _ s6 ⟨σ6,H6,I7,q6⟩=>?_
      have b:=htY _ s6 σ6 H6 _ I7 q6
      rw [yp,yw,yA,yx] at b
      refine thn b fun ok s7 ⟨H7,I8,q7⟩=>?_
      have again:∀ {s9:Shared} {H9:Hp},Inv Y ([] ++ pinsAt fp s5.heap) σ6 H9 s9→N σ6 H9→∃ m,m < n∧∃ i σ' H',Inv Y [] σ' H' s9∧tn i s9.heap∧(∀ b ∈ fp,H' b=none)∧W i m σ' H':=fun {s9 H9} I9 n9=>by
        obtain ⟨m',hm,w9⟩:=hNN σ6 H9 n9
        refine ⟨m',hm,i + 1,σ6,H9,I9.unpinned,T.keep _ _ _ st5 fun b hb o e=>(I9.pin (b,o) (List.mem_append_right _ (List.mem_append_right _ (mem_pinsAt hb e)))).1,fun b hb=>?_,w9⟩
        obtain ⟨o,e,d⟩:=T.obj _ _ st5 b hb
        exact (I9.pin (b,o) (List.mem_append_right _ (List.mem_append_right _ (mem_pinsAt hb e)))).2.1
      cases ok with
      | false=>exact iteF (again I8 (by simpa using q7))
      | true =>
        rw [if_pos rfl] at q7
        refine iteT ?_
        have c:=heY _ s7 σ6 H7 _ I8 q7
        rw [yp,yw,yA,yx] at c
        refine thn c fun z s8 ⟨vz,H8,I9,r9,vs,hv,hl,n9⟩=>?_
        have ap:=mt_append (X:=Y) ([] ++ pinsAt fp s5.heap) s8 σ6 H8 (.ref s2.heap.objs.size) [vz] (.ref s2.heap.objs.size) [z] (fun _ H9=>N σ6 H9) I9 rfl (.cons r9 .nil) ⟨_,vs,vz,rfl,rfl,hv,hl,n9⟩
        rw [yp,yw,yA,yx] at ap
        exact thn ap fun _ s9 ⟨_,H9,I10,_,n10⟩=>again I10 n10
  exact codeAny_compStart_list loop (T.self _ 0 _ _ _ (T.keep _ _ _ st2 fun b hb o e=>hk b o (Heap.get?_push_of_some _ e)) loop)
theorem ps_compU {X:Cx} {i₀:Nat} {y₀:Str} {py spos:Pos} {elt tg iter:Expr} {ifs:List Expr} {scope:Scope} {pos:Pos} {n:Nat} {cap:List Nat} {N':List Str} {wi:TI} {g:TG} {tt:TT} {te:TE} (S:CompSc X scope) (hc:X.calm=true) (hi:PI X tg iter wi)
    (hN:N'.length=n + cap.length) (hcap:∀ (k:Nat) (j:Nat),cap[k]?=some j→∃ x,N'[n + k]?=some x∧X.N[j]?=some x∧(x,NameKind.free) ∈ scope.names)
    (hg:∀ C s₃ H₃ fp pins,PG (blk X N' scope C s₃ H₃ fp pins) tg g) (ht:∀ C s₃ H₃ fp pins,PTs (blk X N' scope C s₃ H₃ fp pins) ifs tt) (he:∀ C s₃ H₃ fp pins,PE (blk X N' scope C s₃ H₃ fp pins) elt te)
    (hNd:X.N.Nodup) (hi₀:X.N[i₀]?=some y₀) (hy:Loc X.env.scope y₀) (hsw:swapsWith (.ListComp elt [⟨tg,iter,ifs,0⟩] scope pos) (some (.Name y₀ py)) spos.line X.env=pure true) (hf:X.fn y₀=true ∨ X.env.scope.names.lookup y₀=some .local)
    (hs:∀ x,foldedSetIterable iter X.env x=pure x:=by intro _; rfl):PS X (.Assign [.Name y₀ py] (.ListComp elt [⟨tg,iter,ifs,0⟩] scope pos) spos) (fun D σ H=>tComp n cap wi g tt te σ H fun v H1=>D.nx (σ.set i₀ (some v)) H1):=by
  intro pins s σ H Ed I h
  rw [exec_Assign_Name_used y₀ py _ spos hsw]
  refine wpAny_bind (wpAny_standAt (wpAny_bind ?_))
  show wpAny (model X.prog X.w) X.A (comprehension (.ListComp elt [⟨tg,iter,ifs,0⟩] scope pos) scope X.env _ (newList []) false (eval iter X.env) (some (assign (.Name y₀ py) X.env)) >>= fun _=>pure ()) _ _ s
  refine wpAny_bind (thn (Q:=fun _ s'=>SP X pins Ed .next s') ?_ fun _ s' hq=>wpAny_pure (wpAny_pure hq))
  refine wpAny_comprehension_free (use:=some (assign (.Name y₀ py) X.env)) rfl hs (closure_eq (S.frees I.ok)) S.kind (fun x hx hl=>by rw [S.names x hx,hl]) (thn (hi pins s σ H _ I h) fun v s1 h1=>thn h1 fun itv s2 h2=>?_)
  obtain ⟨it,fp,tn,J,H2,e,I2,T,st2,f2,R⟩:=h2
  subst e
  have lt2:∀ b ∈ fp,b < s2.heap.objs.size:=fun b hb=>by obtain ⟨o,e,_⟩:=T.obj _ _ st2 b hb; exact Heap.lt_size e
  have hD:H2 s2.heap.objs.size=none:=I2.fresh
  obtain ⟨W,⟨m0,w0⟩,turn⟩:=R s2.heap.objs.size hD
  have I3:Inv X pins σ (upd H2 s2.heap.objs.size (.lst [])) { s2 with heap:=s2.heap.push { cls := .type "list",data := .seq ([]:List Value).toArray },toks:=s2.toks }:=I2.lnew (t':=s2.toks) .nil (by simp)
  have f3:∀ b ∈ fp,FpOk X pins (upd H2 s2.heap.objs.size (.lst [])) b:=fun b hb=>⟨by rw [upd_ne (Nat.ne_of_lt (lt2 b hb))]; exact (f2 b hb).1,(f2 b hb).2⟩
  refine wpAny_newObj_type (wpAny_newBlock fun h₁ hns₁ hk hcl₁=>?_)
  have lt3:∀ b ∈ fp,b < (s2.heap.push { cls := .type "list",data := .seq ([]:List Value).toArray }).objs.size:=fun b hb=>by rw [Heap.size_push]; exact Nat.lt_succ_of_lt (lt2 b hb)
  have I4:Inv (blk X N' scope (s2.heap.push { cls := .type "list",data := .seq ([]:List Value).toArray }).objs.size { s2 with heap:=s2.heap.push { cls := .type "list",data := .seq ([]:List Value).toArray },toks:=s2.toks } (upd H2 s2.heap.objs.size (.lst [])) fp pins) [] (capV n cap σ) (upd H2 s2.heap.objs.size (.lst [])) { s2 with heap:=h₁,toks:=s2.toks } :=
    blk_inv I3 S hc f3 lt3 (t1:=s2.toks) hns₁ hk hcl₁ (by simp [capV,hN]) (fun i x v e1 e2=>by
      unfold capV at e2
      by_cases hi:i < n
      · rw [List.getElem?_append_left (by simpa using hi),List.getElem?_replicate] at e2
        split at e2 <;> cases e2
      · rw [List.getElem?_append_right (by simpa using hi),List.length_replicate,List.getElem?_map] at e2
        cases ej:cap[i - n]? with
        | none=>rw [ej] at e2; cases e2
        | some j =>
          rw [ej] at e2
          obtain ⟨x',a1,a2,a3⟩:=hcap (i - n) j ej
          have:n + (i - n)=i:=by omega
          rw [this,e1] at a1
          cases a1
          refine ⟨a3,j,a2,?_⟩
          have e2:(σ[j]?).getD none=some v:=by simpa using e2
          cases q:σ[j]? with
          | none=>rw [q] at e2; cases e2
          | some z=>rw [q] at e2; have:z=some v:=e2; rw [this])
  have loop:codeAny (model X.prog X.w) X.A (.compLoop (.ListComp elt [⟨tg,iter,ifs,0⟩] scope pos) 0 (.ref it) (.ref s2.heap.objs.size) (compEnvC scope (cellsFrom ((s2.heap.push { cls := .type "list",data := .seq ([]:List Value).toArray }).objs.size + 1) scope.names (clOf X.env.cells scope.names [])) (s2.heap.push { cls := .type "list",data := .seq ([]:List Value).toArray }).objs.size X.env))
      (compPost (model X.prog X.w) X.A X.xe (some (assign (.Name y₀ py) X.env)) (fun _ s'=>SP X pins Ed .next s') (.ref s2.heap.objs.size) (s2.heap.push { cls := .type "list",data := .seq ([]:List Value).toArray }).objs.size) { s2 with heap:=h₁,toks:=s2.toks }:=by
    generalize hY:(blk X N' scope (s2.heap.push { cls := .type "list",data := .seq ([]:List Value).toArray }).objs.size { s2 with heap:=s2.heap.push { cls := .type "list",data := .seq ([]:List Value).toArray },toks:=s2.toks } (upd H2 s2.heap.objs.size (.lst [])) fp pins)=Y at I4
    have st4:tn 0 h₁:=T.keep _ _ _ st2 fun b hb o e=>hk b o (Heap.get?_push_of_some _ e)
    have stat:∀ {H':Hp},(∀ b ∈ fp,H' b=none)→∀ b ∈ fp,FpOk Y [] H' b:=fun hn b hb=>by
      subst hY
      obtain ⟨f0,f1,f2',f3',f4,f5⟩:=f3 b hb
      exact ⟨hn b hb,Nat.ne_of_lt (lt3 b hb),fun z=>(List.mem_cons.mp (I3.stkSub b z)).elim f1 f2', .inl hb,fun x c e=>(by
        rcases S.old I3 e with z | z
        · exact f4 x c z
        · exact Nat.ne_of_gt (Nat.lt_trans (lt3 b hb) z)),fun p hp=>f5 p (by simpa using hp)⟩
    have hgY:PG Y tg g:=hY ▸ hg _ _ _ _ _
    have htY:PTs Y ifs tt:=hY ▸ ht _ _ _ _ _
    have heY:PE Y elt te:=hY ▸ he _ _ _ _ _
    have yp:Y.prog=X.prog:=by subst hY; rfl
    have yw:Y.w=X.w:=by subst hY; rfl
    have yK:Y.K=X.K:=by subst hY; rfl
    have yA:Y.A=X.A:=by subst hY; rfl
    have yc:Y.calm=true:=by subst hY; rfl
    have yx:Y.xe=fun _ _=>False:=by subst hY; rfl
    have ye:Y.env=compEnvC scope (cellsFrom ((s2.heap.push { cls := .type "list",data := .seq ([]:List Value).toArray }).objs.size + 1) scope.names (clOf X.env.cells scope.names [])) (s2.heap.push { cls := .type "list",data := .seq ([]:List Value).toArray }).objs.size X.env:=by subst hY; rfl
    rw [← ye]
    refine compLoop_any (fun n s' => ∃ i σ' H',Inv Y [] σ' H' s'∧tn i s'.heap∧(∀ b ∈ fp,H' b=none)∧W i n σ' H') ?_ m0 ⟨0,_,_,I4,st4,fun b hb=>(f3 b hb).1,w0⟩
    rintro n s3 ⟨i,σ3,H3,I5,st3,fr3,w3⟩
    rcases turn i n σ3 H3 w3 with ⟨stop,qn⟩ | ⟨go,N,hNN,step⟩
    · have d:=T.done Y yp yw yK yc i [] s3 σ3 H3 (fun _ _=>False) I5 (stat fr3) st3 stop
      rw [yA] at d
      refine thn d fun r s4 ⟨hr,I6⟩=>?_
      subst hr
      obtain ⟨m,hm,_⟩:=I6.loc
      rw [ye] at hm
      subst hY
      have IX:=blk_back I3 f3 rfl I6 (h'':=s4.heap) ⟨rfl,fun _ _=>rfl⟩
      have cf:H3 (s2.heap.push { cls := .type "list",data := .seq ([]:List Value).toArray }).objs.size=none:=I6.free
      have fC:FpOk X pins H3 (s2.heap.push { cls := .type "list",data := .seq ([]:List Value).toArray }).objs.size:=I3.fpOk (Nat.le_refl _) cf
      obtain ⟨c0,c1,c2,c3,c4,c5⟩:=fC
      refine wpAny_assign_Name (store_ok2 (s:=s4) IX hNd hi₀ hy (v := .ref s2.heap.objs.size) rfl (fun s5 I7 ⟨a,sb,ha⟩=>?_) hf)
      have na:a ≠ (s2.heap.push { cls := .type "list",data := .seq ([]:List Value).toArray }).objs.size:=by
        rcases ha with z | z
        · rw [z]; exact fun w=>c1 w.symm
        · exact c4 _ _ z
      refine ⟨m,hm.sameBut sb (Ne.symm na),fun h' hb=>⟨_,H3,?_,qn⟩⟩
      exact I7.turned (t':=s5.toks) (fun b o n e=>(hb.2 b n).trans e) c0 c1 c3 c4 c5
    · have d:=T.item Y yp yw yK yc i [] s3 σ3 H3 (fun _ _=>False) I5 (stat fr3) st3 go
      rw [yA] at d
      refine thn d fun r s4 ⟨u,hr,h4⟩=>?_
      subst hr
      refine thn h4 fun _ s5 ⟨x,H5,I6,r5,y5,st5,fr5⟩=>?_
      have I6':=I6.pinned (stat fr5) (T.obj _ _ st5)
      have a:=hgY _ s5 σ3 H5 x u _ I6' r5 (step x H5 y5)
      rw [yp,yw,yA,yx] at a
      refine thn a fun _ s6 ⟨σ6,H6,I7,q6⟩=>?_
      have b:=htY _ s6 σ6 H6 _ I7 q6
      rw [yp,yw,yA,yx] at b
      refine thn b fun ok s7 ⟨H7,I8,q7⟩=>?_
      have again:∀ {s9:Shared} {H9:Hp},Inv Y ([] ++ pinsAt fp s5.heap) σ6 H9 s9→N σ6 H9→∃ m,m < n∧∃ i σ' H',Inv Y [] σ' H' s9∧tn i s9.heap∧(∀ b ∈ fp,H' b=none)∧W i m σ' H':=fun {s9 H9} I9 n9=>by
        obtain ⟨m',hm,w9⟩:=hNN σ6 H9 n9
        refine ⟨m',hm,i + 1,σ6,H9,I9.unpinned,T.keep _ _ _ st5 fun b hb o e=>(I9.pin (b,o) (List.mem_append_right _ (List.mem_append_right _ (mem_pinsAt hb e)))).1,fun b hb=>?_,w9⟩
        obtain ⟨o,e,d⟩:=T.obj _ _ st5 b hb
        exact (I9.pin (b,o) (List.mem_append_right _ (List.mem_append_right _ (mem_pinsAt hb e)))).2.1
      cases ok with
      | false=>exact iteF (again I8 (by simpa using q7))
      | true =>
        rw [if_pos rfl] at q7
        refine iteT ?_
        have c:=heY _ s7 σ6 H7 _ I8 q7
        rw [yp,yw,yA,yx] at c
        refine thn c fun z s8 ⟨vz,H8,I9,r9,vs,hv,hl,n9⟩=>?_
        have ap:=mt_append (X:=Y) ([] ++ pinsAt fp s5.heap) s8 σ6 H8 (.ref s2.heap.objs.size) [vz] (.ref s2.heap.objs.size) [z] (fun _ H9=>N σ6 H9) I9 rfl (.cons r9 .nil) ⟨_,vs,vz,rfl,rfl,hv,hl,n9⟩
        rw [yp,yw,yA,yx] at ap
        exact thn ap fun _ s9 ⟨_,H9,I10,_,n10⟩=>again I10 n10
  exact codeAny_compStart_list loop (T.self _ 0 _ _ _ (T.keep _ _ _ st2 fun b hb o e=>hk b o (Heap.get?_push_of_some _ e)) loop)
end L2
namespace DL
open PySem PySem.Spec PyProof.Rows L2
structure Src (K:PySem.W.Frag) (ds:List D) (J:It) (Good:List Addr→Hp→Prop):Prop where
  keep:∀ P H P' H',Good P H→Same (hide P H) (hide P' H')→Good P' H'
  stop:∀ P H,Good P H→J.stop ds.length H
  go:∀ P H i,Good P H→i < ds.length→J.go i H
  yld:∀ P H i x H',Good P H→Lists H P→J.yld i H x H'→i < ds.length→Same H H'∧∃ d,ds[i]?=some d∧Rep K (hide P H') d x
abbrev DI:=Th→Option (Bool × List D)
def hidF (b:Bool) (A F:List Addr):List Addr:=if b then A ++ F else F
def dI (K:PySem.W.Frag) (F:List Addr) (fs:DI):TI:=fun σ H R => ∃ A t b ds,RS K F H A t σ∧fs t=some (b,ds)∧∀ J H1 Good,Same H H1→Src K ds J Good→Good (hidF b A F) H1→R J H1
theorem PI.imp {X:Cx} {tg iter:Expr} {t t':TI} (h:PI X tg iter t) (i:∀ σ H R,t' σ H R→t σ H R):PI X tg iter t':=fun pins s σ H R I q=>h pins s σ H R I (i σ H R q)
def fsL (f:DE):DI:=fun t=>(f t).bind fun r=>match r.d with
  | .lst ds=>some (r.ok,ds)
  | _=>none
theorem src_list {K:PySem.W.Frag} {p:Addr} {vs:List V} {ds:List D} (hl:vs.length=ds.length):Src K ds (Itl K p) (fun P H=>SqL K (hide P H) p vs∧Reps K (hide P H) ds vs) where
  keep:=fun P H P' H' q s=>⟨SqL.mono s q.1,Reps.mono s q.2⟩
  stop:=fun P H q=>⟨vs,SqL.mono (hide_sub _ _) q.1,by omega⟩
  go:=fun P H i q hi=>⟨vs,vs[i]'(by omega),SqL.mono (hide_sub _ _) q.1,List.getElem?_eq_getElem (by omega)⟩
  yld:=fun P H i x H' q mu y hi=>by
    obtain ⟨e1,e2⟩:=y
    subst e1
    exact ⟨Same.refl _,q.2.getV (e2 vs (SqL.mono (hide_sub _ _) q.1))⟩
theorem RepEv.hidF {K:PySem.W.Frag} {F A:List Addr} {H H':Hp} {r:Ev} {v:V} (m:Lists H (A ++ F)) (gs:Same H H') (q:RepEv K F A H H' r v):Rep K (hide (DL.hidF r.ok A F) H') r.d v:=by
  unfold DL.hidF
  split
  · rename_i c; exact q.clean m gs c
  · exact q.cleanF m
section
variable {X:Cx} {F:List Addr} {a b c:Expr} {es:List Expr} {fa fb fc:DE} {pos:Pos} {tg:Expr}
theorem pid_list (hl:PE X a (dE X.K F fa)):PI X tg a (dI X.K F (fsL fa)):=by
  refine PI.imp (pi_list hl) ?_
  rintro σ H R ⟨A,t,b,ds,RR,e,h⟩
  unfold fsL at e
  cases e1:fa t with
  | none=>rw [e1] at e; cases e
  | some r =>
    rw [e1] at e
    refine ⟨A,t,r,RR,e1,fun v H1 gs q=>?_⟩
    have e:(match r.d with | .lst ds=>some (r.ok,ds) | _=>none)=some (b,ds):=e
    split at e
    case h_2=>cases e
    rename_i ds' z
    cases e
    have cl:=RepEv.hidF RR.mu gs q
    rw [z] at cl
    cases cl with
    | @lst _ p vs h1 h2=>exact ⟨p,rfl,⟨vs,SqL.mono (hide_sub _ _) h1⟩,h _ H1 _ gs (src_list h2.length) ⟨h1,h2⟩⟩
end
def capD (t:Th):List Nat→Option (Bool × List D)
  | []=>some (true,[])
  | j :: js=>(capD t js).bind fun q=>match t[j]? with
    | some (.val d)=>some (q.1,d :: q.2)
    | some (.own xs)=>some (false, .lst xs :: q.2)
    | some (.dp d)=>some (false,d :: q.2)
    | _=>none
theorem capD_rep {K:PySem.W.Frag} {F A:List Addr} {H:Hp} {t:Th} {σ:L2.St} (R:RS K F H A t σ):∀ {cap:List Nat} {b:Bool} {ds:List D},capD t cap=some (b,ds)→∃ vs:List V,(cap.map fun j=>(σ[j]?).getD none)=vs.map some∧Reps K (hide (hidF b A F) H) ds vs
  | [],b,ds,e=>by cases e; exact ⟨[],rfl, .nil⟩
  | j :: js,b,ds,e=>by
    unfold capD at e
    cases e1:capD t js with
    | none=>rw [e1] at e; cases e
    | some q =>
      obtain ⟨b',ds'⟩:=q
      rw [e1] at e
      obtain ⟨vs,h1,h2⟩:=capD_rep R e1
      have e:(match t[j]? with
        | some (.val d)=>some (b',d :: ds')
        | some (.own xs)=>some (false, .lst xs :: ds')
        | some (.dp d)=>some (false,d :: ds')
        | _=>none)=some (b,ds):=e
      have less:∀ c:Bool,Same (hide (A ++ F) H) (hide (hidF c A F) H):=fun c=>hide_less H fun x z=>by
        cases c with
        | true=>exact z
        | false=>exact List.mem_append_right _ z
      split at e
      · rename_i d z
        cases e
        obtain ⟨v,a1,a2⟩:=R.rel.getVal z
        exact ⟨v :: vs,by simp [a1,h1], .cons (Rep.mono (less _) a2) h2⟩
      · rename_i xs z
        cases e
        obtain ⟨p,us,a1,a2,a3,a4⟩:=R.rel.getOwn z
        refine ⟨.ref p :: vs,by simp [a1,h1], .cons (.lst (SqL.of (hide_get a3 (R.dj p a2))) (Reps.mono (less false) a4)) (Reps.mono (hide_less H fun x z=>?_) h2)⟩
        cases b' with
        | true=>exact List.mem_append_right _ z
        | false=>exact z
      · rename_i d z
        cases e
        obtain ⟨v,B,a1,a2,a3,a4⟩:=R.rel.getDp R.nd z
        refine ⟨v :: vs,by simp [a1,h1], .cons (a4.rep (less false) fun b hb o w=>hide_get w (R.dj b (a2 b hb))) (Reps.mono (hide_less H fun x z=>?_) h2)⟩
        cases b' with
        | true=>exact List.mem_append_right _ z
        | false=>exact z
      · cases e
def compD (k:D→Th→Option Th) (ft:DT) (fe:DE):List D→Th→Option (List D)
  | [],_=>some []
  | d :: ds,t=>(k d t).bind fun t1=>(ft t1).bind fun b=>if b then (fe t1).bind fun r=>(compD k ft fe ds t1).map fun xs=>r.d :: xs else compD k ft fe ds t1
def dComp (n:Nat) (cap:List Nat) (fs:DI) (k:D→Th→Option Th) (ft:DT) (fe:DE):DE:=fun t=>(fs t).bind fun q=>(capD t cap).bind fun c=>if q.2.length ≤ 50000 then (compD k ft fe q.2 (List.replicate n Sl.no ++ c.2.map Sl.val)).bind fun xs=>if (q.1 && c.1) || flats xs then some (.nw xs) else none else none
theorem compD_len {k:D→Th→Option Th} {ft:DT} {fe:DE}:∀ {ds:List D} {t:Th} {xs:List D},compD k ft fe ds t=some xs→xs.length ≤ ds.length
  | [],t,xs,e=>by cases e; simp
  | d :: ds,t,xs,e=>by
    unfold compD at e
    cases e1:k d t with
    | none=>rw [e1] at e; cases e
    | some t1 =>
      rw [e1] at e
      have e:((ft t1).bind fun b=>if b then (fe t1).bind fun r=>(compD k ft fe ds t1).map fun xs=>r.d :: xs else compD k ft fe ds t1)=some xs:=e
      cases e2:ft t1 with
      | none=>rw [e2] at e; cases e
      | some b =>
        rw [e2] at e
        cases b with
        | false=>have:=compD_len (ds:=ds) (t:=t1) e; simp; omega
        | true =>
          have e:((fe t1).bind fun r=>(compD k ft fe ds t1).map fun xs=>r.d :: xs)=some xs:=e
          cases e3:fe t1 with
          | none=>rw [e3] at e; cases e
          | some r =>
            rw [e3] at e
            have e:((compD k ft fe ds t1).map fun xs=>r.d :: xs)=some xs:=e
            cases e4:compD k ft fe ds t1 with
            | none=>rw [e4] at e; cases e
            | some ys=>rw [e4] at e; cases e; have:=compD_len e4; simp; omega
end DL
namespace DL
open PySem PySem.Spec PyProof.Rows L2
theorem RSl.noVals {K:PySem.W.Frag} {H0 H:Hp} {vs:List V} {ds:List D} (r:Reps K H0 ds vs):∀ n,RSl K H0 H (List.replicate n Sl.no ++ ds.map Sl.val) (List.replicate n none ++ vs.map some) []
  | 0=>by simpa using RSl.start (t:=[]) (σ:=[]) .nil r
  | n + 1 => .no (RSl.noVals r n)
theorem hide_same_upd {P:List Addr} {H:Hp} {p:Addr} {o:HO} (hp:p ∈ P):Same (hide P H) (hide P (upd H p o)):=fun b u e=>by
  obtain ⟨n,e⟩:=of_hide e
  exact hide_get (by rw [upd_ne (fun z=>n (by rw [z]; exact hp))]; exact e) n
theorem RS.updF {K:PySem.W.Frag} {P:List Addr} {H:Hp} {t:Th} {σ:L2.St} {p:Addr} {ws:List V} (R:RS K P H [] t σ) (hp:p ∈ P):RS K P (upd H p (.lst ws)) [] t σ where
  mu:=fun q hq=>by
    by_cases z:q=p
    · exact ⟨mL ws,by rw [z]; exact upd_same⟩
    · obtain ⟨us,w⟩:=R.mu q hq
      exact ⟨us,by rw [upd_ne z]; exact w⟩
  nd:=List.nodup_nil
  dj:=fun p hp=>by cases hp
  rel:=RSl.mono (hide_same_upd hp) R.rel fun q hq=>by cases hq
theorem none_owned {K:PySem.W.Frag} {P A:List Addr} {H:Hp} {t:Th} {σ:L2.St} (R:RS K P H A t σ) (g:Gr [] H A H):A=[]:=by
  cases A with
  | nil=>rfl
  | cons a r =>
    rcases g.nw a (List.mem_cons_self ..) with z | z
    · cases z
    · obtain ⟨vs,q⟩:=R.mu a (List.mem_append_left _ (List.mem_cons_self ..))
      rw [q] at z; cases z
def dTrue:DT:=fun _=>some true
theorem PTs.imp {Y:Cx} {ifs:List Expr} {t t':TT} (h:PTs Y ifs t) (i:∀ σ H Q,t' σ H Q→t σ H Q):PTs Y ifs t':=fun pins s σ H Q I q=>h pins s σ H Q I (i σ H Q q)
theorem ptsd_nil {Y:Cx} {F:List Addr}:PTs Y [] (dT Y.K F dTrue):=PTs.imp pts_nil fun σ H Q ⟨A,t,b,R,e,h⟩=>by cases e; exact h H (Same.refl H)
theorem tcomp_of {X:Cx} {F:List Addr} {n:Nat} {cap:List Nat} {fs:DI} {g:TG} {kt:D→Th→Option Th} {ft:DT} {fe:DE} (hk:∀ F',TgOk X.K F' g kt) {σ:L2.St} {H:Hp} {Q:VK} (h:dE X.K F (dComp n cap fs kt ft fe) σ H Q) :
    tComp n cap (dI X.K F fs) g (fun σ H Q => ∃ F',dT X.K F' ft σ H Q) (fun σ H Q => ∃ F',dE X.K F' fe σ H Q) σ H Q:=by
  obtain ⟨A,t,r,R,e,h⟩:=h
  unfold dComp at e
  cases e1:fs t with
  | none=>rw [e1] at e; cases e
  | some q =>
    obtain ⟨b,ds⟩:=q
    cases e2:capD t cap with
    | none=>rw [e1,e2] at e; cases e
    | some q2 =>
      obtain ⟨c,caps⟩:=q2
      rw [e1,e2] at e
      have e:(if ds.length ≤ 50000 then (compD kt ft fe ds (List.replicate n Sl.no ++ caps.map Sl.val)).bind fun xs=>if (b && c) || flats xs then some (Ev.nw xs) else none else none)=some r:=e
      split at e
      case isFalse=>cases e
      rename_i hlen
      cases e3:compD kt ft fe ds (List.replicate n Sl.no ++ caps.map Sl.val) with
      | none=>rw [e3] at e; cases e
      | some xs =>
        rw [e3] at e
        have e:(if (b && c) || flats xs then some (Ev.nw xs) else none)=some r:=e
        split at e
        case isFalse=>cases e
        rename_i ok
        cases e
        have xl:=compD_len e3
        obtain ⟨cvs,cv1,cv2⟩:=capD_rep R e2
        -- what is hidden from the block,but its own list
        obtain ⟨F',F'def⟩:∃ F',F'=hidF (b && c) A F:=⟨_,rfl⟩
        have subF:∀ x ∈ F',x ∈ A ++ F:=fun x hx=>by
          rw [F'def] at hx
          unfold hidF at hx
          split at hx
          · exact hx
          · exact List.mem_append_right _ hx
        have lessB:∀ H:Hp,Same (hide (hidF b A F) H) (hide F' H):=fun H=>hide_less H fun x hx=>by
          rw [F'def] at hx
          cases b <;> cases c <;> simp [hidF] at hx ⊢ <;> first | exact hx | exact .inr hx | (rcases hx with z | z <;> simp [z])
        have lessC:∀ H:Hp,Same (hide (hidF c A F) H) (hide F' H):=fun H=>hide_less H fun x hx=>by
          rw [F'def] at hx
          cases b <;> cases c <;> simp [hidF] at hx ⊢ <;> first | exact hx | exact .inr hx | (rcases hx with z | z <;> simp [z])
        have wi:tComp n cap (dI X.K F fs) g (fun σ H Q => ∃ F',dT X.K F' ft σ H Q) (fun σ H Q => ∃ F',dE X.K F' fe σ H Q) σ H Q:=by
          refine ⟨A,t,b,ds,R,e1,fun J H1 Good gs src gd Dd hD=>?_⟩
          have H1A:Lists H1 (A ++ F):=R.mu.mono gs
          have st0:Same (hide F' H1) (hide (Dd :: F') (upd H1 Dd (.lst []))):=hide_upd hD
          refine ⟨fun i m σ' H'=>i + m=ds.length∧∃ th acc rest vs,RS X.K (Dd :: F') H' [] th σ'∧compD kt ft fe (ds.drop i) th=some rest∧acc ++ rest=xs∧H' Dd=some (.lst vs)∧Reps X.K (hide (Dd :: F') H') acc vs∧Same H1 H'∧Good (Dd :: F') H',
            ⟨ds.length,by omega,_,[],xs,[],⟨?_,List.nodup_nil,fun p hp=>(by cases hp),?_⟩,by simpa using e3,rfl,upd_same, .nil,upd_sameH hD,src.keep _ _ _ _ gd (fun b o z=>st0 _ _ (lessB _ _ _ z))⟩,?_⟩
          · intro q hq
            have hq:q ∈ Dd :: F':=hq
            rcases List.mem_cons.mp hq with z | z
            · exact ⟨mL [],by rw [z]; exact upd_same⟩
            · obtain ⟨us,w⟩:=H1A q (subF q z)
              exact ⟨us,(upd_sameH hD) _ _ w⟩
          · unfold capV
            rw [cv1]
            exact RSl.noVals (Reps.mono (fun b o z=>st0 _ _ (lessC H1 _ _ (same_hide gs _ _ z))) cv2) n
          · rintro i m σ' H' ⟨hm,th,acc,rest,vs,RR,ec,ex,hv,hr,sm,gg⟩
            cases m with
            | zero =>
              have z:i=ds.length:=by omega
              subst z
              rw [List.drop_length] at ec
              cases ec
              rw [List.append_nil] at ex
              subst ex
              refine .inl ⟨src.stop _ _ gg,h _ H' (gs.trans sm) ⟨Dd,vs,rfl,Same.free gs hD,hv,?_⟩⟩
              rcases Bool.or_eq_true _ _ ▸ ok with k | k
              · have:F'=A ++ F:=by rw [F'def]; unfold hidF; rw [k]; rfl
                rw [← this]; exact hr
              · refine Reps.hid (P:=Dd :: (A ++ F)) (fun q hq=>?_) k (Reps.mono (hide_sub _ _) hr)
                rcases List.mem_cons.mp hq with z | z
                · exact ⟨mL vs,by rw [z]; exact hv⟩
                · obtain ⟨us,w⟩:=H1A q z
                  exact ⟨us,sm _ _ w⟩
            | succ m =>
              have hil:i < ds.length:=by omega
              refine .inr ⟨src.go _ _ i gg hil,fun σ' H'=>i + 1 + m=ds.length∧∃ th acc rest vs,RS X.K (Dd :: F') H' [] th σ'∧compD kt ft fe (ds.drop (i + 1)) th=some rest∧acc ++ rest=xs∧H' Dd=some (.lst vs)∧Reps X.K (hide (Dd :: F') H') acc vs∧Same H1 H'∧Good (Dd :: F') H',
                fun σ' H' q=>⟨m,Nat.lt_succ_self m,q⟩,fun x H2 y=>?_⟩
              obtain ⟨gs2,d,hd,rd⟩:=src.yld _ _ i x H2 gg RR.mu y hil
              have ed:ds.drop i=d :: ds.drop (i + 1):=by
                have hd':ds[i]=d:=by
                  rw [List.getElem?_eq_getElem hil] at hd
                  exact Option.some.inj hd
                rw [← hd']
                exact List.drop_eq_getElem_cons hil
              rw [ed] at ec
              unfold compD at ec
              cases k1:kt d th with
              | none=>rw [k1] at ec; cases ec
              | some t1 =>
                rw [k1] at ec
                have ec:((ft t1).bind fun b=>if b then (fe t1).bind fun r=>(compD kt ft fe (ds.drop (i + 1)) t1).map fun xs=>r.d :: xs else compD kt ft fe (ds.drop (i + 1)) t1)=some rest:=ec
                refine hk (Dd :: F') σ' H2 [] th t1 d x _ (RR.grow gs2) rd k1 fun σ2 A2 gr2 R2=>?_
                have A20:=none_owned R2 gr2
                subst A20
                cases k2:ft t1 with
                | none=>rw [k2] at ec; cases ec
                | some bb =>
                  rw [k2] at ec
                  refine ⟨Dd :: F',[],t1,bb,R2,k2,fun H3 gs3=>?_⟩
                  cases bb with
                  | false =>
                    refine iteF ⟨by omega,t1,acc,rest,vs,R2.grow gs3,ec,ex,gs3 _ _ (gs2 _ _ hv),Reps.mono (same_hide (gs2.trans gs3)) hr,(sm.trans gs2).trans gs3,src.keep _ _ _ _ gg (same_hide (gs2.trans gs3))⟩
                  | true =>
                    have ec:((fe t1).bind fun r=>(compD kt ft fe (ds.drop (i + 1)) t1).map fun xs=>r.d :: xs)=some rest:=ec
                    cases k3:fe t1 with
                    | none=>rw [k3] at ec; cases ec
                    | some re =>
                      rw [k3] at ec
                      have ec:((compD kt ft fe (ds.drop (i + 1)) t1).map fun xs=>re.d :: xs)=some rest:=ec
                      cases k4:compD kt ft fe (ds.drop (i + 1)) t1 with
                      | none=>rw [k4] at ec; cases ec
                      | some ys =>
                        rw [k4] at ec
                        cases ec
                        refine iteT ⟨Dd :: F',[],t1,re,R2.grow gs3,k3,fun v H4 gs4 q4=>⟨vs,gs4 _ _ (gs3 _ _ (gs2 _ _ hv)),?_,?_⟩⟩
                        · have l1:=hr.length
                          have l2:acc.length + (ys.length + 1)=xs.length:=by rw [← ex]; simp
                          exact Nat.lt_of_lt_of_le (show vs.length < 50000 by omega) (by rw [sizeLine_eq]; decide)
                        · have s4:=(gs2.trans gs3).trans gs4
                          have hu:Same (hide (Dd :: F') H4) (hide (Dd :: F') (upd H4 Dd (.lst (vs ++ [v])))):=hide_same_upd (List.mem_cons_self ..)
                          have rv:=q4.cleanF ((R2.grow gs3).mu)
                          refine ⟨by omega,t1,acc ++ [re.d],ys,vs ++ [v],RS.updF ((R2.grow gs3).grow gs4) (List.mem_cons_self ..),k4,by simpa using ex,upd_same,?_,?_,?_⟩
                          · exact (Reps.mono (fun b o z=>hu _ _ (same_hide s4 _ _ z)) hr).app (Reps.one (Rep.mono hu rv))
                          · exact fun b o z=>by
                              rw [upd_ne (fun w=>by rw [w,hD] at z; cases z)]
                              exact s4 _ _ (sm _ _ z)
                          · exact src.keep _ _ _ _ gg (fun b o z=>hu _ _ (same_hide s4 _ _ z))
        exact wi
theorem ped_comp {X:Cx} {F:List Addr} {elt tg iter:Expr} {ifs:List Expr} {scope:Scope} {pos:Pos} {n:Nat} {cap:List Nat} {N':List Str} {fs:DI} {g:TG} {kt:D→Th→Option Th} {ft:DT} {fe:DE} (S:CompSc X scope) (hc:X.calm=true) (hi:PI X tg iter (dI X.K F fs))
    (hN:N'.length=n + cap.length) (hcap:∀ (k:Nat) (j:Nat),cap[k]?=some j→∃ x,N'[n + k]?=some x∧X.N[j]?=some x∧(x,NameKind.free) ∈ scope.names)
    (hg:∀ C s₃ H₃ fp pins,PG (blk X N' scope C s₃ H₃ fp pins) tg g) (hk:∀ F',TgOk X.K F' g kt) (ht:∀ C s₃ H₃ fp pins F',PTs (blk X N' scope C s₃ H₃ fp pins) ifs (dT X.K F' ft)) (he:∀ C s₃ H₃ fp pins F',PE (blk X N' scope C s₃ H₃ fp pins) elt (dE X.K F' fe))
    (hs:∀ x,foldedSetIterable iter X.env x=pure x:=by intro _; rfl):PE X (.ListComp elt [⟨tg,iter,ifs,0⟩] scope pos) (dE X.K F (dComp n cap fs kt ft fe)) :=
  PE.imp (pe_comp (g:=g) S hc hi hN hcap hg (fun C s₃ H₃ fp pins pins' s σ H Q I ⟨F',q⟩=>ht C s₃ H₃ fp pins F' pins' s σ H Q I q) (fun C s₃ H₃ fp pins pins' s σ H Q I ⟨F',q⟩=>he C s₃ H₃ fp pins F' pins' s σ H Q I q) hs) fun _ _ _ h=>tcomp_of hk h
def compOk (names:List (Str × NameKind)) (kind:Str→Option NameKind):Bool:=names.all fun y=>(y.2 != .free || kind y.1 == some .cell || kind y.1 == some .free) && (names.lookup y.1 == some y.2)
theorem compSc {X:Cx} {scope:Scope} (hk:scope.kind = .function:=by rfl) (h:compOk scope.names X.env.kindOf=true:=by rfl):CompSc X scope:=by
  have h':=List.all_eq_true.mp h
  refine ⟨hk,fun y hy hf=>?_,fun y hy=>?_⟩
  · have:=h' y hy
    simp only [Bool.and_eq_true,Bool.or_eq_true,bne_iff_ne,beq_iff_eq] at this
    rcases this.1 with (z | z) | z
    · exact absurd hf z
    · exact .inl z
    · exact .inr z
  · have:=h' y hy
    simp only [Bool.and_eq_true,beq_iff_eq] at this
    exact this.2
def capOk (N' N:List Str) (n:Nat) (names:List (Str × NameKind)):Nat→List Nat→Bool
  | _,[]=>true
  | k,j :: js=>(match N'[n + k]?,N[j]? with
    | some x,some y=>x == y && names.any fun z=>z.1 == x && z.2 == .free
    | _,_=>false) && capOk N' N n names (k + 1) js
theorem capOk_of {N' N:List Str} {n:Nat} {names:List (Str × NameKind)}:∀ {cap:List Nat} {k0:Nat},capOk N' N n names k0 cap=true→∀ (k j:Nat),cap[k]?=some j→∃ x,N'[n + (k0 + k)]?=some x∧N[j]?=some x∧(x,NameKind.free) ∈ names
  | [],k0,_,k,j,e=>by simp at e
  | i :: js,k0,h,k,j,e=>by
    unfold capOk at h
    rw [Bool.and_eq_true] at h
    cases k with
    | zero =>
      simp at e
      subst e
      have h1:=h.1
      split at h1
      · rename_i x y z1 z2
        rw [Bool.and_eq_true,beq_iff_eq,List.any_eq_true] at h1
        obtain ⟨e1,w,w1,w2⟩:=h1
        rw [Bool.and_eq_true,beq_iff_eq,beq_iff_eq] at w2
        obtain ⟨a,b⟩:=w
        simp only at w2
        rw [w2.1,w2.2] at w1
        exact ⟨x,by simpa using z1,by rw [z2,e1],w1⟩
      · cases h1
    | succ k =>
      obtain ⟨x,a,b,c⟩:=capOk_of h.2 k j (by simpa using e)
      exact ⟨x,by rw [show k0 + (k + 1)=k0 + 1 + k by omega]; exact a,b,c⟩
theorem ped_compr {X:Cx} {F:List Addr} {elt tg iter:Expr} {ifs:List Expr} {scope:Scope} {pos:Pos} {fs:DI} {g:TG} {kt:D→Th→Option Th} {ft:DT} {fe:DE} (n:Nat) (cap:List Nat) (N':List Str) (hc:X.calm=true) (hi:PI X tg iter (dI X.K F fs))
    (hg:∀ C s₃ H₃ fp pins,PG (blk X N' scope C s₃ H₃ fp pins) tg g) (hk:∀ F',TgOk X.K F' g kt) (ht:∀ C s₃ H₃ fp pins F',PTs (blk X N' scope C s₃ H₃ fp pins) ifs (dT X.K F' ft)) (he:∀ C s₃ H₃ fp pins F',PE (blk X N' scope C s₃ H₃ fp pins) elt (dE X.K F' fe))
    (hkd:scope.kind = .function:=by rfl) (hcs:compOk scope.names X.env.kindOf=true:=by rfl) (hN:N'.length=n + cap.length:=by rfl) (hcap:capOk N' X.N n scope.names 0 cap=true:=by rfl)
    (hs:∀ x,foldedSetIterable iter X.env x=pure x:=by intro _; rfl):PE X (.ListComp elt [⟨tg,iter,ifs,0⟩] scope pos) (dE X.K F (dComp n cap fs kt ft fe)) :=
  ped_comp (compSc hkd hcs) hc hi hN (fun k j e=>by simpa using capOk_of hcap k j e) hg hk ht he hs
def kIn:Ev→Ev→Option Ev:=fun r1 r2=>match r2.d with
  | .lst ds=>if scD r1.d && ds.all (fun d=>scD d && eqOk 0 d r1.d) then some (.cl (.bl (ds.any fun d=>eqD d r1.d))) else none
  | .tup ds=>if scD r1.d && ds.all (fun d=>scD d && eqOk 0 d r1.d) then some (.cl (.bl (ds.any fun d=>eqD d r1.d))) else none
  | _=>none
section
variable {X:Cx} {F:List Addr} {a b c:Expr} {es:List Expr} {fa fb fc:DE} {pos:Pos}
def k2I (f:Int→Int→Int):List Ev→Option Ev:=fun rs=>match rs with
  | [r1,r2]=>(match r1.d,r2.d with
    | .int i, .int j=>some (.cl (.int (f i j)))
    | _,_=>none)
  | _=>none
theorem cd_2I {v:Value} {f:Int→Int→Int} (h:CallR X v (fun xs H Q => ∃ i j,xs=[.int i, .int j]∧Q (.int (f i j)) H)):CallD X F v (k2I f):=CallD.of h fun H0 H A xs rs e Q m g q ek hq=>by
  unfold k2I at ek
  split at ek
  · rename_i r1 r2
    cases q with
    | cons q1 q' =>
      cases q' with
      | cons q2 q3 =>
        cases q3
        split at ek
        · rename_i i j z1 z2
          cases ek
          have p1:=q1.full
          have p2:=q2.full
          rw [z1] at p1; rw [z2] at p2
          cases rep_int p1; cases rep_int p2
          exact ⟨i,j,rfl,hq _ H (Same.refl H) (.int _)⟩
        · cases ek
  · cases ek
theorem cd_max (hc:X.calm=true):CallD X F (.builtin "max") (k2I fun i j=>if j > i then j else i):=cd_2I (call_max2 hc)
def kSetI (t:Th) (i:Nat) (r k:Ev):Option Out:=match t[i]?,k.d with
  | some (.own xs), .int n=>if r.ok then (ixN xs.length n).map fun j => .nx (t.set i (.own (xs.set j r.d))) else none
  | _,_=>none
def dSetI (i:Nat) (fk fv:DE):DS:=fun t=>(fv t).bind fun r=>(fk t).bind fun k=>kSetI t i r k
theorem psd_seti (i:Nat) {x:Str} {p0 tpos:Pos} (hb:PE X b (dE X.K F fb)) (he:PE X a (dE X.K F fa)) (hN:X.N[i]?=some x:=by rfl) (hv:Vis X.env.scope x:=by first | exact Or.inl rfl | exact Or.inr (Or.inl rfl) | exact Or.inr (Or.inr rfl)) (hd:(x == ("__debug__":Str))=false:=by decide)
    (hcd:(x == ("__classdict__":Str))=false:=by decide)
    (ha:∀ v,assign (.Subscript (.Name x p0) b tpos) X.env v=(do
      let ov ← holding [v] (eval (.Name x p0) X.env)
      let iv ← holding [v,ov] (eval b X.env)
      standAt tpos
      holding [v,ov,iv] (setItem ov iv v)
      release [v,ov,iv] []):=by intro _; rfl)
    (hs:swapsWithSole [.Subscript (.Name x p0) b tpos] a pos.line X.env=pure false:=by rfl) (hw:swappedStores [.Subscript (.Name x p0) b tpos] a X.env=pure none:=by rfl)
    (h1:(assignEach [.Subscript (.Name x p0) b tpos] X.env).map (·.2)=[assign (.Subscript (.Name x p0) b tpos) X.env]:=by rfl) :
    PS X (.Assign [.Subscript (.Name x p0) b tpos] a pos) (dS X.K F (dSetI i fb fa)):=by
  refine PS.imp (ps_asg he (pg_sub (pe_var (i:=i) hN hv hd hcd) hb set_list ha) hs hw h1) ?_
  rintro E σ H ⟨A,t,o,R,e,h⟩
  unfold dSetI at e
  cases e1:fa t with
  | none=>rw [e1] at e; cases e
  | some r =>
    cases e2:fb t with
    | none=>rw [e1,e2] at e; cases e
    | some kk =>
      rw [e1,e2] at e
      have e:kSetI t i r kk=some o:=e
      unfold kSetI at e
      split at e
      case h_2=>cases e
      rename_i xs n z1 z2
      split at e
      case isFalse=>cases e
      rename_i ok
      cases e3:ixN xs.length n with
      | none=>rw [e3] at e; cases e
      | some j =>
        rw [e3] at e
        cases e
        obtain ⟨p,vs,a1,a2,a3,a4⟩:=R.rel.getOwn z1
        refine ⟨A,t,r,R,e1,fun y H1 gs1 q1=>⟨_,a1,A,t,kk,R.grow gs1,e2,fun w H2 gs2 q2=>?_⟩⟩
        have p2:=q2.full
        rw [z2] at p2
        cases rep_int p2
        have gs:=gs1.trans gs2
        refine ⟨p,vs,n,j,rfl,rfl,gs _ _ a3,by rw [a4.length]; exact e3,?_⟩
        obtain ⟨R',g'⟩:=(R.grow gs).write (es:=xs.set j r.d) (ws:=vs.set j y) z1 a1 (Reps.set ((q1.mono gs2).clean R.mu gs ok) j (Reps.mono (same_hide gs) a4))
        exact h _ _ _ ((Gr.of_same R.mu.left gs).trans g') R'
end
end DL
namespace DL
open PySem PySem.Spec PyProof.Rows L2
section
variable {X:Cx} {F:List Addr} {a b c:Expr} {es:List Expr} {fa fb fc:DE} {g:DS} {pos:Pos} {tg:Expr} {gt:TG} {kt:D→Th→Option Th}
def dCh (k k':Ev→Ev→Option Ev) (fa fb fc:DE):DT:=fun t=>(fa t).bind fun r1=>(fb t).bind fun r2=>(k r1 r2).bind fun r=>match r.d with
  | .bl true=>(fc t).bind fun r3=>(k' r2 r3).bind fun r'=>match r'.d with
    | .bl z=>some z
    | _=>none
  | .bl false=>some false
  | _=>none
def rK (X:Cx) (F:List Addr) (k:Ev→Ev→Option Ev) (A:List Addr) (H0:Hp):R2:=fun x y H Q=>Lists H0 (A ++ F)∧Same H0 H∧∃ r1 r2 r,RepEv X.K F A H0 H r1 x∧RepEv X.K F A H0 H r2 y∧k r1 r2=some r∧∀ z H',Same H H'→RepEv X.K F A H0 H' r z→Q z H'
theorem OpD.toR {f:Value→Value→Sem Value} {k:Ev→Ev→Option Ev} (h:OpD X F f k) (A:List Addr) (H0:Hp):OpR X f (rK X F k A H0) :=
  fun pins s σ H x y v u Q I rx ry ⟨m,gs,r1,r2,r,q1,q2,e,hq⟩=>h pins s σ H0 H A x y v u Q r1 r2 r I m gs rx ry q1 q2 e hq
theorem ptd_chain {op op':CmpOp} {k k':Ev→Ev→Option Ev} (ho:OpD X F (compareOp op) k) (ho':OpD X F (compareOp op') k') (ha:PE X a (dE X.K F fa)) (hb:PE X b (dE X.K F fb)) (hc:PE X c (dE X.K F fc))
    (hm:lastMarks [op,op'] [b,c]=false:=by with_unfolding_all rfl):PT X (.Compare a [op,op'] [b,c] pos) (dT X.K F (dCh k k' fa fb fc)):=by
  intro pins s σ H Q I h
  obtain ⟨A,t,bb,R,e,h⟩:=h
  refine pt_chain (ho.toR A H) (ho'.toR A H) ha hb hc hm pins s σ H Q I ?_
  unfold dCh at e
  cases e1:fa t with
  | none=>rw [e1] at e; cases e
  | some r1 =>
    cases e2:fb t with
    | none=>rw [e1,e2] at e; cases e
    | some r2 =>
      cases e3:k r1 r2 with
      | none=>rw [e1,e2] at e; simp only [Option.bind_some,e3] at e; cases e
      | some r =>
        rw [e1,e2] at e
        simp only [Option.bind_some,e3] at e
        refine ⟨A,t,r1,R,e1,fun x H1 gs1 q1=>⟨A,t,r2,R.grow gs1,e2,fun y H2 gs2 q2=>?_⟩⟩
        have gs:=gs1.trans gs2
        refine ⟨R.mu,gs,r1,r2,r,q1.mono gs2,q2.back gs1,e3,fun z H3 gs3 q3=>?_⟩
        have p:=q3.full
        split at e
        · rename_i zz
          rw [zz] at p
          cases p
          refine ⟨true,rfl,iteT ?_⟩
          cases e4:fc t with
          | none=>rw [e4] at e; cases e
          | some r3 =>
            rw [e4] at e
            simp only [Option.bind_some] at e
            cases e5:k' r2 r3 with
            | none=>rw [e5] at e; cases e
            | some r' =>
              rw [e5] at e
              simp only [Option.bind_some] at e
              refine ⟨A,t,r3,(R.grow gs).grow gs3,e4,fun w H4 gs4 q4=>⟨R.mu,(gs.trans gs3).trans gs4,r2,r3,r',(q2.back gs1).mono (gs3.trans gs4),q4.back (gs.trans gs3),e5,fun z2 H5 gs5 q5=>?_⟩⟩
              have p5:=q5.full
              split at e
              · rename_i z3 zz3
                cases e
                rw [zz3] at p5
                cases p5
                exact ⟨_,rfl,h H5 (((gs.trans gs3).trans gs4).trans gs5)⟩
              · cases e
        · rename_i zz
          rw [zz] at p
          cases p
          cases e
          exact ⟨false,rfl,iteF ⟨false,rfl,h H3 (gs.trans gs3)⟩⟩
        · cases e
end
end DL
namespace DL
open PySem PySem.Spec PyProof.Rows L2
def intsD:List D→Option (List Int)
  | []=>some []
  | .int i :: r=>(intsD r).map fun ns=>i :: ns
  | _ :: _=>none
theorem intsD_eq:∀ {ds:List D} {ns:List Int},intsD ds=some ns→ds=ns.map D.int
  | [],ns,e=>by cases e; rfl
  | .int i :: r,ns,e=>by
    unfold intsD at e
    cases e1:intsD r with
    | none=>rw [e1] at e; cases e
    | some m=>rw [e1] at e; cases e; rw [intsD_eq e1]; rfl
  | .non :: r,ns,e=>by cases e
  | .bl _ :: r,ns,e=>by cases e
  | .str _ :: r,ns,e=>by cases e
  | .tup _ :: r,ns,e=>by cases e
  | .lst _ :: r,ns,e=>by cases e
theorem intsD_map (ns:List Int):intsD (ns.map D.int)=some ns:=by
  induction ns with
  | nil=>rfl
  | cons n r ih=>simp [intsD,ih]
theorem reps_ints {K:PySem.W.Frag} {H:Hp}:∀ {ns:List Int} {vs:List V},Reps K H (ns.map D.int) vs→vs=ns.map V.int
  | [],_, .nil=>rfl
  | n :: r,_, .cons h q=>by cases rep_int h; rw [reps_ints q]; rfl
section
variable {X:Cx} {F:List Addr} {a b c:Expr} {es:List Expr} {fa fb fc:DE} {pos:Pos}
theorem call_sum (hc:X.calm=true):CallR X (.builtin "sum") (fun xs H Q => ∃ (p:Addr) (ns:List Int),xs=[.ref p]∧SqL X.K H p (ns.map V.int)∧Q (.int ns.sum) H):=by
  intro pins s σ H xs us Q I r h
  obtain ⟨p,ns,rfl,hs,q⟩:=h
  obtain ⟨u,rfl,ru⟩:=vals1 r
  cases ru
  obtain ⟨its,rv,pl,_⟩:=I.list hs
  have hi:IntsAre its ns:=intsAre_of rv
  obtain ⟨ys,e⟩:=hi.allInts.items
  have hl:s.heap.IsList p (intItems ys):=by rw [← e]; exact PlainL.isL pl
  refine sum_intListG (I.ok.hd hc) hl fun h' tk t' hk=>⟨.int _,H,I.kept (t':=tk) hk,⟨t',rfl⟩,?_⟩
  have en:=nums_intItems ys
  rw [preSum_eq,List.take_of_length_le (by simp)]
  have e2:numsOf (intItems ys).toList=ns:=by rw [← e]; exact hi.numsOf
  rw [← nums_intItems,e2]
  exact q
def kSum:List Ev→Option Ev:=fun rs=>match rs with
  | [r]=>(match r.d with
    | .lst ds=>(intsD ds).map fun ns => .cl (.int ns.sum)
    | _=>none)
  | _=>none
theorem cd_sum (hc:X.calm=true):CallD X F (.builtin "sum") kSum:=CallD.of (call_sum hc) fun H0 H A xs rs e Q m g q ek hq=>by
  unfold kSum at ek
  split at ek
  · rename_i r
    cases q with
    | cons q1 q2 =>
      cases q2
      split at ek
      · rename_i ds z
        cases e1:intsD ds with
        | none=>rw [e1] at ek; cases ek
        | some ns =>
          rw [e1] at ek
          cases ek
          have p:=q1.full
          rw [z,intsD_eq e1] at p
          cases p with
          | lst h1 h2 =>
            rw [reps_ints h2] at h1
            exact ⟨_,ns,rfl,h1,hq _ H (Same.refl H) (.int _)⟩
      · cases ek
  · cases ek
end
end DL
namespace DL
open PySem PySem.Spec PyProof.Rows L2
theorem eqD_int (i j:Int):eqD (.int i) (.int j)=decide (i=j):=by
  rw [Bool.eq_iff_iff,eqD_true]; simp
theorem sm_iff {i:Int}:sm i=true ↔ i.natAbs < bnd:=by simp [sm]
theorem sm_lt {i:Int} (h:i.natAbs < 2 ^ 256):sm i=true:=sm_iff.mpr (Nat.lt_of_lt_of_le h (by unfold bnd; exact Nat.pow_le_pow_right (by decide) (by decide)))
theorem sm_of {i:Int} (h1 : -10000000000000000000000000000000000000000000000000000000000000000000000000000 < i) (h2:i < 10000000000000000000000000000000000000000000000000000000000000000000000000000):sm i=true:=by
  apply sm_lt
  have:(2:Nat) ^ 256=115792089237316195423570985008687907853269984665640564039457584007913129639936:=by decide
  omega
theorem fmod_pos {a b:Int} (h:0 < b):0 ≤ a.fmod b∧a.fmod b < b:=by
  rw [Int.fmod_eq_emod_of_nonneg a (by omega)]
  exact ⟨Int.emod_nonneg a (by omega),Int.emod_lt_of_pos a h⟩
theorem seq_nx {g1 g2:DS} {t t':Th} (h:g1 t=some (.nx t')):dSeq g1 g2 t=g2 t':=by simp [dSeq,h]
theorem seq_rt {g1 g2:DS} {t:Th} {r:Ev} (h:g1 t=some (.rt r)):dSeq g1 g2 t=some (.rt r):=by simp [dSeq,h]
theorem RepDs.length {K:PySem.W.Frag} {H0 H:Hp}:∀ {ds:List D} {vs:List V} {B:List Addr},RepDs K H0 H ds vs B→vs.length=ds.length
  | _,_,_, .nil=>rfl
  | _,_,_, .cons _ r=>by simp [RepDs.length r]
theorem RSl.focusDp {K:PySem.W.Frag} {H0 H:Hp}:∀ {t:Th} {σ:L2.St} {A:List Addr},RSl K H0 H t σ A→A.Nodup→∀ {i:Nat} {d:D},t[i]?=some (.dp d)→∃ v B,σ[i]?=some (some v)∧(∀ b ∈ B,b ∈ A)∧B.Nodup∧RepD K H0 H d v B ∧
    ∀ H0' H' d2 B2,Same H0 H0'→RepD K H0' H' d2 v B2→B2.Sublist B→(∀ q ∈ A,q ∉ B→∀ o,H q=some o→H' q=some o)→∃ A2,RSl K H0' H' (t.set i (.dp d2)) σ A2∧A2.Sublist A
  | _,_,_, .nil,n,i,d,e=>by simp at e
  | _,_,_, .no r,n,0,d,e=>by simp at e
  | _,_,_, .no r,n,i + 1,d,e=>by
    obtain ⟨v,B,a,b,n',c,k⟩:=RSl.focusDp r n (i:=i) (d:=d) (by simpa using e)
    refine ⟨v,B,by simpa using a,b,n',c,fun H0' H' d2 B2 s q sb w=>?_⟩
    obtain ⟨A2,x,y⟩:=k H0' H' d2 B2 s q sb w
    exact ⟨A2, .no x,y⟩
  | _,_,_, .val (v:=v) h r,n,0,d,e=>by simp at e
  | _,_,_, .val h r,n,i + 1,d,e=>by
    obtain ⟨v,B,a,b,n',c,k⟩:=RSl.focusDp r n (i:=i) (d:=d) (by simpa using e)
    refine ⟨v,B,by simpa using a,b,n',c,fun H0' H' d2 B2 s q sb w=>?_⟩
    obtain ⟨A2,x,y⟩:=k H0' H' d2 B2 s q sb w
    exact ⟨A2, .val (Rep.mono s h) x,y⟩
  | _,_,_, .own _ _ r,n,0,d,e=>by simp at e
  | _,_,_, .own (p:=p) h1 h2 r,n,i + 1,d,e=>by
    have n0:=List.nodup_cons.mp n
    obtain ⟨v,B,a,b,n',c,k⟩:=RSl.focusDp r n0.2 (i:=i) (d:=d) (by simpa using e)
    refine ⟨v,B,by simpa using a,fun x hx=>List.mem_cons_of_mem _ (b x hx),n',c,fun H0' H' d2 B2 s q sb w=>?_⟩
    obtain ⟨A2,x,y⟩:=k H0' H' d2 B2 s q sb (fun q hq=>w q (List.mem_cons_of_mem _ hq))
    exact ⟨p :: A2, .own (w p (List.mem_cons_self ..) (fun z=>n0.1 (b p z)) _ h1) (Reps.mono s h2) x,y.cons₂ _⟩
  | _,_,_, .dp (v:=v) (B:=B) h r,n,0,d,e=>by
    simp at e; subst e
    have n0:=List.nodup_append.mp n
    refine ⟨v,B,rfl,fun x hx=>List.mem_append_left _ hx,n0.1,h,fun H0' H' d2 B2 s q sb w=>?_⟩
    exact ⟨_, .dp q (RSl.mono s r fun p hp=>w p (List.mem_append_right _ hp) fun z=>n0.2.2 p z p hp rfl),List.Sublist.append sb (List.Sublist.refl _)⟩
  | _,_,_, .dp (B:=C) h r,n,i + 1,d,e=>by
    have n0:=List.nodup_append.mp n
    obtain ⟨v,B,a,b,n',c,k⟩:=RSl.focusDp r n0.2.1 (i:=i) (d:=d) (by simpa using e)
    refine ⟨v,B,by simpa using a,fun x hx=>List.mem_append_right _ (b x hx),n',c,fun H0' H' d2 B2 s q sb w=>?_⟩
    obtain ⟨A2,x,y⟩:=k H0' H' d2 B2 s q sb (fun q hq=>w q (List.mem_append_right _ hq))
    exact ⟨C ++ A2, .dp (RepD.mono s h fun p hp=>w p (List.mem_append_left _ hp) fun z=>n0.2.2 p hp p (b p z) rfl) x,List.Sublist.append (List.Sublist.refl _) y⟩
abbrev DN:=Th→Option (D × List Nat)
abbrev DNs:=Th→Option (List D × List Nat)
section
variable {X:Cx} {F:List Addr} {a b c o:Expr} {es:List Expr} {fa fb fc:DE} {fs:List DE} {ga:DA} {g g1 g2:DS} {ft fu:DT} {pos:Pos} {st:Stmt} {rest:List Stmt} {tg:Expr} {gt:TG} {kt:D→Th→Option Th}
theorem rep_bl {K:PySem.W.Frag} {H:Hp} {p:Bool} {v:V} (h:Rep K H (.bl p) v):v = .bl p:=by cases h; rfl
def kRep:Ev→Ev→Option Ev:=fun r1 r2=>match r1,r2.d with
  | .nw xs, .int k=>if xs.length ≤ 100 && decide (-1000000 ≤ k∧k ≤ 1000) then some (.nw (List.replicate k.toNat xs).flatten) else none
  | _,_=>none
theorem Reps.rep {K:PySem.W.Frag} {H:Hp} {ds:List D} {vs:List V} (r:Reps K H ds vs):∀ k:Nat,Reps K H (List.replicate k ds).flatten (List.replicate k vs).flatten
  | 0=>by simpa using .nil
  | k + 1=>by simpa [List.replicate_succ] using r.app (Reps.rep r k)
theorem od_rep:OpD X F (binaryOp .Mult) kRep:=by
  intro pins s σ H0 H A x y v u Q r1 r2 r I m g0 rx ry q1 q2 e hq
  unfold kRep at e
  split at e
  · rename_i xs k z
    split at e
    · rename_i ok
      simp only [Bool.and_eq_true,decide_eq_true_eq] at ok
      cases e
      have p2:=q2.full
      rw [z] at p2
      cases rep_int p2
      obtain ⟨p,vs,rfl,h1,h2,h3⟩:=q1
      refine op_rep pins s σ H _ _ v u Q I rx ry ⟨p,k,vs,rfl,rfl,h2,by omega,by omega,?_,fun l hl=>hq _ _ (upd_sameH hl) ⟨l,_,rfl,Same.free g0 hl,upd_same,Reps.mono (hide_upd hl) (Reps.rep (Reps.mono (hide_less H fun a z=>List.mem_cons_of_mem _ z) h3) _)⟩⟩
      refine le_line ?_
      rw [h3.length]
      have h5:k.toNat ≤ 1000:=by omega
      exact Nat.le_trans (Nat.mul_le_mul ok.1 h5) (by decide)
    · cases e
  · cases e
def blsD:List D→Option (List Bool)
  | []=>some []
  | .bl i :: r=>(blsD r).map fun ns=>i :: ns
  | _ :: _=>none
theorem blsD_eq:∀ {ds:List D} {ns:List Bool},blsD ds=some ns→ds=ns.map D.bl
  | [],ns,e=>by cases e; rfl
  | .bl i :: r,ns,e=>by
    unfold blsD at e
    cases e1:blsD r with
    | none=>rw [e1] at e; cases e
    | some m=>rw [e1] at e; cases e; rw [blsD_eq e1]; rfl
  | .non :: r,ns,e=>by cases e
  | .int _ :: r,ns,e=>by cases e
  | .str _ :: r,ns,e=>by cases e
  | .tup _ :: r,ns,e=>by cases e
  | .lst _ :: r,ns,e=>by cases e
theorem reps_bls {K:PySem.W.Frag} {H:Hp}:∀ {ns:List Bool} {vs:List V},Reps K H (ns.map D.bl) vs→vs=ns.map V.bl
  | [],_, .nil=>rfl
  | n :: r,_, .cons h q=>by cases rep_bl h; rw [reps_bls q]; rfl
theorem bools_of:∀ {bs:List Bool} {its:List Value},Vals (bs.map V.bl) its→LSm.BoolsAre its bs
  | [],its,h=>by cases h; exact .nil
  | b :: bs,its,h=>by
    cases h with
    | cons r rr=>cases r; exact .cons b (bools_of rr)
theorem call_all_bools (hc:X.calm=true):CallR X (.builtin "all") (fun xs H Q => ∃ (p:Addr) (bs:List Bool),xs=[.ref p]∧SqL X.K H p (bs.map V.bl)∧Q (.bl (bs.all id)) H):=by
  intro pins s σ H xs us Q I r h
  obtain ⟨p,bs,rfl,hs,q⟩:=h
  obtain ⟨u,rfl,ru⟩:=vals1 r
  cases ru
  obtain ⟨its,rv,pl,_⟩:=I.list hs
  have hb:=bools_of rv
  have hl:=PlainL.isL pl
  have hlt:p < s.heap.objs.size:=by obtain ⟨_,e,_⟩:=hl; exact Heap.lt_size e
  refine call_all_walk (wpAny_pyIter_list hl ⟨s.heap.objs.size,[s.heap.objs.size,p],[s.heap.objs.size],its.toArray.size,_,_,fun i=>(bs[i]?).getD true,rfl,
    Walks.list (A:=X.A.in1) (I.ok.hd hc) _ p (Nat.ne_of_lt hlt) its.toArray,⟨⟨_,Heap.get?_push_size _ rfl,rfl,rfl⟩,hl.push _⟩,fun i v s' Q' E' hP hQ=>?_,fun h' tk hk=>?_⟩)
  · obtain ⟨b,e,rfl⟩:=hb.get i v (by simpa using hP)
    have hQ:Q' ((bs[i]?).getD true) s':=hQ
    rw [e] at hQ
    exact wpAny_truthy_bool hQ
  · have e:((List.range its.toArray.size).all fun i=>(bs[i]?).getD true)=bs.all id:=by
      rw [List.size_toArray,hb.length,LSm.range_all]
    refine ⟨.bl _,H,I.kept (t':=tk) (LSm.kept_iter hk),rfl,?_⟩
    rw [e]; exact q
def kBls (f:List Bool→Bool):List Ev→Option Ev:=fun rs=>match rs with
  | [r]=>(match r.d with
    | .lst ds=>(blsD ds).map fun bs => .cl (.bl (f bs))
    | _=>none)
  | _=>none
theorem cd_bls {id':String} {f:List Bool→Bool} (h:CallR X (.builtin id') (fun xs H Q => ∃ (p:Addr) (bs:List Bool),xs=[.ref p]∧SqL X.K H p (bs.map V.bl)∧Q (.bl (f bs)) H)):CallD X F (.builtin id') (kBls f):=by
  refine CallD.of h fun H0 H A xs rs e Q m g q ek hq=>?_
  unfold kBls at ek
  split at ek
  case h_2=>cases ek
  rename_i r
  cases q with
  | @cons _ v _ vs q1 q2 =>
    cases q2
    split at ek
    case h_2=>cases ek
    rename_i ds z
    cases e1:blsD ds with
    | none=>rw [e1] at ek; cases ek
    | some bs =>
      rw [e1] at ek
      cases ek
      have p:=q1.full
      rw [z,blsD_eq e1] at p
      cases p with
      | @lst _ l us h1 h2 =>
        have:=reps_bls h2
        subst this
        exact ⟨l,bs,rfl,h1,hq _ H (Same.refl H) (.bl _)⟩
end
end DL
namespace DL
open PySem PySem.Spec PyProof.Rows L2
def rng3Ok (a b c:Int):Bool:=Builtin.Range.small a b c && decide (c ≠ 0∧c.natAbs < 1000000∧0 ≤ Builtin.Range.rangeSize a b c)
def rng3 (a b c:Int):List D:=(List.range (Builtin.Range.rangeSize a b c).toNat).map fun i => .int (a + (i:Nat) * c)
def mkG (k:Nat) (N:List Str) (g:DS):List D→Option Ev:=fun ds=>if ds.length=k then (g (startD N ds)).bind outEv else none
theorem mkG_len {k:Nat} {N:List Str} {g:DS} {ds:List D} {r:Ev} (e:mkG k N g ds=some r):ds.length=k:=by
  unfold mkG at e
  split at e
  · assumption
  · cases e
theorem mkG_ok {k:Nat} {N:List Str} {g:DS} {ds:List D} {r:Ev} (e:mkG k N g ds=some r):∃ o,g (startD N ds)=some o∧outEv o=some r:=by
  unfold mkG at e
  split at e
  · cases e1:g (startD N ds) with
    | none=>rw [e1] at e; cases e
    | some o=>rw [e1] at e; exact ⟨o,rfl,e⟩
  · cases e
section
variable {X:Cx} {F:List Addr} {elt tg iter:Expr} {ifs:List Expr} {scope:Scope} {pos spos py:Pos} {fs:DI} {g:TG} {kt:D→Th→Option Th} {ft:DT} {fe fc:DE} {i:Nat} {y:Str}
theorem compU {n:Nat} {cap:List Nat} {N':List Str} (up:∀ {σ:L2.St} {H:Hp} {Q:VK},dE X.K F fc σ H Q→tComp n cap (dI X.K F fs) g (fun σ H Q => ∃ F',dT X.K F' ft σ H Q) (fun σ H Q => ∃ F',dE X.K F' fe σ H Q) σ H Q) (hc:X.calm=true) (hi:PI X tg iter (dI X.K F fs))
    (hg:∀ C s₃ H₃ fp pins,PG (blk X N' scope C s₃ H₃ fp pins) tg g) (ht:∀ C s₃ H₃ fp pins F',PTs (blk X N' scope C s₃ H₃ fp pins) ifs (dT X.K F' ft)) (he:∀ C s₃ H₃ fp pins F',PE (blk X N' scope C s₃ H₃ fp pins) elt (dE X.K F' fe))
    (hNd:X.N.Nodup) (hi₀:X.N[i]?=some y) (hy:Loc X.env.scope y) (hsw:swapsWith (.ListComp elt [⟨tg,iter,ifs,0⟩] scope pos) (some (.Name y py)) spos.line X.env=pure true) (hf:X.fn y=true ∨ X.env.scope.names.lookup y=some .local)
    (hkd:scope.kind = .function) (hcs:compOk scope.names X.env.kindOf=true) (hN:N'.length=n + cap.length) (hcap:capOk N' X.N n scope.names 0 cap=true) (hs:∀ x,foldedSetIterable iter X.env x=pure x) :
    PS X (.Assign [.Name y py] (.ListComp elt [⟨tg,iter,ifs,0⟩] scope pos) spos) (dS X.K F (dAsg i fc)):=by
  refine PS.imp (ps_compU (g:=g) (wi:=dI X.K F fs) (tt:=fun σ H Q => ∃ F',dT X.K F' ft σ H Q) (te:=fun σ H Q => ∃ F',dE X.K F' fe σ H Q) (compSc hkd hcs) hc hi hN (fun k j e=>by simpa using capOk_of hcap k j e) hg (fun C s₃ H₃ fp pins pins' s σ H Q I ⟨F',q⟩=>ht C s₃ H₃ fp pins F' pins' s σ H Q I q) (fun C s₃ H₃ fp pins pins' s σ H Q I ⟨F',q⟩=>he C s₃ H₃ fp pins F' pins' s σ H Q I q) hNd hi₀ hy hsw hf hs) ?_
  rintro E σ H ⟨A,t,o,R,e,h⟩
  unfold dAsg at e
  cases e1:fc t with
  | none=>rw [e1] at e; cases e
  | some r1 =>
    rw [e1] at e
    have e:(setSl t i r1).map Out.nx=some o:=e
    cases e2:setSl t i r1 with
    | none=>rw [e2] at e; cases e
    | some t' =>
      rw [e2] at e
      cases e
      refine up ⟨A,t,r1,R,e1,fun v H' gs q=>?_⟩
      obtain ⟨A',g',R'⟩:=R.put gs q e2
      exact h _ _ _ g' R'
theorem psd_setC (n:Nat) (cap:List Nat) (N':List Str) (hNd:X.N.Nodup) (hi₀:X.N[i]?=some y) (hy:Loc X.env.scope y) (hc:X.calm=true) (hi:PI X tg iter (dI X.K F fs))
    (hg:∀ C s₃ H₃ fp pins,PG (blk X N' scope C s₃ H₃ fp pins) tg g) (hk:∀ F',TgOk X.K F' g kt) (ht:∀ C s₃ H₃ fp pins F',PTs (blk X N' scope C s₃ H₃ fp pins) ifs (dT X.K F' ft)) (he:∀ C s₃ H₃ fp pins F',PE (blk X N' scope C s₃ H₃ fp pins) elt (dE X.K F' fe))
    (hsw:swapsWith (.ListComp elt [⟨tg,iter,ifs,0⟩] scope pos) (some (.Name y py)) spos.line X.env=pure true:=by rfl) (hf:X.fn y=true ∨ X.env.scope.names.lookup y=some .local:=by first | exact .inl rfl | exact .inr rfl)
    (hkd:scope.kind = .function:=by rfl) (hcs:compOk scope.names X.env.kindOf=true:=by rfl) (hN:N'.length=n + cap.length:=by rfl) (hcap:capOk N' X.N n scope.names 0 cap=true:=by rfl)
    (hs:∀ x,foldedSetIterable iter X.env x=pure x:=by intro _; rfl):PS X (.Assign [.Name y py] (.ListComp elt [⟨tg,iter,ifs,0⟩] scope pos) spos) (dS X.K F (dAsg i (dComp n cap fs kt ft fe))) :=
  compU (fun h=>tcomp_of hk h) hc hi hg ht he hNd hi₀ hy hsw hf hkd hcs hN hcap hs
end
end DL
namespace DL
open PySem PySem.Spec PyProof.Rows L2
section
variable {X:Cx} {F:List Addr} {a b c o:Expr} {es:List Expr} {fa fb fc:DE} {fs:List DE} {ga:DA} {g g1 g2:DS} {ft fu:DT} {pos:Pos} {st:Stmt} {rest:List Stmt} {tg:Expr} {gt:TG} {kt:D→Th→Option Th}
def leastI:Int→List Int→Int
  | m,[]=>m
  | m,n :: r=>leastI (if n < m then n else m) r
def mostI:Int→List Int→Int
  | m,[]=>m
  | m,n :: r=>mostI (if m < n then n else m) r
theorem leastI_ok:∀ (r:List Int) (m:Int),leastI m r ∈ m :: r∧∀ a ∈ m :: r,leastI m r ≤ a
  | [],m=>⟨by simp [leastI],by simp [leastI]⟩
  | n :: r,m=>by
    obtain ⟨h1,h2⟩:=leastI_ok r (if n < m then n else m)
    have h3:=h2 (if n < m then n else m) (List.mem_cons_self ..)
    have k1:(if n < m then n else m) ≤ m:=by split <;> omega
    have k2:(if n < m then n else m) ≤ n:=by split <;> omega
    refine ⟨?_,fun a ha=>?_⟩
    · show leastI (if n < m then n else m) r ∈ m :: n :: r
      rcases List.mem_cons.mp h1 with z | z
      · rw [z]; split <;> simp
      · simp [z]
    · show leastI (if n < m then n else m) r ≤ a
      rcases List.mem_cons.mp ha with z | z
      · subst z; omega
      · rcases List.mem_cons.mp z with w | w
        · subst w; omega
        · exact h2 a (List.mem_cons_of_mem _ w)
theorem mostI_ok:∀ (r:List Int) (m:Int),mostI m r ∈ m :: r∧∀ a ∈ m :: r,a ≤ mostI m r
  | [],m=>⟨by simp [mostI],by simp [mostI]⟩
  | n :: r,m=>by
    obtain ⟨h1,h2⟩:=mostI_ok r (if m < n then n else m)
    have h3:=h2 (if m < n then n else m) (List.mem_cons_self ..)
    have k1:m ≤ (if m < n then n else m):=by split <;> omega
    have k2:n ≤ (if m < n then n else m):=by split <;> omega
    refine ⟨?_,fun a ha=>?_⟩
    · show mostI (if m < n then n else m) r ∈ m :: n :: r
      rcases List.mem_cons.mp h1 with z | z
      · rw [z]; split <;> simp
      · simp [z]
    · show a ≤ mostI (if m < n then n else m) r
      rcases List.mem_cons.mp ha with z | z
      · subst z; omega
      · rcases List.mem_cons.mp z with w | w
        · subst w; omega
        · exact h2 a (List.mem_cons_of_mem _ w)
theorem numAt_mem {ys:Array (Int × Tok)} {j:Nat} (hj:j < ys.size):numAt ys j ∈ ys.toList.map (·.1):=by
  rw [numAt_eq]; exact getD_mem (by simpa using hj)
theorem call_minL (hc:X.calm=true):CallR X (.builtin "min") (fun xs H Q => ∃ (p:Addr) (ns:List Int) (M:Int),xs=[.ref p]∧SqL X.K H p (ns.map V.int)∧M ∈ ns∧(∀ a ∈ ns,M ≤ a)∧Q (.int M) H):=by
  intro pins s σ H xs us Q I r h
  obtain ⟨p,ns,M,rfl,hs,hm,hle,q⟩:=h
  obtain ⟨u,rfl,ru⟩:=vals1 r
  cases ru
  obtain ⟨its,rv,pl,_⟩:=I.list hs
  have hi:IntsAre its ns:=intsAre_of rv
  obtain ⟨ys,e⟩:=hi.allInts.items
  have hl:s.heap.IsList p (intItems ys):=by rw [← e]; exact PlainL.isL pl
  have hns:ys.toList.map (·.1)=ns:=by
    have e2:numsOf (intItems ys).toList=ns:=by rw [← e]; exact hi.numsOf
    rw [← nums_intItems]; exact e2
  have hsz:0 < ys.size:=by
    have:0 < ns.length:=List.length_pos_of_mem hm
    rw [← hns] at this; simpa using this
  refine min_intList (I.ok.hd hc) hl hsz fun v h' tk hv hk=>?_
  obtain ⟨t,rfl⟩:=intItems_at hv
  obtain ⟨h1,h2⟩:=argBest_lt (numAt ys) (ys.size - 1)
  refine ⟨.int M,H,I.kept (t':=tk) hk,⟨t,?_⟩,q⟩
  have a1:=hle _ (hns ▸ numAt_mem (ys:=ys) (j:=argBest (fun i j=>decide (numAt ys i < numAt ys j)) (ys.size - 1)) (by omega))
  rw [← hns] at hm
  obtain ⟨j,hj,ej⟩:=mem_getD hm
  have hj':j < ys.size:=by simpa using hj
  have a2:=h2 j (by omega)
  rw [numAt_eq ys j,ej] at a2
  congr 1
  omega
theorem call_maxL (hc:X.calm=true):CallR X (.builtin "max") (fun xs H Q => ∃ (p:Addr) (ns:List Int) (M:Int),xs=[.ref p]∧SqL X.K H p (ns.map V.int)∧M ∈ ns∧(∀ a ∈ ns,a ≤ M)∧Q (.int M) H):=by
  intro pins s σ H xs us Q I r h
  obtain ⟨p,ns,M,rfl,hs,hm,hle,q⟩:=h
  obtain ⟨u,rfl,ru⟩:=vals1 r
  cases ru
  obtain ⟨its,rv,pl,_⟩:=I.list hs
  have hi:IntsAre its ns:=intsAre_of rv
  obtain ⟨ys,e⟩:=hi.allInts.items
  have hl:s.heap.IsList p (intItems ys):=by rw [← e]; exact PlainL.isL pl
  have hns:ys.toList.map (·.1)=ns:=by
    have e2:numsOf (intItems ys).toList=ns:=by rw [← e]; exact hi.numsOf
    rw [← nums_intItems]; exact e2
  have hsz:0 < ys.size:=by
    have:0 < ns.length:=List.length_pos_of_mem hm
    rw [← hns] at this; simpa using this
  refine max_intList (I.ok.hd hc) hl hsz fun v h' tk hv hk=>?_
  obtain ⟨t,rfl⟩:=intItems_at hv
  obtain ⟨h1,h2⟩:=argBest_gt (numAt ys) (ys.size - 1)
  refine ⟨.int M,H,I.kept (t':=tk) hk,⟨t,?_⟩,q⟩
  have a1:=hle _ (hns ▸ numAt_mem (ys:=ys) (j:=argBest (fun i j=>decide (numAt ys i > numAt ys j)) (ys.size - 1)) (by omega))
  rw [← hns] at hm
  obtain ⟨j,hj,ej⟩:=mem_getD hm
  have hj':j < ys.size:=by simpa using hj
  have a2:=h2 j (by omega)
  rw [numAt_eq ys j,ej] at a2
  congr 1
  omega
end
end DL
namespace DL
open PySem PySem.Spec PyProof.Rows L2
section
variable {X:Cx} {F:List Addr} {a b c o:Expr} {es:List Expr} {fa fb fc:DE} {fs:List DE} {ga:DA} {g g1 g2:DS} {ft fu:DT} {pos:Pos} {st:Stmt} {rest:List Stmt} {tg:Expr} {gt:TG} {kt:D→Th→Option Th}
def kExtr (f:Int→List Int→Int):List Ev→Option Ev:=fun rs=>match rs with
  | [r]=>(match r.d with
    | .lst ds=>(match intsD ds with
      | some (n :: ns)=>some (.cl (.int (f n ns)))
      | _=>none)
    | _=>none)
  | _=>none
theorem cd_extr {id':String} {f:Int→List Int→Int} (h:∀ n ns,CallR X (.builtin id') (fun xs H Q => ∃ p:Addr,xs=[.ref p]∧SqL X.K H p ((n :: ns).map V.int)∧Q (.int (f n ns)) H)):CallD X F (.builtin id') (kExtr f):=by
  intro pins s σ H0 H A xs us Q rs r I m g v q ek hq
  unfold kExtr at ek
  split at ek
  case h_2=>cases ek
  rename_i r0
  cases q with
  | @cons _ y _ ys q1 q2 =>
    cases q2
    split at ek
    case h_2=>cases ek
    rename_i ds z
    split at ek
    case h_2=>cases ek
    rename_i n ns z2
    cases ek
    have p:=q1.full
    rw [z,intsD_eq z2] at p
    cases p with
    | @lst _ l ws h1 h2 =>
      rw [reps_ints h2] at h1
      exact h n ns pins s σ H _ us Q I v ⟨l,rfl,h1,hq _ H (Same.refl H) (.int _)⟩
theorem cd_minL (hc:X.calm=true):CallD X F (.builtin "min") (kExtr leastI) :=
  cd_extr fun n ns pins s σ H xs us Q I v ⟨p,e,h1,q⟩=>call_minL hc pins s σ H xs us Q I v ⟨p,n :: ns,leastI n ns,e,h1,(leastI_ok ns n).1,(leastI_ok ns n).2,q⟩
theorem cd_maxL (hc:X.calm=true):CallD X F (.builtin "max") (kExtr mostI) :=
  cd_extr fun n ns pins s σ H xs us Q I v ⟨p,e,h1,q⟩=>call_maxL hc pins s σ H xs us Q I v ⟨p,n :: ns,mostI n ns,e,h1,(mostI_ok ns n).1,(mostI_ok ns n).2,q⟩
theorem boot_listT:bootBuiltins "list"=some (.type "list"):=by decide +kernel
theorem vals_get:∀ {xs:List V} {us:List Value},xs.length=us.length→(∀ (i:Nat) (x:V) (u:Value),xs[i]?=some x→us[i]?=some u→RelV x u)→Vals xs us
  | [],[],_,_ => .nil
  | [],_ :: _,h,_=>by simp at h
  | _ :: _,[],h,_=>by simp at h
  | x :: xs,u :: us,h,k => .cons (k 0 x u rfl rfl) (vals_get (by simpa using h) fun i y w e1 e2=>k (i + 1) y w (by simpa using e1) (by simpa using e2))
theorem items_ints {lo k:Int} {n:Nat} {acc:Array Value} (h:ItemsOf (fun i v => ∃ t,v = .int (lo + i * k) t) acc n):Vals ((List.range n).map fun i=>V.int (lo + (i:Nat) * k)) acc.toList:=by
  refine vals_get (by simp [h.1]) fun i x u e1 e2=>?_
  obtain ⟨t,rfl⟩:=h.2 i u (by simpa using e2)
  have hi:i < n:=by
    cases Nat.lt_or_ge i n with
    | inl z=>exact z
    | inr z=>rw [List.getElem?_map,List.getElem?_eq_none (by simpa using z)] at e1; cases e1
  rw [List.getElem?_map,List.getElem?_range hi] at e1
  simp at e1
  subst e1
  exact ⟨t,rfl⟩
theorem list_rng {pins:List (Addr × Obj)} {σ:L2.St} {H:Hp} {s:Shared} {Q:VK} {lo hi k:Int} {t u v:Tok} {tk:Nat} (hc:X.calm=true) (I:L2.Inv X pins σ H s) (ok:rng3Ok lo hi k=true) (sz:Builtin.Range.rangeSize lo hi k ≤ 50000)
    (q:∀ p,H p=none→Q (.ref p) (upd H p (.lst ((List.range (Builtin.Range.rangeSize lo hi k).toNat).map fun i=>V.int (lo + (i:Nat) * k))))) :
    wpAny (model X.prog X.w) X.A (call (.type "list") [.ref s.heap.objs.size]) (EP X pins σ Q) X.xe { s with heap:=s.heap.push { cls := .type "range",data := .fields #[.int lo t, .int hi u, .int k v] },toks:=tk }:=by
  simp only [rng3Ok,Bool.and_eq_true,decide_eq_true_eq] at ok
  have I1:L2.Inv X pins σ H { s with heap:=s.heap.push { cls := .type "range",data := .fields #[.int lo t, .int hi u, .int k v] },toks:=tk }:=I.kept fun b o e=>Heap.get?_push_of_some _ e
  have en:Builtin.Range.rangeSize lo hi k=(((Builtin.Range.rangeSize lo hi k).toNat:Nat):Int):=by omega
  refine call_list_range (I.ok.hd hc) (IsRange.new ..) ok.1 en (by omega) fun h' tk' acc c' hk hS hacc=>?_
  refine ⟨.ref _,_,I1.laid (o:=HO.lst ((List.range (Builtin.Range.rangeSize lo hi k).toNat).map fun i=>V.int (lo + (i:Nat) * k))) (t':=tk') hk (Nat.le_refl _) ⟨?_,acc.toList,c',items_ints hacc,by simpa using hS⟩,rfl,q _ I1.fresh⟩
  refine le_line ?_
  rw [List.length_map,List.length_range]; omega
def rArgs:List D→Option (Int × Int × Int)
  | [.int n]=>some (0,n,1)
  | [.int i, .int j]=>some (i,j,1)
  | [.int i, .int j, .int k]=>some (i,j,k)
  | _=>none
def dListR (g:DA):DE:=fun t=>(g t).bind fun rs=>(rArgs (rs.map Ev.d)).bind fun q=>if rng3Ok q.1 q.2.1 q.2.2 && decide (Builtin.Range.rangeSize q.1 q.2.1 q.2.2 ≤ 50000) then some (.nw (rng3 q.1 q.2.1 q.2.2)) else none
theorem ped_listR {p0 p1 p2:Pos} (hc:X.calm=true) (hgl:Gl X "list") (hml:X.mg "list"=none) (hgr:Gl X "range") (hmr:X.mg "range"=none) (ha:PA X (a :: es) (dA X.K F ga))
    (hst:starEach [.Call (.Name "range" p1) (a :: es) [] p2] X.env=[(false,eval (.Call (.Name "range" p1) (a :: es) [] p2) X.env)]:=by rfl)
    (hst1:starEach (a :: es) X.env=(false,eval a X.env) :: starEach es X.env:=by rfl) (hst2:(backTo p2 (starEach es X.env)).any (·.1)=false:=by rfl) :
    PE X (.Call (.Name "list" p0) [.Call (.Name "range" p1) (a :: es) [] p2] [] pos) (dE X.K F (dListR ga)):=by
  intro pins s σ H Q I h
  obtain ⟨A,t,r,R,e,h⟩:=h
  unfold dListR at e
  cases e1:ga t with
  | none=>rw [e1] at e; cases e
  | some rs =>
    rw [e1] at e
    simp only [Option.bind_some] at e
    cases e2:rArgs (rs.map Ev.d) with
    | none=>rw [e2] at e; cases e
    | some q =>
      rw [e2] at e
      simp only [Option.bind_some] at e
      split at e
      case isFalse=>cases e
      rename_i ok
      simp only [Bool.and_eq_true,decide_eq_true_eq] at ok
      cases e
      have mk:∀ (H1:Hp),Same H H1→∀ p,H1 p=none→Q (.ref p) (upd H1 p (.lst ((List.range (Builtin.Range.rangeSize q.1 q.2.1 q.2.2).toNat).map fun i=>V.int (q.1 + (i:Nat) * q.2.2)))):=fun H1 g1 p hp=>by
        refine h _ _ (g1.trans (upd_sameH hp)) ⟨p,_,rfl,Same.free g1 hp,upd_same,?_⟩
        have e3:rng3 q.1 q.2.1 q.2.2=((List.range (Builtin.Range.rangeSize q.1 q.2.1 q.2.2).toNat).map fun i=>q.1 + (i:Nat) * q.2.2).map D.int:=by simp [rng3]
        have e4:((List.range (Builtin.Range.rangeSize q.1 q.2.1 q.2.2).toNat).map fun i=>V.int (q.1 + (i:Nat) * q.2.2))=((List.range (Builtin.Range.rangeSize q.1 q.2.1 q.2.2).toNat).map fun i=>q.1 + (i:Nat) * q.2.2).map V.int:=by simp
        rw [e3,e4]
        exact Reps.ints _
      refine wpAny_Call_Name_kw (ld_blt I hgl hml boot_listT (PyProof.Rows.callWith_type1 ?_ (by rw [hst]; rfl) rfl))
      rw [hst]
      show wpAny _ _ (spliced ((false,eval (.Call (.Name "range" p1) (a :: es) [] p2) X.env) :: backTo pos (starEach [] X.env))) _ _ s
      refine Calls.spliced_cons (Call_ (ld_blt I hgr hmr boot_range (PyProof.Rows.callWith_type1 (thn (ha p2 pins s σ H (fun vs H1=>Same H H1∧RepEvs X.K F A H H1 rs vs) I ⟨A,t,rs,R,e1,fun vs H1 g1 q1=>⟨g1,q1⟩⟩) fun us s1 ⟨vs,H1,I1,r1,g1,q1⟩=>?_) hst1 hst2)))
      have full:=q1.full
      obtain ⟨q0,qh,qk⟩:=q
      unfold rArgs at e2
      split at e2
      · rename_i n z
        cases e2
        rw [z] at full
        have ev:=reps_ints (ns:=[qh]) full
        subst ev
        obtain ⟨u,rfl,ru⟩:=r1.one
        obtain ⟨t1,rfl⟩:=ru
        exact call_range_1 (Calls.spliced_nil (list_rng hc I1 ok.1 ok.2 (mk H1 g1)))
      · rename_i i j z
        cases e2
        rw [z] at full
        have ev:=reps_ints (ns:=[q0,qh]) full
        subst ev
        obtain ⟨u,w,rfl,ru,rw'⟩:=r1.two
        obtain ⟨t1,rfl⟩:=ru
        obtain ⟨t2,rfl⟩:=rw'
        exact call_range_2 (Calls.spliced_nil (list_rng hc I1 ok.1 ok.2 (mk H1 g1)))
      · rename_i i j k z
        cases e2
        rw [z] at full
        have ev:=reps_ints (ns:=[q0,qh,qk]) full
        subst ev
        cases r1 with
        | cons r rr =>
          cases rr with
          | cons r' rr =>
            cases rr with
            | cons r'' rr =>
              cases rr
              obtain ⟨t1,rfl⟩:=r
              obtain ⟨t2,rfl⟩:=r'
              obtain ⟨t3,rfl⟩:=r''
              have ok':=ok.1
              simp only [rng3Ok,Bool.and_eq_true,decide_eq_true_eq] at ok'
              have lg:qk.natAbs.log2 < 9000:=Nat.lt_of_le_of_lt (log2_le (k:=20) (by have:=ok'.2.2.1; omega)) (by decide)
              exact call_range_3 ok'.2.1 (Calls.spliced_nil (list_rng hc I1 ok.1 ok.2 (mk H1 g1))) (.inl (PyProof.noPylong_of_log2 lg))
      · cases e2
end
end DL
namespace DL
open PySem PySem.Spec PyProof.Rows L2
section
variable {X:Cx} {F:List Addr} {a b c o:Expr} {es:List Expr} {fa fb fc:DE} {fs:List DE} {ga:DA} {g g1 g2:DS} {ft fu:DT} {pos:Pos} {st:Stmt} {rest:List Stmt} {tg:Expr} {gt:TG} {kt:D→Th→Option Th}
theorem get_list:PGet X (rIxL X.K):=by
  intro pins s σ H o i ov iv Q I ro ri h
  obtain ⟨p,xs,k,z,rfl,rfl,hq,he,q⟩:=h
  cases ro
  obtain ⟨t,rfl⟩:=ri
  obtain ⟨its,r,pl,hz⟩:=I.list hq
  obtain ⟨j,h1,h2,h3,h4,h5⟩:=atI_get he
  obtain ⟨w,ew,rw'⟩:=r.get h2
  have hl:=r.length
  have hn:=line63
  have fin:EP X pins σ Q w s:=⟨z,H,I,rw',q⟩
  cases Int.lt_or_le k 0 with
  | inr h0 =>
    have hj:k.toNat=j:=Option.some.inj (by rw [← seqIndex_of h0 h5]; exact h1)
    exact wpAny_getItem_list (PlainL.isL pl) h0 (by omega) (by rw [hj]; simpa using ew) fin
  | inl h0 =>
    have hj:(k + (its.toArray.size:Int)).toNat=j:=by
      rw [List.size_toArray, ← hl]
      exact Option.some.inj (by rw [← seqIndex_neg h0 h4]; exact h1)
    exact wpAny_getItem_list_neg (PlainL.isL pl) h0 (by rw [List.size_toArray]; omega) (by omega) (by rw [hj]; simpa using ew) fin
def kAugI (f:Int→Int→Int) (t:Th) (i:Nat) (k r:Ev):Option Out:=match t[i]?,k.d,r.d with
  | some (.own xs), .int n, .int m=>(ixN xs.length n).bind fun j=>match xs[j]? with
    | some (.int v)=>some (.nx (t.set i (.own (xs.set j (.int (f v m))))))
    | _=>none
  | _,_,_=>none
def dAugI (f:Int→Int→Int) (i:Nat) (fk fe:DE):DS:=fun t=>(fk t).bind fun k=>(fe t).bind fun r=>kAugI f t i k r
theorem psd_augI {op:Operator} {f:Int→Int→Int} (i:Nat) {x:Str} {p0 tpos:Pos} (ho:PIp X op (ipI f)) (hb:PE X b (dE X.K F fb)) (he:PE X a (dE X.K F fa)) (hN:X.N[i]?=some x:=by rfl) (hv:Vis X.env.scope x:=by first | exact Or.inl rfl | exact Or.inr (Or.inl rfl) | exact Or.inr (Or.inr rfl)) (hd:(x == ("__debug__":Str))=false:=by decide)
    (hcd:(x == ("__classdict__":Str))=false:=by decide) (ha:∀ ov iv new,augStore b ov iv new=(do holding [new,ov,iv] (setItem ov iv new); release [new,ov,iv] []; pure .next):=by intros; rfl) :
    PS X (.AugAssign (.Subscript (.Name x p0) b tpos) op a pos) (dS X.K F (dAugI f i fb fa)):=by
  refine PS.imp (ps_augS (pe_var (i:=i) hN hv hd hcd) hb get_list he ho set_list ha) ?_
  rintro E σ H ⟨A,t,o,R,e,h⟩
  unfold dAugI at e
  cases e1:fb t with
  | none=>rw [e1] at e; cases e
  | some kk =>
    cases e2:fa t with
    | none=>rw [e1,e2] at e; cases e
    | some r =>
      rw [e1,e2] at e
      have e:kAugI f t i kk r=some o:=e
      unfold kAugI at e
      split at e
      case h_2=>cases e
      rename_i xs n m z1 z2 z3
      cases e3:ixN xs.length n with
      | none=>rw [e3] at e; cases e
      | some j =>
        rw [e3] at e
        simp only [Option.bind_some] at e
        split at e
        case h_2=>cases e
        rename_i v z4
        cases e
        obtain ⟨p,vs,a1,a2,a3,a4⟩:=R.rel.getOwn z1
        obtain ⟨v0,b1,b2⟩:=a4.get z4
        cases rep_int b2
        have ea:atI vs n=some (.int v):=by unfold L2.atI; rw [a4.length,e3]; exact b1
        refine ⟨_,a1,A,t,kk,R,e1,fun w H1 gs1 q1=>?_⟩
        have p1:=q1.full
        rw [z2] at p1
        cases rep_int p1
        refine ⟨p,vs,n, .int v,rfl,rfl,SqL.of (gs1 _ _ a3),ea,A,t,r,R.grow gs1,e2,fun y H2 gs2 q2=>?_⟩
        have p2:=q2.full
        rw [z3] at p2
        cases rep_int p2
        have gs:=gs1.trans gs2
        refine ⟨v,m,rfl,rfl,p,vs,n,j,rfl,rfl,gs _ _ a3,by rw [a4.length]; exact e3,?_⟩
        obtain ⟨R',g'⟩:=(R.grow gs).write (es:=xs.set j (.int (f v m))) (ws:=vs.set j (.int (f v m))) z1 a1 (Reps.set (.int _) j (Reps.mono (same_hide gs) a4))
        exact h _ _ _ ((Gr.of_same R.mu.left gs).trans g') R'
end
end DL
namespace L2
open PySem PySem.Spec PyProof.Rows
def Itz (K:PySem.W.Frag) (a b:Addr):It :=
  ⟨fun i H => ∃ xs ys x y,SqL K H a xs∧SqL K H b ys∧xs[i]?=some x∧ys[i]?=some y,
   fun i H x H' => ∃ p v u,H p=none∧x = .ref p∧H'=upd H p (.tup [v,u])∧(∀ xs,SqL K H a xs→xs[i]?=some v)∧∀ ys,SqL K H b ys→ys[i]?=some u,
   fun i H => ∃ xs ys,SqL K H a xs∧SqL K H b ys∧i=min xs.length ys.length⟩
def ZipAt (z TI TO i1 i2 l1 l2:Addr) (i:Nat) (h:Heap):Prop:=IsZip h z TI TO .none∧IsPair h TI (.ref i1) (.ref i2)∧(∃ a b,IsPair h TO a b)∧h.IsListIter i1 l1 i∧h.IsListIter i2 l2 i
theorem turn_zip {P:Program} {w:World} {K:PySem.W.Frag} {elts:List Expr} {k:Nat} {pos:Pos} (l1 l2 z TI TO i1 i2:Addr) (D:ZipApart z TI TO i1 i2 l1 l2):Turn P w K (.Tuple elts k pos) (Itz K l1 l2) [z,TI,TO,i1,i2] z (ZipAt z TI TO i1 i2 l1 l2) where
  mem:=List.mem_cons_self ..
  obj:=fun i h st b hb=>by
    obtain ⟨h1,h2,⟨a,c,h3⟩,h4,h5⟩:=st
    simp only [List.mem_cons,List.not_mem_nil,or_false] at hb
    rcases hb with rfl | rfl | rfl | rfl | rfl
    · exact ⟨_,h1,fun v q=>by cases q⟩
    · exact ⟨_,h2,fun v q=>by cases q⟩
    · exact ⟨_,h3,fun v q=>by cases q⟩
    · obtain ⟨o,e1,_,d⟩:=h4
      exact ⟨o,e1,fun v q=>by rw [d] at q; cases q⟩
    · obtain ⟨o,e1,_,d⟩:=h5
      exact ⟨o,e1,fun v q=>by rw [d] at q; cases q⟩
  keep:=fun i h h' st kk=>by
    obtain ⟨h1,h2,⟨a,c,h3⟩,h4,h5⟩:=st
    exact ⟨kk z (by simp) _ h1,kk TI (by simp) _ h2,⟨a,c,kk TO (by simp) _ h3⟩,h4.at fun o q=>kk i1 (by simp) o q,h5.at fun o q=>kk i2 (by simp) o q⟩
  item:=fun X hP hw hK hc i pins s σ H E I hf st hg=>by
    subst hP hw hK
    obtain ⟨xs,ys,x,y,hq1,hq2,hx,hy⟩:=hg
    obtain ⟨its1,rv1,p1,_⟩:=I.list hq1
    obtain ⟨its2,rv2,p2,_⟩:=I.list hq2
    obtain ⟨u1,hu1,ru1⟩:=rv1.get hx
    obtain ⟨u2,hu2,ru2⟩:=rv2.get hy
    have W:=WalksT.zip2 (prog:=X.prog) (w:=X.w) (I.ok.hd hc) z TI TO i1 i2 l1 l2 D its1.toArray its2.toArray
    have L1:i < its1.length:=(List.getElem?_eq_some_iff.mp hu1).1
    have L2':i < its2.length:=(List.getElem?_eq_some_iff.mp hu2).1
    obtain ⟨z1,z2,z3,z4,z5⟩:=st
    refine W.item i s _ _ (by simp; omega) ⟨z1,z2,z3,z4,z5,p1.isList,p2.isList⟩ fun T vals h1 tk pt hT it md kp=>?_
    obtain ⟨w1,w2,e1,e2,rfl⟩:=pt
    have e1':w1=u1:=by
      have:its1[i]?=some w1:=by simpa using e1
      rw [hu1] at this; exact (Option.some.inj this).symm
    have e2':w2=u2:=by
      have:its2[i]?=some w2:=by simpa using e2
      rw [hu2] at this; exact (Option.some.inj this).symm
    subst e1'; subst e2'
    have nT:=W.apart i T h1 md
    refine ⟨_,rfl,W.go elts k pos i T { s with heap:=h1,toks:=tk } _ _ md fun h2 st2 kp2=>?_⟩
    have kk:∀ b o,b ∉ [z,TI,TO,i1,i2]→s.heap.get? b=some o→h2.get? b=some o:=fun b o nb q=>by
      have nw:b ∉ [z,TO,i1,i2]:=fun w=>nb (by simp only [List.mem_cons,List.not_mem_nil,or_false] at w ⊢; rcases w with w | w | w | w <;> simp [w])
      exact kp2 b o nw (kp b o nw q)
    obtain ⟨o,t1,t2,t3⟩:=it
    have it2:IsTup h2 T #[w1,w2]:=⟨o,kp2 T o nT t1,t2,t3⟩
    have I2:Inv X pins σ (upd H T (.tup [x,y])) { s with heap:=h2,toks:=tk }:=I.turnedNew (t':=tk) kk hf hT
      ⟨by show 2 ≤ sizeLine; decide,[w1,w2], .cons ru1 (.cons ru2 .nil),it2⟩
    obtain ⟨y1,y2,y3,y4,y5,_,_⟩:=st2
    refine ⟨.ref T,_,I2,rfl,⟨T,x,y,I.hok.fresh hT,rfl,rfl,fun as ha=>by rw [I.list_inj ha hq1]; exact hx,fun bs hb=>by rw [I.list_inj hb hq2]; exact hy⟩,⟨y1,y2,y3,y4,y5⟩,fun b hb=>?_⟩
    have hlt:b < s.heap.objs.size:=by
      simp only [List.mem_cons,List.not_mem_nil,or_false] at hb
      rcases hb with rfl | rfl | rfl | rfl | rfl
      · exact Heap.lt_size z1
      · exact Heap.lt_size z2
      · obtain ⟨_,_,e⟩:=z3; exact Heap.lt_size e
      · obtain ⟨_,e,_⟩:=z4; exact Heap.lt_size e
      · obtain ⟨_,e,_⟩:=z5; exact Heap.lt_size e
    have nb:b ≠ T:=fun e=>by rw [e] at hlt; exact absurd hlt (Nat.not_lt.mpr hT)
    rw [upd_ne nb]
    exact (hf b hb).1
  done:=fun X hP hw hK hc i pins s σ H E I hf st hg=>by
    subst hP hw hK
    obtain ⟨xs,ys,hq1,hq2,hi⟩:=hg
    obtain ⟨its1,rv1,p1,_⟩:=I.list hq1
    obtain ⟨its2,rv2,p2,_⟩:=I.list hq2
    have W:=WalksT.zip2 (prog:=X.prog) (w:=X.w) (I.ok.hd hc) z TI TO i1 i2 l1 l2 D its1.toArray its2.toArray
    have e:i=min its1.toArray.size its2.toArray.size:=by
      have:=rv1.length; have:=rv2.length
      simp only [List.size_toArray]; omega
    obtain ⟨z1,z2,z3,z4,z5⟩:=st
    refine W.done s _ _ (e ▸ ⟨z1,z2,z3,z4,z5,p1.isList,p2.isList⟩) fun h' tk kp=>⟨rfl,I.turnedL (t':=tk) (fun b o nb q=>kp b o (fun w=>nb (by simp only [List.mem_cons,List.not_mem_nil,or_false] at w ⊢; rcases w with w | w | w | w <;> simp [w])) q) hf⟩
  self:=fun X i s Q E st h=>by
    obtain ⟨z1,_⟩:=st
    exact wpAny_pyIter_zip z1 h
def iZip (K:PySem.W.Frag) (ta:TA):TI:=fun σ H R=>ta σ H fun vs H1 => ∃ a b,vs=[.ref a, .ref b]∧(∃ xs,SqL K H1 a xs)∧(∃ ys,SqL K H1 b ys)∧R (Itz K a b) H1
theorem bt_zip:bootBuiltins "zip"=some (.type "zip"):=by decide +kernel
theorem pi_zip {X:Cx} {a b:Expr} {ta:TA} {elts:List Expr} {k:Nat} {tp p pos:Pos} (hg:Gl X "zip") (hm:X.mg "zip"=none) (ha:PA X [a,b] ta) (hs:starEach [a,b] X.env=(false,eval a X.env) :: starEach [b] X.env:=by rfl) (hs2:(backTo pos (starEach [b] X.env)).any (·.1)=false:=by rfl) :
    PI X (.Tuple elts k tp) (.Call (.Name "zip" p) [a,b] [] pos) (iZip X.K ta):=by
  intro pins s σ H R I h
  refine Call_ (ld_blt I hg hm bt_zip (PyProof.Rows.callWith_type1 (thn (ha pos pins s σ H _ I h) fun us s1 ⟨vs,H1,I1,r1,q1⟩=>?_) hs hs2))
  obtain ⟨l1,l2,rfl,⟨xs,hx⟩,⟨ys,hy⟩,q⟩:=q1
  obtain ⟨u,w,rfl,ru,rw'⟩:=r1.two
  cases ru; cases rw'
  obtain ⟨its1,rv1,p1,_⟩:=I1.list hx
  obtain ⟨its2,rv2,p2,_⟩:=I1.list hy
  have t1:l1 < s1.heap.objs.size:=by obtain ⟨_,e,_⟩:=p1.isList; exact Heap.lt_size e
  have t2:l2 < s1.heap.objs.size:=by obtain ⟨_,e,_⟩:=p2.isList; exact Heap.lt_size e
  refine call_zip_2 p1.isList p2.isList fun h' z1 z2 z3 z4 z5 z6 hk=>?_
  have I2:Inv X pins σ H1 { s1 with heap:=h' }:=I1.kept (t':=s1.toks) hk
  refine wpAny_pyIter_zip z1 ⟨s1.heap.objs.size + 4,[s1.heap.objs.size + 4,s1.heap.objs.size + 2,s1.heap.objs.size + 3,s1.heap.objs.size,s1.heap.objs.size + 1],ZipAt _ _ _ _ _ l1 l2,Itz X.K l1 l2,H1,rfl,I2,turn_zip l1 l2 _ _ _ _ _ (zipApart_new t1 t2),⟨z1,z2,⟨_,_,z3⟩,z4,z5⟩,fun c hc=>?_,q⟩
  have le:s1.heap.objs.size ≤ c:=by
    simp only [List.mem_cons,List.not_mem_nil,or_false] at hc
    rcases hc with rfl | rfl | rfl | rfl | rfl
    · exact Nat.le_add_right _ _
    · exact Nat.le_add_right _ _
    · exact Nat.le_add_right _ _
    · exact Nat.le_refl _
    · exact Nat.le_add_right _ _
  exact I1.fpOk le (I1.hok.fresh le)
end L2
namespace DL
open PySem PySem.Spec PyProof.Rows L2
section
variable {X:Cx} {F:List Addr} {a b c:Expr} {es:List Expr} {fa fb fc:DE} {g g1 g2:DS} {pos:Pos} {gt:TG} {kt:D→Th→Option Th}
def zipD:List D→List D→List D
  | x :: xs,y :: ys => .tup [x,y] :: zipD xs ys
  | _,_=>[]
theorem zipD_len:∀ (xs ys:List D),(zipD xs ys).length=min xs.length ys.length
  | [],ys=>by simp [zipD]
  | x :: xs,[]=>by simp [zipD]
  | x :: xs,y :: ys=>by simp [zipD,zipD_len xs ys]
theorem zipD_get:∀ (xs ys:List D) (j:Nat) (x y:D),xs[j]?=some x→ys[j]?=some y→(zipD xs ys)[j]?=some (.tup [x,y])
  | [],ys,j,x,y,e1,e2=>by simp at e1
  | x' :: xs,[],j,x,y,e1,e2=>by simp at e2
  | x' :: xs,y' :: ys,0,x,y,e1,e2=>by simp at e1 e2; subst e1; subst e2; rfl
  | x' :: xs,y' :: ys,j + 1,x,y,e1,e2=>by simpa [zipD] using zipD_get xs ys j x y (by simpa using e1) (by simpa using e2)
def dZip (k:D→Th→Option Th) (f f':DE) (body:DS):DS:=fun t=>(f t).bind fun r=>(f' t).bind fun r'=>match r.d,r'.d with
  | .lst ds, .lst es=>if r.ok && r'.ok then forD k body (zipD ds es) t else none
  | _,_=>none
theorem psd_zip {body:List Stmt} {elts:List Expr} {kk:Nat} {tp p1 p2:Pos} (hp:PassesOwn (model X.prog X.w) X.A X.env X.xe) (hc:X.calm=true) (hge:Gl X "zip") (hm:X.mg "zip"=none) (ha:PE X a (dE X.K F fa)) (hb':PE X b (dE X.K F fb)) (hg:PG X (.Tuple elts kk tp) gt) (ht:TgOk X.K F gt kt) (hb:PSs X body (dS X.K F g))
    (hst:starEach [a,b] X.env=(false,eval a X.env) :: starEach [b] X.env:=by rfl) (hst1:starEach [b] X.env=[(false,eval b X.env)]:=by rfl) (hst2:(backTo p2 (starEach [b] X.env)).any (·.1)=false:=by rfl) (hs:∀ x,foldedSetIterable (.Call (.Name "zip" p1) [a,b] [] p2) X.env x=pure x:=by intro _; rfl) :
    PS X (.For (.Tuple elts kk tp) (.Call (.Name "zip" p1) [a,b] [] p2) body [] pos) (dS X.K F (dZip kt fa fb g)):=by
  refine PS.imp (ps_for hp hc (pi_zip hge hm (pa_cons ha (pa_cons hb' pa_nil hst1) hst) hst hst2) hg hb hs) ?_
  intro E σ H hh
  obtain ⟨A,t,o,R,e,h⟩:=dS_of hh
  unfold dZip at e
  cases e1:fa t with
  | none=>rw [e1] at e; cases e
  | some r =>
  cases e2:fb t with
  | none=>rw [e1,e2] at e; cases e
  | some r' =>
    rw [e1,e2] at e
    refine ⟨A,t,r,R,e1,fun v H1 gs1 q1=>⟨A,t,r',R.grow gs1,e2,fun v2 H2 gs2 q2=>?_⟩⟩
    have e:(match r.d,r'.d with
      | .lst ds, .lst es=>if r.ok && r'.ok then forD kt g (zipD ds es) t else none
      | _,_=>none)=some o:=e
    split at e
    case h_2=>cases e
    rename_i ds es z1 z2
    split at e
    case isFalse=>cases e
    rename_i ok
    rw [Bool.and_eq_true] at ok
    have gs:=gs1.trans gs2
    have cl:=(q1.mono gs2).clean R.mu gs ok.1
    rw [z1] at cl
    have cl2:=(q2.back gs1).clean R.mu gs ok.2
    rw [z2] at cl2
    cases cl with
    | @lst _ p vs h1 h2 =>
    cases cl2 with
    | @lst _ p' ws h1' h2' =>
      refine ⟨p,p',rfl,⟨vs,SqL.mono (hide_sub _ _) h1⟩,⟨ws,SqL.mono (hide_sub _ _) h1'⟩,?_⟩
      refine for_core (ds:=zipD ds es) (fun A H=>(SqL X.K (hide (A ++ F) H) p vs∧Reps X.K (hide (A ++ F) H) ds vs)∧SqL X.K (hide (A ++ F) H) p' ws∧Reps X.K (hide (A ++ F) H) es ws) ht (R.grow gs) e (h.back (Gr.of_same R.mu.left gs)) ⟨⟨h1,h2⟩,h1',h2'⟩
        (fun A H A' H' q gr=>⟨⟨SqL.mono gr.same q.1.1,Reps.mono gr.same q.1.2⟩,SqL.mono gr.same q.2.1,Reps.mono gr.same q.2.2⟩)
        (fun A H q=>⟨vs,ws,SqL.mono (hide_sub _ _) q.1.1,SqL.mono (hide_sub _ _) q.2.1,by rw [zipD_len,h2.length,h2'.length]⟩) (fun A H i q hi=>?_) (fun A H i x H' q mu y hi=>?_)
      · rw [zipD_len] at hi
        have hi1:i < vs.length:=by rw [h2.length]; omega
        have hi2:i < ws.length:=by rw [h2'.length]; omega
        exact ⟨vs,ws,vs[i],ws[i],SqL.mono (hide_sub _ _) q.1.1,SqL.mono (hide_sub _ _) q.2.1,List.getElem?_eq_getElem hi1,List.getElem?_eq_getElem hi2⟩
      · obtain ⟨l,v,u,hl0,rfl,rfl,hv,hu⟩:=y
        obtain ⟨d,hd,rd⟩:=q.1.2.getV (hv vs (SqL.mono (hide_sub _ _) q.1.1))
        obtain ⟨d',hd',rd'⟩:=q.2.2.getV (hu ws (SqL.mono (hide_sub _ _) q.2.1))
        have sm:=upd_sameH (o:=HO.tup [v,u]) hl0
        refine ⟨sm,_,zipD_get ds es i d d' hd hd',?_⟩
        exact .tup (SqT.of (hide_get upd_same (notin_lists mu hl0))) (.cons (Rep.mono (same_hide sm) rd) (.cons (Rep.mono (same_hide sm) rd') .nil))
end
end DL
namespace DL
open PySem PySem.Spec PyProof.Rows L2
section
variable {X:Cx} {F:List Addr} {a b c o:Expr} {es:List Expr} {fa fb fc:DE} {fs:List DE} {ga:DA} {g g1 g2:DS} {ft fu:DT} {pos:Pos} {st:Stmt} {rest:List Stmt} {tg:Expr} {gt:TG} {kt:D→Th→Option Th}
def insI (n:Int):List Int→List Int
  | []=>[n]
  | m :: r=>if n ≤ m then n :: m :: r else m :: insI n r
def sortI':List Int→List Int
  | []=>[]
  | n :: r=>insI n (sortI' r)
theorem insI_perm (n:Int):∀ r:List Int,(insI n r).Perm (n :: r)
  | []=>List.Perm.refl _
  | m :: r=>by
    unfold insI
    split
    · exact List.Perm.refl _
    · exact (List.Perm.cons m (insI_perm n r)).trans (List.Perm.swap n m r)
theorem sortI'_perm:∀ r:List Int,(sortI' r).Perm r
  | []=>List.Perm.refl _
  | n :: r=>(insI_perm n _).trans (List.Perm.cons n (sortI'_perm r))
theorem insI_sorted (n:Int):∀ r:List Int,r.Pairwise (· ≤ ·)→(insI n r).Pairwise (· ≤ ·)
  | [],_=>by simp [insI]
  | m :: r,h=>by
    unfold insI
    have hc:=List.pairwise_cons.mp h
    split
    · rename_i hle
      refine List.pairwise_cons.mpr ⟨fun x hx=>?_,h⟩
      rcases List.mem_cons.mp hx with rfl | z
      · exact hle
      · exact Int.le_trans hle (hc.1 x z)
    · rename_i hle
      refine List.pairwise_cons.mpr ⟨fun x hx=>?_,insI_sorted n r hc.2⟩
      rcases List.mem_cons.mp ((insI_perm n r).mem_iff.mp hx) with rfl | z
      · omega
      · exact hc.1 x z
theorem sortI'_sorted:∀ r:List Int,(sortI' r).Pairwise (· ≤ ·)
  | []=>List.Pairwise.nil
  | n :: r=>insI_sorted n _ (sortI'_sorted r)
theorem sorted_uniq:∀ {xs ys:List Int},xs.Perm ys→xs.Pairwise (· ≤ ·)→ys.Pairwise (· ≤ ·)→xs=ys
  | [],ys,p,_,_=>(List.Perm.nil_eq p)
  | x :: xs,[],p,_,_=>absurd p.length_eq (by simp)
  | x :: xs,y :: ys,p,h1,h2=>by
    have c1:=List.pairwise_cons.mp h1
    have c2:=List.pairwise_cons.mp h2
    have e:x=y:=by
      have m1:x ∈ y :: ys:=p.mem_iff.mp (List.mem_cons_self ..)
      have m2:y ∈ x :: xs:=p.mem_iff.mpr (List.mem_cons_self ..)
      have l1:y ≤ x:=by rcases List.mem_cons.mp m1 with z | z; omega; exact c2.1 x z
      have l2:x ≤ y:=by rcases List.mem_cons.mp m2 with z | z; omega; exact c1.1 y z
      omega
    subst e
    rw [sorted_uniq (List.Perm.cons_inv p) c1.2 c2.2]
end
end DL
namespace DL
open PySem PySem.Spec PyProof.Rows L2
section
variable {X:Cx} {F:List Addr} {a b c o:Expr} {es:List Expr} {fa fb fc:DE} {ga:DA} {pos:Pos}
theorem falling_uniq {xs ns:List Int} (p:xs.Perm ns) (h:xs.Pairwise (· ≥ ·)):xs=(sortI' ns).reverse:=by
  have h1:xs.reverse.Pairwise (· ≤ ·):=List.pairwise_reverse.mpr h
  have h2:xs.reverse.Perm (sortI' ns):=(List.reverse_perm xs).trans (p.trans (sortI'_perm ns).symm)
  have:=sorted_uniq h2 h1 (sortI'_sorted ns)
  rw [← this,List.reverse_reverse]
def kSortR:List Ev→Option Ev:=fun rs=>match rs with
  | [r]=>(match r.d with
    | .lst ds=>(intsD ds).bind fun ns=>if ns.length < 64 then some (.nw ((sortI' ns).reverse.map D.int)) else none
    | _=>none)
  | _=>none
theorem ped_sortedR {p0 kp kp2:Pos} {j} (hg:Gl X "sorted") (hm:X.mg "sorted"=none) (ha:PE X a (dE X.K F fa)) (hst:starEach [a] X.env=[(false,eval a X.env)]:=by rfl)
    (he:backTo pos (starEach [a] X.env)=(false,eval a X.env) :: backTo pos (starEach [] X.env):=by rfl) (hplain:(backTo pos (starEach [a] X.env)).any (·.1)=false:=by rfl)
    (hall:(backToKw pos (keywordEach [⟨some "reverse", .Constant (.bool true) j kp2,kp⟩] X.env)).all (·.1.isSome)=true:=by rfl) (hkw:(backToKw pos (keywordEach [⟨some "reverse", .Constant (.bool true) j kp2,kp⟩] X.env)).any (·.1.isNone)=false:=by rfl) :
    PE X (.Call (.Name "sorted" p0) [a] [⟨some "reverse", .Constant (.bool true) j kp2,kp⟩] pos) (dE X.K F (dT1 kSortR (dCons fa dNil))):=by
  intro pins s σ H Q I h
  obtain ⟨A,t,r,R,e,h⟩:=h
  unfold dT1 dCons dNil at e
  cases e1:fa t with
  | none=>rw [e1] at e; cases e
  | some r1 =>
    rw [e1] at e
    simp only [Option.bind_some] at e
    unfold kSortR at e
    simp only at e
    split at e
    case h_2=>cases e
    rename_i ds z
    cases e2:intsD ds with
    | none=>rw [e2] at e; cases e
    | some ns =>
      rw [e2] at e
      simp only [Option.bind_some] at e
      split at e
      case isFalse=>cases e
      rename_i c
      cases e
      refine wpAny_Call_Name_kw (ld_blt I hg hm boot_sorted (callWith_kw (env:=X.env) ?_ he hplain hall hkw))
      refine thn ((pa_cons ha pa_nil hst) pos pins s σ H (fun vs H1 => ∃ x,vs=[x]∧Same H H1∧RepEv X.K F A H H1 r1 x) I ⟨A,t,r1,R,e1,fun x H1 gs q=>⟨x,rfl,gs,q⟩⟩) fun us s1 ⟨vs,H1,I1,rv,x,ex,gs,q⟩=>?_
      subst ex
      obtain ⟨u,rfl,ru⟩:=rv.one
      have p:=q.full
      rw [z,intsD_eq e2] at p
      cases p with
      | @lst _ l ws h1 h2 =>
        rw [reps_ints h2] at h1
        cases ru
        refine kws_cons (Constant_bool (kws_nil ?_))
        show wpAny (model X.prog X.w) X.A (call (.builtin "sorted") [.ref l] [(Str.ofString "reverse", .bool true)]) (EP X pins σ Q) X.xe s1
        obtain ⟨its,rw1,pl,_⟩:=I1.list h1
        have hi:IntsAre its ns:=intsAre_of rw1
        have hl:=hi.length
        refine sorted_ints_rev (PlainL.isL pl) hi (by omega) fun out ns' hI hp ho=>?_
        have e:ns'=(sortI' ns).reverse:=falling_uniq hp ho
        subst e
        obtain ⟨k,ek⟩:=sortedAll_at s1.heap its out
        have fr:s1.heap.objs.size ≤ s1.heap.objs.size + 1:=Nat.le_succ _
        have hn:=I1.hok.fresh fr
        refine ⟨.ref _,_,I1.laid (o:=HO.lst ((sortI' ns).reverse.map V.int)) (t':=s1.toks) (fun b o e=>sortedAll_old e) fr ⟨?_,out.toList,k,vals_ints hI,by simpa [seqObj] using ek⟩,rfl,?_⟩
        · refine le_line ?_
          rw [List.length_map,List.length_reverse,(sortI'_perm ns).length_eq]; omega
        · exact h _ _ (gs.trans (upd_sameH hn)) ⟨_,_,rfl,Same.free gs hn,upd_same,Reps.ints _⟩
end
end DL
namespace DL
open PySem PySem.Spec PyProof.Rows L2
section
variable {X:Cx} {F:List Addr} {a b c o:Expr} {es:List Expr} {fa fb fc:DE} {ga:DA} {pos:Pos}
def rIdx (K:PySem.W.Frag):V→List V→Hp→VK→Prop:=fun x vs H Q => ∃ (l:Addr) (ns:List Int) (n:Int),x = .ref l∧vs=[.int n]∧SqL K H l (ns.map V.int)∧n ∈ ns∧ns.length ≤ 100000∧Q (.int (ns.idxOf n:Nat)) H
theorem mt_index:MtR X "list.index" (rIdx X.K):=by
  intro pins s σ H x xs v us Q I rx rs h
  obtain ⟨l,ns,n,rfl,rfl,hs,hn,hz,q⟩:=h
  cases rx
  obtain ⟨u,rfl,ru⟩:=Vals.one rs
  obtain ⟨t,rfl⟩:=ru
  obtain ⟨its,rv,pl,_⟩:=I.list hs
  have hi:IntsAre its ns:=intsAre_of rv
  have hlen:=hi.length
  obtain ⟨⟨cls,dd,data,sl⟩,ho,hc,m,hd⟩:=id (PlainL.isL pl)
  simp only at hc hd
  subst hc hd
  have hj:ns.idxOf n < ns.length:=List.idxOf_lt_length_iff.mpr hn
  refine call_meets PySem.F.slot_list_index ⟨_,ho,rfl⟩ PySem.F.entry_list_index (PySem.F.args_list_index_2 _ _) (SeqAt.list_indexAt l its.toArray m dd sl (.int n t) (isInt n) (ns.idxOf n) (by simpa [hlen] using hj) (by omega) ?_ ?_)
    ⟨ho,fun y hy=>(eq_isInt n t hi y (by simpa using hy)).at _ _,⟨.int _,H,I.tok _,⟨_,rfl⟩,q⟩⟩
  · show isInt n its[ns.idxOf n]=true
    rw [isInt_at n hi _ (by omega) hj]
    simpa using List.getElem_idxOf hj
  · intro j hjs hlt
    show isInt n its[j]=false
    rw [isInt_at n hi j (by simpa using hjs) (by omega)]
    exact ne_of_lt_idxOf hlt _
def kIdx:Ev→Ev→Option Ev:=fun r1 r2=>match r1.d,r2.d with
  | .lst ds, .int n=>(intsD ds).bind fun ns=>if ns.contains n && decide (ns.length ≤ 100000) then some (.cl (.int (ns.idxOf n:Nat))) else none
  | _,_=>none
theorem ped_index {apos cpos:Pos} (ha:PE X a (dE X.K F fa)) (hb:PE X b (dE X.K F fb)) (hst:starEach [b] X.env=[(false,eval b X.env)]:=by rfl)
    (hbase:attributeBase a "index" X.env (eval a X.env)=eval a X.env:=by rfl)
    (hfew:((backTo cpos (starEach [b] X.env)).all (fun x => !x.1) && (backToKw cpos (keywordEach [] X.env)).all (fun x=>x.1.isSome)
      && decide ([b].length + ([]:List Keyword).length + (if ([]:List Keyword).isEmpty then 0 else 1) < 30))=true:=by rfl)
    (hline:(apos.endLine == cpos.line)=true:=by rfl) (hplain:(backTo cpos (starEach [] X.env)).any (·.1)=false:=by rfl):PE X (.Call (.Attribute a "index" apos) [b] [] cpos) (dE X.K F (d2 kIdx fa fb)):=by
  refine PE.imp (pe_bm PySem.F.plainAttrs_list PySem.F.slot_list_index PySem.F.type_list_index mt_index ha (pa_cons hb pa_nil hst) hbase hfew hline hst hplain) ?_
  intro σ H Q h
  obtain ⟨A,t,r1,r2,r,R,e1,e2,e,h,w⟩:=two h
  unfold kIdx at e
  split at e
  case h_2=>cases e
  rename_i ds n z1 z2
  cases e3:intsD ds with
  | none=>rw [e3] at e; cases e
  | some ns =>
    rw [e3] at e
    simp only [Option.bind_some] at e
    split at e
    case isFalse=>cases e
    rename_i ok
    simp only [Bool.and_eq_true,decide_eq_true_eq,List.contains_iff_mem] at ok
    cases e
    refine ⟨A,t,r1,R,e1,fun u H1 gs q=>?_⟩
    have p:=q.full
    rw [z1,intsD_eq e3] at p
    cases p with
    | @lst _ l vs h1 h2 =>
      rw [reps_ints h2] at h1
      refine ⟨.inl ⟨rfl,_,h1⟩,A,t,r2,R.grow gs,e2,fun u2 H2 gs2 q2=>?_⟩
      have p2:=q2.full
      rw [z2] at p2
      cases rep_int p2
      exact ⟨l,ns,n,rfl,rfl,SqL.mono gs2 h1,ok.1,ok.2,h _ H2 (gs.trans gs2) (.int _)⟩
end
end DL
namespace L2
open PySem PySem.W PyProof.Rows
def bndS:Nat:=2 ^ 1048576
theorem weight_mem:∀ {ns:List Int} {n:Int},n ∈ ns→WData.weight (.int n) ≤ WData.weightAll (ns.map WData.int)
  | m :: r,n,h=>by
    rw [List.map_cons]
    unfold WData.weightAll
    rcases List.mem_cons.mp h with rfl | z
    · omega
    · have:=weight_mem z; omega
theorem bnd_of {ns:List Int} (h:WData.layableAll [WData.list (ns.map WData.int)]=true):∀ n ∈ ns,n.natAbs < bndS:=fun n hn=>by
  have h1:WData.layable (WData.list (ns.map WData.int))=true:=by simpa [WData.layableAll] using h
  have h2:WData.weight (WData.list (ns.map WData.int)) ≤ 2 ^ 20:=by
    unfold WData.layable at h1
    simp only [Bool.and_eq_true,decide_eq_true_eq] at h1
    exact h1.2
  have h3:WData.weight (.int n) ≤ 2 ^ 20:=by
    refine Nat.le_trans (weight_mem hn) ?_
    have e:WData.weight (WData.list (ns.map WData.int))=WData.weightAll (ns.map WData.int):=by simp [WData.weight]
    rw [← e]; exact h2
  by_cases z:n=0
  · subst z; unfold bndS; exact Nat.pow_pos (by decide)
  · have h4:n.natAbs.log2 + 1 ≤ 2 ^ 20:=by
      have:WData.weight (.int n)=n.natAbs.log2 + 1:=by simp [WData.weight,z]
      rw [← this]; exact h3
    have h5:n.natAbs.log2 < 1048576:=by omega
    exact (Nat.log2_lt (by omega)).mp h5
end L2
namespace DL
open PySem PySem.Spec PyProof.Rows L2
def spM (K:PySem.W.Frag) (G:List D→Option Ev):Sp:=fun vs H Q _ => ∃ (Fo:List Addr) (p:Addr) (ws vs':List V) (xs ds:List D) (d:D),vs = .ref p :: vs'∧Lists H (p :: Fo)∧p ∉ Fo∧H p=some (.lst ws)∧Reps K (hide (p :: Fo) H) xs ws∧Reps K (hide (p :: Fo) H) ds vs'∧G (.lst xs :: ds)=some (.cl d)∧scD d=true ∧
  ∀ v H',(∀ b o,b ≠ p→H b=some o→H' b=some o)→H' p ≠ none→(∀ Hx,Rep K Hx d v)→Q v H'
structure CalM (P:Program) (w:World) (K:PySem.W.Frag) (mg:Str→Option Value) (base:BHeap) (x:Str) (k:Nat) (G:List D→Option Ev):Prop where
  ex:∃ (a:Addr) (fd:FuncData) (ps:List Str),mg x=some (.ref a)∧PySem.W.keepIn K (.ref a)=true∧L2.Binds K fd ps []∧FnOk P w K mg base CX0 k a fd ps (spM K G)
section
variable {X:Cx} {F:List Addr} {a b c o:Expr} {es:List Expr} {fa fb fc:DE} {ga:DA} {pos pos2:Pos}
def ddp (ns:List Int):List Int:=ns.foldl step_dedup []
end
end DL
namespace DL
open PySem PySem.Spec PyProof.Rows L2
def sV:D→V
  | .bl b => .bl b
  | .int i => .int i
  | .str x => .str x
  | _ => .non
def keyD:D→Option Key
  | .int i=>some (Sum.inl i)
  | .str x=>some (Sum.inr x)
  | _=>none
theorem rep_sc {K:PySem.W.Frag} {H:Hp} {d:D} {v:V} (r:Rep K H d v) (s:scD d=true):v=sV d:=by
  cases r with
  | non=>rfl
  | bl b=>rfl
  | int i=>rfl
  | str x=>rfl
  | tup _ _=>cases s
  | lst _ _=>cases s
  | dct _ _ _=>cases s
theorem sc_rep {K:PySem.W.Frag} {H:Hp}:∀ {d:D},scD d=true→Rep K H d (sV d)
  | .non,_ => .non
  | .bl b,_ => .bl b
  | .int i,_ => .int i
  | .str x,_ => .str x
  | .tup _,s=>by cases s
  | .lst _,s=>by cases s
  | .dct _ _,s=>by cases s
theorem sc_flatD:∀ {d:D},scD d=true→flat d=true
  | .non,_=>rfl
  | .bl b,_=>rfl
  | .int i,_=>rfl
  | .str x,_=>rfl
  | .tup _,s=>by cases s
  | .lst _,s=>by cases s
  | .dct _ _,s=>by cases s
theorem reps_sc {K:PySem.W.Frag} {H:Hp}:∀ {ds:List D} {vs:List V},Reps K H ds vs→ds.all scD=true→vs=ds.map sV
  | _,_, .nil,_=>rfl
  | _,_, .cons h r,s=>by
    simp only [List.all_cons,Bool.and_eq_true] at s
    rw [rep_sc h s.1,reps_sc r s.2]; rfl
theorem repds_sc {K:PySem.W.Frag} {H0 H:Hp}:∀ {ds:List D} {vs:List V} {B:List Addr},RepDs K H0 H ds vs B→ds.all scD=true→vs=ds.map sV∧B=[]
  | _,_,_, .nil,_=>⟨rfl,rfl⟩
  | _,_,_, .cons h r,s=>by
    simp only [List.all_cons,Bool.and_eq_true] at s
    obtain ⟨a,b⟩:=repds_sc r s.2
    subst a b
    cases h with
    | flat f q=>rw [rep_sc q s.1]; exact ⟨rfl,rfl⟩
    | tup _ _=>exact absurd s.1 (by simp [scD])
    | lst _ _=>exact absurd s.1 (by simp [scD])
    | dct _ _ _=>exact absurd s.1 (by simp [scD])
theorem sc_repds {K:PySem.W.Frag} {H0 H:Hp}:∀ {ds:List D},ds.all scD=true→RepDs K H0 H ds (ds.map sV) []
  | [],_ => .nil
  | d :: ds,s=>by
    simp only [List.all_cons,Bool.and_eq_true] at s
    exact .cons (B:=[]) (C:=[]) (.flat (sc_flatD s.1) (sc_rep s.1)) (sc_repds s.2)
theorem RS.placeD {K:PySem.W.Frag} {F A:List Addr} {H:Hp} {t:Th} {σ:L2.St} {i:Nat} {ks:List Key} {ds:List D} (R:RS K F H A t σ) (e:t[i]?=some (.dp (.dct ks ds))) (sc:ds.all scD=true) :
    ∃ p,σ[i]?=some (some (.ref p))∧p ∈ A∧ks.length=ds.length∧H p=some (.dK (mkKV ks (ds.map sV))) ∧
      ∀ H1 ks2 ds2,Same H H1→ks2.length=ds2.length→ds2.all scD=true →
        ∃ A2,RS K F (L2.upd H1 p (.dK (mkKV ks2 (ds2.map sV)))) A2 (t.set i (.dp (.dct ks2 ds2))) σ∧Gr A H A2 (L2.upd H1 p (.dK (mkKV ks2 (ds2.map sV)))):=by
  obtain ⟨v,B,a1,a2,a3,a4,a5⟩:=R.rel.focusDp R.nd e
  cases a4 with
  | flat f _=>simp [flat] at f
  | @dct _ _ p vs B' l h r =>
    obtain ⟨rfl,rfl⟩:=repds_sc r sc
    have pA:p ∈ A:=a2 p (by simp)
    refine ⟨p,a1,pA,by simpa using l,h,fun H1 ks2 ds2 gs l2 sc2=>?_⟩
    have hh:Same (hide (A ++ F) H) (hide (A ++ F) (L2.upd H1 p (.dK (mkKV ks2 (ds2.map sV))))):=fun b o q=>by
      obtain ⟨n,q⟩:=of_hide q
      have nb:b ≠ p:=fun z=>n (List.mem_append_left _ (z ▸ pA))
      exact hide_get (by rw [upd_ne nb]; exact gs _ _ q) n
    obtain ⟨A2,d1,d3⟩:=a5 _ _ (.dct ks2 ds2) [p] hh (.dct (by simpa using l2) upd_same (sc_repds sc2)) (List.Sublist.refl _) (fun q hq nq o w=>by rw [upd_ne (by simpa using nq)]; exact gs _ _ w)
    have sub:∀ x ∈ A2,x ∈ A:=fun x hx=>d3.subset hx
    have mu:Lists (L2.upd H1 p (.dK (mkKV ks2 (ds2.map sV)))) (A ++ F):=fun q hq=>by
      by_cases z:q=p
      · exact ⟨mD _,by rw [z]; exact upd_same⟩
      · obtain ⟨us,w⟩:=R.mu q hq
        exact ⟨us,by rw [upd_ne z]; exact gs _ _ w⟩
    refine ⟨A2,⟨fun q hq=>mu q ?_,R.nd.sublist d3,fun q hq=>R.dj q (sub q hq),RSl.mono (hide_less _ fun a z=>?_) d1 fun _ _ _ h=>h⟩,fun b o n h=>?_,fun b hb=>?_,fun b hb => .inl (sub b hb)⟩
    · exact (List.mem_append.mp hq).elim (fun z=>List.mem_append_left _ (sub q z)) (fun z=>List.mem_append_right _ z)
    · exact (List.mem_append.mp z).elim (fun z=>List.mem_append_left _ (sub a z)) (fun z=>List.mem_append_right _ z)
    · rw [upd_ne (fun z=>n (by rw [z]; exact pA))]; exact gs _ _ h
    · obtain ⟨us,w⟩:=mu b (List.mem_append_left _ hb)
      rw [w]; simp
def getKD:List Key→List D→Key→Option D
  | k' :: ks,d :: ds,k=>if k'=k then some d else getKD ks ds k
  | _,_,_=>none
def hasK (ks:List Key) (k:Key):Bool:=ks.any fun k'=>decide (k'=k)
def putKD (ks:List Key) (ds:List D) (k:Key) (d:D):List Key × List D :=
  if hasK ks k then (ks,List.zipWith (fun k' d'=>if k'=k then d else d') ks ds) else (ks ++ [k],ds ++ [d])
theorem valV_zip (k:Key):∀ {ks:List Key} {ds:List D},ks.length=ds.length→valV (mkKV ks (ds.map sV)) k=(getKD ks ds k).map sV
  | [],[],_=>rfl
  | k' :: ks,d :: ds,h=>by
    have i:=valV_zip k (ks:=ks) (ds:=ds) (by simpa using h)
    unfold mkKV at i ⊢
    simp only [List.map_cons,List.zip_cons_cons,getKD]
    by_cases e:k'=k
    · rw [valV_pos (p:=(k',sV d)) e,if_pos e]; rfl
    · rw [valV_neg (p:=(k',sV d)) e,if_neg e,i]
  | [],_ :: _,h=>by simp at h
  | _ :: _,[],h=>by simp at h
theorem has_zip (k:Key):∀ {ks:List Key} {vs:List V},ks.length=vs.length→(valV (mkKV ks vs) k).isSome=hasK ks k
  | [],[],_=>rfl
  | k' :: ks,d :: ds,h=>by
    have i:=has_zip k (ks:=ks) (vs:=ds) (by simpa using h)
    unfold mkKV hasK at i ⊢
    simp only [List.zip_cons_cons,List.any_cons]
    by_cases e:k'=k
    · rw [valV_pos (p:=(k',d)) e,decide_eq_true e]; rfl
    · rw [valV_neg (p:=(k',d)) e,decide_eq_false e,i]; rfl
  | [],_ :: _,h=>by simp at h
  | _ :: _,[],h=>by simp at h
section
variable {X:Cx} {F:List Addr} {a b c o:Expr} {es:List Expr} {fa fb fc:DE} {ga:DA} {pos:Pos}
def dNewD:DE:=fun _=>some (.dn (.dct [] []))
theorem ped_newD:PE X (.Dict [] [] pos) (dE X.K F dNewD):=by
  refine PE.imp pe_dnewK ?_
  rintro σ H Q ⟨A,t,r,R,e,h⟩
  cases e
  intro p hp
  refine h _ _ (upd_sameH hp) ⟨[p],by simp,fun b hb=>by simp at hb; subst hb; exact hp, .dct (vs:=[]) rfl upd_same .nil⟩
def kInD (neg:Bool):Ev→Ev→Option Ev:=fun r1 r2=>match r2.d with
  | .dct ks ds=>(keyD r1.d).map fun k => .cl (.bl (if neg then !hasK ks k else hasK ks k))
  | _=>none
theorem key_rep {K:PySem.W.Frag} {H:Hp} {d:D} {v:V} {k:Key} (r:Rep K H d v) (e:keyD d=some k):v=kV k:=by
  cases r <;> cases e <;> rfl
theorem od_ninD (hu:X.A.units + 64 < cLine):OpD X F (compareOp .NotIn) (kInD true):=by
  intro pins s σ H0 H A x y v u Q r1 r2 r I m g0 rx ry q1 q2 e hq
  unfold kInD at e
  split at e
  case h_2=>cases e
  rename_i ks ds z
  cases ek:keyD r1.d with
  | none=>rw [ek] at e; cases e
  | some k =>
    rw [ek] at e
    cases e
    have p1:=key_rep q1.full ek
    have p2:=q2.full
    rw [z] at p2
    cases p2 with
    | @dct _ _ p vs l h1 h2 =>
      subst p1
      cases (show u=Value.ref p from ry)
      refine d_notIn (by omega) I (DGet.k h1) rx fun s' I'=>?_
      rw [has_zip k l]
      exact ⟨.bl _,H,I',rfl,hq _ H (Same.refl H) (.bl _)⟩
def kLenD:List Ev→Option Ev:=fun rs=>match rs with
  | [r]=>(match r.d with
    | .dct ks _=>some (.cl (.int ks.length))
    | _=>none)
  | _=>none
theorem cd_lenD:CallD X F (.builtin "len") kLenD:=CallD.of call_lenD fun H0 H A xs rs e Q m g q ek hq=>by
  unfold kLenD at ek
  split at ek
  case h_2=>cases ek
  rename_i r
  split at ek
  case h_2=>cases ek
  rename_i ks ds z
  cases ek
  cases q with
  | cons q1 q2 =>
    cases q2
    have p:=q1.full
    rw [z] at p
    cases p with
    | @dct _ _ p vs l h1 h2 =>
      refine ⟨p,_,rfl,h1,?_⟩
      have:(mkKV ks vs).length=ks.length:=by unfold mkKV; rw [List.length_zip]; omega
      rw [this]
      exact hq _ H (Same.refl H) (.int _)
theorem put_zip (k:Key) (d:D) {ks:List Key} {ds:List D} (h:ks.length=ds.length):putK (mkKV ks (ds.map sV)) k (sV d)=mkKV (putKD ks ds k d).1 ((putKD ks ds k d).2.map sV)∧(putKD ks ds k d).1.length=(putKD ks ds k d).2.length:=by
  have ha:(mkKV ks (ds.map sV)).any (fun kv=>decide (kv.1=k))=hasK ks k:=by
    rw [valV_any,has_zip k (by simpa using h)]
  unfold putK putKD
  rw [ha]
  by_cases hc:hasK ks k=true
  · rw [if_pos hc,if_pos hc]
    refine ⟨?_,by simp; omega⟩
    clear hc ha
    unfold mkKV
    induction ks generalizing ds with
    | nil=>simp
    | cons k' ks ih =>
      cases ds with
      | nil=>simp at h
      | cons d' ds =>
        have i:=ih (ds:=ds) (by simpa using h)
        simp only [List.map_cons,List.zip_cons_cons,List.zipWith_cons_cons,i]
        by_cases e:k'=k
        · simp [e]
        · simp [e]
  · rw [if_neg hc,if_neg hc]
    refine ⟨?_,by simp; omega⟩
    unfold mkKV
    rw [List.map_append,List.zip_append (by simpa using h)]
    rfl
theorem put_sc {ks:List Key} {k:Key} {d:D} (sd:scD d=true):∀ {ds:List D},ds.all scD=true→(putKD ks ds k d).2.all scD=true:=fun {ds} s=>by
  unfold putKD
  split
  · show (List.zipWith _ ks ds).all scD=true
    rename_i hc
    clear hc
    induction ks generalizing ds with
    | nil=>simp
    | cons k' ks ih =>
      cases ds with
      | nil=>simp
      | cons d' ds =>
        simp only [List.all_cons,Bool.and_eq_true] at s
        simp only [List.zipWith_cons_cons,List.all_cons,Bool.and_eq_true]
        refine ⟨?_,ih s.2⟩
        split
        · exact sd
        · exact s.1
  · show (ds ++ [d]).all scD=true
    rw [List.all_append,s]
    simp [sd]
def kDPut (t:Th) (i:Nat) (r k:Ev):Option Out:=match t[i]?,keyD k.d with
  | some (.dp (.dct ks ds)),some kk=>if ds.all scD && scD r.d && decide (ks.length < 100000) then some (.nx (t.set i (.dp (.dct (putKD ks ds kk r.d).1 (putKD ks ds kk r.d).2)))) else none
  | _,_=>none
def dDPut (i:Nat) (fk fv:DE):DS:=fun t=>(fv t).bind fun r=>(fk t).bind fun k=>kDPut t i r k
theorem psd_dput (i:Nat) {x:Str} {p0 tpos:Pos} (hu:X.A.units + 64 < cLine) (hb:PE X b (dE X.K F fb)) (he:PE X a (dE X.K F fa)) (hN:X.N[i]?=some x:=by rfl) (hv:Vis X.env.scope x:=by first | exact Or.inl rfl | exact Or.inr (Or.inl rfl) | exact Or.inr (Or.inr rfl)) (hd:(x == ("__debug__":Str))=false:=by decide)
    (hcd:(x == ("__classdict__":Str))=false:=by decide) (hs:swapsWith a (some (.Subscript (.Name x p0) b tpos)) pos.line X.env=pure false:=by rfl) :
    PS X (.Assign [.Subscript (.Name x p0) b tpos] a pos) (dS X.K F (dDPut i fb fa)):=by
  refine PS.imp (ps_dput (by omega) (pe_var (i:=i) hN hv hd hcd) hb he hs) ?_
  rintro E σ H ⟨A,t,o,R,e,h⟩
  unfold dDPut at e
  cases e1:fa t with
  | none=>rw [e1] at e; cases e
  | some r =>
    cases e2:fb t with
    | none=>rw [e1,e2] at e; cases e
    | some kk =>
      rw [e1,e2] at e
      have e:kDPut t i r kk=some o:=e
      unfold kDPut at e
      split at e
      case h_2=>cases e
      rename_i ks ds k z ek
      split at e
      case isFalse=>cases e
      rename_i ok
      simp only [Bool.and_eq_true,decide_eq_true_eq] at ok
      cases e
      obtain ⟨p,a1,a2,l,hp,mk⟩:=R.placeD z ok.1.1
      refine ⟨A,t,r,R,e1,fun v0 H1 gs1 q1=>⟨_,a1,A,t,kk,R.grow gs1,e2,fun y H2 gs2 q2=>?_⟩⟩
      have gs:=gs1.trans gs2
      have ey:=key_rep q2.full ek
      have ev:=rep_sc q1.full ok.1.2
      subst ey ev
      obtain ⟨pz,pl⟩:=put_zip k r.d l
      obtain ⟨A2,R',g'⟩:=mk H2 _ _ gs pl (put_sc ok.1.2 ok.1.1)
      have hlen:(mkKV ks (ds.map sV)).length < sizeLine:=by
        unfold mkKV
        rw [List.length_zip]
        exact Nat.lt_of_le_of_lt (Nat.min_le_left _ _) (Nat.lt_of_lt_of_le ok.2 (by rw [sizeLine_eq]; decide))
      refine ⟨p,_,rfl,DPut.k (gs _ _ hp) hlen,?_⟩
      rw [pz]
      exact h _ _ _ g' R'
end
end DL
namespace DL
open PySem PySem.Spec PyProof.Rows L2
theorem getKD_sc {k:Key} {d:D}:∀ {ks:List Key} {ds:List D},ds.all scD=true→getKD ks ds k=some d→scD d=true
  | [],ds,_,e=>by simp [getKD] at e
  | _ :: _,[],_,e=>by simp [getKD] at e
  | k' :: ks,d' :: ds,s,e=>by
    simp only [List.all_cons,Bool.and_eq_true] at s
    unfold getKD at e
    split at e
    · cases e; exact s.1
    · exact getKD_sc s.2 e
section
variable {X:Cx} {F:List Addr} {a b c o:Expr} {es:List Expr} {fa fb fc:DE} {ga:DA} {pos:Pos}
def kDGet:Ev→Ev→Option Ev:=fun r1 r2=>match r1.d,keyD r2.d with
  | .dct ks ds,some k=>if ds.all scD then (getKD ks ds k).map Ev.cl else none
  | _,_=>none
theorem ped_dget (hu:X.A.units + 64 < cLine) (ha:PE X a (dE X.K F fa)) (hb:PE X b (dE X.K F fb)) (hs:NoSl b:=by intro _ _; rfl):PE X (.Subscript a b pos) (dE X.K F (d2 kDGet fa fb)):=by
  refine PE.imp (pe_dget (by omega) ha hb hs) ?_
  intro σ H Q h
  obtain ⟨A,t,r1,r2,r,R,e1,e2,e,h,w⟩:=two h
  refine ⟨A,t,r1,R,e1,fun x H1 gs1 q1=>⟨A,t,r2,R.grow gs1,e2,fun y H2 gs2 q2=>?_⟩⟩
  have gs:=gs1.trans gs2
  have p1:=(q1.mono gs2).full
  have p2:=q2.full
  unfold kDGet at e
  split at e
  case h_2=>cases e
  rename_i ks ds k z ek
  split at e
  case isFalse=>cases e
  rename_i sc
  cases eg:getKD ks ds k with
  | none=>rw [eg] at e; cases e
  | some d =>
    rw [eg] at e
    cases e
    rw [z] at p1
    cases p1 with
    | @dct _ _ p vs l h1 h2 =>
      have ev:=reps_sc h2 sc
      subst ev
      have ey:=key_rep p2 ek
      subst ey
      have l':ks.length=ds.length:=by simpa using l
      have hv:=valV_zip k (ks:=ks) (ds:=ds) l'
      rw [eg] at hv
      have sd:=getKD_sc sc eg
      refine ⟨p,sV d,rfl,?_,h _ H2 gs (sc_rep sd)⟩
      have:=DGet.k (k:=k) h1
      rw [hv] at this
      exact this
def kIsntB:Ev→Ev→Option Ev:=fun r1 r2=>match r1.d,r2.d with
  | .bl p, .bl q=>some (.cl (.bl (!(p == q))))
  | _,_=>none
theorem od_isntB:OpD X F (compareOp .IsNot) kIsntB:=by
  intro pins s σ H0 H A x y v u Q r1 r2 r I m g0 rx ry q1 q2 e hq
  unfold kIsntB at e
  split at e
  · rename_i p q z1 z2
    cases e
    have p1:=q1.full
    have p2:=q2.full
    rw [z1] at p1; rw [z2] at p2
    cases rep_bl p1; cases rep_bl p2
    cases rx; cases ry
    refine PySem.wpAny_isNot_plain (by cases p <;> cases q <;> rfl) ⟨.bl (!(p == q)),H,I,?_,hq _ H (Same.refl H) (.bl _)⟩
    show Value.bool _=Value.bool _
    cases p <;> cases q <;> rfl
  · cases e
end
end DL
namespace L2
open PySem PySem.Spec PyProof.Rows
section
variable {X:Cx} {pins:List (Addr × Obj)} {σ:L2.St} {H:Hp} {s:Shared} {h':Heap}
theorem Inv.tabs (I:Inv X pins σ H s) {p:Addr × Str} (hp:p ∈ X.base.tabs):H p.1=some (.tbl p.2):=I.base.tbls _ _ (I.ok.tabs p hp)
theorem Inv.coded {t':Nat} {P c f:Addr} {q:Str} {oc fo:Obj} (I:Inv X pins σ H s) (hP:H P=some (.tbl q)) (hx:∀ b o,b ≠ P→s.heap.get? b=some o→h'.get? b=some o)
    (hc:h'.get? c=some oc) (hf:h'.get? f=some fo) (nc:H c=none ∨ H c=some (.frz oc (.own 0))) (lc:H c=none→s.heap.objs.size ≤ c) (lf:s.heap.objs.size ≤ f) (hcf:c ≠ f)
    (new:ObjOk X.prog X.w (upd (upd H c (.frz oc (.own 0))) f (.frz fo (.own 0))) h' P (.tbl q)) :
    Inv X pins σ (upd (upd H c (.frz oc (.own 0))) f (.frz fo (.own 0))) { s with heap:=h',toks:=t' }:=by
  have hfn:H f=none:=I.hok.fresh lf
  have sm:∀ b u,H b=some u→upd (upd H c (.frz oc (.own 0))) f (.frz fo (.own 0)) b=some u:=fun b u e=>by
    have nf:b ≠ f:=fun z=>by rw [z,hfn] at e; cases e
    rw [upd_ne nf]
    by_cases z:b=c
    · subst z
      rcases nc with n | n
      · rw [n] at e; cases e
      · rw [n] at e; cases e; rw [upd_same]
    · rw [upd_ne z]; exact e
  have nP:∀ b,H b=none→b ≠ P:=fun b n z=>by rw [z,hP] at n; cases n
  have none':∀ b o,s.heap.get? b=some o→H b=none→upd (upd H c (.frz oc (.own 0))) f (.frz fo (.own 0)) b=none:=fun b o e n=>by
    have nf:b ≠ f:=fun z=>Nat.lt_irrefl _ (Nat.lt_of_lt_of_le (Heap.lt_size (z ▸ e)) lf)
    have ncb:b ≠ c:=fun z=>by
      rcases nc with w | w
      · exact Nat.lt_irrefl _ (Nat.lt_of_lt_of_le (Heap.lt_size (z ▸ e)) (lc w))
      · rw [← z,n] at w; cases w
    rw [upd_ne nf,upd_ne ncb]; exact n
  have hPs:∃ o',h'.get? P=some o':=by obtain ⟨ps,e,_⟩:=new; exact ⟨_,e⟩
  refine I.step (g':=s.gens) (d':=s.drawn) (ch:=[]) (fun _ z=>nomatch z) (fun b o _ _ _ e n=>hx b o (nP b n) e) (fun b o _ _ _ e n=>⟨o.slots,hx b o (nP b n) e⟩) (fun b o _ e n=>none' b o e n)
    (fun b o _ e=>?_) (fun b xs e=>sm b _ e) (fun b o u e=>sm b _ e) (fun b q e=>sm b _ e) (fun m hm=>?_) (fun b u e=>?_) I.bare
  · by_cases z:b=P
    · subst z; exact hPs
    · exact ⟨o,hx b o z e⟩
  · obtain ⟨o,es,ep,ho,r⟩:=hm
    exact ⟨o,es,ep,hx _ o (nP _ I.free) ho,r⟩
  · by_cases zf:b=f
    · subst zf; rw [upd_same] at e; cases e; exact ⟨hf,fo,hf⟩
    · by_cases zc:b=c
      · subst zc
        rw [upd_ne hcf,upd_same] at e; cases e; exact ⟨hc,oc,hc⟩
      · rw [upd_ne zf,upd_ne zc] at e
        by_cases zP:b=P
        · subst zP
          rw [hP] at e; cases e; exact new
        · refine (I.hok b u e).stay (fun c' v hc' w=>hx c' v ?_ w) (fun c' w=>sm c' _ w) (fun c' xs w=>sm c' _ w) fun c' o u' w=>sm c' _ w
          rcases hc' with w | w
          · rw [w]; exact zP
          · exact fun z=>by rw [z,hP] at w; cases w
end
abbrev lamE (X:Cx) (qual:Str) (scope:Scope) (L f:Addr) (cd:Value):Env:=PySem.W.envX qual scope L f cd (clOf X.env.cells scope.names [])
abbrev lamX (X:Cx) (N':List Str) (qual:Str) (scope:Scope) (A':Around) (L f:Addr) (cd:Value) (s₃:Shared) (H₃:Hp):Cx :=
  { X with N:=N',s₀:=s₃,H₀:=H₃,A:=A'.deeper (lamE X qual scope L f cd),env:=lamE X qual scope L f cd,outer:=X.stack,stack:=lamE X qual scope L f cd :: X.stack,ex:=[],fn:=(fun _=>false),calm:=true,pn:=[],xe:=(fun _ _=>False) }
section
variable {X:Cx} {pins:List (Addr × Obj)} {σ:L2.St} {H:Hp} {s:Shared} {scope:Scope} {N':List Str} {qual:Str} {A':Around} {f:Addr} {cd:Value}
theorem lam_ok (I:Inv X pins σ H s) (S:CompSc X scope) (S0:∀ y ∈ scope.names,y.2 ≠ .cell) (hA:A'.handled=none) (hfr:A'.frames=X.A.frames):(lamX X N' qual scope A' s.heap.objs.size f cd s H).Ok where
  mod:=I.ok.mod
  kind:=S.kind
  glob:=rfl
  blt:=rfl
  above:=Nat.le_refl _
  inj:=fun x y c h1 h2=>I.ok.inj x y c (S.cells I.ok h1) (S.cells I.ok h2)
  has:=fun x hx=>by
    have hx:scope.names.lookup x=some .cell ∨ scope.names.lookup x=some .free:=hx
    rcases hx with hx | hx
    · exact absurd rfl (S0 _ (PySem.mem_of_lookup hx))
    · exact clOf_has (PySem.mem_of_lookup hx)
  cab:=fun x c h _=>by cases h
  hd:=fun _=>hA
  frames:=Around.frames_deeper (by rw [hfr]; exact I.ok.frames)
  stk := .inr ⟨rfl,rfl⟩
  exf:=fun b hb=>absurd (show b ∈ ([]:List Addr) from hb) (by simp)
  bs:=fun b o e=>I.bs b o e
  bsz:=Nat.le_trans I.ok.bsz I.sz
  noex:=fun b o e hb=>absurd (show b ∈ ([]:List Addr) from hb) (by simp)
  exfs:=fun b hb=>absurd (show b ∈ ([]:List Addr) from hb) (by simp)
  funs:=I.stack
  frf:=I.stkFree
  tabs:=fun p hp=>I.tabs hp
theorem lam_inv (I:Inv X pins σ H s) (S:CompSc X scope) (S0:∀ y ∈ scope.names,y.2 ≠ .cell) (hA:A'.handled=none) (hfr:A'.frames=X.A.frames) {h1:Heap} {t1:Nat} {x0:Str} {u0:Value} {v0:V} {cs:L2.St}
    (hns:h1.Ns s.heap.objs.size (fun x=>[(x0,u0)].reverse.lookup x)) (hk:∀ b o,s.heap.get? b=some o→h1.get? b=some o) (r0:RelV v0 u0) (h0:N'[0]?=some x0) (hx0:scope.names.lookup x0=some .local) (hl:cs.length + 1=N'.length)
    (cap:∀ (i:Nat) (x:Str) (v:V),N'[i + 1]?=some x→cs[i]?=some (some v)→(x,NameKind.free) ∈ scope.names∧∃ j:Nat,X.N[j]?=some x∧σ[j]?=some (some v)) :
    Inv (lamX X N' qual scope A' s.heap.objs.size f cd s H) [] (some v0 :: cs) H { s with heap:=h1,toks:=t1 } where
  ok:=lam_ok I S S0 hA hfr
  os:=rfl
  bare:=I.bare
  base:=Un.kept hk
  loc:=⟨_,hns,fun i x v e1 e2 vs=>by
    cases i with
    | zero =>
      rw [show (lamX X N' qual scope A' s.heap.objs.size f cd s H).N=N' from rfl,h0] at e1
      cases e1
      cases e2
      exact ⟨u0,r0, .inl ⟨hx0,by simp⟩⟩
    | succ i =>
      obtain ⟨hfree,j,j1,j2⟩:=cap i x v e1 e2
      obtain ⟨m0,hn0,hl0⟩:=I.loc
      have vis:Vis X.env.scope x:=by
        rcases S.free _ hfree rfl with z | z
        · exact .inr (.inl z)
        · exact .inr (.inr z)
      obtain ⟨u,r,l⟩:=hl0 j x v j1 j2 vis
      refine ⟨u,r,?_⟩
      rcases l with ⟨k,_⟩ | ⟨k,c,e,z⟩
      · exfalso
        rcases S.free _ hfree rfl with q | q
        · rw [k] at q; cases q
        · rw [k] at q; cases q
      · obtain ⟨c',hc'⟩:=clOf_has (cells:=X.env.cells) (acc:=[]) hfree
        have e':=S.cells I.ok hc'
        rw [e] at e'; cases e'
        refine .inr ⟨.inr (S.names _ hfree),c,hc',?_⟩
        obtain ⟨o,ho,hd⟩:=z
        exact ⟨o,hk _ _ ho,hd⟩⟩
  cell:=fun x c h=>by
    obtain ⟨v,o,ho,hd⟩:=I.cell x c (S.cells I.ok h)
    exact ⟨v,o,hk _ _ ho,hd⟩
  free:=I.hok.fresh (Nat.le_refl _)
  freeC:=fun x c h=>I.freeC x c (S.cells I.ok h)
  pin:=fun p hp=>absurd (show p ∈ ([]:List (Addr × Obj)) from hp) (by simp)
  hok:=I.hok.kept hk
  len:=by simpa using hl
theorem lam_run {Q:VK} {params:Arguments} {body:Expr} {pm ctv:Value} {c:Addr} {oc:Obj} {vsc:Array Value} {tq:Tok} {te:TE} {x0:Str} {u0:Value} {v0:V} {cap:List Nat} {E:Value→Shared→Prop}
    (I:Inv X pins σ H s) (S:CompSc X scope) (S0:∀ y ∈ scope.names,y.2 ≠ .cell) (hA:A'.handled=none) (hfr:A'.frames=X.A.frames) (hdp:A'.depth < recursionLimit)
    (hf:H f=some (.frz (PySem.W.kla_obj "<lambda>" qual params body scope (clOf X.env.cells scope.names []) pm c ctv) (.own 0))) (hc:H c=some (.frz oc (.own 0))) (hod:oc.data = .fields vsc) (hq:vsc[1]?=some (.str qual tq))
    (hco:scope.isCoroutine=false) (hgen:scope.isGenerator=false)
    (hbind:bindArgs (PySem.W.kla_fn "<lambda>" qual params body scope (clOf X.env.cells scope.names []) pm (.ref c) ctv) ⟨[u0],[]⟩=pure [(x0,u0)])
    (r0:RelV v0 u0) (h0:N'[0]?=some x0) (hx0:scope.names.lookup x0=some .local) (hl:N'.length=1 + cap.length)
    (hcap:∀ (k:Nat) (j:Nat),cap[k]?=some j→∃ x,N'[1 + k]?=some x∧X.N[j]?=some x∧(x,NameKind.free) ∈ scope.names)
    (he:∀ L s₃ H₃,PE (lamX X N' qual scope A' L f (.ref c) s₃ H₃) body te)
    (h:te (some v0 :: cap.map fun j=>(σ[j]?).getD none) H Q) :
    wpAny (model X.prog X.w) A' (call (.ref f) [u0]) (EP X pins σ Q) E s:=by
  obtain ⟨gf,_⟩:=I.hok f _ hf
  obtain ⟨gc,_⟩:=I.hok c _ hc
  refine wpAny_call (PySem.W.kla_callFunE hdp gf rfl hco hgen rfl ⟨c,oc,vsc,tq,rfl,gc,hod,hq⟩ ?_)
  rw [hbind]
  refine wpAny_pure (wpAny_newFunctionEnv S0 (fun y hy=>?_) (fun h₁ hns hsb=>⟨I.nolimit.fresh _ hsb,?_⟩) S.kind)
  · have:y=(x0,u0):=by simpa using hy
    rw [this]; exact hx0
  · have hk:∀ b o,s.heap.get? b=some o→h₁.get? b=some o:=fun b o e=>hsb.extBut b o (Nat.ne_of_lt (Heap.lt_size e)) (Heap.get?_push_of_some _ e)
    have J:=lam_inv (N':=N') (qual:=qual) (f:=f) (cd := .ref c) (t1:=s.toks + [(x0,u0)].length) (cs:=cap.map fun j=>(σ[j]?).getD none) I S S0 hA hfr hns hk r0 h0 hx0 (by simp [hl]; omega) (fun i x v e1 e2=>by
      rw [List.getElem?_map] at e2
      cases ej:cap[i]? with
      | none=>rw [ej] at e2; cases e2
      | some j =>
        rw [ej] at e2
        obtain ⟨x',a1,a2,a3⟩:=hcap i j ej
        rw [Nat.add_comm 1 i,e1] at a1
        cases a1
        refine ⟨a3,j,a2,?_⟩
        have e2:(σ[j]?).getD none=some v:=by simpa using e2
        cases q:σ[j]? with
        | none=>rw [q] at e2; cases e2
        | some z=>rw [q] at e2; have:z=some v:=e2; rw [this])
    refine PySem.W.kla_codeExpr (wpAny_mono (he _ _ _ [] _ _ H Q J h) (fun v s' hs=>?_) fun e s' hF=>False.elim hF)
    obtain ⟨v',H',K,rv,q⟩:=hs
    exact I.after ⟨v',H',K.os,K.bare,K.base,K.hok,rv,q⟩
theorem lam_make {E:Value→Shared→Prop} {Q:Value→Shared→Prop} {params:Arguments} {body:Expr} {pos:Pos} {c P:Addr} {q:Str}
    (I:Inv X pins σ H s) (S:CompSc X scope) (hcode:X.env.code = .ref c) (C:PySem.W.CodeHd X.base c P) (hP:(P,q) ∈ X.base.tabs) (hq:X.env.qual ++ "<lambda>"=q) (hdef:defaultsOf params X.env=([],[]))
    (h:∀ f c' oc vs tk pm ctv s',Inv X pins σ (upd (upd H c' (.frz oc (.own 0))) f (.frz (PySem.W.kla_obj "<lambda>" q params body scope (clOf X.env.cells scope.names []) pm c' ctv) (.own 0))) s' →
      (H c'=none ∨ H c'=some (.frz oc (.own 0)))→H f=none→c' ≠ f→oc.data = .fields vs→vs[1]?=some (.str q tk)→Q (.ref f) s') :
    wpAny (model X.prog X.w) X.A (eval (.Lambda params body scope pos) X.env) Q E s:=by
  have hPt:=I.tabs hP
  obtain ⟨ps,gP,tr,cod⟩:=I.hok P _ hPt
  have Ck:=C.keeps I.bk
  have hns:s.heap.Ns mainGlobals X.mg:=I.mod.glob.keeps I.bk
  obtain ⟨bm,ob,b1,b2,b3,b4,b5,b6⟩:=I.mod.bm
  have hgP:mainGlobals ≠ P:=fun z=>by
    obtain ⟨o,es,ep,e,hd,_⟩:=hns
    rw [z,gP] at e; cases e; cases hd
  have hbP:bm ≠ P:=fun z=>by
    have e:=I.bk _ _ b3
    rw [z,gP] at e; cases e; cases b4
  have hbG:bm ≠ mainGlobals:=fun z=>by
    obtain ⟨o,es,ep,e,hd,_⟩:=I.mod.glob
    rw [z,e] at b3; cases b3; rw [hd] at b6; cases b6
  subst hq
  refine PySem.W.kla_eval hdef ?_
  cases hf:codeAmong pos ps.toList with
  | none =>
    refine PySem.W.kla_makeFunction (mg:=X.mg) (closure_eq (S.frees I.ok)) I.ok.glob hns hcode Ck gP tr hf hgP ⟨bm,ob,b1,b2,hbG,hbP,I.bk _ _ b3,b4,b5,b6⟩ fun c' ctv h' tk hx hge hlt hrec htb=>?_
    obtain ⟨c₂,oc,vs,t,e2,hoc,hd,hv⟩:=hrec
    cases e2
    have nc:H c'=none:=I.hok.fresh hge
    have lf:s.heap.objs.size ≤ h'.objs.size:=Nat.le_of_lt (Nat.lt_of_le_of_lt hge hlt)
    have nf:H h'.objs.size=none:=I.hok.fresh lf
    refine h h'.objs.size c' oc vs t _ ctv _ (I.coded hPt (fun b o n e=>Heap.get?_push_of_some _ (hx b o n e)) (Heap.get?_push_of_some _ hoc) (Heap.get?_push_size _ rfl) (.inl nc) (fun _=>hge) lf (Nat.ne_of_lt hlt) ?_) (.inl nc) nf (Nat.ne_of_lt hlt) hd hv
    refine ⟨_,Heap.get?_push_of_some _ htb,?_,fun pos' cv e=>?_⟩
    · rw [Array.toList_append]
      exact TriplesOk_snoc _ _ _ _ tr
    · have key:∀ l:List Value,TriplesOk l→codeAmong pos' (l ++ [rawInt pos.line,rawInt pos.col, .ref c'])=some cv→codeAmong pos' l=some cv ∨ cv = .ref c':=by
        intro l
        fun_induction TriplesOk l with
        | case1 =>
          intro _ e
          simp only [List.nil_append,codeAmong,rawInt] at e
          split at e
          · cases e; exact .inr rfl
          · cases e
        | case2 a t b u x rest ih =>
          intro hr e
          simp only [List.cons_append,codeAmong] at e ⊢
          split at e
          · rename_i w; rw [if_pos w]; exact .inl e
          · rename_i w; rw [if_neg w]; exact ih hr e
        | case3 l h1 h2=>intro h; exact h.elim
      rw [Array.toList_append] at e
      have sm:∀ b u,H b=some u→upd (upd H c' (.frz oc (.own 0))) h'.objs.size (.frz (PySem.W.kla_obj "<lambda>" (X.env.qual ++ "<lambda>") params body scope (clOf X.env.cells scope.names []) ((X.mg "__name__").getD .none) c' ctv) (.own 0)) b=some u:=fun b u e=>by
        rw [upd_ne (fun z=>by rw [z,nf] at e; cases e),upd_ne (fun z=>by rw [z,nc] at e; cases e)]; exact e
      rcases key _ tr e with w | w
      · obtain ⟨c3,oc3,vs3,t3,a1,a2,a3⟩:=cod pos' cv w
        exact ⟨c3,oc3,vs3,t3,a1,sm _ _ a2,a3⟩
      · exact ⟨c',oc,vs,t,w,by rw [upd_ne (Nat.ne_of_lt hlt),upd_same],hd,hv⟩
  | some cv =>
    obtain ⟨c',oc,vs,t,rfl,hcH,hd,hv⟩:=cod pos cv hf
    refine PySem.W.kla_makeFunctionHit (mg:=X.mg) (closure_eq (S.frees I.ok)) I.ok.glob hns hcode Ck gP tr hf ⟨bm,ob,b1,b2,hbG,hbP,I.bk _ _ b3,b4,b5,b6⟩ fun ctv h' tk hk hsz=>?_
    have lf:s.heap.objs.size ≤ h'.objs.size:=hsz
    have nf:H h'.objs.size=none:=I.hok.fresh lf
    obtain ⟨gc,_⟩:=I.hok c' _ hcH
    have ne:c' ≠ h'.objs.size:=fun z=>by rw [z,nf] at hcH; cases hcH
    have sm:∀ b u,H b=some u→upd (upd H c' (.frz oc (.own 0))) h'.objs.size (.frz (PySem.W.kla_obj "<lambda>" (X.env.qual ++ "<lambda>") params body scope (clOf X.env.cells scope.names []) ((X.mg "__name__").getD .none) c' ctv) (.own 0)) b=some u:=fun b u e=>by
      rw [upd_ne (fun z=>by rw [z,nf] at e; cases e)]
      by_cases z:b=c'
      · subst z; rw [hcH] at e; cases e; rw [upd_same]
      · rw [upd_ne z]; exact e
    refine h h'.objs.size c' oc vs t _ ctv _ (I.coded hPt (fun b o n e=>Heap.get?_push_of_some _ (hk b o e)) (Heap.get?_push_of_some _ (hk _ _ gc)) (Heap.get?_push_size _ rfl) (.inr hcH) (fun n=>by rw [hcH] at n; cases n) lf ne ?_) (.inr hcH) nf ne hd hv
    refine ⟨ps,Heap.get?_push_of_some _ (hk _ _ gP),tr,fun pos' cv e=>?_⟩
    obtain ⟨c3,oc3,vs3,t3,a1,a2,a3⟩:=cod pos' cv e
    exact ⟨c3,oc3,vs3,t3,a1,sm _ _ a2,a3⟩
end
end L2
namespace DL
open PySem PySem.Spec PyProof.Rows L2
def cmpI (mx:Bool) (i j:Int):Bool:=if mx then decide (i > j) else decide (i < j)
def lexI (mx:Bool):List Int→List Int→Bool
  | i :: r,j :: q=>if decide (i=j) then lexI mx r q else cmpI mx i j
  | _,_=>false
def cmpD (mx:Bool):D→D→Option Bool
  | .int i, .int j=>some (cmpI mx i j)
  | .tup xs, .tup ys=>(intsD xs).bind fun is=>(intsD ys).bind fun js=>if is.length=js.length then some (lexI mx is js) else none
  | _,_=>none
def bestD (mx:Bool) (fb:DE) (cs:List D):D→D→List D→Option D
  | b,_,[]=>some b
  | b,k,d :: ds=>(fb (.val d :: cs.map Sl.val)).bind fun r=>if flat r.d then (cmpD mx r.d k).bind fun c=>if c then bestD mx fb cs d r.d ds else bestD mx fb cs b k ds else none
def dKey (mx:Bool) (cap:List Nat) (fa fb:DE):DE:=fun t=>(fa t).bind fun r=>(capD t cap).bind fun c=>match r.d with
  | .lst (d :: ds)=>if (intsD (d :: ds)).isSome then (fb (.val d :: c.2.map Sl.val)).bind fun k=>if flat k.d then (bestD mx fb c.2 d k.d ds).map Ev.cl else none else none
  | _=>none
end DL
namespace L2
open PySem PySem.Spec PySem.W PyProof.Rows
def lamOf (x:Str):Str:=x ++ ".<locals>." ++ "<lambda>"
theorem mem_lookN {β:Type}:∀ {l:List (Nat × β)} {a:Nat} {o:β},l.lookup a=some o→(a,o) ∈ l
  | [],_,_,e=>by cases e
  | (b,x) :: r,a,o,e=>by
    rw [List.lookup_cons] at e
    cases hb:a == b with
    | true=>rw [hb] at e; cases e; rw [eq_of_beq hb]; exact .head _
    | false=>rw [hb] at e; exact .tail _ (mem_lookN e)
def tbOf (K:Frag) (names:List Str):List (Addr × Str):=names.filterMap fun x=>(tabIn K x).map fun q=>(q.2,lamOf x)
theorem mem_tbOf {K:Frag} {names:List Str} {x:Str} {c P:Addr} (hx:x ∈ names) (h:tabIn K x=some (c,P)):(P,lamOf x) ∈ tbOf K names:=List.mem_filterMap.mpr ⟨x,hx,by rw [h]; rfl⟩
theorem of_tbOf {K:Frag} {names:List Str} {p:Addr × Str} (h:p ∈ tbOf K names):∃ x ∈ names, ∃ c,tabIn K x=some (c,p.1):=by
  obtain ⟨x,hx,e⟩:=List.mem_filterMap.mp h
  cases q:tabIn K x with
  | none=>rw [q] at e; cases e
  | some r=>rw [q] at e; cases e; exact ⟨x,hx,r.1,q⟩
def TbOk (K:Frag) (names:List Str):Prop := ∀ p ∈ tbOf K names,(tbOf K names).lookup p.1=some p.2∧K.lookup p.1=none
theorem tbOk_one {K:Frag} {x:Str} {c P:Addr} (h:tabIn K x=some (c,P)) (n:K.lookup P=none):TbOk K [x]:=fun p hp=>by
  have e:tbOf K [x]=[(P,lamOf x)]:=by simp [tbOf,h]
  rw [e] at hp ⊢
  rw [List.mem_singleton.mp hp]
  exact ⟨by simp,n⟩
theorem law_callT {P:Program} {w:World} {K:Frag} {mg mb:Str→Option Value} {CX:CXT} {k:Nat} {fa a:Addr} {fd:FuncData} {x:Str} {sp:Sp} {s₁:Shared} {vs:List Value} {ns:List Int} {names:List Str}
    (KX:K.In s₁.heap) (hns:s₁.heap.Ns mainGlobals mg) (hb:s₁.heap.Ns builtinsNs mb) (hbb:∀ x:Str,x ≠ "__name__"→mb x=bootBuiltins x) (hlim:s₁.heap.NoLimit)
    (hbm:∃ (bm:Addr) (ob:Obj),mg "__builtins__"=some (.ref bm)∧bm ≠ builtinsNs∧s₁.heap.get? bm=some ob∧ob.cls = .type "module"∧ob.dict=some builtinsNs∧ob.data = .plain) (hg:s₁.gens = #[])
    (ha:s₁.heap.get? a=some { cls := .type "list",data := .seq vs.toArray }) (hi:IntsAre vs ns) (hl:ns.length ≤ sizeLine) (hr:Room k callerA)
    (hT:∀ x ∈ names, ∀ c P,tabIn K x=some (c,P)→CodeHd s₁.heap c P∧s₁.heap.get? P=some (tabObj #[])) (hn:TbOk K names)
    (F:∀ base:BHeap,base.tabs=tbOf K names→K.In base→base.Ns mainGlobals mg→(∀ x ∈ names, ∀ c P,tabIn K x=some (c,P)→CodeHd base c P)→FnOk P w K mg base CX k fa fd [x] sp)
    (hbind:∀ (s:Shared) (u:Value),BindsTo s fd ⟨[u],[]⟩ [(x,u)]) (hsp:∀ H:Hp,SqL K H a (ns.map V.int)→sp [.ref a] H (fun v _=>v = .bl true) fun _ _ _=>False)
    (hCX:∀ H e s',CX [] H s₁ (fun _ _ _=>False) e s'→False) :
    codeAny (model P w) callerA (.call (.ref fa) ⟨[.ref a],[]⟩) (fun r s'=>r = .ok (.ret (.bool true))∧OldK s₁.heap s'.heap∧s'.os=s₁.os∧AllBare s'.gens) s₁:=by
  have rv:=vals_ints hi
  have lenV:=hi.length
  have tabH:∀ p ∈ tbOf K names, ∃ c,CodeHd s₁.heap c p.1∧s₁.heap.get? p.1=some (tabObj #[]):=fun p hp=>by
    obtain ⟨y,hy,c,e⟩:=of_tbOf hp
    exact ⟨c,hT y hy c p.1 e⟩
  have core:∀ H:Hp,SqL K H a (ns.map V.int)→HOk P w H s₁.heap→(∀ p ∈ tbOf K names,H p.1=some (.tbl p.2)) →
      (∀ b o,H b=some o→(b=a∧K.lookup a=none∧∃ ob xs,o = .frz ob (.lst xs)) ∨ ∃ q,o = .tbl q∧(b,q) ∈ tbOf K names) →
      codeAny (model P w) callerA (.call (.ref fa) ⟨[.ref a],[]⟩) (fun r s'=>r = .ok (.ret (.bool true))∧OldK s₁.heap s'.heap∧s'.os=s₁.os∧AllBare s'.gens) s₁:=by
    intro H hS hok hTB hH
    have free:∀ {b:Addr} {o:Obj},s₁.heap.get? b=some o→(o.cls = .type "list"→False)→o ≠ tabObj #[]→H b=none:=fun {b o} e n1 n2=>by
      cases q:H b with
      | none=>rfl
      | some u =>
        rcases hH b u q with ⟨rfl,_⟩ | ⟨qq,rfl,hm⟩
        · rw [ha] at e; cases e; exact (n1 rfl).elim
        · obtain ⟨c,_,e2⟩:=tabH _ hm
          have e2:s₁.heap.get? b=some (tabObj #[]):=e2
          rw [e] at e2; cases e2; exact (n2 rfl).elim
    have nsK:∀ {b:Addr} {m:Str→Option Value},s₁.heap.Ns b m→(hidT s₁.heap H).Ns b m:=fun {b m} ⟨o,es,ep,e,d,r⟩=>⟨o,es,ep,hidT_get e (by
      cases q:H b with
      | none=>rfl
      | some u =>
        rcases hH b u q with ⟨rfl,_⟩ | ⟨qq,rfl,hm⟩
        · rw [ha] at e; cases e; cases d
        · obtain ⟨c,_,e2⟩:=tabH _ hm
          have e2:s₁.heap.get? b=some (tabObj #[]):=e2
          rw [e] at e2; cases e2; cases d),d,r⟩
    have hKb:K.In (hidT s₁.heap H):=fun b o e=>hidT_get (KX b o e) (by
      cases q:H b with
      | none=>rfl
      | some u =>
        rcases hH b u q with ⟨rfl,n,_⟩ | ⟨qq,rfl,hm⟩
        · rw [n] at e; cases e
        · have n:K.lookup b=none:=(hn _ hm).2
          rw [n] at e; cases e)
    have hM:Mod K mg ⟨hidT s₁.heap H,tbOf K names⟩:=⟨hKb,nsK hns,⟨mb,nsK hb,hbb⟩,let ⟨mc,h1,h2⟩:=hlim; ⟨mc,nsK h1,h2⟩,by
      obtain ⟨bm,ob,b1,b2,b3,b4,b5,b6⟩:=hbm
      exact ⟨bm,ob,b1,b2,hidT_get b3 (free b3 (fun z=>by rw [b4] at z; simp at z) fun z=>by rw [z] at b4; cases b4),b4,b5,b6⟩⟩
    have hCd:∀ x ∈ names, ∀ c P,tabIn K x=some (c,P)→CodeHd (hidT s₁.heap H) c P:=fun x hx c P e=>by
      obtain ⟨⟨o,vs,file,tf,flags,tg,inF,text,tt,e1,r1,r⟩,_⟩:=hT x hx c P e
      exact ⟨o,vs,file,tf,flags,tg,inF,text,tt,hidT_get e1 (free e1 (fun z=>by rw [r1] at z; simp at z) fun z=>by rw [z] at r1; cases r1),r1,r⟩
    have e0:Env0 P w K mg ⟨hidT s₁.heap H,tbOf K names⟩ callerA [] s₁ H:=⟨rfl,hM,fun b o e=>of_hidT e,Nat.le_of_eq (hidT_size _ _),trivial,fun b hb=>absurd (show b ∈ ([]:List Addr) from hb) (by simp),hok, .of_eq hg,hTB⟩
    refine codeAny_mono ((F ⟨hidT s₁.heap H,tbOf K names⟩ rfl hKb (nsK hns) hCd).run callerA [] s₁ H ⟨[.ref a],[]⟩ [.ref a] [.ref a] _ _ hr e0 (hbind s₁ (.ref a)) (.cons rfl .nil) (hsp H hS)) fun r s' h=>?_
    cases r with
    | error e=>exact (hCX H e s' h).elim
    | ok fl =>
      cases fl with
      | next=>exact False.elim h
      | brk=>exact False.elim h
      | cont=>exact False.elim h
      | ret u =>
        obtain ⟨v,H',os,bare,un,hok',r',q⟩:=h
        have q':v = .bl true:=q
        subst q'
        obtain rfl:u=Value.bool true:=r'
        have kp:∀ b o,s₁.heap.get? b=some o→s'.heap.get? b=some o ∨ ∃ qq,H b=some (.tbl qq):=fun b o e=>by
          cases q:H b with
          | none=>exact .inl (un.keep b o e q (by intro z; exact absurd (show b ∈ ([]:List Addr) from z) (by simp)) (by simp))
          | some u =>
            rcases hH b u q with ⟨rfl,_,ob,xs,rfl⟩ | ⟨qq,rfl,hm⟩
            · obtain ⟨e1,_⟩:=hok b _ q
              obtain ⟨e2,_⟩:=hok' b _ (un.frzs b ob _ q)
              rw [e] at e1; cases e1
              exact .inl e2
            · exact .inr ⟨qq,rfl⟩
        refine ⟨rfl,⟨fun b o e=>?_,fun b o e=>?_⟩,os,bare⟩
        · rcases kp b o e with z | ⟨qq,z⟩
          · exact .inl z
          · rcases hH b _ z with ⟨_,_,ob,xs,z2⟩ | ⟨q2,z2,hm⟩
            · cases z2
            · obtain ⟨c,C,e2⟩:=tabH _ hm
              have e2:s₁.heap.get? b=some (tabObj #[]):=e2
              rw [e] at e2
              cases e2
              obtain ⟨ps,e3,_⟩:=hok' b _ (un.tbls b _ z)
              have C:CodeHd s₁.heap c b:=C
              exact .inr (.inl ⟨(C.tab e).isCodeTable,rfl, #[],ps,rfl,by simpa using e3⟩)
        · rcases kp b o e with z | ⟨qq,z⟩
          · exact ⟨o,z⟩
          · obtain ⟨ps,e3,_⟩:=hok' b _ (un.tbls b _ z)
            exact ⟨_,e3⟩
  have tabO:∀ (H:Hp) (p:Addr × Str),p ∈ tbOf K names→ObjOk P w H s₁.heap p.1 (.tbl p.2):=fun H p hp=>by
    obtain ⟨c,_,e⟩:=tabH p hp
    exact ⟨#[],e,trivial,fun pos cv z=>by cases z⟩
  have lk:∀ b q,(tbOf K names).lookup b=some q→(b,q) ∈ tbOf K names:=fun b q e=>mem_lookN e
  have aT:∀ q,(a,q) ∈ tbOf K names→False:=fun q hm=>by
    obtain ⟨c,_,e⟩:=tabH _ hm
    have e:s₁.heap.get? a=some (tabObj #[]):=e
    rw [ha] at e; cases e
  cases hk:K.lookup a with
  | some o =>
    have e:=KX a o hk
    rw [ha] at e
    cases e
    refine core (fun b=>((tbOf K names).lookup b).map HO.tbl) (.inr ⟨_,vs.toArray,_,hk,rfl,rfl,rfl,by rw [List.size_toArray,lenV]; exact hl,by simpa using rv⟩) (fun b u z=>?_) (fun p hp=>by simp only [(hn p hp).1,Option.map_some]) fun b u z=>?_
    · cases q:(tbOf K names).lookup b with
      | none=>simp only [q] at z; cases z
      | some qq=>simp only [q] at z; cases z; exact tabO _ _ (lk b qq q)
    · cases q:(tbOf K names).lookup b with
      | none=>simp only [q] at z; cases z
      | some qq=>simp only [q] at z; cases z; exact .inr ⟨qq,rfl,lk b qq q⟩
  | none =>
    refine core (fun b=>if b=a then some (.frz { cls := .type "list",data := .seq vs.toArray } (.lst (ns.map V.int))) else ((tbOf K names).lookup b).map HO.tbl) (.inl (.inr ⟨{ cls := .type "list",data := .seq vs.toArray },if_pos rfl⟩)) (fun b u z=>?_) (fun p hp=>?_) fun b u z=>?_
    · by_cases hb:b=a
      · have z':=(if_pos hb).symm.trans z
        cases z'
        subst hb
        exact ⟨ha,by rw [List.length_map]; exact hl,vs,_,rv,ha⟩
      · have z':=(if_neg hb).symm.trans z
        cases q:(tbOf K names).lookup b with
        | none=>simp only [q] at z'; cases z'
        | some qq=>simp only [q] at z'; cases z'; exact tabO _ _ (lk b qq q)
    · have:p.1 ≠ a:=fun e=>aT p.2 (by rw [← e]; exact hp)
      simp only [this,if_false,(hn p hp).1,Option.map_some]
    · by_cases hb:b=a
      · have z':=(if_pos hb).symm.trans z
        cases z'
        exact .inl ⟨hb,hk,_,_,rfl⟩
      · have z':=(if_neg hb).symm.trans z
        cases q:(tbOf K names).lookup b with
        | none=>simp only [q] at z'; cases z'
        | some qq=>simp only [q] at z'; cases z'; exact .inr ⟨qq,rfl,lk b qq q⟩
end L2
namespace L2
open PySem PySem.W PyProof.Rows
theorem walk_ofT {l:PySem.W.OpenLaw} {n k:Nat} {q:Program} {loose:List Str} {XP:(Str→Option Value)→Heap→Prop} {YP:World→Heap→Prop} {d:DefRec} {K:Params→PySem.W.Frag} {CX:World→CXT} {sp:World→Sp} {x:Str} {names:List Str}
    (hn:l.most=some n) (hn2:n ≤ sizeLine) (hdf:d.params.defaults=[]) (hr:Room k callerA)
    (hY:∀ (w:World) (h:Heap),YP w h→(K w.params).In h) (hrec:∀ x ∈ names, ∃ dr,(recsOf q).find? (fun e=>e.name == x)=some dr)
    (F:∀ (w:World) (mg:Str→Option Value) (fa:Addr) (h:Heap),(K w.params).In h→h.Ns mainGlobals mg→mg d.name=some (.ref fa) →
      TbOk (K w.params) names∧∃ fd:FuncData,(∀ (s:Shared) (u:Value),BindsTo s fd ⟨[u],[]⟩ [(x,u)]) ∧
        ∀ base:BHeap,base.tabs=tbOf (K w.params) names→(K w.params).In base→base.Ns mainGlobals mg→(∀ x ∈ names, ∀ c P,tabIn (K w.params) x=some (c,P)→CodeHd base c P)→FnOk l.prog w (K w.params) mg base (CX w) k fa fd [x] (sp w))
    (hsp:∀ (w:World) (H:Hp) (a:Addr) (ns:List Int),ns.length ≤ n→(∀ i ∈ ns,i.natAbs < bndS)→SqL (K w.params) H a (ns.map V.int)→sp w [.ref a] H (fun v _=>v = .bl true) fun _ _ _=>False)
    (hCX:∀ (w:World) (H:Hp) (s:Shared) (e:Value) (s':Shared),CX w [] H s (fun _ _ _=>False) e s'→False) :
    PySem.W.WalkO q loose XP YP l.row.toRowW d [] (fun f vs=>PySem.call f vs):=by
  intro w s₀ s₁ mg mb G Y fa o pm cd doc dV kV ho hd hcd hD hmg hg args vals as hpre hlay hrd hwl hlo
  obtain rfl:dV = .none:=Dflts.none hD hdf
  obtain rfl:kV = .none:=Dflts.noKw hD
  obtain ⟨a,vs,ns,rfl,rfl,hobj,hints,hlen⟩:=Att.script_of hn hpre hwl
  have hb:=bnd_of hlay
  have KX:=hY w _ Y
  obtain ⟨hok,fd,hbd,hF⟩:=F w mg fa _ KX G.T.g hmg
  refine enter_call (codeAny_mono (law_callT KX G.T.g G.T.b G.T.builtins G.T.nolimit G.T.bmain hg hobj hints (Nat.le_trans hlen hn2) hr (fun x hx c P e=>by
    obtain ⟨dr,h⟩:=hrec x hx
    exact tab_of G.T KX h e) hok hF hbd (fun H hS=>hsp w H a ns hlen hb hS) fun H e s'=>hCX w H s₁ e s') fun r s' hq=>?_)
  obtain ⟨rfl,h2,h3,h4⟩:=hq
  exact ⟨.inl ⟨.bool true, .bool true,[],rfl,fun _=>rfl, .bool true,Att.post_true l _,fun _=>⟨List.Pairwise.nil,fun _ hm=>(nomatch hm)⟩⟩,h2,h3,h4⟩
end L2
namespace DL
open PySem PySem.Spec PyProof.Rows L2
theorem _root_.L2.Room.dep {k:Nat} {A:Around} (r:Room k A):A.depth < recursionLimit:=by have:=r.dp; omega
def isSt:Expr→Bool
  | .Starred _ _=>true
  | _=>false
theorem star_ns {a:Expr} {es:List Expr} {env:Env} (h:isSt a=false):starEach (a :: es) env=(false,eval a env) :: starEach es env:=by
  cases a <;> first | rfl | cases h
section
variable {X:Cx} {F:List Addr} {a body:Expr} {fa fb:DE} {pos:Pos} {scope:Scope}
def lamNo (names:List (Str × NameKind)):Bool:=names.all fun y=>y.2 != .cell
theorem lamNo_of {names:List (Str × NameKind)} (h:lamNo names=true):∀ y ∈ names,y.2 ≠ .cell:=fun y hy=>by
  have:=List.all_eq_true.mp h y hy
  simpa using this
end
theorem _root_.L2.Fun.okC {P:Program} {w:World} {K:PySem.W.Frag} {mg:Str→Option Value} {base:BHeap} {x qual:Str} {st:Stmt} {f:Addr} {fd:FuncData} {N ps:List Str} {k:Nat} {sp:Sp} (F:L2.Fun K x qual st f fd) (S:FnScope N ps (defScope st)) (len:∀ vs H Q E,sp vs H Q E→vs.length=ps.length)
    (hbody:∀ (A:Around) (outer:List Env) (s:Shared) (H:Hp) (vs:List V) (Q:VK) (E:XK),Room k (A.deeper (envOfC qual (defScope st) s.heap.objs.size f fd.code))→sp vs H Q E →
      ∃ t,PSs (cxOf CX0 P w K mg base N qual (defScope st) f fd.code A outer s H E).nox (defBody st) t∧t { nx:=fun _ H'=>Q .non H',rt:=Q } (start N vs) H):FnOk P w K mg base CX0 (k + 1) f fd ps sp:=by
  obtain ⟨oc,od,kV,doc,pm,an,cdv,ct,osl,rfl,lk,hcd⟩:=F.ex
  refine fn_of lk hcd S len fun A outer s H vs Q E hr hsp=>?_
  obtain ⟨t,h,q⟩:=hbody A outer s H vs Q E hr hsp
  exact ⟨t,h.nox,q⟩
theorem fun_okC {P:Program} {w:World} {K:PySem.W.Frag} {mg:Str→Option Value} {base:BHeap} {x qual:Str} {st:Stmt} {f:Addr} {fd:FuncData} {N ps:List Str} {k:Nat} {G:List D→Option Ev} (Fn:L2.Fun K x qual st f fd) (S:FnScope N ps (defScope st))
    (hlen:∀ ds r,G ds=some r→ds.length=ps.length) (g:DS) (hG:∀ ds r,G ds=some r→∃ o,g (startD N ds)=some o∧outEv o=some r)
    (hbody:∀ (A:Around) (outer:List Env) (s:Shared) (H:Hp) (E:XK) (F:List Addr),Room k (A.deeper (envOfC qual (defScope st) s.heap.objs.size f fd.code)) →
      PSs (cxOf CX0 P w K mg base N qual (defScope st) f fd.code A outer s H E).nox (defBody st) (dS K F g)):FnOk P w K mg base CX0 (k + 1) f fd ps (spD K G):=by
  refine Fn.okC S (fun vs H Q E h=>?_) (fun A outer s H vs Q E hr h=>?_)
  · obtain ⟨Fo,ds,r,_,hr,hg,_⟩:=h
    rw [hr.length]; exact hlen ds r hg
  · obtain ⟨Fo,ds,r,hl,hr',hg,cont⟩:=h
    obtain ⟨o,ho,hoe⟩:=hG ds r hg
    refine ⟨_,hbody A outer s H E Fo hr,dS_mk (A:=[]) (t:=startD N ds) ⟨hl,List.nodup_nil,fun p hp=>(by cases hp),?_⟩ ho ?_⟩
    · unfold startD L2.start
      rw [hr'.length]
      exact RSl.start (RSl.no_all _) hr'
    · have sm:∀ {A' H'},Gr [] H A' H'→Same H H':=fun g b o q=>g.kp b o (by simp) q
      cases o with
      | nx t' =>
        cases hoe
        exact fun σ' H' A' g' R'=>cont .non H' (sm g') .non
      | bk t'=>cases hoe
      | ct t'=>cases hoe
      | rt r' =>
        cases hoe
        intro v H' A' g' q
        refine cont v H' (sm g') ?_
        cases r with
        | cl d=>exact q
        | tm d=>exact q
        | nw xs =>
          obtain ⟨p,vs',rfl,h1,h2,h3,h4⟩:=q
          rcases h1 with h1 | h1
          · cases h1
          · exact ⟨p,vs',rfl,h1,h3,h4⟩
        | dn d =>
          obtain ⟨B,h1,h2,h3⟩:=q
          exact ⟨B,h1,fun b hb=>by rcases (h2 b hb).1 with z | z; cases z; exact z,h3⟩
theorem code_tab {K:PySem.W.Frag} {x:Str} {f c P:Addr} {oc:Value} {od:Option Addr} {fd:FuncData} {sl:Array (Option Value)} (h:PySem.W.tabIn K x=some (c,P)) (ha:PySem.W.nsIn K mainGlobals x=some (some (.ref f))) (hl:K.lookup f=some ⟨oc,od, .func fd,sl⟩):fd.code = .ref c:=by
  unfold PySem.W.tabIn at h
  rw [ha] at h
  simp only [hl] at h
  split at h
  · rename_i c' hc
    split at h
    · split at h
      · cases h; exact hc
      · cases h
    · cases h
  · cases h
end DL
namespace DL
open PySem PySem.Spec PyProof.Rows L2
abbrev DM:=Th→Option (D × Th)
abbrev DMs:=Th→Option (List D × Th)
structure Mv (K:PySem.W.Frag) (F A:List Addr) (H H':Hp) (B A':List Addr) (t':Th) (σ:L2.St):Prop where
  sm:Same H H'
  nd:B.Nodup
  dj:∀ b ∈ B,b ∉ F
  rs:RS K (B ++ F) H' A' t' σ
  fr:∀ b ∈ B,b ∈ A ∨ H b=none
  sb:∀ b ∈ A',b ∈ A
def tabOk (K:PySem.W.Frag) (x:Str):Bool:=match PySem.W.tabIn K x with
  | some q=>(K.lookup q.2).isNone
  | none=>false
theorem tabOk_of {K:PySem.W.Frag} {x:Str} (h:tabOk K x=true):∃ c P,PySem.W.tabIn K x=some (c,P)∧K.lookup P=none:=by
  unfold tabOk at h
  split at h
  · rename_i q e
    exact ⟨q.1,q.2,e,by simpa using h⟩
  · cases h
end DL
namespace TS
open PySem PyProof.Rows
section
variable (κ π:Keyed→Int)
def rk (x:Keyed):Int:=κ x * 1048576 + π x
def Ris (l:List Keyed):Prop:=l.Pairwise fun a b=>rk κ π a ≤ rk κ π b
def Below (l m:List Keyed):Prop := ∀ a ∈ l, ∀ b ∈ m,rk κ π a ≤ rk κ π b
variable {κ π}
structure Lo (X Y out:List Keyed) (i j:Nat):Prop where
  pm:out.Perm (X.take i ++ Y.take j)
  rs:Ris κ π out
  bx:Below κ π out (X.drop i)
  by':Below κ π out (Y.drop j)
variable {X Y out:List Keyed} {i j:Nat}
structure Hi (X Y out:List Keyed) (i j:Nat):Prop where
  pm:out.Perm (X.drop i ++ Y.drop j)
  rs:Ris κ π out.reverse
  bx:Below κ π (X.take i) out
  by':Below κ π (Y.take j) out
end
end TS
namespace TS
open PySem PyProof.Rows
structure Cmp (M:Model) (A:Around) (E:Value→Shared→Prop) (s:Shared) (κ π:Keyed→Int) (a₀:Array Keyed) (kd:SortKind):Prop where
  lt:∀ (st:SortSt) (x y:Keyed) (Q:Option Bool→SortSt→Prop),kindOf st=kd→x ∈ a₀.toList→y ∈ a₀.toList→Q (some (decide (κ x < κ y))) st→wpS M A E s (lt' x y) Q st
  pi:∀ x ∈ a₀.toList,0 ≤ π x∧π x < 1048576
section
variable {M:Model} {A:Around} {E:Value→Shared→Prop} {s:Shared} {κ π:Keyed→Int} {a₀:Array Keyed} {kd:SortKind} (C:Cmp M A E s κ π a₀ kd)
theorem wp_elem {ar:Array Keyed} {i:Nat} {z:Keyed} {Q:Keyed→SortSt→Prop} {st:SortSt} (hz:ar[i]?=some z) (h:Q z st):wpS M A E s (elem' ar i) Q st:=by
  rw [elem'_eq,hz]; exact wpS_pure h
end
end TS
namespace TS
open PySem PyProof.Rows
section
variable {M:Model} {A:Around} {E:Value→Shared→Prop} {s:Shared} {κ π:Keyed→Int} {a₀:Array Keyed} {kd:SortKind} (C:Cmp M A E s κ π a₀ kd)
structure SameS (st st':SortSt):Prop where
  arr:arrOf st'=arrOf st
  knd:kindOf st'=kindOf st
  pnd:pendingOf st'=pendingOf st
  fld:failedOf st'=failedOf st
structure Two (κ π:Keyed→Int) (a₀:Array Keyed) (xs ys:Array Keyed):Prop where
  mx:∀ x ∈ xs.toList,x ∈ a₀.toList
  my:∀ y ∈ ys.toList,y ∈ a₀.toList
  rx:Ris κ π xs.toList
  ry:Ris κ π ys.toList
  sep:∀ x ∈ xs.toList, ∀ y ∈ ys.toList,π x ≤ π y
  px:0 < xs.size
  py:0 < ys.size
  first:∀ x y,xs[0]?=some x→ys[0]?=some y→κ y < κ x
  last:∀ x,xs[xs.size - 1]?=some x→∀ y ∈ ys.toList,κ y < κ x
variable {xs ys:Array Keyed} {st:SortSt} (hk:kindOf st=kd) (T:Two κ π a₀ xs ys)
end
end TS
namespace TS
open PySem PyProof.Rows
section
variable {M:Model} {A:Around} {E:Value→Shared→Prop} {s:Shared} {κ π:Keyed→Int} {a₀:Array Keyed} {kd:SortKind} (C:Cmp M A E s κ π a₀ kd)
def sepL (π:Keyed→Int) (l m:List Keyed):Prop := ∀ a ∈ l, ∀ b ∈ m,π a ≤ π b
end
end TS
namespace TS
open PySem PyProof.Rows
def kA (f:Keyed→Int) (xs:Array Keyed) (i:Nat):Int:=match xs[i]? with
  | some p=>f p
  | none=>0
theorem kA_of {f:Keyed→Int} {xs:Array Keyed} {i:Nat} {z:Keyed} (h:xs[i]?=some z):kA f xs i=f z:=by unfold kA; rw [h]
theorem kA_eq {f:Keyed→Int} {xs ys:Array Keyed} {i j:Nat} (h:xs[i]?=ys[j]?):kA f xs i=kA f ys j:=by unfold kA; rw [h]
structure Chg (xs zs:Array Keyed) (lo hi:Nat):Prop where
  pm:zs.Perm xs
  out:∀ i,i < lo ∨ hi ≤ i→zs[i]?=xs[i]?
  ins:∀ i,lo ≤ i→i < hi→∃ j,lo ≤ j∧j < hi∧zs[i]?=xs[j]?
theorem Chg.refl (xs:Array Keyed) (lo hi:Nat):Chg xs xs lo hi:=⟨Array.Perm.refl _,fun _ _=>rfl,fun i h1 h2=>⟨i,h1,h2,rfl⟩⟩
theorem Chg.size {xs zs:Array Keyed} {lo hi:Nat} (h:Chg xs zs lo hi):zs.size=xs.size:=h.pm.size_eq
theorem Chg.wide {xs zs:Array Keyed} {lo hi hi':Nat} (h:Chg xs zs lo hi) (g:hi ≤ hi'):Chg xs zs lo hi' where
  pm:=h.pm
  out:=fun i hi2=>h.out i (by omega)
  ins:=fun i h1 h2=>by
    by_cases z:i < hi
    · obtain ⟨j,a,b,c⟩:=h.ins i h1 z
      exact ⟨j,a,by omega,c⟩
    · exact ⟨i,h1,h2,h.out i (by omega)⟩
theorem Chg.mir {xs zs:Array Keyed} {lo hi i0 j0:Nat} (h:Chg xs zs lo hi) (h1:lo ≤ i0) (h2:j0 ≤ hi) (h3:j0 ≤ zs.size):Chg xs (mirror zs i0 j0 ((j0 - i0) / 2)) lo hi where
  pm:=(mirror_perm _ _ _ _).trans h.pm
  out:=fun i hi2=>by
    rw [getElem?_mirror_all h3,if_neg (by omega)]
    exact h.out i hi2
  ins:=fun i a b=>by
    rw [getElem?_mirror_all h3]
    split
    · exact h.ins _ (by omega) (by omega)
    · exact h.ins i a b
theorem kA_mir {f:Keyed→Int} {zs:Array Keyed} {i0 j0:Nat} (h3:j0 ≤ zs.size) (k:Nat):kA f (mirror zs i0 j0 ((j0 - i0) / 2)) k=if i0 ≤ k∧k < j0 then kA f zs (i0 + j0 - 1 - k) else kA f zs k:=by
  have e:=getElem?_mirror_all (i:=i0) h3 k
  by_cases h1:i0 ≤ k∧k < j0
  · rw [if_pos h1] at e ⊢; exact kA_eq e
  · rw [if_neg h1] at e ⊢; exact kA_eq e
section
variable {M:Model} {A:Around} {E:Value→Shared→Prop} {s:Shared} {κ π:Keyed→Int} {a₀:Array Keyed} {kd:SortKind} (C:Cmp M A E s κ π a₀ kd)
def rA (κ π:Keyed→Int) (xs:Array Keyed) (i:Nat):Int:=kA κ xs i * 1048576 + kA π xs i
def RSeg (κ π:Keyed→Int) (xs:Array Keyed) (lo hi:Nat):Prop := ∀ i j,lo ≤ i→i ≤ j→j < hi→rA κ π xs i ≤ rA κ π xs j
def Fresh (π:Keyed→Int) (xs:Array Keyed) (m:Nat):Prop := ∀ i j,i ≤ j→m ≤ j→j < xs.size→kA π xs i ≤ kA π xs j
structure TB (a₀:Array Keyed) (kd:SortKind) (st:SortSt):Prop where
  pm:(arrOf st).Perm a₀
  kind:kindOf st=kd
  fld:failedOf st=none
theorem TB.size {st:SortSt} (h:TB a₀ kd st):(arrOf st).size=a₀.size:=h.pm.size_eq
theorem mem_at {a₀ xs:Array Keyed} (h:xs.Perm a₀) {i:Nat} (hi:i < xs.size):∃ z,xs[i]?=some z∧z ∈ a₀.toList:=⟨xs[i],by simp [hi],(Array.perm_iff_toList_perm.mp h).mem_iff.mp (by simp)⟩
include C in
theorem pi_at {xs:Array Keyed} (h:xs.Perm a₀) {i:Nat} (hi:i < xs.size):0 ≤ kA π xs i∧kA π xs i < 1048576:=by
  obtain ⟨z,z1,z2⟩:=mem_at h hi
  rw [kA_of z1]
  exact C.pi z z2
include C in
theorem wp_ltA {st:SortSt} {i j:Nat} {Q:Option Bool→SortSt→Prop} (hB:TB a₀ kd st) (hi:i < a₀.size) (hj:j < a₀.size) (h:Q (some (decide (kA κ (arrOf st) i < kA κ (arrOf st) j))) st):wpS M A E s (ltAt' i j) Q st:=by
  obtain ⟨x,x1,x2⟩:=mem_at hB.pm (i:=i) (by rw [hB.size]; exact hi)
  obtain ⟨y,y1,y2⟩:=mem_at hB.pm (i:=j) (by rw [hB.size]; exact hj)
  rw [ltAt'_eq]
  refine wpS_bind (wpS_get ?_)
  refine wpS_bind (wp_elem x1 (wpS_bind (wp_elem y1 (C.lt st x y Q hB.kind x2 y2 ?_))))
  rw [kA_of x1,kA_of y1] at h
  exact h
def Cnt (κ π:Keyed→Int) (a₀:Array Keyed) (kd:SortKind) (st:SortSt) (lo hi:Nat) (st':SortSt):Prop:=TB a₀ kd st'∧pendingOf st'=pendingOf st∧Chg (arrOf st) (arrOf st') lo hi∧RSeg κ π (arrOf st') lo hi
def ascT (lo n nr:Nat):StateT SortSt Sem (Option (Option Nat) × Nat) :=
  forIn [n:nr] ((none,n):Option (Option Nat) × Nat) fun _ r=>do
    let x ← ltAt' (lo + r.snd) (lo + r.snd - 1)
    match x with
    | some sm=>if sm=true then pure (ForInStep.done (none,r.snd)) else pure (ForInStep.yield (none,r.snd + 1))
    | _=>pure (ForInStep.done (some none,r.snd))
include C in
theorem wp_ascT {st:SortSt} {xs:Array Keyed} {lo n nr:Nat} {Q:Option (Option Nat) × Nat→SortSt→Prop} (hB:TB a₀ kd st) (hn:1 ≤ n) (hnr:n ≤ nr) (hs:lo + nr ≤ a₀.size) (fr:Fresh π xs lo) (ch:Chg xs (arrOf st) lo (lo + n)) (hr:RSeg κ π (arrOf st) lo (lo + n))
    (h:∀ m,n ≤ m→m ≤ nr→RSeg κ π (arrOf st) lo (lo + m)→(m=nr ∨ kA κ (arrOf st) (lo + m) < kA κ (arrOf st) (lo + m - 1))→Q (none,m) st):wpS M A E s (ascT lo n nr) Q st:=by
  unfold ascT
  refine wpS_forRange (I:=fun x c st'=>st'=st∧c=(none,x)∧RSeg κ π (arrOf st) lo (lo + x)) ?_ ?_ ⟨rfl,rfl,hr⟩
  · rintro x c st' hx1 hx2 ⟨rfl,rfl,hr'⟩
    dsimp only
    refine wpS_bind (wp_ltA C hB (by omega) (by omega) ?_)
    by_cases hl:kA κ (arrOf st') (lo + x) < kA κ (arrOf st') (lo + x - 1)
    · simp only [hl,decide_true,if_true]
      exact wpS_pure (h x hx1 (by omega) hr' (.inr hl))
    · simp only [hl,decide_false,Bool.false_eq_true,if_false]
      refine wpS_pure ⟨rfl,rfl,fun i j a1 a2 a3=>?_⟩
      by_cases z:j < lo + x
      · exact hr' i j a1 a2 z
      · have ej:j=lo + x:=by omega
        subst ej
        by_cases zi:i=lo + x
        · subst zi; exact Int.le_refl _
        · have sz:=hB.size
          have szx:=ch.size
          have q:=hr' i (lo + x - 1) a1 (by omega) (by omega)
          have p1:=pi_at C hB.pm (i:=i) (by omega)
          have p2:=pi_at C hB.pm (i:=lo + x - 1) (by omega)
          have p3:=pi_at C hB.pm (i:=lo + x) (by omega)
          have fx:kA π (arrOf st') i ≤ kA π (arrOf st') (lo + x):=by
            obtain ⟨k,k1,k2,k3⟩:=(ch.wide (show lo + n ≤ lo + x by omega)).ins i a1 (by omega)
            rw [kA_eq k3,kA_eq (ch.out (lo + x) (by omega))]
            exact fr k (lo + x) (by omega) (by omega) (by omega)
          unfold rA at q ⊢
          omega
  · rintro c st' ⟨rfl,rfl,hr'⟩
    rw [show max n nr=nr by omega] at hr' ⊢
    exact h nr hnr (Nat.le_refl _) hr' (.inl rfl)
def tailT (lo n nr:Nat):StateT SortSt Sem (Option Nat):=do
  reverseSlice' lo (lo + n)
  let r ← ascT lo n nr
  match r.fst with
  | some a=>pure a
  | none=>pure (some r.snd)
theorem wp_rev {st:SortSt} {i j:Nat} {Q:Unit→SortSt→Prop} (h:Q () (setArr st (mirror (arrOf st) i j ((j - i) / 2)))):wpS M A E s (reverseSlice' i j) Q st:=by
  rw [reverseSlice'_eq]; exact wpS_modify h
theorem TB.set {st:SortSt} (h:TB a₀ kd st) {zs:Array Keyed} (hp:zs.Perm (arrOf st)):TB a₀ kd (setArr st zs):=⟨hp.trans h.pm,h.kind,h.fld⟩
include C in
theorem wp_tailT {st0 st:SortSt} {lo n nr:Nat} {Q:Option Nat→SortSt→Prop} (hB:TB a₀ kd st) (hp:pendingOf st=pendingOf st0) (hn:1 ≤ n) (hnr:n ≤ nr) (hs:lo + nr ≤ a₀.size) (fr:Fresh π (arrOf st0) lo) (ch:Chg (arrOf st0) (arrOf st) lo (lo + n))
    (hf:∀ i j,lo ≤ i→i ≤ j→j < lo + n→rA κ π (arrOf st) j ≤ rA κ π (arrOf st) i) (h:∀ m st',1 ≤ m→m ≤ nr→Cnt κ π a₀ kd st0 lo (lo + m) st'→Q (some m) st'):wpS M A E s (tailT lo n nr) Q st:=by
  unfold tailT
  have sz:lo + n ≤ (arrOf st).size:=by rw [hB.size]; omega
  refine wpS_bind (wp_rev ?_)
  have hB':TB a₀ kd (setArr st (mirror (arrOf st) lo (lo + n) ((lo + n - lo) / 2))):=hB.set (mirror_perm _ _ _ _)
  have ch':Chg (arrOf st0) (mirror (arrOf st) lo (lo + n) ((lo + n - lo) / 2)) lo (lo + n):=ch.mir (Nat.le_refl _) (Nat.le_refl _) sz
  refine wpS_bind (wp_ascT C hB' hn hnr hs fr ch' (fun i j a1 a2 a3=>?_) fun m m1 m2 m3 _=>wpS_pure (h m _ (by omega) m2 ⟨hB',hp,ch'.wide (by omega),m3⟩))
  show rA κ π (mirror (arrOf st) _ _ _) i ≤ rA κ π (mirror (arrOf st) _ _ _) j
  unfold rA
  rw [kA_mir sz,kA_mir sz,kA_mir sz,kA_mir sz,if_pos (by omega),if_pos (by omega),if_pos (by omega),if_pos (by omega)]
  exact hf _ _ (by omega) (by omega) (by omega)
end
end TS
namespace TS
open PySem PyProof.Rows
section
variable {M:Model} {A:Around} {E:Value→Shared→Prop} {s:Shared} {κ π:Keyed→Int} {a₀:Array Keyed} {kd:SortKind} (C:Cmp M A E s κ π a₀ kd)
structure Dn (κ π:Keyed→Int) (a₀:Array Keyed) (kd:SortKind) (st0:SortSt) (lo x q:Nat) (st:SortSt):Prop where
  tb:TB a₀ kd st
  pd:pendingOf st=pendingOf st0
  ch:Chg (arrOf st0) (arrOf st) lo (lo + x)
  le:q + 1 ≤ x
  un:∀ i,lo + x - (q + 1) ≤ i→(arrOf st)[i]?=(arrOf st0)[i]?
  eq:∀ i,lo + x - (q + 1) ≤ i→i < lo + x→kA κ (arrOf st) i=kA κ (arrOf st) (lo + x - 1)
  fl:∀ i j,lo ≤ i→i ≤ j→j < lo + x - (q + 1)→rA κ π (arrOf st) j ≤ rA κ π (arrOf st) i
  gt:∀ i,lo ≤ i→i < lo + x - (q + 1)→kA κ (arrOf st) (lo + x - 1) < kA κ (arrOf st) i
def Fall (κ π:Keyed→Int) (zs:Array Keyed) (lo hi:Nat):Prop := ∀ i j,lo ≤ i→i ≤ j→j < hi→rA κ π zs j ≤ rA κ π zs i
include C in
theorem Dn.fall {st0 st:SortSt} {lo x q:Nat} (h:Dn κ π a₀ kd st0 lo x q st) (fr:Fresh π (arrOf st0) lo) (hs:lo + x ≤ a₀.size):Fall κ π (mirror (arrOf st) (lo + x - (q + 1)) (lo + x) ((lo + x - (lo + x - (q + 1))) / 2)) lo (lo + x):=by
  intro i j a1 a2 a3
  have sz:lo + x ≤ (arrOf st).size:=by rw [h.tb.size]; omega
  have sz0:(arrOf st0).size=(arrOf st).size:=h.ch.size.symm
  have le:=h.le
  unfold rA
  rw [kA_mir sz,kA_mir sz,kA_mir sz,kA_mir sz]
  by_cases zi:lo + x - (q + 1) ≤ i
  · rw [if_pos (by omega),if_pos (by omega),if_pos (by omega),if_pos (by omega),h.eq _ (by omega) (by omega),h.eq (lo + x - (q + 1) + (lo + x) - 1 - i) (by omega) (by omega),kA_eq (h.un (lo + x - (q + 1) + (lo + x) - 1 - j) (by omega)),kA_eq (h.un (lo + x - (q + 1) + (lo + x) - 1 - i) (by omega))]
    have:=fr (lo + x - (q + 1) + (lo + x) - 1 - j) (lo + x - (q + 1) + (lo + x) - 1 - i) (by omega) (by omega) (by omega)
    omega
  · rw [if_neg (c:=_∧i < _) (by omega),if_neg (c:=_∧i < _) (by omega)]
    by_cases zj:lo + x - (q + 1) ≤ j
    · rw [if_pos (by omega),if_pos (by omega),h.eq _ (by omega) (by omega)]
      have g:=h.gt i a1 (by omega)
      have p1:=pi_at C h.tb.pm (i:=lo + x - (q + 1) + (lo + x) - 1 - j) (by omega)
      have p2:=pi_at C h.tb.pm (i:=i) (by omega)
      omega
    · rw [if_neg (by omega),if_neg (by omega)]
      exact h.fl i j a1 a2 (by omega)
include C in
theorem Dn.fall0 {st0 st:SortSt} {lo x:Nat} (h:Dn κ π a₀ kd st0 lo x 0 st) (hs:lo + x ≤ a₀.size):Fall κ π (arrOf st) lo (lo + x):=by
  intro i j a1 a2 a3
  have sz:lo + x ≤ (arrOf st).size:=by rw [h.tb.size]; omega
  have le:=h.le
  by_cases zj:j < lo + x - (0 + 1)
  · exact h.fl i j a1 a2 zj
  · have ej:j=lo + x - 1:=by omega
    by_cases zi:i=j
    · subst zi; exact Int.le_refl _
    · have g:=h.gt i a1 (by omega)
      have p1:=pi_at C h.tb.pm (i:=lo + x - 1) (by omega)
      have p2:=pi_at C h.tb.pm (i:=i) (by omega)
      unfold rA
      rw [ej]
      omega
def descT (lo n nr:Nat):StateT SortSt Sem (Option (Option Nat) × Nat × Nat) :=
  forIn [n:nr] ((none,n,0):Option (Option Nat) × Nat × Nat) fun _ r=>do
    let x ← ltAt' (lo + r.snd.fst) (lo + r.snd.fst - 1)
    match x with
    | some sm =>
      if sm=true then
        if r.snd.snd > 0 then do
          reverseSlice' (lo + r.snd.fst - (r.snd.snd + 1)) (lo + r.snd.fst)
          pure (ForInStep.yield (none,r.snd.fst + 1,0))
        else pure (ForInStep.yield (none,r.snd.fst + 1,0))
      else do
        let y ← ltAt' (lo + r.snd.fst - 1) (lo + r.snd.fst)
        match y with
        | some lg=>if lg=true then pure (ForInStep.done (none,r.snd.fst,r.snd.snd)) else pure (ForInStep.yield (none,r.snd.fst + 1,r.snd.snd + 1))
        | _=>pure (ForInStep.done (some none,r.snd.fst,r.snd.snd))
    | _=>pure (ForInStep.done (some none,r.snd.fst,r.snd.snd))
include C in
theorem wp_descT {st0 st:SortSt} {lo n nr:Nat} {Q:Option (Option Nat) × Nat × Nat→SortSt→Prop} (fr:Fresh π (arrOf st0) lo) (hn:1 ≤ n) (hnr:n ≤ nr) (hs:lo + nr ≤ a₀.size) (D0:Dn κ π a₀ kd st0 lo n 0 st)
    (h:∀ m q st',n ≤ m→m ≤ nr→Dn κ π a₀ kd st0 lo m q st'→Q (none,m,q) st'):wpS M A E s (descT lo n nr) Q st:=by
  unfold descT
  refine wpS_forRange (I:=fun x c st' => ∃ q,c=(none,x,q)∧Dn κ π a₀ kd st0 lo x q st') ?_ ?_ ⟨0,rfl,D0⟩
  · rintro x c st' hx1 hx2 ⟨q,rfl,D⟩
    dsimp only
    have le:=D.le
    have sz:lo + x ≤ (arrOf st').size:=by rw [D.tb.size]; omega
    have hszA:=D.tb.size
    refine wpS_bind (wp_ltA C D.tb (by omega) (by omega) ?_)
    by_cases hl:kA κ (arrOf st') (lo + x) < kA κ (arrOf st') (lo + x - 1)
    · simp only [hl,decide_true,if_true]
      have mk:∀ zs:Array Keyed,zs.Perm (arrOf st')→Chg (arrOf st0) zs lo (lo + x)→Fall κ π zs lo (lo + x)→(∀ i,lo ≤ i→i < lo + x→∃ j,lo ≤ j∧j < lo + x∧zs[i]?=(arrOf st')[j]?)→zs[lo + x]?=(arrOf st')[lo + x]?→(∀ i,lo + x ≤ i→zs[i]?=(arrOf st0)[i]?)→Dn κ π a₀ kd st0 lo (x + 1) 0 (setArr st' zs):=fun zs hp hc hf hin hx hun=>{
        tb:=D.tb.set hp
        pd:=D.pd
        ch:=hc.wide (by omega)
        le:=by omega
        un:=fun i hi=>hun i (by omega)
        eq:=fun i a b=>by congr 1; omega
        fl:=fun i j a b c=>hf i j a b (by omega)
        gt:=fun i a b=>by
          show kA κ zs (lo + (x + 1) - 1) < kA κ zs i
          obtain ⟨j,j1,j2,j3⟩:=hin i a (by omega)
          rw [show lo + (x + 1) - 1=lo + x by omega,kA_eq hx,kA_eq j3]
          by_cases z:j < lo + x - (q + 1)
          · have:=D.gt j j1 z
            omega
          · rw [D.eq j (by omega) j2]
            exact hl }
      by_cases hq:q > 0
      · rw [if_pos hq]
        refine wpS_bind (wp_rev (wpS_pure ⟨0,rfl,mk _ (mirror_perm _ _ _ _) (D.ch.mir (by omega) (Nat.le_refl _) sz) (D.fall C fr (by omega)) (fun i a b=>?_) ?_ (fun i a=>?_)⟩))
        · rw [getElem?_mirror_all sz]
          split
          · exact ⟨_,by omega,by omega,rfl⟩
          · exact ⟨i,a,b,rfl⟩
        · rw [getElem?_mirror_all sz,if_neg (by omega)]
        · rw [getElem?_mirror_all sz,if_neg (by omega)]
          exact D.un i (by omega)
      · rw [if_neg hq]
        have:q=0:=by omega
        subst this
        have D1:=mk (arrOf st') (Array.Perm.refl _) D.ch (D.fall0 C (by omega)) (fun i a b=>⟨i,a,b,rfl⟩) rfl (fun i a=>D.un i (by omega))
        exact wpS_pure ⟨0,rfl,⟨⟨D1.tb.pm,D1.tb.kind,D1.tb.fld⟩,D1.pd,D1.ch,D1.le,D1.un,D1.eq,D1.fl,D1.gt⟩⟩
    · simp only [hl,decide_false,Bool.false_eq_true,if_false]
      refine wpS_bind (wp_ltA C D.tb (by omega) (by omega) ?_)
      by_cases hg:kA κ (arrOf st') (lo + x - 1) < kA κ (arrOf st') (lo + x)
      · simp only [hg,decide_true,if_true]
        exact wpS_pure (h x q st' hx1 (by omega) D)
      · simp only [hg,decide_false,Bool.false_eq_true,if_false]
        have ee:kA κ (arrOf st') (lo + x)=kA κ (arrOf st') (lo + x - 1):=by omega
        refine wpS_pure ⟨q + 1,rfl,⟨D.tb,D.pd,D.ch.wide (by omega),by omega,fun i a=>D.un i (by omega),fun i a b=>?_,fun i j a b c=>D.fl i j a b (by omega),fun i a b=>?_⟩⟩
        · rw [show lo + (x + 1) - 1=lo + x by omega]
          by_cases z:i=lo + x
          · rw [z]
          · rw [ee]; exact D.eq i (by omega) (by omega)
        · rw [show lo + (x + 1) - 1=lo + x by omega,ee]
          exact D.gt i a (by omega)
  · rintro c st' ⟨q,rfl,D⟩
    rw [show max n nr=nr by omega] at D ⊢
    exact h nr q st' hnr (Nat.le_refl _) D
def descP (lo n nr:Nat):StateT SortSt Sem (Option Nat):=do
  liftM (rule "list.sort.descending-run")
  let r ← descT lo (n + 1) nr
  match r.fst with
  | some a=>pure a
  | none =>
    if r.snd.snd > 0 then do
      reverseSlice' (lo + r.snd.fst - (r.snd.snd + 1)) (lo + r.snd.fst)
      tailT lo r.snd.fst nr
    else tailT lo r.snd.fst nr
include C in
theorem wp_descP {st0 st:SortSt} {lo n nr:Nat} {Q:Option Nat→SortSt→Prop} (fr:Fresh π (arrOf st0) lo) (hnr:n + 1 ≤ nr) (hs:lo + nr ≤ a₀.size) (D0:Dn κ π a₀ kd st0 lo (n + 1) 0 st)
    (h:∀ m st',1 ≤ m→m ≤ nr→Cnt κ π a₀ kd st0 lo (lo + m) st'→Q (some m) st'):wpS M A E s (descP lo n nr) Q st:=by
  unfold descP
  refine wpS_bind (wpS_lift (wpAny_rule ⟨rfl,?_⟩))
  refine wpS_bind (wp_descT C fr (by omega) hnr hs D0 fun m q st' h1 h2 D=>?_)
  dsimp only
  have sz:lo + m ≤ (arrOf st').size:=by rw [D.tb.size]; omega
  have le:=D.le
  by_cases hq:q > 0
  · rw [if_pos hq]
    exact wpS_bind (wp_rev (wp_tailT C (D.tb.set (mirror_perm _ _ _ _)) D.pd (by omega) h2 hs fr (D.ch.mir (by omega) (Nat.le_refl _) sz) (D.fall C fr (by omega)) h))
  · rw [if_neg hq]
    have:q=0:=by omega
    subst this
    exact wp_tailT C D.tb D.pd (by omega) h2 hs fr D.ch (D.fall0 C (by omega)) h
theorem cnt_eq (lo nr:Nat):countRun' lo nr=(do
    let r ← ascT lo 1 nr
    match r.fst with
    | some a=>pure a
    | none =>
      if (r.snd == nr)=true then pure (some r.snd)
      else if r.snd > 1 then do
        let x ← ltAt' lo (lo + r.snd - 1)
        match x with
        | some rs=>if rs=true then pure (some r.snd) else do
            reverseSlice' lo (lo + r.snd)
            descP lo r.snd nr
        | _=>pure none
      else descP lo r.snd nr):=by
  rw [countRun'_eq]
  dsimp only
  unfold descP tailT descT ascT
  congr 1
  funext r
  obtain ⟨r,n⟩:=r
  cases r with
  | some r=>rfl
  | none =>
    dsimp only
    split
    · rfl
    · split
      · congr 1
        funext x
        cases x with
        | none=>rfl
        | some rs =>
          dsimp only
          split
          · rfl
          · congr 1
            funext _u
            congr 1
            funext _v
            congr 1
            congr 1
            funext r2
            obtain ⟨r2,n2,q2⟩:=r2
            cases r2 with
            | some r2=>rfl
            | none =>
              dsimp only
              split
              · congr 1
                funext _w
                congr 1
                funext _z
                congr 1
                funext r3
                obtain ⟨r3,n3⟩:=r3
                cases r3 <;> rfl
              · congr 1
                funext _z
                congr 1
                funext r3
                obtain ⟨r3,n3⟩:=r3
                cases r3 <;> rfl
      · congr 1
        funext _v
        congr 1
        congr 1
        funext r2
        obtain ⟨r2,n2,q2⟩:=r2
        cases r2 with
        | some r2=>rfl
        | none =>
          dsimp only
          split
          · congr 1
            funext _w
            congr 1
            funext _z
            congr 1
            funext r3
            obtain ⟨r3,n3⟩:=r3
            cases r3 <;> rfl
          · congr 1
            funext _z
            congr 1
            funext r3
            obtain ⟨r3,n3⟩:=r3
            cases r3 <;> rfl
include C in
theorem wp_cnt {st:SortSt} {lo nr:Nat} {Q:Option Nat→SortSt→Prop} (hB:TB a₀ kd st) (fr:Fresh π (arrOf st) lo) (h1:1 ≤ nr) (hs:lo + nr ≤ a₀.size)
    (h:∀ m st',1 ≤ m→m ≤ nr→Cnt κ π a₀ kd st lo (lo + m) st'→Q (some m) st'):wpS M A E s (countRun' lo nr) Q st:=by
  rw [cnt_eq]
  have sz:=hB.size
  refine wpS_bind (wp_ascT C (xs:=arrOf st) hB (Nat.le_refl 1) h1 hs fr (Chg.refl _ _ _) (fun i j a b c=>by rw [show i=j by omega]; exact Int.le_refl _) fun n n1 n2 hr hor=>?_)
  dsimp only
  by_cases hn:n=nr
  · rw [if_pos (by simpa using hn)]
    exact wpS_pure (h n st n1 n2 ⟨hB,rfl,Chg.refl _ _ _,hr⟩)
  rw [if_neg (by simpa using hn)]
  have hl:=hor.resolve_left hn
  by_cases hg:n > 1
  · rw [if_pos hg]
    refine wpS_bind (wp_ltA C hB (by omega) (by omega) ?_)
    by_cases hro:kA κ (arrOf st) lo < kA κ (arrOf st) (lo + n - 1)
    · simp only [hro,decide_true,if_true]
      exact wpS_pure (h n st n1 n2 ⟨hB,rfl,Chg.refl _ _ _,hr⟩)
    · simp only [hro,decide_false,Bool.false_eq_true,if_false]
      have szn:lo + n ≤ (arrOf st).size:=by omega
      have all:∀ i,lo ≤ i→i < lo + n→kA κ (arrOf st) i=kA κ (arrOf st) (lo + n - 1):=fun i a b=>by
        have q1:=hr lo i (Nat.le_refl _) a b
        have q2:=hr i (lo + n - 1) a (by omega) (by omega)
        have p1:=pi_at C hB.pm (i:=lo) (by omega)
        have p2:=pi_at C hB.pm (i:=i) (by omega)
        have p3:=pi_at C hB.pm (i:=lo + n - 1) (by omega)
        unfold rA at q1 q2
        omega
      have keys:∀ i,lo ≤ i→i < lo + n→kA κ (mirror (arrOf st) lo (lo + n) ((lo + n - lo) / 2)) i=kA κ (arrOf st) (lo + n - 1):=fun i a b=>by
        rw [kA_mir szn,if_pos (by omega)]
        exact all _ (by omega) (by omega)
      have outs:∀ i,lo + n ≤ i→(mirror (arrOf st) lo (lo + n) ((lo + n - lo) / 2))[i]?=(arrOf st)[i]?:=fun i a=>by rw [getElem?_mirror_all szn,if_neg (by omega)]
      refine wpS_bind (wp_rev (wp_descP C fr (by omega) hs ⟨hB.set (mirror_perm _ _ _ _),rfl,((Chg.refl _ _ _).mir (Nat.le_refl _) (Nat.le_refl _) szn).wide (by omega),by omega,fun i a=>outs i (by omega),fun i a b=>by congr 1; omega,fun i j a b c=>?_,fun i a b=>?_⟩ h))
      · show rA κ π (mirror (arrOf st) _ _ _) j ≤ rA κ π (mirror (arrOf st) _ _ _) i
        unfold rA
        rw [keys i a (by omega),keys j (by omega) (by omega),kA_mir szn,kA_mir szn,if_pos (by omega),if_pos (by omega)]
        have:=fr (lo + (lo + n) - 1 - j) (lo + (lo + n) - 1 - i) (by omega) (by omega) (by omega)
        omega
      · show kA κ (mirror (arrOf st) _ _ _) _ < kA κ (mirror (arrOf st) _ _ _) _
        rw [keys i a (by omega),show lo + (n + 1) - 1=lo + n by omega,kA_eq (outs (lo + n) (Nat.le_refl _))]
        exact hl
  · rw [if_neg hg]
    have:n=1:=by omega
    subst this
    refine wp_descP C fr (by omega) hs ⟨hB,rfl,Chg.refl _ _ _,by omega,fun i a=>rfl,fun i a b=>by congr 1; omega,fun i j a b c=>?_,fun i a b=>?_⟩ h
    · have:i=j:=by omega
      subst this; exact Int.le_refl _
    · have:i=lo:=by omega
      subst this
      rw [Nat.add_sub_cancel] at hl
      exact hl
end
end TS
namespace TS
open PySem PyProof.Rows
theorem kA_bub {f:Keyed→Int} {xs:Array Keyed} {src d:Nat} (hs:src < xs.size) (hd:d ≤ src) (k:Nat):kA f (bubble xs src d) k=if k=src - d then kA f xs src else if src - d < k∧k ≤ src then kA f xs (k - 1) else kA f xs k:=by
  have e:=getElem?_bubble hs d hd k
  by_cases h1:k=src - d
  · rw [if_pos h1] at e ⊢; exact kA_eq e
  · rw [if_neg h1] at e ⊢
    by_cases h2:src - d < k∧k ≤ src
    · rw [if_pos h2] at e ⊢; exact kA_eq e
    · rw [if_neg h2] at e ⊢; exact kA_eq e
theorem Chg.bub {xs zs:Array Keyed} {lo src d:Nat} (h:Chg xs zs lo src) (h1:lo ≤ src - d) (hd:d ≤ src) (h3:src < zs.size):Chg xs (bubble zs src d) lo (src + 1) where
  pm:=(bubble_perm _ _ _).trans h.pm
  out:=fun i hi=>by
    rw [getElem?_bubble h3 d hd,if_neg (by omega),if_neg (by omega)]
    exact h.out i (by omega)
  ins:=fun i a b=>by
    rw [getElem?_bubble h3 d hd]
    split
    · exact ⟨src,by omega,by omega,h.out src (by omega)⟩
    · split
      · obtain ⟨j,j1,j2,j3⟩:=h.ins (i - 1) (by omega) (by omega)
        exact ⟨j,j1,by omega,j3⟩
      · obtain ⟨j,j1,j2,j3⟩:=h.ins i a (by omega)
        exact ⟨j,j1,by omega,j3⟩
section
variable {M:Model} {A:Around} {E:Value→Shared→Prop} {s:Shared} {κ π:Keyed→Int} {a₀:Array Keyed} {kd:SortKind} (C:Cmp M A E s κ π a₀ kd)
include C in
theorem wp_bin {st:SortSt} {lo n ok:Nat} {Q:Bool→SortSt→Prop} (hB:TB a₀ kd st) (hok:1 ≤ ok) (hn:ok ≤ n) (hs:lo + n ≤ a₀.size) (fr:Fresh π (arrOf st) (lo + ok)) (hr:RSeg κ π (arrOf st) lo (lo + ok))
    (h:∀ st',Cnt κ π a₀ kd st lo (lo + n) st'→Q true st'):wpS M A E s (binarySort' lo n ok) Q st:=by
  rw [binarySort'_eq]
  refine wpS_bind (wpS_mono (wpS_forRange (I:=fun k c st'=>c=(none,())∧Cnt κ π a₀ kd st lo (lo + min k n) st') (Q:=fun c st'=>c=(none,())∧Cnt κ π a₀ kd st lo (lo + n) st') ?_ ?_ ?_) ?_)
  · rintro k c st' k1 k2 ⟨rfl,tb,pd,ch,rs⟩
    rw [show min k n=k by omega] at ch rs
    have sz:=tb.size
    have szx:=ch.size
    refine wpS_bind (wpS_mono (wpS_forRange (I:=fun x c st2=>st2=st'∧∃ l r,c=(none,l,r)∧l ≤ r∧r ≤ k∧r - l ≤ k - x∧(∀ i,i < l→kA κ (arrOf st') (lo + i) ≤ kA κ (arrOf st') (lo + k))∧(∀ i,r ≤ i→i < k→kA κ (arrOf st') (lo + k) < kA κ (arrOf st') (lo + i)))
      (Q:=fun c st2=>st2=st'∧∃ l r,c=(none,l,r)∧l ≤ k∧(∀ i,i < l→kA κ (arrOf st') (lo + i) ≤ kA κ (arrOf st') (lo + k))∧(∀ i,l ≤ i→i < k→kA κ (arrOf st') (lo + k) < kA κ (arrOf st') (lo + i))) ?_ ?_ ⟨rfl,0,k,rfl,by omega,by omega,by omega,fun i hi=>by omega,fun i a b=>by omega⟩) ?_)
    · rintro x c st2 _ x2 ⟨rfl,l,r,rfl,a1,a2,a3,a4,a5⟩
      dsimp only
      by_cases hge:l ≥ r
      · rw [if_pos hge]
        have:l=r:=by omega
        subst this
        exact wpS_pure ⟨rfl,l,l,rfl,a2,a4,a5⟩
      · rw [if_neg hge]
        refine wpS_bind (wp_ltA C tb (by omega) (by omega) ?_)
        have up:∀ i j,i ≤ j→j < k→kA κ (arrOf st2) (lo + i) ≤ kA κ (arrOf st2) (lo + j):=fun i j q1 q2=>by
          have q:=rs (lo + i) (lo + j) (by omega) (by omega) (by omega)
          have p1:=pi_at C tb.pm (i:=lo + i) (by omega)
          have p2:=pi_at C tb.pm (i:=lo + j) (by omega)
          unfold rA at q
          omega
        by_cases hl:kA κ (arrOf st2) (lo + k) < kA κ (arrOf st2) (lo + (l + r) / 2)
        · simp only [hl,decide_true,if_true]
          refine wpS_pure ⟨rfl,l,(l + r) / 2,rfl,by omega,by omega,by omega,a4,fun i q1 q2=>?_⟩
          have:=up ((l + r) / 2) i q1 q2
          omega
        · simp only [hl,decide_false,Bool.false_eq_true,if_false]
          refine wpS_pure ⟨rfl,(l + r) / 2 + 1,r,rfl,by omega,by omega,by omega,fun i q1=>?_,a5⟩
          have:=up i ((l + r) / 2) (by omega) (by omega)
          omega
    · rintro c st2 ⟨rfl,l,r,rfl,a1,a2,a3,a4,a5⟩
      have:l=r:=by omega
      subst this
      exact ⟨rfl,l,l,rfl,a2,a4,a5⟩
    · rintro c st2 ⟨rfl,l,r,rfl,a1,a4,a5⟩
      show wpS _ _ _ _ (do moveDown' (lo + k) (lo + l); pure (ForInStep.yield (none,()))) _ _
      rw [moveDown'_eq]
      have hk:lo + k < (arrOf st2).size:=by omega
      refine wpS_bind (wpS_modify (wpS_pure ⟨rfl,tb.set (bubble_perm _ _ _),pd,?_,?_⟩))
      · rw [show min (k + 1) n=k + 1 by omega]
        exact ch.bub (by omega) (by omega) hk
      · rw [show min (k + 1) n=k + 1 by omega]
        intro i j b1 b2 b3
        show rA κ π (bubble (arrOf st2) (lo + k) (lo + k - (lo + l))) i ≤ rA κ π (bubble (arrOf st2) (lo + k) (lo + k - (lo + l))) j
        have pk:=pi_at C tb.pm hk
        have frk:∀ i,lo ≤ i→i < lo + k→kA π (arrOf st2) i ≤ kA π (arrOf st2) (lo + k):=fun i q1 q2=>by
          obtain ⟨m,m1,m2,m3⟩:=ch.ins i q1 q2
          rw [kA_eq m3,kA_eq (ch.out (lo + k) (by omega))]
          exact fr m (lo + k) (by omega) (by omega) (by omega)
        have lowA:∀ i,lo ≤ i→i < lo + l→rA κ π (arrOf st2) i ≤ rA κ π (arrOf st2) (lo + k):=fun i q1 q2=>by
          have q:=a4 (i - lo) (by omega)
          rw [show lo + (i - lo)=i by omega] at q
          have p:=frk i q1 (by omega)
          unfold rA
          omega
        have upA:∀ i,lo + l ≤ i→i < lo + k→rA κ π (arrOf st2) (lo + k) ≤ rA κ π (arrOf st2) i:=fun i q1 q2=>by
          have q:=a5 (i - lo) (by omega) (by omega)
          rw [show lo + (i - lo)=i by omega] at q
          have p:=pi_at C tb.pm (i:=i) (by omega)
          unfold rA
          omega
        have rb:∀ i,rA κ π (bubble (arrOf st2) (lo + k) (lo + k - (lo + l))) i=if i=lo + l then rA κ π (arrOf st2) (lo + k) else if lo + l < i∧i ≤ lo + k then rA κ π (arrOf st2) (i - 1) else rA κ π (arrOf st2) i:=fun i=>by
          unfold rA
          rw [kA_bub hk (by omega),kA_bub hk (by omega),show lo + k - (lo + k - (lo + l))=lo + l by omega]
          split
          · rfl
          · split <;> rfl
        rw [rb,rb]
        by_cases z1:i=lo + l
        · rw [if_pos z1]
          by_cases z2:j=lo + l
          · rw [if_pos z2]; exact Int.le_refl _
          · rw [if_neg z2,if_pos (by omega)]; exact upA _ (by omega) (by omega)
        · rw [if_neg z1]
          by_cases z3:lo + l < i∧i ≤ lo + k
          · rw [if_pos z3,if_neg (by omega),if_pos (by omega)]; exact rs _ _ (by omega) (by omega) (by omega)
          · rw [if_neg z3]
            by_cases z2:j=lo + l
            · rw [if_pos z2]; exact lowA _ b1 (by omega)
            · rw [if_neg z2]
              by_cases z4:lo + l < j∧j ≤ lo + k
              · rw [if_pos z4]; exact rs _ _ b1 (by omega) (by omega)
              · rw [if_neg z4]; exact rs _ _ b1 b2 (by omega)
  · rintro c st' ⟨hc,tb,pd,ch,rs⟩
    rw [show min (max (max ok 1) n) n=n by omega] at ch rs
    exact ⟨hc,tb,pd,ch,rs⟩
  · refine ⟨rfl,hB,rfl,Chg.refl _ _ _,?_⟩
    rw [show min (max ok 1) n=ok by omega]
    exact hr
  · rintro c st' ⟨rfl,q⟩
    exact wpS_pure (h st' q)
end
end TS
namespace TS
open PySem PyProof.Rows
def MatchP:Nat→List (List Keyed)→List (Nat × Nat × Nat)→Prop
  | _,[],[]=>True
  | lo,L :: Ls,q :: ps=>q.1=lo∧q.2.1=L.length∧MatchP (lo + L.length) Ls ps
  | _,_,_=>False
theorem MatchP.len:∀ {lo:Nat} {Ls:List (List Keyed)} {ps:List (Nat × Nat × Nat)},MatchP lo Ls ps→Ls.length=ps.length
  | _,[],[],_=>rfl
  | _,L :: Ls,q :: ps,h=>by simp [MatchP.len h.2.2]
  | _,[],_ :: _,h=>h.elim
  | _,_ :: _,[],h=>h.elim
theorem MatchP.app:∀ {Ls:List (List Keyed)} {lo:Nat} {N:List Keyed} {ps:List (Nat × Nat × Nat)} {pw:Nat},MatchP lo Ls ps→MatchP lo (Ls ++ [N]) (ps ++ [(lo + Ls.flatten.length,N.length,pw)])
  | [],lo,N,[],pw,_=>⟨by simp,rfl,trivial⟩
  | L :: Ls,lo,N,q :: ps,pw,h=>⟨h.1,h.2.1,by have:=MatchP.app (N:=N) (pw:=pw) h.2.2; simpa [Nat.add_assoc] using this⟩
  | [],_,_,_ :: _,_,h=>h.elim
  | _ :: _,_,_,[],_,h=>h.elim
section
variable {M:Model} {A:Around} {E:Value→Shared→Prop} {s:Shared} {κ π:Keyed→Int} {a₀:Array Keyed} {kd:SortKind} (C:Cmp M A E s κ π a₀ kd)
structure Runs (κ π:Keyed→Int) (a₀:Array Keyed) (kd:SortKind) (st:SortSt) (Ls:List (List Keyed)) (post:List Keyed):Prop where
  tb:TB a₀ kd st
  ar:(arrOf st).toList=Ls.flatten ++ post
  mt:MatchP 0 Ls (pendingOf st).toList
  ok:∀ L ∈ Ls,Ris κ π L∧L ≠ []
  sp:Ls.Pairwise (sepL π)
theorem fresh_of {xs:Array Keyed} {F rest:List Keyed} (e:xs.toList=F ++ rest) (h1:sepL π F rest) (h2:rest.Pairwise fun a b=>π a ≤ π b):Fresh π xs F.length:=by
  intro i j hij hm hj
  have hl:xs.size=F.length + rest.length:=by
    have:=congrArg List.length e
    simpa using this
  have ej:xs[j]?=some (rest[j - F.length]'(by omega)):=by
    rw [← Array.getElem?_toList,e,List.getElem?_append_right hm,List.getElem?_eq_getElem]
  rw [kA_of ej]
  by_cases z:i < F.length
  · have ei:xs[i]?=some (F[i]'z):=by rw [← Array.getElem?_toList,e,List.getElem?_append_left z,List.getElem?_eq_getElem z]
    rw [kA_of ei]
    exact h1 _ (List.getElem_mem _) _ (List.getElem_mem _)
  · have ei:xs[i]?=some (rest[i - F.length]'(by omega)):=by rw [← Array.getElem?_toList,e,List.getElem?_append_right (by omega),List.getElem?_eq_getElem]
    rw [kA_of ei]
    by_cases w:i=j
    · subst w; exact Int.le_refl _
    · exact List.pairwise_iff_getElem.mp h2 _ _ (by omega) (by omega) (by omega)
theorem rA_eq {xs:Array Keyed} {i:Nat} {z:Keyed} (h:xs[i]?=some z):rA κ π xs i=rk κ π z:=by unfold rA rk; rw [kA_of h,kA_of h]
theorem cnt_list {st st':SortSt} {F rest:List Keyed} {m:Nat} (e:(arrOf st).toList=F ++ rest) (hm:m ≤ rest.length) (c:Cnt κ π a₀ kd st F.length (F.length + m) st') :
    ∃ N,(arrOf st').toList=F ++ N ++ rest.drop m∧N.Perm (rest.take m)∧Ris κ π N∧N.length=m:=by
  obtain ⟨tb,pd,ch,rs⟩:=c
  have hl:(arrOf st).size=F.length + rest.length:=by
    have:=congrArg List.length e
    simpa using this
  have hl':=ch.size
  have t1:(arrOf st').toList.take F.length=F:=by
    apply List.ext_getElem?
    intro i
    rw [List.getElem?_take]
    split
    · rename_i hi
      have:=ch.out i (.inl hi)
      rw [Array.getElem?_toList,this, ← Array.getElem?_toList,e,List.getElem?_append_left hi]
    · rename_i hi
      rw [List.getElem?_eq_none (by omega)]
  have t2:(arrOf st').toList.drop (F.length + m)=rest.drop m:=by
    apply List.ext_getElem?
    intro i
    rw [List.getElem?_drop,List.getElem?_drop,Array.getElem?_toList,ch.out _ (.inr (by omega)), ← Array.getElem?_toList,e,List.getElem?_append_right (by omega)]
    congr 1; omega
  refine ⟨((arrOf st').toList.drop F.length).take m,?_,?_,?_,?_⟩
  · have q:=List.take_append_drop F.length (arrOf st').toList
    have q2:=List.take_append_drop m ((arrOf st').toList.drop F.length)
    rw [List.drop_drop,t2] at q2
    rw [t1, ← q2] at q
    rw [List.append_assoc]
    exact q.symm
  · have q:=Array.perm_iff_toList_perm.mp ch.pm
    have q0:=List.take_append_drop F.length (arrOf st').toList
    have q2:=List.take_append_drop m ((arrOf st').toList.drop F.length)
    rw [List.drop_drop,t2] at q2
    rw [t1, ← q2] at q0
    rw [← q0,e] at q
    have q3:=(List.perm_append_left_iff _).mp q
    rw [← List.take_append_drop m rest] at q3
    simp only [List.drop_append_of_le_length,List.take_append_drop] at q3
    have:rest=rest.take m ++ rest.drop m:=(List.take_append_drop m rest).symm
    rw [this] at q3
    have e4:(rest.take m ++ rest.drop m).drop m=rest.drop m:=by rw [List.take_append_drop]
    rw [e4] at q3
    exact (List.perm_append_right_iff _).mp q3
  · unfold Ris
    rw [List.pairwise_iff_getElem]
    intro i j hi hj hij
    simp only [List.getElem_take,List.getElem_drop]
    have hj':j < m:=by simp at hj; omega
    have a1:(arrOf st')[F.length + i]?=some ((arrOf st').toList[F.length + i]'(by simp; omega)):=by rw [← Array.getElem?_toList]; exact List.getElem?_eq_getElem _
    have a2:(arrOf st')[F.length + j]?=some ((arrOf st').toList[F.length + j]'(by simp; omega)):=by rw [← Array.getElem?_toList]; exact List.getElem?_eq_getElem _
    have:=rs (F.length + i) (F.length + j) (by omega) (by omega) (by omega)
    rw [rA_eq a1,rA_eq a2] at this
    exact this
  · simp; omega
end
end TS
namespace TS
open PySem PyProof.Rows
section
variable {M:Model} {A:Around} {E:Value→Shared→Prop} {s:Shared} {κ π:Keyed→Int} {a₀:Array Keyed} {kd:SortKind} (C:Cmp M A E s κ π a₀ kd)
structure Btw (κ π:Keyed→Int) (a₀:Array Keyed) (kd:SortKind) (lo:Nat) (st:SortSt) (Ls:List (List Keyed)) (rest:List Keyed):Prop where
  rn:Runs κ π a₀ kd st Ls rest
  ln:Ls.flatten.length=lo
  sp:sepL π Ls.flatten rest
  up:rest.Pairwise fun a b=>π a ≤ π b
def pushR (sz lo n:Nat):StateT SortSt Sem (ForInStep (Option Unit × Nat)):=do
  let q ← get
  match (pendingOf q).back? with
  | some (s1,n1,_)=>do
    let r ← forIn [0:sz] ((none,()):Option Unit × Unit) fun _ _=>do
      let q ← get
      match (if (pendingOf q).size > 1 then (pendingOf q)[(pendingOf q).size - 2]? else none) with
      | some (_,_,older) =>
        if older ≤ power' sz (2 * s1 + n1) (2 * s1 + n1 + n1 + n) sz then pure (ForInStep.done (none,()))
        else do
          let b ← mergeAt' ((pendingOf q).size - 2)
          if (!b)=true then pure (ForInStep.done (some (),())) else pure (ForInStep.yield (none,()))
      | _=>pure (ForInStep.done (none,()))
    match r.fst with
    | some a=>pure (ForInStep.done (some a,lo))
    | none=>do
      modify fun q=>setPending q ((pendingOf q).modify ((pendingOf q).size - 1) fun x=>(x.fst,x.2.fst,power' sz (2 * s1 + n1) (2 * s1 + n1 + n1 + n) sz))
      modify fun q=>setPending q ((pendingOf q).push (lo,n,0))
      pure (ForInStep.yield (none,lo + n))
  | _=>do
    modify fun q=>setPending q ((pendingOf q).push (lo,n,0))
    pure (ForInStep.yield (none,lo + n))
theorem btw_push {st:SortSt} {Ls:List (List Keyed)} {N rest:List Keyed} {lo n:Nat} (R:Runs κ π a₀ kd st Ls (N ++ rest)) (hl:Ls.flatten.length=lo) (hn:N.length=n) (rN:Ris κ π N) (nN:N ≠ []) (s1:sepL π Ls.flatten N) (s2:sepL π (Ls.flatten ++ N) rest) (hu:rest.Pairwise fun a b=>π a ≤ π b) :
    Btw κ π a₀ kd (lo + n) (setPending st ((pendingOf st).push (lo,n,0))) (Ls ++ [N]) rest:=by
  refine ⟨⟨⟨R.tb.pm,R.tb.kind,R.tb.fld⟩,?_,?_,fun L hL=>?_,?_⟩,?_,?_,hu⟩
  · show (arrOf st).toList=_
    rw [R.ar]; simp
  · show MatchP 0 (Ls ++ [N]) ((pendingOf st).push (lo,n,0)).toList
    have:=R.mt.app (N:=N) (pw:=0)
    rw [Array.toList_push]
    simpa [hl,hn] using this
  · rcases List.mem_append.mp hL with z | z
    · exact R.ok L z
    · rw [List.mem_singleton.mp z]; exact ⟨rN,nN⟩
  · refine List.pairwise_append.mpr ⟨R.sp,List.pairwise_singleton _ _,fun L hL L2 hL2=>?_⟩
    rw [List.mem_singleton.mp hL2]
    exact fun a ha b hb=>s1 a (List.mem_flatten.mpr ⟨L,hL,ha⟩) b hb
  · simp [hl,hn]
  · simpa using s2
def endR (sz:Nat):StateT SortSt Sem Unit:=do
  for _ in [0:sz] do
    let p:=pendingOf (← get)
    if p.size ≤ 1 then break
    let i:=p.size - 2
    let bf:=if i > 0 then p[i - 1]?.map (·.2.1) else none
    let i:=if bf.any (· < (p[i + 1]?.elim 0 (·.2.1))) then i - 1 else i
    if !(← mergeAt' i) then return
theorem to_push {α:Type} {m m':StateT SortSt Sem α} {Q Q':α→SortSt→Prop} {st:SortSt} (h:wpS M A E s m' Q' st) (e:m=m') (g:∀ r st',Q' r st'→Q r st'):wpS M A E s m Q st:=by
  subst e
  exact wpS_mono h g
end
end TS
namespace TS
open PySem PyProof.Rows
theorem minRun_all {f n r:Nat} (h:n < 64):minRun' (f + 1) n r=n + r:=by
  rw [minRun'_succ,if_pos h]
section
variable {M:Model} {A:Around} {E:Value→Shared→Prop} {s:Shared} {κ π:Keyed→Int} {a₀:Array Keyed} {kd:SortKind} (C:Cmp M A E s κ π a₀ kd)
theorem wp_end1 {st:SortSt} {sz:Nat} {Q:Unit→SortSt→Prop} (hs:(pendingOf st).size ≤ 1) (h:Q () st):wpS M A E s (endR sz) Q st:=by
  unfold endR
  dsimp only
  refine wpS_bind (wpS_mono (wpS_forRange (I:=fun x c st'=>c=(none,())∧st'=st) (Q:=fun c st'=>c=(none,())∧st'=st) ?_ ?_ ⟨rfl,rfl⟩) ?_)
  · rintro x c st2 _ hx ⟨rfl,rfl⟩
    refine wpS_bind (wpS_get ?_)
    rw [if_pos hs]
    exact wpS_pure ⟨rfl,rfl⟩
  · rintro c st2 ⟨rfl,rfl⟩
    exact ⟨rfl,rfl⟩
  · rintro c st2 ⟨rfl,rfl⟩
    exact wpS_pure h
include C in
theorem wp_runs6 {st:SortSt} {Q:Unit→SortSt→Prop} (hB:TB a₀ kd st) (hp:pendingOf st = #[]) (ha:arrOf st=a₀) (hu:a₀.toList.Pairwise fun a b=>π a ≤ π b) (h2:2 ≤ a₀.size) (h64:a₀.size < 64)
    (h:∀ st',TB a₀ kd st'→Ris κ π (arrOf st').toList→Q () st'):wpS M A E s sortRuns' Q st:=by
  rw [sortRuns'_eq]
  refine wpS_bind (wpS_get ?_)
  dsimp only
  rw [hB.size]
  have fin:∀ st' Ls,Runs κ π a₀ kd st' Ls []→Ls.length ≤ 1→Q () st':=fun st' Ls R hl=>by
    refine h st' R.tb ?_
    rw [R.ar,List.append_nil]
    match Ls,hl,R with
    | [],_,_=>exact List.Pairwise.nil
    | [L],_,R=>simpa using (R.ok L (by simp)).1
  have lenB:∀ {lo st' Ls rest},Btw κ π a₀ kd lo st' Ls rest→lo + rest.length=a₀.size:=fun {lo st' Ls rest} B=>by
    have e:=congrArg List.length B.rn.ar
    simp only [Array.length_toList,List.length_append,B.ln] at e
    rw [B.rn.tb.size] at e
    omega
  have mr:minRun' a₀.size a₀.size 0=a₀.size:=by
    obtain ⟨f,hf⟩:∃ f,a₀.size=f + 1:=⟨a₀.size - 1,by omega⟩
    rw [hf,minRun_all (by omega)]
    try omega
  have last:∀ {lo st' Ls rest},Btw κ π a₀ kd lo st' Ls rest→a₀.size ≤ lo→(pendingOf st').size ≤ 1→Ls.length ≤ 1→wpS M A E s (endR a₀.size) Q st':=fun {lo st' Ls rest} B hlo hp1 hl1=>by
    have e:=lenB B
    have:rest=[]:=List.length_eq_zero_iff.mp (by omega)
    subst this
    exact wp_end1 hp1 (fin st' Ls B.rn hl1)
  refine wpS_bind (wpS_forRange (I:=fun x c st' => ∃ Ls rest lo,c=(none,lo)∧Btw κ π a₀ kd lo st' Ls rest∧x ≤ lo∧(lo=0∧Ls=[]∧pendingOf st' = #[] ∨ lo=a₀.size∧(pendingOf st').size ≤ 1∧Ls.length ≤ 1)) ?_ ?_ ?_)
  · rintro x c st1 _ hx ⟨Ls,rest,lo,rfl,B,hxl,dj⟩
    dsimp only
    have eln:=lenB B
    by_cases hge:lo ≥ a₀.size
    · rw [if_pos hge]
      rcases dj with ⟨d1,_,_⟩ | ⟨_,d2,d3⟩
      · omega
      · exact wpS_pure (last B hge d2 d3)
    rw [if_neg hge]
    obtain ⟨lo0,ls0,pe0⟩:lo=0∧Ls=[]∧pendingOf st1 = #[]:=by
      rcases dj with d | ⟨d,_⟩
      · exact d
      · omega
    have fr:Fresh π (arrOf st1) lo:=by
      have:=fresh_of B.rn.ar B.sp B.up
      rwa [B.ln] at this
    refine wpS_bind (wp_cnt C B.rn.tb fr (by omega) (by omega) fun m st2 m1 m2 cn=>?_)
    have push:∀ (n:Nat) (st3:SortSt),n=a₀.size→1 ≤ n→n ≤ rest.length→Cnt κ π a₀ kd st1 lo (lo + n) st3→wpS M A E s (pushR a₀.size lo n) (fun r st' => ∃ Ls rest lo,r=ForInStep.yield (none,lo)∧Btw κ π a₀ kd lo st' Ls rest∧x + 1 ≤ lo∧(lo=0∧Ls=[]∧pendingOf st' = #[] ∨ lo=a₀.size∧(pendingOf st').size ≤ 1∧Ls.length ≤ 1)) st3:=fun n st3 n0 n1 n2 cn=>by
      have cn':Cnt κ π a₀ kd st1 Ls.flatten.length (Ls.flatten.length + n) st3:=by rw [B.ln]; exact cn
      obtain ⟨N,e1,e2,e3,e4⟩:=cnt_list B.rn.ar n2 cn'
      have up:=List.pairwise_append.mp ((List.take_append_drop n rest).symm ▸ B.up)
      have pe3:pendingOf st3 = #[]:=cn.2.1.trans pe0
      have bt:=btw_push (κ:=κ) (π:=π) (a₀:=a₀) (kd:=kd) (st:=st3) (Ls:=Ls) (N:=N) (rest:=rest.drop n) (lo:=lo) (n:=n) ⟨cn.1,by rw [e1]; simp,by rw [cn.2.1]; exact B.rn.mt,B.rn.ok,B.rn.sp⟩ B.ln e4 e3 (fun z=>by rw [z] at e4; simp at e4; omega) (fun a hA b hB=>B.sp a hA b (List.mem_of_mem_take (e2.mem_iff.mp hB))) (by
        intro a hA b hB
        rcases List.mem_append.mp hA with z | z
        · exact B.sp a z b (List.mem_of_mem_drop hB)
        · exact up.2.2 a (e2.mem_iff.mp z) b hB) up.2.1
      unfold pushR
      refine wpS_bind (wpS_get ?_)
      rw [show (pendingOf st3).back?=none by rw [pe3]; rfl]
      refine wpS_bind (wpS_modify (wpS_pure ⟨_,_,_,rfl,bt,by omega, .inr ⟨by omega,?_,?_⟩⟩))
      · show ((pendingOf st3).push (lo,n,0)).size ≤ 1
        rw [pe3]; simp
      · rw [ls0]; simp
    dsimp only
    by_cases hmr:m < minRun' a₀.size a₀.size 0
    · rw [if_pos hmr]
      refine wpS_bind (wpS_lift (wpAny_rule ⟨rfl,?_⟩))
      have fr2:Fresh π (arrOf st2) (lo + m):=by
        have cn':Cnt κ π a₀ kd st1 Ls.flatten.length (Ls.flatten.length + m) st2:=by rw [B.ln]; exact cn
        obtain ⟨N,e1,e2,e3,e4⟩:=cnt_list B.rn.ar (by omega) cn'
        have up:=List.pairwise_append.mp ((List.take_append_drop m rest).symm ▸ B.up)
        have:=fresh_of (F:=Ls.flatten ++ N) e1 (fun a hA b hB=>?_) up.2.1
        · rwa [List.length_append,B.ln,e4] at this
        · rcases List.mem_append.mp hA with z | z
          · exact B.sp a z b (List.mem_of_mem_drop hB)
          · exact up.2.2 a (e2.mem_iff.mp z) b hB
      refine wpS_bind (wp_bin C cn.1 m1 (by omega) (by omega) fr2 cn.2.2.2 fun st3 c3=>?_)
      have hf:Cnt κ π a₀ kd st1 lo (lo + min (a₀.size - lo) (minRun' a₀.size a₀.size 0)) st3:=by
        refine ⟨c3.1,c3.2.1.trans cn.2.1,?_,c3.2.2.2⟩
        have w1:=cn.2.2.1.wide (show lo + m ≤ lo + min (a₀.size - lo) (minRun' a₀.size a₀.size 0) by omega)
        have w2:=c3.2.2.1
        exact ⟨w2.pm.trans w1.pm,fun i hi=>(w2.out i hi).trans (w1.out i hi),fun i a b=>by
          obtain ⟨j,j1,j2,j3⟩:=w2.ins i a b
          obtain ⟨k,k1,k2,k3⟩:=w1.ins j j1 j2
          exact ⟨k,k1,k2,j3.trans k3⟩⟩
      rw [if_neg (by decide)]
      refine to_push (push _ st3 (by omega) (by omega) (by omega) hf) ?_ fun r st' hq=>?_
      · unfold pushR
        congr 1
        funext q
        cases (pendingOf q).back? with
        | none=>rfl
        | some z =>
          obtain ⟨a,b,c⟩:=z
          dsimp only
          congr 1
          funext r
          obtain ⟨r,_⟩:=r
          cases r <;> rfl
      · obtain ⟨Ls',rest',lo',rfl,b1,b2,b3⟩:=hq
        exact ⟨Ls',rest',lo',rfl,b1,b2,b3⟩
    · rw [if_neg hmr]
      refine to_push (push m st2 (by omega) m1 (by omega) cn) ?_ fun r st' hq=>?_
      · unfold pushR
        congr 1
        funext q
        cases (pendingOf q).back? with
        | none=>rfl
        | some z =>
          obtain ⟨a,b,c⟩:=z
          dsimp only
          congr 1
          funext r
          obtain ⟨r,_⟩:=r
          cases r <;> rfl
      · obtain ⟨Ls',rest',lo',rfl,b1,b2,b3⟩:=hq
        exact ⟨Ls',rest',lo',rfl,b1,b2,b3⟩
  · rintro c st1 ⟨Ls,rest,lo,rfl,B,hxl,dj⟩
    rcases dj with ⟨d1,_,_⟩ | ⟨_,d2,d3⟩
    · omega
    · exact last B (by omega) d2 d3
  · refine ⟨[],a₀.toList,0,rfl,⟨⟨hB,by rw [ha]; simp,?_,fun L hL=>(by cases hL),List.Pairwise.nil⟩,rfl,fun a hA=>(by cases hA),hu⟩,Nat.le_refl _, .inl ⟨rfl,rfl,hp⟩⟩
    rw [hp]; trivial
end
end TS
namespace TS
open PySem PyProof.Rows
def rkP (p:Int × Int):Int:=p.1 * 1048576 + p.2
def insP (p:Int × Int):List (Int × Int)→List (Int × Int)
  | []=>[p]
  | q :: r=>if rkP p ≤ rkP q then p :: q :: r else q :: insP p r
def sortP:List (Int × Int)→List (Int × Int)
  | []=>[]
  | p :: r=>insP p (sortP r)
theorem insP_perm (p:Int × Int):∀ r:List (Int × Int),(insP p r).Perm (p :: r)
  | []=>List.Perm.refl _
  | q :: r=>by
    unfold insP
    split
    · exact List.Perm.refl _
    · exact (List.Perm.cons q (insP_perm p r)).trans (List.Perm.swap p q r)
theorem sortP_perm:∀ r:List (Int × Int),(sortP r).Perm r
  | []=>List.Perm.refl _
  | p :: r=>(insP_perm p _).trans (List.Perm.cons p (sortP_perm r))
theorem insP_sorted (p:Int × Int):∀ r:List (Int × Int),r.Pairwise (fun a b=>rkP a ≤ rkP b)→(insP p r).Pairwise (fun a b=>rkP a ≤ rkP b)
  | [],_=>by simp [insP]
  | q :: r,h=>by
    unfold insP
    have hc:=List.pairwise_cons.mp h
    split
    · rename_i hle
      refine List.pairwise_cons.mpr ⟨fun x hx=>?_,h⟩
      rcases List.mem_cons.mp hx with z | z
      · rw [z]; exact hle
      · exact Int.le_trans hle (hc.1 x z)
    · rename_i hle
      refine List.pairwise_cons.mpr ⟨fun x hx=>?_,insP_sorted p r hc.2⟩
      rcases List.mem_cons.mp ((insP_perm p r).mem_iff.mp hx) with z | z
      · rw [z]; omega
      · exact hc.1 x z
theorem sortP_sorted:∀ r:List (Int × Int),(sortP r).Pairwise (fun a b=>rkP a ≤ rkP b)
  | []=>List.Pairwise.nil
  | p :: r=>insP_sorted p _ (sortP_sorted r)
theorem rkP_inj {p q:Int × Int} (h1:0 ≤ p.2∧p.2 < 1048576) (h2:0 ≤ q.2∧q.2 < 1048576) (h:rkP p=rkP q):p=q:=by
  unfold rkP at h
  have:p.1=q.1:=by omega
  have:p.2=q.2:=by omega
  exact Prod.ext ‹_› ‹_›
theorem uniqP:∀ {xs ys:List (Int × Int)},(∀ p ∈ xs,0 ≤ p.2∧p.2 < 1048576)→xs.Perm ys→xs.Pairwise (fun a b=>rkP a ≤ rkP b)→ys.Pairwise (fun a b=>rkP a ≤ rkP b)→xs=ys
  | [],ys,_,p,_,_=>(List.Perm.nil_eq p)
  | x :: xs,[],_,p,_,_=>absurd p.length_eq (by simp)
  | x :: xs,y :: ys,hb,p,h1,h2=>by
    have c1:=List.pairwise_cons.mp h1
    have c2:=List.pairwise_cons.mp h2
    have m1:x ∈ y :: ys:=p.mem_iff.mp (List.mem_cons_self ..)
    have m2:y ∈ x :: xs:=p.mem_iff.mpr (List.mem_cons_self ..)
    have e:x=y:=by
      refine rkP_inj (hb x (List.mem_cons_self ..)) (hb y m2) ?_
      have l1:rkP y ≤ rkP x:=by rcases List.mem_cons.mp m1 with z | z; rw [z]; exact Int.le_refl _; exact c2.1 x z
      have l2:rkP x ≤ rkP y:=by rcases List.mem_cons.mp m2 with z | z; rw [z]; exact Int.le_refl _; exact c1.1 y z
      omega
    subst e
    rw [uniqP (fun q hq=>hb q (List.mem_cons_of_mem _ hq)) (List.Perm.cons_inv p) c1.2 c2.2]
section
variable {prog:Program} {w:World} {A:Around} {E:Value→Shared→Prop} {s:Shared}
def nP (z:Keyed):Int × Int:=(numOf z.1,numOf z.2)
theorem cmp_ints {a₀:Array Keyed} (hk:∀ z ∈ a₀.toList, ∃ n t,z.1 = .int n t) (π:Keyed→Int) (hp:∀ z ∈ a₀.toList,0 ≤ π z∧π z < 1048576):Cmp (model prog w) A E s (fun z=>numOf z.1) π a₀ oneType' where
  lt:=fun st x y Q hkd mx my h=>by
    obtain ⟨n,t,en⟩:=hk x mx
    obtain ⟨m,u,em⟩:=hk y my
    rw [lt'_eq]
    refine wpS_bind (wpS_get ?_)
    rw [hkd,keyLt'_oneType,en,em]
    refine wpS_bind (wpS_lift (wpAny_attempt (oneLt_int ⟨rfl,?_⟩)))
    have h':Q (some (decide (n < m))) st:=by
      have e1:numOf x.1=n:=by rw [en]; rfl
      have e2:numOf y.1=m:=by rw [em]; rfl
      simpa [e1,e2] using h
    exact wpS_pure h'
  pi:=hp
theorem pw_short {α:Type} {R:α→α→Prop}:∀ {l:List α},l.length ≤ 1→l.Pairwise R
  | [],_=>List.Pairwise.nil
  | [z],_=>List.pairwise_singleton _ _
theorem run_ints {α:Type} {cont:SortSt→Sem α} {P:α→Shared→Prop} {keys:Array Value} {vs:List Value} {ks ns:List Int} (hk:IntsAre keys.toList ks) (hv:IntsAre vs ns) (hl:ks.length=ns.length) (hn:∀ n ∈ ns,0 ≤ n∧n < 1048576) (hu:ns.Pairwise (· ≤ ·)) (h64:vs.length < 64)
    (h:∀ st',(arrOf st').size=vs.length→failedOf st'=none→IntsAre ((arrOf st').map (·.2)).toList ((sortP (ks.zip ns)).map (·.2))→wpAny (model prog w) A (cont st') P E s) :
    wpAny (model prog w) A (do
      let kind ← if vs.toArray.size < 2 then pure general' else keyKind' keys
      let ((),st) ← (if vs.toArray.size < 2 then pure () else sortRuns').run (SortSt.mk' kind (keys.zip vs.toArray) #[] 7 none)
      cont st) P E s:=by
  have lk:keys.size=ks.length:=by have:=hk.length; simpa using this
  have lv:vs.length=ns.length:=hv.length
  have ez:(keys.zip vs.toArray).toList=keys.toList.zip vs:=ksk_zip keys vs
  have key:∀ z ∈ (keys.zip vs.toArray).toList,(∃ n t,z.1 = .int n t)∧∃ n t,z.2 = .int n t∧n ∈ ns:=fun z hz=>by
    rw [ez] at hz
    obtain ⟨z1,z2⟩:=z
    have m:=List.of_mem_zip hz
    obtain ⟨n,t,e⟩:=hv.all _ m.2
    refine ⟨hk.all _ m.1,n,t,e,?_⟩
    rw [← hv.nums]
    exact List.mem_map.mpr ⟨z2,m.2,by rw [e]; rfl⟩
  have npz:(keys.toList.zip vs).map nP=ks.zip ns:=by
    rw [← hk.nums, ← hv.nums,List.zip_map]
    rfl
  have out:∀ arr:Array Keyed,arr.Perm (keys.zip vs.toArray)→Ris (fun z=>numOf z.1) (fun z=>numOf z.2) arr.toList→arr.size=vs.length∧IntsAre (arr.map (·.2)).toList ((sortP (ks.zip ns)).map (·.2)):=fun arr hp hr=>by
    have hpl:=Array.perm_iff_toList_perm.mp hp
    have p1:(arr.toList.map nP).Perm (ks.zip ns):=by
      rw [← npz, ← ez]
      exact hpl.map nP
    have p2:(arr.toList.map nP).Pairwise (fun a b=>rkP a ≤ rkP b):=List.pairwise_map.mpr hr
    have e:arr.toList.map nP=sortP (ks.zip ns):=uniqP (fun p hp'=>by
      obtain ⟨k,n⟩:=p
      have:=p1.mem_iff.mp hp'
      exact hn n (List.of_mem_zip this).2) (p1.trans (sortP_perm _).symm) p2 (sortP_sorted _)
    refine ⟨by rw [hp.size_eq,Array.size_zip,lk,List.size_toArray]; omega,?_⟩
    have q:=intsAre_map (arr.map (·.2)).toList (fun v hv'=>by
      rw [Array.toList_map] at hv'
      obtain ⟨z,hz,rfl⟩:=List.mem_map.mp hv'
      obtain ⟨_,n,t,e,_⟩:=key z (hpl.mem_iff.mp hz)
      exact ⟨n,t,e⟩)
    have e2:(arr.map (·.2)).toList.map numOf=(sortP (ks.zip ns)).map (·.2):=by
      rw [← e,Array.toList_map,List.map_map,List.map_map]
      rfl
    rw [e2] at q
    exact q
  by_cases h2:vs.toArray.size < 2
  · rw [if_pos h2,if_pos h2]
    refine wpAny_bind (wpAny_pure ?_)
    dsimp only
    rw [StateT.run_pure]
    refine wpAny_bind (wpAny_pure ?_)
    dsimp only
    obtain ⟨o1,o2⟩:=out (keys.zip vs.toArray) (Array.Perm.refl _) (by
      unfold Ris
      rw [ez]
      have hz:(keys.toList.zip vs).length ≤ 1:=by
        rw [List.length_zip]
        have:vs.toArray.size=vs.length:=by simp
        omega
      exact pw_short hz)
    exact h (SortSt.mk' general' (keys.zip vs.toArray) #[] 7 none) o1 rfl o2
  · rw [if_neg h2,if_neg h2]
    have hv2:vs.toArray.size=vs.length:=by simp
    rw [ksk_kind hk (by omega)]
    refine wpAny_bind (wpAny_pure ?_)
    have szz:(keys.zip vs.toArray).size=vs.length:=by rw [Array.size_zip,lk,List.size_toArray]; omega
    have C:Cmp (model prog w) A E s (fun z=>numOf z.1) (fun z=>numOf z.2) (keys.zip vs.toArray) oneType':=cmp_ints (fun z hz=>(key z hz).1) _ fun z hz=>by
      obtain ⟨_,n,t,e,m⟩:=key z hz
      rw [e]
      exact hn n m
    have hup:(keys.zip vs.toArray).toList.Pairwise fun a b=>numOf a.2 ≤ numOf b.2:=by
      rw [ez]
      have q:((keys.toList.zip vs).map fun z=>numOf z.2)=ns:=by
        have:((keys.toList.zip vs).map fun z=>numOf z.2)=((keys.toList.zip vs).map nP).map (·.2):=by rw [List.map_map]; rfl
        rw [this,npz,List.map_snd_zip (by omega)]
      have q2:((keys.toList.zip vs).map fun z=>numOf z.2).Pairwise (· ≤ ·):=by rw [q]; exact hu
      exact List.pairwise_map.mp q2
    refine wpAny_bind (wpAny_mono (wp_runs6 C (st:=SortSt.mk' oneType' (keys.zip vs.toArray) #[] 7 none) (Q:=fun _ st'=>TB (keys.zip vs.toArray) oneType' st'∧Ris (fun z=>numOf z.1) (fun z=>numOf z.2) (arrOf st').toList) ⟨Array.Perm.refl _,rfl,rfl⟩ rfl rfl hup (by omega) (by omega) fun st' a b=>⟨a,b⟩) ?_ fun _ _ e=>e)
    rintro ⟨⟨⟩,st'⟩ s' ⟨rfl,tb,rs⟩
    obtain ⟨o1,o2⟩:=out (arrOf st') tb.pm rs
    exact h st' o1 tb.fld o2
end
end TS
namespace L2
open PySem PySem.Spec PyProof.Rows TS
section
variable {X:Cx} {pins:List (Addr × Obj)} {σ:L2.St} {H:Hp} {s:Shared} {h':Heap}
theorem Inv.adopt {t':Nat} {a:Addr} {o:HO} (I:Inv X pins σ H s) (fp:FpOk X pins H a) (k:∀ b u,b ≠ a→s.heap.get? b=some u→h'.get? b=some u) (new:ObjOk X.prog X.w (upd H a o) h' a o):Inv X pins σ (upd H a o) { s with heap:=h',toks:=t' }:=by
  have ha:H a=none:=fp.1
  have sm:∀ b u,H b=some u→upd H a o b=some u:=fun b u e=>by rw [upd_ne (fun z=>by rw [z,ha] at e; cases e)]; exact e
  refine I.step (g':=s.gens) (d':=s.drawn) (ch:=[a]) (fun b hb=>?_) (fun b u _ _ hc e _=>k b u (fun z=>hc (by simp [z])) e) (fun b u _ _ hc e _=>⟨u.slots,k b u (fun z=>hc (by simp [z])) e⟩) (fun b u hc e n=>?_)
    (fun b u hc e=>⟨u,k b u (fun z=>hc (by simp [z])) e⟩) (fun b xs e=>sm b _ e) (fun b q u e=>sm b _ e) (fun b ps e=>sm b _ e) (fun m hm=>?_) (fun b u e=>?_) I.bare
  · rw [List.mem_singleton.mp hb]
    exact ⟨fp.2.2.2.1,fp.2.1,fp.2.2.2.2.1,fp.2.2.2.2.2⟩
  · rw [upd_ne (fun z=>hc (by simp [z]))]; exact n
  · obtain ⟨q,es,ep,ho,r⟩:=hm
    exact ⟨q,es,ep,k _ q (Ne.symm fp.2.1) ho,r⟩
  · by_cases z:b=a
    · subst z
      rw [upd_same] at e
      cases e
      exact new
    · rw [upd_ne z] at e
      refine (I.hok b u e).stay (fun c v hc q=>k c v ?_ q) (fun c q=>sm c _ q) (fun c xs q=>sm c _ q) fun c o u q=>sm c _ q
      rcases hc with w | w
      · rw [w]; exact z
      · exact fun y=>by rw [y,ha] at w; cases w
end
section
variable {prog:Program} {w:World} {A:Around} {E:Value→Shared→Prop} {s:Shared}
theorem sorted_kw {u:Value} {kw:List (Str × Value)} {Q:Value→Shared→Prop} {P:List Value→Prop} (ha1:argsOk "sorted" ⟨[u],kw⟩) (ha2:∀ x,argsOk "list.sort" ⟨[.ref x],kw⟩)
    (col:∀ R:List Value→Shared→Prop,(∀ (h':Heap) (tk:Nat) (us:List Value),(∀ b o,s.heap.get? b=some o→h'.get? b=some o)→s.heap.objs.size ≤ h'.objs.size→P us→us.length ≤ 100000→R us { s with heap:=h',toks:=tk })→wpAny (model prog w) A.in1 (collect u) R E s)
    (srt:∀ (h':Heap) (tk:Nat) (us:List Value),(∀ b o,s.heap.get? b=some o→h'.get? b=some o)→s.heap.objs.size ≤ h'.objs.size→P us→us.length ≤ 100000 →
      wpAny (model prog w) A.in1.in1 (Builtin.«list.sort» ⟨[.ref h'.objs.size],kw⟩) (fun fin s'=>fin = .done (.ret .none)∧Q (.ref h'.objs.size) s') E { s with heap:=h'.push (seqObj "list" us.toArray 0),toks:=tk }) :
    wpAny (model prog w) A (call (.builtin "sorted") [u] kw) Q E s:=by
  refine call_function_entry_kw kind_sorted plain_sorted entry_sorted ha1 ?_
  unfold Builtin.«sorted»
  refine wpAny_bind (m:=checkCount "sorted" 1 1 _) (wpAny_pure ?_)
  refine wpAny_bind (col _ fun h' tk us hk hz hp hl=>?_)
  refine wpAny_bind (wpAny_newList ?_ (by rw [sizeLine_eq]; omega))
  have hoL:(h'.push (seqObj "list" us.toArray 0)).get? h'.objs.size=some (seqObj "list" us.toArray 0):=Heap.get?_push_size _ rfl
  refine wpAny_bind (wpAny_holding (wpAny_call_entry_kw slot_list_sort ⟨_,hoL,rfl⟩ entry_list_sort ?_ (ha2 _)))
  refine wpAny_mono (srt h' tk us hk hz hp hl) (fun fin s' hq=>?_) fun _ _ e=>e
  obtain ⟨rfl,hq⟩:=hq
  exact ⟨_,rfl,wpAny_pure ⟨_,rfl,hq⟩⟩
theorem collect_rng {r:Addr} {a b c:Int} {t u v:Tok} {n:Nat} {R:List Value→Shared→Prop} (hh:A.handled=none) (hr:IsRange s.heap r a b c t u v) (hsmall:Builtin.Range.small a b c=true) (hn:Builtin.Range.rangeSize a b c=n) (hlen:n ≤ 100000)
    (h:∀ (h':Heap) (tk:Nat) (us:List Value),(∀ b o,s.heap.get? b=some o→h'.get? b=some o)→s.heap.objs.size ≤ h'.objs.size→ItemsOf (fun i v => ∃ t,v = .int (a + i * c) t) us.toArray n→R us { s with heap:=h',toks:=tk }) :
    wpAny (model prog w) A (collect (.ref r)) R E s:=by
  unfold collect
  refine wpAny_bind (wpAny_runValue (codeAny_builtin entry_proto_collect' ?_))
  rw [Around.under_plainId PySem.F.plain_proto_collect _]
  show wpAny _ A.in1 (newList [] >>= fun l=>again (.builtin "list.__iadd__" ⟨[l, .ref r],[]⟩)) _ _ s
  refine wpAny_bind (wpAny_newObj_type ?_)
  refine wpAny_pure ⟨plainId_quiet PySem.F.plain_list_iadd _,codeAny_builtin entry_list_iadd' ?_⟩
  rw [Around.under_plainId PySem.F.plain_list_iadd _]
  have hS₁:(s.heap.push { cls := .type "list",data := .seq ([]:List Value).toArray }).get? s.heap.objs.size=some { cls := .type "list",data := .seq #[] }:=Heap.get?_push_size _ rfl
  have key:=wpAny_extend_range (A:=A) (s:={ s with heap:=s.heap.push { cls := .type "list",data := .seq ([]:List Value).toArray } }) (prog:=prog) (w:=w)
    (R:=fun (q:Result) (s':Shared) => ∃ (h':Heap) (tk:Nat) (acc':Array Value) (c':Nat),q = .ok (.ret (.ref s.heap.objs.size))∧s'={ s with heap:=h',toks:=tk } ∧
      (∀ b o,s.heap.get? b=some o→h'.get? b=some o)∧s.heap.objs.size ≤ h'.objs.size∧h'.get? s.heap.objs.size=some { cls := .type "list",dict:=none,data := .seq acc' c',slots := #[] }∧ItemsOf (fun i v => ∃ t,v = .int (a + i * c) t) acc' n)
    hh (Heap.get?_push_of_some _ hr) hsmall hn (by omega) s.heap.objs.size (.ref s.heap.objs.size) 0 hS₁
    (fun h' tk acc' c' hk hS' hacc=>⟨h',tk,acc',c',rfl,rfl,fun b o e=>hk b o (Nat.ne_of_lt (Heap.lt_size e)) (Heap.get?_push_of_some _ e),Nat.le_of_lt (Heap.lt_size hS'),hS',hacc⟩)
  show wpAny _ A.in1 (Builtin.List.listExtendWith (.ref s.heap.objs.size) (.ref r) (.ref s.heap.objs.size)) _ _ _
  refine wpAny_mono key (fun fin s' x=>?_) fun e s' x=>?_
  · cases fin with
    | done f =>
      obtain ⟨h',tk,acc',c',e,rfl,hk,hz,hS',hacc⟩:=x
      cases e
      show wpAny _ A (load s.heap.objs.size >>= _) _ _ _
      refine wpAny_bind (wpAny_load hS' ?_)
      exact wpAny_pure (h h' tk acc'.toList hk hz (by simpa using hacc))
    | again c₁ =>
      refine ⟨x.1,codeAny_mono x.2 fun q s₂ y=>?_⟩
      obtain ⟨h',tk,acc',c',rfl,rfl,hk,hz,hS',hacc⟩:=y
      show wpAny _ A (load s.heap.objs.size >>= _) _ _ _
      refine wpAny_bind (wpAny_load hS' ?_)
      exact wpAny_pure (h h' tk acc'.toList hk hz (by simpa using hacc))
  · obtain ⟨_,_,_,_,e',_⟩:=x
    cases e'
end
section
variable {X:Cx} {pins:List (Addr × Obj)} {σ:L2.St} {a f:Addr} {us:List Value} {ns:List Int} {KT:Int→Hp→VK→Prop} {W:Nat→List Int→Hp→Prop}
theorem ls_key {A':Around} {H:Hp} {s:Shared} {n:Nat} {E:Value→Shared→Prop} {P:PySem.Fin→Shared→Prop} (I:Inv X pins σ H s) (fpa:FpOk X pins H a) (ho:s.heap.get? a=some (seqObj "list" us.toArray n)) (hi:IntsAre us ns) (hz:us.length < 64)
    (hn:∀ n ∈ ns,0 ≤ n∧n < 1048576) (hu:ns.Pairwise (· ≤ ·))
    (turn:∀ (x:Int) (H1:Hp) (s1:Shared) (pins1:List (Addr × Obj)) (Q1:VK) (u:Value),Inv X pins1 σ H1 s1→RelV (.int x) u→KT x H1 Q1→wpAny (model X.prog X.w) A' (call (.ref f) [u]) (EP X pins1 σ Q1) (fun _ _=>False) s1)
    (w0:W 0 [] H) (stp:∀ i ks H1 x,W i ks H1→ns[i]?=some x→KT x H1 fun k H2 => ∃ m,k = .int m∧W (i + 1) (ks ++ [m]) H2)
    (fin:∀ ks H1 s',W ns.length ks H1→ks.length=ns.length→Inv X pins σ (upd H1 a (.lst (((sortP (ks.zip ns)).map (·.2)).map V.int))) s'→P (.done (.ret .none)) s') :
    wpAny (model X.prog X.w) A' (Builtin.«list.sort» ⟨[.ref a],[(Str.ofString "key", .ref f)]⟩) P E s:=by
  rw [ksk_t1]
  have ha:a < s.heap.objs.size:=Heap.lt_size ho
  have lz:us.length=ns.length:=hi.length
  obtain ⟨e1,ho1⟩:∃ e1,(s.heap.update a (Obj.mapSeq fun _=>(#[]:Array Value))).get? a=some (seqObj "list" #[] e1):=⟨_,get?_update_seq ho fun _ => #[]⟩
  unfold ksk_tree
  refine wpAny_bind (listItems_at ho rfl ?_)
  refine wpAny_bind (listUpdate_at ho rfl ?_ (by rw [List.size_toArray,sizeLine_eq]; omega) (Nat.zero_le _))
  refine wpAny_bind (seqEpoch_at ho1 rfl ?_)
  refine wpAny_bind (wpAny_newTuple ?_ (by show us.length ≤ _; rw [sizeLine_eq]; omega))
  refine wpAny_bind (wpAny_newList ?_ (Nat.zero_le _))
  refine wpAny_holding ?_
  have hkS:((s.heap.update a (Obj.mapSeq fun _=>(#[]:Array Value))).push (seqObj "tuple" us.toArray 0)).objs.size=s.heap.objs.size + 1:=by rw [size_push',Heap.size_update]
  show wpAny _ A' (ksk_rest a (.ref f) false us.toArray e1 (.ref ((s.heap.update a (Obj.mapSeq fun _=>(#[]:Array Value))).push (seqObj "tuple" us.toArray 0)).objs.size)) P E { s with heap:=((s.heap.update a (Obj.mapSeq fun _=>(#[]:Array Value))).push (seqObj "tuple" us.toArray 0)).push (seqObj "list" #[] 0) }
  generalize hh1:s.heap.update a (Obj.mapSeq fun _=>(#[]:Array Value))=h1 at *
  have I1:Inv X pins σ H { s with heap:=h1,toks:=s.toks }:=I.turned (t':=s.toks) (fun b o nb e=>by rw [← hh1]; exact (Heap.get?_update_other _ _ (Ne.symm nb)).trans e) fpa.1 fpa.2.1 fpa.2.2.2.1 fpa.2.2.2.2.1 fpa.2.2.2.2.2
  have I2:Inv X pins σ H { s with heap:=(h1.push (seqObj "tuple" us.toArray 0)).push (seqObj "list" #[] 0),toks:=s.toks }:=I1.kept fun b o e=>Heap.get?_push_of_some _ (Heap.get?_push_of_some _ e)
  generalize hS:(h1.push (seqObj "tuple" us.toArray 0)).objs.size=kS at hkS ⊢
  have hka:a ≠ kS:=Nat.ne_of_lt (by rw [hkS]; exact Nat.lt_succ_of_lt ha)
  have hks2:s.heap.objs.size ≤ kS:=by rw [hkS]; exact Nat.le_succ _
  have fpk:FpOk X pins H kS:=I.fpOk hks2 (I.hok.fresh hks2)
  have gk:((h1.push (seqObj "tuple" us.toArray 0)).push (seqObj "list" #[] 0)).get? kS=some (seqObj "list" #[] 0):=by rw [← hS]; exact Heap.get?_push_size _ rfl
  have ga:((h1.push (seqObj "tuple" us.toArray 0)).push (seqObj "list" #[] 0)).get? a=some (seqObj "list" #[] e1):=Heap.get?_push_of_some _ (Heap.get?_push_of_some _ ho1)
  unfold ksk_rest
  refine wpAny_bind (wpAny_rule ?_)
  first
    | rw [List.forIn_toArray]
    | (rw [← Array.forIn_toList]; simp only [List.toList_toArray])
    | rw [← Array.forIn_toList]
  refine wpAny_bind (ksk_fold (fun i s' => ∃ H1 ks kA e,Inv X pins σ H1 s'∧W i ks H1∧ks.length=i∧s'.heap.get? kS=some (seqObj "list" kA e)∧IntsAre kA.toList ks∧s'.heap.get? a=some (seqObj "list" #[] e1)∧H1 a=none∧H1 kS=none) us 0 _
    ⟨H,[], #[],0,I2,w0,rfl,gk,by simpa using IntsAre.nil,ga,fpa.1,fpk.1⟩ ?_ ?_)
  · rintro j x s' hx ⟨H1,ks,kA,e,I3,w3,lks,gk3,hk3,ga3,na,nk⟩
    simp only [Nat.zero_add] at lks w3 ⊢
    have hj:j < us.length:=(List.getElem?_eq_some_iff.mp hx).1
    obtain ⟨m,hm⟩:∃ m,ns[j]?=some m:=⟨_,List.getElem?_eq_getElem (by omega)⟩
    obtain ⟨t,ht⟩:=hi.get j m hm
    rw [ht] at hx
    cases hx
    have I4:=I3.pinned (fp:=[a,kS]) (fun c hc=>by
      rcases List.mem_cons.mp hc with z | z
      · rw [z]; exact ⟨na,fpa.2⟩
      · rw [List.mem_singleton.mp z]; exact ⟨nk,fpk.2⟩) (fun c hc=>by
      rcases List.mem_cons.mp hc with z | z
      · rw [z]; exact ⟨_,ga3,fun v q=>by cases q⟩
      · rw [List.mem_singleton.mp z]; exact ⟨_,gk3,fun v q=>by cases q⟩)
    refine wpAny_bind (wpAny_attempt (wpAny_mono (turn m H1 _ _ _ _ I4 ⟨t,rfl⟩ (stp j ks H1 m w3 hm)) (fun v s3 hs3=>?_) fun _ _ hF=>hF.elim))
    obtain ⟨y,H2,I5,ry,m2,ey,w5⟩:=hs3
    subst ey
    obtain ⟨t2,rfl⟩:=ry
    have pa:=I5.pin (a,seqObj "list" #[] e1) (List.mem_append_right _ (List.mem_append_right _ (mem_pinsAt (by simp) ga3)))
    have pk:=I5.pin (kS,seqObj "list" kA e) (List.mem_append_right _ (List.mem_append_right _ (mem_pinsAt (by simp) gk3)))
    have sk:kA.size=j:=by have:=hk3.length; rw [Array.length_toList] at this; omega
    have I6:=I5.unpinned
    obtain ⟨c2,hc2⟩:∃ c2,(s3.heap.update kS (Obj.mapSeq (·.push (.int m2 t2)))).get? kS=some (seqObj "list" (kA.push (.int m2 t2)) c2):=⟨_,get?_update_seq pk.1 (·.push (.int m2 t2))⟩
    refine wpAny_bind (listUpdate_at pk.1 rfl ?_ (by rw [sizeLine_eq]; omega) (Nat.le_trans (Nat.le_of_eq (Array.size_push ..)) (by rw [sizeLine_eq]; omega)))
    have I7:Inv X pins σ H2 { s3 with heap:=s3.heap.update kS (Obj.mapSeq (·.push (.int m2 t2))),toks:=s3.toks }:=I6.turned (t':=s3.toks) (fun b o nb e=>(Heap.get?_update_other _ _ (Ne.symm nb)).trans e) pk.2.1 fpk.2.1 fpk.2.2.2.1 fpk.2.2.2.2.1 fpk.2.2.2.2.2
    have ea:(kA.push (Value.int m2 t2)).toList=kA.toList ++ [Value.int m2 t2]:=by simp
    refine wpAny_pure ⟨rfl,H2,ks ++ [m2],kA.push (.int m2 t2),c2,I7,w5,by simp [lks],hc2,by rw [ea]; exact ksk_snoc hk3,?_,pa.2.1,pk.2.1⟩
    exact (Heap.get?_update_other _ _ (Ne.symm hka)).trans pa.1
  · rintro s' ⟨H1,ks,kA,e,I3,w3,lks,gk3,hk3,ga3,na,nk⟩
    simp only [Nat.zero_add] at lks w3
    refine wpAny_bind (listItems_at gk3 rfl ?_)
    unfold ksk_end
    simp only [Bool.false_eq_true,if_false]
    refine run_ints (A:=A') (cont:=fun st=>ksk_tail a false e1 (.ref kS) st) hk3 hi (by omega) hn hu hz fun st' hsz hfl hout=>?_
    unfold ksk_tail
    have skA:kA.size ≤ 100000:=by have:=hk3.length; rw [Array.length_toList] at this; omega
    refine wpAny_bind (listUpdate_at gk3 rfl ?_ (by rw [sizeLine_eq]; omega) (Nat.zero_le _))
    refine wpAny_bind (wpAny_letGo ?_)
    have ga4:(s'.heap.update kS (Obj.mapSeq fun _=>(#[]:Array Value))).get? a=some (seqObj "list" #[] e1):=(Heap.get?_update_other _ _ (Ne.symm hka)).trans ga3
    refine wpAny_bind (seqEpoch_at ga4 rfl ?_)
    refine wpAny_bind (listUpdate_at ga4 rfl ?_ (Nat.zero_le _) (by
      show ((arrOf st').map (·.2)).size ≤ _
      rw [Array.size_map,hsz,sizeLine_eq]; omega))
    rw [hfl]
    simp only [bne_self_eq_false,Bool.false_eq_true,if_false]
    have I4:Inv X pins σ H1 { s' with heap:=s'.heap.update kS (Obj.mapSeq fun _=>(#[]:Array Value)),toks:=s'.toks }:=I3.turned (t':=s'.toks) (fun b o nb e=>(Heap.get?_update_other _ _ (Ne.symm nb)).trans e) nk fpk.2.1 fpk.2.2.2.1 fpk.2.2.2.2.1 fpk.2.2.2.2.2
    obtain ⟨c2,hc2⟩:∃ c2,((s'.heap.update kS (Obj.mapSeq fun _=>(#[]:Array Value))).update a (Obj.mapSeq fun _=>(arrOf st').map (·.2))).get? a=some (seqObj "list" ((arrOf st').map (·.2)) c2):=⟨_,get?_update_seq ga4 fun _=>(arrOf st').map (·.2)⟩
    refine wpAny_pure (fin ks H1 _ (by rw [← lz]; exact w3) (by omega) (I4.adopt (t':=s'.toks) (o := .lst (((sortP (ks.zip ns)).map (·.2)).map V.int)) ⟨na,fpa.2⟩ (fun b u nb e=>(Heap.get?_update_other _ _ (Ne.symm nb)).trans e) ⟨?_,((arrOf st').map (·.2)).toList,c2,vals_ints hout,by rw [Array.toArray_toList]; exact hc2⟩))
    have:=hout.length
    rw [Array.length_toList,Array.size_map,hsz] at this
    rw [List.length_map, ← this,sizeLine_eq]; omega
end
end L2
namespace DL
open PySem PySem.Spec PyProof.Rows L2 TS
def keysD (fb:DE) (cs:List D):List Int→Option (List Int)
  | []=>some []
  | x :: r=>(fb (.val (.int x) :: cs.map Sl.val)).bind fun e=>match e.d with
    | .int k=>(keysD fb cs r).map (k :: ·)
    | _=>none
def natsI (n:Nat):List Int:=(List.range n).map fun (i:Nat)=>(i:Int)
def dSortK (cap:List Nat) (fa fb:DE):DE:=fun t=>(fa t).bind fun r=>(capD t cap).bind fun c=>match r.d with
  | .int n=>if 0 ≤ n∧n < 64 then (keysD fb c.2 (natsI n.toNat)).map fun ks => .nw (((sortP (ks.zip (natsI n.toNat))).map (·.2)).map D.int) else none
  | _=>none
theorem keysD_len {fb:DE} {cs:List D}:∀ {ns ks:List Int},keysD fb cs ns=some ks→ks.length=ns.length
  | [],ks,e=>by cases e; rfl
  | x :: r,ks,e=>by
    unfold keysD at e
    cases e1:fb (.val (.int x) :: cs.map Sl.val) with
    | none=>rw [e1] at e; cases e
    | some rr =>
      rw [e1] at e
      simp only [Option.bind_some] at e
      split at e
      · cases e2:keysD fb cs r with
        | none=>rw [e2] at e; cases e
        | some q=>rw [e2] at e; cases e; simp [keysD_len e2]
      · cases e
theorem keysD_get {fb:DE} {cs:List D}:∀ {ns ks:List Int} {i:Nat} {x:Int},keysD fb cs ns=some ks→ns[i]?=some x→∃ rr m,fb (.val (.int x) :: cs.map Sl.val)=some rr∧rr.d = .int m∧ks[i]?=some m
  | [],ks,i,x,_,h=>by simp at h
  | y :: r,ks,i,x,e,h=>by
    unfold keysD at e
    cases e1:fb (.val (.int y) :: cs.map Sl.val) with
    | none=>rw [e1] at e; cases e
    | some rr =>
      rw [e1] at e
      simp only [Option.bind_some] at e
      split at e
      · rename_i k z
        cases e2:keysD fb cs r with
        | none=>rw [e2] at e; cases e
        | some q =>
          rw [e2] at e
          cases e
          cases i with
          | zero=>simp at h; subst h; exact ⟨rr,k,e1,z,by simp⟩
          | succ i=>obtain ⟨rr',m,a1,a2,a3⟩:=keysD_get e2 (i:=i) (by simpa using h); exact ⟨rr',m,a1,a2,by simpa using a3⟩
      · cases e
theorem natsI_len (n:Nat):(natsI n).length=n:=by simp [natsI]
theorem natsI_get {n i:Nat} {x:Int} (h:(natsI n)[i]?=some x):x=(i:Int)∧i < n:=by
  unfold natsI at h
  rw [List.getElem?_map] at h
  cases e:(List.range n)[i]? with
  | none=>rw [e] at h; cases h
  | some j =>
    rw [e] at h
    obtain ⟨h1,h2⟩:=List.getElem?_eq_some_iff.mp e
    simp at h1 h2
    cases h
    exact ⟨by rw [h2],h1⟩
theorem natsI_up (n:Nat):(natsI n).Pairwise (· ≤ ·):=by
  unfold natsI
  rw [List.pairwise_map]
  exact (List.pairwise_lt_range (n:=n)).imp fun {a b} h=>by omega
theorem natsI_bd (n:Nat) (h:n ≤ 100000):∀ x ∈ natsI n,0 ≤ x∧x < 1048576:=fun x hx=>by
  obtain ⟨i,hi⟩:=List.mem_iff_getElem?.mp hx
  obtain ⟨e,l⟩:=natsI_get hi
  omega
theorem ints_of_items {us:List Value} {n:Nat} (h:ItemsOf (fun i v => ∃ t,v = .int ((0:Int) + i * 1) t) us.toArray n):IntsAre us (natsI n):=by
  have l:us.length=n:=by simpa using h.1
  have q:=intsAre_map us fun v hv=>by
    obtain ⟨i,hi⟩:=List.mem_iff_getElem?.mp hv
    obtain ⟨t,e⟩:=h.2 i v (by simpa using hi)
    exact ⟨_,t,e⟩
  have e:us.map numOf=natsI n:=by
    apply List.ext_getElem?
    intro i
    rw [List.getElem?_map]
    unfold natsI
    rw [List.getElem?_map]
    by_cases hi:i < n
    · have hu:us[i]?=some (us[i]'(by omega)):=List.getElem?_eq_getElem (by omega)
      obtain ⟨t,e⟩:=h.2 i (us[i]'(by omega)) (by rw [List.getElem?_toArray]; exact hu)
      rw [hu,e,List.getElem?_range hi]
      simp [numOf]
    · rw [List.getElem?_eq_none (by omega),List.getElem?_eq_none (by simp; omega)]; rfl
  rw [e] at q
  exact q
theorem long_ofR {i:Int} (h0:0 ≤ i) (h1:i ≤ 100000):Builtin.Range.rangeFitsLong i=true:=by
  unfold Builtin.Range.rangeFitsLong
  have e:(2:Int) ^ 63=9223372036854775808:=by decide
  rw [e]
  simp only [Bool.and_eq_true,decide_eq_true_eq]
  omega
theorem small_of {n:Int} (h0:0 ≤ n) (h1:n ≤ 100000):Builtin.Range.small 0 n 1=true:=by
  have rs:Builtin.Range.rangeSize 0 n 1=n:=by simp only [Builtin.Range.rangeSize]; omega
  unfold Builtin.Range.small
  rw [rs,long_ofR (i:=0) (by omega) (by omega),long_ofR h0 h1,long_ofR (i:=1) (by omega) (by omega),if_pos (by omega),long_ofR (i:=n + (1 - 1)) (by omega) (by omega),Bool.or_true]
  rfl
theorem ka_sorted (a v:Value):argsOk "sorted" ⟨[a],[(Str.ofString "key",v)]⟩:=ksk_s1 a v
theorem ka_lsort (a v:Value):argsOk "list.sort" ⟨[a],[(Str.ofString "key",v)]⟩:=ksk_l1 a v
theorem _root_.L2.Room.lam2 {k:Nat} {A:Around} (r:Room (k + 3) A) (env:Env):Room k (A.in1.in1.deeper env):=r.in1.in1.deeper env
section
variable {X:Cx} {F:List Addr} {a body:Expr} {fa fb:DE} {pos p2:Pos} {scope:Scope}
theorem ped_sortK {p0 p1 kp lp:Pos} {params:Arguments} {q x0:Str} {c P:Addr} (cap:List Nat) (N':List Str) (kl:Nat) (hrl:Room (kl + 3) X.A) (hcm:X.calm=true) (hu:X.A.units + 64 < cLine) (hdp:X.A.depth < recursionLimit) (hcode:X.env.code = .ref c) (C:PySem.W.CodeHd X.base c P) (hP:(P,q) ∈ X.base.tabs) (hg:Gl X "sorted") (hm:X.mg "sorted"=none) (hgr:Gl X "range") (hmr:X.mg "range"=none)
    (ha:PE X a (dE X.K F fa)) (hb:∀ F' L f c' s₃ H₃,Room kl (lamX X N' q scope X.A.in1.in1 L f (.ref c') s₃ H₃).A→PE (lamX X N' q scope X.A.in1.in1 L f (.ref c') s₃ H₃) body (dE X.K F' fb))
    (hkd:scope.kind = .function:=by rfl) (hcs:compOk scope.names X.env.kindOf=true:=by rfl) (hln:lamNo scope.names=true:=by rfl) (hl:N'.length=1 + cap.length:=by rfl) (h0:N'[0]?=some x0:=by rfl) (hx0:scope.names.lookup x0=some .local:=by rfl)
    (hcap:capOk N' X.N 1 scope.names 0 cap=true:=by rfl)
    (hq:X.env.qual ++ "<lambda>"=q:=by rfl) (hco:scope.isCoroutine=false:=by rfl) (hgen:scope.isGenerator=false:=by rfl) (hdef:defaultsOf params X.env=([],[]):=by rfl)
    (hbind:∀ cl pm c' ctv u0,bindArgs (PySem.W.kla_fn "<lambda>" q params body scope cl pm (.ref c') ctv) ⟨[u0],[]⟩=pure [(x0,u0)]:=by intros; rfl)
    (hst:starEach [a] X.env=[(false,eval a X.env)]:=by rfl) (hst2:(backTo p2 (starEach [] X.env)).any (·.1)=false:=by rfl)
    (he:backTo pos (starEach [.Call (.Name "range" p1) [a] [] p2] X.env)=(false,eval (.Call (.Name "range" p1) [a] [] p2) X.env) :: backTo pos (starEach [] X.env):=by rfl) (hplain:(backTo pos (starEach [.Call (.Name "range" p1) [a] [] p2] X.env)).any (·.1)=false:=by rfl)
    (hall:(backToKw pos (keywordEach [⟨some "key", .Lambda params body scope lp,kp⟩] X.env)).all (·.1.isSome)=true:=by rfl) (hkw:(backToKw pos (keywordEach [⟨some "key", .Lambda params body scope lp,kp⟩] X.env)).any (·.1.isNone)=false:=by rfl) :
    PE X (.Call (.Name "sorted" p0) [.Call (.Name "range" p1) [a] [] p2] [⟨some "key", .Lambda params body scope lp,kp⟩] pos) (dE X.K F (dSortK cap fa fb)):=by
  have S:=compSc hkd hcs
  have S0:=lamNo_of hln
  intro pins s σ H Q I h
  obtain ⟨A,t,r,R,e,h⟩:=h
  unfold dSortK at e
  cases e1:fa t with
  | none=>rw [e1] at e; cases e
  | some r1 =>
    cases e2:capD t cap with
    | none=>rw [e1,e2] at e; cases e
    | some cc =>
      obtain ⟨bb,cs⟩:=cc
      rw [e1,e2] at e
      simp only [Option.bind_some] at e
      split at e
      case h_2=>cases e
      rename_i n z
      split at e
      case isFalse=>cases e
      rename_i hn
      cases e3:keysD fb cs (natsI n.toNat) with
      | none=>rw [e3] at e; cases e
      | some KS =>
        rw [e3] at e
        cases e
        refine wpAny_Call_Name_kw (ld_blt I hg hm boot_sorted (callWith_kw (env:=X.env) ?_ he hplain hall hkw))
        rw [he]
        refine Calls.spliced_cons (Call_ (ld_blt I hgr hmr boot_range (PyProof.Rows.callWith_type1 (thn ((pa_cons ha pa_nil hst) p2 pins s σ H (fun vs H1 => ∃ x,vs=[x]∧Same H H1∧RepEv X.K F A H H1 r1 x) I ⟨A,t,r1,R,e1,fun x H1 gs q=>⟨x,rfl,gs,q⟩⟩) fun us s1 ⟨vs,H1,I1,rv,x,ex,gs,q1⟩=>?_) hst hst2)))
        subst ex
        obtain ⟨u,rfl,ru⟩:=rv.one
        have p:=q1.full
        rw [z] at p
        cases rep_int p
        obtain ⟨t1,rfl⟩:=ru
        refine call_range_1 (Calls.spliced_nil ?_)
        have Ir:Inv X pins σ H1 { s1 with heap:=s1.heap.push { cls := .type "range",data := .fields #[.int 0 s1.toks, .int n t1, .int 1 (s1.toks + 1)] },toks:=s1.toks + 1 + 1 }:=I1.kept fun b o e=>Heap.get?_push_of_some _ e
        have gr:(s1.heap.push { cls := .type "range",data := .fields #[.int 0 s1.toks, .int n t1, .int 1 (s1.toks + 1)] }).get? s1.heap.objs.size=some { cls := .type "range",data := .fields #[.int 0 s1.toks, .int n t1, .int 1 (s1.toks + 1)] }:=Heap.get?_push_size _ rfl
        have fpr:FpOk X pins H1 s1.heap.objs.size:=I1.fpOk (Nat.le_refl _) I1.fresh
        have Irp:=Ir.pinned (fp:=[s1.heap.objs.size]) (fun c hc=>by rw [List.mem_singleton.mp hc]; exact fpr) (fun c hc=>by rw [List.mem_singleton.mp hc]; exact ⟨_,gr,fun v q=>by cases q⟩)
        refine kws_cons (lam_make Irp S hcode C hP hq hdef fun f c' oc vs tk pm ctv s3 I3 hc' nf ncf hod hv=>kws_nil ?_)
        have pr:=I3.pin (s1.heap.objs.size,{ cls := .type "range",data := .fields #[.int 0 s1.toks, .int n t1, .int 1 (s1.toks + 1)] }) (List.mem_append_right _ (List.mem_append_right _ (mem_pinsAt (by simp) gr)))
        have gr3:IsRange s3.heap s1.heap.objs.size 0 n 1 s1.toks t1 (s1.toks + 1):=pr.1
        replace I3:=I3.unpinned
        generalize hH3:upd (upd H1 c' (.frz oc (.own 0))) f (.frz (PySem.W.kla_obj "<lambda>" q params body scope (clOf X.env.cells scope.names []) pm c' ctv) (.own 0))=H3 at I3
        have g13:Same H1 H3:=fun b o w=>by
          subst hH3
          rw [upd_ne (fun z=>by rw [z,nf] at w; cases w)]
          by_cases zc:b=c'
          · subst zc
            rcases hc' with n | n
            · rw [n] at w; cases w
            · rw [n] at w; cases w; rw [upd_same]
          · rw [upd_ne zc]; exact w
        have ff:H3 f=some (.frz (PySem.W.kla_obj "<lambda>" q params body scope (clOf X.env.cells scope.names []) pm c' ctv) (.own 0)):=by subst hH3; rw [upd_same]
        have fc:H3 c'=some (.frz oc (.own 0)):=by subst hH3; rw [upd_ne ncf,upd_same]
        have g03:Same H H3:=gs.trans g13
        have R3:=R.grow g03
        obtain ⟨cvs,ecv,rcs⟩:=capD_rep R3 e2
        have muF:Lists H3 (hidF bb A F):=fun p hp=>R3.mu p (by
          unfold hidF at hp
          split at hp
          · exact hp
          · exact List.mem_append_right _ hp)
        let KT:Int→Hp→VK→Prop:=fun x Hx Qx=>Same H3 Hx∧dE X.K (hidF bb A F) fb (some (.int x) :: cap.map fun j=>(σ[j]?).getD none) Hx Qx
        have turn:∀ (x:Int) (Hx:Hp) (sx:Shared) (px:List (Addr × Obj)) (Qx:VK) (u:Value),Inv X px σ Hx sx→RelV (.int x) u→KT x Hx Qx→wpAny (model X.prog X.w) X.A.in1.in1 (call (.ref f) [u]) (EP X px σ Qx) (fun _ _=>False) sx :=
          fun x Hx sx px Qx u Ix rx hk=>lam_run (N':=N') (cap:=cap) (A':=X.A.in1.in1) Ix S S0 (I.ok.hd hcm) rfl hdp (hk.1 _ _ ff) (hk.1 _ _ fc) hod hv hco hgen (hbind _ _ _ _ _) rx h0 hx0 hl (fun k j e=>by simpa using capOk_of hcap k j e) (fun L s₃ H₃=>hb _ L f c' s₃ H₃ (hrl.lam2 _)) hk.2
        have mk:∀ {n:Int} {Hx:Hp} {rr:Ev} {Qx:VK},Same H3 Hx→fb (.val (.int n) :: cs.map Sl.val)=some rr→(∀ v Hy,Same Hx Hy→Rep X.K Hy rr.d v→Qx v Hy)→KT n Hx Qx:=fun {n Hx rr Qx} gx er hq=>by
          refine ⟨gx,[],_,rr,⟨by simpa using muF.mono gx,List.nodup_nil,fun p hp=>(by cases hp),?_⟩,er,fun v Hy gy qy=>hq v Hy gy qy.full⟩
          rw [List.nil_append,ecv]
          refine .val (.int n) ?_
          have:=RSl.start (K:=X.K) (H:=Hx) (t:=[]) (σ:=[]) .nil (Reps.mono (same_hide gx) rcs)
          simpa using this
        have rsz:Builtin.Range.rangeSize 0 n 1=(n.toNat:Int):=by
          have:=hn.1
          simp only [Builtin.Range.rangeSize]
          omega
        have sml:Builtin.Range.small 0 n 1=true:=by
          exact small_of hn.1 (by omega)
        have lKS:=keysD_len e3
        rw [natsI_len] at lKS
        refine sorted_kw (P:=fun us=>IntsAre us (natsI n.toNat)) (ka_sorted _ _) (fun _=>ka_lsort _ _) (fun R' hR=>collect_rng (n:=n.toNat) (I.ok.hd hcm) gr3 sml rsz (by omega) fun h' tk us hk hz hit=>hR h' tk us hk hz (ints_of_items hit) (by have:=hit.1; simp at this; omega)) (fun h' tk us hk hz hi hlu=>?_)
        have I4:Inv X pins σ H3 { s3 with heap:=h'.push (seqObj "list" us.toArray 0),toks:=tk }:=I3.kept fun b o e=>Heap.get?_push_of_some _ (hk b o e)
        have fa4:FpOk X pins H3 h'.objs.size:=I3.fpOk hz (I3.hok.fresh hz)
        refine ls_key (KT:=KT) (W:=fun i ks Hx=>Same H3 Hx∧ks=KS.take i) (ns:=natsI n.toNat) I4 fa4 (Heap.get?_push_size _ rfl) hi (by have q:=hi.length; simp only [natsI,List.length_map,List.length_range] at q; omega) (natsI_bd _ (by omega)) (natsI_up _) turn ⟨Same.refl _,by simp⟩ (fun i ks Hx x w hx=>?_) fun ks Hx s' w lk Is=>⟨rfl,?_⟩
        · obtain ⟨gx,rfl⟩:=w
          obtain ⟨rr,m,a1,a2,a3⟩:=keysD_get e3 hx
          refine mk gx a1 fun v Hy gy ry=>?_
          rw [a2] at ry
          cases rep_int ry
          exact ⟨m,rfl,gx.trans gy,by rw [List.take_add_one,a3]; rfl⟩
        · obtain ⟨gx,rfl⟩:=w
          rw [natsI_len,List.take_of_length_le (by omega)] at Is
          have na:H h'.objs.size=none:=Same.free g03 fa4.1
          refine ⟨.ref _,_,Is,rfl,h _ _ (fun b o w=>?_) ⟨_,_,rfl,na,upd_same,Reps.ints _⟩⟩
          rw [upd_ne (fun z=>by rw [z,na] at w; cases w)]
          exact gx _ _ (g03 _ _ w)
end
end DL
namespace DL
open PySem PySem.Spec PyProof.Rows L2
def fuelN (i:Nat):Th→Nat:=fun t=>match t[i]? with
  | some (.val (.int n))=>n.natAbs + 1
  | _=>0
end DL
namespace KX
open PySem PySem.Spec PyProof.Rows L2 DL
theorem bnd_big:1000000000000000000000000000000000000 ≤ bndS:=by
  have:(2:Nat) ^ 120 ≤ 2 ^ 1048576:=Nat.pow_le_pow_right (by decide) (by decide)
  unfold bndS
  exact Nat.le_trans (by decide) this
theorem app_of (t:Th) {f:DE} {i:Nat} {xs:List D} {d:D} (hf:f t=some (.cl d)) (hi:t[i]?=some (.own xs)) (hl:xs.length < 100000):dApp i f t=some (.nx (t.set i (.own (xs ++ [d])))):=by
  unfold dApp
  rw [hf]
  simp only [Option.bind_some,kApp,hi,Ev.ok,Ev.d,hl,decide_true,Bool.and_self,if_true]
theorem asg_of (t:Th) {f:DE} {i:Nat} {d:D} (hf:f t=some (.cl d)) (hi:i < t.length):dAsg i f t=some (.nx (t.set i (.val d))):=by
  unfold dAsg
  rw [hf]
  simp only [Option.bind_some,setSl,hi,if_true,Option.map_some]
theorem flats_ints:∀ xs:List Int,flats (xs.map D.int)=true
  | []=>rfl
  | x :: xs=>by
    have:=flats_ints xs
    simp [flats,flat,this]
theorem t2_of {k:List Ev→Option Ev} {fa fb:DE} {t:Th} {ra rb:Ev} (h1:fa t=some ra) (h2:fb t=some rb):dT1 k (dCons fa (dCons fb dNil)) t=k [ra,rb]:=by
  simp [dT1,dCons,dNil,h1,h2]
theorem d2_of {k:Ev→Ev→Option Ev} {fa fb:DE} {t:Th} {ra rb:Ev} (h1:fa t=some ra) (h2:fb t=some rb):d2 k fa fb t=k ra rb:=by
  simp [d2,h1,h2]
theorem t4_of {k:List Ev→Option Ev} {fa fb fc fd:DE} {t:Th} {ra rb rc rd:Ev} (h1:fa t=some ra) (h2:fb t=some rb) (h3:fc t=some rc) (h4:fd t=some rd):dT1 k (dCons fa (dCons fb (dCons fc (dCons fd dNil)))) t=k [ra,rb,rc,rd]:=by
  simp [dT1,dCons,dNil,h1,h2,h3,h4]
theorem t3_of {k:List Ev→Option Ev} {fa fb fc:DE} {t:Th} {ra rb rc:Ev} (h1:fa t=some ra) (h2:fb t=some rb) (h3:fc t=some rc):dT1 k (dCons fa (dCons fb (dCons fc dNil))) t=k [ra,rb,rc]:=by
  simp [dT1,dCons,dNil,h1,h2,h3]
theorem t1_of {k:List Ev→Option Ev} {fa:DE} {t:Th} {ra:Ev} (h1:fa t=some ra):dT1 k (dCons fa dNil) t=k [ra]:=by
  simp [dT1,dCons,dNil,h1]
theorem asg_cl {t:Th} {f:DE} {i:Nat} {d:D} (hf:f t=some (.cl d)) (hi:i < t.length):dAsg i f t=some (.nx (t.set i (.val d))):=asg_of t hf hi
theorem asg_nw {t:Th} {f:DE} {i:Nat} {xs:List D} (hf:f t=some (.nw xs)) (hi:i < t.length):dAsg i f t=some (.nx (t.set i (.own xs))):=by
  unfold dAsg
  rw [hf]
  simp only [Option.bind_some,setSl,hi,if_true,Option.map_some]
theorem ix_nat (n b:Nat) (h:b < n):ixN n (b:Int)=some b:=by unfold ixN; rw [if_pos (by omega),if_pos (by omega)]; simp
theorem get_map (L:List Int) (b:Nat) (h:b < L.length):(L.map D.int)[b]?=some (.int (L.getD b 0)):=by simp [List.getD_eq_getElem?_getD,h]
theorem at_map (L:List Int) (b:Nat) (h:b < L.length):atI (L.map D.int) (b:Int)=some (.int (L.getD b 0)):=by
  unfold atI
  rw [ix_nat _ _ (by simpa using h)]
  exact get_map L b h
theorem ixEv {r1 r2:Ev} (L:List Int) (b:Nat) (h:b < L.length) (h1:r1.d = .lst (L.map D.int)) (h2:r2.d = .int (b:Int)):kIx r1 r2=some (.cl (.int (L.getD b 0))):=by
  unfold kIx
  rw [h1,h2]
  show (atI (L.map D.int) (b:Int)).map _=_
  rw [at_map L b h]
  simp [flat]
theorem ifs_of {c:DT} {g1 g2:DS} {t:Th} {b:Bool} (h:c t=some b):dIfS c g1 g2 t=if b then g1 t else g2 t:=by
  unfold dIfS; rw [h]; rfl
theorem ifs_t {c:DT} {g1 g2:DS} {t:Th} {b:Bool} (h:c t=some b) (hb:b=true):dIfS c g1 g2 t=g1 t:=by
  rw [ifs_of h,hb]; rfl
theorem ifs_f {c:DT} {g1 g2:DS} {t:Th} {b:Bool} (h:c t=some b) (hb:b=false):dIfS c g1 g2 t=g2 t:=by
  rw [ifs_of h,hb]; rfl
theorem comp_map {k:D→Th→Option Th} {fe:DE} {f:Int→Int} {ext:Th} (hk:∀ (s:Sl) (x:Int),k (.int x) (s :: ext)=some (.val (.int x) :: ext)) (hf:∀ x:Int,fe (.val (.int x) :: ext)=some (.cl (.int (f x)))):∀ (xs:List Int) (s:Sl),compD k dTrue fe (xs.map D.int) (s :: ext)=some ((xs.map f).map D.int)
  | [],s=>rfl
  | x :: xs,s=>by
    simp only [List.map_cons,compD,hk,Option.bind_some,dTrue,hf,if_true]
    rw [comp_map hk hf xs]
    rfl
theorem app_map (t:Th) {f:DE} {i:Nat} {xs:List Int} {p:Int} (hf:f t=some (.cl (.int p))) (hi:t[i]?=some (.own (xs.map D.int))) (hl:xs.length < 100000):dApp i f t=some (.nx (t.set i (.own ((xs ++ [p]).map D.int)))):=by
  rw [app_of t hf hi (by simpa using hl)]
  simp
theorem seq_rt {g1 g2:DS} {t:Th} {r:Ev} (h:g1 t=some (.rt r)):dSeq g1 g2 t=some (.rt r):=by simp [dSeq,h]
theorem grd {c:DT} {g:DS} {t:Th} {b:Bool} (h:c t=some b) (hb:b=false):dIfS c g dSkip t=some (.nx t):=(ifs_f h hb).trans rfl
theorem grd_t {c:DT} {g:DS} {t:Th} {b:Bool} {d:D} (h:c t=some b) (hb:b=true):dIfS c (dRet (dC d)) g t=some (.rt (.cl d)):=(ifs_t h hb).trans rfl
theorem bnd {g:Option Out} {r:Ev} (h:g=some (.rt r)):g.bind outEv=some r:=by rw [h]; rfl
theorem add_of {fa fb:DE} {t:Th} {a b:Int} (h1:fa t=some (.cl (.int a))) (h2:fb t=some (.cl (.int b))):(d2 (kOr (kI tt2 fun i j => .int (i + j)) kCat) fa fb) t=some (.cl (.int (a + b))):=(d2_of h1 h2).trans rfl
theorem sub_of {fa fb:DE} {t:Th} {a b:Int} (h1:fa t=some (.cl (.int a))) (h2:fb t=some (.cl (.int b))):(d2 (kI tt2 fun i j => .int (i - j)) fa fb) t=some (.cl (.int (a - b))):=(d2_of h1 h2).trans rfl
theorem mod_of {fa fb:DE} {t:Th} {a b:Int} (h1:fa t=some (.cl (.int a))) (h2:fb t=some (.cl (.int b))) (hb:b ≠ 0):(d2 (kI cMod fun i j => .int (i.fmod j)) fa fb) t=some (.cl (.int (a.fmod b))):=by
  rw [d2_of h1 h2]
  show (if cMod a b=true then _ else none)=_
  rw [if_pos (by unfold cMod; exact decide_eq_true hb)]
theorem div_of {fa fb:DE} {t:Th} {a b:Int} (h1:fa t=some (.cl (.int a))) (h2:fb t=some (.cl (.int b))) (hb:b ≠ 0) (hs:sm b=true):(d2 (kI cDiv fun i j => .int (i.fdiv j)) fa fb) t=some (.cl (.int (a.fdiv b))):=by
  rw [d2_of h1 h2]
  show (if cDiv a b=true then _ else none)=_
  rw [if_pos (by unfold cDiv; rw [hs]; simp [hb])]
theorem mul_of {fa fb:DE} {t:Th} {a b:Int} (h1:fa t=some (.cl (.int a))) (h2:fb t=some (.cl (.int b))) (ha:sm a=true) (hb:sm b=true):(d2 (kOr (kI cMul fun i j => .int (i * j)) kRep) fa fb) t=some (.cl (.int (a * b))):=by
  rw [d2_of h1 h2]
  have:cMul a b=true:=by simp only [cMul]; rw [ha,hb]; rfl
  simp [kOr,kI,Ev.d,this]
theorem lt_of {fa fb:DE} {t:Th} {a b:Int} (h1:fa t=some (.cl (.int a))) (h2:fb t=some (.cl (.int b))):dBo (d2 (kI tt2 fun i j => .bl (decide (i < j))) fa fb) t=some (decide (a < b)):=by
  unfold dBo; rw [d2_of h1 h2]; rfl
theorem gt_of {fa fb:DE} {t:Th} {a b:Int} (h1:fa t=some (.cl (.int a))) (h2:fb t=some (.cl (.int b))):dBo (d2 (kI tt2 fun i j => .bl (decide (j < i))) fa fb) t=some (decide (b < a)):=by
  unfold dBo; rw [d2_of h1 h2]; rfl
theorem eqI_of {fa fb:DE} {t:Th} {a b:Int} (h1:fa t=some (.cl (.int a))) (h2:fb t=some (.cl (.int b))):dBo (d2 kEq fa fb) t=some (decide (a=b)):=by
  unfold dBo; rw [d2_of h1 h2]
  have:kEq (.cl (.int a)) (.cl (.int b))=some (.cl (.bl (eqD (.int a) (.int b)))):=rfl
  rw [this,eqD_int]; rfl
theorem neI_of {fa fb:DE} {t:Th} {a b:Int} (h1:fa t=some (.cl (.int a))) (h2:fb t=some (.cl (.int b))):dBo (d2 kNe fa fb) t=some (!decide (a=b)):=by
  unfold dBo; rw [d2_of h1 h2]
  have:kNe (.cl (.int a)) (.cl (.int b))=some (.cl (.bl (!eqD (.int a) (.int b)))):=rfl
  rw [this,eqD_int]; rfl
theorem or_of {f g:DT} {t:Th} {a b:Bool} (h1:f t=some a) (h2:a=false→g t=some b):dOr f g t=some (a || b):=by
  unfold dOr; rw [h1]
  cases a with
  | true=>rfl
  | false=>simp [h2 rfl]
theorem or_of2 {f g:DT} {t:Th} {a b:Bool} (h1:f t=some a) (h2:g t=some b):dOr f g t=some (a || b):=or_of h1 fun _=>h2
theorem and_of2 {f g:DT} {t:Th} {a b:Bool} (h1:f t=some a) (h2:g t=some b):dAnd f g t=some (a && b):=by
  unfold dAnd; rw [h1]; cases a <;> simp [h2]
theorem len_of {t:Th} {f:DE} {r:Ev} {xs:List Int} (h:f t=some r) (hr:r.d = .lst (xs.map D.int)):(dT1 kLen (dCons f dNil)) t=some (.cl (.int (xs.length:Int))):=by
  rw [t1_of h]
  unfold kLen
  simp only [hr,List.length_map]
theorem ixe_of {fa fb:DE} {t:Th} {r1 r2:Ev} (L:List Int) (b:Nat) (ha:fa t=some r1) (hb:fb t=some r2) (h:b < L.length) (h1:r1.d = .lst (L.map D.int)) (h2:r2.d = .int (b:Int)):(d2 kIx fa fb) t=some (.cl (.int (L.getD b 0))):=by
  rw [d2_of ha hb,ixEv L b h h1 h2]
theorem seti_of {t:Th} {fk fv:DE} {i:Nat} {L:List Int} {b:Nat} {v:Int} (hv:fv t=some (.cl (.int v))) (hk:fk t=some (.cl (.int (b:Int)))) (hi:t[i]?=some (.own (L.map D.int))) (hb:b < L.length):dSetI i fk fv t=some (.nx (t.set i (.own ((L.set b v).map D.int)))):=by
  unfold dSetI
  rw [hv,hk]
  show kSetI t i (.cl (.int v)) (.cl (.int (b:Int)))=_
  unfold kSetI
  rw [hi]
  show (ixN (L.map D.int).length (b:Int)).map _=_
  rw [ix_nat _ b (by simpa using hb),List.map_set]
  rfl
theorem augi_of {t:Th} {f:Int→Int→Int} {fk fv:DE} {i:Nat} {L:List Int} {b:Nat} {v:Int} (hk:fk t=some (.cl (.int (b:Int)))) (hv:fv t=some (.cl (.int v))) (hi:t[i]?=some (.own (L.map D.int))) (hb:b < L.length):dAugI f i fk fv t=some (.nx (t.set i (.own ((L.set b (f (L.getD b 0) v)).map D.int)))):=by
  unfold dAugI
  rw [hv,hk]
  show kAugI f t i (.cl (.int (b:Int))) (.cl (.int v))=_
  unfold kAugI
  rw [hi]
  show (ixN (L.map D.int).length (b:Int)).bind _=_
  rw [ix_nat _ b (by simpa using hb)]
  simp only [Option.bind_some,get_map L b hb,List.map_set]
theorem calln {G:List D→Option Ev} {rs:List Ev} {xs:List Int} (h:G (rs.map Ev.d)=some (.nw (xs.map D.int))):kCall G rs=some (.nw (xs.map D.int)):=by
  unfold kCall
  rw [h]
  simp only [Option.map_some,upEv]
  split
  · rfl
  · simp [flats_ints]
theorem callc {G:List D→Option Ev} {rs:List Ev} {d:D} (h:G (rs.map Ev.d)=some (.cl d)) (hf:flat d=true):kCall G rs=some (.cl d):=by
  unfold kCall
  rw [h]
  simp only [Option.map_some,upEv]
  split
  · rfl
  · simp [hf]
theorem tr_of {f:DE} {t:Th} {b:Bool} (h:f t=some (.cl (.bl b))):dTr f t=some b:=by
  unfold dTr; rw [h]; rfl
theorem not_of {f:DT} {t:Th} {b:Bool} (h:f t=some b):dNot f t=some (!b):=by
  unfold dNot; rw [h]; rfl
theorem ret_of {f:DE} {t:Th} {r:Ev} (h:f t=some r):dRet f t=some (.rt r):=by
  unfold dRet; rw [h]; rfl
theorem for_of {k:D→Th→Option Th} {f:DE} {b:DS} {t:Th} {r:Ev} {ds:List D} (h:f t=some r) (hd:r.d = .lst ds) (ho:r.ok=true):dFor k f b t=forD k b ds t:=by
  unfold dFor
  rw [h]
  simp only [Option.bind_some,hd,ho,if_true]
theorem rep_ints (x:Int):∀ m:Nat,(List.replicate m [D.int x]).flatten=(List.replicate m x).map D.int
  | 0=>rfl
  | m + 1=>by rw [List.replicate_succ,List.flatten_cons,rep_ints x m,List.replicate_succ]; rfl
theorem repn_of {fa fb:DE} {t:Th} {x:Int} {m:Nat} (h1:fa t=some (.nw [.int x])) (h2:fb t=some (.cl (.int (m:Int)))) (hm:m ≤ 900):(d2 (kOr (kI cMul fun i j => .int (i * j)) kRep) fa fb) t=some (.nw ((List.replicate m x).map D.int)):=by
  rw [d2_of h1 h2]
  show (if ([D.int x].length ≤ 100 && decide (-1000000 ≤ (m:Int)∧(m:Int) ≤ 1000))=true then some (Ev.nw (List.replicate (m:Int).toNat [D.int x]).flatten) else none)=_
  rw [if_pos (by simp; omega),Int.toNat_natCast,rep_ints]
theorem size_of (n:Nat):Builtin.Range.rangeSize 0 (n:Int) 1=(n:Int):=by
  unfold Builtin.Range.rangeSize
  rw [if_pos (by omega)]
  split <;> omega
theorem ok_of {n:Nat} (hn:n ≤ 1000):rng3Ok 0 (n:Int) 1=true:=by
  unfold rng3Ok
  rw [small_of (by omega) (by omega),size_of,decide_eq_true (by omega)]
  rfl
theorem lr_of {f:DE} {t:Th} {n:Nat} (h:f t=some (.cl (.int (n:Int)))) (hn:n ≤ 1000):(dListR (dCons f dNil)) t=some (.nw ((natsI n).map D.int)):=by
  have e:(dCons f dNil) t=some [.cl (.int (n:Int))]:=by simp [dCons,dNil,h]
  have e2:rArgs ([Ev.cl (.int (n:Int))].map Ev.d)=some (0,(n:Int),1):=rfl
  have c:(rng3Ok 0 (n:Int) 1 && decide (Builtin.Range.rangeSize 0 (n:Int) 1 ≤ 50000))=true:=by
    rw [ok_of hn,size_of,decide_eq_true (by omega)]; rfl
  unfold dListR
  rw [e,Option.bind_some,e2,Option.bind_some,if_pos c]
  unfold rng3 natsI
  rw [size_of,Int.toNat_natCast]
  simp
theorem rng1_of {k0:D→Th→Option Th} {b:DS} {t:Th} {f:DE} {r:Ev} {n:Nat} (h:f t=some r) (hr:r.d = .int (n:Int)) (hn:n ≤ 100000):dRng1 k0 f b t=forD k0 b ((natsI n).map D.int) t:=by
  unfold dRng1
  rw [h]
  simp only [Option.bind_some,hr]
  rw [if_pos (by unfold bigI; exact decide_eq_true (by omega)),Int.toNat_natCast]
  congr 1
  unfold rngD natsI
  simp
def am (L:List Int):Nat→Nat
  | 0=>0
  | k + 1=>if L.getD k 0 < L.getD (am L k) 0 then k else am L k
theorem am_lt (L:List Int):∀ k,0 < k→am L k < k
  | 0,h=>by omega
  | 1,_=>by simp [am]
  | k + 2,_=>by
    unfold am
    split
    · omega
    · have:=am_lt L (k + 1) (by omega); omega
theorem am_le (L:List Int):∀ k i,i < k→L.getD (am L k) 0 ≤ L.getD i 0
  | 0,i,h=>by omega
  | k + 1,i,h=>by
    unfold am
    by_cases z:i=k
    · subst z
      split <;> omega
    · have:=am_le L k i (by omega)
      split <;> omega
theorem am_first (L:List Int):∀ k i,i < am L k→L.getD (am L k) 0 < L.getD i 0
  | 0,i,h=>by simp [am] at h
  | k + 1,i,h=>by
    unfold am at h ⊢
    split at h
    · rename_i c
      rw [if_pos c]
      have:=am_le L k i h
      omega
    · rename_i c
      rw [if_neg c]
      exact am_first L k i h
theorem idx_char:∀ (L:List Int) (j:Nat) (v:Int),j < L.length→L.getD j 0=v→(∀ i,i < j→L.getD i 0 ≠ v)→L.idxOf v=j
  | [],j,v,h,_,_=>by simp at h
  | x :: L,0,v,_,e,_=>by
    have:x=v:=by simpa using e
    subst this
    simp
  | x :: L,j + 1,v,h,e,hn=>by
    have hx:x ≠ v:=by have:=hn 0 (by omega); simpa using this
    have ih:=idx_char L j v (by simpa using h) (by simpa using e) fun i hi=>by have:=hn (i + 1) (by omega); simpa using this
    have hb:(x == v)=false:=by simpa using hx
    rw [List.idxOf_cons,hb,ih]
    rfl
theorem least_am {L:List Int} (h:0 < L.length):leastI (L.headD 0) L.tail=L.getD (am L L.length) 0:=by
  cases L with
  | nil=>simp at h
  | cons x r =>
    obtain ⟨h1,h2⟩:=leastI_ok r x
    have a:=am_le (x :: r) (x :: r).length
    have lt:=am_lt (x :: r) (x :: r).length h
    have m:(x :: r).getD (am (x :: r) (x :: r).length) 0 ∈ x :: r:=by
      rw [List.getD_eq_getElem?_getD,List.getElem?_eq_getElem lt]
      exact List.getElem_mem _
    have q1:=h2 _ m
    obtain ⟨i,hi,ei⟩:=List.mem_iff_getElem.mp h1
    have q2:=a i hi
    rw [List.getD_eq_getElem?_getD (l:=x :: r) (i:=i),List.getElem?_eq_getElem hi] at q2
    simp only [Option.getD_some,ei] at q2
    show leastI x r=_
    omega
theorem idx_am {L:List Int} (h:0 < L.length):L.idxOf (leastI (L.headD 0) L.tail)=am L L.length:=by
  rw [least_am h]
  exact idx_char L _ _ (am_lt L _ h) rfl fun i hi=>by have:=am_first L L.length i hi; omega
theorem minL_of {f:DE} {t:Th} {r:Ev} {L:List Int} (h:f t=some r) (hr:r.d = .lst (L.map D.int)) (hl:0 < L.length):(dT1 (kExtr leastI) (dCons f dNil)) t=some (.cl (.int (L.getD (am L L.length) 0))):=by
  rw [t1_of h]
  unfold kExtr
  simp only [hr,intsD_map]
  cases L with
  | nil=>simp at hl
  | cons x r =>
    have:=least_am hl
    simp only at this ⊢
    rw [← this]
    rfl
theorem idx_of {fa fb:DE} {t:Th} {r1:Ev} {L:List Int} (h1:fa t=some r1) (hr:r1.d = .lst (L.map D.int)) (h2:fb t=some (.cl (.int (L.getD (am L L.length) 0)))) (hl:0 < L.length) (hm:L.length ≤ 1000):(d2 kIdx fa fb) t=some (.cl (.int (am L L.length:Nat))):=by
  rw [d2_of h1 h2]
  unfold kIdx
  have hd:(Ev.cl (.int (L.getD (am L L.length) 0))).d = .int (L.getD (am L L.length) 0):=rfl
  rw [hr,hd]
  simp only [intsD_map,Option.bind_some]
  have lt:=am_lt L L.length hl
  have m:L.contains (L.getD (am L L.length) 0)=true:=by
    rw [List.contains_iff_mem,List.getD_eq_getElem?_getD,List.getElem?_eq_getElem lt]
    exact List.getElem_mem _
  rw [m,decide_eq_true (by omega), ← least_am hl,idx_am hl]
  rfl
theorem compL_of {cap:List Nat} {f:DE} {fe:DE} {t:Th} {r:Ev} {xs:List Int} {g:Int→Int} {b:Bool} {c:List D} (hf:f t=some r) (hr:r.d = .lst (xs.map D.int)) (hn:xs.length ≤ 50000) (hc:capD t cap=some (b,c)) (he:∀ x:Int,fe (.val (.int x) :: c.map Sl.val)=some (.cl (.int (g x)))) :
    (dComp 1 cap (fsL f) (gkName 0) dTrue fe) t=some (.nw ((xs.map g).map D.int)):=by
  unfold dComp
  have e1:fsL f t=some (r.ok,xs.map D.int):=by
    unfold fsL
    rw [hf]
    simp only [Option.bind_some,hr]
  have e2:compD (gkName 0) dTrue fe (xs.map D.int) (Sl.no :: c.map Sl.val)=some ((xs.map g).map D.int):=comp_map (fun _ _=>rfl) he _ _
  rw [e1,hc]
  simp only [Option.bind_some]
  rw [if_pos (by simpa using hn)]
  show (compD (gkName 0) dTrue fe (xs.map D.int) (Sl.no :: c.map Sl.val)).bind _=_
  rw [e2]
  simp only [Option.bind_some,flats_ints,Bool.or_true,if_true]
theorem comp_mem {k:D→Th→Option Th} {fe:DE} {f:Int→Int} {ext:Th} (hk:∀ (s:Sl) (x:Int),k (.int x) (s :: ext)=some (.val (.int x) :: ext)):∀ (xs:List Int) (s:Sl),(∀ x ∈ xs,fe (.val (.int x) :: ext)=some (.cl (.int (f x))))→compD k dTrue fe (xs.map D.int) (s :: ext)=some ((xs.map f).map D.int)
  | [],s,_=>rfl
  | x :: xs,s,hf=>by
    simp only [List.map_cons,compD,hk,Option.bind_some,dTrue,hf x (List.mem_cons_self ..),if_true]
    rw [comp_mem hk xs _ fun y hy=>hf y (List.mem_cons_of_mem _ hy)]
    rfl
theorem compM_of {cap:List Nat} {f:DE} {fe:DE} {t:Th} {r:Ev} {xs:List Int} {g:Int→Int} {b:Bool} {c:List D} (hf:f t=some r) (hr:r.d = .lst (xs.map D.int)) (hn:xs.length ≤ 50000) (hc:capD t cap=some (b,c)) (he:∀ x ∈ xs,fe (.val (.int x) :: c.map Sl.val)=some (.cl (.int (g x)))) :
    (dComp 1 cap (fsL f) (gkName 0) dTrue fe) t=some (.nw ((xs.map g).map D.int)):=by
  unfold dComp
  have e1:fsL f t=some (r.ok,xs.map D.int):=by
    unfold fsL
    rw [hf]
    simp only [Option.bind_some,hr]
  have e2:compD (gkName 0) dTrue fe (xs.map D.int) (Sl.no :: c.map Sl.val)=some ((xs.map g).map D.int):=comp_mem (fun _ _=>rfl) _ _ he
  rw [e1,hc]
  simp only [Option.bind_some]
  rw [if_pos (by simpa using hn)]
  show (compD (gkName 0) dTrue fe (xs.map D.int) (Sl.no :: c.map Sl.val)).bind _=_
  rw [e2]
  simp only [Option.bind_some,flats_ints,Bool.or_true,if_true]
theorem for_2 {k:D→Th→Option Th} {b:DS} {d1 d2:D} {t t1 t1' t2 t2':Th} (h1:k d1 t=some t1) (e1:b t1=some (.nx t1')) (h2:k d2 t1'=some t2) (e2:b t2=some (.nx t2')):forD k b [d1,d2] t=some (.nx t2'):=by
  simp only [forD,h1,e1,h2,e2,Option.bind_some]
theorem for_P {k:D→Th→Option Th} {b:DS} {P:Th→Prop}:∀ (ds:List D),(∀ d ∈ ds, ∀ t,P t→∃ t1 t2,k d t=some t1∧b t1=some (.nx t2)∧P t2)→∀ t,P t→∃ t',forD k b ds t=some (.nx t')∧P t'
  | [],_,t,h=>⟨t,rfl,h⟩
  | d :: ds,hd,t,h=>by
    obtain ⟨t1,t2,e1,e2,h2⟩:=hd d (List.mem_cons_self ..) t h
    obtain ⟨t',e,h'⟩:=for_P ds (fun d' hd'=>hd d' (List.mem_cons_of_mem _ hd')) t2 h2
    exact ⟨t',by simp only [forD,e1,e2,Option.bind_some]; exact e,h'⟩
def stG (W:Int→Int) (b x:Int):Int:=if W b < W x then x else b
theorem best_is {fb:DE} {W:Int→Int} {cs:List D}:∀ (l:List Int) (b:Int),(∀ x ∈ l,fb (.val (.int x) :: cs.map Sl.val)=some (.cl (.int (W x))))→bestD true fb cs (.int b) (.int (W b)) (l.map D.int)=some (.int (l.foldl (stG W) b))
  | [],b,_=>rfl
  | x :: l,b,h=>by
    have e:=h x (List.mem_cons_self ..)
    simp only [List.map_cons,bestD,e,Option.bind_some,Ev.d,flat,if_true,cmpD,cmpI,List.foldl_cons]
    have ih:=fun b=>best_is l b fun y hy=>h y (List.mem_cons_of_mem _ hy)
    by_cases c:W b < W x
    · rw [if_pos (decide_eq_true c),show stG W b x=x from if_pos c]; exact ih x
    · rw [if_neg (by simpa using c),show stG W b x=b from if_neg c]; exact ih b
theorem key_of {fa fb:DE} {W:Int→Int} {cs:List D} {b:Bool} {cap:List Nat} {t:Th} {r:Ev} {x:Int} {l:List Int} (ha:fa t=some r) (hr:r.d = .lst ((x :: l).map D.int)) (hc:capD t cap=some (b,cs)) (h:∀ y ∈ x :: l,fb (.val (.int y) :: cs.map Sl.val)=some (.cl (.int (W y)))):dKey true cap fa fb t=some (.cl (.int (l.foldl (stG W) x))):=by
  unfold dKey
  rw [ha,hc]
  simp only [Option.bind_some,hr,List.map_cons]
  rw [show (intsD (D.int x :: l.map D.int)).isSome=true by rw [← List.map_cons (f:=D.int),intsD_map]; rfl,if_pos rfl,h x (List.mem_cons_self ..)]
  simp only [Option.bind_some,Ev.d,flat,if_true]
  rw [best_is l x fun y hy=>h y (List.mem_cons_of_mem _ hy)]
  rfl
def top (i:Nat):Stmt:=PySem.Challenge.pw_nearenough_k56_whole_boxes_as_benches.main.body.getD i (.Pass ⟨0,0,0,0⟩)
abbrev s_fill_last:Stmt:=top 1
abbrev s_first_with_room:Stmt:=top 2
abbrev s_fill_first:Stmt:=top 3
abbrev s_is_filling:Stmt:=top 4
abbrev s_fewest:Stmt:=top 5
abbrev s_common_factor:Stmt:=top 7
abbrev s_fraction:Stmt:=top 8
abbrev s_less:Stmt:=top 9
abbrev s_dealt:Stmt:=top 11
abbrev s_deal_in_order:Stmt:=top 12
abbrev s_deal_by_length:Stmt:=top 13
abbrev s_load_of:Stmt:=top 14
abbrev s_load_bound:Stmt:=top 15
abbrev s_law_cell_at:Stmt:=top 17
abbrev s_law_mixed:Stmt:=top 18
abbrev s_law_row:Stmt:=top 19
abbrev s_law_is_within:Stmt:=top 20
abbrev s_law_as_boxes:Stmt:=top 21
abbrev s_law_benches_good:Stmt:=top 22
abbrev s_law:Stmt:=top 23
structure Blt (mg:Str→Option Value):Prop where
  n_abs:mg "abs"=none
  n_all:mg "all"=none
  n_enumerate:mg "enumerate"=none
  n_len:mg "len"=none
  n_list:mg "list"=none
  n_max:mg "max"=none
  n_min:mg "min"=none
  n_range:mg "range"=none
  n_sorted:mg "sorted"=none
  n_sum:mg "sum"=none
  n_zip:mg "zip"=none
theorem sc_fill_last:FnScope ["room", "sizes", "left", "filling", "size"] ["room", "sizes"] (defScope s_fill_last):=⟨rfl,rfl,rfl,by decide +kernel,rfl,by decide +kernel,by decide +kernel⟩
def g_fill_last:DS :=
  (dSeq (dAsg 2 (dT1 kLst dNil))
    (dSeq (dAsg 3 (dT1 kLst dNil))
    (dSeq (dFor (gkName 4) (dVar 1) (dSeq (dIfS (dOr (dNot (dTr (dVar 2))) (dBo (d2 (kI tt2 fun i j => .bl (decide (i < j))) (d2 kIx (dVar 2) (d1 kNeg (dC (.int 1)))) (dVar 4)))) (dApp 2 (dVar 0)) dSkip)
    (dSeq (dAugI (fun i j=>i - j) 2 (d1 kNeg (dC (.int 1))) (dVar 4))
    (dApp 3 (d2 (kI tt2 fun i j => .int (i - j)) (dT1 kLen (dCons (dVar 2) dNil)) (dC (.int 1)))))))
    (dRetO 3))))
def G_fill_last:List D→Option Ev:=mkG 2 ["room", "sizes", "left", "filling", "size"] g_fill_last
theorem hl_fill_last:∀ ds r,G_fill_last ds=some r→ds.length=2:=fun _ _ e=>mkG_len e
theorem hG_fill_last:∀ ds r,G_fill_last ds=some r→∃ o,g_fill_last (startD ["room", "sizes", "left", "filling", "size"] ds)=some o∧outEv o=some r:=fun _ _ e=>mkG_ok e
theorem ok_fill_last {P:Program} {w:World} {K:PySem.W.Frag} {mg:Str→Option Value} {base:BHeap} {ad:Addr} {fd:FuncData} (Fn:L2.Fun K "fill_last" "fill_last" s_fill_last ad fd) (bu:Blt mg)
    (hl:∀ ds r,G_fill_last ds=some r→ds.length=2) (hG:∀ ds r,G_fill_last ds=some r→∃ o,g_fill_last (startD ["room", "sizes", "left", "filling", "size"] ds)=some o∧outEv o=some r):FnOk P w K mg base CX0 1 ad fd ["room", "sizes"] (spD K G_fill_last):=by
  have SC:=sc_fill_last
  refine fun_ok (k:=0) Fn SC hl g_fill_last hG (fun cdv A outer s H E F hr=>?_)
  refine psd_cons ?_ ?_
  · exact (psd_set (i:=2) SC.nd rfl (by first | exact Or.inl rfl | exact Or.inr rfl) (ped_lst pad_nil))
  refine psd_cons ?_ ?_
  · exact (psd_set (i:=3) SC.nd rfl (by first | exact Or.inl rfl | exact Or.inr rfl) (ped_lst pad_nil))
  refine psd_cons ?_ ?_
  · exact (psd_for PassesOwn.never rfl (ped_var 1) (pg_name (i:=4) SC.nd rfl (by first | exact Or.inl rfl | exact Or.inr rfl)) (tg_name 4) (psd_cons (psd_if (L2.PW.pt (pwd_or (ptd_not (ptd_val (ped_var 2))) (pwd_or1 (ptd_cmp od_lt (ped_ix (ped_var 2) (ped_neg ped_int)) (ped_var 4))))) (psd_one (psd_app 2 (ped_var 0))) psd_nil)
    (psd_cons (psd_augI 2 ip_sub (ped_neg ped_int) (ped_var 4))
    (psd_one (psd_app 3 (ped_op od_sub (ped_callB cd_len rfl bu.n_len PySem.boot_len (pad_cons (ped_var 2) pad_nil)) ped_int))))))
  exact psd_one (psd_retO 3)
theorem sc_first_with_room:FnScope ["left", "size", "box", "still"] ["left", "size"] (defScope s_first_with_room):=⟨rfl,rfl,rfl,by decide +kernel,rfl,by decide +kernel,by decide +kernel⟩
def g_first_with_room:DS :=
  (dSeq (dEnum (gkTup 2 (gkCons (gkName 2) (gkCons (gkName 3) gkNil))) (dVar 0) (dIfS (dBo (d2 (kI tt2 fun i j => .bl (decide (j ≤ i))) (dVar 3) (dVar 1))) (dRetO 2) dSkip))
    (dRet (dT1 kLen (dCons (dVar 0) dNil))))
def G_first_with_room:List D→Option Ev:=mkG 2 ["left", "size", "box", "still"] g_first_with_room
theorem hl_first_with_room:∀ ds r,G_first_with_room ds=some r→ds.length=2:=fun _ _ e=>mkG_len e
theorem hG_first_with_room:∀ ds r,G_first_with_room ds=some r→∃ o,g_first_with_room (startD ["left", "size", "box", "still"] ds)=some o∧outEv o=some r:=fun _ _ e=>mkG_ok e
theorem ok_first_with_room {P:Program} {w:World} {K:PySem.W.Frag} {mg:Str→Option Value} {base:BHeap} {ad:Addr} {fd:FuncData} (Fn:L2.Fun K "first_with_room" "first_with_room" s_first_with_room ad fd) (bu:Blt mg)
    (hl:∀ ds r,G_first_with_room ds=some r→ds.length=2) (hG:∀ ds r,G_first_with_room ds=some r→∃ o,g_first_with_room (startD ["left", "size", "box", "still"] ds)=some o∧outEv o=some r):FnOk P w K mg base CX0 1 ad fd ["left", "size"] (spD K G_first_with_room):=by
  have SC:=sc_first_with_room
  refine fun_ok (k:=0) Fn SC hl g_first_with_room hG (fun cdv A outer s H E F hr=>?_)
  refine psd_cons ?_ ?_
  · exact (psd_enum PassesOwn.never rfl rfl bu.n_enumerate (ped_var 0) (pg_tup rfl (pgs_cons (pg_name (i:=2) SC.nd rfl (by first | exact Or.inl rfl | exact Or.inr rfl)) (pgs_cons (pg_name (i:=3) SC.nd rfl (by first | exact Or.inl rfl | exact Or.inr rfl)) pgs_nil))) (tg_tup (tgs_cons (tg_name 2) (tgs_cons (tg_name 3) tgs_nil))) (psd_one (psd_if (ptd_cmp od_ge (ped_var 3) (ped_var 1)) (psd_one (psd_retO 2)) psd_nil)))
  exact psd_one (psd_ret (ped_callB cd_len rfl bu.n_len PySem.boot_len (pad_cons (ped_var 0) pad_nil)))
theorem sc_fill_first:FnScope ["room", "sizes", "left", "filling", "size", "box"] ["room", "sizes"] (defScope s_fill_first):=⟨rfl,rfl,rfl,by decide +kernel,rfl,by decide +kernel,by decide +kernel⟩
def g_fill_first:DS :=
  (dSeq (dAsg 2 (dT1 kLst dNil))
    (dSeq (dAsg 3 (dT1 kLst dNil))
    (dSeq (dFor (gkName 4) (dVar 1) (dSeq (dAsg 5 (dT1 (kCall G_first_with_room) (dCons (dVar 2) (dCons (dVar 4) dNil))))
    (dSeq (dIfS (dBo (d2 kEq (dVar 5) (dT1 kLen (dCons (dVar 2) dNil)))) (dApp 2 (dVar 0)) dSkip)
    (dSeq (dAugI (fun i j=>i - j) 2 (dVar 5) (dVar 4))
    (dApp 3 (dVar 5))))))
    (dRetO 3))))
def G_fill_first:List D→Option Ev:=mkG 2 ["room", "sizes", "left", "filling", "size", "box"] g_fill_first
theorem hl_fill_first:∀ ds r,G_fill_first ds=some r→ds.length=2:=fun _ _ e=>mkG_len e
theorem hG_fill_first:∀ ds r,G_fill_first ds=some r→∃ o,g_fill_first (startD ["room", "sizes", "left", "filling", "size", "box"] ds)=some o∧outEv o=some r:=fun _ _ e=>mkG_ok e
theorem ok_fill_first {P:Program} {w:World} {K:PySem.W.Frag} {mg:Str→Option Value} {base:BHeap} {ad:Addr} {fd:FuncData} (Fn:L2.Fun K "fill_first" "fill_first" s_fill_first ad fd) (bu:Blt mg) (c_first_with_room:Cal P w K mg base "first_with_room" 1 G_first_with_room)
    (hl:∀ ds r,G_fill_first ds=some r→ds.length=2) (hG:∀ ds r,G_fill_first ds=some r→∃ o,g_fill_first (startD ["room", "sizes", "left", "filling", "size", "box"] ds)=some o∧outEv o=some r):FnOk P w K mg base CX0 2 ad fd ["room", "sizes"] (spD K G_fill_first):=by
  have SC:=sc_fill_first
  refine fun_ok (k:=1) Fn SC hl g_fill_first hG (fun cdv A outer s H E F hr=>?_)
  refine psd_cons ?_ ?_
  · exact (psd_set (i:=2) SC.nd rfl (by first | exact Or.inl rfl | exact Or.inr rfl) (ped_lst pad_nil))
  refine psd_cons ?_ ?_
  · exact (psd_set (i:=3) SC.nd rfl (by first | exact Or.inl rfl | exact Or.inr rfl) (ped_lst pad_nil))
  refine psd_cons ?_ ?_
  · exact (psd_for PassesOwn.never rfl (ped_var 1) (pg_name (i:=4) SC.nd rfl (by first | exact Or.inl rfl | exact Or.inr rfl)) (tg_name 4) (psd_cons (psd_set (i:=5) SC.nd rfl (by first | exact Or.inl rfl | exact Or.inr rfl) (ped_callC c_first_with_room (hr.mono (by decide)) (pad_cons (ped_var 2) (pad_cons (ped_var 4) pad_nil))))
    (psd_cons (psd_if (ptd_cmp (od_eq hr.units) (ped_var 5) (ped_callB cd_len rfl bu.n_len PySem.boot_len (pad_cons (ped_var 2) pad_nil))) (psd_one (psd_app 2 (ped_var 0))) psd_nil)
    (psd_cons (psd_augI 2 ip_sub (ped_var 5) (ped_var 4))
    (psd_one (psd_app 3 (ped_var 5)))))))
  exact psd_one (psd_retO 3)
theorem sc_is_filling:FnScope ["room", "sizes", "boxes", "loads", "size", "box"] ["room", "sizes", "boxes"] (defScope s_is_filling):=⟨rfl,rfl,rfl,by decide +kernel,rfl,by decide +kernel,by decide +kernel⟩
def g_is_filling:DS :=
  (dSeq (dIfS (dBo (d2 kNe (dT1 kLen (dCons (dVar 2) dNil)) (dT1 kLen (dCons (dVar 1) dNil)))) (dRet (dC (.bl false))) dSkip)
    (dSeq (dAsg 3 (dT1 kLst dNil))
    (dSeq (dZip (gkTup 2 (gkCons (gkName 4) (gkCons (gkName 5) gkNil))) (dVar 1) (dVar 2) (dSeq (dIfS (dNot (dCh (kI tt2 fun i j => .bl (decide (i ≤ j))) (kI tt2 fun i j => .bl (decide (i ≤ j))) (dC (.int 0)) (dVar 5) (dT1 kLen (dCons (dVar 3) dNil)))) (dRet (dC (.bl false))) dSkip)
    (dSeq (dIfS (dBo (d2 kEq (dVar 5) (dT1 kLen (dCons (dVar 3) dNil)))) (dApp 3 (dC (.int 0))) dSkip)
    (dAugI (fun i j=>i + j) 3 (dVar 5) (dVar 4)))))
    (dRet (dT1 (kBls fun bs=>bs.all id) (dCons (dComp 1 [0] (fsL (dVar 3)) (gkName 0) dTrue (d2 (kI tt2 fun i j => .bl (decide (i ≤ j))) (dVar 0) (dVar 1))) dNil))))))
def G_is_filling:List D→Option Ev:=mkG 3 ["room", "sizes", "boxes", "loads", "size", "box"] g_is_filling
theorem hl_is_filling:∀ ds r,G_is_filling ds=some r→ds.length=3:=fun _ _ e=>mkG_len e
theorem hG_is_filling:∀ ds r,G_is_filling ds=some r→∃ o,g_is_filling (startD ["room", "sizes", "boxes", "loads", "size", "box"] ds)=some o∧outEv o=some r:=fun _ _ e=>mkG_ok e
theorem ok_is_filling {P:Program} {w:World} {K:PySem.W.Frag} {mg:Str→Option Value} {base:BHeap} {ad:Addr} {fd:FuncData} (Fn:L2.Fun K "is_filling" "is_filling" s_is_filling ad fd) (bu:Blt mg)
    (hl:∀ ds r,G_is_filling ds=some r→ds.length=3) (hG:∀ ds r,G_is_filling ds=some r→∃ o,g_is_filling (startD ["room", "sizes", "boxes", "loads", "size", "box"] ds)=some o∧outEv o=some r):FnOk P w K mg base CX0 1 ad fd ["room", "sizes", "boxes"] (spD K G_is_filling):=by
  have SC:=sc_is_filling
  refine fun_ok (k:=0) Fn SC hl g_is_filling hG (fun cdv A outer s H E F hr=>?_)
  refine psd_cons ?_ ?_
  · exact (psd_if (ptd_cmp (od_ne hr.units) (ped_callB cd_len rfl bu.n_len PySem.boot_len (pad_cons (ped_var 2) pad_nil)) (ped_callB cd_len rfl bu.n_len PySem.boot_len (pad_cons (ped_var 1) pad_nil))) (psd_one (psd_ret ped_bl)) psd_nil)
  refine psd_cons ?_ ?_
  · exact (psd_set (i:=3) SC.nd rfl (by first | exact Or.inl rfl | exact Or.inr rfl) (ped_lst pad_nil))
  refine psd_cons ?_ ?_
  · exact (psd_zip PassesOwn.never rfl rfl bu.n_zip (ped_var 1) (ped_var 2) (pg_tup rfl (pgs_cons (pg_name (i:=4) SC.nd rfl (by first | exact Or.inl rfl | exact Or.inr rfl)) (pgs_cons (pg_name (i:=5) SC.nd rfl (by first | exact Or.inl rfl | exact Or.inr rfl)) pgs_nil))) (tg_tup (tgs_cons (tg_name 4) (tgs_cons (tg_name 5) tgs_nil))) (psd_cons (psd_if (ptd_not (ptd_chain od_le od_le ped_int (ped_var 5) (ped_callB cd_len rfl bu.n_len PySem.boot_len (pad_cons (ped_var 3) pad_nil)))) (psd_one (psd_ret ped_bl)) psd_nil)
    (psd_cons (psd_if (ptd_cmp (od_eq hr.units) (ped_var 5) (ped_callB cd_len rfl bu.n_len PySem.boot_len (pad_cons (ped_var 3) pad_nil))) (psd_one (psd_app 3 ped_int)) psd_nil)
    (psd_one (psd_augI 3 ip_add (ped_var 5) (ped_var 4))))))
  exact psd_one (psd_ret (ped_callB (cd_bls (call_all_bools rfl)) rfl bu.n_all (by decide +kernel) (pad_cons (ped_compr 1 [0] ["load", "room"] rfl (pid_list (ped_var 3)) (fun _ _ _ _ _=>(pg_name (i:=0) (show List.Nodup (["load", "room"]:List Str) by decide +kernel) rfl (by first | exact Or.inl rfl | exact Or.inr rfl))) (fun _=>(tg_name 0)) (fun _ _ _ _ _ _=>ptsd_nil) (fun _ _ _ _ _ _=>(ped_cmp od_le (ped_var 0) (ped_var 1)))) pad_nil)))
theorem sc_fewest:FnScope ["room", "sizes"] ["room", "sizes"] (defScope s_fewest):=⟨rfl,rfl,rfl,by decide +kernel,rfl,by decide +kernel,by decide +kernel⟩
def g_fewest:DS :=
  (dRet (d2 (kI cDiv fun i j => .int (i.fdiv j)) (d2 (kI tt2 fun i j => .int (i - j)) (d2 (kOr (kI tt2 fun i j => .int (i + j)) kCat) (dT1 kSum (dCons (dVar 1) dNil)) (dVar 0)) (dC (.int 1))) (dVar 0)))
def G_fewest:List D→Option Ev:=mkG 2 ["room", "sizes"] g_fewest
theorem hl_fewest:∀ ds r,G_fewest ds=some r→ds.length=2:=fun _ _ e=>mkG_len e
theorem hG_fewest:∀ ds r,G_fewest ds=some r→∃ o,g_fewest (startD ["room", "sizes"] ds)=some o∧outEv o=some r:=fun _ _ e=>mkG_ok e
theorem ok_fewest {P:Program} {w:World} {K:PySem.W.Frag} {mg:Str→Option Value} {base:BHeap} {ad:Addr} {fd:FuncData} (Fn:L2.Fun K "fewest" "fewest" s_fewest ad fd) (bu:Blt mg)
    (hl:∀ ds r,G_fewest ds=some r→ds.length=2) (hG:∀ ds r,G_fewest ds=some r→∃ o,g_fewest (startD ["room", "sizes"] ds)=some o∧outEv o=some r):FnOk P w K mg base CX0 1 ad fd ["room", "sizes"] (spD K G_fewest):=by
  have SC:=sc_fewest
  refine fun_ok (k:=0) Fn SC hl g_fewest hG (fun cdv A outer s H E F hr=>?_)
  exact psd_one (psd_ret (ped_op od_div (ped_op od_sub (ped_op (od_add.or od_cat) (ped_callB (cd_sum rfl) rfl bu.n_sum (by decide +kernel) (pad_cons (ped_var 1) pad_nil)) (ped_var 0)) ped_int) (ped_var 0)))
theorem sc_common_factor:FnScope ["one", "other"] ["one", "other"] (defScope s_common_factor):=⟨rfl,rfl,rfl,by decide +kernel,rfl,by decide +kernel,by decide +kernel⟩
def g_common_factor:DS :=
  (dSeq (dWhile (fuelN 1) (dBo (d2 kNe (dVar 1) (dC (.int 0)))) (dPar 0 1 (dCons (dVar 1) (dCons (d2 (kI cMod fun i j => .int (i.fmod j)) (dVar 0) (dVar 1)) dNil))))
    (dRet (dT1 kAbs (dCons (dVar 0) dNil))))
def G_common_factor:List D→Option Ev:=mkG 2 ["one", "other"] g_common_factor
theorem hl_common_factor:∀ ds r,G_common_factor ds=some r→ds.length=2:=fun _ _ e=>mkG_len e
theorem hG_common_factor:∀ ds r,G_common_factor ds=some r→∃ o,g_common_factor (startD ["one", "other"] ds)=some o∧outEv o=some r:=fun _ _ e=>mkG_ok e
theorem ok_common_factor {P:Program} {w:World} {K:PySem.W.Frag} {mg:Str→Option Value} {base:BHeap} {ad:Addr} {fd:FuncData} (Fn:L2.Fun K "common_factor" "common_factor" s_common_factor ad fd) (bu:Blt mg)
    (hl:∀ ds r,G_common_factor ds=some r→ds.length=2) (hG:∀ ds r,G_common_factor ds=some r→∃ o,g_common_factor (startD ["one", "other"] ds)=some o∧outEv o=some r):FnOk P w K mg base CX0 1 ad fd ["one", "other"] (spD K G_common_factor):=by
  have SC:=sc_common_factor
  refine fun_ok (k:=0) Fn SC hl g_common_factor hG (fun cdv A outer s H E F hr=>?_)
  refine psd_cons ?_ ?_
  · exact (psd_while (fuelN 1) PassesOwn.never (ptd_cmp (od_ne hr.units) (ped_var 1) ped_int) (psd_one (psd_par (i:=0) (j:=1) rfl SC.nd rfl rfl (by decide) rfl rfl (pad_cons (ped_var 1) (pad_cons (ped_op od_mod (ped_var 0) (ped_var 1)) pad_nil)) rfl)))
  exact psd_one (psd_ret (ped_callB cd_abs rfl bu.n_abs bt_abs (pad_cons (ped_var 0) pad_nil)))
theorem sc_fraction:FnScope ["top", "bottom", "factor"] ["top", "bottom"] (defScope s_fraction):=⟨rfl,rfl,rfl,by decide +kernel,rfl,by decide +kernel,by decide +kernel⟩
def g_fraction:DS :=
  (dSeq (dAsg 2 (dT1 (kCall G_common_factor) (dCons (dVar 0) (dCons (dVar 1) dNil))))
    (dSeq (dIfS (dBo (d2 (kI tt2 fun i j => .bl (decide (i < j))) (dVar 1) (dC (.int 0)))) (dAsg 2 (d1 kNeg (dVar 2))) dSkip)
    (dRet (dT1 kTup (dCons (d2 (kI cDiv fun i j => .int (i.fdiv j)) (dVar 0) (dVar 2)) (dCons (d2 (kI cDiv fun i j => .int (i.fdiv j)) (dVar 1) (dVar 2)) dNil))))))
def G_fraction:List D→Option Ev:=mkG 2 ["top", "bottom", "factor"] g_fraction
theorem hl_fraction:∀ ds r,G_fraction ds=some r→ds.length=2:=fun _ _ e=>mkG_len e
theorem hG_fraction:∀ ds r,G_fraction ds=some r→∃ o,g_fraction (startD ["top", "bottom", "factor"] ds)=some o∧outEv o=some r:=fun _ _ e=>mkG_ok e
theorem ok_fraction {P:Program} {w:World} {K:PySem.W.Frag} {mg:Str→Option Value} {base:BHeap} {ad:Addr} {fd:FuncData} (Fn:L2.Fun K "fraction" "fraction" s_fraction ad fd) (bu:Blt mg) (c_common_factor:Cal P w K mg base "common_factor" 1 G_common_factor)
    (hl:∀ ds r,G_fraction ds=some r→ds.length=2) (hG:∀ ds r,G_fraction ds=some r→∃ o,g_fraction (startD ["top", "bottom", "factor"] ds)=some o∧outEv o=some r):FnOk P w K mg base CX0 2 ad fd ["top", "bottom"] (spD K G_fraction):=by
  have SC:=sc_fraction
  refine fun_ok (k:=1) Fn SC hl g_fraction hG (fun cdv A outer s H E F hr=>?_)
  refine psd_cons ?_ ?_
  · exact (psd_set (i:=2) SC.nd rfl (by first | exact Or.inl rfl | exact Or.inr rfl) (ped_callC c_common_factor (hr.mono (by decide)) (pad_cons (ped_var 0) (pad_cons (ped_var 1) pad_nil))))
  refine psd_cons ?_ ?_
  · exact (psd_if (ptd_cmp od_lt (ped_var 1) ped_int) (psd_one (psd_set (i:=2) SC.nd rfl (by first | exact Or.inl rfl | exact Or.inr rfl) (ped_neg (ped_var 2)))) psd_nil)
  exact psd_one (psd_ret (ped_tup (pad_cons (ped_op od_div (ped_var 0) (ped_var 2)) (pad_cons (ped_op od_div (ped_var 1) (ped_var 2)) pad_nil))))
theorem sc_less:FnScope ["one", "other"] ["one", "other"] (defScope s_less):=⟨rfl,rfl,rfl,by decide +kernel,rfl,by decide +kernel,by decide +kernel⟩
def g_less:DS :=
  (dRet (d2 (kI tt2 fun i j => .bl (decide (i < j))) (d2 (kOr (kI cMul fun i j => .int (i * j)) kRep) (d2 kIx (dVar 0) (dC (.int 0))) (d2 kIx (dVar 1) (dC (.int 1)))) (d2 (kOr (kI cMul fun i j => .int (i * j)) kRep) (d2 kIx (dVar 1) (dC (.int 0))) (d2 kIx (dVar 0) (dC (.int 1))))))
def G_less:List D→Option Ev:=mkG 2 ["one", "other"] g_less
theorem hl_less:∀ ds r,G_less ds=some r→ds.length=2:=fun _ _ e=>mkG_len e
theorem hG_less:∀ ds r,G_less ds=some r→∃ o,g_less (startD ["one", "other"] ds)=some o∧outEv o=some r:=fun _ _ e=>mkG_ok e
theorem ok_less {P:Program} {w:World} {K:PySem.W.Frag} {mg:Str→Option Value} {base:BHeap} {ad:Addr} {fd:FuncData} (Fn:L2.Fun K "less" "less" s_less ad fd) (bu:Blt mg)
    (hl:∀ ds r,G_less ds=some r→ds.length=2) (hG:∀ ds r,G_less ds=some r→∃ o,g_less (startD ["one", "other"] ds)=some o∧outEv o=some r):FnOk P w K mg base CX0 1 ad fd ["one", "other"] (spD K G_less):=by
  have SC:=sc_less
  refine fun_ok (k:=0) Fn SC hl g_less hG (fun cdv A outer s H E F hr=>?_)
  exact psd_one (psd_ret (ped_cmp od_lt (ped_op (od_mul.or od_rep) (ped_ix (ped_var 0) ped_int) (ped_ix (ped_var 1) ped_int)) (ped_op (od_mul.or od_rep) (ped_ix (ped_var 1) ped_int) (ped_ix (ped_var 0) ped_int))))
theorem sc_dealt:FnScope ["jobs", "benches", "order", "loads", "dealing", "job", "bench"] ["jobs", "benches", "order"] (defScope s_dealt):=⟨rfl,rfl,rfl,by decide +kernel,rfl,by decide +kernel,by decide +kernel⟩
def g_dealt:DS :=
  (dSeq (dAsg 3 (d2 (kOr (kI cMul fun i j => .int (i * j)) kRep) (dT1 kLst (dCons (dC (.int 0)) dNil)) (dVar 1)))
    (dSeq (dAsg 4 (d2 (kOr (kI cMul fun i j => .int (i * j)) kRep) (dT1 kLst (dCons (dC (.int 0)) dNil)) (dT1 kLen (dCons (dVar 0) dNil))))
    (dSeq (dFor (gkName 5) (dVar 2) (dSeq (dAsg 6 (d2 kIdx (dVar 3) (dT1 (kExtr leastI) (dCons (dVar 3) dNil))))
    (dSeq (dSetI 4 (dVar 5) (dVar 6))
    (dAugI (fun i j=>i + j) 3 (dVar 6) (d2 kIx (dVar 0) (dVar 5))))))
    (dRetO 4))))
def G_dealt:List D→Option Ev:=mkG 3 ["jobs", "benches", "order", "loads", "dealing", "job", "bench"] g_dealt
theorem hl_dealt:∀ ds r,G_dealt ds=some r→ds.length=3:=fun _ _ e=>mkG_len e
theorem hG_dealt:∀ ds r,G_dealt ds=some r→∃ o,g_dealt (startD ["jobs", "benches", "order", "loads", "dealing", "job", "bench"] ds)=some o∧outEv o=some r:=fun _ _ e=>mkG_ok e
theorem ok_dealt {P:Program} {w:World} {K:PySem.W.Frag} {mg:Str→Option Value} {base:BHeap} {ad:Addr} {fd:FuncData} (Fn:L2.Fun K "dealt" "dealt" s_dealt ad fd) (bu:Blt mg)
    (hl:∀ ds r,G_dealt ds=some r→ds.length=3) (hG:∀ ds r,G_dealt ds=some r→∃ o,g_dealt (startD ["jobs", "benches", "order", "loads", "dealing", "job", "bench"] ds)=some o∧outEv o=some r):FnOk P w K mg base CX0 1 ad fd ["jobs", "benches", "order"] (spD K G_dealt):=by
  have SC:=sc_dealt
  refine fun_ok (k:=0) Fn SC hl g_dealt hG (fun cdv A outer s H E F hr=>?_)
  refine psd_cons ?_ ?_
  · exact (psd_set (i:=3) SC.nd rfl (by first | exact Or.inl rfl | exact Or.inr rfl) (ped_op (od_mul.or od_rep) (ped_lst (pad_cons ped_int pad_nil)) (ped_var 1)))
  refine psd_cons ?_ ?_
  · exact (psd_set (i:=4) SC.nd rfl (by first | exact Or.inl rfl | exact Or.inr rfl) (ped_op (od_mul.or od_rep) (ped_lst (pad_cons ped_int pad_nil)) (ped_callB cd_len rfl bu.n_len PySem.boot_len (pad_cons (ped_var 0) pad_nil))))
  refine psd_cons ?_ ?_
  · exact (psd_for PassesOwn.never rfl (ped_var 2) (pg_name (i:=5) SC.nd rfl (by first | exact Or.inl rfl | exact Or.inr rfl)) (tg_name 5) (psd_cons (psd_set (i:=6) SC.nd rfl (by first | exact Or.inl rfl | exact Or.inr rfl) (ped_index (ped_var 3) (ped_callB (cd_minL rfl) rfl bu.n_min (by decide +kernel) (pad_cons (ped_var 3) pad_nil))))
    (psd_cons (psd_seti 4 (ped_var 5) (ped_var 6))
    (psd_one (psd_augI 3 ip_add (ped_var 6) (ped_ix (ped_var 0) (ped_var 5)))))))
  exact psd_one (psd_retO 4)
theorem sc_deal_in_order:FnScope ["jobs", "benches"] ["jobs", "benches"] (defScope s_deal_in_order):=⟨rfl,rfl,rfl,by decide +kernel,rfl,by decide +kernel,by decide +kernel⟩
def g_deal_in_order:DS :=
  (dRet (dT1 (kCall G_dealt) (dCons (dVar 0) (dCons (dVar 1) (dCons (dListR (dCons (dT1 kLen (dCons (dVar 0) dNil)) dNil)) dNil)))))
def G_deal_in_order:List D→Option Ev:=mkG 2 ["jobs", "benches"] g_deal_in_order
theorem hl_deal_in_order:∀ ds r,G_deal_in_order ds=some r→ds.length=2:=fun _ _ e=>mkG_len e
theorem hG_deal_in_order:∀ ds r,G_deal_in_order ds=some r→∃ o,g_deal_in_order (startD ["jobs", "benches"] ds)=some o∧outEv o=some r:=fun _ _ e=>mkG_ok e
theorem ok_deal_in_order {P:Program} {w:World} {K:PySem.W.Frag} {mg:Str→Option Value} {base:BHeap} {ad:Addr} {fd:FuncData} (Fn:L2.Fun K "deal_in_order" "deal_in_order" s_deal_in_order ad fd) (bu:Blt mg) (c_dealt:Cal P w K mg base "dealt" 1 G_dealt)
    (hl:∀ ds r,G_deal_in_order ds=some r→ds.length=2) (hG:∀ ds r,G_deal_in_order ds=some r→∃ o,g_deal_in_order (startD ["jobs", "benches"] ds)=some o∧outEv o=some r):FnOk P w K mg base CX0 2 ad fd ["jobs", "benches"] (spD K G_deal_in_order):=by
  have SC:=sc_deal_in_order
  refine fun_ok (k:=1) Fn SC hl g_deal_in_order hG (fun cdv A outer s H E F hr=>?_)
  exact psd_one (psd_ret (ped_callC c_dealt (hr.mono (by decide)) (pad_cons (ped_var 0) (pad_cons (ped_var 1) (pad_cons (ped_listR rfl rfl bu.n_list rfl bu.n_range (pad_cons (ped_callB cd_len rfl bu.n_len PySem.boot_len (pad_cons (ped_var 0) pad_nil)) pad_nil)) pad_nil)))))
theorem sc_deal_by_length:FnScope ["jobs", "benches"] ["jobs", "benches"] (defScope s_deal_by_length):=⟨rfl,rfl,rfl,by decide +kernel,rfl,by decide +kernel,by decide +kernel⟩
def g_deal_by_length:DS :=
  (dRet (dT1 (kCall G_dealt) (dCons (dVar 0) (dCons (dVar 1) (dCons (dSortK [0] (dT1 kLen (dCons (dVar 0) dNil)) (d1 kNeg (d2 kIx (dVar 1) (dVar 0)))) dNil)))))
def G_deal_by_length:List D→Option Ev:=mkG 2 ["jobs", "benches"] g_deal_by_length
theorem hl_deal_by_length:∀ ds r,G_deal_by_length ds=some r→ds.length=2:=fun _ _ e=>mkG_len e
theorem hG_deal_by_length:∀ ds r,G_deal_by_length ds=some r→∃ o,g_deal_by_length (startD ["jobs", "benches"] ds)=some o∧outEv o=some r:=fun _ _ e=>mkG_ok e
theorem ok_deal_by_length {P:Program} {w:World} {K:PySem.W.Frag} {mg:Str→Option Value} {base:BHeap} {ad:Addr} {fd:FuncData} (Fn:L2.Fun K "deal_by_length" "deal_by_length" s_deal_by_length ad fd) (bu:Blt mg) {lc lP:Addr} (hcd:fd.code = .ref lc) (hC:PySem.W.CodeHd base lc lP) (hP:(lP,lamOf "deal_by_length") ∈ base.tabs) (c_dealt:Cal P w K mg base "dealt" 1 G_dealt)
    (hl:∀ ds r,G_deal_by_length ds=some r→ds.length=2) (hG:∀ ds r,G_deal_by_length ds=some r→∃ o,g_deal_by_length (startD ["jobs", "benches"] ds)=some o∧outEv o=some r):FnOk P w K mg base CX0 4 ad fd ["jobs", "benches"] (spD K G_deal_by_length):=by
  have SC:=sc_deal_by_length
  refine fun_okC (k:=3) Fn SC hl g_deal_by_length hG (fun A outer s H E F hr=>?_)
  exact psd_one (psd_ret (ped_callC c_dealt (hr.mono (by decide)) (pad_cons (ped_var 0) (pad_cons (ped_var 1) (pad_cons (ped_sortK [0] ["job", "jobs"] 0 (hr.mono (by decide)) rfl hr.units hr.dep hcd hC hP rfl bu.n_sorted rfl bu.n_range (ped_callB cd_len rfl bu.n_len PySem.boot_len (pad_cons (ped_var 0) pad_nil)) (fun _ _ _ _ _ _ hr=>(ped_neg (ped_ix (ped_var 1) (ped_var 0))))) pad_nil)))))
theorem sc_load_of:FnScope ["jobs", "benches", "dealing", "loads", "length", "bench"] ["jobs", "benches", "dealing"] (defScope s_load_of):=⟨rfl,rfl,rfl,by decide +kernel,rfl,by decide +kernel,by decide +kernel⟩
def g_load_of:DS :=
  (dSeq (dAsg 3 (d2 (kOr (kI cMul fun i j => .int (i * j)) kRep) (dT1 kLst (dCons (dC (.int 0)) dNil)) (dVar 1)))
    (dSeq (dZip (gkTup 2 (gkCons (gkName 4) (gkCons (gkName 5) gkNil))) (dVar 0) (dVar 2) (dAugI (fun i j=>i + j) 3 (dVar 5) (dVar 4)))
    (dRet (dT1 (kExtr mostI) (dCons (dVar 3) dNil)))))
def G_load_of:List D→Option Ev:=mkG 3 ["jobs", "benches", "dealing", "loads", "length", "bench"] g_load_of
theorem hl_load_of:∀ ds r,G_load_of ds=some r→ds.length=3:=fun _ _ e=>mkG_len e
theorem hG_load_of:∀ ds r,G_load_of ds=some r→∃ o,g_load_of (startD ["jobs", "benches", "dealing", "loads", "length", "bench"] ds)=some o∧outEv o=some r:=fun _ _ e=>mkG_ok e
theorem ok_load_of {P:Program} {w:World} {K:PySem.W.Frag} {mg:Str→Option Value} {base:BHeap} {ad:Addr} {fd:FuncData} (Fn:L2.Fun K "load_of" "load_of" s_load_of ad fd) (bu:Blt mg)
    (hl:∀ ds r,G_load_of ds=some r→ds.length=3) (hG:∀ ds r,G_load_of ds=some r→∃ o,g_load_of (startD ["jobs", "benches", "dealing", "loads", "length", "bench"] ds)=some o∧outEv o=some r):FnOk P w K mg base CX0 1 ad fd ["jobs", "benches", "dealing"] (spD K G_load_of):=by
  have SC:=sc_load_of
  refine fun_ok (k:=0) Fn SC hl g_load_of hG (fun cdv A outer s H E F hr=>?_)
  refine psd_cons ?_ ?_
  · exact (psd_set (i:=3) SC.nd rfl (by first | exact Or.inl rfl | exact Or.inr rfl) (ped_op (od_mul.or od_rep) (ped_lst (pad_cons ped_int pad_nil)) (ped_var 1)))
  refine psd_cons ?_ ?_
  · exact (psd_zip PassesOwn.never rfl rfl bu.n_zip (ped_var 0) (ped_var 2) (pg_tup rfl (pgs_cons (pg_name (i:=4) SC.nd rfl (by first | exact Or.inl rfl | exact Or.inr rfl)) (pgs_cons (pg_name (i:=5) SC.nd rfl (by first | exact Or.inl rfl | exact Or.inr rfl)) pgs_nil))) (tg_tup (tgs_cons (tg_name 4) (tgs_cons (tg_name 5) tgs_nil))) (psd_one (psd_augI 3 ip_add (ped_var 5) (ped_var 4))))
  exact psd_one (psd_ret (ped_callB (cd_maxL rfl) rfl bu.n_max (by decide +kernel) (pad_cons (ped_var 3) pad_nil)))
theorem sc_load_bound:FnScope ["jobs", "benches", "falling", "whole", "even"] ["jobs", "benches"] (defScope s_load_bound):=⟨rfl,rfl,rfl,by decide +kernel,rfl,by decide +kernel,by decide +kernel⟩
def g_load_bound:DS :=
  (dSeq (dAsg 2 (dT1 kSortR (dCons (dVar 0) dNil)))
    (dSeq (dAsg 3 (dIf (dTr (dVar 2)) (d2 kIx (dVar 2) (dC (.int 0))) (dC (.int 0))))
    (dSeq (dIfS (dBo (d2 (kI tt2 fun i j => .bl (decide (j < i))) (dT1 kLen (dCons (dVar 2) dNil)) (dVar 1))) (dAsg 3 (dT1 (k2I fun i j=>if j > i then j else i) (dCons (dVar 3) (dCons (d2 (kOr (kI tt2 fun i j => .int (i + j)) kCat) (d2 kIx (dVar 2) (d2 (kI tt2 fun i j => .int (i - j)) (dVar 1) (dC (.int 1)))) (d2 kIx (dVar 2) (dVar 1))) dNil)))) dSkip)
    (dSeq (dAsg 4 (dT1 (kCall G_fraction) (dCons (dT1 kSum (dCons (dVar 0) dNil)) (dCons (dVar 1) dNil))))
    (dRet (dIf (dTr (dT1 (kCall G_less) (dCons (dT1 kTup (dCons (dVar 3) (dCons (dC (.int 1)) dNil))) (dCons (dVar 4) dNil)))) (dVar 4) (dT1 kTup (dCons (dVar 3) (dCons (dC (.int 1)) dNil)))))))))
def G_load_bound:List D→Option Ev:=mkG 2 ["jobs", "benches", "falling", "whole", "even"] g_load_bound
theorem hl_load_bound:∀ ds r,G_load_bound ds=some r→ds.length=2:=fun _ _ e=>mkG_len e
theorem hG_load_bound:∀ ds r,G_load_bound ds=some r→∃ o,g_load_bound (startD ["jobs", "benches", "falling", "whole", "even"] ds)=some o∧outEv o=some r:=fun _ _ e=>mkG_ok e
theorem ok_load_bound {P:Program} {w:World} {K:PySem.W.Frag} {mg:Str→Option Value} {base:BHeap} {ad:Addr} {fd:FuncData} (Fn:L2.Fun K "load_bound" "load_bound" s_load_bound ad fd) (bu:Blt mg) (c_fraction:Cal P w K mg base "fraction" 2 G_fraction) (c_less:Cal P w K mg base "less" 1 G_less)
    (hl:∀ ds r,G_load_bound ds=some r→ds.length=2) (hG:∀ ds r,G_load_bound ds=some r→∃ o,g_load_bound (startD ["jobs", "benches", "falling", "whole", "even"] ds)=some o∧outEv o=some r):FnOk P w K mg base CX0 3 ad fd ["jobs", "benches"] (spD K G_load_bound):=by
  have SC:=sc_load_bound
  refine fun_ok (k:=2) Fn SC hl g_load_bound hG (fun cdv A outer s H E F hr=>?_)
  refine psd_cons ?_ ?_
  · exact (psd_set (i:=2) SC.nd rfl (by first | exact Or.inl rfl | exact Or.inr rfl) (ped_sortedR rfl bu.n_sorted (ped_var 0)))
  refine psd_cons ?_ ?_
  · exact (psd_set (i:=3) SC.nd rfl (by first | exact Or.inl rfl | exact Or.inr rfl) (ped_if (ptd_val (ped_var 2)) (ped_ix (ped_var 2) ped_int) ped_int))
  refine psd_cons ?_ ?_
  · exact (psd_if (ptd_cmp od_gt (ped_callB cd_len rfl bu.n_len PySem.boot_len (pad_cons (ped_var 2) pad_nil)) (ped_var 1)) (psd_one (psd_set (i:=3) SC.nd rfl (by first | exact Or.inl rfl | exact Or.inr rfl) (ped_callB (cd_max rfl) rfl bu.n_max (by decide +kernel) (pad_cons (ped_var 3) (pad_cons (ped_op (od_add.or od_cat) (ped_ix (ped_var 2) (ped_op od_sub (ped_var 1) ped_int)) (ped_ix (ped_var 2) (ped_var 1))) pad_nil))))) psd_nil)
  refine psd_cons ?_ ?_
  · exact (psd_set (i:=4) SC.nd rfl (by first | exact Or.inl rfl | exact Or.inr rfl) (ped_callC c_fraction (hr.mono (by decide)) (pad_cons (ped_callB (cd_sum rfl) rfl bu.n_sum (by decide +kernel) (pad_cons (ped_var 0) pad_nil)) (pad_cons (ped_var 1) pad_nil))))
  exact psd_one (psd_ret (ped_if (ptd_val (ped_callC c_less (hr.mono (by decide)) (pad_cons (ped_tup (pad_cons (ped_var 3) (pad_cons ped_int pad_nil))) (pad_cons (ped_var 4) pad_nil)))) (ped_var 4) (ped_tup (pad_cons (ped_var 3) (pad_cons ped_int pad_nil)))))
theorem sc_law_cell_at:FnScope ["_law_script", "_law_k"] ["_law_script", "_law_k"] (defScope s_law_cell_at):=⟨rfl,rfl,rfl,by decide +kernel,rfl,by decide +kernel,by decide +kernel⟩
def g_law_cell_at:DS :=
  (dSeq (dIfS (dBo (d2 (kI tt2 fun i j => .bl (decide (i < j))) (dVar 1) (dT1 kLen (dCons (dVar 0) dNil)))) (dRet (d2 kIx (dVar 0) (dVar 1))) dSkip)
    (dRet (dC (.int 0))))
def G_law_cell_at:List D→Option Ev:=mkG 2 ["_law_script", "_law_k"] g_law_cell_at
theorem hl_law_cell_at:∀ ds r,G_law_cell_at ds=some r→ds.length=2:=fun _ _ e=>mkG_len e
theorem hG_law_cell_at:∀ ds r,G_law_cell_at ds=some r→∃ o,g_law_cell_at (startD ["_law_script", "_law_k"] ds)=some o∧outEv o=some r:=fun _ _ e=>mkG_ok e
theorem ok_law_cell_at {P:Program} {w:World} {K:PySem.W.Frag} {mg:Str→Option Value} {base:BHeap} {ad:Addr} {fd:FuncData} (Fn:L2.Fun K "_law_cell_at" "_law_cell_at" s_law_cell_at ad fd) (bu:Blt mg)
    (hl:∀ ds r,G_law_cell_at ds=some r→ds.length=2) (hG:∀ ds r,G_law_cell_at ds=some r→∃ o,g_law_cell_at (startD ["_law_script", "_law_k"] ds)=some o∧outEv o=some r):FnOk P w K mg base CX0 1 ad fd ["_law_script", "_law_k"] (spD K G_law_cell_at):=by
  have SC:=sc_law_cell_at
  refine fun_ok (k:=0) Fn SC hl g_law_cell_at hG (fun cdv A outer s H E F hr=>?_)
  refine psd_cons ?_ ?_
  · exact (psd_if (ptd_cmp od_lt (ped_var 1) (ped_callB cd_len rfl bu.n_len PySem.boot_len (pad_cons (ped_var 0) pad_nil))) (psd_one (psd_ret (ped_ix (ped_var 0) (ped_var 1)))) psd_nil)
  exact psd_one (psd_ret ped_int)
theorem sc_law_mixed:FnScope ["_law_cell", "_law_k", "_law_number"] ["_law_cell", "_law_k"] (defScope s_law_mixed):=⟨rfl,rfl,rfl,by decide +kernel,rfl,by decide +kernel,by decide +kernel⟩
def g_law_mixed:DS :=
  (dSeq (dAsg 2 (d2 (kI cMod fun i j => .int (i.fmod j)) (d2 (kOr (kI cMul fun i j => .int (i * j)) kRep) (d2 (kOr (kI tt2 fun i j => .int (i + j)) kCat) (d2 (kOr (kI tt2 fun i j => .int (i + j)) kCat) (d2 (kI cMod fun i j => .int (i.fmod j)) (dVar 0) (dC (.int 2147483647))) (d2 (kOr (kI cMul fun i j => .int (i * j)) kRep) (d2 (kOr (kI cMul fun i j => .int (i * j)) kRep) (dC (.int 48271)) (dVar 1)) (dVar 1))) (dC (.int 11))) (dC (.int 69621))) (dC (.int 2147483629))))
    (dRet (d2 (kI cMod fun i j => .int (i.fmod j)) (d2 (kOr (kI cMul fun i j => .int (i * j)) kRep) (d2 (kI cMod fun i j => .int (i.fmod j)) (d2 (kOr (kI tt2 fun i j => .int (i + j)) kCat) (d2 (kOr (kI cMul fun i j => .int (i * j)) kRep) (dVar 2) (dVar 2)) (d2 (kOr (kI cMul fun i j => .int (i * j)) kRep) (dC (.int 39373)) (dVar 1))) (dC (.int 2147483587))) (dC (.int 16807))) (dC (.int 2147483549)))))
def G_law_mixed:List D→Option Ev:=mkG 2 ["_law_cell", "_law_k", "_law_number"] g_law_mixed
theorem hl_law_mixed:∀ ds r,G_law_mixed ds=some r→ds.length=2:=fun _ _ e=>mkG_len e
theorem hG_law_mixed:∀ ds r,G_law_mixed ds=some r→∃ o,g_law_mixed (startD ["_law_cell", "_law_k", "_law_number"] ds)=some o∧outEv o=some r:=fun _ _ e=>mkG_ok e
theorem ok_law_mixed {P:Program} {w:World} {K:PySem.W.Frag} {mg:Str→Option Value} {base:BHeap} {ad:Addr} {fd:FuncData} (Fn:L2.Fun K "_law_mixed" "_law_mixed" s_law_mixed ad fd) (bu:Blt mg)
    (hl:∀ ds r,G_law_mixed ds=some r→ds.length=2) (hG:∀ ds r,G_law_mixed ds=some r→∃ o,g_law_mixed (startD ["_law_cell", "_law_k", "_law_number"] ds)=some o∧outEv o=some r):FnOk P w K mg base CX0 1 ad fd ["_law_cell", "_law_k"] (spD K G_law_mixed):=by
  have SC:=sc_law_mixed
  refine fun_ok (k:=0) Fn SC hl g_law_mixed hG (fun cdv A outer s H E F hr=>?_)
  refine psd_cons ?_ ?_
  · exact (psd_set (i:=2) SC.nd rfl (by first | exact Or.inl rfl | exact Or.inr rfl) (ped_op od_mod (ped_op (od_mul.or od_rep) (ped_op (od_add.or od_cat) (ped_op (od_add.or od_cat) (ped_op od_mod (ped_var 0) ped_int) (ped_op (od_mul.or od_rep) (ped_op (od_mul.or od_rep) ped_int (ped_var 1)) (ped_var 1))) ped_int) ped_int) ped_int))
  exact psd_one (psd_ret (ped_op od_mod (ped_op (od_mul.or od_rep) (ped_op od_mod (ped_op (od_add.or od_cat) (ped_op (od_mul.or od_rep) (ped_var 2) (ped_var 2)) (ped_op (od_mul.or od_rep) ped_int (ped_var 1))) ped_int) ped_int) ped_int))
theorem sc_law_row:FnScope ["_law_script", "_law_at", "_law_many", "_law_top", "_law_found", "_law_cell", "_law_k"] ["_law_script", "_law_at", "_law_many", "_law_top"] (defScope s_law_row):=⟨rfl,rfl,rfl,by decide +kernel,rfl,by decide +kernel,by decide +kernel⟩
def g_law_row:DS :=
  (dSeq (dAsg 4 (dT1 kLst dNil))
    (dSeq (dAsg 5 (dT1 (kCall G_law_cell_at) (dCons (dVar 0) (dCons (dVar 1) dNil))))
    (dSeq (dRng1 (gkName 6) (dVar 2) (dIfS (dBo (d2 kEq (d2 (kI cMod fun i j => .int (i.fmod j)) (dT1 (kCall G_law_cell_at) (dCons (dVar 0) (dCons (dC (.int 0)) dNil))) (dC (.int 2))) (dC (.int 0)))) (dSeq (dApp 4 (d2 (kI cMod fun i j => .int (i.fmod j)) (dVar 5) (dVar 3)))
    (dAsg 5 (d2 (kI cDiv fun i j => .int (i.fdiv j)) (dVar 5) (dVar 3)))) (dApp 4 (d2 (kI cMod fun i j => .int (i.fmod j)) (dT1 (kCall G_law_mixed) (dCons (dT1 (kCall G_law_cell_at) (dCons (dVar 0) (dCons (d2 (kOr (kI tt2 fun i j => .int (i + j)) kCat) (dVar 1) (d2 (kI cMod fun i j => .int (i.fmod j)) (dVar 6) (dC (.int 8)))) dNil))) (dCons (d2 (kOr (kI tt2 fun i j => .int (i + j)) kCat) (dVar 1) (dVar 6)) dNil))) (dVar 3)))))
    (dRetO 4))))
def G_law_row:List D→Option Ev:=mkG 4 ["_law_script", "_law_at", "_law_many", "_law_top", "_law_found", "_law_cell", "_law_k"] g_law_row
theorem hl_law_row:∀ ds r,G_law_row ds=some r→ds.length=4:=fun _ _ e=>mkG_len e
theorem hG_law_row:∀ ds r,G_law_row ds=some r→∃ o,g_law_row (startD ["_law_script", "_law_at", "_law_many", "_law_top", "_law_found", "_law_cell", "_law_k"] ds)=some o∧outEv o=some r:=fun _ _ e=>mkG_ok e
theorem ok_law_row {P:Program} {w:World} {K:PySem.W.Frag} {mg:Str→Option Value} {base:BHeap} {ad:Addr} {fd:FuncData} (Fn:L2.Fun K "_law_row" "_law_row" s_law_row ad fd) (bu:Blt mg) (c_law_cell_at:Cal P w K mg base "_law_cell_at" 1 G_law_cell_at) (c_law_mixed:Cal P w K mg base "_law_mixed" 1 G_law_mixed)
    (hl:∀ ds r,G_law_row ds=some r→ds.length=4) (hG:∀ ds r,G_law_row ds=some r→∃ o,g_law_row (startD ["_law_script", "_law_at", "_law_many", "_law_top", "_law_found", "_law_cell", "_law_k"] ds)=some o∧outEv o=some r):FnOk P w K mg base CX0 2 ad fd ["_law_script", "_law_at", "_law_many", "_law_top"] (spD K G_law_row):=by
  have SC:=sc_law_row
  refine fun_ok (k:=1) Fn SC hl g_law_row hG (fun cdv A outer s H E F hr=>?_)
  refine psd_cons ?_ ?_
  · exact (psd_set (i:=4) SC.nd rfl (by first | exact Or.inl rfl | exact Or.inr rfl) (ped_lst pad_nil))
  refine psd_cons ?_ ?_
  · exact (psd_set (i:=5) SC.nd rfl (by first | exact Or.inl rfl | exact Or.inr rfl) (ped_callC c_law_cell_at (hr.mono (by decide)) (pad_cons (ped_var 0) (pad_cons (ped_var 1) pad_nil))))
  refine psd_cons ?_ ?_
  · exact (psd_rng1 PassesOwn.never rfl rfl bu.n_range (ped_var 2) (pg_name (i:=6) SC.nd rfl (by first | exact Or.inl rfl | exact Or.inr rfl)) (tg_name 6) (psd_one (psd_if (ptd_cmp (od_eq hr.units) (ped_op od_mod (ped_callC c_law_cell_at (hr.mono (by decide)) (pad_cons (ped_var 0) (pad_cons ped_int pad_nil))) ped_int) ped_int) (psd_cons (psd_app 4 (ped_op od_mod (ped_var 5) (ped_var 3)))
    (psd_one (psd_set (i:=5) SC.nd rfl (by first | exact Or.inl rfl | exact Or.inr rfl) (ped_op od_div (ped_var 5) (ped_var 3))))) (psd_one (psd_app 4 (ped_op od_mod (ped_callC c_law_mixed (hr.mono (by decide)) (pad_cons (ped_callC c_law_cell_at (hr.mono (by decide)) (pad_cons (ped_var 0) (pad_cons (ped_op (od_add.or od_cat) (ped_var 1) (ped_op od_mod (ped_var 6) ped_int)) pad_nil))) (pad_cons (ped_op (od_add.or od_cat) (ped_var 1) (ped_var 6)) pad_nil))) (ped_var 3)))))))
  exact psd_one (psd_retO 4)
theorem sc_law_is_within:FnScope ["_law_load", "_law_top", "_law_bottom", "_law_room"] ["_law_load", "_law_top", "_law_bottom", "_law_room"] (defScope s_law_is_within):=⟨rfl,rfl,rfl,by decide +kernel,rfl,by decide +kernel,by decide +kernel⟩
def g_law_is_within:DS :=
  (dRet (d2 (kI tt2 fun i j => .bl (decide (i ≤ j))) (d2 (kOr (kI cMul fun i j => .int (i * j)) kRep) (dVar 0) (dVar 2)) (d2 (kOr (kI cMul fun i j => .int (i * j)) kRep) (dVar 1) (dVar 3))))
def G_law_is_within:List D→Option Ev:=mkG 4 ["_law_load", "_law_top", "_law_bottom", "_law_room"] g_law_is_within
theorem hl_law_is_within:∀ ds r,G_law_is_within ds=some r→ds.length=4:=fun _ _ e=>mkG_len e
theorem hG_law_is_within:∀ ds r,G_law_is_within ds=some r→∃ o,g_law_is_within (startD ["_law_load", "_law_top", "_law_bottom", "_law_room"] ds)=some o∧outEv o=some r:=fun _ _ e=>mkG_ok e
theorem ok_law_is_within {P:Program} {w:World} {K:PySem.W.Frag} {mg:Str→Option Value} {base:BHeap} {ad:Addr} {fd:FuncData} (Fn:L2.Fun K "_law_is_within" "_law_is_within" s_law_is_within ad fd) (bu:Blt mg)
    (hl:∀ ds r,G_law_is_within ds=some r→ds.length=4) (hG:∀ ds r,G_law_is_within ds=some r→∃ o,g_law_is_within (startD ["_law_load", "_law_top", "_law_bottom", "_law_room"] ds)=some o∧outEv o=some r):FnOk P w K mg base CX0 1 ad fd ["_law_load", "_law_top", "_law_bottom", "_law_room"] (spD K G_law_is_within):=by
  have SC:=sc_law_is_within
  refine fun_ok (k:=0) Fn SC hl g_law_is_within hG (fun cdv A outer s H E F hr=>?_)
  exact psd_one (psd_ret (ped_cmp od_le (ped_op (od_mul.or od_rep) (ped_var 0) (ped_var 2)) (ped_op (od_mul.or od_rep) (ped_var 1) (ped_var 3))))
theorem sc_law_as_boxes:FnScope ["_law_dealing", "_law_known", "_law_bench"] ["_law_dealing"] (defScope s_law_as_boxes):=⟨rfl,rfl,rfl,by decide +kernel,rfl,by decide +kernel,by decide +kernel⟩
def g_law_as_boxes:DS :=
  (dSeq (dAsg 1 dNewD)
    (dSeq (dFor (gkName 2) (dVar 0) (dIfS (dBo (d2 (kInD true) (dVar 2) (dVar 1))) (dDPut 1 (dVar 2) (dT1 kLenD (dCons (dVar 1) dNil))) dSkip))
    (dRet (dComp 1 [1] (fsL (dVar 0)) (gkName 0) dTrue (d2 kDGet (dVar 1) (dVar 0))))))
def G_law_as_boxes:List D→Option Ev:=mkG 1 ["_law_dealing", "_law_known", "_law_bench"] g_law_as_boxes
theorem hl_law_as_boxes:∀ ds r,G_law_as_boxes ds=some r→ds.length=1:=fun _ _ e=>mkG_len e
theorem hG_law_as_boxes:∀ ds r,G_law_as_boxes ds=some r→∃ o,g_law_as_boxes (startD ["_law_dealing", "_law_known", "_law_bench"] ds)=some o∧outEv o=some r:=fun _ _ e=>mkG_ok e
theorem ok_law_as_boxes {P:Program} {w:World} {K:PySem.W.Frag} {mg:Str→Option Value} {base:BHeap} {ad:Addr} {fd:FuncData} (Fn:L2.Fun K "_law_as_boxes" "_law_as_boxes" s_law_as_boxes ad fd) (bu:Blt mg)
    (hl:∀ ds r,G_law_as_boxes ds=some r→ds.length=1) (hG:∀ ds r,G_law_as_boxes ds=some r→∃ o,g_law_as_boxes (startD ["_law_dealing", "_law_known", "_law_bench"] ds)=some o∧outEv o=some r):FnOk P w K mg base CX0 1 ad fd ["_law_dealing"] (spD K G_law_as_boxes):=by
  have SC:=sc_law_as_boxes
  refine fun_ok (k:=0) Fn SC hl g_law_as_boxes hG (fun cdv A outer s H E F hr=>?_)
  refine psd_cons ?_ ?_
  · exact (psd_set (i:=1) SC.nd rfl (by first | exact Or.inl rfl | exact Or.inr rfl) ped_newD)
  refine psd_cons ?_ ?_
  · exact (psd_for PassesOwn.never rfl (ped_var 0) (pg_name (i:=2) SC.nd rfl (by first | exact Or.inl rfl | exact Or.inr rfl)) (tg_name 2) (psd_one (psd_if (ptd_cmp (od_ninD hr.units) (ped_var 2) (ped_var 1)) (psd_one (psd_dput 1 hr.units (ped_var 2) (ped_callB cd_lenD rfl bu.n_len PySem.boot_len (pad_cons (ped_var 1) pad_nil)))) psd_nil)))
  exact psd_one (psd_ret (ped_compr 1 [1] ["_law_bench", "_law_known"] rfl (pid_list (ped_var 0)) (fun _ _ _ _ _=>(pg_name (i:=0) (show List.Nodup (["_law_bench", "_law_known"]:List Str) by decide +kernel) rfl (by first | exact Or.inl rfl | exact Or.inr rfl))) (fun _=>(tg_name 0)) (fun _ _ _ _ _ _=>ptsd_nil) (fun _ _ _ _ _ _=>(ped_dget hr.units (ped_var 1) (ped_var 0)))))
theorem sc_law_benches_good:FnScope ["_law_sizes", "_law_room", "_law_benches", "_law_top", "_law_bottom", "_law_first", "_law_second"] ["_law_sizes", "_law_room", "_law_benches"] (defScope s_law_benches_good):=⟨rfl,rfl,rfl,by decide +kernel,rfl,by decide +kernel,by decide +kernel⟩
def g_law_benches_good:DS :=
  (dSeq (dAsgT (gkTup 2 (gkCons (gkName 3) (gkCons (gkName 4) gkNil))) (dT1 (kCall G_load_bound) (dCons (dVar 0) (dCons (dVar 2) dNil))))
    (dSeq (dIfS (dBo (d2 (kI tt2 fun i j => .bl (decide (j < i))) (dVar 3) (d2 (kOr (kI cMul fun i j => .int (i * j)) kRep) (dVar 1) (dVar 4)))) (dRet (dC (.bl false))) dSkip)
    (dSeq (dAsg 5 (dT1 (kCall G_load_of) (dCons (dVar 0) (dCons (dVar 2) (dCons (dT1 (kCall G_deal_in_order) (dCons (dVar 0) (dCons (dVar 2) dNil))) dNil)))))
    (dSeq (dAsg 6 (dT1 (kCall G_load_of) (dCons (dVar 0) (dCons (dVar 2) (dCons (dT1 (kCall G_deal_by_length) (dCons (dVar 0) (dCons (dVar 2) dNil))) dNil)))))
    (dSeq (dIfS (dNot (dTr (dT1 (kCall G_law_is_within) (dCons (dVar 5) (dCons (d2 (kI tt2 fun i j => .int (i - j)) (d2 (kOr (kI cMul fun i j => .int (i * j)) kRep) (dC (.int 2)) (dVar 2)) (dC (.int 1))) (dCons (dVar 2) (dCons (dVar 1) dNil))))))) (dRet (dC (.bl false))) dSkip)
    (dRet (dT1 (kCall G_law_is_within) (dCons (dVar 6) (dCons (d2 (kI tt2 fun i j => .int (i - j)) (d2 (kOr (kI cMul fun i j => .int (i * j)) kRep) (dC (.int 3)) (dVar 2)) (dC (.int 1))) (dCons (d2 (kOr (kI cMul fun i j => .int (i * j)) kRep) (dC (.int 2)) (dVar 2)) (dCons (dVar 1) dNil)))))))))))
def G_law_benches_good:List D→Option Ev:=mkG 3 ["_law_sizes", "_law_room", "_law_benches", "_law_top", "_law_bottom", "_law_first", "_law_second"] g_law_benches_good
theorem hl_law_benches_good:∀ ds r,G_law_benches_good ds=some r→ds.length=3:=fun _ _ e=>mkG_len e
theorem hG_law_benches_good:∀ ds r,G_law_benches_good ds=some r→∃ o,g_law_benches_good (startD ["_law_sizes", "_law_room", "_law_benches", "_law_top", "_law_bottom", "_law_first", "_law_second"] ds)=some o∧outEv o=some r:=fun _ _ e=>mkG_ok e
theorem ok_law_benches_good {P:Program} {w:World} {K:PySem.W.Frag} {mg:Str→Option Value} {base:BHeap} {ad:Addr} {fd:FuncData} (Fn:L2.Fun K "_law_benches_good" "_law_benches_good" s_law_benches_good ad fd) (bu:Blt mg) (c_load_bound:Cal P w K mg base "load_bound" 3 G_load_bound) (c_deal_in_order:Cal P w K mg base "deal_in_order" 2 G_deal_in_order) (c_load_of:Cal P w K mg base "load_of" 1 G_load_of) (c_deal_by_length:Cal P w K mg base "deal_by_length" 4 G_deal_by_length) (c_law_is_within:Cal P w K mg base "_law_is_within" 1 G_law_is_within)
    (hl:∀ ds r,G_law_benches_good ds=some r→ds.length=3) (hG:∀ ds r,G_law_benches_good ds=some r→∃ o,g_law_benches_good (startD ["_law_sizes", "_law_room", "_law_benches", "_law_top", "_law_bottom", "_law_first", "_law_second"] ds)=some o∧outEv o=some r):FnOk P w K mg base CX0 5 ad fd ["_law_sizes", "_law_room", "_law_benches"] (spD K G_law_benches_good):=by
  have SC:=sc_law_benches_good
  refine fun_ok (k:=4) Fn SC hl g_law_benches_good hG (fun cdv A outer s H E F hr=>?_)
  refine psd_cons ?_ ?_
  · exact (psd_asg (ped_callC c_load_bound (hr.mono (by decide)) (pad_cons (ped_var 0) (pad_cons (ped_var 2) pad_nil))) (pg_tup rfl (pgs_cons (pg_name (i:=3) SC.nd rfl (by first | exact Or.inl rfl | exact Or.inr rfl)) (pgs_cons (pg_name (i:=4) SC.nd rfl (by first | exact Or.inl rfl | exact Or.inr rfl)) pgs_nil))) (tg_tup (tgs_cons (tg_name 3) (tgs_cons (tg_name 4) tgs_nil))))
  refine psd_cons ?_ ?_
  · exact (psd_if (ptd_cmp od_gt (ped_var 3) (ped_op (od_mul.or od_rep) (ped_var 1) (ped_var 4))) (psd_one (psd_ret ped_bl)) psd_nil)
  refine psd_cons ?_ ?_
  · exact (psd_set (i:=5) SC.nd rfl (by first | exact Or.inl rfl | exact Or.inr rfl) (ped_callC c_load_of (hr.mono (by decide)) (pad_cons (ped_var 0) (pad_cons (ped_var 2) (pad_cons (ped_callC c_deal_in_order (hr.mono (by decide)) (pad_cons (ped_var 0) (pad_cons (ped_var 2) pad_nil))) pad_nil)))))
  refine psd_cons ?_ ?_
  · exact (psd_set (i:=6) SC.nd rfl (by first | exact Or.inl rfl | exact Or.inr rfl) (ped_callC c_load_of (hr.mono (by decide)) (pad_cons (ped_var 0) (pad_cons (ped_var 2) (pad_cons (ped_callC c_deal_by_length (hr.mono (by decide)) (pad_cons (ped_var 0) (pad_cons (ped_var 2) pad_nil))) pad_nil)))))
  refine psd_cons ?_ ?_
  · exact (psd_if (ptd_not (ptd_val (ped_callC c_law_is_within (hr.mono (by decide)) (by refine pad_cons ?_ ?_ ?_; exact (ped_var 5); exact (by refine pad_cons ?_ ?_ ?_; exact (ped_op od_sub (ped_op (od_mul.or od_rep) ped_int (ped_var 2)) ped_int); exact (by refine pad_cons ?_ ?_ ?_; exact (ped_var 2); exact (by refine pad_cons ?_ ?_ ?_; exact (ped_var 1); exact pad_nil; exact (star_ns rfl)); exact (star_ns rfl)); exact (star_ns rfl)); exact (star_ns rfl))))) (psd_one (psd_ret ped_bl)) psd_nil)
  exact psd_one (psd_ret (ped_callC c_law_is_within (hr.mono (by decide)) (by refine pad_cons ?_ ?_ ?_; exact (ped_var 6); exact (by refine pad_cons ?_ ?_ ?_; exact (ped_op od_sub (ped_op (od_mul.or od_rep) ped_int (ped_var 2)) ped_int); exact (by refine pad_cons ?_ ?_ ?_; exact (ped_op (od_mul.or od_rep) ped_int (ped_var 2)); exact (by refine pad_cons ?_ ?_ ?_; exact (ped_var 1); exact pad_nil; exact (star_ns rfl)); exact (star_ns rfl)); exact (star_ns rfl)); exact (star_ns rfl))))
theorem sc_law:FnScope ["_law_script", "_law_room", "_law_sizes", "_law_filling", "_law_least", "_law_top", "_law_bottom", "_law_benches", "_law_dealing"] ["_law_script"] (defScope s_law):=⟨rfl,rfl,rfl,by decide +kernel,rfl,by decide +kernel,by decide +kernel⟩
def g_law:DS :=
  (dSeq (dAsg 1 (d2 (kOr (kI tt2 fun i j => .int (i + j)) kCat) (dC (.int 1)) (d2 (kI cMod fun i j => .int (i.fmod j)) (dT1 (kCall G_law_cell_at) (dCons (dVar 0) (dCons (dC (.int 1)) dNil))) (dC (.int 60)))))
    (dSeq (dAsg 2 (dComp 1 [] (fsL (dT1 (kCall G_law_row) (dCons (dVar 0) (dCons (dC (.int 2)) (dCons (d2 (kOr (kI tt2 fun i j => .int (i + j)) kCat) (dC (.int 1)) (d2 (kI cMod fun i j => .int (i.fmod j)) (dT1 (kCall G_law_cell_at) (dCons (dVar 0) (dCons (dC (.int 3)) dNil))) (dC (.int 20)))) (dCons (dVar 1) dNil)))))) (gkName 0) dTrue (d2 (kOr (kI tt2 fun i j => .int (i + j)) kCat) (dC (.int 1)) (dVar 0))))
    (dSeq (dFor (gkName 3) (dT1 kLst (dCons (dT1 (kCall G_fill_last) (dCons (dVar 1) (dCons (dVar 2) dNil))) (dCons (dT1 (kCall G_fill_first) (dCons (dVar 1) (dCons (dVar 2) dNil))) dNil))) (dIfS (dAnd (dBo (d2 (kI tt2 fun i j => .bl (decide (i < j))) (dT1 (kExtr mostI) (dCons (dVar 3) dNil)) (dC (.int 20)))) (dNot (dTr (dT1 (kCall G_law_benches_good) (dCons (dVar 2) (dCons (dVar 1) (dCons (d2 (kOr (kI tt2 fun i j => .int (i + j)) kCat) (dT1 (kExtr mostI) (dCons (dVar 3) dNil)) (dC (.int 1))) dNil))))))) (dRet (dC (.bl false))) dSkip))
    (dSeq (dAsg 4 (dT1 (kCall G_fewest) (dCons (dVar 1) (dCons (dVar 2) dNil))))
    (dSeq (dIfS (dBo (d2 (kI tt2 fun i j => .bl (decide (j < i))) (dVar 4) (dC (.int 1)))) (dSeq (dAsgT (gkTup 2 (gkCons (gkName 5) (gkCons (gkName 6) gkNil))) (dT1 (kCall G_load_bound) (dCons (dVar 2) (dCons (d2 (kI tt2 fun i j => .int (i - j)) (dVar 4) (dC (.int 1))) dNil))))
    (dIfS (dBo (d2 (kI tt2 fun i j => .bl (decide (i ≤ j))) (dVar 5) (d2 (kOr (kI cMul fun i j => .int (i * j)) kRep) (dVar 1) (dVar 6)))) (dRet (dC (.bl false))) dSkip)) dSkip)
    (dSeq (dRng2 (gkName 7) (dC (.int 1)) (dC (.int 8)) (dFor (gkName 8) (dT1 kLst (dCons (dT1 (kCall G_deal_in_order) (dCons (dVar 2) (dCons (dVar 7) dNil))) (dCons (dT1 (kCall G_deal_by_length) (dCons (dVar 2) (dCons (dVar 7) dNil))) dNil))) (dIfS (dBo (d2 (kI tt2 fun i j => .bl (decide (i ≤ j))) (dT1 (kCall G_load_of) (dCons (dVar 2) (dCons (dVar 7) (dCons (dVar 8) dNil)))) (dVar 1))) (dIfS (dOr (dBo (d2 (kI tt2 fun i j => .bl (decide (i < j))) (dVar 7) (dVar 4))) (dBo (d2 kIsntB (dT1 (kCall G_is_filling) (dCons (dVar 1) (dCons (dVar 2) (dCons (dT1 (kCall G_law_as_boxes) (dCons (dVar 8) dNil)) dNil)))) (dC (.bl true))))) (dRet (dC (.bl false))) dSkip) dSkip)))
    (dRet (dC (.bl true)))))))))
def G_law:List D→Option Ev:=mkG 1 ["_law_script", "_law_room", "_law_sizes", "_law_filling", "_law_least", "_law_top", "_law_bottom", "_law_benches", "_law_dealing"] g_law
theorem hl_law:∀ ds r,G_law ds=some r→ds.length=1:=fun _ _ e=>mkG_len e
theorem hG_law:∀ ds r,G_law ds=some r→∃ o,g_law (startD ["_law_script", "_law_room", "_law_sizes", "_law_filling", "_law_least", "_law_top", "_law_bottom", "_law_benches", "_law_dealing"] ds)=some o∧outEv o=some r:=fun _ _ e=>mkG_ok e
theorem ok_law {P:Program} {w:World} {K:PySem.W.Frag} {mg:Str→Option Value} {base:BHeap} {ad:Addr} {fd:FuncData} (Fn:L2.Fun K "law" "law" s_law ad fd) (bu:Blt mg) (c_law_cell_at:Cal P w K mg base "_law_cell_at" 1 G_law_cell_at) (c_law_row:Cal P w K mg base "_law_row" 2 G_law_row) (c_fill_first:Cal P w K mg base "fill_first" 2 G_fill_first) (c_fill_last:Cal P w K mg base "fill_last" 1 G_fill_last) (c_law_benches_good:Cal P w K mg base "_law_benches_good" 5 G_law_benches_good) (c_fewest:Cal P w K mg base "fewest" 1 G_fewest) (c_load_bound:Cal P w K mg base "load_bound" 3 G_load_bound) (c_deal_by_length:Cal P w K mg base "deal_by_length" 4 G_deal_by_length) (c_deal_in_order:Cal P w K mg base "deal_in_order" 2 G_deal_in_order) (c_load_of:Cal P w K mg base "load_of" 1 G_load_of) (c_law_as_boxes:Cal P w K mg base "_law_as_boxes" 1 G_law_as_boxes) (c_is_filling:Cal P w K mg base "is_filling" 1 G_is_filling)
    (hl:∀ ds r,G_law ds=some r→ds.length=1) (hG:∀ ds r,G_law ds=some r→∃ o,g_law (startD ["_law_script", "_law_room", "_law_sizes", "_law_filling", "_law_least", "_law_top", "_law_bottom", "_law_benches", "_law_dealing"] ds)=some o∧outEv o=some r):FnOk P w K mg base CX0 6 ad fd ["_law_script"] (spD K G_law):=by
  have SC:=sc_law
  refine fun_ok (k:=5) Fn SC hl g_law hG (fun cdv A outer s H E F hr=>?_)
  refine psd_cons ?_ ?_
  · exact (psd_set (i:=1) SC.nd rfl (by first | exact Or.inl rfl | exact Or.inr rfl) (ped_op (od_add.or od_cat) ped_int (ped_op od_mod (ped_callC c_law_cell_at (hr.mono (by decide)) (pad_cons (ped_var 0) (pad_cons ped_int pad_nil))) ped_int)))
  refine psd_cons ?_ ?_
  · exact (psd_setC (i:=2) 1 [] ["_law_one"] SC.nd rfl (Or.inl rfl) rfl (pid_list (ped_callC c_law_row (hr.mono (by decide)) (by refine pad_cons ?_ ?_ ?_; exact (ped_var 0); exact (by refine pad_cons ?_ ?_ ?_; exact ped_int; exact (by refine pad_cons ?_ ?_ ?_; exact (ped_op (od_add.or od_cat) ped_int (ped_op od_mod (ped_callC c_law_cell_at (hr.mono (by decide)) (pad_cons (ped_var 0) (pad_cons ped_int pad_nil))) ped_int)); exact (by refine pad_cons ?_ ?_ ?_; exact (ped_var 1); exact pad_nil; exact (star_ns rfl)); exact (star_ns rfl)); exact (star_ns rfl)); exact (star_ns rfl)))) (fun _ _ _ _ _=>(pg_name (i:=0) (show List.Nodup (["_law_one"]:List Str) by decide +kernel) rfl (by first | exact Or.inl rfl | exact Or.inr rfl))) (fun _=>(tg_name 0)) (fun _ _ _ _ _ _=>ptsd_nil) (fun _ _ _ _ _ _=>(ped_op (od_add.or od_cat) ped_int (ped_var 0))))
  refine psd_cons ?_ ?_
  · exact (by refine psd_for (gt:=gName 3) (hs:=?_) ?_ ?_ ?_ ?_ ?_ ?_; exact PassesOwn.never; exact rfl; exact (ped_lst (pad_cons (ped_callC c_fill_last (hr.mono (by decide)) (pad_cons (ped_var 1) (pad_cons (ped_var 2) pad_nil))) (pad_cons (ped_callC c_fill_first (hr.mono (by decide)) (pad_cons (ped_var 1) (pad_cons (ped_var 2) pad_nil))) pad_nil))); exact (pg_name (i:=3) SC.nd rfl (by first | exact Or.inl rfl | exact Or.inr rfl)); exact (tg_name 3); exact (psd_one (psd_if (L2.PW.pt (pwd_and (ptd_cmp od_lt (ped_callB (cd_maxL rfl) rfl bu.n_max (by decide +kernel) (pad_cons (ped_var 3) pad_nil)) ped_int) (pwd_and1 (ptd_not (ptd_val (ped_callC c_law_benches_good (hr.mono (by decide)) (pad_cons (ped_var 2) (pad_cons (ped_var 1) (pad_cons (ped_op (od_add.or od_cat) (ped_callB (cd_maxL rfl) rfl bu.n_max (by decide +kernel) (pad_cons (ped_var 3) pad_nil)) ped_int) pad_nil))))))))) (psd_one (psd_ret ped_bl)) psd_nil)); exact (fun _=>rfl))
  refine psd_cons ?_ ?_
  · exact (psd_set (i:=4) SC.nd rfl (by first | exact Or.inl rfl | exact Or.inr rfl) (ped_callC c_fewest (hr.mono (by decide)) (pad_cons (ped_var 1) (pad_cons (ped_var 2) pad_nil))))
  refine psd_cons ?_ ?_
  · exact (psd_if (ptd_cmp od_gt (ped_var 4) ped_int) (psd_cons (psd_asg (ped_callC c_load_bound (hr.mono (by decide)) (pad_cons (ped_var 2) (pad_cons (ped_op od_sub (ped_var 4) ped_int) pad_nil))) (pg_tup rfl (pgs_cons (pg_name (i:=5) SC.nd rfl (by first | exact Or.inl rfl | exact Or.inr rfl)) (pgs_cons (pg_name (i:=6) SC.nd rfl (by first | exact Or.inl rfl | exact Or.inr rfl)) pgs_nil))) (tg_tup (tgs_cons (tg_name 5) (tgs_cons (tg_name 6) tgs_nil))))
    (psd_one (psd_if (ptd_cmp od_le (ped_var 5) (ped_op (od_mul.or od_rep) (ped_var 1) (ped_var 6))) (psd_one (psd_ret ped_bl)) psd_nil))) psd_nil)
  refine psd_cons ?_ ?_
  · exact (psd_rng2 PassesOwn.never rfl rfl bu.n_range ped_int ped_int (pg_name (i:=7) SC.nd rfl (by first | exact Or.inl rfl | exact Or.inr rfl)) (tg_name 7) (psd_one (by refine psd_for (gt:=gName 8) (hs:=?_) ?_ ?_ ?_ ?_ ?_ ?_; exact PassesOwn.never; exact rfl; exact (ped_lst (pad_cons (ped_callC c_deal_in_order (hr.mono (by decide)) (pad_cons (ped_var 2) (pad_cons (ped_var 7) pad_nil))) (pad_cons (ped_callC c_deal_by_length (hr.mono (by decide)) (pad_cons (ped_var 2) (pad_cons (ped_var 7) pad_nil))) pad_nil))); exact (pg_name (i:=8) SC.nd rfl (by first | exact Or.inl rfl | exact Or.inr rfl)); exact (tg_name 8); exact (psd_one (psd_if (ptd_cmp od_le (ped_callC c_load_of (hr.mono (by decide)) (pad_cons (ped_var 2) (pad_cons (ped_var 7) (pad_cons (ped_var 8) pad_nil)))) (ped_var 1)) (psd_one (psd_if (L2.PW.pt (pwd_or (ptd_cmp od_lt (ped_var 7) (ped_var 4)) (pwd_or1 (ptd_cmp od_isntB (ped_callC c_is_filling (hr.mono (by decide)) (pad_cons (ped_var 1) (pad_cons (ped_var 2) (pad_cons (ped_callC c_law_as_boxes (hr.mono (by decide)) (pad_cons (ped_var 8) pad_nil)) pad_nil)))) ped_bl)))) (psd_one (psd_ret ped_bl)) psd_nil)) psd_nil)); exact (fun _=>rfl))))
  exact psd_one (psd_ret ped_bl)
theorem cell_of (ns:List Int) (hb:∀ n ∈ ns,n.natAbs < bndS) (k:Nat):∃ v:Int,v.natAbs < bndS∧G_law_cell_at [.lst (ns.map D.int), .int (k:Int)]=some (.cl (.int v)):=by
  have hbig:=bnd_big
  by_cases h:k < ns.length
  · refine ⟨ns[k],hb _ (List.getElem_mem h),?_⟩
    have h1:((k:Int) < ((ns.map D.int).length:Int)):=by simp; omega
    have h2:atI (ns.map D.int) (k:Int)=some (.int ns[k]):=by
      unfold atI ixN
      rw [if_pos (by omega),if_pos h1]
      simp [h]
    show (g_law_cell_at [.val (.lst (ns.map D.int)), .val (.int (k:Int))]).bind outEv=_
    simp only [g_law_cell_at,dSeq,dIfS,dBo,d2,dVar,dT1,dCons,dNil,kLen,Ev.d,kI,tt2,Option.bind_some,List.getElem?_cons_zero,List.getElem?_cons_succ,if_true]
    rw [decide_eq_true h1]
    simp [dRet,d2,dVar,kIx,Ev.d,h2,outEv,Ev.ok]
  · refine ⟨0,by simp; omega,?_⟩
    have h1 : ¬ ((k:Int) < ((ns.map D.int).length:Int)):=by simp; omega
    show (g_law_cell_at [.val (.lst (ns.map D.int)), .val (.int (k:Int))]).bind outEv=_
    simp only [g_law_cell_at,dSeq,dIfS,dBo,d2,dVar,dT1,dCons,dNil,kLen,Ev.d,kI,tt2,Option.bind_some,List.getElem?_cons_zero,List.getElem?_cons_succ,if_true]
    rw [decide_eq_false h1]
    simp [dRet,dSkip,dC,outEv]
theorem call_cell (ns:List Int) (hb:∀ n ∈ ns,n.natAbs < bndS) (k:Nat):∃ v:Int,v.natAbs < bndS∧kCall G_law_cell_at [.cl (.lst (ns.map D.int)), .cl (.int (k:Int))]=some (.cl (.int v)):=by
  obtain ⟨v,h,e⟩:=cell_of ns hb k
  exact ⟨v,h,by simp [kCall,Ev.d,e,upEv,Ev.ok]⟩
theorem cell_var (ns:List Int) (hb:∀ n ∈ ns,n.natAbs < bndS) (k:Nat) (r:Th):∃ v:Int,v.natAbs < bndS∧(dT1 (kCall G_law_cell_at) (dCons (dVar 0) (dCons (dC (.int (k:Int))) dNil))) (.val (.lst (ns.map D.int)) :: r)=some (.cl (.int v)):=by
  obtain ⟨v,h,e⟩:=call_cell ns hb k
  exact ⟨v,h,(t2_of (ra := .cl (.lst (ns.map D.int))) (rb := .cl (.int (k:Int))) rfl rfl).trans e⟩
theorem fm {a b:Int} (h:0 < b):0 ≤ a.fmod b∧a.fmod b < b:=fmod_pos h
theorem mixed_is (c:Int) {k:Int} (k0:0 ≤ k) (k1:k < 100000):∃ m:Int,G_law_mixed [.int c, .int k]=some (.cl (.int m)):=by
  show ∃ m,(g_law_mixed [.val (.int c), .val (.int k), .no]).bind outEv=some (.cl (.int m))
  have q1:=fm (a:=c) (b:=2147483647) (by decide)
  have kk:0 ≤ 48271 * k * k∧48271 * k * k ≤ 48271 * 100000 * 100000:=by
    have h1:0 ≤ 48271 * k:=by omega
    have h2:48271 * k * k ≤ 48271 * 100000 * k:=Int.mul_le_mul_of_nonneg_right (by omega) k0
    exact ⟨Int.mul_nonneg h1 k0,by omega⟩
  have e1:=mod_of (mul_of (add_of (add_of (mod_of (fa:=dVar 0) (fb:=dC (.int 2147483647)) (t:=[.val (.int c), .val (.int k), .no]) (a:=c) (b:=2147483647) rfl rfl (by decide)) (mul_of (mul_of (fa:=dC (.int 48271)) (fb:=dVar 1) (t:=[.val (.int c), .val (.int k), .no]) (a:=48271) (b:=k) rfl rfl (sm_of (by decide) (by decide)) (sm_of (by omega) (by omega))) (rfl:dVar 1 _=some (.cl (.int k))) (sm_of (by omega) (by omega)) (sm_of (by omega) (by omega)))) (rfl:dC (.int 11) _=some (.cl (.int 11)))) (rfl:dC (.int 69621) _=some (.cl (.int 69621))) (sm_of (by omega) (by omega)) (sm_of (by decide) (by decide))) (rfl:dC (.int 2147483629) _=some (.cl (.int 2147483629))) (by decide)
  have E1:=asg_cl (i:=2) e1 (by simp)
  generalize hn:(Int.fmod ((c.fmod 2147483647 + 48271 * k * k + 11) * 69621) 2147483629)=n at E1
  have q2:0 ≤ n∧n < 2147483629:=by rw [← hn]; exact fm (by decide)
  have nn:0 ≤ n * n∧n * n ≤ 2147483629 * 2147483629:=by
    have h2:n * n ≤ 2147483629 * n:=Int.mul_le_mul_of_nonneg_right (by omega) q2.1
    exact ⟨Int.mul_nonneg q2.1 q2.1,by omega⟩
  let t:Th:=[.val (.int c), .val (.int k), .val (.int n)]
  have e2:=mod_of (add_of (mul_of (fa:=dVar 2) (fb:=dVar 2) (t:=t) (a:=n) (b:=n) rfl rfl (sm_of (by omega) (by omega)) (sm_of (by omega) (by omega))) (mul_of (fa:=dC (.int 39373)) (fb:=dVar 1) (t:=t) (a:=39373) (b:=k) rfl rfl (sm_of (by decide) (by decide)) (sm_of (by omega) (by omega)))) (rfl:dC (.int 2147483587) t=some (.cl (.int 2147483587))) (by decide)
  have q3:=fm (a:=n * n + 39373 * k) (b:=2147483587) (by decide)
  have e3:=mod_of (mul_of e2 (rfl:dC (.int 16807) t=some (.cl (.int 16807))) (sm_of (by omega) (by omega)) (sm_of (by decide) (by decide))) (rfl:dC (.int 2147483549) t=some (.cl (.int 2147483549))) (by decide)
  exact ⟨_,bnd ((seq_nx E1).trans (ret_of e3))⟩
def bdRow:DS:=(dIfS (dBo (d2 kEq (d2 (kI cMod fun i j => .int (i.fmod j)) (dT1 (kCall G_law_cell_at) (dCons (dVar 0) (dCons (dC (.int 0)) dNil))) (dC (.int 2))) (dC (.int 0)))) (dSeq (dApp 4 (d2 (kI cMod fun i j => .int (i.fmod j)) (dVar 5) (dVar 3)))
    (dAsg 5 (d2 (kI cDiv fun i j => .int (i.fdiv j)) (dVar 5) (dVar 3)))) (dApp 4 (d2 (kI cMod fun i j => .int (i.fmod j)) (dT1 (kCall G_law_mixed) (dCons (dT1 (kCall G_law_cell_at) (dCons (dVar 0) (dCons (d2 (kOr (kI tt2 fun i j => .int (i + j)) kCat) (dVar 1) (d2 (kI cMod fun i j => .int (i.fmod j)) (dVar 6) (dC (.int 8)))) dNil))) (dCons (d2 (kOr (kI tt2 fun i j => .int (i + j)) kCat) (dVar 1) (dVar 6)) dNil))) (dVar 3))))
theorem turn_row (ns:List Int) (hb:∀ n ∈ ns,n.natAbs < bndS) (at':Nat) (ha:at' ≤ 1000) (s2:Sl) {top:Int} (t0:0 < top) (t1:top ≤ 1000000000000000) (xs:List Int) (hl:xs.length < 100000) (cell:Int) (k:Nat) (hk:k < 1000) :
    ∃ (x cell':Int),0 ≤ x∧x < top∧bdRow [.val (.lst (ns.map D.int)), .val (.int (at':Int)),s2, .val (.int top), .own (xs.map D.int), .val (.int cell), .val (.int (k:Int))]=some (.nx [.val (.lst (ns.map D.int)), .val (.int (at':Int)),s2, .val (.int top), .own ((xs ++ [x]).map D.int), .val (.int cell'), .val (.int (k:Int))]):=by
  let t:Th:=[.val (.lst (ns.map D.int)), .val (.int (at':Int)),s2, .val (.int top), .own (xs.map D.int), .val (.int cell), .val (.int (k:Int))]
  obtain ⟨v0,_,c0⟩:=cell_var ns hb 0 [.val (.int (at':Int)),s2, .val (.int top), .own (xs.map D.int), .val (.int cell), .val (.int (k:Int))]
  have c:=eqI_of (mod_of c0 (fb:=dC (.int 2)) rfl (by decide)) (fb:=dC (.int 0)) rfl
  unfold bdRow
  by_cases z:v0.fmod 2=0
  · refine ⟨cell.fmod top,cell.fdiv top,(fm t0).1,(fm t0).2,?_⟩
    refine (ifs_t c (decide_eq_true z)).trans ?_
    have e1:=app_map (i:=4) t (xs:=xs) (mod_of (fa:=dVar 5) (fb:=dVar 3) (t:=t) (a:=cell) (b:=top) rfl rfl (by omega)) rfl hl
    refine (seq_nx e1).trans ?_
    exact asg_cl (i:=5) (div_of (fa:=dVar 5) (fb:=dVar 3) (a:=cell) (b:=top) rfl rfl (by omega) (sm_of (by omega) (by omega))) (by simp [t])
  · have q8:=fm (a:=(k:Int)) (b:=8) (by decide)
    obtain ⟨r,hr⟩:∃ r:Nat,(at':Int) + (k:Int).fmod 8=(r:Int):=⟨((at':Int) + (k:Int).fmod 8).toNat,by omega⟩
    obtain ⟨v,_,ev⟩:=call_cell ns hb r
    have ec:(dT1 (kCall G_law_cell_at) (dCons (dVar 0) (dCons (d2 (kOr (kI tt2 fun i j => .int (i + j)) kCat) (dVar 1) (d2 (kI cMod fun i j => .int (i.fmod j)) (dVar 6) (dC (.int 8)))) dNil))) t=some (.cl (.int v)):=by
      have:=add_of (fa:=dVar 1) (t:=t) (a:=(at':Int)) rfl (mod_of (fa:=dVar 6) (fb:=dC (.int 8)) (t:=t) (a:=(k:Int)) (b:=8) rfl rfl (by decide))
      rw [hr] at this
      exact (t2_of (ra := .cl (.lst (ns.map D.int))) rfl this).trans ev
    obtain ⟨m,em⟩:=mixed_is v (k:=(at':Int) + (k:Int)) (by omega) (by omega)
    have em':(dT1 (kCall G_law_mixed) (dCons (dT1 (kCall G_law_cell_at) (dCons (dVar 0) (dCons (d2 (kOr (kI tt2 fun i j => .int (i + j)) kCat) (dVar 1) (d2 (kI cMod fun i j => .int (i.fmod j)) (dVar 6) (dC (.int 8)))) dNil))) (dCons (d2 (kOr (kI tt2 fun i j => .int (i + j)) kCat) (dVar 1) (dVar 6)) dNil))) t=some (.cl (.int m)) :=
      (t2_of ec (add_of (fa:=dVar 1) (fb:=dVar 6) (t:=t) (a:=(at':Int)) (b:=(k:Int)) rfl rfl)).trans (callc em rfl)
    refine ⟨m.fmod top,cell,(fm t0).1,(fm t0).2,?_⟩
    refine (ifs_f c (decide_eq_false z)).trans ?_
    exact app_map (i:=4) t (xs:=xs) (mod_of em' (fb:=dVar 3) (b:=top) rfl (by omega)) rfl hl
theorem loop_row (ns:List Int) (hb:∀ n ∈ ns,n.natAbs < bndS) (at':Nat) (ha:at' ≤ 1000) (s2:Sl) {top:Int} (t0:0 < top) (t1:top ≤ 1000000000000000):∀ (l:List Nat) (xs:List Int) (cell:Int) (s6:Sl),(∀ k ∈ l,k < 1000)→xs.length + l.length < 100000→(∀ x ∈ xs,0 ≤ x∧x < top) →
    ∃ (ys:List Int) (cell':Int) (u6:Sl),ys.length=xs.length + l.length∧(∀ x ∈ ys,0 ≤ x∧x < top)∧forD (gkName 6) bdRow (l.map fun (k:Nat)=>D.int (k:Int)) [.val (.lst (ns.map D.int)), .val (.int (at':Int)),s2, .val (.int top), .own (xs.map D.int), .val (.int cell),s6]=some (.nx [.val (.lst (ns.map D.int)), .val (.int (at':Int)),s2, .val (.int top), .own (ys.map D.int), .val (.int cell'),u6])
  | [],xs,cell,s6,_,_,hx=>⟨xs,cell,s6,rfl,hx,rfl⟩
  | k :: l,xs,cell,s6,hk,hl,hx=>by
    simp only [List.length_cons] at hl
    obtain ⟨x,cell',x0,x1,e⟩:=turn_row ns hb at' ha s2 t0 t1 xs (by omega) cell k (hk k (List.mem_cons_self ..))
    obtain ⟨ys,c2,u6,yl,yr,ih⟩:=loop_row ns hb at' ha s2 t0 t1 l (xs ++ [x]) cell' (.val (.int (k:Int))) (fun j hj=>hk j (List.mem_cons_of_mem _ hj)) (by simp only [List.length_append,List.length_singleton]; omega) (fun y hy=>by
      rcases List.mem_append.mp hy with w | w
      · exact hx y w
      · rw [List.mem_singleton] at w; subst w; exact ⟨x0,x1⟩)
    refine ⟨ys,c2,u6,by simp only [List.length_append,List.length_singleton] at yl; simp only [List.length_cons]; omega,yr,?_⟩
    have e0:gkName 6 (.int (k:Int)) [.val (.lst (ns.map D.int)), .val (.int (at':Int)),s2, .val (.int top), .own (xs.map D.int), .val (.int cell),s6]=some [.val (.lst (ns.map D.int)), .val (.int (at':Int)),s2, .val (.int top), .own (xs.map D.int), .val (.int cell), .val (.int (k:Int))]:=rfl
    simp only [List.map_cons,forD,e0,Option.bind_some,e]
    exact ih
theorem row_of (ns:List Int) (hb:∀ n ∈ ns,n.natAbs < bndS) (at' many:Nat) (ha:at' ≤ 1000) (hm:many ≤ 1000) {q:Int} (hq:0 < q) (hs:q ≤ 1000000000000000):∃ xs:List Int,xs.length=many∧(∀ x ∈ xs,0 ≤ x∧x < q)∧G_law_row [.lst (ns.map D.int), .int (at':Int), .int (many:Int), .int q]=some (.nw (xs.map D.int)):=by
  show ∃ xs:List Int,xs.length=many∧(∀ x ∈ xs,0 ≤ x∧x < q)∧(g_law_row [.val (.lst (ns.map D.int)), .val (.int (at':Int)), .val (.int (many:Int)), .val (.int q), .no, .no, .no]).bind outEv=_
  obtain ⟨v,_,ev⟩:=call_cell ns hb at'
  have E1:dAsg 4 (dT1 kLst dNil) [.val (.lst (ns.map D.int)), .val (.int (at':Int)), .val (.int (many:Int)), .val (.int q), .no, .no, .no]=some (.nx [.val (.lst (ns.map D.int)), .val (.int (at':Int)), .val (.int (many:Int)), .val (.int q), .own (([]:List Int).map D.int), .no, .no]):=rfl
  have E2:dAsg 5 (dT1 (kCall G_law_cell_at) (dCons (dVar 0) (dCons (dVar 1) dNil))) [.val (.lst (ns.map D.int)), .val (.int (at':Int)), .val (.int (many:Int)), .val (.int q), .own (([]:List Int).map D.int), .no, .no]=some (.nx [.val (.lst (ns.map D.int)), .val (.int (at':Int)), .val (.int (many:Int)), .val (.int q), .own (([]:List Int).map D.int), .val (.int v), .no]) :=
    asg_cl (i:=5) ((t2_of (ra := .cl (.lst (ns.map D.int))) (rb := .cl (.int (at':Int))) rfl rfl).trans ev) (by simp)
  obtain ⟨ys,c2,u6,yl,yr,e⟩:=loop_row ns hb at' ha (.val (.int (many:Int))) hq hs (List.range many) [] v .no (fun k hk=>by have:=List.mem_range.mp hk; omega) (by simp; omega) (fun x hx=>by cases hx)
  have E3:=(rng1_of (k0:=gkName 6) (b:=bdRow) (t:=[.val (.lst (ns.map D.int)), .val (.int (at':Int)), .val (.int (many:Int)), .val (.int q), .own (([]:List Int).map D.int), .val (.int v), .no]) (f:=dVar 2) (r := .cl (.int (many:Int))) (n:=many) rfl rfl (by omega))
  have en:(natsI many).map D.int=(List.range many).map fun (k:Nat)=>D.int (k:Int):=by unfold natsI; rw [List.map_map]; rfl
  rw [en] at E3
  refine ⟨ys,by simpa using yl,yr,bnd ?_⟩
  refine (seq_nx E1).trans ?_
  refine (seq_nx E2).trans ?_
  refine (seq_nx (E3.trans e)).trans ?_
  rfl
theorem call_row (ns:List Int) (hb:∀ n ∈ ns,n.natAbs < bndS) (at' many:Nat) (ha:at' ≤ 1000) (hm:many ≤ 1000) {q:Int} (hq:0 < q) (hs:q ≤ 1000000000000000):∃ xs:List Int,xs.length=many∧(∀ x ∈ xs,0 ≤ x∧x < q)∧kCall G_law_row [.cl (.lst (ns.map D.int)), .cl (.int (at':Int)), .cl (.int (many:Int)), .cl (.int q)]=some (.nw (xs.map D.int)):=by
  obtain ⟨xs,h1,h2,e⟩:=row_of ns hb at' many ha hm hq hs
  exact ⟨xs,h1,h2,by simp [kCall,Ev.d,e,upEv,Ev.ok]⟩
abbrev Pr:=Int × Nat
def bump (L:List Int) (p:Pr):List Int:=L.set p.2 (L.getD p.2 0 + p.1)
def lds (m:Nat) (ps:List Pr):List Int:=ps.foldl bump (List.replicate m 0)
def sb:List Pr→Nat→Int
  | [],_=>0
  | p :: ps,b=>(if p.2=b then p.1 else 0) + sb ps b
theorem bump_len (L:List Int) (p:Pr):(bump L p).length=L.length:=by simp [bump]
theorem fold_len':∀ (ps:List Pr) (L:List Int),(ps.foldl bump L).length=L.length
  | [],L=>rfl
  | p :: ps,L=>by rw [List.foldl_cons,fold_len' ps,bump_len]
theorem bump_get (L:List Int) (p:Pr) (b:Nat) (hb:b < L.length):(bump L p).getD b 0=L.getD b 0 + (if p.2=b then p.1 else 0):=by
  unfold bump
  by_cases h:p.2=b
  · subst h
    simp [List.getD_eq_getElem?_getD,List.getElem?_set,hb]
  · simp [List.getD_eq_getElem?_getD,List.getElem?_set,h]
theorem fold_get:∀ (ps:List Pr) (L:List Int) (b:Nat),b < L.length→(ps.foldl bump L).getD b 0=L.getD b 0 + sb ps b
  | [],L,b,_=>by simp [sb]
  | p :: ps,L,b,hb=>by
    rw [List.foldl_cons,fold_get ps (bump L p) b (by rw [bump_len]; exact hb),bump_get L p b hb]
    simp only [sb]; omega
theorem lds_get (m:Nat) (ps:List Pr) (b:Nat) (hb:b < m):(lds m ps).getD b 0=sb ps b:=by
  unfold lds
  rw [fold_get ps _ b (by simpa using hb)]
  simp [List.getD_eq_getElem?_getD,List.getElem?_replicate,hb]
theorem lds_len (m:Nat) (ps:List Pr):(lds m ps).length=m:=by unfold lds; rw [fold_len']; simp
def sumB (f:Nat→Int):Nat→Int
  | 0=>0
  | m + 1=>sumB f m + f m
theorem sumB_add (f g:Nat→Int):∀ m,sumB (fun b=>f b + g b) m=sumB f m + sumB g m
  | 0=>rfl
  | m + 1=>by simp only [sumB,sumB_add f g m]; omega
theorem sumB_zero:∀ m,sumB (fun _=>0) m=0
  | 0=>rfl
  | m + 1=>by simp only [sumB,sumB_zero m]; rfl
theorem sumB_one (j:Nat) (x:Int):∀ m,sumB (fun b=>if j=b then x else 0) m=if j < m then x else 0
  | 0=>by simp [sumB]
  | m + 1=>by
    simp only [sumB,sumB_one j x m]
    by_cases h1:j < m
    · rw [if_pos h1,if_neg (by omega),if_pos (by omega)]; omega
    · by_cases h2:j=m
      · rw [if_neg h1,if_pos h2,if_pos (by omega)]; omega
      · rw [if_neg h1,if_neg h2,if_neg (by omega)]; omega
theorem sumB_le (f:Nat→Int) (M:Int):∀ m,(∀ b,b < m→f b ≤ M)→sumB f m ≤ m * M
  | 0,_=>by simp [sumB]
  | m + 1,h=>by
    have:=sumB_le f M m fun b hb=>h b (by omega)
    have:=h m (by omega)
    simp only [sumB]
    have e:((m + 1:Nat):Int) * M=m * M + M:=by push_cast; rw [Int.add_mul,Int.one_mul]
    omega
def wb (w:Int→Int):List Pr→Nat→Int
  | [],_=>0
  | p :: ps,b=>(if p.2=b then w p.1 else 0) + wb w ps b
def tot (w:Int→Int):List Pr→Int
  | []=>0
  | p :: ps=>w p.1 + tot w ps
theorem wb_all (w:Int→Int) (m:Nat):∀ ps:List Pr,(∀ p ∈ ps,p.2 < m)→sumB (wb w ps) m=tot w ps
  | [],_=>sumB_zero m
  | p :: ps,h=>by
    have e:wb w (p :: ps)=fun b=>(if p.2=b then w p.1 else 0) + wb w ps b:=rfl
    rw [e,sumB_add,sumB_one,if_pos (h p (by simp)),wb_all w m ps fun q hq=>h q (List.mem_cons_of_mem _ hq)]
    rfl
theorem sb_wb (ps:List Pr) (b:Nat):sb ps b=wb id ps b:=by
  induction ps with
  | nil=>rfl
  | cons p ps ih=>simp only [sb,wb,ih]; rfl
def ge1 (a x:Int):Int:=if a ≤ x then 1 else 0
theorem wb_ge (a b:Int) (h1:0 ≤ b) (h2:b ≤ a) (k:Nat):∀ ps:List Pr,(∀ p ∈ ps,0 ≤ p.1)→wb (ge1 b) ps k * b + wb (ge1 a) ps k * (a - b) ≤ sb ps k
  | [],_=>by simp [wb,sb]
  | p :: ps,h=>by
    have ih:=wb_ge a b h1 h2 k ps fun q hq=>h q (List.mem_cons_of_mem _ hq)
    have hp:=h p (by simp)
    simp only [wb,sb]
    by_cases e:p.2=k
    · simp only [e,if_true]
      rw [Int.add_mul,Int.add_mul]
      have:ge1 b p.1 * b + ge1 a p.1 * (a - b) ≤ p.1:=by
        unfold ge1
        split <;> split <;> omega
      omega
    · simp only [e,if_false,Int.zero_add]; exact ih
theorem wb_mono {a b:Int} (h:b ≤ a) (k:Nat):∀ ps:List Pr,wb (ge1 a) ps k ≤ wb (ge1 b) ps k
  | []=>by simp [wb]
  | p :: ps=>by
    have:=wb_mono h k ps
    simp only [wb]
    have:ge1 a p.1 ≤ ge1 b p.1:=by unfold ge1; split <;> split <;> omega
    split <;> omega
theorem all_one (f:Nat→Int):∀ m,(∀ b,b < m→f b ≤ 1)→(m:Int) ≤ sumB f m→∀ b,b < m→f b=1
  | 0,_,_,b,hb=>by omega
  | m + 1,h,hs,b,hb=>by
    have h0:=sumB_le f 1 m fun b hb=>h b (by omega)
    have h1:=h m (by omega)
    simp only [sumB] at hs
    push_cast at hs
    have e:f m=1:=by omega
    by_cases q:b=m
    · subst q; exact e
    · exact all_one f m (fun b hb=>h b (by omega)) (by omega) b (by omega)
theorem mul_ge {c b:Int} (h:2 ≤ c) (hb:0 ≤ b):2 * b ≤ c * b:=Int.mul_le_mul_of_nonneg_right h hb
theorem mul_ge1 {c b:Int} (h:1 ≤ c) (hb:0 ≤ b):b ≤ c * b:=by
  have:=Int.mul_le_mul_of_nonneg_right h hb
  rwa [Int.one_mul] at this
theorem two_on_one {m:Nat} {ps:List Pr} {M a b:Int} (hb:∀ p ∈ ps,p.2 < m) (hp:∀ p ∈ ps,0 ≤ p.1) (b0:0 ≤ b) (ba:b ≤ a) (hM:∀ k,k < m→sb ps k ≤ M) (na:(m:Int) ≤ tot (ge1 a) ps) (nb:(m:Int) + 1 ≤ tot (ge1 b) ps):a + b ≤ M:=by
  apply Int.not_lt.mp
  intro hlt
  have key:∀ k,k < m→1 ≤ wb (ge1 a) ps k→wb (ge1 b) ps k ≤ 1:=fun k hk h1=>by
    apply Int.not_lt.mp
    intro h2
    have g:=wb_ge a b b0 ba k ps hp
    have s:=hM k hk
    have m1:=mul_ge (c:=wb (ge1 b) ps k) (b:=b) (by omega) b0
    have m2:=mul_ge1 (c:=wb (ge1 a) ps k) (b:=a - b) h1 (by omega)
    omega
  have le1:∀ k,k < m→wb (ge1 a) ps k ≤ 1:=fun k hk=>by
    apply Int.not_lt.mp
    intro h2
    have:=key k hk (by omega)
    have:=wb_mono ba k ps
    omega
  have one:=all_one (wb (ge1 a) ps) m le1 (by rw [wb_all _ m ps hb]; exact na)
  have tb:=sumB_le (wb (ge1 b) ps) 1 m fun k hk=>key k hk (by rw [one k hk]; exact Int.le_refl _)
  rw [wb_all _ m ps hb] at tb
  omega
def dP (p:Pr):D := .tup [.int p.1, .int (p.2:Int)]
def bsD (bs:List Nat):List Int:=bs.map fun (b:Nat)=>(b:Int)
theorem zip_pairs:∀ (js:List Int) (bs:List Nat),zipD (js.map D.int) ((bsD bs).map D.int)=(js.zip bs).map dP
  | [],bs=>by cases bs <;> rfl
  | j :: js,[]=>rfl
  | j :: js,b :: bs=>by
    have:=zip_pairs js bs
    simp only [List.map_cons,bsD,zipD,List.zip_cons_cons]
    rw [show (bs.map fun (b:Nat)=>(b:Int))=bsD bs from rfl,this]; rfl
def ktZ:D→Th→Option Th:=(gkTup 2 (gkCons (gkName 4) (gkCons (gkName 5) gkNil)))
def bodyO:DS:=(dAugI (fun i j=>i + j) 3 (dVar 5) (dVar 4))
theorem bump_map (L:List Int) (p:Pr):(bump L p).map D.int=(L.map D.int).set p.2 (.int (L.getD p.2 0 + p.1)):=by simp [bump,List.map_set]
theorem turn_O (s0 s1 s2:Sl) (L:List Int) (p:Pr) (h:p.2 < L.length):bodyO [s0,s1,s2, .own (L.map D.int), .val (.int p.1), .val (.int (p.2:Int))]=some (.nx [s0,s1,s2, .own ((bump L p).map D.int), .val (.int p.1), .val (.int (p.2:Int))]):=by
  have h1:=ix_nat (L.map D.int).length p.2 (by simpa using h)
  have h2:=get_map L p.2 h
  rw [bump_map]
  show ((ixN (L.map D.int).length (p.2:Int)).bind fun j=>match (L.map D.int)[j]? with
    | some (.int v)=>some (Out.nx ([s0,s1,s2, .own (L.map D.int), .val (.int p.1), .val (.int (p.2:Int))].set 3 (.own ((L.map D.int).set j (.int (v + p.1))))))
    | _=>none)=_
  rw [h1]
  simp only [Option.bind_some,h2]
  rfl
theorem loop_Z {body:DS} (hb:∀ (s0 s1 s2:Sl) (L:List Int) (p:Pr),p.2 < L.length→body [s0,s1,s2, .own (L.map D.int), .val (.int p.1), .val (.int (p.2:Int))]=some (.nx [s0,s1,s2, .own ((bump L p).map D.int), .val (.int p.1), .val (.int (p.2:Int))])) (s0 s1 s2:Sl) :
    ∀ (ps:List Pr) (L:List Int) (s4 s5:Sl),(∀ p ∈ ps,p.2 < L.length)→∃ u4 u5,forD ktZ body (ps.map dP) [s0,s1,s2, .own (L.map D.int),s4,s5]=some (.nx [s0,s1,s2, .own ((ps.foldl bump L).map D.int),u4,u5])
  | [],L,s4,s5,_=>⟨s4,s5,rfl⟩
  | p :: ps,L,s4,s5,h=>by
    obtain ⟨u4,u5,e'⟩:=loop_Z hb s0 s1 s2 ps (bump L p) (.val (.int p.1)) (.val (.int (p.2:Int))) fun q hq=>by rw [bump_len]; exact h q (List.mem_cons_of_mem _ hq)
    refine ⟨u4,u5,?_⟩
    have e0:ktZ (dP p) [s0,s1,s2, .own (L.map D.int),s4,s5]=some [s0,s1,s2, .own (L.map D.int), .val (.int p.1), .val (.int (p.2:Int))]:=rfl
    have e1:=hb s0 s1 s2 L p (h p (by simp))
    simp only [List.map_cons,forD,e0,Option.bind_some,e1]
    exact e'
def topI:List Int→Int
  | []=>0
  | n :: ns=>mostI n ns
theorem rep_flat:∀ m:Nat,(List.replicate m [D.int 0]).flatten=(List.replicate m (0:Int)).map D.int
  | 0=>rfl
  | m + 1=>by rw [List.replicate_succ,List.flatten_cons,rep_flat m,List.replicate_succ]; rfl
theorem rep_of {m:Nat} (h:m ≤ 20) (s0 s2 s3 s4 s5:Sl):(d2 (kOr (kI cMul fun i j => .int (i * j)) kRep) (dT1 kLst (dCons (dC (.int 0)) dNil)) (dVar 1)) [s0, .val (.int (m:Int)),s2,s3,s4,s5]=some (.nw ((List.replicate m (0:Int)).map D.int)):=by
  show (if ([D.int 0].length ≤ 100 && decide (-1000000 ≤ (m:Int)∧(m:Int) ≤ 1000))=true then some (Ev.nw (List.replicate (m:Int).toNat [D.int 0]).flatten) else none)=_
  rw [if_pos (by simp; omega),Int.toNat_natCast,rep_flat]
theorem extr_of (s0 s1 s2 s4 s5:Sl) {L:List Int} (h:0 < L.length):(dRet (dT1 (kExtr mostI) (dCons (dVar 3) dNil))) [s0,s1,s2, .own (L.map D.int),s4,s5]=some (.rt (.cl (.int (topI L)))):=by
  cases L with
  | nil=>cases h
  | cons n ns =>
    show ((match intsD ((n :: ns).map D.int) with
      | some (n :: ns)=>some (Ev.cl (.int (mostI n ns)))
      | _=>none).bind fun r=>some (Out.rt r))=_
    rw [intsD_map]
    rfl
def shape (body:DS):DS:=(dSeq (dAsg 3 (d2 (kOr (kI cMul fun i j => .int (i * j)) kRep) (dT1 kLst (dCons (dC (.int 0)) dNil)) (dVar 1)))
    (dSeq (dZip ktZ (dVar 0) (dVar 2) body)
    (dRet (dT1 (kExtr mostI) (dCons (dVar 3) dNil)))))
theorem shape_of {body:DS} (hb:∀ (s0 s1 s2:Sl) (L:List Int) (p:Pr),p.2 < L.length→body [s0,s1,s2, .own (L.map D.int), .val (.int p.1), .val (.int (p.2:Int))]=some (.nx [s0,s1,s2, .own ((bump L p).map D.int), .val (.int p.1), .val (.int (p.2:Int))]))
    {js:List Int} {bs:List Nat} {m:Nat} (h0:0 < m) (h:m ≤ 20) (hm:∀ p ∈ js.zip bs,p.2 < m) :
    shape body [.val (.lst (js.map D.int)), .val (.int (m:Int)), .val (.lst ((bsD bs).map D.int)), .no, .no, .no]=some (.rt (.cl (.int (topI (lds m (js.zip bs)))))):=by
  obtain ⟨u4,u5,e⟩:=loop_Z hb (.val (.lst (js.map D.int))) (.val (.int (m:Int))) (.val (.lst ((bsD bs).map D.int))) (js.zip bs) (List.replicate m 0) .no .no fun p hp=>by simpa using hm p hp
  have e1:(dAsg 3 (d2 (kOr (kI cMul fun i j => .int (i * j)) kRep) (dT1 kLst (dCons (dC (.int 0)) dNil)) (dVar 1))) [.val (.lst (js.map D.int)), .val (.int (m:Int)), .val (.lst ((bsD bs).map D.int)), .no, .no, .no]=some (.nx [.val (.lst (js.map D.int)), .val (.int (m:Int)), .val (.lst ((bsD bs).map D.int)), .own ((List.replicate m (0:Int)).map D.int), .no, .no]):=by
    unfold dAsg
    rw [rep_of h]
    rfl
  have e2:(dZip ktZ (dVar 0) (dVar 2) body) [.val (.lst (js.map D.int)), .val (.int (m:Int)), .val (.lst ((bsD bs).map D.int)), .own ((List.replicate m (0:Int)).map D.int), .no, .no]=some (.nx [.val (.lst (js.map D.int)), .val (.int (m:Int)), .val (.lst ((bsD bs).map D.int)), .own ((lds m (js.zip bs)).map D.int),u4,u5]):=by
    show forD ktZ body (zipD (js.map D.int) ((bsD bs).map D.int)) _=_
    rw [zip_pairs]
    exact e
  unfold shape
  rw [seq_nx e1,seq_nx e2]
  exact extr_of _ _ _ _ _ (by rw [lds_len]; exact h0)
theorem mostI_ge:∀ (ns:List Int) (n:Int),n ≤ mostI n ns∧∀ x ∈ ns,x ≤ mostI n ns
  | [],n=>⟨Int.le_refl _,fun x hx=>by cases hx⟩
  | y :: ns,n=>by
    have h:=mostI_ge ns (if n < y then y else n)
    refine ⟨?_,fun x hx=>?_⟩
    · show n ≤ mostI _ ns
      have:=h.1
      split at this <;> split <;> omega
    · show x ≤ mostI _ ns
      rcases List.mem_cons.mp hx with rfl | w
      · have:=h.1
        split at this <;> split <;> omega
      · exact h.2 x w
theorem mostI_mem:∀ (ns:List Int) (n:Int),mostI n ns=n ∨ mostI n ns ∈ ns
  | [],n => .inl rfl
  | y :: ns,n=>by
    have h:=mostI_mem ns (if n < y then y else n)
    show mostI _ ns=n ∨ mostI _ ns ∈ y :: ns
    rcases h with h | h
    · by_cases q:n < y
      · rw [if_pos q] at h ⊢; right; rw [h]; simp
      · rw [if_neg q] at h ⊢; left; exact h
    · right; exact List.mem_cons_of_mem _ h
theorem topI_ge {L:List Int} {x:Int} (h:x ∈ L):x ≤ topI L:=by
  cases L with
  | nil=>cases h
  | cons n ns =>
    rcases List.mem_cons.mp h with rfl | w
    · exact (mostI_ge ns x).1
    · exact (mostI_ge ns n).2 x w
theorem topI_mem {L:List Int} (h:0 < L.length):topI L ∈ L:=by
  cases L with
  | nil=>cases h
  | cons n ns =>
    rcases mostI_mem ns n with e | e
    · show mostI n ns ∈ _; rw [e]; simp
    · exact List.mem_cons_of_mem _ e
theorem getD_mem {L:List Int} {k:Nat} (h:k < L.length):L.getD k 0 ∈ L:=by
  rw [List.getD_eq_getElem?_getD,List.getElem?_eq_getElem h]; exact List.getElem_mem h
theorem mem_getD {L:List Int} {x:Int} (h:x ∈ L):∃ k,k < L.length∧L.getD k 0=x:=by
  obtain ⟨k,hk,e⟩:=List.getElem_of_mem h
  exact ⟨k,hk,by rw [List.getD_eq_getElem?_getD,List.getElem?_eq_getElem hk]; exact e⟩
theorem sb_le_top {m:Nat} {ps:List Pr} {k:Nat} (h:k < m):sb ps k ≤ topI (lds m ps):=by
  rw [← lds_get m ps k h]
  exact topI_ge (getD_mem (by rw [lds_len]; exact h))
theorem top_is {m:Nat} (m0:0 < m) (ps:List Pr):∃ k,k < m∧topI (lds m ps)=sb ps k:=by
  obtain ⟨k,hk,e⟩:=mem_getD (topI_mem (L:=lds m ps) (by rw [lds_len]; exact m0))
  rw [lds_len] at hk
  exact ⟨k,hk,by rw [← e,lds_get m ps k hk]⟩
theorem sb_nn {k:Nat}:∀ {ps:List Pr},(∀ p ∈ ps,0 ≤ p.1)→0 ≤ sb ps k
  | [],_=>Int.le_refl _
  | p :: ps,h=>by
    have := @sb_nn k ps fun q hq=>h q (List.mem_cons_of_mem _ hq)
    have hp:=h p (by simp)
    show 0 ≤ (if p.2=k then p.1 else 0) + sb ps k
    split <;> omega
theorem sb_le_tot {k:Nat}:∀ {ps:List Pr},(∀ p ∈ ps,0 ≤ p.1)→sb ps k ≤ tot id ps
  | [],_=>Int.le_refl _
  | p :: ps,h=>by
    have := @sb_le_tot k ps fun q hq=>h q (List.mem_cons_of_mem _ hq)
    have hp:=h p (by simp)
    show (if p.2=k then p.1 else 0) + sb ps k ≤ p.1 + tot id ps
    split <;> omega
theorem one_le_sb:∀ {ps:List Pr},(∀ p ∈ ps,0 ≤ p.1)→∀ p ∈ ps,p.1 ≤ sb ps p.2
  | [],_,p,hp=>by cases hp
  | q :: ps,h,p,hp=>by
    have hq:=h q (by simp)
    have hn:=fun k => @sb_nn k ps fun q hq=>h q (List.mem_cons_of_mem _ hq)
    show p.1 ≤ (if q.2=p.2 then q.1 else 0) + sb ps p.2
    rcases List.mem_cons.mp hp with rfl | w
    · rw [if_pos rfl]; have:=hn p.2; omega
    · have:=one_le_sb (fun q hq=>h q (List.mem_cons_of_mem _ hq)) p w
      split <;> omega
def totL (w:Int→Int):List Int→Int
  | []=>0
  | x :: xs=>w x + totL w xs
theorem tot_zip (w:Int→Int):∀ (js:List Int) (bs:List Nat),js.length=bs.length→tot w (js.zip bs)=totL w js
  | [],[],_=>rfl
  | j :: js,b :: bs,h=>by
    have:=tot_zip w js bs (by simpa using h)
    show w j + tot w (js.zip bs)=w j + totL w js
    rw [this]
  | [],b :: bs,h=>by cases h
  | j :: js,[],h=>by cases h
theorem totL_sum:∀ js:List Int,totL id js=js.sum
  | []=>rfl
  | j :: js=>by rw [List.sum_cons, ← totL_sum js]; rfl
theorem totL_perm (w:Int→Int) {xs ys:List Int} (p:xs.Perm ys):totL w xs=totL w ys:=by
  induction p with
  | nil=>rfl
  | cons x _ ih=>show w x + _=w x + _; rw [ih]
  | swap x y l=>show w y + (w x + _)=w x + (w y + _); omega
  | trans _ _ h1 h2=>exact h1.trans h2
theorem totL_nn (a:Int):∀ xs:List Int,0 ≤ totL (ge1 a) xs
  | []=>Int.le_refl _
  | x :: xs=>by
    have:=totL_nn a xs
    have hg:0 ≤ ge1 a x:=by unfold ge1; split <;> omega
    show 0 ≤ ge1 a x + _
    omega
theorem count_ge:∀ {F:List Int},F.Pairwise (· ≥ ·)→∀ i,i < F.length→(i:Int) + 1 ≤ totL (ge1 (F.getD i 0)) F
  | [],_,i,h=>by cases h
  | x :: F,hp,0,_=>by
    have:=totL_nn x F
    show (0:Int) + 1 ≤ ge1 x x + totL (ge1 x) F
    unfold ge1 at *
    rw [if_pos (Int.le_refl _)]; omega
  | x :: F,hp,i + 1,h=>by
    have hc:=List.pairwise_cons.mp hp
    have hi:i < F.length:=by simpa using h
    have ih:=count_ge hc.2 i hi
    have hx:F.getD i 0 ≤ x:=hc.1 _ (getD_mem hi)
    show ((i + 1:Nat):Int) + 1 ≤ ge1 (F.getD i 0) x + totL (ge1 (F.getD i 0)) F
    have:ge1 (F.getD i 0) x=1:=if_pos hx
    rw [this]; push_cast; omega
theorem falls (js:List Int):((sortI' js).reverse).Pairwise (· ≥ ·):=by
  have:=sortI'_sorted js
  exact List.pairwise_reverse.mpr this
theorem falls_get {F:List Int} (h:F.Pairwise (· ≥ ·)) {i j:Nat} (hij:i < j) (hj:j < F.length):F.getD j 0 ≤ F.getD i 0:=by
  have:=List.pairwise_iff_getElem.mp h i j (by omega) hj hij
  rw [List.getD_eq_getElem?_getD,List.getD_eq_getElem?_getD,List.getElem?_eq_getElem hj,List.getElem?_eq_getElem (show i < F.length by omega)]
  exact this
theorem sum_le {q:Int} (h0:0 ≤ q):∀ {js:List Int},(∀ x ∈ js,0 ≤ x∧x < q)→0 ≤ js.sum∧js.sum ≤ js.length * q
  | [],_=>by simp
  | j :: js,h=>by
    have ih := @sum_le q h0 js fun x hx=>h x (List.mem_cons_of_mem _ hx)
    have hj:=h j (by simp)
    rw [List.sum_cons,List.length_cons]
    have e:((js.length + 1:Nat):Int) * q=js.length * q + q:=by push_cast; rw [Int.add_mul,Int.one_mul]
    omega
theorem zip_mem1:∀ {js:List Int} {bs:List Nat},js.length=bs.length→∀ x ∈ js, ∃ b,(x,b) ∈ js.zip bs
  | [],[],_,x,hx=>by cases hx
  | j :: js,b :: bs,h,x,hx=>by
    rcases List.mem_cons.mp hx with rfl | w
    · exact ⟨b,by simp⟩
    · obtain ⟨b',hb⟩:=zip_mem1 (by simpa using h) x w
      exact ⟨b',List.mem_cons_of_mem _ hb⟩
  | [],b :: bs,h,_,_=>by cases h
  | j :: js,[],h,_,_=>by cases h
theorem load_ge {js F:List Int} {bs:List Nat} {m:Nat} (m0:0 < m) (hF:F=(sortI' js).reverse) (hl:js.length=bs.length) (hj:∀ x ∈ js,0 ≤ x) (hb:∀ b ∈ bs,b < m) :
    0 ≤ topI (lds m (js.zip bs))∧topI (lds m (js.zip bs)) ≤ js.sum∧js.sum ≤ m * topI (lds m (js.zip bs))∧F.getD 0 0 ≤ topI (lds m (js.zip bs))∧(m < js.length→F.getD (m - 1) 0 + F.getD m 0 ≤ topI (lds m (js.zip bs))):=by
  have p1:∀ p ∈ js.zip bs,0 ≤ p.1:=fun p hp=>hj _ (List.of_mem_zip hp).1
  have p2:∀ p ∈ js.zip bs,p.2 < m:=fun p hp=>hb _ (List.of_mem_zip hp).2
  have fp:F.Perm js:=by rw [hF]; exact (List.reverse_perm _).trans (sortI'_perm js)
  have ff:F.Pairwise (· ≥ ·):=by rw [hF]; exact falls js
  obtain ⟨k,hk,ek⟩:=top_is m0 (js.zip bs)
  have hnn:0 ≤ topI (lds m (js.zip bs)):=by rw [ek]; exact sb_nn p1
  have hM:∀ k,k < m→sb (js.zip bs) k ≤ topI (lds m (js.zip bs)):=fun k hk=>sb_le_top hk
  refine ⟨hnn,?_,?_,?_,fun hm=>?_⟩
  · rw [ek, ← totL_sum, ← tot_zip id js bs hl]; exact sb_le_tot p1
  · rw [← totL_sum, ← tot_zip id js bs hl, ← wb_all id m _ p2]
    exact sumB_le _ _ m fun b hb=>by rw [← sb_wb]; exact hM b hb
  · cases F with
    | nil=>exact hnn
    | cons x F =>
      obtain ⟨b,hb'⟩:=zip_mem1 hl x (fp.mem_iff.mp (by simp))
      exact Int.le_trans (one_le_sb p1 (x,b) hb') (hM b (p2 _ hb'))
  · have fl:F.length=js.length:=fp.length_eq
    have c1:=count_ge ff (m - 1) (by omega)
    have c2:=count_ge ff m (by omega)
    rw [totL_perm _ fp, ← tot_zip _ js bs hl] at c1 c2
    exact two_on_one p2 p1 (hj _ (fp.mem_iff.mp (getD_mem (by omega)))) (falls_get ff (by omega) (by omega)) hM (by omega) (by omega)
theorem load_of_is {js:List Int} {bs:List Nat} {m:Nat} (h0:0 < m) (h:m ≤ 20) (hm:∀ p ∈ js.zip bs,p.2 < m):G_load_of [.lst (js.map D.int), .int (m:Int), .lst ((bsD bs).map D.int)]=some (.cl (.int (topI (lds m (js.zip bs))))):=by
  show (shape bodyO [.val (.lst (js.map D.int)), .val (.int (m:Int)), .val (.lst ((bsD bs).map D.int)), .no, .no, .no]).bind outEv=_
  rw [shape_of turn_O h0 h hm]; rfl
theorem fmod_nat (a b:Nat) (h:0 < b):(a:Int).fmod (b:Int)=((a % b:Nat):Int):=by
  rw [Int.fmod_eq_emod_of_nonneg _ (by omega)]; rfl
def cfC:DT:=(dBo (d2 kNe (dVar 1) (dC (.int 0))))
def cfB:DS:=(dPar 0 1 (dCons (dVar 1) (dCons (d2 (kI cMod fun i j => .int (i.fmod j)) (dVar 0) (dVar 1)) dNil)))
theorem cf_loop:∀ (n a b:Nat),b < n→whD cfC cfB n [.val (.int (a:Int)), .val (.int (b:Int))]=some (.nx [.val (.int (Nat.gcd a b:Int)), .val (.int 0)])
  | 0,a,b,h=>by omega
  | n + 1,a,b,h=>by
    have ec:cfC [.val (.int (a:Int)), .val (.int (b:Int))]=some (!decide ((b:Int)=0)):=by
      simp [cfC,dBo,d2,dVar,dC,kNe,eqOk,eqD,Ev.d]
    unfold whD
    rw [ec]
    by_cases hb:b=0
    · subst hb
      simp
    · have hb' : ¬ ((b:Int)=0):=by omega
      rw [decide_eq_false hb']
      have eb:cfB [.val (.int (a:Int)), .val (.int (b:Int))]=some (.nx [.val (.int (b:Int)), .val (.int ((a % b:Nat):Int))]):=by
        unfold cfB dPar
        have:(dCons (dVar 1) (dCons (d2 (kI cMod fun i j => .int (i.fmod j)) (dVar 0) (dVar 1)) dNil)) [.val (.int (a:Int)), .val (.int (b:Int))]=some [.cl (.int (b:Int)), .cl (.int ((a:Int).fmod (b:Int)))]:=by
          simp [dCons,dNil,d2,dVar,kI,cMod,Ev.d,hb]
        rw [this,fmod_nat a b (by omega)]
        rfl
      simp only [Option.bind_some,Bool.not_false,if_true,eb]
      rw [cf_loop n b (a % b) (by have:=Nat.mod_lt a (show 0 < b by omega); omega),Nat.gcd_comm b, ← Nat.gcd_rec,Nat.gcd_comm b]
theorem common_is (a b:Nat):G_common_factor [.int (a:Int), .int (b:Int)]=some (.cl (.int (Nat.gcd a b:Int))):=by
  have e:=cf_loop (((b:Int).natAbs) + 1) a b (by omega)
  show ((dSeq (dWhile (fuelN 1) cfC cfB) (dRet (dT1 kAbs (dCons (dVar 0) dNil)))) [.val (.int (a:Int)), .val (.int (b:Int))]).bind outEv=_
  have e':(dWhile (fuelN 1) cfC cfB) [.val (.int (a:Int)), .val (.int (b:Int))]=some (.nx [.val (.int (Nat.gcd a b:Int)), .val (.int 0)]):=e
  rw [seq_nx e']
  have h : ¬ ((Nat.gcd a b:Int) < 0):=by omega
  simp [dRet,dT1,dCons,dNil,dVar,kAbs,Ev.d,outEv,h]
theorem fdiv_nat (a b:Nat):(a:Int).fdiv (b:Int)=((a / b:Nat):Int):=by
  rw [Int.fdiv_eq_ediv_of_nonneg _ (by omega)]; rfl
theorem sm_nat {a:Nat} (h:a < 1000000000000000000000000):sm (a:Int)=true:=sm_of (by omega) (by omega)
theorem cDiv_nat {a b:Nat} (h0:0 < b) (h:b < 1000000000000000000000000):cDiv (a:Int) (b:Int)=true:=by
  simp only [cDiv]; rw [sm_nat h]; simp; omega
theorem cMul_nat {a b:Nat} (h1:a < 1000000000000000000000000) (h:b < 1000000000000000000000000):cMul (a:Int) (b:Int)=true:=by
  simp only [cMul]; rw [sm_nat h,sm_nat h1]; rfl
theorem fraction_is (s m:Nat) (h0:0 < m) (h:m ≤ 20):G_fraction [.int (s:Int), .int (m:Int)]=some (.cl (.tup [.int ((s / Nat.gcd s m:Nat):Int), .int ((m / Nat.gcd s m:Nat):Int)])):=by
  have g0:0 < Nat.gcd s m:=Nat.gcd_pos_of_pos_right _ h0
  have g1:Nat.gcd s m ≤ m:=Nat.gcd_le_right _ h0
  have ek:kCall G_common_factor [.cl (.int (s:Int)), .cl (.int (m:Int))]=some (.cl (.int (Nat.gcd s m:Int))):=by simp [kCall,Ev.d,common_is,upEv,Ev.ok]
  have hn : ¬ ((m:Int) < 0):=by omega
  have c1 := @cDiv_nat s (Nat.gcd s m) g0 (by omega)
  have c2 := @cDiv_nat m (Nat.gcd s m) g0 (by omega)
  show (g_fraction [.val (.int (s:Int)), .val (.int (m:Int)), .no]).bind outEv=_
  have e1:(dT1 (kCall G_common_factor) (dCons (dVar 0) (dCons (dVar 1) dNil))) [.val (.int (s:Int)), .val (.int (m:Int)), .no]=some (.cl (.int (Nat.gcd s m:Int))):=by
    simp [dT1,dCons,dNil,dVar,ek]
  have e1':(dAsg 2 (dT1 (kCall G_common_factor) (dCons (dVar 0) (dCons (dVar 1) dNil)))) [.val (.int (s:Int)), .val (.int (m:Int)), .no]=some (.nx [.val (.int (s:Int)), .val (.int (m:Int)), .val (.int (Nat.gcd s m:Int))]):=by
    unfold dAsg
    rw [e1]; rfl
  unfold g_fraction
  rw [seq_nx e1']
  have e2:(dIfS (dBo (d2 (kI tt2 fun i j => .bl (decide (i < j))) (dVar 1) (dC (.int 0)))) (dAsg 2 (d1 kNeg (dVar 2))) dSkip) [.val (.int (s:Int)), .val (.int (m:Int)), .val (.int (Nat.gcd s m:Int))]=some (.nx [.val (.int (s:Int)), .val (.int (m:Int)), .val (.int (Nat.gcd s m:Int))]):=by
    unfold dIfS
    rw [show (dBo (d2 (kI tt2 fun i j => .bl (decide (i < j))) (dVar 1) (dC (.int 0)))) [.val (.int (s:Int)), .val (.int (m:Int)), .val (.int (Nat.gcd s m:Int))]=some (decide ((m:Int) < 0)) from rfl,decide_eq_false hn]
    rfl
  rw [seq_nx e2]
  simp [dRet,dT1,dCons,dNil,d2,dVar,kI,c1,c2,Ev.d,kTup,Ev.ok,outEv,fdiv_nat]
theorem less_is (w a b:Nat) (hw:w < 1000000000000000000000000) (ha:a < 1000000000000000000000000) (hb:b < 1000000000000000000000000):G_less [.tup [.int (w:Int), .int 1], .tup [.int (a:Int), .int (b:Int)]]=some (.cl (.bl (decide ((w:Int) * (b:Int) < (a:Int) * 1)))):=by
  have c1 := @cMul_nat w b hw hb
  have c2:cMul (a:Int) 1=true := @cMul_nat a 1 ha (by omega)
  show (g_less [.val (.tup [.int (w:Int), .int 1]), .val (.tup [.int (a:Int), .int (b:Int)])]).bind outEv=_
  have a1:∀ x y:D,atI [x,y] 0=some x:=fun x y=>rfl
  have a2:∀ x y:D,atI [x,y] 1=some y:=fun x y=>rfl
  simp [g_less,dRet,d2,dVar,dC,kIx,Ev.d,Ev.ok,a1,a2,kOr,kI,c1,c2,tt2,outEv]
def lowD (p q:Nat):D := .tup [.int ((p / Nat.gcd p q:Nat):Int), .int ((q / Nat.gcd p q:Nat):Int)]
def resD (w s m:Nat):D:=if w * m < s then lowD s m else .tup [.int (w:Int), .int 1]
def big24:Nat:=1000000000000000000000000
def wholeN (n m a b:Nat):Nat:=if m < n then (if a < b then b else a) else a
theorem at_mapL {F:List Int} {j:Nat} (h:j < F.length):atI (F.map D.int) (j:Int)=some (.int (F.getD j 0)):=by
  unfold atI
  rw [ix_nat _ j (by simpa using h)]
  exact get_map F j h
theorem less_iff {w s m:Nat} (h0:0 < m):(w * (m / Nat.gcd s m) < s / Nat.gcd s m) ↔ w * m < s:=by
  have g0:0 < Nat.gcd s m:=Nat.gcd_pos_of_pos_right _ h0
  obtain ⟨s',es⟩:=Nat.gcd_dvd_left s m
  obtain ⟨m',em⟩:=Nat.gcd_dvd_right s m
  generalize Nat.gcd s m=g at *
  subst es; subst em
  rw [Nat.mul_div_cancel_left _ g0,Nat.mul_div_cancel_left _ g0,Nat.mul_left_comm]
  exact (Nat.mul_lt_mul_left g0).symm
theorem kIxL {F:List Int} {j:Nat} (h:j < F.length):kIx (.tm (.lst (F.map D.int))) (.cl (.int (j:Int)))=some (.cl (.int (F.getD j 0))):=by
  show (atI (F.map D.int) (j:Int)).map (fun d=>if (Ev.tm (.lst (F.map D.int))).ok || flat d then Ev.cl d else .tm d)=_
  rw [at_mapL h]
  simp [flat]
theorem load_bound_is {js F:List Int} {m a b s:Nat} (hF:F=(sortI' js).reverse) (hl:js.length ≤ 60) (m0:0 < m) (m1:m ≤ 20) (ha:F.getD 0 0=(a:Int)) (hb:F.getD (m - 1) 0 + F.getD m 0=(b:Int)) (hs:js.sum=(s:Int)) (a1:a < big24) (b1:b < big24) (s1:s < big24) :
    G_load_bound [.lst (js.map D.int), .int (m:Int)]=some (.cl (resD (wholeN js.length m a b) s m)):=by
  have fl:F.length=js.length:=by rw [hF,List.length_reverse,(sortI'_perm js).length_eq]
  show (g_load_bound [.val (.lst (js.map D.int)), .val (.int (m:Int)), .no, .no, .no]).bind outEv=_
  have e1:(dAsg 2 (dT1 kSortR (dCons (dVar 0) dNil))) [.val (.lst (js.map D.int)), .val (.int (m:Int)), .no, .no, .no]=some (.nx [.val (.lst (js.map D.int)), .val (.int (m:Int)), .own (F.map D.int), .no, .no]):=by
    unfold dAsg
    have:(dT1 kSortR (dCons (dVar 0) dNil)) [.val (.lst (js.map D.int)), .val (.int (m:Int)), .no, .no, .no]=some (.nw (F.map D.int)):=by
      show ((intsD (js.map D.int)).bind fun ns=>if ns.length < 64 then some (Ev.nw ((sortI' ns).reverse.map D.int)) else none)=_
      rw [intsD_map]
      simp only [Option.bind_some]
      rw [if_pos (by omega),hF]
    rw [this]; rfl
  have e2:(dAsg 3 (dIf (dTr (dVar 2)) (d2 kIx (dVar 2) (dC (.int 0))) (dC (.int 0)))) [.val (.lst (js.map D.int)), .val (.int (m:Int)), .own (F.map D.int), .no, .no]=some (.nx [.val (.lst (js.map D.int)), .val (.int (m:Int)), .own (F.map D.int), .val (.int (a:Int)), .no]):=by
    rw [← ha]
    cases F with
    | nil=>rfl
    | cons x F =>
      have x1:(d2 kIx (dVar 2) (dC (.int 0))) [.val (.lst (js.map D.int)), .val (.int (m:Int)), .own ((x :: F).map D.int), .no, .no]=some (.cl (.int ((x :: F).getD 0 0))):=kIxL (F:=x :: F) (j:=0) (by simp)
      unfold dAsg dIf
      rw [show (dTr (dVar 2)) [.val (.lst (js.map D.int)), .val (.int (m:Int)), .own ((x :: F).map D.int), .no, .no]=some true from rfl]
      simp only [Option.bind_some,if_true]
      rw [x1]; rfl
  have e3:(dIfS (dBo (d2 (kI tt2 fun i j => .bl (decide (j < i))) (dT1 kLen (dCons (dVar 2) dNil)) (dVar 1))) (dAsg 3 (dT1 (k2I fun i j=>if j > i then j else i) (dCons (dVar 3) (dCons (d2 (kOr (kI tt2 fun i j => .int (i + j)) kCat) (d2 kIx (dVar 2) (d2 (kI tt2 fun i j => .int (i - j)) (dVar 1) (dC (.int 1)))) (d2 kIx (dVar 2) (dVar 1))) dNil)))) dSkip) [.val (.lst (js.map D.int)), .val (.int (m:Int)), .own (F.map D.int), .val (.int (a:Int)), .no]=some (.nx [.val (.lst (js.map D.int)), .val (.int (m:Int)), .own (F.map D.int), .val (.int (wholeN js.length m a b:Int)), .no]):=by
    unfold dIfS
    rw [show (dBo (d2 (kI tt2 fun i j => .bl (decide (j < i))) (dT1 kLen (dCons (dVar 2) dNil)) (dVar 1))) [.val (.lst (js.map D.int)), .val (.int (m:Int)), .own (F.map D.int), .val (.int (a:Int)), .no]=some (decide ((m:Int) < ((F.map D.int).length:Int))) from rfl]
    by_cases h:m < js.length
    · rw [decide_eq_true (show (m:Int) < ((F.map D.int).length:Int) by simp; omega)]
      unfold wholeN
      rw [if_pos h]
      have x1:(d2 kIx (dVar 2) (d2 (kI tt2 fun i j => .int (i - j)) (dVar 1) (dC (.int 1)))) [.val (.lst (js.map D.int)), .val (.int (m:Int)), .own (F.map D.int), .val (.int (a:Int)), .no]=some (.cl (.int (F.getD (m - 1) 0))):=by
        show kIx (.tm (.lst (F.map D.int))) (.cl (.int ((m:Int) - 1)))=_
        rw [show (m:Int) - 1=((m - 1:Nat):Int) by omega,kIxL (by omega)]
      have x2:(d2 kIx (dVar 2) (dVar 1)) [.val (.lst (js.map D.int)), .val (.int (m:Int)), .own (F.map D.int), .val (.int (a:Int)), .no]=some (.cl (.int (F.getD m 0))):=kIxL (by omega)
      have x3:(d2 (kOr (kI tt2 fun i j => .int (i + j)) kCat) (d2 kIx (dVar 2) (d2 (kI tt2 fun i j => .int (i - j)) (dVar 1) (dC (.int 1)))) (d2 kIx (dVar 2) (dVar 1))) [.val (.lst (js.map D.int)), .val (.int (m:Int)), .own (F.map D.int), .val (.int (a:Int)), .no]=some (.cl (.int (b:Int))):=by
        rw [← hb]
        unfold d2 at x1 x2 ⊢
        rw [x1,x2]
        rfl
      have x4:(dT1 (k2I fun i j=>if j > i then j else i) (dCons (dVar 3) (dCons (d2 (kOr (kI tt2 fun i j => .int (i + j)) kCat) (d2 kIx (dVar 2) (d2 (kI tt2 fun i j => .int (i - j)) (dVar 1) (dC (.int 1)))) (d2 kIx (dVar 2) (dVar 1))) dNil))) [.val (.lst (js.map D.int)), .val (.int (m:Int)), .own (F.map D.int), .val (.int (a:Int)), .no]=some (.cl (.int ((if a < b then b else a:Nat):Int))):=by
        simp only [dT1,dCons,dNil,x3]
        show some (Ev.cl (.int (if (b:Int) > (a:Int) then (b:Int) else (a:Int))))=_
        by_cases q:a < b
        · rw [if_pos q,if_pos (by omega)]
        · rw [if_neg q,if_neg (by omega)]
      show dAsg 3 _ _=_
      unfold dAsg
      rw [x4]; rfl
    · rw [decide_eq_false (show ¬ (m:Int) < ((F.map D.int).length:Int) by simp; omega)]
      unfold wholeN
      rw [if_neg h]
      rfl
  have hw:wholeN js.length m a b < big24:=by unfold wholeN; split <;> (try split) <;> omega
  generalize hW:wholeN js.length m a b=w at *
  have g0:0 < Nat.gcd s m:=Nat.gcd_pos_of_pos_right _ m0
  have ek:kCall G_fraction [.cl (.int (s:Int)), .cl (.int (m:Int))]=some (.cl (lowD s m)):=by
    simp [kCall,Ev.d,fraction_is s m m0 m1,upEv,Ev.ok,lowD]
  have e4:(dAsg 4 (dT1 (kCall G_fraction) (dCons (dT1 kSum (dCons (dVar 0) dNil)) (dCons (dVar 1) dNil)))) [.val (.lst (js.map D.int)), .val (.int (m:Int)), .own (F.map D.int), .val (.int (w:Int)), .no]=some (.nx [.val (.lst (js.map D.int)), .val (.int (m:Int)), .own (F.map D.int), .val (.int (w:Int)), .val (lowD s m)]):=by
    have:(dT1 kSum (dCons (dVar 0) dNil)) [.val (.lst (js.map D.int)), .val (.int (m:Int)), .own (F.map D.int), .val (.int (w:Int)), .no]=some (.cl (.int (s:Int))):=by
      show ((intsD (js.map D.int)).map fun ns=>Ev.cl (.int ns.sum))=_
      rw [intsD_map, ← hs]; rfl
    unfold dAsg
    have e:(dT1 (kCall G_fraction) (dCons (dT1 kSum (dCons (dVar 0) dNil)) (dCons (dVar 1) dNil))) [.val (.lst (js.map D.int)), .val (.int (m:Int)), .own (F.map D.int), .val (.int (w:Int)), .no]=some (.cl (lowD s m)):=by
      exact (t2_of this rfl).trans ek
    rw [e]; rfl
  unfold g_load_bound
  rw [seq_nx e1,seq_nx e2,seq_nx e3,seq_nx e4]
  have s2:s / Nat.gcd s m < big24:=Nat.lt_of_le_of_lt (Nat.div_le_self _ _) s1
  have m2:m / Nat.gcd s m < big24:=Nat.lt_of_le_of_lt (Nat.div_le_self _ _) (by unfold big24; omega)
  have el:kCall G_less [.cl (.tup [.int (w:Int), .int 1]), .cl (lowD s m)]=some (.cl (.bl (decide (w * m < s)))):=by
    have:=less_is w (s / Nat.gcd s m) (m / Nat.gcd s m) hw s2 m2
    unfold lowD
    have q:decide ((w:Int) * ((m / Nat.gcd s m:Nat):Int) < ((s / Nat.gcd s m:Nat):Int) * 1)=decide (w * m < s):=by
      rw [Int.mul_one,decide_eq_decide, ← less_iff m0]
      exact_mod_cast Iff.rfl
    rw [q] at this
    simp only [kCall,List.map_cons,List.map_nil,Ev.d,this,Option.map_some]
    rfl
  have e5:(dTr (dT1 (kCall G_less) (dCons (dT1 kTup (dCons (dVar 3) (dCons (dC (.int 1)) dNil))) (dCons (dVar 4) dNil)))) [.val (.lst (js.map D.int)), .val (.int (m:Int)), .own (F.map D.int), .val (.int (w:Int)), .val (lowD s m)]=some (decide (w * m < s)):=by
    show ((kCall G_less [.cl (.tup [.int (w:Int), .int 1]), .cl (lowD s m)]).bind fun r=>truD r.d)=_
    rw [el]; rfl
  unfold dRet dIf resD
  rw [e5]
  by_cases h:w * m < s
  · rw [decide_eq_true h,if_pos h]; rfl
  · rw [decide_eq_false h,if_neg h]; rfl
theorem set_get (L:List Int) (k b:Nat) (v:Int) (hb:b < L.length):(L.set k v).getD b 0=if k=b then v else L.getD b 0:=by
  rw [List.getD_eq_getElem?_getD,List.getD_eq_getElem?_getD,List.getElem?_set]
  by_cases h:k=b
  · subst h; rw [if_pos rfl,if_pos rfl,if_pos hb]; rfl
  · rw [if_neg h,if_neg h]
def stepD (js:List Int) (s:List Int × List Int) (j:Nat):List Int × List Int:=(s.1.set (am s.1 s.1.length) (s.1.getD (am s.1 s.1.length) 0 + js.getD j 0),s.2.set j ((am s.1 s.1.length:Nat):Int))
def dealR (js:List Int) (m:Nat) (ord:List Nat):List Int:=(ord.foldl (stepD js) (List.replicate m 0,List.replicate js.length 0)).2
theorem stepD_len (js:List Int) (s:List Int × List Int) (j:Nat):(stepD js s j).1.length=s.1.length∧(stepD js s j).2.length=s.2.length:=by simp [stepD]
theorem foldD_len (js:List Int):∀ (ord:List Nat) (s:List Int × List Int),(ord.foldl (stepD js) s).1.length=s.1.length∧(ord.foldl (stepD js) s).2.length=s.2.length
  | [],s=>⟨rfl,rfl⟩
  | j :: r,s=>by
    have h:=foldD_len js r (stepD js s j)
    have k:=stepD_len js s j
    simp only [List.foldl_cons]
    omega
def natD (ord:List Nat):List D:=ord.map fun (j:Nat)=>D.int (j:Int)
def bodyP:DS:=(dSeq (dAsg 6 (d2 kIdx (dVar 3) (dT1 (kExtr leastI) (dCons (dVar 3) dNil))))
    (dSeq (dSetI 4 (dVar 5) (dVar 6))
    (dAugI (fun i j=>i + j) 3 (dVar 6) (d2 kIx (dVar 0) (dVar 5)))))
theorem turn_P (s1 s2 s6:Sl) {js L G:List Int} {j:Nat} (hj:j < js.length) (hg:G.length=js.length) (hL:0 < L.length) (hm:L.length ≤ 1000) :
    bodyP [.val (.lst (js.map D.int)),s1,s2, .own (L.map D.int), .own (G.map D.int), .val (.int (j:Int)),s6]=some (.nx [.val (.lst (js.map D.int)),s1,s2, .own ((stepD js (L,G) j).1.map D.int), .own ((stepD js (L,G) j).2.map D.int), .val (.int (j:Int)), .val (.int (am L L.length:Nat))]):=by
  have lt:=am_lt L L.length hL
  have e1:dAsg 6 (d2 kIdx (dVar 3) (dT1 (kExtr leastI) (dCons (dVar 3) dNil))) [.val (.lst (js.map D.int)),s1,s2, .own (L.map D.int), .own (G.map D.int), .val (.int (j:Int)),s6]=some (.nx [.val (.lst (js.map D.int)),s1,s2, .own (L.map D.int), .own (G.map D.int), .val (.int (j:Int)), .val (.int (am L L.length:Nat))]) :=
    asg_cl (idx_of (r1 := .tm (.lst (L.map D.int))) rfl rfl (minL_of (r := .tm (.lst (L.map D.int))) rfl rfl hL) hL hm) (by simp)
  have e2:dSetI 4 (dVar 5) (dVar 6) [.val (.lst (js.map D.int)),s1,s2, .own (L.map D.int), .own (G.map D.int), .val (.int (j:Int)), .val (.int (am L L.length:Nat))]=some (.nx [.val (.lst (js.map D.int)),s1,s2, .own (L.map D.int), .own ((G.set j ((am L L.length:Nat):Int)).map D.int), .val (.int (j:Int)), .val (.int (am L L.length:Nat))]) :=
    seti_of (b:=j) rfl rfl rfl (by omega)
  unfold bodyP
  rw [seq_nx e1,seq_nx e2]
  exact augi_of (b:=am L L.length) (v:=js.getD j 0) rfl (ixe_of (r1 := .cl (.lst (js.map D.int))) (r2 := .cl (.int (j:Int))) js j rfl rfl hj rfl rfl) rfl lt
theorem loop_P (s1 s2:Sl) {js:List Int}:∀ (ord:List Nat) (L G:List Int) (s5 s6:Sl),(∀ j ∈ ord,j < js.length)→G.length=js.length→0 < L.length→L.length ≤ 1000 →
    ∃ u5 u6,forD (gkName 5) bodyP (natD ord) [.val (.lst (js.map D.int)),s1,s2, .own (L.map D.int), .own (G.map D.int),s5,s6]=some (.nx [.val (.lst (js.map D.int)),s1,s2, .own ((ord.foldl (stepD js) (L,G)).1.map D.int), .own ((ord.foldl (stepD js) (L,G)).2.map D.int),u5,u6])
  | [],L,G,s5,s6,_,_,_,_=>⟨s5,s6,rfl⟩
  | j :: r,L,G,s5,s6,h,hg,hL,hm=>by
    have k:=stepD_len js (L,G) j
    obtain ⟨u5,u6,e⟩:=loop_P s1 s2 r (stepD js (L,G) j).1 (stepD js (L,G) j).2 (.val (.int (j:Int))) (.val (.int (am L L.length:Nat))) (fun x hx=>h x (List.mem_cons_of_mem _ hx)) (by rw [k.2]; exact hg) (by rw [k.1]; exact hL) (by rw [k.1]; exact hm)
    refine ⟨u5,u6,?_⟩
    have e0:gkName 5 (.int (j:Int)) [.val (.lst (js.map D.int)),s1,s2, .own (L.map D.int), .own (G.map D.int),s5,s6]=some [.val (.lst (js.map D.int)),s1,s2, .own (L.map D.int), .own (G.map D.int), .val (.int (j:Int)),s6]:=rfl
    have e1:=turn_P s1 s2 s6 (h j (List.mem_cons_self ..)) hg hL hm
    simp only [natD,List.map_cons,forD,e0,Option.bind_some,e1,List.foldl_cons]
    exact e
def better (js:List Int) (b j:Int):Int:=if js.getD b.toNat 0 < js.getD j.toNat 0 then j else b
def bestL (js:List Int) (left:List Int):Int:=left.foldl (better js) (left.headD 0)
def selN (js:List Int):Nat→List Int→List Int
  | 0,_=>[]
  | n + 1,left=>if left=[] then [] else bestL js left :: selN js n (left.erase (bestL js left))
theorem best_fold (js:List Int):∀ (l:List Int) (b:Int),(∀ x ∈ l,b ≤ x)→l.Pairwise (· < ·)→(l.foldl (better js) b=b ∨ l.foldl (better js) b ∈ l)∧∀ x,x=b ∨ x ∈ l→js.getD x.toNat 0 < js.getD (l.foldl (better js) b).toNat 0 ∨ (js.getD x.toNat 0=js.getD (l.foldl (better js) b).toNat 0∧l.foldl (better js) b ≤ x)
  | [],b,_,_=>⟨.inl rfl,fun x hx=>by rcases hx with rfl | h; exact .inr ⟨rfl,Int.le_refl _⟩; cases h⟩
  | y :: l,b,hb,hp=>by
    have hc:=List.pairwise_cons.mp hp
    have hby:=hb y (List.mem_cons_self ..)
    simp only [List.foldl_cons]
    by_cases z:js.getD b.toNat 0 < js.getD y.toNat 0
    · rw [show better js b y=y from if_pos z]
      obtain ⟨i1,i2⟩:=best_fold js l y (fun x hx=>Int.le_of_lt (hc.1 x hx)) hc.2
      refine ⟨.inr (i1.elim (fun e=>by rw [e]; exact List.mem_cons_self ..) (List.mem_cons_of_mem _)),fun x hx=>?_⟩
      rcases hx with rfl | hx
      · rcases i2 y (.inl rfl) with q | ⟨q,_⟩
        · exact .inl (by omega)
        · exact .inl (by omega)
      · exact i2 x (List.mem_cons.mp hx)
    · rw [show better js b y=b from if_neg z]
      obtain ⟨i1,i2⟩:=best_fold js l b (fun x hx=>hb x (List.mem_cons_of_mem _ hx)) hc.2
      refine ⟨i1.imp id (List.mem_cons_of_mem _),fun x hx=>?_⟩
      rcases hx with rfl | hx
      · exact i2 x (.inl rfl)
      · rcases List.mem_cons.mp hx with rfl | hx
        · rcases i2 b (.inl rfl) with q | ⟨q1,q2⟩
          · exact .inl (by omega)
          · by_cases w:js.getD x.toNat 0=js.getD b.toNat 0
            · exact .inr ⟨by omega,by omega⟩
            · exact .inl (by omega)
        · exact i2 x (.inr hx)
theorem bestL_ok (js:List Int) {left:List Int} (h:left ≠ []) (hp:left.Pairwise (· < ·)):bestL js left ∈ left∧∀ x ∈ left,js.getD x.toNat 0 < js.getD (bestL js left).toNat 0 ∨ (js.getD x.toNat 0=js.getD (bestL js left).toNat 0∧bestL js left ≤ x):=by
  cases left with
  | nil=>exact absurd rfl h
  | cons y l =>
    have hc:=List.pairwise_cons.mp hp
    have e:bestL js (y :: l)=l.foldl (better js) y:=by
      show (y :: l).foldl (better js) y=_
      simp only [List.foldl_cons]
      congr 1
      unfold better
      rw [if_neg (by omega)]
    rw [e]
    obtain ⟨i1,i2⟩:=best_fold js l y (fun x hx=>Int.le_of_lt (hc.1 x hx)) hc.2
    exact ⟨i1.elim (fun e=>by rw [e]; exact List.mem_cons_self ..) (List.mem_cons_of_mem _),fun x hx=>i2 x (List.mem_cons.mp hx)⟩
def prJ (js:List Int) (x:Int):Int × Int:=(-(js.getD x.toNat 0),x)
theorem selN_ok (js:List Int):∀ (n:Nat) (left:List Int),left.length=n→left.Pairwise (· < ·)→(∀ x ∈ left,0 ≤ x∧x < 1048576)→(selN js n left).Perm left∧((selN js n left).map (prJ js)).Pairwise (fun a b=>TS.rkP a ≤ TS.rkP b)
  | 0,left,hl,_,_=>by
    have:left=[]:=List.length_eq_zero_iff.mp hl
    subst this
    exact ⟨List.Perm.refl _,List.Pairwise.nil⟩
  | n + 1,left,hl,hp,hb=>by
    have hne:left ≠ []:=fun z=>by rw [z] at hl; simp at hl
    unfold selN
    rw [if_neg hne]
    obtain ⟨b1,b2⟩:=bestL_ok js hne hp
    have pe:=List.perm_cons_erase b1
    obtain ⟨i1,i2⟩:=selN_ok js n (left.erase (bestL js left)) (by rw [List.length_erase_of_mem b1]; omega) (hp.sublist List.erase_sublist) (fun x hx=>hb x (List.mem_of_mem_erase hx))
    refine ⟨(List.Perm.cons _ i1).trans pe.symm,?_⟩
    rw [List.map_cons]
    refine List.pairwise_cons.mpr ⟨fun p hp'=>?_,i2⟩
    obtain ⟨x,hx,rfl⟩:=List.mem_map.mp hp'
    have mx:x ∈ left:=List.mem_of_mem_erase (i1.mem_iff.mp hx)
    have q0:=hb x mx
    have q1:=hb _ b1
    unfold TS.rkP prJ
    rcases b2 x mx with q | ⟨q,q'⟩
    · simp only; omega
    · simp only; omega
theorem natsI_lt (n:Nat):(natsI n).Pairwise (· < ·):=by
  unfold natsI
  rw [List.pairwise_map]
  exact (List.pairwise_lt_range (n:=n)).imp fun {a b} h=>by omega
theorem sel_sort (js:List Int) (n:Nat) (hn:n ≤ 100000):selN js n (natsI n)=(TS.sortP (((natsI n).map fun x => -(js.getD x.toNat 0)).zip (natsI n))).map (·.2):=by
  obtain ⟨p,s⟩:=selN_ok js n (natsI n) (natsI_len n) (natsI_lt n) (natsI_bd n hn)
  have e:((natsI n).map fun x => -(js.getD x.toNat 0)).zip (natsI n)=(natsI n).map (prJ js):=by
    rw [List.zip_map_left]
    generalize natsI n=l
    induction l with
    | nil=>rfl
    | cons x l ih=>simp only [List.zip_cons_cons,List.map_cons,ih]; rfl
  have q:=TS.uniqP (xs:=(selN js n (natsI n)).map (prJ js)) (ys:=TS.sortP ((natsI n).map (prJ js))) (fun p' hp'=>by
    obtain ⟨x,hx,rfl⟩:=List.mem_map.mp hp'
    exact natsI_bd n hn x (p.mem_iff.mp hx)) ((p.map _).trans (TS.sortP_perm _).symm) s (TS.sortP_sorted _)
  rw [e, ← q,List.map_map]
  exact (List.map_id _).symm
theorem ixi_of {fa fb:DE} {t:Th} {r1 r2:Ev} (L:List Int) (b:Int) (ha:fa t=some r1) (hb:fb t=some r2) (h0:0 ≤ b) (h:b < (L.length:Int)) (h1:r1.d = .lst (L.map D.int)) (h2:r2.d = .int b):(d2 kIx fa fb) t=some (.cl (.int (L.getD b.toNat 0))) :=
  ixe_of L b.toNat ha hb (by omega) h1 (by rw [h2,Int.toNat_of_nonneg h0])
theorem keys_of (js:List Int) {fb:DE} (hf:∀ x:Int,0 ≤ x→x < (js.length:Int)→fb [.val (.int x), .val (.lst (js.map D.int))]=some (.cl (.int (-(js.getD x.toNat 0))))):∀ l:List Int,(∀ x ∈ l,0 ≤ x∧x < (js.length:Int))→keysD fb [.lst (js.map D.int)] l=some (l.map fun x => -(js.getD x.toNat 0))
  | [],_=>rfl
  | x :: l,h=>by
    have hx:=h x (List.mem_cons_self ..)
    unfold keysD
    simp only [List.map_cons,List.map_nil]
    rw [hf x hx.1 hx.2]
    simp only [Option.bind_some,Ev.d]
    rw [keys_of js hf l fun y hy=>h y (List.mem_cons_of_mem _ hy)]
    rfl
theorem sorted_is {js:List Int} (hn:js.length < 64) (s1:Sl):(dSortK [0] (dT1 kLen (dCons (dVar 0) dNil)) (d1 kNeg (d2 kIx (dVar 1) (dVar 0)))) [.val (.lst (js.map D.int)),s1]=some (.nw ((selN js js.length (natsI js.length)).map D.int)):=by
  unfold dSortK
  rw [len_of (xs:=js) (r := .cl (.lst (js.map D.int))) rfl rfl]
  have ec:capD [.val (.lst (js.map D.int)),s1] [0]=some (_,[.lst (js.map D.int)]):=rfl
  rw [ec]
  simp only [Option.bind_some,Ev.d]
  rw [if_pos (by omega),Int.toNat_natCast,keys_of js (fun x h0 h1=>?_) _ fun x hx=>?_]
  · simp only [Option.map_some]
    rw [sel_sort js js.length (by omega)]
  · unfold d1
    rw [ixi_of (r1 := .cl (.lst (js.map D.int))) (r2 := .cl (.int x)) js x rfl rfl h0 h1 rfl rfl]
    rfl
  · obtain ⟨i,hi⟩:=List.mem_iff_getElem?.mp hx
    obtain ⟨q,l⟩:=natsI_get hi
    omega
theorem ints_nat (l:List Int) (h:∀ x ∈ l,0 ≤ x):l.map D.int=natD (l.map Int.toNat):=by
  unfold natD
  rw [List.map_map]
  refine List.map_congr_left fun x hx=>?_
  show D.int x=D.int ((x.toNat:Nat):Int)
  rw [Int.toNat_of_nonneg (h x hx)]
theorem sel_mem (js:List Int) (n:Nat) (hn:n ≤ 100000):∀ x ∈ selN js n (natsI n),0 ≤ x∧x < (n:Int):=fun x hx=>by
  obtain ⟨p,_⟩:=selN_ok js n (natsI n) (natsI_len n) (natsI_lt n) (natsI_bd n hn)
  obtain ⟨i,hi⟩:=List.mem_iff_getElem?.mp (p.mem_iff.mp hx)
  obtain ⟨q,l⟩:=natsI_get hi
  omega
def ordL (js:List Int):List Nat:=(selN js js.length (natsI js.length)).map Int.toNat
theorem ordL_lt (js:List Int) (hn:js.length ≤ 100000):∀ j ∈ ordL js,j < js.length:=fun j hj=>by
  obtain ⟨x,hx,rfl⟩:=List.mem_map.mp hj
  have:=sel_mem js js.length hn x hx
  omega
theorem ordL_is (js:List Int) (hn:js.length ≤ 100000):(selN js js.length (natsI js.length)).map D.int=natD (ordL js):=ints_nat _ fun x hx=>(sel_mem js js.length hn x hx).1
theorem nats_is (n:Nat):(natsI n).map D.int=natD (List.range n):=by
  unfold natD natsI
  rw [List.map_map]
  rfl
theorem ext_getD {A B:List Int} (h:A.length=B.length) (e:∀ j,j < A.length→A.getD j 0=B.getD j 0):A=B:=by
  refine List.ext_getElem h fun i h1 h2=>?_
  have:=e i h1
  simpa [List.getD_eq_getElem?_getD,h1,h2] using this
theorem map_getD_range (G:List Int):(List.range G.length).map (fun j=>G.getD j 0)=G:=by
  refine ext_getD (by simp) fun j hj=>?_
  simp at hj
  simp [List.getD_eq_getElem?_getD,hj]
theorem ord_perm (js:List Int) (hn:js.length ≤ 100000):(ordL js).Perm (List.range js.length):=by
  obtain ⟨p,_⟩:=selN_ok js js.length (natsI js.length) (natsI_len _) (natsI_lt _) (natsI_bd _ hn)
  have:=p.map Int.toNat
  unfold ordL
  refine this.trans ?_
  unfold natsI
  rw [List.map_map]
  exact List.Perm.of_eq (List.map_id'' (fun _=>rfl) _)
theorem dealt_is {js:List Int} {m:Nat} {ord:List Nat} (hn:js.length ≤ 900) (h0:0 < m) (hm:m ≤ 900) (ho:∀ j ∈ ord,j < js.length):G_dealt [.lst (js.map D.int), .int (m:Int), .lst (natD ord)]=some (.nw ((dealR js m ord).map D.int)):=by
  show (g_dealt [.val (.lst (js.map D.int)), .val (.int (m:Int)), .val (.lst (natD ord)), .no, .no, .no, .no]).bind outEv=_
  have e1:dAsg 3 (d2 (kOr (kI cMul fun i j => .int (i * j)) kRep) (dT1 kLst (dCons (dC (.int 0)) dNil)) (dVar 1)) [.val (.lst (js.map D.int)), .val (.int (m:Int)), .val (.lst (natD ord)), .no, .no, .no, .no]=some (.nx [.val (.lst (js.map D.int)), .val (.int (m:Int)), .val (.lst (natD ord)), .own ((List.replicate m (0:Int)).map D.int), .no, .no, .no]) :=
    asg_nw (repn_of rfl rfl hm) (by simp)
  have e2:dAsg 4 (d2 (kOr (kI cMul fun i j => .int (i * j)) kRep) (dT1 kLst (dCons (dC (.int 0)) dNil)) (dT1 kLen (dCons (dVar 0) dNil))) [.val (.lst (js.map D.int)), .val (.int (m:Int)), .val (.lst (natD ord)), .own ((List.replicate m (0:Int)).map D.int), .no, .no, .no]=some (.nx [.val (.lst (js.map D.int)), .val (.int (m:Int)), .val (.lst (natD ord)), .own ((List.replicate m (0:Int)).map D.int), .own ((List.replicate js.length (0:Int)).map D.int), .no, .no]) :=
    asg_nw (repn_of rfl (len_of (xs:=js) rfl rfl) hn) (by simp)
  obtain ⟨u5,u6,e⟩:=loop_P (.val (.int (m:Int))) (.val (.lst (natD ord))) ord (List.replicate m 0) (List.replicate js.length 0) .no .no ho (by simp) (by simpa using h0) (by simp; omega)
  have e3:dFor (gkName 5) (dVar 2) bodyP [.val (.lst (js.map D.int)), .val (.int (m:Int)), .val (.lst (natD ord)), .own ((List.replicate m (0:Int)).map D.int), .own ((List.replicate js.length (0:Int)).map D.int), .no, .no]=_:=(for_of (r := .cl (.lst (natD ord))) rfl rfl rfl).trans e
  show (dSeq _ (dSeq _ (dSeq (dFor (gkName 5) (dVar 2) bodyP) (dRetO 4))) _).bind outEv=_
  rw [seq_nx e1,seq_nx e2,seq_nx e3]
  rfl
theorem by_length_is {js:List Int} {m:Nat} (hn:js.length < 64) (h0:0 < m) (hm:m ≤ 900):G_deal_by_length [.lst (js.map D.int), .int (m:Int)]=some (.nw ((dealR js m (ordL js)).map D.int)):=by
  show (g_deal_by_length [.val (.lst (js.map D.int)), .val (.int (m:Int))]).bind outEv=_
  refine bnd (ret_of ?_)
  have e:kCall G_dealt [.cl (.lst (js.map D.int)), .cl (.int (m:Int)), .nw ((selN js js.length (natsI js.length)).map D.int)]=some (.nw ((dealR js m (ordL js)).map D.int)):=by
    refine calln ?_
    show G_dealt [.lst (js.map D.int), .int (m:Int), .lst ((selN js js.length (natsI js.length)).map D.int)]=_
    rw [ordL_is js (by omega)]
    exact dealt_is (by omega) h0 hm (ordL_lt js (by omega))
  exact (t3_of (ra := .cl (.lst (js.map D.int))) (rb := .cl (.int (m:Int))) rfl rfl (sorted_is hn _)).trans e
theorem in_order_is {js:List Int} {m:Nat} (hn:js.length ≤ 900) (h0:0 < m) (hm:m ≤ 900):G_deal_in_order [.lst (js.map D.int), .int (m:Int)]=some (.nw ((dealR js m (List.range js.length)).map D.int)):=by
  show (g_deal_in_order [.val (.lst (js.map D.int)), .val (.int (m:Int))]).bind outEv=_
  refine bnd (ret_of ?_)
  have e:kCall G_dealt [.cl (.lst (js.map D.int)), .cl (.int (m:Int)), .nw ((natsI js.length).map D.int)]=some (.nw ((dealR js m (List.range js.length)).map D.int)):=by
    refine calln ?_
    show G_dealt [.lst (js.map D.int), .int (m:Int), .lst ((natsI js.length).map D.int)]=_
    rw [nats_is]
    exact dealt_is hn h0 hm fun j hj=>List.mem_range.mp hj
  exact (t3_of (ra := .cl (.lst (js.map D.int))) (rb := .cl (.int (m:Int))) rfl rfl (lr_of (len_of (xs:=js) rfl rfl) (by omega))).trans e
def totN (f:Nat→Int):List Nat→Int
  | []=>0
  | j :: r=>f j + totN f r
theorem totN_perm (f:Nat→Int) {xs ys:List Nat} (p:xs.Perm ys):totN f xs=totN f ys:=by
  induction p with
  | nil=>rfl
  | cons x _ ih=>simp only [totN,ih]
  | swap x y l=>simp only [totN]; omega
  | trans _ _ a b=>exact a.trans b
theorem totN_congr {f g:Nat→Int}:∀ {xs:List Nat},(∀ j ∈ xs,f j=g j)→totN f xs=totN g xs
  | [],_=>rfl
  | j :: r,h=>by simp only [totN]; rw [h j (List.mem_cons_self ..),totN_congr fun k hk=>h k (List.mem_cons_of_mem _ hk)]
theorem totN_app (f:Nat→Int):∀ xs ys:List Nat,totN f (xs ++ ys)=totN f xs + totN f ys
  | [],ys=>by simp [totN]
  | j :: r,ys=>by simp only [List.cons_append,totN]; rw [totN_app f r ys]; omega
theorem totN_map (f:Nat→Int) (g:Nat→Nat):∀ xs:List Nat,totN f (xs.map g)=totN (fun j=>f (g j)) xs
  | []=>rfl
  | j :: r=>by simp only [List.map_cons,totN]; rw [totN_map f g r]
theorem totN_zip (b:Nat):∀ (js:List Int) (bs:List Nat),js.length=bs.length→totN (fun j=>if (bsD bs).getD j 0=(b:Int) then js.getD j 0 else 0) (List.range js.length)=sb (js.zip bs) b
  | [],bs,_=>by rfl
  | x :: js,[],h=>by simp at h
  | x :: js,c :: bs,h=>by
    rw [List.length_cons,List.range_succ_eq_map]
    simp only [totN]
    rw [totN_map]
    have ih:=totN_zip b js bs (by simpa using h)
    have e:totN (fun j=>if (bsD (c :: bs)).getD (j + 1) 0=(b:Int) then (x :: js).getD (j + 1) 0 else 0) (List.range js.length)=sb (js.zip bs) b:=by
      rw [← ih]
      exact totN_congr fun j _=>by simp [bsD]
    show (if (bsD (c :: bs)).getD 0 0=(b:Int) then (x :: js).getD 0 0 else 0) + totN (fun j=>if (bsD (c :: bs)).getD (j + 1) 0=(b:Int) then (x :: js).getD (j + 1) 0 else 0) (List.range js.length)=_
    rw [e,List.zip_cons_cons]
    show _=(if c=b then x else 0) + sb (js.zip bs) b
    congr 1
    have:(bsD (c :: bs)).getD 0 0=(c:Int):=rfl
    rw [this]
    by_cases z:c=b
    · rw [if_pos z,if_pos (by omega)]; rfl
    · rw [if_neg z,if_neg (by omega)]
theorem totN_all:∀ js:List Int,totN (fun j=>js.getD j 0) (List.range js.length)=js.sum
  | []=>rfl
  | x :: js=>by
    rw [List.length_cons,List.range_succ_eq_map]
    simp only [totN]
    rw [totN_map,List.sum_cons, ← totN_all js]
    congr 1
theorem sum_set:∀ (L:List Int) (k:Nat) (v:Int),k < L.length→(L.set k v).sum=L.sum - L.getD k 0 + v
  | [],k,v,h=>by simp at h
  | x :: L,0,v,_=>by simp; omega
  | x :: L,k + 1,v,h=>by
    have:=sum_set L k v (by simpa using h)
    simp only [List.set_cons_succ,List.sum_cons,this]
    have:(x :: L).getD (k + 1) 0=L.getD k 0:=by simp
    omega
theorem min_avg:∀ (L:List Int) (v:Int),(∀ y ∈ L,v ≤ y)→(L.length:Int) * v ≤ L.sum
  | [],v,_=>by simp
  | x :: L,v,h=>by
    have:=min_avg L v fun y hy=>h y (List.mem_cons_of_mem _ hy)
    have:=h x (List.mem_cons_self ..)
    rw [List.length_cons,Int.natCast_add,Int.add_mul,List.sum_cons]
    omega
theorem am_avg {L:List Int} (h:0 < L.length):(L.length:Int) * L.getD (am L L.length) 0 ≤ L.sum:=min_avg L _ fun y hy=>by
  obtain ⟨i,hi,e⟩:=mem_getD hy
  have:=am_le L L.length i hi
  omega
theorem fold_graham {js:List Int} {m:Nat} {P:Int} (m0:0 < m) (hp:∀ j,0 ≤ js.getD j 0∧js.getD j 0 ≤ P):∀ (ord:List Nat) (L G:List Int),L.length=m→(∀ b,b < m→(m:Int) * L.getD b 0 ≤ L.sum + ((m:Int) - 1) * P) →
    (ord.foldl (stepD js) (L,G)).1.sum=L.sum + totN (fun j=>js.getD j 0) ord∧∀ b,b < m→(m:Int) * (ord.foldl (stepD js) (L,G)).1.getD b 0 ≤ (ord.foldl (stepD js) (L,G)).1.sum + ((m:Int) - 1) * P
  | [],L,G,hl,h=>⟨by simp [totN],h⟩
  | j :: r,L,G,hl,h=>by
    have lt:=am_lt L L.length (by omega)
    have av:(m:Int) * L.getD (am L L.length) 0 ≤ L.sum:=by
      rw [show (m:Int)=(L.length:Int) by omega]
      exact am_avg (L:=L) (by omega)
    have hj:=hp j
    have k:=stepD_len js (L,G) j
    have s1:(stepD js (L,G) j).1.sum=L.sum + js.getD j 0:=by
      unfold stepD
      simp only
      rw [sum_set L _ _ lt]; omega
    have mm:((m:Int) - 1) * js.getD j 0 ≤ ((m:Int) - 1) * P:=Int.mul_le_mul_of_nonneg_left hj.2 (by omega)
    have m2:((m:Int) - 1) * js.getD j 0=(m:Int) * js.getD j 0 - js.getD j 0:=by rw [Int.sub_mul,Int.one_mul]
    have ih:=fold_graham m0 hp r (stepD js (L,G) j).1 (stepD js (L,G) j).2 (by rw [k.1]; exact hl) fun b hb=>by
      rw [s1]
      unfold stepD
      simp only
      rw [set_get _ _ _ _ (by omega)]
      by_cases z:am L L.length=b
      · rw [if_pos z,Int.mul_add]; omega
      · rw [if_neg z]
        have:=h b hb
        omega
    simp only [List.foldl_cons]
    refine ⟨?_,ih.2⟩
    rw [ih.1,s1]
    simp only [totN]
    omega
theorem cnt_set (v:Int):∀ (L:List Int) (k:Nat),(L.set k v).countP (fun y=>decide (y ≠ 0)) ≤ L.countP (fun y=>decide (y ≠ 0)) + 1
  | [],k=>by simp
  | x :: L,0=>by
    simp only [List.set_cons_zero,List.countP_cons]
    split <;> split <;> omega
  | x :: L,k + 1=>by
    have:=cnt_set v L k
    simp only [List.set_cons_succ,List.countP_cons]
    omega
theorem cnt_zero:∀ (L:List Int),L.countP (fun y=>decide (y ≠ 0)) < L.length→∃ b,b < L.length∧L.getD b 0=0
  | [],h=>by simp at h
  | x :: L,h=>by
    by_cases z:x=0
    · exact ⟨0,by simp,by simpa using z⟩
    · rw [List.countP_cons,if_pos (by simpa using z)] at h
      obtain ⟨b,hb,e⟩:=cnt_zero L (by rw [List.length_cons] at h; omega)
      exact ⟨b + 1,by simpa using hb,by simpa using e⟩
theorem fold_lpt {js:List Int} {m:Nat} {P Q:Int} (m0:0 < m) (hp:∀ j,0 ≤ js.getD j 0∧js.getD j 0 ≤ P):∀ (ord:List Nat) (i:Nat) (L G:List Int),L.length=m→(∀ b,b < m→0 ≤ L.getD b 0)→L.countP (fun y=>decide (y ≠ 0)) ≤ i→(∀ t,t < ord.length→m ≤ i + t→2 * js.getD (ord.getD t 0) 0 ≤ Q) →
    (∀ b,b < m→L.getD b 0 ≤ P ∨ 2 * ((m:Int) * L.getD b 0) ≤ 2 * L.sum + ((m:Int) - 1) * Q) →
    ∀ b,b < m→(ord.foldl (stepD js) (L,G)).1.getD b 0 ≤ P ∨ 2 * ((m:Int) * (ord.foldl (stepD js) (L,G)).1.getD b 0) ≤ 2 * (ord.foldl (stepD js) (L,G)).1.sum + ((m:Int) - 1) * Q
  | [],i,L,G,hl,_,_,_,h=>h
  | j :: r,i,L,G,hl,h0,hc,hq,h=>by
    have lt:=am_lt L L.length (by omega)
    have av:(m:Int) * L.getD (am L L.length) 0 ≤ L.sum:=by
      rw [show (m:Int)=(L.length:Int) by omega]
      exact am_avg (L:=L) (by omega)
    have hj:=hp j
    have k:=stepD_len js (L,G) j
    have s1:(stepD js (L,G) j).1.sum=L.sum + js.getD j 0:=by
      unfold stepD
      simp only
      rw [sum_set L _ _ lt]; omega
    simp only [List.foldl_cons]
    refine fold_lpt m0 hp r (i + 1) (stepD js (L,G) j).1 (stepD js (L,G) j).2 (by rw [k.1]; exact hl) (fun b hb=>?_) ?_ (fun t ht hm=>?_) (fun b hb=>?_)
    · unfold stepD
      simp only
      rw [set_get _ _ _ _ (by omega)]
      have:=h0 b hb
      have:=h0 _ (show am L L.length < m by omega)
      split <;> omega
    · unfold stepD
      simp only
      have:=cnt_set (L.getD (am L L.length) 0 + js.getD j 0) L (am L L.length)
      omega
    · have:=hq (t + 1) (by simpa using ht) (by omega)
      simpa using this
    · rw [s1]
      unfold stepD
      simp only
      rw [set_get _ _ _ _ (by omega)]
      by_cases z:am L L.length=b
      · rw [if_pos z]
        by_cases c:i < m
        · left
          obtain ⟨d,hd,e⟩:=cnt_zero L (by omega)
          have:=am_le L L.length d hd
          have:=h0 _ (show am L L.length < m by omega)
          omega
        · right
          have q:=hq 0 (by simp) (by omega)
          have q':2 * js.getD j 0 ≤ Q:=by simpa using q
          have mm:((m:Int) - 1) * (2 * js.getD j 0) ≤ ((m:Int) - 1) * Q:=Int.mul_le_mul_of_nonneg_left q' (by omega)
          have m2:((m:Int) - 1) * (2 * js.getD j 0)=2 * ((m:Int) * js.getD j 0) - 2 * js.getD j 0:=by
            rw [Int.sub_mul,Int.one_mul, ← Int.mul_assoc,Int.mul_comm (m:Int) 2,Int.mul_assoc]
          rw [Int.mul_add]
          omega
      · rw [if_neg z]
        rcases h b hb with q | q
        · exact .inl q
        · right; omega
theorem fold_rng {js:List Int} {m:Nat} (m0:0 < m):∀ (ord:List Nat) (L G:List Int),L.length=m→(∀ y ∈ G,0 ≤ y∧y < (m:Int))→∀ y ∈ (ord.foldl (stepD js) (L,G)).2,0 ≤ y∧y < (m:Int)
  | [],L,G,_,h=>h
  | j :: r,L,G,hl,h=>by
    have lt:=am_lt L L.length (by omega)
    have k:=stepD_len js (L,G) j
    simp only [List.foldl_cons]
    refine fold_rng m0 r (stepD js (L,G) j).1 (stepD js (L,G) j).2 (by rw [k.1]; exact hl) fun y hy=>?_
    unfold stepD at hy
    rcases List.mem_or_eq_of_mem_set hy with q | q
    · exact h y q
    · subst q
      show 0 ≤ ((am L L.length:Nat):Int)∧((am L L.length:Nat):Int) < (m:Int)
      omega
theorem fold_sb {js:List Int} {m:Nat} (m0:0 < m):∀ (ord pre:List Nat) (L G:List Int),L.length=m→G.length=js.length→(pre ++ ord).Nodup→(∀ j ∈ pre ++ ord,j < js.length)→(∀ b,b < m→L.getD b 0=totN (fun j=>if G.getD j 0=(b:Int) then js.getD j 0 else 0) pre) →
    ∀ b,b < m→(ord.foldl (stepD js) (L,G)).1.getD b 0=totN (fun j=>if (ord.foldl (stepD js) (L,G)).2.getD j 0=(b:Int) then js.getD j 0 else 0) (pre ++ ord)
  | [],pre,L,G,_,_,_,_,h=>by rw [List.append_nil]; exact h
  | j :: r,pre,L,G,hl,hg,nd,hlt,h=>by
    have lt:=am_lt L L.length (by omega)
    have k:=stepD_len js (L,G) j
    have ea:pre ++ j :: r=(pre ++ [j]) ++ r:=by simp
    have jl:=hlt j (by simp)
    have nj:j ∉ pre:=fun q=>by
      have:=(List.nodup_append.mp nd).2.2 j q j (by simp)
      exact this rfl
    simp only [List.foldl_cons]
    rw [ea] at nd hlt ⊢
    refine fold_sb m0 r (pre ++ [j]) (stepD js (L,G) j).1 (stepD js (L,G) j).2 (by rw [k.1]; exact hl) (by rw [k.2]; exact hg) nd hlt fun b hb=>?_
    rw [totN_app]
    unfold stepD
    simp only [totN]
    rw [set_get _ _ _ _ (by omega),set_get _ _ _ _ (by omega),if_pos rfl]
    have e:totN (fun i=>if (G.set j ((am L L.length:Nat):Int)).getD i 0=(b:Int) then js.getD i 0 else 0) pre=totN (fun i=>if G.getD i 0=(b:Int) then js.getD i 0 else 0) pre:=totN_congr fun i hi=>by
      rw [set_get _ _ _ _ (by rw [hg]; exact hlt i (by simp [hi])),if_neg (show ¬ (j=i) from fun z=>nj (z ▸ hi))]
    rw [e, ← h b hb]
    by_cases z:am L L.length=b
    · subst z; rw [if_pos rfl,if_pos rfl]; omega
    · rw [if_neg z,if_neg (by omega)]; omega
theorem deal_facts {js:List Int} {m:Nat} {ord:List Nat} (m0:0 < m) (po:ord.Perm (List.range js.length)):∃ bs:List Nat,dealR js m ord=bsD bs∧js.length=bs.length∧(∀ b ∈ bs,b < m)∧(ord.foldl (stepD js) (List.replicate m 0,List.replicate js.length 0)).1=lds m (js.zip bs):=by
  have rg:=fold_rng (js:=js) m0 ord (List.replicate m 0) (List.replicate js.length 0) (by simp) fun y hy=>by rw [(List.mem_replicate.mp hy).2]; omega
  have fl:=foldD_len js ord (List.replicate m 0,List.replicate js.length 0)
  have f2:(ord.foldl (stepD js) (List.replicate m 0,List.replicate js.length 0)).2.length=js.length:=by rw [fl.2]; simp
  have f1:(ord.foldl (stepD js) (List.replicate m 0,List.replicate js.length 0)).1.length=m:=by rw [fl.1]; simp
  have sbs:=fold_sb (js:=js) m0 ord [] (List.replicate m 0) (List.replicate js.length 0) (by simp) (by simp) (by simpa using po.nodup_iff.mpr List.nodup_range) (fun j hj=>List.mem_range.mp (po.mem_iff.mp (by simpa using hj))) (fun b hb=>by simp [totN,List.getD_eq_getElem?_getD,hb])
  unfold dealR
  generalize ord.foldl (stepD js) (List.replicate m 0,List.replicate js.length 0)=s at rg f1 f2 sbs ⊢
  have e:s.2=bsD (s.2.map Int.toNat):=by
    unfold bsD
    rw [List.map_map]
    refine (List.map_id'' (fun _=>rfl) _).symm.trans (List.map_congr_left fun z hz=>?_)
    have:=rg z hz
    show z=((z.toNat:Nat):Int)
    omega
  refine ⟨s.2.map Int.toNat,e,by simpa using f2.symm,fun b hb=>?_,?_⟩
  · obtain ⟨z,hz,rfl⟩:=List.mem_map.mp hb
    have:=rg z hz
    omega
  · refine ext_getD (by rw [f1,lds_len]) fun b hb=>?_
    rw [f1] at hb
    rw [lds_get m _ b hb,sbs b hb,List.nil_append,totN_perm _ po, ← totN_zip b js _ (by simpa using f2.symm), ← e]
theorem ord_falls (js:List Int) (hn:js.length ≤ 100000):(ordL js).map (fun j=>js.getD j 0)=(sortI' js).reverse:=by
  refine falling_uniq ?_ ?_
  · have:=(ord_perm js hn).map (fun j=>js.getD j 0)
    rwa [map_getD_range] at this
  · obtain ⟨p,s⟩:=selN_ok js js.length (natsI js.length) (natsI_len _) (natsI_lt _) (natsI_bd _ hn)
    unfold ordL
    rw [List.map_map,List.pairwise_map]
    rw [List.pairwise_map] at s
    refine (List.Pairwise.and_mem.mp s).imp fun {x y} h=>?_
    obtain ⟨hx,hy,q⟩:=h
    have bx:=natsI_bd _ hn x (p.mem_iff.mp hx)
    have by':=natsI_bd _ hn y (p.mem_iff.mp hy)
    unfold TS.rkP prJ at q
    simp only at q
    show js.getD x.toNat 0 ≥ js.getD y.toNat 0
    omega
theorem graham_top {js:List Int} {m:Nat} {ord:List Nat} {P:Int} (m0:0 < m) (po:ord.Perm (List.range js.length)) (hp:∀ j,0 ≤ js.getD j 0∧js.getD j 0 ≤ P) {bs:List Nat} (hL:(ord.foldl (stepD js) (List.replicate m 0,List.replicate js.length 0)).1=lds m (js.zip bs)) :
    (lds m (js.zip bs)).sum=js.sum∧(m:Int) * topI (lds m (js.zip bs)) ≤ js.sum + ((m:Int) - 1) * P:=by
  have p0:0 ≤ P:=by have:=hp 0; omega
  have pm:0 ≤ ((m:Int) - 1) * P:=Int.mul_nonneg (by omega) p0
  have g:=fold_graham (js:=js) (P:=P) m0 hp ord (List.replicate m 0) (List.replicate js.length 0) (by simp) fun b hb=>by
    rw [show (List.replicate m (0:Int)).getD b 0=0 by simp [List.getD_eq_getElem?_getD,hb],Int.mul_zero,show (List.replicate m (0:Int)).sum=0 by simp]
    omega
  rw [hL,totN_perm _ po,totN_all,show (List.replicate m (0:Int)).sum=0 by simp,Int.zero_add] at g
  refine ⟨g.1,?_⟩
  have ln:=lds_len m (js.zip bs)
  obtain ⟨k,hk,e⟩:=mem_getD (topI_mem (L:=lds m (js.zip bs)) (by omega))
  have:=g.2 k (by omega)
  rw [e,g.1] at this
  exact this
theorem lpt_top {js:List Int} {m:Nat} {P Q:Int} (m0:0 < m) (hn:js.length ≤ 100000) (hp:∀ j,0 ≤ js.getD j 0∧js.getD j 0 ≤ P) (hq:∀ t,t < js.length→m ≤ t→2 * ((sortI' js).reverse).getD t 0 ≤ Q) (q0:0 ≤ Q) {bs:List Nat} (hL:((ordL js).foldl (stepD js) (List.replicate m 0,List.replicate js.length 0)).1=lds m (js.zip bs)) :
    topI (lds m (js.zip bs)) ≤ P ∨ 2 * ((m:Int) * topI (lds m (js.zip bs))) ≤ 2 * js.sum + ((m:Int) - 1) * Q:=by
  have p0:0 ≤ P:=by have:=hp 0; omega
  have ol:(ordL js).length=js.length:=by rw [(ord_perm js hn).length_eq]; simp
  have g:=fold_lpt (js:=js) (P:=P) (Q:=Q) m0 hp (ordL js) 0 (List.replicate m 0) (List.replicate js.length 0) (by simp) (fun b hb=>by simp [List.getD_eq_getElem?_getD,hb]) (by simp [List.countP_replicate]) (fun t ht hm=>by
    have h2:=hq t (by omega) (by omega)
    rw [← ord_falls js hn] at h2
    have:((ordL js).map (fun j=>js.getD j 0)).getD t 0=js.getD ((ordL js).getD t 0) 0:=by
      rw [List.getD_eq_getElem?_getD,List.getElem?_map,List.getElem?_eq_getElem ht,List.getD_eq_getElem?_getD (l:=ordL js),List.getElem?_eq_getElem ht]
      rfl
    rw [this] at h2
    exact h2) (fun b hb => .inl (by simp [List.getD_eq_getElem?_getD,hb]; exact p0))
  rw [hL] at g
  have sm:=(graham_top m0 (ord_perm js hn) hp hL).1
  have ln:=lds_len m (js.zip bs)
  obtain ⟨k,hk,e⟩:=mem_getD (topI_mem (L:=lds m (js.zip bs)) (by omega))
  have:=g k (by omega)
  rw [e,sm] at this
  exact this
theorem res_facts {w s m:Nat} (m0:0 < m):∃ x y:Nat,resD w s m = .tup [.int (x:Int), .int (y:Int)]∧0 < y∧y ≤ m∧(x ≤ w ∨ x ≤ s)∧w * y ≤ x∧s * y ≤ m * x∧∀ X Y:Nat,w * Y ≤ X→s * Y ≤ m * X→x * Y ≤ X * y:=by
  unfold resD
  by_cases h:w * m < s
  · rw [if_pos h]
    have g0:0 < Nat.gcd s m:=Nat.gcd_pos_of_pos_right _ m0
    have lt:=(less_iff (w:=w) (s:=s) m0).mpr h
    refine ⟨s / Nat.gcd s m,m / Nat.gcd s m,rfl,Nat.div_pos (Nat.gcd_le_right _ m0) g0,Nat.div_le_self _ _, .inr (Nat.div_le_self _ _),Nat.le_of_lt lt,?_,fun X Y h1 h2=>?_⟩
    · obtain ⟨s',es⟩:=Nat.gcd_dvd_left s m
      obtain ⟨m',em⟩:=Nat.gcd_dvd_right s m
      clear lt h
      generalize Nat.gcd s m=g at *
      subst es; subst em
      rw [Nat.mul_div_cancel_left _ g0,Nat.mul_div_cancel_left _ g0,Nat.mul_assoc,Nat.mul_assoc,Nat.mul_comm s' m']
      exact Nat.le_refl _
    · obtain ⟨s',es⟩:=Nat.gcd_dvd_left s m
      obtain ⟨m',em⟩:=Nat.gcd_dvd_right s m
      clear lt h h1
      generalize Nat.gcd s m=g at *
      subst es; subst em
      rw [Nat.mul_div_cancel_left _ g0,Nat.mul_div_cancel_left _ g0]
      rw [Nat.mul_assoc,Nat.mul_assoc] at h2
      rw [Nat.mul_comm X m']
      exact Nat.le_of_mul_le_mul_left h2 g0
  · rw [if_neg h]
    refine ⟨w,1,rfl,by omega,by omega, .inl (Nat.le_refl _),by omega,by rw [Nat.mul_one,Nat.mul_comm m w]; omega,fun X Y h1 _=>by omega⟩
def Fl (js:List Int):List Int:=(sortI' js).reverse
def Bd (js:List Int) (m:Nat) (X Y:Int):Prop:=(Fl js).getD 0 0 * Y ≤ X∧(m < js.length→((Fl js).getD (m - 1) 0 + (Fl js).getD m 0) * Y ≤ X)∧js.sum * Y ≤ (m:Int) * X
theorem fl_perm (js:List Int):(Fl js).Perm js:=(List.reverse_perm _).trans (sortI'_perm js)
theorem fl_bd {js:List Int} {q:Int} (q0:0 ≤ q) (hj:∀ y ∈ js,0 ≤ y∧y ≤ q) (i:Nat):0 ≤ (Fl js).getD i 0∧(Fl js).getD i 0 ≤ q:=by
  by_cases c:i < (Fl js).length
  · exact hj _ ((fl_perm js).mem_iff.mp (getD_mem c))
  · rw [List.getD_eq_getElem?_getD,List.getElem?_eq_none (by omega)]
    exact ⟨Int.le_refl _,q0⟩
theorem bound_facts {js:List Int} {m:Nat} (m0:0 < m) (m1:m ≤ 20) (hl:js.length ≤ 60) (hj:∀ y ∈ js,0 ≤ y∧y ≤ 1000000000000):∃ x y:Nat,G_load_bound [.lst (js.map D.int), .int (m:Int)]=some (.cl (.tup [.int (x:Int), .int (y:Int)]))∧0 < y∧y ≤ m∧x < big24∧Bd js m x y∧∀ X Y:Nat,Bd js m X Y→(x:Int) * Y ≤ X * y:=by
  have b0:=fl_bd (by decide) hj
  have f0:=b0 0
  have f1:=b0 (m - 1)
  have f2:=b0 m
  have ss:=sum_le (q:=1000000000001) (by omega) (js:=js) fun y hy=>by have:=hj y hy; omega
  have sl:(js.length:Int) * 1000000000001 ≤ 60 * 1000000000001:=Int.mul_le_mul_of_nonneg_right (by omega) (by decide)
  obtain ⟨a,ha⟩:∃ a:Nat,(Fl js).getD 0 0=(a:Int):=⟨((Fl js).getD 0 0).toNat,by omega⟩
  obtain ⟨b,hb⟩:∃ b:Nat,(Fl js).getD (m - 1) 0 + (Fl js).getD m 0=(b:Int):=⟨((Fl js).getD (m - 1) 0 + (Fl js).getD m 0).toNat,by omega⟩
  obtain ⟨s,hs⟩:∃ s:Nat,js.sum=(s:Int):=⟨js.sum.toNat,by omega⟩
  have r:=load_bound_is (js:=js) (F:=Fl js) (m:=m) (a:=a) (b:=b) (s:=s) rfl hl m0 m1 ha hb hs (by unfold big24; omega) (by unfold big24; omega) (by unfold big24; omega)
  have w1:a ≤ wholeN js.length m a b:=by unfold wholeN; split <;> (try split) <;> omega
  have w2:m < js.length→b ≤ wholeN js.length m a b:=fun h=>by unfold wholeN; rw [if_pos h]; split <;> omega
  have w3:wholeN js.length m a b=a ∨ (m < js.length∧wholeN js.length m a b=b):=by unfold wholeN; split <;> (try split) <;> omega
  generalize wholeN js.length m a b=w at *
  obtain ⟨x,y,e,y0,ym,xl,h1,h2,h3⟩:=res_facts (w:=w) (s:=s) m0
  rw [e] at r
  refine ⟨x,y,r,y0,ym,?_,⟨?_,fun hm=>?_,?_⟩,fun X Y hB=>?_⟩
  · unfold big24
    omega
  · rw [ha]
    have:=Nat.le_trans (Nat.mul_le_mul_right y w1) h1
    exact_mod_cast this
  · rw [hb]
    have:=Nat.le_trans (Nat.mul_le_mul_right y (w2 hm)) h1
    exact_mod_cast this
  · rw [hs]
    exact_mod_cast h2
  · obtain ⟨q1,q2,q3⟩:=hB
    rw [ha] at q1
    rw [hb] at q2
    rw [hs] at q3
    have:x * Y ≤ X * y:=h3 X Y (by
      rcases w3 with q | ⟨hm,q⟩
      · rw [q]; exact_mod_cast q1
      · rw [q]; exact_mod_cast q2 hm) (by exact_mod_cast q3)
    exact_mod_cast this
theorem ineq1 {m M y x S a:Int} (m0:1 ≤ m) (y0:0 ≤ y) (h:m * M ≤ S + (m - 1) * a) (hS:S * y ≤ m * x) (ha:a * y ≤ x):m * M * y ≤ (2 * m - 1) * x:=by
  have e1:=Int.mul_le_mul_of_nonneg_right h y0
  have e2:(m - 1) * (a * y) ≤ (m - 1) * x:=Int.mul_le_mul_of_nonneg_left ha (by omega)
  rw [Int.add_mul,Int.mul_assoc (m - 1)] at e1
  rw [show (2 * m - 1)=m + (m - 1) by omega,Int.add_mul]
  omega
theorem ineq2 {m M y x S a Q:Int} (m0:1 ≤ m) (y0:0 ≤ y) (x0:0 ≤ x) (h:M ≤ a ∨ 2 * (m * M) ≤ 2 * S + (m - 1) * Q) (hS:S * y ≤ m * x) (ha:a * y ≤ x) (hQ:Q * y ≤ x):2 * m * M * y ≤ (3 * m - 1) * x:=by
  have e3:(3 * m - 1) * x=2 * (m * x) + (m - 1) * x:=by
    rw [show (3 * m - 1)=(m + m) + (m - 1) by omega,Int.add_mul,Int.add_mul]; omega
  have e4:2 * m * M * y=2 * (m * M * y):=by rw [Int.mul_assoc 2 m M,Int.mul_assoc 2]
  have e5:0 ≤ (m - 1) * x:=Int.mul_nonneg (by omega) x0
  rw [e3,e4]
  rcases h with h | h
  · have h1:M * y ≤ a * y:=Int.mul_le_mul_of_nonneg_right h y0
    have h2:m * (M * y) ≤ m * x:=Int.mul_le_mul_of_nonneg_left (by omega) (by omega)
    rw [← Int.mul_assoc] at h2
    omega
  · have h1:=Int.mul_le_mul_of_nonneg_right h y0
    have h2:(m - 1) * (Q * y) ≤ (m - 1) * x:=Int.mul_le_mul_of_nonneg_left hQ (by omega)
    rw [Int.add_mul,Int.mul_assoc 2 (m * M),Int.mul_assoc 2 S,Int.mul_assoc (m - 1)] at h1
    omega
theorem in_range {js:List Int} {m:Nat} (hl:js.length ≤ 60) (m0:0 < m) (m1:m ≤ 20):∃ bs:List Nat,G_deal_in_order [.lst (js.map D.int), .int (m:Int)]=some (.nw ((bsD bs).map D.int))∧dealR js m (List.range js.length)=bsD bs∧js.length=bs.length∧(∀ b ∈ bs,b < m)∧((List.range js.length).foldl (stepD js) (List.replicate m 0,List.replicate js.length 0)).1=lds m (js.zip bs):=by
  obtain ⟨bs,e,l,h,q⟩:=deal_facts (js:=js) m0 (List.Perm.refl _)
  refine ⟨bs,?_,e,l,h,q⟩
  rw [← e]
  exact in_order_is (by omega) m0 (by omega)
theorem by_range {js:List Int} {m:Nat} (hl:js.length ≤ 60) (m0:0 < m) (m1:m ≤ 20):∃ bs:List Nat,G_deal_by_length [.lst (js.map D.int), .int (m:Int)]=some (.nw ((bsD bs).map D.int))∧js.length=bs.length∧(∀ b ∈ bs,b < m)∧((ordL js).foldl (stepD js) (List.replicate m 0,List.replicate js.length 0)).1=lds m (js.zip bs):=by
  obtain ⟨bs,e,l,h,q⟩:=deal_facts (js:=js) m0 (ord_perm js (by omega))
  refine ⟨bs,?_,l,h,q⟩
  rw [← e]
  exact by_length_is (by omega) m0 (by omega)
theorem le_of {fa fb:DE} {t:Th} {a b:Int} (h1:fa t=some (.cl (.int a))) (h2:fb t=some (.cl (.int b))):(d2 (kI tt2 fun i j => .bl (decide (i ≤ j))) fa fb) t=some (.cl (.bl (decide (a ≤ b)))):=(d2_of h1 h2).trans rfl
theorem jsP {js:List Int} (hj:∀ y ∈ js,0 ≤ y∧y ≤ 1000000000000) (j:Nat):0 ≤ js.getD j 0∧js.getD j 0 ≤ (Fl js).getD 0 0:=by
  have b0:=fl_bd (by decide) hj 0
  by_cases c:j < js.length
  · have m1:=getD_mem c
    refine ⟨(hj _ m1).1,?_⟩
    obtain ⟨i,hi,e⟩:=mem_getD ((fl_perm js).mem_iff.mpr m1)
    rw [← e]
    by_cases z:i=0
    · subst z; exact Int.le_refl _
    · exact falls_get (falls js) (by omega) hi
  · rw [List.getD_eq_getElem?_getD,List.getElem?_eq_none (by omega)]
    exact ⟨Int.le_refl _,b0.1⟩
theorem facts {js:List Int} {m:Nat} (m0:0 < m) (m1:m ≤ 20) (hl:js.length ≤ 60) (hj:∀ y ∈ js,0 ≤ y∧y ≤ 1000000000000):∃ (x y:Nat) (b1 b2:List Nat),G_load_bound [.lst (js.map D.int), .int (m:Int)]=some (.cl (.tup [.int (x:Int), .int (y:Int)]))∧0 < y∧y ≤ m∧x < big24∧(∀ X Y:Nat,Bd js m X Y→(x:Int) * Y ≤ X * y) ∧
    G_deal_in_order [.lst (js.map D.int), .int (m:Int)]=some (.nw ((bsD b1).map D.int))∧js.length=b1.length∧(∀ b ∈ b1,b < m)∧G_deal_by_length [.lst (js.map D.int), .int (m:Int)]=some (.nw ((bsD b2).map D.int))∧js.length=b2.length∧(∀ b ∈ b2,b < m)∧((ordL js).foldl (stepD js) (List.replicate m 0,List.replicate js.length 0)).1=lds m (js.zip b2) ∧
    0 ≤ topI (lds m (js.zip b1))∧topI (lds m (js.zip b1)) ≤ 100000000000000∧0 ≤ topI (lds m (js.zip b2))∧topI (lds m (js.zip b2)) ≤ 100000000000000∧(m:Int) * topI (lds m (js.zip b1)) * y ≤ (2 * (m:Int) - 1) * x∧2 * (m:Int) * topI (lds m (js.zip b2)) * y ≤ (3 * (m:Int) - 1) * x:=by
  obtain ⟨x,y,eb,y0,ym,xl,⟨B1,B2,B3⟩,BM⟩:=bound_facts m0 m1 hl hj
  obtain ⟨b1,d1,_,l1,h1,q1⟩:=in_range (js:=js) hl m0 m1
  obtain ⟨b2,d2',l2,h2,q2⟩:=by_range (js:=js) hl m0 m1
  have jp:=jsP hj
  have g1:=(graham_top m0 (List.Perm.refl _) jp q1).2
  have fb:=fl_bd (by decide) hj
  have fl:(Fl js).length=js.length:=(fl_perm js).length_eq
  have fl':(sortI' js).reverse.length=js.length:=fl
  have L1:=load_ge (js:=js) (F:=Fl js) (bs:=b1) m0 rfl l1 (fun z hz=>(hj z hz).1) h1
  have L2:=load_ge (js:=js) (F:=Fl js) (bs:=b2) m0 rfl l2 (fun z hz=>(hj z hz).1) h2
  have ss:=sum_le (q:=1000000000001) (by omega) (js:=js) fun y hy=>by have:=hj y hy; omega
  have sl:(js.length:Int) * 1000000000001 ≤ 60 * 1000000000001:=Int.mul_le_mul_of_nonneg_right (by omega) (by decide)
  have g2:topI (lds m (js.zip b2)) ≤ (Fl js).getD 0 0 ∨ 2 * ((m:Int) * topI (lds m (js.zip b2))) ≤ 2 * js.sum + ((m:Int) - 1) * (if m < js.length then (Fl js).getD (m - 1) 0 + (Fl js).getD m 0 else 0):=by
    refine lpt_top m0 (by omega) jp (fun t ht hm=>?_) ?_ q2
    · rw [if_pos (by omega)]
      have a1:(Fl js).getD m 0 ≤ (Fl js).getD (m - 1) 0:=falls_get (falls js) (by omega) (by omega)
      have a2:(Fl js).getD t 0 ≤ (Fl js).getD m 0:=by
        by_cases z:t=m
        · subst z; exact Int.le_refl _
        · exact falls_get (falls js) (by omega) (by omega)
      show 2 * (Fl js).getD t 0 ≤ _
      omega
    · have:=fb (m - 1)
      have:=fb m
      split <;> omega
  have i1:=ineq1 (m:=(m:Int)) (by omega) (by omega:(0:Int) ≤ (y:Int)) g1 B3 B1
  have i2:=ineq2 (m:=(m:Int)) (by omega) (by omega:(0:Int) ≤ (y:Int)) (by omega:(0:Int) ≤ (x:Int)) g2 B3 B1 (by
    split
    · exact B2 (by assumption)
    · rw [Int.zero_mul]; omega)
  exact ⟨x,y,b1,b2,eb,y0,ym,xl,BM,d1,l1,h1,d2',l2,h2,q2,L1.1,by omega,L2.1,by omega,i1,i2⟩
def bmp (L:List Int) (b:Nat) (s:Int):List Int:=L.set b (L.getD b 0 + s)
theorem bmp_len (L:List Int) (b:Nat) (s:Int):(bmp L b s).length=L.length:=by simp [bmp]
def walkB:Nat→List Int→Option Nat
  | b,[]=>some b
  | b,x :: xs=>if 0 ≤ x∧x ≤ (b:Int) then walkB (max b (x.toNat + 1)) xs else none
abbrev PQ:=Int × Int
def dQ (p:PQ):D := .tup [.int p.1, .int p.2]
def sums (L:List Int) (ps:List PQ):List Int:=ps.foldl (fun L p=>bmp L p.2.toNat p.1) L
def runF:List PQ→List Int→Option (List Int)
  | [],L=>some L
  | p :: ps,L=>if 0 ≤ p.2∧p.2 ≤ (L.length:Int) then runF ps (bmp (if p.2=(L.length:Int) then L ++ [0] else L) p.2.toNat p.1) else none
theorem bmp_app (L R:List Int) (b:Nat) (s:Int) (h:b < L.length):bmp (L ++ R) b s=bmp L b s ++ R:=by
  unfold bmp
  rw [List.set_append_left _ _ h]
  simp [List.getD_eq_getElem?_getD,List.getElem?_append_left h]
theorem sums_len:∀ (ps:List PQ) (L:List Int),(sums L ps).length=L.length
  | [],L=>rfl
  | p :: ps,L=>by
    show (sums (bmp L p.2.toNat p.1) ps).length=_
    rw [sums_len ps,bmp_len]
theorem run_walk:∀ (ps:List PQ) (L:List Int),(walkB L.length (ps.map (·.2))=none→runF ps L=none)∧(∀ b,walkB L.length (ps.map (·.2))=some b→runF ps L=some (sums (L ++ List.replicate (b - L.length) 0) ps)∧L.length ≤ b∧∀ p ∈ ps,0 ≤ p.2∧p.2 < (b:Int))
  | [],L=>by
    refine ⟨fun h=>(by cases h),fun b h=>?_⟩
    cases h
    refine ⟨by simp [runF,sums],Nat.le_refl _,fun p hp=>by cases hp⟩
  | p :: ps,L=>by
    by_cases h:0 ≤ p.2∧p.2 ≤ (L.length:Int)
    · have hw:walkB L.length ((p :: ps).map (·.2))=walkB (max L.length (p.2.toNat + 1)) (ps.map (·.2)):=by
        simp only [List.map_cons,walkB]; rw [if_pos h]
      have hr:runF (p :: ps) L=runF ps (bmp (if p.2=(L.length:Int) then L ++ [0] else L) p.2.toNat p.1):=by
        simp only [runF]; rw [if_pos h]
      rw [hw,hr]
      obtain ⟨i1,i2⟩:=run_walk ps (bmp (if p.2=(L.length:Int) then L ++ [0] else L) p.2.toNat p.1)
      have hl:(bmp (if p.2=(L.length:Int) then L ++ [0] else L) p.2.toNat p.1).length=max L.length (p.2.toNat + 1):=by
        rw [bmp_len]
        by_cases e:p.2=(L.length:Int)
        · rw [if_pos e]; simp; omega
        · rw [if_neg e]; omega
      rw [hl] at i1 i2
      refine ⟨i1,fun b hb=>?_⟩
      obtain ⟨j1,j2,j3⟩:=i2 b hb
      refine ⟨?_,by omega,fun q hq=>?_⟩
      · rw [j1]
        congr 1
        show _=sums (bmp (L ++ List.replicate (b - L.length) 0) p.2.toNat p.1) ps
        congr 1
        by_cases e:p.2=(L.length:Int)
        · rw [if_pos e]
          have e1:b - L.length=(b - (L.length + 1)) + 1:=by omega
          have e2:max L.length (p.2.toNat + 1)=L.length + 1:=by omega
          rw [e1,List.replicate_succ,e2, ← bmp_app _ _ _ _ (by simp; omega)]
          simp
        · rw [if_neg e]
          have e2:max L.length (p.2.toNat + 1)=L.length:=by omega
          rw [e2, ← bmp_app _ _ _ _ (by omega)]
      · rcases List.mem_cons.mp hq with rfl | w
        · omega
        · exact j3 q w
    · have hw:walkB L.length ((p :: ps).map (·.2))=none:=by
        simp only [List.map_cons,walkB]; rw [if_neg h]
      have hr:runF (p :: ps) L=none:=by simp only [runF]; rw [if_neg h]
      rw [hw,hr]
      exact ⟨fun _=>rfl,fun b hb=>by cases hb⟩
def fillB (room:Int) (ss xs:List Int):Bool:=if xs.length=ss.length then (match walkB 0 xs with
  | none=>false
  | some b=>(sums (List.replicate b 0) (ss.zip xs)).all fun l=>decide (l ≤ room)) else false
theorem zip_q:∀ (ss xs:List Int),zipD (ss.map D.int) (xs.map D.int)=(ss.zip xs).map dQ
  | [],xs=>by cases xs <;> rfl
  | s :: ss,[]=>rfl
  | s :: ss,x :: xs=>by simp only [List.map_cons,zipD,List.zip_cons_cons]; rw [zip_q ss xs]; rfl
theorem zip_snd:∀ (ss xs:List Int),xs.length=ss.length→(ss.zip xs).map (·.2)=xs
  | [],[],_=>rfl
  | s :: ss,x :: xs,h=>by simp only [List.zip_cons_cons,List.map_cons]; rw [zip_snd ss xs (by simpa using h)]
  | [],_ :: _,h=>by simp at h
  | _ :: _,[],h=>by simp at h
theorem walk_le:∀ (xs:List Int) (b c:Nat),walkB b xs=some c→c ≤ b + xs.length
  | [],b,c,h=>by cases h; simp
  | x :: xs,b,c,h=>by
    simp only [walkB] at h
    split at h
    · rename_i hx
      have:=walk_le xs _ c h
      simp only [List.length_cons]
      omega
    · cases h
theorem comp_mapD {k:D→Th→Option Th} {fe:DE} {f:Int→D} {ext:Th} (hk:∀ (s:Sl) (x:Int),k (.int x) (s :: ext)=some (.val (.int x) :: ext)) (hf:∀ x:Int,fe (.val (.int x) :: ext)=some (.cl (f x))):∀ (xs:List Int) (s:Sl),compD k dTrue fe (xs.map D.int) (s :: ext)=some (xs.map f)
  | [],s=>rfl
  | x :: xs,s=>by
    simp only [List.map_cons,compD,hk,Option.bind_some,dTrue,hf,if_true]
    rw [comp_mapD hk hf xs]
    rfl
theorem flats_bls (g:Int→Bool):∀ xs:List Int,flats (xs.map fun x=>D.bl (g x))=true
  | []=>rfl
  | x :: xs=>by
    have:=flats_bls g xs
    simp [flats,flat,this]
theorem blsD_map (g:Int→Bool):∀ xs:List Int,blsD (xs.map fun x=>D.bl (g x))=some (xs.map g)
  | []=>rfl
  | x :: xs=>by
    have:=blsD_map g xs
    simp [blsD,this]
def lastB (room:Int) (L:List Int) (s:Int):List Int:=if L=[] ∨ room < L.getD (L.length - 1) 0 + s then L ++ [0] else L
def lastL (room:Int) (L:List Int) (s:Int):List Int:=bmp (lastB room L s) ((lastB room L s).length - 1) s
theorem lastB_pos (room:Int) (L:List Int) (s:Int):0 < (lastB room L s).length:=by
  unfold lastB
  split
  · simp
  · rename_i h
    cases L with
    | nil=>simp at h
    | cons x xs=>simp
theorem lastB_le (room:Int) (L:List Int) (s:Int):(lastB room L s).length ≤ L.length + 1:=by
  unfold lastB; split <;> simp
theorem lastL_len (room:Int) (L:List Int) (s:Int):(lastL room L s).length=(lastB room L s).length:=bmp_len _ _ _
def runL (room:Int):List Int→List Int→List Int→List Int × List Int
  | [],L,B=>(L,B)
  | s :: ss,L,B=>runL room ss (lastL room L s) (B ++ [((lastL room L s).length:Int) - 1])
def fitI (room s:Int) (L:List Int):Nat:=L.findIdx fun h=>decide (h + s ≤ room)
theorem fitI_le (room s:Int) (L:List Int):fitI room s L ≤ L.length:=List.findIdx_le_length
def firstB (room:Int) (L:List Int) (s:Int):List Int:=if fitI room s L=L.length then L ++ [0] else L
def firstL (room:Int) (L:List Int) (s:Int):List Int:=bmp (firstB room L s) (fitI room s L) s
theorem firstB_lt (room:Int) (L:List Int) (s:Int):fitI room s L < (firstB room L s).length:=by
  have:=fitI_le room s L
  unfold firstB; split
  · simp; omega
  · omega
theorem firstB_le (room:Int) (L:List Int) (s:Int):(firstB room L s).length ≤ L.length + 1:=by
  unfold firstB; split <;> simp
theorem firstL_len (room:Int) (L:List Int) (s:Int):(firstL room L s).length=(firstB room L s).length:=bmp_len _ _ _
def runG (room:Int):List Int→List Int→List Int→List Int × List Int
  | [],L,B=>(L,B)
  | s :: ss,L,B=>runG room ss (firstL room L s) (B ++ [(fitI room s L:Int)])
theorem ix_neg (n:Nat) (h:0 < n):ixN n (-1)=some (n - 1):=by
  unfold ixN
  rw [if_neg (by decide),if_pos (by omega)]
  congr 1
  omega
theorem neg1 (t:Th):(d1 kNeg (dC (.int 1))) t=some (.cl (.int (-1))):=rfl
theorem ixe_neg {fa:DE} {t:Th} {r1:Ev} (L:List Int) (ha:fa t=some r1) (h:0 < L.length) (h1:r1.d = .lst (L.map D.int)):(d2 kIx fa (d1 kNeg (dC (.int 1)))) t=some (.cl (.int (L.getD (L.length - 1) 0))):=by
  rw [d2_of ha (neg1 t)]
  unfold kIx
  rw [h1]
  show (atI (L.map D.int) (-1)).map _=_
  unfold atI
  rw [List.length_map,ix_neg _ h]
  simp only [Option.bind_some,get_map L (L.length - 1) (by omega)]
  simp [flat]
theorem augi_neg {t:Th} {f:Int→Int→Int} {fv:DE} {i:Nat} {L:List Int} {v:Int} (hv:fv t=some (.cl (.int v))) (hi:t[i]?=some (.own (L.map D.int))) (hb:0 < L.length):dAugI f i (d1 kNeg (dC (.int 1))) fv t=some (.nx (t.set i (.own ((L.set (L.length - 1) (f (L.getD (L.length - 1) 0) v)).map D.int)))):=by
  unfold dAugI
  rw [hv,neg1]
  show kAugI f t i (.cl (.int (-1))) (.cl (.int v))=_
  unfold kAugI
  rw [hi]
  show (ixN (L.map D.int).length (-1)).bind _=_
  rw [List.length_map,ix_neg _ hb]
  simp only [Option.bind_some,get_map L (L.length - 1) (by omega),List.map_set]
theorem getD_map (f:Int→Int) (L:List Int) (b:Nat) (h:b < L.length):(L.map f).getD b 0=f (L.getD b 0):=by
  simp [List.getD_eq_getElem?_getD,h]
def bodyLP:DS:=(dSeq (dIfS (dOr (dNot (dTr (dVar 2))) (dBo (d2 (kI tt2 fun i j => .bl (decide (i < j))) (d2 kIx (dVar 2) (d1 kNeg (dC (.int 1)))) (dVar 4)))) (dApp 2 (dVar 0)) dSkip)
    (dSeq (dAugI (fun i j=>i - j) 2 (d1 kNeg (dC (.int 1))) (dVar 4))
    (dApp 3 (d2 (kI tt2 fun i j => .int (i - j)) (dT1 kLen (dCons (dVar 2) dNil)) (dC (.int 1))))))
theorem turn_LP (s1:Sl) (room s:Int) (L B:List Int) (hl:L.length < 1000) (hB:B.length < 1000):bodyLP [.val (.int room),s1, .own ((L.map fun h=>room - h).map D.int), .own (B.map D.int), .val (.int s)]=some (.nx [.val (.int room),s1, .own (((lastL room L s).map fun h=>room - h).map D.int), .own ((B ++ [((lastL room L s).length:Int) - 1]).map D.int), .val (.int s)]):=by
  have c0:(dNot (dTr (dVar 2))) [.val (.int room),s1, .own ((L.map fun h=>room - h).map D.int), .own (B.map D.int), .val (.int s)]=some (decide (L=[])):=by
    cases L <;> rfl
  have b1:(dIfS (dOr (dNot (dTr (dVar 2))) (dBo (d2 (kI tt2 fun i j => .bl (decide (i < j))) (d2 kIx (dVar 2) (d1 kNeg (dC (.int 1)))) (dVar 4)))) (dApp 2 (dVar 0)) dSkip) [.val (.int room),s1, .own ((L.map fun h=>room - h).map D.int), .own (B.map D.int), .val (.int s)]=some (.nx [.val (.int room),s1, .own (((lastB room L s).map fun h=>room - h).map D.int), .own (B.map D.int), .val (.int s)]):=by
    have cc:=or_of c0 (g:=(dBo (d2 (kI tt2 fun i j => .bl (decide (i < j))) (d2 kIx (dVar 2) (d1 kNeg (dC (.int 1)))) (dVar 4)))) (b:=decide (room < L.getD (L.length - 1) 0 + s)) (fun h=>by
      have hne:L ≠ []:=of_decide_eq_false h
      have hp:0 < L.length:=List.length_pos_iff.mpr hne
      have e:=ixe_neg (fa:=dVar 2) (t:=[.val (.int room),s1, .own ((L.map fun h=>room - h).map D.int), .own (B.map D.int), .val (.int s)]) (r1 := .tm (.lst ((L.map fun h=>room - h).map D.int))) (L.map fun h=>room - h) rfl (by simpa using hp) rfl
      rw [List.length_map,getD_map _ _ _ (by omega)] at e
      rw [lt_of e (fb:=dVar 4) (b:=s) rfl]
      congr 1
      apply decide_eq_decide.mpr
      omega)
    unfold lastB
    by_cases h:L=[] ∨ room < L.getD (L.length - 1) 0 + s
    · rw [if_pos h]
      refine (ifs_t cc (by simpa using h)).trans ?_
      refine (app_map _ (p:=room) rfl rfl (by simp; omega)).trans ?_
      simp
    · rw [if_neg h]
      refine (grd cc ?_)
      cases hz:(decide (L=[]) || decide (room < L.getD (L.length - 1) 0 + s)) with
      | false=>rfl
      | true=>exact absurd (by simpa using hz) h
  have hp:=lastB_pos room L s
  have hle:=lastB_le room L s
  have e2:=augi_neg (f:=fun i j=>i - j) (t:=[.val (.int room),s1, .own (((lastB room L s).map fun h=>room - h).map D.int), .own (B.map D.int), .val (.int s)]) (fv:=dVar 4) (v:=s) (i:=2) (L:=(lastB room L s).map fun h=>room - h) rfl rfl (by simpa using hp)
  have eL:((lastB room L s).map fun h=>room - h).set (((lastB room L s).map fun h=>room - h).length - 1) (((lastB room L s).map fun h=>room - h).getD (((lastB room L s).map fun h=>room - h).length - 1) 0 - s)=(lastL room L s).map fun h=>room - h:=by
    unfold lastL bmp
    rw [List.length_map,getD_map _ _ _ (by omega),List.map_set]
    congr 1
    omega
  rw [eL] at e2
  unfold bodyLP
  refine (seq_nx b1).trans ?_
  refine (seq_nx e2).trans ?_
  have l1:=len_of (f:=dVar 2) (t:=[.val (.int room),s1, .own (((lastL room L s).map fun h=>room - h).map D.int), .own (B.map D.int), .val (.int s)]) (r := .tm (.lst (((lastL room L s).map fun h=>room - h).map D.int))) (xs:=(lastL room L s).map fun h=>room - h) rfl rfl
  rw [List.length_map] at l1
  exact app_map _ (sub_of l1 (fb:=dC (.int 1)) rfl) rfl (by omega)
theorem loop_LP (s1:Sl) (room:Int):∀ (ss L B:List Int) (s4:Sl),L.length + ss.length < 1000→B.length + ss.length < 1000→∃ u2 u4,forD (gkName 4) bodyLP (ss.map D.int) [.val (.int room),s1, .own ((L.map fun h=>room - h).map D.int), .own (B.map D.int),s4]=some (.nx [.val (.int room),s1,u2, .own ((runL room ss L B).2.map D.int),u4])
  | [],L,B,s4,_,_=>⟨_,s4,rfl⟩
  | s :: ss,L,B,s4,hL,hB=>by
    simp only [List.length_cons] at hL hB
    have hle:=lastB_le room L s
    have hln:=lastL_len room L s
    obtain ⟨u2,u4,e'⟩:=loop_LP s1 room ss (lastL room L s) (B ++ [((lastL room L s).length:Int) - 1]) (.val (.int s)) (by omega) (by simp; omega)
    refine ⟨u2,u4,?_⟩
    have e0:gkName 4 (.int s) [.val (.int room),s1, .own ((L.map fun h=>room - h).map D.int), .own (B.map D.int),s4]=some [.val (.int room),s1, .own ((L.map fun h=>room - h).map D.int), .own (B.map D.int), .val (.int s)]:=rfl
    have e1:=turn_LP s1 room s L B (by omega) (by omega)
    simp only [List.map_cons,forD,e0,Option.bind_some,e1]
    exact e'
theorem fill_last_is (room:Int) (ss:List Int) (h:ss.length < 900):G_fill_last [.int room, .lst (ss.map D.int)]=some (.nw ((runL room ss [] []).2.map D.int)):=by
  show (g_fill_last [.val (.int room), .val (.lst (ss.map D.int)), .no, .no, .no]).bind outEv=_
  obtain ⟨u2,u4,e⟩:=loop_LP (.val (.lst (ss.map D.int))) room ss [] [] .no (by simp; omega) (by simp; omega)
  have e:(dFor (gkName 4) (dVar 1) bodyLP) [.val (.int room), .val (.lst (ss.map D.int)), .own [], .own [], .no]=_:=e
  refine bnd ?_
  show dSeq (dFor (gkName 4) (dVar 1) bodyLP) (dRetO 3) [.val (.int room), .val (.lst (ss.map D.int)), .own [], .own [], .no]=_
  exact (seq_nx e).trans rfl
def ktR:D→Th→Option Th:=(gkTup 2 (gkCons (gkName 2) (gkCons (gkName 3) gkNil)))
def bodyR:DS:=(dIfS (dBo (d2 (kI tt2 fun i j => .bl (decide (j ≤ i))) (dVar 3) (dVar 1))) (dRetO 2) dSkip)
theorem loop_Rm (s0:Sl) (s:Int):∀ (M:List Int) (i:Nat) (s2 s3:Sl),(M.findIdx (fun x=>decide (s ≤ x)) < M.length→forD ktR bodyR (enumD i (M.map D.int)) [s0, .val (.int s),s2,s3]=some (.rt (.cl (.int ((i + M.findIdx (fun x=>decide (s ≤ x)):Nat):Int)))))∧(M.findIdx (fun x=>decide (s ≤ x))=M.length→∃ u2 u3,forD ktR bodyR (enumD i (M.map D.int)) [s0, .val (.int s),s2,s3]=some (.nx [s0, .val (.int s),u2,u3]))
  | [],i,s2,s3=>⟨fun h=>by simp at h,fun _=>⟨s2,s3,rfl⟩⟩
  | x :: M,i,s2,s3=>by
    have e0:ktR (.tup [.int (i:Int), .int x]) [s0, .val (.int s),s2,s3]=some [s0, .val (.int s), .val (.int (i:Int)), .val (.int x)]:=rfl
    have c:dBo (d2 (kI tt2 fun i j => .bl (decide (j ≤ i))) (dVar 3) (dVar 1)) [s0, .val (.int s), .val (.int (i:Int)), .val (.int x)]=some (decide (s ≤ x)):=rfl
    by_cases h:s ≤ x
    · have ef:(x :: M).findIdx (fun x=>decide (s ≤ x))=0:=by simp [List.findIdx_cons,h]
      rw [ef]
      have e1:bodyR [s0, .val (.int s), .val (.int (i:Int)), .val (.int x)]=some (.rt (.cl (.int (i:Int)))):=(ifs_t c (decide_eq_true h)).trans rfl
      refine ⟨fun _=>?_,fun h=>by simp at h⟩
      simp only [List.map_cons,enumD,forD,e0,Option.bind_some,e1,Nat.add_zero]
    · have ef:(x :: M).findIdx (fun x=>decide (s ≤ x))=M.findIdx (fun x=>decide (s ≤ x)) + 1:=by simp [List.findIdx_cons,h]
      rw [ef]
      have e1:bodyR [s0, .val (.int s), .val (.int (i:Int)), .val (.int x)]=some (.nx [s0, .val (.int s), .val (.int (i:Int)), .val (.int x)]):=grd c (decide_eq_false h)
      obtain ⟨i1,i2⟩:=loop_Rm s0 s M (i + 1) (.val (.int (i:Int))) (.val (.int x))
      have eq:forD ktR bodyR (enumD i ((x :: M).map D.int)) [s0, .val (.int s),s2,s3]=forD ktR bodyR (enumD (i + 1) (M.map D.int)) [s0, .val (.int s), .val (.int (i:Int)), .val (.int x)]:=by
        simp only [List.map_cons,enumD,forD,e0,Option.bind_some,e1]
      rw [eq]
      refine ⟨fun h=>?_,fun h=>i2 (by simpa using h)⟩
      rw [i1 (by simpa using h)]
      congr 5
      omega
theorem first_is (s:Int) (M:List Int):G_first_with_room [.lst (M.map D.int), .int s]=some (.cl (.int ((M.findIdx (fun x=>decide (s ≤ x)):Nat):Int))):=by
  show (g_first_with_room [.val (.lst (M.map D.int)), .val (.int s), .no, .no]).bind outEv=_
  refine bnd ?_
  obtain ⟨i1,i2⟩:=loop_Rm (.val (.lst (M.map D.int))) s M 0 .no .no
  have hle:M.findIdx (fun x=>decide (s ≤ x)) ≤ M.length:=List.findIdx_le_length
  show dSeq (dEnum ktR (dVar 0) bodyR) (dRet (dT1 kLen (dCons (dVar 0) dNil))) [.val (.lst (M.map D.int)), .val (.int s), .no, .no]=_
  by_cases h:M.findIdx (fun x=>decide (s ≤ x)) < M.length
  · have e:(dEnum ktR (dVar 0) bodyR) [.val (.lst (M.map D.int)), .val (.int s), .no, .no]=_:=i1 h
    rw [Nat.zero_add] at e
    exact seq_rt e
  · have h:M.findIdx (fun x=>decide (s ≤ x))=M.length:=by omega
    obtain ⟨u2,u3,e⟩:=i2 h
    have e:(dEnum ktR (dVar 0) bodyR) [.val (.lst (M.map D.int)), .val (.int s), .no, .no]=_:=e
    refine (seq_nx e).trans ?_
    unfold dRet
    rw [len_of (f:=dVar 0) (r := .cl (.lst (M.map D.int))) (xs:=M) rfl rfl,h]
    rfl
theorem find_map (room s:Int):∀ L:List Int,(L.map fun h=>room - h).findIdx (fun x=>decide (s ≤ x))=fitI room s L
  | []=>rfl
  | x :: L=>by
    have:=find_map room s L
    unfold fitI at this ⊢
    simp only [List.map_cons,List.findIdx_cons,this]
    have e:decide (s ≤ room - x)=decide (x + s ≤ room):=decide_eq_decide.mpr (by omega)
    rw [e]
def bodyFP:DS:=(dSeq (dAsg 5 (dT1 (kCall G_first_with_room) (dCons (dVar 2) (dCons (dVar 4) dNil))))
    (dSeq (dIfS (dBo (d2 kEq (dVar 5) (dT1 kLen (dCons (dVar 2) dNil)))) (dApp 2 (dVar 0)) dSkip)
    (dSeq (dAugI (fun i j=>i - j) 2 (dVar 5) (dVar 4))
    (dApp 3 (dVar 5)))))
theorem turn_FP (s1 s5:Sl) (room s:Int) (L B:List Int) (hl:L.length < 1000) (hB:B.length < 1000):bodyFP [.val (.int room),s1, .own ((L.map fun h=>room - h).map D.int), .own (B.map D.int), .val (.int s),s5]=some (.nx [.val (.int room),s1, .own (((firstL room L s).map fun h=>room - h).map D.int), .own ((B ++ [(fitI room s L:Int)]).map D.int), .val (.int s), .val (.int (fitI room s L:Int))]):=by
  have e1:(dT1 (kCall G_first_with_room) (dCons (dVar 2) (dCons (dVar 4) dNil))) [.val (.int room),s1, .own ((L.map fun h=>room - h).map D.int), .own (B.map D.int), .val (.int s),s5]=some (.cl (.int (fitI room s L:Int))):=by
    rw [t2_of (ra := .tm (.lst ((L.map fun h=>room - h).map D.int))) (rb := .cl (.int s)) rfl rfl, ← find_map room s L]
    exact callc (first_is s _) rfl
  have E1:=asg_cl (i:=5) e1 (by simp)
  have l1:=len_of (f:=dVar 2) (t:=[.val (.int room),s1, .own ((L.map fun h=>room - h).map D.int), .own (B.map D.int), .val (.int s), .val (.int (fitI room s L:Int))]) (r := .tm (.lst ((L.map fun h=>room - h).map D.int))) (xs:=L.map fun h=>room - h) rfl rfl
  rw [List.length_map] at l1
  have c2:=eqI_of (fa:=dVar 5) (a:=(fitI room s L:Int)) rfl l1
  have b2:(dIfS (dBo (d2 kEq (dVar 5) (dT1 kLen (dCons (dVar 2) dNil)))) (dApp 2 (dVar 0)) dSkip) [.val (.int room),s1, .own ((L.map fun h=>room - h).map D.int), .own (B.map D.int), .val (.int s), .val (.int (fitI room s L:Int))]=some (.nx [.val (.int room),s1, .own (((firstB room L s).map fun h=>room - h).map D.int), .own (B.map D.int), .val (.int s), .val (.int (fitI room s L:Int))]):=by
    unfold firstB
    by_cases h:fitI room s L=L.length
    · rw [if_pos h]
      refine (ifs_t c2 (decide_eq_true (by omega))).trans ?_
      refine (app_map _ (p:=room) rfl rfl (by simp; omega)).trans ?_
      simp
    · rw [if_neg h]
      exact grd c2 (decide_eq_false (by omega))
  have hlt:=firstB_lt room L s
  have e3:=augi_of (f:=fun i j=>i - j) (t:=[.val (.int room),s1, .own (((firstB room L s).map fun h=>room - h).map D.int), .own (B.map D.int), .val (.int s), .val (.int (fitI room s L:Int))]) (fk:=dVar 5) (fv:=dVar 4) (v:=s) (i:=2) (L:=(firstB room L s).map fun h=>room - h) (b:=fitI room s L) rfl rfl rfl (by simpa using hlt)
  have eL:((firstB room L s).map fun h=>room - h).set (fitI room s L) (((firstB room L s).map fun h=>room - h).getD (fitI room s L) 0 - s)=(firstL room L s).map fun h=>room - h:=by
    unfold firstL bmp
    rw [getD_map _ _ _ hlt,List.map_set]
    congr 1
    omega
  rw [eL] at e3
  unfold bodyFP
  refine (seq_nx E1).trans ?_
  refine (seq_nx b2).trans ?_
  refine (seq_nx e3).trans ?_
  exact app_map _ rfl rfl (by omega)
theorem loop_FP (s1:Sl) (room:Int):∀ (ss L B:List Int) (s4 s5:Sl),L.length + ss.length < 1000→B.length + ss.length < 1000→∃ u2 u4 u5,forD (gkName 4) bodyFP (ss.map D.int) [.val (.int room),s1, .own ((L.map fun h=>room - h).map D.int), .own (B.map D.int),s4,s5]=some (.nx [.val (.int room),s1,u2, .own ((runG room ss L B).2.map D.int),u4,u5])
  | [],L,B,s4,s5,_,_=>⟨_,s4,s5,rfl⟩
  | s :: ss,L,B,s4,s5,hL,hB=>by
    simp only [List.length_cons] at hL hB
    have hle:=firstB_le room L s
    have hln:=firstL_len room L s
    obtain ⟨u2,u4,u5,e'⟩:=loop_FP s1 room ss (firstL room L s) (B ++ [(fitI room s L:Int)]) (.val (.int s)) (.val (.int (fitI room s L:Int))) (by omega) (by simp; omega)
    refine ⟨u2,u4,u5,?_⟩
    have e0:gkName 4 (.int s) [.val (.int room),s1, .own ((L.map fun h=>room - h).map D.int), .own (B.map D.int),s4,s5]=some [.val (.int room),s1, .own ((L.map fun h=>room - h).map D.int), .own (B.map D.int), .val (.int s),s5]:=rfl
    have e1:=turn_FP s1 s5 room s L B (by omega) (by omega)
    simp only [List.map_cons,forD,e0,Option.bind_some,e1]
    exact e'
theorem fill_first_is (room:Int) (ss:List Int) (h:ss.length < 900):G_fill_first [.int room, .lst (ss.map D.int)]=some (.nw ((runG room ss [] []).2.map D.int)):=by
  show (g_fill_first [.val (.int room), .val (.lst (ss.map D.int)), .no, .no, .no, .no]).bind outEv=_
  obtain ⟨u2,u4,u5,e⟩:=loop_FP (.val (.lst (ss.map D.int))) room ss [] [] .no .no (by simp; omega) (by simp; omega)
  have e:(dFor (gkName 4) (dVar 1) bodyFP) [.val (.int room), .val (.lst (ss.map D.int)), .own [], .own [], .no, .no]=_:=e
  refine bnd ?_
  show dSeq (dFor (gkName 4) (dVar 1) bodyFP) (dRetO 3) [.val (.int room), .val (.lst (ss.map D.int)), .own [], .own [], .no, .no]=_
  exact (seq_nx e).trans rfl
def ktF:D→Th→Option Th:=(gkTup 2 (gkCons (gkName 4) (gkCons (gkName 5) gkNil)))
def bodyF:DS:=(dSeq (dIfS (dNot (dCh (kI tt2 fun i j => .bl (decide (i ≤ j))) (kI tt2 fun i j => .bl (decide (i ≤ j))) (dC (.int 0)) (dVar 5) (dT1 kLen (dCons (dVar 3) dNil)))) (dRet (dC (.bl false))) dSkip)
    (dSeq (dIfS (dBo (d2 kEq (dVar 5) (dT1 kLen (dCons (dVar 3) dNil)))) (dApp 3 (dC (.int 0))) dSkip)
    (dAugI (fun i j=>i + j) 3 (dVar 5) (dVar 4))))
theorem ch_of {fa fb fc:DE} {t:Th} {a b c:Int} (h1:fa t=some (.cl (.int a))) (h2:fb t=some (.cl (.int b))) (h3:fc t=some (.cl (.int c))):dCh (kI tt2 fun i j => .bl (decide (i ≤ j))) (kI tt2 fun i j => .bl (decide (i ≤ j))) fa fb fc t=some (decide (a ≤ b∧b ≤ c)):=by
  unfold dCh
  rw [h1,h2,h3]
  show (match D.bl (decide (a ≤ b)) with
    | .bl true=>_
    | .bl false=>some false
    | _=>none)=_
  by_cases h:a ≤ b
  · rw [decide_eq_true h]
    simp [h,kI,tt2,Ev.d]
  · rw [decide_eq_false h]
    simp [h]
theorem turn_F (s0 s1 s2:Sl) (L:List Int) (p:PQ) (hl:L.length < 1000) :
    bodyF [s0,s1,s2, .own (L.map D.int), .val (.int p.1), .val (.int p.2)]=if 0 ≤ p.2∧p.2 ≤ (L.length:Int) then some (.nx [s0,s1,s2, .own ((bmp (if p.2=(L.length:Int) then L ++ [0] else L) p.2.toNat p.1).map D.int), .val (.int p.1), .val (.int p.2)]) else some (.rt (.cl (.bl false))):=by
  have c1:(dNot (dCh (kI tt2 fun i j => .bl (decide (i ≤ j))) (kI tt2 fun i j => .bl (decide (i ≤ j))) (dC (.int 0)) (dVar 5) (dT1 kLen (dCons (dVar 3) dNil)))) [s0,s1,s2, .own (L.map D.int), .val (.int p.1), .val (.int p.2)]=some (!decide (0 ≤ p.2∧p.2 ≤ (L.length:Int))):=by
    unfold dNot
    rw [ch_of (a:=0) (b:=p.2) rfl rfl (len_of (r := .tm (.lst (L.map D.int))) (xs:=L) rfl rfl)]
    rfl
  unfold bodyF
  by_cases h:0 ≤ p.2∧p.2 ≤ (L.length:Int)
  · rw [if_pos h]
    refine (seq_nx ((ifs_f c1 (by rw [decide_eq_true h]; rfl)).trans rfl)).trans ?_
    have c2:=eqI_of (fa:=dVar 5) (a:=p.2) (t:=[s0,s1,s2, .own (L.map D.int), .val (.int p.1), .val (.int p.2)]) rfl (len_of (f:=dVar 3) (r := .tm (.lst (L.map D.int))) (xs:=L) rfl rfl)
    have b1:(dIfS (dBo (d2 kEq (dVar 5) (dT1 kLen (dCons (dVar 3) dNil)))) (dApp 3 (dC (.int 0))) dSkip) [s0,s1,s2, .own (L.map D.int), .val (.int p.1), .val (.int p.2)]=some (.nx [s0,s1,s2, .own ((if p.2=(L.length:Int) then L ++ [0] else L).map D.int), .val (.int p.1), .val (.int p.2)]):=by
      by_cases e:p.2=(L.length:Int)
      · rw [if_pos e]
        exact (ifs_t c2 (decide_eq_true e)).trans (app_map _ rfl rfl (by omega))
      · rw [if_neg e]
        exact (ifs_f c2 (decide_eq_false e)).trans rfl
    refine (seq_nx b1).trans ?_
    have hb:p.2.toNat < (if p.2=(L.length:Int) then L ++ [0] else L).length:=by
      split
      · simp; omega
      · omega
    refine (augi_of (b:=p.2.toNat) (v:=p.1) (by show some (Ev.cl (.int p.2))=_; rw [Int.toNat_of_nonneg h.1]) rfl rfl hb).trans ?_
    rfl
  · rw [if_neg h]
    unfold dSeq
    rw [ifs_t c1 (by rw [decide_eq_false h]; rfl)]
    rfl
theorem loop_F (s0 s1 s2:Sl):∀ (ps:List PQ) (L:List Int) (s4 s5:Sl),L.length + ps.length < 1000→(∀ L',runF ps L=some L'→∃ u4 u5,forD ktF bodyF (ps.map dQ) [s0,s1,s2, .own (L.map D.int),s4,s5]=some (.nx [s0,s1,s2, .own (L'.map D.int),u4,u5]))∧(runF ps L=none→forD ktF bodyF (ps.map dQ) [s0,s1,s2, .own (L.map D.int),s4,s5]=some (.rt (.cl (.bl false))))
  | [],L,s4,s5,_=>⟨fun L' h=>by cases h; exact ⟨s4,s5,rfl⟩,fun h=>by cases h⟩
  | p :: ps,L,s4,s5,hl=>by
    simp only [List.length_cons] at hl
    have e0:ktF (dQ p) [s0,s1,s2, .own (L.map D.int),s4,s5]=some [s0,s1,s2, .own (L.map D.int), .val (.int p.1), .val (.int p.2)]:=rfl
    have e1:=turn_F s0 s1 s2 L p (by omega)
    by_cases h:0 ≤ p.2∧p.2 ≤ (L.length:Int)
    · rw [if_pos h] at e1
      have hr:runF (p :: ps) L=runF ps (bmp (if p.2=(L.length:Int) then L ++ [0] else L) p.2.toNat p.1):=by
        simp only [runF]; rw [if_pos h]
      have hln:(bmp (if p.2=(L.length:Int) then L ++ [0] else L) p.2.toNat p.1).length ≤ L.length + 1:=by
        rw [bmp_len]; split <;> simp
      obtain ⟨i1,i2⟩:=loop_F s0 s1 s2 ps (bmp (if p.2=(L.length:Int) then L ++ [0] else L) p.2.toNat p.1) (.val (.int p.1)) (.val (.int p.2)) (by omega)
      have ef:forD ktF bodyF ((p :: ps).map dQ) [s0,s1,s2, .own (L.map D.int),s4,s5]=forD ktF bodyF (ps.map dQ) [s0,s1,s2, .own ((bmp (if p.2=(L.length:Int) then L ++ [0] else L) p.2.toNat p.1).map D.int), .val (.int p.1), .val (.int p.2)]:=by
        simp only [List.map_cons,forD,e0,Option.bind_some,e1]
      rw [hr,ef]
      exact ⟨i1,i2⟩
    · rw [if_neg h] at e1
      have hr:runF (p :: ps) L=none:=by simp only [runF]; rw [if_neg h]
      have ef:forD ktF bodyF ((p :: ps).map dQ) [s0,s1,s2, .own (L.map D.int),s4,s5]=some (.rt (.cl (.bl false))):=by
        simp only [List.map_cons,forD,e0,Option.bind_some,e1]
      rw [hr,ef]
      exact ⟨fun L' h=>(by cases h),fun _=>rfl⟩
theorem ret_F (s1 s2 s4 s5:Sl) (room:Int) (L:List Int) (hl:L.length ≤ 50000):(dRet (dT1 (kBls fun bs=>bs.all id) (dCons (dComp 1 [0] (fsL (dVar 3)) (gkName 0) dTrue (d2 (kI tt2 fun i j => .bl (decide (i ≤ j))) (dVar 0) (dVar 1))) dNil))) [.val (.int room),s1,s2, .own (L.map D.int),s4,s5]=some (.rt (.cl (.bl (L.all fun l=>decide (l ≤ room))))):=by
  have e:(dComp 1 [0] (fsL (dVar 3)) (gkName 0) dTrue (d2 (kI tt2 fun i j => .bl (decide (i ≤ j))) (dVar 0) (dVar 1))) [.val (.int room),s1,s2, .own (L.map D.int),s4,s5]=some (.nw (L.map fun x=>D.bl (decide (x ≤ room)))):=by
    unfold dComp
    show (if (L.map D.int).length ≤ 50000 then (compD (gkName 0) dTrue (d2 (kI tt2 fun i j => .bl (decide (i ≤ j))) (dVar 0) (dVar 1)) (L.map D.int) [Sl.no, .val (.int room)]).bind (fun ys=>if (false && true) || flats ys then some (Ev.nw ys) else none) else none)=_
    rw [if_pos (by simpa using hl),comp_mapD (ext:=[.val (.int room)]) (f:=fun x=>D.bl (decide (x ≤ room))) (fun _ _=>rfl) (fun x=>rfl)]
    simp only [Option.bind_some,flats_bls,Bool.or_true,if_true]
  unfold dRet
  rw [t1_of e]
  unfold kBls
  show ((blsD (L.map fun x=>D.bl (decide (x ≤ room)))).map _).bind _=_
  rw [blsD_map]
  simp [List.all_map,Function.comp_def]
theorem filling_is (room:Int) (ss xs:List Int) (h1:ss.length ≤ 300) (h2:xs.length ≤ 300):G_is_filling [.int room, .lst (ss.map D.int), .lst (xs.map D.int)]=some (.cl (.bl (fillB room ss xs))):=by
  show (g_is_filling [.val (.int room), .val (.lst (ss.map D.int)), .val (.lst (xs.map D.int)), .no, .no, .no]).bind outEv=_
  have c1:=neI_of (len_of (f:=dVar 2) (t:=[.val (.int room), .val (.lst (ss.map D.int)), .val (.lst (xs.map D.int)), .no, .no, .no]) (r := .cl (.lst (xs.map D.int))) (xs:=xs) rfl rfl) (len_of (f:=dVar 1) (r := .cl (.lst (ss.map D.int))) (xs:=ss) rfl rfl)
  unfold fillB
  by_cases hq:xs.length=ss.length
  · rw [if_pos hq]
    have hq':(xs.length:Int)=(ss.length:Int):=by omega
    unfold g_is_filling
    refine (congrArg (fun z=>z.bind outEv) (seq_nx (grd c1 (by rw [decide_eq_true hq']; rfl)))).trans ?_
    have e2:(dAsg 3 (dT1 kLst dNil)) [.val (.int room), .val (.lst (ss.map D.int)), .val (.lst (xs.map D.int)), .no, .no, .no]=some (.nx [.val (.int room), .val (.lst (ss.map D.int)), .val (.lst (xs.map D.int)), .own (([]:List Int).map D.int), .no, .no]):=rfl
    refine (congrArg (fun z=>z.bind outEv) (seq_nx e2)).trans ?_
    obtain ⟨i1,i2⟩:=loop_F (.val (.int room)) (.val (.lst (ss.map D.int))) (.val (.lst (xs.map D.int))) (ss.zip xs) [] .no .no (by simp; omega)
    obtain ⟨w1,w2⟩:=run_walk (ss.zip xs) []
    rw [zip_snd ss xs hq] at w1 w2
    have ez:(dZip ktF (dVar 1) (dVar 2) bodyF) [.val (.int room), .val (.lst (ss.map D.int)), .val (.lst (xs.map D.int)), .own (([]:List Int).map D.int), .no, .no]=forD ktF bodyF ((ss.zip xs).map dQ) [.val (.int room), .val (.lst (ss.map D.int)), .val (.lst (xs.map D.int)), .own (([]:List Int).map D.int), .no, .no]:=by
      show forD ktF bodyF (zipD (ss.map D.int) (xs.map D.int)) _=_
      rw [zip_q]
    cases hw:walkB 0 xs with
    | none =>
      have e3:=ez.trans (i2 (w1 hw))
      exact bnd (seq_rt e3)
    | some b =>
      obtain ⟨v1,v2,v3⟩:=w2 b hw
      obtain ⟨u4,u5,e3⟩:=i1 _ v1
      refine (congrArg (fun z=>z.bind outEv) (seq_nx (ez.trans e3))).trans ?_
      have hb:=walk_le xs 0 b hw
      have hsl:(sums ([] ++ List.replicate (b - ([]:List Int).length) 0) (ss.zip xs)).length ≤ 50000:=by rw [sums_len]; simp; omega
      refine (congrArg (fun z=>z.bind outEv) (ret_F _ _ _ _ room _ hsl)).trans ?_
      simp [outEv]
  · rw [if_neg hq]
    have hq' : ¬ (xs.length:Int)=(ss.length:Int):=by omega
    unfold g_is_filling
    exact bnd (seq_rt (grd_t c1 (by rw [decide_eq_false hq']; rfl)))
abbrev Rule:=List Int→Int→Nat
def stepR (r:Rule) (L:List Int) (s:Int):List Int:=bmp (if r L s=L.length then L ++ [0] else L) (r L s) s
def bxR (r:Rule):List Int→List Int→List Int
  | _,[]=>[]
  | L,s :: ss=>(r L s:Int) :: bxR r (stepR r L s) ss
def finR (r:Rule):List Int→List Int→List Int
  | L,[]=>L
  | L,s :: ss=>finR r (stepR r L s) ss
structure Good (room:Int) (r:Rule):Prop where
  le:∀ L s,r L s ≤ L.length
  fit:∀ L s,r L s < L.length→L.getD (r L s) 0 + s ≤ room
  full:∀ L s,r L s=L.length→L ≠ []→room < L.getD (L.length - 1) 0 + s
def rLast (room:Int):Rule:=fun L s=>if L=[] ∨ room < L.getD (L.length - 1) 0 + s then L.length else L.length - 1
theorem rLast_good (room:Int):Good room (rLast room) where
  le:=fun L s=>by unfold rLast; split <;> omega
  fit:=fun L s h=>by
    unfold rLast at h ⊢
    split at h
    · omega
    · rename_i hc
      rw [if_neg hc]
      have : ¬ room < L.getD (L.length - 1) 0 + s:=fun q=>hc (.inr q)
      omega
  full:=fun L s h hne=>by
    unfold rLast at h
    split at h
    · rename_i hc
      rcases hc with hc | hc
      · exact absurd hc hne
      · exact hc
    · have:=List.length_pos_iff.mpr hne
      omega
theorem lastL_step (room:Int) (L:List Int) (s:Int):lastL room L s=stepR (rLast room) L s∧((lastL room L s).length:Int) - 1=(rLast room L s:Int):=by
  have h1:=lastL_len room L s
  unfold lastL stepR lastB rLast at *
  by_cases hc:L=[] ∨ room < L.getD (L.length - 1) 0 + s
  · simp only [if_pos hc,if_true] at h1 ⊢
    refine ⟨by simp,by rw [h1]; simp⟩
  · simp only [if_neg hc] at h1 ⊢
    have hp:0 < L.length:=List.length_pos_iff.mpr fun z=>hc (.inl z)
    rw [if_neg (by omega)]
    refine ⟨rfl,by rw [h1]; omega⟩
theorem runL_eq (room:Int):∀ (ss L B:List Int),(runL room ss L B).2=B ++ bxR (rLast room) L ss
  | [],L,B=>by simp [runL,bxR]
  | s :: ss,L,B=>by
    obtain ⟨h1,h2⟩:=lastL_step room L s
    simp only [runL,bxR]
    rw [runL_eq room ss,h2,h1]
    simp
theorem fit_good (room:Int):Good room (fun L s=>fitI room s L) where
  le:=fun L s=>fitI_le room s L
  fit:=fun L s h=>by
    have hq:L.findIdx (fun h=>decide (h + s ≤ room)) < L.length:=h
    have:=List.findIdx_getElem (w:=hq)
    have e:L[L.findIdx (fun h=>decide (h + s ≤ room))]'hq=L.getD (fitI room s L) 0:=by
      show _=L.getD (L.findIdx _) 0
      simp [List.getD_eq_getElem?_getD,hq]
    rw [e] at this
    exact of_decide_eq_true this
  full:=fun L s h hne=>by
    have hp:=List.length_pos_iff.mpr hne
    have:=List.not_of_lt_findIdx (p:=fun h=>decide (h + s ≤ room)) (xs:=L) (i:=L.length - 1) (by show _ < fitI room s L; omega)
    simp only [List.getD_eq_getElem?_getD,List.getElem?_eq_getElem (show L.length - 1 < L.length by omega),Option.getD_some]
    simpa using this
theorem runG_eq (room:Int):∀ (ss L B:List Int),(runG room ss L B).2=B ++ bxR (fun L s=>fitI room s L) L ss
  | [],L,B=>by simp [runG,bxR]
  | s :: ss,L,B=>by
    simp only [runG,bxR]
    rw [runG_eq room ss]
    have:firstL room L s=stepR (fun L s=>fitI room s L) L s:=rfl
    rw [this]
    simp
theorem bx_len (r:Rule):∀ (ss L:List Int),(bxR r L ss).length=ss.length
  | [],L=>rfl
  | s :: ss,L=>by simp [bxR,bx_len r ss]
theorem step_len {room:Int} {r:Rule} (g:Good room r) (L:List Int) (s:Int):(stepR r L s).length=if r L s=L.length then L.length + 1 else L.length:=by
  unfold stepR
  rw [bmp_len]
  split <;> simp
theorem run_rule {room:Int} {r:Rule} (g:Good room r):∀ (ss L:List Int),runF (ss.zip (bxR r L ss)) L=some (finR r L ss)
  | [],L=>rfl
  | s :: ss,L=>by
    have h:=g.le L s
    simp only [bxR,List.zip_cons_cons,runF,finR]
    rw [if_pos ⟨by omega,by omega⟩, ← run_rule g ss (stepR r L s)]
    congr 1
    unfold stepR
    simp only [Int.toNat_natCast,Int.natCast_inj]
structure Inv1 (room:Int) (L:List Int):Prop where
  lo:∀ l ∈ L,1 ≤ l
  hi:∀ l ∈ L,l ≤ room
  adj:∀ k,k + 1 < L.length→room < L.getD k 0 + L.getD (k + 1) 0
theorem getD_set (L:List Int) (b k:Nat) (v:Int):(L.set b v).getD k 0=if b=k∧k < L.length then v else L.getD k 0:=by
  simp only [List.getD_eq_getElem?_getD,List.getElem?_set]
  by_cases h:b=k
  · subst h
    by_cases h2:b < L.length
    · simp [h2]
    · simp [h2,List.getElem?_eq_none (by omega:L.length ≤ b)]
  · simp [h]
theorem mem_getD' {L:List Int} {x:Int} (h:x ∈ L):∃ k,k < L.length∧L.getD k 0=x:=by
  obtain ⟨k,hk,e⟩:=List.getElem_of_mem h
  exact ⟨k,hk,by simp [List.getD_eq_getElem?_getD,hk,e]⟩
theorem getD_mem' {L:List Int} {k:Nat} (h:k < L.length):L.getD k 0 ∈ L:=by
  simp only [List.getD_eq_getElem?_getD,List.getElem?_eq_getElem h,Option.getD_some]
  exact List.getElem_mem h
theorem getD_app0 (L:List Int) (k:Nat):(L ++ [0]).getD k 0=L.getD k 0:=by
  simp only [List.getD_eq_getElem?_getD]
  by_cases h:k < L.length
  · rw [List.getElem?_append_left h]
  · rw [List.getElem?_append_right (by omega),List.getElem?_eq_none (by omega:L.length ≤ k)]
    by_cases h2:k - L.length=0
    · rw [h2]; rfl
    · rw [List.getElem?_eq_none (by simp; omega)]
theorem step_getD {room:Int} {r:Rule} (g:Good room r) (L:List Int) (s:Int) (k:Nat):(stepR r L s).getD k 0=L.getD k 0 + (if r L s=k then s else 0):=by
  have hle:=g.le L s
  unfold stepR bmp
  rw [getD_set]
  by_cases h:r L s=L.length
  · rw [if_pos h,getD_app0,getD_app0]
    by_cases hk:r L s=k
    · rw [if_pos ⟨hk,by simp; omega⟩,if_pos hk,hk]
    · rw [if_neg (fun z=>hk z.1),if_neg hk]; omega
  · rw [if_neg h]
    by_cases hk:r L s=k
    · rw [if_pos ⟨hk,by omega⟩,if_pos hk,hk]
    · rw [if_neg (fun z=>hk z.1),if_neg hk]; omega
theorem inv_step {room:Int} {r:Rule} (g:Good room r) {L:List Int} {s:Int} (I:Inv1 room L) (h1:1 ≤ s) (h2:s ≤ room):Inv1 room (stepR r L s):=by
  have hl:=step_len g L s
  have hg:=step_getD g L s
  have hle:=g.le L s
  have bound:∀ k,k < (stepR r L s).length→1 ≤ (stepR r L s).getD k 0∧(stepR r L s).getD k 0 ≤ room:=fun k hk=>by
    rw [hg k]
    by_cases h:k < L.length
    · have a:=I.lo _ (getD_mem' h)
      have b:=I.hi _ (getD_mem' h)
      by_cases e:r L s=k
      · have:=g.fit L s (by omega)
        rw [e] at this
        rw [if_pos e]; omega
      · rw [if_neg e]; omega
    · have e0:L.getD k 0=0:=by simp [List.getD_eq_getElem?_getD,List.getElem?_eq_none (by omega:L.length ≤ k)]
      rw [hl] at hk
      split at hk
      · rename_i e
        rw [if_pos (by omega),e0]; omega
      · omega
  refine ⟨fun l hl'=>?_,fun l hl'=>?_,fun k hk=>?_⟩
  · obtain ⟨k,hk,rfl⟩:=mem_getD' hl'
    exact (bound k hk).1
  · obtain ⟨k,hk,rfl⟩:=mem_getD' hl'
    exact (bound k hk).2
  · rw [hg k,hg (k + 1)]
    by_cases h:k + 1 < L.length
    · have:=I.adj k h
      split <;> split <;> omega
    · rw [hl] at hk
      split at hk
      · rename_i e
        have ek:k + 1=L.length:=by omega
        have hne:L ≠ []:=List.length_pos_iff.mp (by omega)
        have:=g.full L s e hne
        have e2:L.length - 1=k:=by omega
        rw [e2] at this
        have e0:L.getD (k + 1) 0=0:=by simp [List.getD_eq_getElem?_getD,List.getElem?_eq_none (by omega:L.length ≤ k + 1)]
        rw [if_neg (by omega),if_pos (by omega),e0]
        omega
      · omega
theorem inv_fin {room:Int} {r:Rule} (g:Good room r):∀ {ss L:List Int},Inv1 room L→(∀ s ∈ ss,1 ≤ s∧s ≤ room)→Inv1 room (finR r L ss)
  | [],L,I,_=>I
  | s :: ss,L,I,h=>inv_fin g (ss:=ss) (L:=stepR r L s) (inv_step g I (h s (by simp)).1 (h s (by simp)).2) fun x hx=>h x (List.mem_cons_of_mem _ hx)
theorem inv_nil (room:Int):Inv1 room []:=⟨fun l h=>(by cases h),fun l h=>(by cases h),fun k h=>(by simp at h)⟩
theorem lt_of_mul_lt {a b c:Int} (h:a * c < b * c) (hc:0 < c):a < b:=by
  apply Int.not_le.mp
  intro z
  have:=Int.mul_le_mul_of_nonneg_right z (Int.le_of_lt hc)
  omega
theorem sums_rule {room:Int} {r:Rule} (g:Good room r) (ss:List Int):walkB 0 (bxR r [] ss)=some (finR r [] ss).length∧sums (List.replicate (finR r [] ss).length 0) (ss.zip (bxR r [] ss))=finR r [] ss:=by
  have h:=run_rule g ss []
  obtain ⟨w1,w2⟩:=run_walk (ss.zip (bxR r [] ss)) []
  rw [zip_snd ss _ (bx_len r ss [])] at w1 w2
  cases hw:walkB 0 (bxR r [] ss) with
  | none=>rw [w1 hw] at h; cases h
  | some b =>
    obtain ⟨v1,v2,v3⟩:=w2 b hw
    rw [v1] at h
    have h:sums ([] ++ List.replicate (b - ([]:List Int).length) 0) (ss.zip (bxR r [] ss))=finR r [] ss:=Option.some.inj h
    have hb:b=(finR r [] ss).length:=by rw [← h,sums_len]; simp
    refine ⟨by rw [hb],?_⟩
    rw [← hb]
    simpa using h
theorem fewest_is (room:Int) (hr:0 < room) (h2:room ≤ 1000000000000) (ss:List Int):G_fewest [.int room, .lst (ss.map D.int)]=some (.cl (.int ((ss.sum + room - 1).fdiv room))):=by
  show (g_fewest [.val (.int room), .val (.lst (ss.map D.int))]).bind outEv=_
  refine bnd ?_
  have e1:(dT1 kSum (dCons (dVar 1) dNil)) [.val (.int room), .val (.lst (ss.map D.int))]=some (.cl (.int ss.sum)):=by
    rw [t1_of (ra := .cl (.lst (ss.map D.int))) rfl]
    show (intsD (ss.map D.int)).map _=_
    rw [intsD_map]
    rfl
  unfold g_fewest dRet
  rw [div_of (sub_of (add_of e1 (fb:=dVar 0) (b:=room) rfl) (fb:=dC (.int 1)) rfl) (fb:=dVar 0) (b:=room) rfl (by omega) (sm_of (by omega) (by omega))]
  rfl
theorem least_ok {S room:Int} (hr:0 < room):((S + room - 1).fdiv room - 1) * room < S∧S ≤ (S + room - 1).fdiv room * room:=by
  have h1:=Int.fmod_add_mul_fdiv (S + room - 1) room
  have h2:0 ≤ (S + room - 1).fmod room:=Int.fmod_nonneg_of_pos _ hr
  have h3:(S + room - 1).fmod room < room:=Int.fmod_lt_of_pos _ hr
  generalize (S + room - 1).fdiv room=q at *
  generalize (S + room - 1).fmod room=m at *
  have e1:(q - 1) * room=room * q - room:=by rw [Int.sub_mul,Int.one_mul,Int.mul_comm]
  have e2:q * room=room * q:=Int.mul_comm _ _
  rw [e1,e2]
  omega
theorem sum_bnd:∀ {ss:List Int} {room:Int},(∀ s ∈ ss,1 ≤ s∧s ≤ room)→0 ≤ ss.sum∧ss.sum ≤ (ss.length:Int) * room
  | [],room,_=>by simp
  | s :: ss,room,h=>by
    have h1:=sum_bnd (ss:=ss) fun x hx=>h x (List.mem_cons_of_mem _ hx)
    have h2:=h s (by simp)
    simp only [List.sum_cons,List.length_cons]
    push_cast
    rw [Int.add_mul,Int.one_mul]
    omega
theorem sums_lds:∀ (ps:List PQ) (L:List Int),sums L ps=(ps.map fun p=>(p.1,p.2.toNat)).foldl bump L
  | [],L=>rfl
  | p :: ps,L=>sums_lds ps (bmp L p.2.toNat p.1)
theorem zip_nat:∀ (ss xs:List Int),(ss.zip xs).map (fun p=>(p.1,p.2.toNat))=ss.zip (xs.map Int.toNat)
  | [],_=>by simp
  | _ :: _,[]=>by simp
  | s :: ss,x :: xs=>by simp only [List.zip_cons_cons,List.map_cons,zip_nat ss xs]
theorem sums_as (k:Nat) (ss xs:List Int):sums (List.replicate k 0) (ss.zip xs)=lds k (ss.zip (xs.map Int.toNat)):=by
  rw [sums_lds,zip_nat]; rfl
theorem walk_top:∀ (xs:List Int) (b c:Nat),walkB b xs=some c→(∀ x ∈ xs,0 ≤ x∧x < (c:Int))∧b ≤ c∧(c=b ∨ ∃ x ∈ xs,x + 1=(c:Int))
  | [],b,c,h=>by
    simp only [walkB,Option.some.injEq] at h
    exact ⟨fun x hx=>(by cases hx),by omega, .inl h.symm⟩
  | x :: xs,b,c,h=>by
    unfold walkB at h
    split at h
    case isFalse=>cases h
    rename_i hx
    obtain ⟨h1,h2,h3⟩:=walk_top xs _ c h
    refine ⟨fun y hy=>?_,by omega,?_⟩
    · rcases List.mem_cons.mp hy with rfl | w
      · omega
      · exact h1 y w
    · rcases h3 with e | ⟨y,hy,e⟩
      · by_cases z:x.toNat + 1 ≤ b
        · exact .inl (by omega)
        · exact .inr ⟨x,List.mem_cons_self ..,by omega⟩
      · exact .inr ⟨y,List.mem_cons_of_mem _ hy,e⟩
theorem top_walk {xs:List Int} {c:Nat} (h:walkB 0 xs=some c) (hn:0 < xs.length):topI xs + 1=(c:Int):=by
  obtain ⟨h1,_,h3⟩:=walk_top xs 0 c h
  have m:=topI_mem hn
  have a:=h1 _ m
  rcases h3 with e | ⟨y,hy,e⟩
  · omega
  · have:=topI_ge hy; omega
theorem dd_mem:∀ (l acc:List Int) (x:Int),x ∈ l.foldl step_dedup acc ↔ x ∈ acc ∨ x ∈ l
  | [],acc,x=>by simp
  | y :: l,acc,x=>by
    rw [List.foldl_cons,dd_mem l]
    unfold step_dedup
    by_cases c:acc.any (· == y)=true
    · rw [if_pos c]
      have hy:y ∈ acc:=by simpa using c
      constructor
      · rintro (a | a)
        · exact .inl a
        · exact .inr (List.mem_cons_of_mem _ a)
      · rintro (a | a)
        · exact .inl a
        · rcases List.mem_cons.mp a with rfl | a
          · exact .inl hy
          · exact .inr a
    · rw [if_neg c]
      simp only [List.mem_append,List.mem_cons,List.not_mem_nil,or_false]
      constructor
      · rintro ((a | a) | a)
        · exact .inl a
        · exact .inr (.inl a)
        · exact .inr (.inr a)
      · rintro (a | a | a)
        · exact .inl (.inl a)
        · exact .inl (.inr a)
        · exact .inr a
theorem dd_pre:∀ (l acc:List Int), ∃ t,l.foldl step_dedup acc=acc ++ t
  | [],acc=>⟨[],by simp⟩
  | y :: l,acc=>by
    rw [List.foldl_cons]
    by_cases c:acc.any (· == y)=true
    · rw [show step_dedup acc y=acc by unfold step_dedup; rw [if_pos c]]
      exact dd_pre l acc
    · rw [show step_dedup acc y=acc ++ [y] by unfold step_dedup; rw [if_neg c]]
      obtain ⟨t,e⟩:=dd_pre l (acc ++ [y])
      exact ⟨y :: t,by rw [e]; simp⟩
theorem walk_dd:∀ (l acc:List Int),walkB acc.length (l.map fun b=>(((l.foldl step_dedup acc).idxOf b:Nat):Int))=some (l.foldl step_dedup acc).length
  | [],acc=>by simp [walkB]
  | y :: l,acc=>by
    rw [List.map_cons,List.foldl_cons]
    by_cases c:acc.any (· == y)=true
    · have hy:y ∈ acc:=by simpa using c
      have es:step_dedup acc y=acc:=by unfold step_dedup; rw [if_pos c]
      rw [es]
      obtain ⟨t,e⟩:=dd_pre l acc
      have hi:(l.foldl step_dedup acc).idxOf y < acc.length:=by
        rw [e,List.idxOf_append,if_pos hy]
        exact List.idxOf_lt_length_of_mem hy
      unfold walkB
      rw [if_pos (by omega),Int.toNat_natCast,Nat.max_eq_left (by omega)]
      exact walk_dd l acc
    · have hy:y ∉ acc:=fun w=>c (by simpa using w)
      have es:step_dedup acc y=acc ++ [y]:=by unfold step_dedup; rw [if_neg c]
      rw [es]
      obtain ⟨t,e⟩:=dd_pre l (acc ++ [y])
      have hi:(l.foldl step_dedup (acc ++ [y])).idxOf y=acc.length:=by
        rw [e,List.append_assoc,List.idxOf_append,if_neg hy]
        simp
      have ih:=walk_dd l (acc ++ [y])
      rw [List.length_append,List.length_singleton] at ih
      unfold walkB
      rw [hi,if_pos (by omega),Int.toNat_natCast,Nat.max_eq_right (by omega)]
      exact ih
theorem sb_map {f:Nat→Nat} {j b0:Nat}:∀ (ss:List Int) (bs:List Nat),(∀ b ∈ bs,f b=j ↔ b=b0)→sb (ss.zip (bs.map f)) j=sb (ss.zip bs) b0
  | [],_,_=>by simp [sb]
  | _ :: _,[],_=>by simp [sb]
  | s :: ss,b :: bs,h=>by
    simp only [List.map_cons,List.zip_cons_cons,sb]
    rw [sb_map ss bs fun c hc=>h c (List.mem_cons_of_mem _ hc)]
    have:=h b (List.mem_cons_self ..)
    by_cases z:b=b0
    · rw [if_pos (this.mpr z),if_pos z]
    · rw [if_neg fun w=>z (this.mp w),if_neg z]
def boxN (bs:List Nat):List Int:=(bsD bs).map fun b=>(((ddp (bsD bs)).idxOf b:Nat):Int)
theorem box_fill {ss:List Int} {bs:List Nat} {m:Nat} {room:Int} (hl:ss.length=bs.length) (hb:∀ b ∈ bs,b < m) (hr:topI (lds m (ss.zip bs)) ≤ room):fillB room ss (boxN bs)=true:=by
  have w:=walk_dd (bsD bs) []
  have w:walkB 0 (boxN bs)=some (ddp (bsD bs)).length:=w
  unfold fillB
  rw [if_pos (by simp [boxN,bsD,hl]),w]
  simp only
  rw [sums_as,List.all_eq_true]
  intro l hlm
  obtain ⟨j,hj,rfl⟩:=mem_getD hlm
  rw [lds_len] at hj
  rw [lds_get _ _ _ hj,decide_eq_true_eq]
  have hmem:(ddp (bsD bs)).getD j 0 ∈ bsD bs:=by
    have:=(dd_mem (bsD bs) [] ((ddp (bsD bs)).getD j 0)).mp (getD_mem hj)
    simpa using this
  obtain ⟨b0,hb0,eb0⟩:=List.mem_map.mp hmem
  have nd:(ddp (bsD bs)).Nodup:=by
    have:∀ (l acc:List Int),acc.Nodup→(l.foldl step_dedup acc).Nodup:=by
      intro l
      induction l with
      | nil=>exact fun acc h=>h
      | cons y l ih =>
        intro acc h
        rw [List.foldl_cons]
        refine ih _ ?_
        unfold step_dedup
        split
        · exact h
        · rename_i c
          have hy:y ∉ acc:=fun w=>c (by simpa using w)
          exact List.nodup_append.mpr ⟨h,by simp,fun a ha b hb e=>by rw [List.mem_singleton] at hb; subst hb; subst e; exact hy ha⟩
    exact this _ _ List.nodup_nil
  have ex:(boxN bs).map Int.toNat=bs.map fun (b:Nat)=>(ddp (bsD bs)).idxOf (b:Int):=by
    simp only [boxN,bsD,List.map_map]
    rfl
  rw [ex,sb_map (b0:=b0) ss bs fun b hbm=>?_]
  · exact Int.le_trans (sb_le_top (hb b0 hb0)) hr
  · have ej:(ddp (bsD bs))[j]=(b0:Int):=by
      have:(ddp (bsD bs)).getD j 0=(ddp (bsD bs))[j]:=by rw [List.getD_eq_getElem?_getD,List.getElem?_eq_getElem hj]; rfl
      rw [← this, ← eb0]
    have hin:(b:Int) ∈ ddp (bsD bs):=(dd_mem (bsD bs) [] (b:Int)).mpr (.inr (List.mem_map.mpr ⟨b,hbm,rfl⟩))
    have hlt:=List.idxOf_lt_length_of_mem hin
    have hget:=List.getElem_idxOf hlt
    constructor
    · intro e
      have h2:(ddp (bsD bs))[(ddp (bsD bs)).idxOf (b:Int)]=(b0:Int):=by
        simp only [e]; exact ej
      rw [hget] at h2
      exact_mod_cast h2
    · intro e
      subst e
      have:=nd.idxOf_getElem j hj
      rw [ej] at this
      exact this
def knD (acc:List Int):D := .dct (acc.map Sum.inl) ((List.range acc.length).map fun (i:Nat)=>D.int (i:Int))
theorem has_acc (acc:List Int) (b:Int):hasK (acc.map Sum.inl) (Sum.inl b)=acc.any (· == b):=by
  unfold hasK
  rw [List.any_map]
  refine congrArg (fun f=>acc.any f) (funext fun x=>?_)
  show decide ((Sum.inl x:Key)=Sum.inl b)=(x == b)
  by_cases h:x=b
  · subst h; simp
  · rw [decide_eq_false (fun e=>h (Sum.inl.inj e))]
    simp [h]
theorem sc_rng:∀ (l:List Nat),(l.map fun (i:Nat)=>D.int (i:Int)).all scD=true
  | []=>rfl
  | _ :: l=>by simp only [List.map_cons,List.all_cons,sc_rng l]; rfl
theorem get_acc (x:Int):∀ (acc:List Int) (s:Nat),x ∈ acc→getKD (acc.map Sum.inl) ((List.range' s acc.length).map fun (i:Nat)=>D.int (i:Int)) (Sum.inl x)=some (.int ((s + acc.idxOf x:Nat):Int))
  | [],s,h=>by cases h
  | y :: acc,s,h=>by
    simp only [List.length_cons,List.range'_succ,List.map_cons,getKD]
    by_cases e:y=x
    · subst e
      rw [if_pos rfl]
      simp
    · rw [if_neg (fun z=>e (Sum.inl.inj z))]
      have hx:x ∈ acc:=by
        rcases List.mem_cons.mp h with w | w
        · exact absurd w.symm e
        · exact w
      rw [get_acc x acc (s + 1) hx,List.idxOf_cons]
      have:(y == x)=false:=by simpa using e
      rw [this]
      simp only [cond_false]
      congr 3
      omega
def bdK:DS:=(dIfS (dBo (d2 (kInD true) (dVar 2) (dVar 1))) (dDPut 1 (dVar 2) (dT1 kLenD (dCons (dVar 1) dNil))) dSkip)
theorem turn_K (s0:Sl) (acc:List Int) (b:Int) (hl:acc.length < 100000):bdK [s0, .dp (knD acc), .val (.int b)]=some (.nx [s0, .dp (knD (step_dedup acc b)), .val (.int b)]):=by
  have c:dBo (d2 (kInD true) (dVar 2) (dVar 1)) [s0, .dp (knD acc), .val (.int b)]=some (!acc.any (· == b)):=by
    unfold dBo
    rw [d2_of (rfl:dVar 2 _=some (.cl (.int b))) (rfl:dVar 1 _=some (.tm (knD acc)))]
    show some (!hasK (acc.map Sum.inl) (Sum.inl b))=_
    rw [has_acc]
  unfold bdK
  by_cases z:acc.any (· == b)=true
  · rw [show step_dedup acc b=acc by unfold step_dedup; rw [if_pos z]]
    exact grd c (by rw [z]; rfl)
  · rw [ifs_t c (by cases h:acc.any (· == b) with | true=>exact absurd h z | false=>rfl),show step_dedup acc b=acc ++ [b] by unfold step_dedup; rw [if_neg z]]
    have ln:(dT1 kLenD (dCons (dVar 1) dNil)) [s0, .dp (knD acc), .val (.int b)]=some (.cl (.int ((acc.length:Nat):Int))):=by
      rw [t1_of (rfl:dVar 1 _=some (.tm (knD acc)))]
      show some (Ev.cl (.int ((acc.map Sum.inl:List Key).length:Int)))=_
      rw [List.length_map]
    unfold dDPut
    rw [ln]
    show kDPut [s0, .dp (knD acc), .val (.int b)] 1 (.cl (.int ((acc.length:Nat):Int))) (.cl (.int b))=_
    have pk:putKD (acc.map Sum.inl) ((List.range acc.length).map fun (i:Nat)=>D.int (i:Int)) (Sum.inl b) (.int ((acc.length:Nat):Int))=((acc ++ [b]).map Sum.inl,(List.range (acc ++ [b]).length).map fun (i:Nat)=>D.int (i:Int)):=by
      unfold putKD
      rw [has_acc,if_neg z]
      simp [List.range_succ]
    show (if ((List.range acc.length).map fun (i:Nat)=>D.int (i:Int)).all scD && scD (.int ((acc.length:Nat):Int)) && decide ((acc.map Sum.inl:List Key).length < 100000) then some (Out.nx (([s0, .dp (knD acc), .val (.int b)]:Th).set 1 (.dp (.dct (putKD (acc.map Sum.inl) ((List.range acc.length).map fun (i:Nat)=>D.int (i:Int)) (Sum.inl b) (.int ((acc.length:Nat):Int))).1 (putKD (acc.map Sum.inl) ((List.range acc.length).map fun (i:Nat)=>D.int (i:Int)) (Sum.inl b) (.int ((acc.length:Nat):Int))).2)))) else none)=_
    rw [sc_rng,List.length_map,decide_eq_true hl,pk]
    rfl
theorem loop_K (s0:Sl):∀ (l acc:List Int) (s2:Sl),acc.length + l.length < 100000→∃ u2,forD (gkName 2) bdK (l.map D.int) [s0, .dp (knD acc),s2]=some (.nx [s0, .dp (knD (l.foldl step_dedup acc)),u2])
  | [],acc,s2,_=>⟨s2,rfl⟩
  | b :: l,acc,s2,hl=>by
    simp only [List.length_cons] at hl
    have e0:gkName 2 (.int b) [s0, .dp (knD acc),s2]=some [s0, .dp (knD acc), .val (.int b)]:=rfl
    have e1:=turn_K s0 acc b (by omega)
    have sl:(step_dedup acc b).length ≤ acc.length + 1:=by unfold step_dedup; split <;> simp
    obtain ⟨u2,ih⟩:=loop_K s0 l (step_dedup acc b) (.val (.int b)) (by omega)
    refine ⟨u2,?_⟩
    simp only [List.map_cons,forD,e0,Option.bind_some,e1,List.foldl_cons]
    exact ih
theorem boxes_is (bs:List Nat) (hl:bs.length ≤ 1000):G_law_as_boxes [.lst ((bsD bs).map D.int)]=some (.nw ((boxN bs).map D.int)):=by
  have ll:(bsD bs).length=bs.length:=by simp [bsD]
  show (g_law_as_boxes [.val (.lst ((bsD bs).map D.int)), .no, .no]).bind outEv=_
  have E1:dAsg 1 dNewD [.val (.lst ((bsD bs).map D.int)), .no, .no]=some (.nx [.val (.lst ((bsD bs).map D.int)), .dp (knD []), .no]):=rfl
  obtain ⟨u2,e2⟩:=loop_K (.val (.lst ((bsD bs).map D.int))) (bsD bs) [] .no (by simp [ll]; omega)
  have E2:dFor (gkName 2) (dVar 0) bdK [.val (.lst ((bsD bs).map D.int)), .dp (knD []), .no]=some (.nx [.val (.lst ((bsD bs).map D.int)), .dp (knD (ddp (bsD bs))),u2]) :=
    (for_of (f:=dVar 0) (r := .cl (.lst ((bsD bs).map D.int))) rfl rfl rfl).trans e2
  have E3:(dComp 1 [1] (fsL (dVar 0)) (gkName 0) dTrue (d2 kDGet (dVar 1) (dVar 0))) [.val (.lst ((bsD bs).map D.int)), .dp (knD (ddp (bsD bs))),u2]=some (.nw ((boxN bs).map D.int)):=by
    refine compM_of (xs:=bsD bs) (g:=fun b=>(((ddp (bsD bs)).idxOf b:Nat):Int)) (f:=dVar 0) (r := .cl (.lst ((bsD bs).map D.int))) (b:=false) (c:=[knD (ddp (bsD bs))]) rfl rfl (by omega) rfl fun x hx=>?_
    rw [d2_of (rfl:dVar 1 _=some (.cl (knD (ddp (bsD bs))))) (rfl:dVar 0 _=some (.cl (.int x)))]
    have hin:x ∈ ddp (bsD bs):=(dd_mem (bsD bs) [] x).mpr (.inr hx)
    have g:=get_acc x (ddp (bsD bs)) 0 hin
    rw [← List.range_eq_range',Nat.zero_add] at g
    show (if ((List.range (ddp (bsD bs)).length).map fun (i:Nat)=>D.int (i:Int)).all scD then (getKD ((ddp (bsD bs)).map Sum.inl) ((List.range (ddp (bsD bs)).length).map fun (i:Nat)=>D.int (i:Int)) (Sum.inl x)).map Ev.cl else none)=_
    rw [sc_rng,if_pos rfl,g]
    rfl
  refine bnd ?_
  refine (seq_nx E1).trans ?_
  refine (seq_nx E2).trans ?_
  exact ret_of E3
theorem within_is {a b c d:Int} (ha:sm a=true) (hb:sm b=true) (hc:sm c=true) (hd:sm d=true):G_law_is_within [.int a, .int b, .int c, .int d]=some (.cl (.bl (decide (a * c ≤ b * d)))):=by
  show (g_law_is_within [.val (.int a), .val (.int b), .val (.int c), .val (.int d)]).bind outEv=_
  exact bnd (ret_of (le_of (mul_of (fa:=dVar 0) (fb:=dVar 2) (a:=a) (b:=c) rfl rfl ha hc) (mul_of (fa:=dVar 1) (fb:=dVar 3) (a:=b) (b:=d) rfl rfl hb hd)))
theorem good_bn {ss:List Int} {m:Nat} {room:Int} (m0:0 < m) (m1:m ≤ 20) (hl:ss.length ≤ 20) (r0:0 < room) (r1:room ≤ 60) (hs:∀ s ∈ ss,1 ≤ s∧s ≤ room) {bs:List Nat} (bl:ss.length=bs.length) (hb:∀ b ∈ bs,b < m) (hr:topI (lds m (ss.zip bs)) ≤ room):G_law_benches_good [.lst (ss.map D.int), .int room, .int (m:Int)]=some (.cl (.bl true)):=by
  obtain ⟨x,y,b1,b2,eb,y0,ym,xl,BM,d1,l1,h1,d2',l2,h2,q2,t1a,t1b,t2a,t2b,i1,i2⟩:=facts (js:=ss) m0 m1 (by omega) (fun y hy=>by have:=hs y hy; omega)
  obtain ⟨g1,g2,g3,g4,g5⟩:=load_ge (js:=ss) (F:=Fl ss) m0 rfl bl (fun y hy=>by have:=hs y hy; omega) hb
  obtain ⟨R,hR⟩:∃ R:Nat,room=(R:Int):=⟨room.toNat,by omega⟩
  have bd:Bd ss m (R:Int) ((1:Nat):Int):=by
    refine ⟨by rw [Int.natCast_one,Int.mul_one]; omega,fun h=>?_,?_⟩
    · have:=g5 h; rw [Int.natCast_one,Int.mul_one]; omega
    · rw [Int.natCast_one,Int.mul_one]
      have:(m:Int) * topI (lds m (ss.zip bs)) ≤ (m:Int) * (R:Int):=Int.mul_le_mul_of_nonneg_left (by omega) (by omega)
      omega
  have xy:=BM R 1 bd
  rw [Int.natCast_one,Int.mul_one, ← hR] at xy
  have xb:(x:Int) ≤ 60 * 20:=by
    have a1:room * (y:Int) ≤ 60 * (y:Int):=Int.mul_le_mul_of_nonneg_right r1 (by omega)
    omega
  have yp:(0:Int) < (y:Int):=by omega
  have k1:topI (lds m (ss.zip b1)) * (m:Int) ≤ (2 * (m:Int) - 1) * room:=by
    have a1:(2 * (m:Int) - 1) * (x:Int) ≤ (2 * (m:Int) - 1) * (room * (y:Int)):=Int.mul_le_mul_of_nonneg_left xy (by omega)
    have a2:(m:Int) * topI (lds m (ss.zip b1)) * (y:Int) ≤ (2 * (m:Int) - 1) * room * (y:Int):=by rw [Int.mul_assoc (2 * (m:Int) - 1)]; omega
    have:=Int.le_of_mul_le_mul_right a2 yp
    rw [Int.mul_comm]
    exact this
  have k2:topI (lds m (ss.zip b2)) * (2 * (m:Int)) ≤ (3 * (m:Int) - 1) * room:=by
    have a1:(3 * (m:Int) - 1) * (x:Int) ≤ (3 * (m:Int) - 1) * (room * (y:Int)):=Int.mul_le_mul_of_nonneg_left xy (by omega)
    have a2:2 * (m:Int) * topI (lds m (ss.zip b2)) * (y:Int) ≤ (3 * (m:Int) - 1) * room * (y:Int):=by rw [Int.mul_assoc (3 * (m:Int) - 1)]; omega
    have:=Int.le_of_mul_le_mul_right a2 yp
    rw [Int.mul_comm]
    exact this
  let S:Sl := .val (.lst (ss.map D.int))
  let R':Sl := .val (.int room)
  let M:Sl := .val (.int (m:Int))
  show (g_law_benches_good [S,R',M, .no, .no, .no, .no]).bind outEv=_
  have E1:dAsgT (gkTup 2 (gkCons (gkName 3) (gkCons (gkName 4) gkNil))) (dT1 (kCall G_load_bound) (dCons (dVar 0) (dCons (dVar 2) dNil))) [S,R',M, .no, .no, .no, .no]=some (.nx [S,R',M, .val (.int (x:Int)), .val (.int (y:Int)), .no, .no]):=by
    have c:(dT1 (kCall G_load_bound) (dCons (dVar 0) (dCons (dVar 2) dNil))) [S,R',M, .no, .no, .no, .no]=some (.cl (.tup [.int (x:Int), .int (y:Int)])):=(t2_of (rfl:dVar 0 _=some (.cl (.lst (ss.map D.int)))) (rfl:dVar 2 _=some (.cl (.int (m:Int))))).trans (callc eb rfl)
    unfold dAsgT
    rw [c]
    rfl
  let t1:Th:=[S,R',M, .val (.int (x:Int)), .val (.int (y:Int)), .no, .no]
  have E2:=grd (g:=dRet (dC (.bl false))) (gt_of (fa:=dVar 3) (t:=t1) (a:=(x:Int)) rfl (mul_of (fa:=dVar 1) (fb:=dVar 4) (t:=t1) (a:=room) (b:=(y:Int)) rfl rfl (sm_of (by omega) (by omega)) (sm_of (by omega) (by omega)))) (decide_eq_false (by omega))
  have dl:∀ {G:List D→Option Ev} {bq:List Nat} {t:Th},G [.lst (ss.map D.int), .int (m:Int)]=some (.nw ((bsD bq).map D.int))→(∀ b ∈ bq,b < m)→t[0]?=some S→t[2]?=some M→(dT1 (kCall G_load_of) (dCons (dVar 0) (dCons (dVar 2) (dCons (dT1 (kCall G) (dCons (dVar 0) (dCons (dVar 2) dNil))) dNil)))) t=some (.cl (.int (topI (lds m (ss.zip bq))))):=by
    intro G bq t hG hq h0 h2
    have v0:dVar 0 t=some (.cl (.lst (ss.map D.int))):=by unfold dVar; rw [h0]
    have v2:dVar 2 t=some (.cl (.int (m:Int))):=by unfold dVar; rw [h2]
    have c:(dT1 (kCall G) (dCons (dVar 0) (dCons (dVar 2) dNil))) t=some (.nw ((bsD bq).map D.int)):=(t2_of v0 v2).trans (calln hG)
    exact (t3_of v0 v2 c).trans (callc (load_of_is (js:=ss) (bs:=bq) m0 m1 fun p hp=>hq _ (List.of_mem_zip hp).2) rfl)
  have E3:=asg_cl (i:=5) (dl (t:=t1) d1 h1 rfl rfl) (by simp [t1])
  let t3:Th:=[S,R',M, .val (.int (x:Int)), .val (.int (y:Int)), .val (.int (topI (lds m (ss.zip b1)))), .no]
  have E4:=asg_cl (i:=6) (dl (t:=t3) d2' h2 rfl rfl) (by simp [t3])
  let t4:Th:=[S,R',M, .val (.int (x:Int)), .val (.int (y:Int)), .val (.int (topI (lds m (ss.zip b1)))), .val (.int (topI (lds m (ss.zip b2))))]
  have c5:(dT1 (kCall G_law_is_within) (dCons (dVar 5) (dCons (d2 (kI tt2 fun i j => .int (i - j)) (d2 (kOr (kI cMul fun i j => .int (i * j)) kRep) (dC (.int 2)) (dVar 2)) (dC (.int 1))) (dCons (dVar 2) (dCons (dVar 1) dNil))))) t4=some (.cl (.bl true)):=by
    have v:=sub_of (mul_of (fa:=dC (.int 2)) (fb:=dVar 2) (t:=t4) (a:=2) (b:=(m:Int)) rfl rfl (sm_of (by decide) (by decide)) (sm_of (by omega) (by omega))) (rfl:dC (.int 1) t4=some (.cl (.int 1)))
    refine (t4_of (rfl:dVar 5 t4=some (.cl (.int (topI (lds m (ss.zip b1)))))) v (rfl:dVar 2 t4=some (.cl (.int (m:Int)))) (rfl:dVar 1 t4=some (.cl (.int room)))).trans (callc ?_ rfl)
    refine (within_is (a:=topI (lds m (ss.zip b1))) (b:=2 * (m:Int) - 1) (c:=(m:Int)) (d:=room) (sm_of (by omega) (by omega)) (sm_of (by omega) (by omega)) (sm_of (by omega) (by omega)) (sm_of (by omega) (by omega))).trans ?_
    rw [decide_eq_true k1]
  have c6:(dT1 (kCall G_law_is_within) (dCons (dVar 6) (dCons (d2 (kI tt2 fun i j => .int (i - j)) (d2 (kOr (kI cMul fun i j => .int (i * j)) kRep) (dC (.int 3)) (dVar 2)) (dC (.int 1))) (dCons (d2 (kOr (kI cMul fun i j => .int (i * j)) kRep) (dC (.int 2)) (dVar 2)) (dCons (dVar 1) dNil))))) t4=some (.cl (.bl true)):=by
    have v:=sub_of (mul_of (fa:=dC (.int 3)) (fb:=dVar 2) (t:=t4) (a:=3) (b:=(m:Int)) rfl rfl (sm_of (by decide) (by decide)) (sm_of (by omega) (by omega))) (rfl:dC (.int 1) t4=some (.cl (.int 1)))
    have v2:=mul_of (fa:=dC (.int 2)) (fb:=dVar 2) (t:=t4) (a:=2) (b:=(m:Int)) rfl rfl (sm_of (by decide) (by decide)) (sm_of (by omega) (by omega))
    refine (t4_of (rfl:dVar 6 t4=some (.cl (.int (topI (lds m (ss.zip b2)))))) v v2 (rfl:dVar 1 t4=some (.cl (.int room)))).trans (callc ?_ rfl)
    refine (within_is (a:=topI (lds m (ss.zip b2))) (b:=3 * (m:Int) - 1) (c:=2 * (m:Int)) (d:=room) (sm_of (by omega) (by omega)) (sm_of (by omega) (by omega)) (sm_of (by omega) (by omega)) (sm_of (by omega) (by omega))).trans ?_
    rw [decide_eq_true k2]
  have E5:=grd (g:=dRet (dC (.bl false))) (not_of (tr_of c5)) rfl
  refine bnd ?_
  refine (seq_nx E1).trans ?_
  refine (seq_nx E2).trans ?_
  refine (seq_nx E3).trans ?_
  refine (seq_nx E4).trans ?_
  refine (seq_nx E5).trans ?_
  exact ret_of c6
theorem leb_of {fa fb:DE} {t:Th} {a b:Int} (h1:fa t=some (.cl (.int a))) (h2:fb t=some (.cl (.int b))):dBo (d2 (kI tt2 fun i j => .bl (decide (i ≤ j))) fa fb) t=some (decide (a ≤ b)):=by
  unfold dBo; rw [le_of h1 h2]; rfl
theorem extv_of {f:DE} {t:Th} {r:Ev} {L:List Int} (h:f t=some r) (hr:r.d = .lst (L.map D.int)) (hl:0 < L.length):(dT1 (kExtr mostI) (dCons f dNil)) t=some (.cl (.int (topI L))):=by
  rw [t1_of h]
  unfold kExtr
  simp only [hr,intsD_map]
  cases L with
  | nil=>simp at hl
  | cons x r=>rfl
theorem fin_len {room:Int} {r:Rule} (g:Good room r):∀ (ss L:List Int),(finR r L ss).length ≤ L.length + ss.length
  | [],L=>by simp [finR]
  | s :: ss,L=>by
    have h:=fin_len g ss (stepR r L s)
    have h2:=step_len g L s
    simp only [finR,List.length_cons]
    split at h2 <;> omega
def bdFl:DS:=(dIfS (dAnd (dBo (d2 (kI tt2 fun i j => .bl (decide (i < j))) (dT1 (kExtr mostI) (dCons (dVar 3) dNil)) (dC (.int 20)))) (dNot (dTr (dT1 (kCall G_law_benches_good) (dCons (dVar 2) (dCons (dVar 1) (dCons (d2 (kOr (kI tt2 fun i j => .int (i + j)) kCat) (dT1 (kExtr mostI) (dCons (dVar 3) dNil)) (dC (.int 1))) dNil))))))) (dRet (dC (.bl false))) dSkip)
theorem turn_Fl (s0 s4 s5 s6 s7 s8:Sl) {room:Int} {r:Rule} (g:Good room r) (r0:0 < room) (r1:room ≤ 60) {ss:List Int} (hs:∀ s ∈ ss,1 ≤ s∧s ≤ room) (h0:0 < ss.length) (hl:ss.length ≤ 20) :
    bdFl [s0, .val (.int room), .own (ss.map D.int), .val (.lst ((bxR r [] ss).map D.int)),s4,s5,s6,s7,s8]=some (.nx [s0, .val (.int room), .own (ss.map D.int), .val (.lst ((bxR r [] ss).map D.int)),s4,s5,s6,s7,s8]):=by
  let t:Th:=[s0, .val (.int room), .own (ss.map D.int), .val (.lst ((bxR r [] ss).map D.int)),s4,s5,s6,s7,s8]
  obtain ⟨w,su⟩:=sums_rule g ss
  have bl:(bxR r [] ss).length=ss.length:=bx_len r ss []
  have tw:=top_walk w (by omega)
  have fl:=fin_len g ss []
  simp only [List.length_nil,Nat.zero_add] at fl
  have ev:=extv_of (f:=dVar 3) (t:=t) (r := .cl (.lst ((bxR r [] ss).map D.int))) (L:=bxR r [] ss) rfl rfl (by omega)
  have fp:0 < (finR r [] ss).length:=by
    have h1:=walk_top _ _ _ w
    have m:=h1.1 _ (topI_mem (L:=bxR r [] ss) (by omega))
    omega
  have ea:=add_of ev (rfl:dC (.int 1) t=some (.cl (.int 1)))
  rw [tw] at ea
  have I:=inv_fin g (ss:=ss) (inv_nil room) hs
  have hb:∀ b ∈ (bxR r [] ss).map Int.toNat,b < (finR r [] ss).length:=fun b hb=>by
    obtain ⟨x,hx,rfl⟩:=List.mem_map.mp hb
    have:=(walk_top _ _ _ w).1 x hx
    omega
  have hr:topI (lds (finR r [] ss).length (ss.zip ((bxR r [] ss).map Int.toNat))) ≤ room:=by
    rw [← sums_as,su]
    exact I.hi _ (topI_mem fp)
  have gb:(dT1 (kCall G_law_benches_good) (dCons (dVar 2) (dCons (dVar 1) (dCons (d2 (kOr (kI tt2 fun i j => .int (i + j)) kCat) (dT1 (kExtr mostI) (dCons (dVar 3) dNil)) (dC (.int 1))) dNil)))) t=some (.cl (.bl true)) :=
    (t3_of (rfl:dVar 2 t=some (.tm (.lst (ss.map D.int)))) (rfl:dVar 1 t=some (.cl (.int room))) ea).trans (callc (good_bn fp (by omega) hl r0 r1 hs (bs:=(bxR r [] ss).map Int.toNat) (by simp [bl]) hb hr) rfl)
  exact grd (and_of2 (lt_of ev (rfl:dC (.int 20) t=some (.cl (.int 20)))) (not_of (tr_of gb))) (by simp)
def bdDl:DS:=(dIfS (dBo (d2 (kI tt2 fun i j => .bl (decide (i ≤ j))) (dT1 (kCall G_load_of) (dCons (dVar 2) (dCons (dVar 7) (dCons (dVar 8) dNil)))) (dVar 1))) (dIfS (dOr (dBo (d2 (kI tt2 fun i j => .bl (decide (i < j))) (dVar 7) (dVar 4))) (dBo (d2 kIsntB (dT1 (kCall G_is_filling) (dCons (dVar 1) (dCons (dVar 2) (dCons (dT1 (kCall G_law_as_boxes) (dCons (dVar 8) dNil)) dNil)))) (dC (.bl true))))) (dRet (dC (.bl false))) dSkip) dSkip)
theorem turn_Dl (s0 s3 s5 s6:Sl) {room least:Int} (r0:0 < room) {ss:List Int} (hs:∀ s ∈ ss,1 ≤ s∧s ≤ room) (hl:ss.length ≤ 20) (hls:(least - 1) * room < ss.sum) {m:Nat} (m0:0 < m) (m1:m ≤ 20) {bq:List Nat} (bl:ss.length=bq.length) (hb:∀ b ∈ bq,b < m) :
    bdDl [s0, .val (.int room), .own (ss.map D.int),s3, .val (.int least),s5,s6, .val (.int (m:Int)), .val (.lst ((bsD bq).map D.int))]=some (.nx [s0, .val (.int room), .own (ss.map D.int),s3, .val (.int least),s5,s6, .val (.int (m:Int)), .val (.lst ((bsD bq).map D.int))]):=by
  let t:Th:=[s0, .val (.int room), .own (ss.map D.int),s3, .val (.int least),s5,s6, .val (.int (m:Int)), .val (.lst ((bsD bq).map D.int))]
  have e1:(dT1 (kCall G_load_of) (dCons (dVar 2) (dCons (dVar 7) (dCons (dVar 8) dNil)))) t=some (.cl (.int (topI (lds m (ss.zip bq))))) :=
    (t3_of (rfl:dVar 2 t=some (.tm (.lst (ss.map D.int)))) (rfl:dVar 7 t=some (.cl (.int (m:Int)))) (rfl:dVar 8 t=some (.cl (.lst ((bsD bq).map D.int))))).trans (callc (load_of_is (js:=ss) (bs:=bq) m0 m1 fun p hp=>hb _ (List.of_mem_zip hp).2) rfl)
  have c1:=leb_of e1 (rfl:dVar 1 t=some (.cl (.int room)))
  unfold bdDl
  by_cases z:topI (lds m (ss.zip bq)) ≤ room
  · rw [ifs_t c1 (decide_eq_true z)]
    obtain ⟨g1,g2,g3,g4,g5⟩:=load_ge (js:=ss) (F:=Fl ss) m0 rfl bl (fun y hy=>by have:=hs y hy; omega) hb
    have a1:(m:Int) * topI (lds m (ss.zip bq)) ≤ (m:Int) * room:=Int.mul_le_mul_of_nonneg_left z (by omega)
    have a2:least - 1 < (m:Int):=lt_of_mul_lt (c:=room) (by omega) r0
    have eb:(dT1 (kCall G_law_as_boxes) (dCons (dVar 8) dNil)) t=some (.nw ((boxN bq).map D.int)):=(t1_of (rfl:dVar 8 t=some (.cl (.lst ((bsD bq).map D.int))))).trans (calln (boxes_is bq (by omega)))
    have ef:(dT1 (kCall G_is_filling) (dCons (dVar 1) (dCons (dVar 2) (dCons (dT1 (kCall G_law_as_boxes) (dCons (dVar 8) dNil)) dNil)))) t=some (.cl (.bl true)):=by
      refine (t3_of (rfl:dVar 1 t=some (.cl (.int room))) (rfl:dVar 2 t=some (.tm (.lst (ss.map D.int)))) eb).trans (callc ?_ rfl)
      have:=filling_is room ss (boxN bq) (by omega) (by simp [boxN,bsD]; omega)
      rw [box_fill bl hb z] at this
      exact this
    have c2:dBo (d2 kIsntB (dT1 (kCall G_is_filling) (dCons (dVar 1) (dCons (dVar 2) (dCons (dT1 (kCall G_law_as_boxes) (dCons (dVar 8) dNil)) dNil)))) (dC (.bl true))) t=some false:=by
      unfold dBo
      rw [d2_of ef (rfl:dC (.bl true) t=some (.cl (.bl true)))]
      rfl
    exact grd (or_of2 (lt_of (fa:=dVar 7) (fb:=dVar 4) (t:=t) (a:=(m:Int)) (b:=least) rfl rfl) c2) (by rw [decide_eq_false (by omega)]; rfl)
  · exact (ifs_f c1 (decide_eq_false z)).trans rfl
def bdBn:DS:=(dFor (gkName 8) (dT1 kLst (dCons (dT1 (kCall G_deal_in_order) (dCons (dVar 2) (dCons (dVar 7) dNil))) (dCons (dT1 (kCall G_deal_by_length) (dCons (dVar 2) (dCons (dVar 7) dNil))) dNil))) bdDl)
theorem turn_Bn (s0 s3 s5 s6 s8:Sl) {room least:Int} (r0:0 < room) (r1:room ≤ 60) {ss:List Int} (hs:∀ s ∈ ss,1 ≤ s∧s ≤ room) (hl:ss.length ≤ 20) (hls:(least - 1) * room < ss.sum) {m:Nat} (m0:0 < m) (m1:m ≤ 20) :
    ∃ u8,bdBn [s0, .val (.int room), .own (ss.map D.int),s3, .val (.int least),s5,s6, .val (.int (m:Int)),s8]=some (.nx [s0, .val (.int room), .own (ss.map D.int),s3, .val (.int least),s5,s6, .val (.int (m:Int)),u8]):=by
  let t:Th:=[s0, .val (.int room), .own (ss.map D.int),s3, .val (.int least),s5,s6, .val (.int (m:Int)),s8]
  obtain ⟨b1,d1,_,l1,h1,_⟩:=in_range (js:=ss) (by omega) m0 m1
  obtain ⟨b2,d2',l2,h2,_⟩:=by_range (js:=ss) (by omega) m0 m1
  have c1:(dT1 (kCall G_deal_in_order) (dCons (dVar 2) (dCons (dVar 7) dNil))) t=some (.nw ((bsD b1).map D.int)):=(t2_of (rfl:dVar 2 t=some (.tm (.lst (ss.map D.int)))) (rfl:dVar 7 t=some (.cl (.int (m:Int))))).trans (calln d1)
  have c2:(dT1 (kCall G_deal_by_length) (dCons (dVar 2) (dCons (dVar 7) dNil))) t=some (.nw ((bsD b2).map D.int)):=(t2_of (rfl:dVar 2 t=some (.tm (.lst (ss.map D.int)))) (rfl:dVar 7 t=some (.cl (.int (m:Int))))).trans (calln d2')
  have cl:(dT1 kLst (dCons (dT1 (kCall G_deal_in_order) (dCons (dVar 2) (dCons (dVar 7) dNil))) (dCons (dT1 (kCall G_deal_by_length) (dCons (dVar 2) (dCons (dVar 7) dNil))) dNil))) t=some (.nw [.lst ((bsD b1).map D.int), .lst ((bsD b2).map D.int)]):=(t2_of c1 c2).trans rfl
  have T1:=turn_Dl s0 s3 s5 s6 r0 hs hl hls m0 m1 l1 h1
  have T2:=turn_Dl s0 s3 s5 s6 r0 hs hl hls m0 m1 l2 h2
  have e0:gkName 8 (.lst ((bsD b1).map D.int)) t=some [s0, .val (.int room), .own (ss.map D.int),s3, .val (.int least),s5,s6, .val (.int (m:Int)), .val (.lst ((bsD b1).map D.int))]:=rfl
  have e1:gkName 8 (.lst ((bsD b2).map D.int)) [s0, .val (.int room), .own (ss.map D.int),s3, .val (.int least),s5,s6, .val (.int (m:Int)), .val (.lst ((bsD b1).map D.int))]=some [s0, .val (.int room), .own (ss.map D.int),s3, .val (.int least),s5,s6, .val (.int (m:Int)), .val (.lst ((bsD b2).map D.int))]:=rfl
  refine ⟨.val (.lst ((bsD b2).map D.int)),?_⟩
  unfold bdBn
  exact (for_of cl rfl rfl).trans (for_2 e0 T1 e1 T2)
theorem loop_Bn (s0 s3 s5 s6:Sl) {room least:Int} (r0:0 < room) (r1:room ≤ 60) {ss:List Int} (hs:∀ s ∈ ss,1 ≤ s∧s ≤ room) (hl:ss.length ≤ 20) (hls:(least - 1) * room < ss.sum) (l:List Nat) (s7 s8:Sl) (h:∀ m ∈ l,0 < m∧m ≤ 20) :
    ∃ u7 u8,forD (gkName 7) bdBn (l.map fun (m:Nat)=>D.int (m:Int)) [s0, .val (.int room), .own (ss.map D.int),s3, .val (.int least),s5,s6,s7,s8]=some (.nx [s0, .val (.int room), .own (ss.map D.int),s3, .val (.int least),s5,s6,u7,u8]):=by
  obtain ⟨t',e,u7,u8,rfl⟩:=for_P (k:=gkName 7) (b:=bdBn) (P:=fun t => ∃ u7 u8,t=[s0, .val (.int room), .own (ss.map D.int),s3, .val (.int least),s5,s6,u7,u8]) (l.map fun (m:Nat)=>D.int (m:Int)) (fun d hd t ⟨u7,u8,et⟩=>by
    obtain ⟨m,hm,rfl⟩:=List.mem_map.mp hd
    subst et
    obtain ⟨v8,e⟩:=turn_Bn s0 s3 s5 s6 u8 r0 r1 hs hl hls (h m hm).1 (h m hm).2
    exact ⟨_,_,rfl,e,_,_,rfl⟩) _ ⟨s7,s8,rfl⟩
  exact ⟨u7,u8,e⟩
theorem rng18 (k:D→Th→Option Th) (b:DS) (t:Th):dRng2 k (dC (.int 1)) (dC (.int 8)) b t=forD k b (([1,2,3,4,5,6,7]:List Nat).map fun (m:Nat)=>D.int (m:Int)) t:=rfl
theorem law_true (ns:List Int) (hl:ns.length ≤ 63) (hbd:∀ n ∈ ns,n.natAbs < bndS):G_law [.lst (ns.map D.int)]=some (.cl (.bl true)):=by
  let N:Sl := .val (.lst (ns.map D.int))
  obtain ⟨v1,_,c1⟩:=cell_var ns hbd 1 [.no, .no, .no, .no, .no, .no, .no, .no]
  obtain ⟨room,r0,r1,er⟩:∃ room:Int,0 < room∧room ≤ 60∧1 + v1.fmod 60=room:=by
    have:=fm (a:=v1) (b:=60) (by decide)
    exact ⟨_,by omega,by omega,rfl⟩
  have E1:=asg_cl (i:=1) (add_of (fa:=dC (.int 1)) rfl (mod_of c1 (fb:=dC (.int 60)) rfl (by decide))) (by simp)
  rw [er] at E1
  let t1:Th:=[N, .val (.int room), .no, .no, .no, .no, .no, .no, .no]
  obtain ⟨v3,_,c3⟩:=cell_var ns hbd 3 [.val (.int room), .no, .no, .no, .no, .no, .no, .no]
  obtain ⟨n,n0,n1,en⟩:∃ n:Nat,0 < n∧n ≤ 20∧1 + v3.fmod 20=(n:Int):=by
    have:=fm (a:=v3) (b:=20) (by decide)
    exact ⟨(1 + v3.fmod 20).toNat,by omega,by omega,by omega⟩
  obtain ⟨xs,xl,xr,ex⟩:=call_row ns hbd 2 n (by omega) (by omega) (q:=room) r0 (by omega)
  have ec:=add_of (fa:=dC (.int 1)) rfl (mod_of c3 (fb:=dC (.int 20)) rfl (by decide))
  rw [en] at ec
  have er2:(dT1 (kCall G_law_row) (dCons (dVar 0) (dCons (dC (.int 2)) (dCons (d2 (kOr (kI tt2 fun i j => .int (i + j)) kCat) (dC (.int 1)) (d2 (kI cMod fun i j => .int (i.fmod j)) (dT1 (kCall G_law_cell_at) (dCons (dVar 0) (dCons (dC (.int 3)) dNil))) (dC (.int 20)))) (dCons (dVar 1) dNil))))) t1=some (.nw (xs.map D.int)) :=
    (t4_of (ra := .cl (.lst (ns.map D.int))) (rb := .cl (.int 2)) (rd := .cl (.int room)) rfl rfl ec rfl).trans ex
  let ss:List Int:=xs.map fun x=>1 + x
  have sl:ss.length=n:=by simp [ss,xl]
  have hs:∀ s ∈ ss,1 ≤ s∧s ≤ room:=fun s h=>by
    obtain ⟨x,hx,rfl⟩:=List.mem_map.mp h
    have:=xr x hx
    omega
  have E2:=asg_nw (i:=2) (compL_of (cap:=[]) (fe:=(d2 (kOr (kI tt2 fun i j => .int (i + j)) kCat) (dC (.int 1)) (dVar 0))) (g:=fun x=>1 + x) (b:=true) (c:=[]) er2 rfl (by omega) rfl (fun x=>add_of rfl rfl)) (by simp [t1])
  let t2:Th:=[N, .val (.int room), .own (ss.map D.int), .no, .no, .no, .no, .no, .no]
  have f1:(dT1 (kCall G_fill_last) (dCons (dVar 1) (dCons (dVar 2) dNil))) t2=some (.nw ((bxR (rLast room) [] ss).map D.int)):=by
    have e:=fill_last_is room ss (by omega)
    rw [runL_eq,List.nil_append] at e
    exact (t2_of (rfl:dVar 1 t2=some (.cl (.int room))) (rfl:dVar 2 t2=some (.tm (.lst (ss.map D.int))))).trans (calln e)
  have f2:(dT1 (kCall G_fill_first) (dCons (dVar 1) (dCons (dVar 2) dNil))) t2=some (.nw ((bxR (fun L s=>fitI room s L) [] ss).map D.int)):=by
    have e:=fill_first_is room ss (by omega)
    rw [runG_eq,List.nil_append] at e
    exact (t2_of (rfl:dVar 1 t2=some (.cl (.int room))) (rfl:dVar 2 t2=some (.tm (.lst (ss.map D.int))))).trans (calln e)
  have fl:(dT1 kLst (dCons (dT1 (kCall G_fill_last) (dCons (dVar 1) (dCons (dVar 2) dNil))) (dCons (dT1 (kCall G_fill_first) (dCons (dVar 1) (dCons (dVar 2) dNil))) dNil))) t2=some (.nw [.lst ((bxR (rLast room) [] ss).map D.int), .lst ((bxR (fun L s=>fitI room s L) [] ss).map D.int)]):=(t2_of f1 f2).trans rfl
  have T1:=turn_Fl N .no .no .no .no .no (rLast_good room) r0 r1 hs (by omega) (by omega)
  have T2:=turn_Fl N .no .no .no .no .no (fit_good room) r0 r1 hs (by omega) (by omega)
  let F2:Sl := .val (.lst ((bxR (fun L s=>fitI room s L) [] ss).map D.int))
  have g0:gkName 3 (.lst ((bxR (rLast room) [] ss).map D.int)) t2=some [N, .val (.int room), .own (ss.map D.int), .val (.lst ((bxR (rLast room) [] ss).map D.int)), .no, .no, .no, .no, .no]:=rfl
  have g1:gkName 3 (.lst ((bxR (fun L s=>fitI room s L) [] ss).map D.int)) [N, .val (.int room), .own (ss.map D.int), .val (.lst ((bxR (rLast room) [] ss).map D.int)), .no, .no, .no, .no, .no]=some [N, .val (.int room), .own (ss.map D.int),F2, .no, .no, .no, .no, .no]:=rfl
  have E3:dFor (gkName 3) (dT1 kLst (dCons (dT1 (kCall G_fill_last) (dCons (dVar 1) (dCons (dVar 2) dNil))) (dCons (dT1 (kCall G_fill_first) (dCons (dVar 1) (dCons (dVar 2) dNil))) dNil))) bdFl t2=some (.nx [N, .val (.int room), .own (ss.map D.int),F2, .no, .no, .no, .no, .no]):=by
    exact (for_of fl rfl rfl).trans (for_2 g0 T1 g1 T2)
  obtain ⟨least,hlst,hle⟩:∃ least:Int,(ss.sum + room - 1).fdiv room=least∧(least - 1) * room < ss.sum:=⟨_,rfl,(least_ok r0).1⟩
  have sb':=sum_bnd hs
  let t3:Th:=[N, .val (.int room), .own (ss.map D.int),F2, .no, .no, .no, .no, .no]
  have E4:dAsg 4 (dT1 (kCall G_fewest) (dCons (dVar 1) (dCons (dVar 2) dNil))) t3=some (.nx [N, .val (.int room), .own (ss.map D.int),F2, .val (.int least), .no, .no, .no, .no]):=by
    have e:=fewest_is room r0 (by omega) ss
    rw [hlst] at e
    exact asg_cl (i:=4) ((t2_of (rfl:dVar 1 t3=some (.cl (.int room))) (rfl:dVar 2 t3=some (.tm (.lst (ss.map D.int))))).trans (callc e rfl)) (by simp [t3])
  let t4:Th:=[N, .val (.int room), .own (ss.map D.int),F2, .val (.int least), .no, .no, .no, .no]
  have lc:=gt_of (fa:=dVar 4) (fb:=dC (.int 1)) (t:=t4) (a:=least) (b:=1) rfl rfl
  obtain ⟨u5,u6,E5⟩:∃ u5 u6:Sl,(dIfS (dBo (d2 (kI tt2 fun i j => .bl (decide (j < i))) (dVar 4) (dC (.int 1)))) (dSeq (dAsgT (gkTup 2 (gkCons (gkName 5) (gkCons (gkName 6) gkNil))) (dT1 (kCall G_load_bound) (dCons (dVar 2) (dCons (d2 (kI tt2 fun i j => .int (i - j)) (dVar 4) (dC (.int 1))) dNil))))
    (dIfS (dBo (d2 (kI tt2 fun i j => .bl (decide (i ≤ j))) (dVar 5) (d2 (kOr (kI cMul fun i j => .int (i * j)) kRep) (dVar 1) (dVar 6)))) (dRet (dC (.bl false))) dSkip)) dSkip) t4=some (.nx [N, .val (.int room), .own (ss.map D.int),F2, .val (.int least),u5,u6, .no, .no]):=by
    by_cases z:1 < least
    · have l20:least - 1 < 20:=by
        refine lt_of_mul_lt (c:=room) ?_ r0
        have:(ss.length:Int) * room ≤ 20 * room:=Int.mul_le_mul_of_nonneg_right (by omega) (by omega)
        omega
      obtain ⟨m,hm⟩:∃ m:Nat,least - 1=(m:Int):=⟨(least - 1).toNat,by omega⟩
      obtain ⟨x,y,eb,y0,ym,xl',⟨B1,B2,B3⟩,BM⟩:=bound_facts (js:=ss) (m:=m) (by omega) (by omega) (by omega) (fun y hy=>by have:=hs y hy; omega)
      have ee:=sub_of (fa:=dVar 4) (fb:=dC (.int 1)) (t:=t4) (a:=least) (b:=1) rfl rfl
      rw [hm] at ee
      have cb:(dT1 (kCall G_load_bound) (dCons (dVar 2) (dCons (d2 (kI tt2 fun i j => .int (i - j)) (dVar 4) (dC (.int 1))) dNil))) t4=some (.cl (.tup [.int (x:Int), .int (y:Int)])):=(t2_of (rfl:dVar 2 t4=some (.tm (.lst (ss.map D.int)))) ee).trans (callc eb rfl)
      have a1:dAsgT (gkTup 2 (gkCons (gkName 5) (gkCons (gkName 6) gkNil))) (dT1 (kCall G_load_bound) (dCons (dVar 2) (dCons (d2 (kI tt2 fun i j => .int (i - j)) (dVar 4) (dC (.int 1))) dNil))) t4=some (.nx [N, .val (.int room), .own (ss.map D.int),F2, .val (.int least), .val (.int (x:Int)), .val (.int (y:Int)), .no, .no]):=by
        unfold dAsgT
        rw [cb]
        rfl
      refine ⟨.val (.int (x:Int)), .val (.int (y:Int)),?_⟩
      rw [ifs_t lc (decide_eq_true z)]
      refine (seq_nx a1).trans ?_
      let t5:Th:=[N, .val (.int room), .own (ss.map D.int),F2, .val (.int least), .val (.int (x:Int)), .val (.int (y:Int)), .no, .no]
      refine grd (leb_of (fa:=dVar 5) (t:=t5) (a:=(x:Int)) rfl (mul_of (fa:=dVar 1) (fb:=dVar 6) (t:=t5) (a:=room) (b:=(y:Int)) rfl rfl (sm_of (by omega) (by omega)) (sm_of (by omega) (by omega)))) (decide_eq_false fun w=>?_)
      have k1:(m:Int) * (x:Int) ≤ (m:Int) * (room * (y:Int)):=Int.mul_le_mul_of_nonneg_left w (by omega)
      have k2:(m:Int) * room * (y:Int) < ss.sum * (y:Int):=Int.mul_lt_mul_of_pos_right (by rw [hm] at hle; exact hle) (by omega)
      rw [Int.mul_assoc] at k2
      omega
    · exact ⟨.no, .no,grd lc (decide_eq_false z)⟩
  obtain ⟨u7,u8,e6⟩:=loop_Bn N F2 u5 u6 r0 r1 hs (by omega) hle [1,2,3,4,5,6,7] .no .no (by decide)
  have E6:dRng2 (gkName 7) (dC (.int 1)) (dC (.int 8)) bdBn [N, .val (.int room), .own (ss.map D.int),F2, .val (.int least),u5,u6, .no, .no]=some (.nx [N, .val (.int room), .own (ss.map D.int),F2, .val (.int least),u5,u6,u7,u8]):=(rng18 _ _ _).trans e6
  show (dSeq _ (dSeq _ (dSeq (dFor (gkName 3) (dT1 kLst (dCons (dT1 (kCall G_fill_last) (dCons (dVar 1) (dCons (dVar 2) dNil))) (dCons (dT1 (kCall G_fill_first) (dCons (dVar 1) (dCons (dVar 2) dNil))) dNil))) bdFl) (dSeq _ (dSeq _ (dSeq (dRng2 (gkName 7) (dC (.int 1)) (dC (.int 8)) bdBn) _))))) [N, .no, .no, .no, .no, .no, .no, .no, .no]).bind outEv=_
  refine bnd ?_
  refine (seq_nx E1).trans ?_
  refine (seq_nx E2).trans ?_
  refine (seq_nx E3).trans ?_
  refine (seq_nx E4).trans ?_
  refine (seq_nx E5).trans ?_
  refine (seq_nx E6).trans ?_
  rfl
def spLaw (K:PySem.W.Frag):Sp:=spD K G_law
theorem all_mk {P:Program} {w:World} {K:PySem.W.Frag} {h:Heap} {mg:Str→Option Value} {fa:Addr} (X:K.In h) (G:h.Ns mainGlobals mg) (hfa:mg "law"=some (.ref fa)) {f0:Addr} {od0 an0:Option Addr} {sl0:Array (Option Value)} {oc0 kV0 dc0 pm0 cd0 ct0:Value} {f1:Addr} {od1 an1:Option Addr} {sl1:Array (Option Value)} {oc1 kV1 dc1 pm1 cd1 ct1:Value} {f2:Addr} {od2 an2:Option Addr} {sl2:Array (Option Value)} {oc2 kV2 dc2 pm2 cd2 ct2:Value} {f3:Addr} {od3 an3:Option Addr} {sl3:Array (Option Value)} {oc3 kV3 dc3 pm3 cd3 ct3:Value} {f4:Addr} {od4 an4:Option Addr} {sl4:Array (Option Value)} {oc4 kV4 dc4 pm4 cd4 ct4:Value} {f5:Addr} {od5 an5:Option Addr} {sl5:Array (Option Value)} {oc5 kV5 dc5 pm5 cd5 ct5:Value} {f6:Addr} {od6 an6:Option Addr} {sl6:Array (Option Value)} {oc6 kV6 dc6 pm6 cd6 ct6:Value} {f7:Addr} {od7 an7:Option Addr} {sl7:Array (Option Value)} {oc7 kV7 dc7 pm7 cd7 ct7:Value} {f8:Addr} {od8 an8:Option Addr} {sl8:Array (Option Value)} {oc8 kV8 dc8 pm8 cd8 ct8:Value} {f9:Addr} {od9 an9:Option Addr} {sl9:Array (Option Value)} {oc9 kV9 dc9 pm9 cd9 ct9:Value} {f10:Addr} {od10 an10:Option Addr} {sl10:Array (Option Value)} {oc10 kV10 dc10 pm10 cd10 ct10:Value} {f11:Addr} {od11 an11:Option Addr} {sl11:Array (Option Value)} {oc11 kV11 dc11 pm11 cd11 ct11:Value} {f12:Addr} {od12 an12:Option Addr} {sl12:Array (Option Value)} {oc12 kV12 dc12 pm12 cd12 ct12:Value} {f13:Addr} {od13 an13:Option Addr} {sl13:Array (Option Value)} {oc13 kV13 dc13 pm13 cd13 ct13:Value} {f14:Addr} {od14 an14:Option Addr} {sl14:Array (Option Value)} {oc14 kV14 dc14 pm14 cd14 ct14:Value} {f15:Addr} {od15 an15:Option Addr} {sl15:Array (Option Value)} {oc15 kV15 dc15 pm15 cd15 ct15:Value} {f16:Addr} {od16 an16:Option Addr} {sl16:Array (Option Value)} {oc16 kV16 dc16 pm16 cd16 ct16:Value} {f17:Addr} {od17 an17:Option Addr} {sl17:Array (Option Value)} {oc17 kV17 dc17 pm17 cd17 ct17:Value} {f18:Addr} {od18 an18:Option Addr} {sl18:Array (Option Value)} {oc18 kV18 dc18 pm18 cd18 ct18:Value} {f19:Addr} {od19 an19:Option Addr} {sl19:Array (Option Value)} {oc19 kV19 dc19 pm19 cd19 ct19:Value}
    (a0:PySem.W.nsIn K mainGlobals "fill_last"=some (some (.ref f0))) (l0:K.lookup f0=some ⟨oc0,od0, .func (PySem.W.fnOf "fill_last" "fill_last" (defArgs s_fill_last) (defBody s_fill_last) (defScope s_fill_last) .none kV0 dc0 pm0 an0 cd0 ct0),sl0⟩) (c0:PySem.W.codeIn K cd0 "fill_last"=true) (k0:PySem.W.keepIn K (.ref f0)=true)
    (a1:PySem.W.nsIn K mainGlobals "first_with_room"=some (some (.ref f1))) (l1:K.lookup f1=some ⟨oc1,od1, .func (PySem.W.fnOf "first_with_room" "first_with_room" (defArgs s_first_with_room) (defBody s_first_with_room) (defScope s_first_with_room) .none kV1 dc1 pm1 an1 cd1 ct1),sl1⟩) (c1:PySem.W.codeIn K cd1 "first_with_room"=true) (k1:PySem.W.keepIn K (.ref f1)=true)
    (a2:PySem.W.nsIn K mainGlobals "fill_first"=some (some (.ref f2))) (l2:K.lookup f2=some ⟨oc2,od2, .func (PySem.W.fnOf "fill_first" "fill_first" (defArgs s_fill_first) (defBody s_fill_first) (defScope s_fill_first) .none kV2 dc2 pm2 an2 cd2 ct2),sl2⟩) (c2:PySem.W.codeIn K cd2 "fill_first"=true) (k2:PySem.W.keepIn K (.ref f2)=true)
    (a3:PySem.W.nsIn K mainGlobals "is_filling"=some (some (.ref f3))) (l3:K.lookup f3=some ⟨oc3,od3, .func (PySem.W.fnOf "is_filling" "is_filling" (defArgs s_is_filling) (defBody s_is_filling) (defScope s_is_filling) .none kV3 dc3 pm3 an3 cd3 ct3),sl3⟩) (c3:PySem.W.codeIn K cd3 "is_filling"=true) (k3:PySem.W.keepIn K (.ref f3)=true)
    (a4:PySem.W.nsIn K mainGlobals "fewest"=some (some (.ref f4))) (l4:K.lookup f4=some ⟨oc4,od4, .func (PySem.W.fnOf "fewest" "fewest" (defArgs s_fewest) (defBody s_fewest) (defScope s_fewest) .none kV4 dc4 pm4 an4 cd4 ct4),sl4⟩) (c4:PySem.W.codeIn K cd4 "fewest"=true) (k4:PySem.W.keepIn K (.ref f4)=true)
    (a5:PySem.W.nsIn K mainGlobals "common_factor"=some (some (.ref f5))) (l5:K.lookup f5=some ⟨oc5,od5, .func (PySem.W.fnOf "common_factor" "common_factor" (defArgs s_common_factor) (defBody s_common_factor) (defScope s_common_factor) .none kV5 dc5 pm5 an5 cd5 ct5),sl5⟩) (c5:PySem.W.codeIn K cd5 "common_factor"=true) (k5:PySem.W.keepIn K (.ref f5)=true)
    (a6:PySem.W.nsIn K mainGlobals "fraction"=some (some (.ref f6))) (l6:K.lookup f6=some ⟨oc6,od6, .func (PySem.W.fnOf "fraction" "fraction" (defArgs s_fraction) (defBody s_fraction) (defScope s_fraction) .none kV6 dc6 pm6 an6 cd6 ct6),sl6⟩) (c6:PySem.W.codeIn K cd6 "fraction"=true) (k6:PySem.W.keepIn K (.ref f6)=true)
    (a7:PySem.W.nsIn K mainGlobals "less"=some (some (.ref f7))) (l7:K.lookup f7=some ⟨oc7,od7, .func (PySem.W.fnOf "less" "less" (defArgs s_less) (defBody s_less) (defScope s_less) .none kV7 dc7 pm7 an7 cd7 ct7),sl7⟩) (c7:PySem.W.codeIn K cd7 "less"=true) (k7:PySem.W.keepIn K (.ref f7)=true)
    (a8:PySem.W.nsIn K mainGlobals "dealt"=some (some (.ref f8))) (l8:K.lookup f8=some ⟨oc8,od8, .func (PySem.W.fnOf "dealt" "dealt" (defArgs s_dealt) (defBody s_dealt) (defScope s_dealt) .none kV8 dc8 pm8 an8 cd8 ct8),sl8⟩) (c8:PySem.W.codeIn K cd8 "dealt"=true) (k8:PySem.W.keepIn K (.ref f8)=true)
    (a9:PySem.W.nsIn K mainGlobals "deal_in_order"=some (some (.ref f9))) (l9:K.lookup f9=some ⟨oc9,od9, .func (PySem.W.fnOf "deal_in_order" "deal_in_order" (defArgs s_deal_in_order) (defBody s_deal_in_order) (defScope s_deal_in_order) .none kV9 dc9 pm9 an9 cd9 ct9),sl9⟩) (c9:PySem.W.codeIn K cd9 "deal_in_order"=true) (k9:PySem.W.keepIn K (.ref f9)=true)
    (a10:PySem.W.nsIn K mainGlobals "deal_by_length"=some (some (.ref f10))) (l10:K.lookup f10=some ⟨oc10,od10, .func (PySem.W.fnOf "deal_by_length" "deal_by_length" (defArgs s_deal_by_length) (defBody s_deal_by_length) (defScope s_deal_by_length) .none kV10 dc10 pm10 an10 cd10 ct10),sl10⟩) (c10:PySem.W.codeIn K cd10 "deal_by_length"=true) (k10:PySem.W.keepIn K (.ref f10)=true)
    (a11:PySem.W.nsIn K mainGlobals "load_of"=some (some (.ref f11))) (l11:K.lookup f11=some ⟨oc11,od11, .func (PySem.W.fnOf "load_of" "load_of" (defArgs s_load_of) (defBody s_load_of) (defScope s_load_of) .none kV11 dc11 pm11 an11 cd11 ct11),sl11⟩) (c11:PySem.W.codeIn K cd11 "load_of"=true) (k11:PySem.W.keepIn K (.ref f11)=true)
    (a12:PySem.W.nsIn K mainGlobals "load_bound"=some (some (.ref f12))) (l12:K.lookup f12=some ⟨oc12,od12, .func (PySem.W.fnOf "load_bound" "load_bound" (defArgs s_load_bound) (defBody s_load_bound) (defScope s_load_bound) .none kV12 dc12 pm12 an12 cd12 ct12),sl12⟩) (c12:PySem.W.codeIn K cd12 "load_bound"=true) (k12:PySem.W.keepIn K (.ref f12)=true)
    (a13:PySem.W.nsIn K mainGlobals "_law_cell_at"=some (some (.ref f13))) (l13:K.lookup f13=some ⟨oc13,od13, .func (PySem.W.fnOf "_law_cell_at" "_law_cell_at" (defArgs s_law_cell_at) (defBody s_law_cell_at) (defScope s_law_cell_at) .none kV13 dc13 pm13 an13 cd13 ct13),sl13⟩) (c13:PySem.W.codeIn K cd13 "_law_cell_at"=true) (k13:PySem.W.keepIn K (.ref f13)=true)
    (a14:PySem.W.nsIn K mainGlobals "_law_mixed"=some (some (.ref f14))) (l14:K.lookup f14=some ⟨oc14,od14, .func (PySem.W.fnOf "_law_mixed" "_law_mixed" (defArgs s_law_mixed) (defBody s_law_mixed) (defScope s_law_mixed) .none kV14 dc14 pm14 an14 cd14 ct14),sl14⟩) (c14:PySem.W.codeIn K cd14 "_law_mixed"=true) (k14:PySem.W.keepIn K (.ref f14)=true)
    (a15:PySem.W.nsIn K mainGlobals "_law_row"=some (some (.ref f15))) (l15:K.lookup f15=some ⟨oc15,od15, .func (PySem.W.fnOf "_law_row" "_law_row" (defArgs s_law_row) (defBody s_law_row) (defScope s_law_row) .none kV15 dc15 pm15 an15 cd15 ct15),sl15⟩) (c15:PySem.W.codeIn K cd15 "_law_row"=true) (k15:PySem.W.keepIn K (.ref f15)=true)
    (a16:PySem.W.nsIn K mainGlobals "_law_is_within"=some (some (.ref f16))) (l16:K.lookup f16=some ⟨oc16,od16, .func (PySem.W.fnOf "_law_is_within" "_law_is_within" (defArgs s_law_is_within) (defBody s_law_is_within) (defScope s_law_is_within) .none kV16 dc16 pm16 an16 cd16 ct16),sl16⟩) (c16:PySem.W.codeIn K cd16 "_law_is_within"=true) (k16:PySem.W.keepIn K (.ref f16)=true)
    (a17:PySem.W.nsIn K mainGlobals "_law_as_boxes"=some (some (.ref f17))) (l17:K.lookup f17=some ⟨oc17,od17, .func (PySem.W.fnOf "_law_as_boxes" "_law_as_boxes" (defArgs s_law_as_boxes) (defBody s_law_as_boxes) (defScope s_law_as_boxes) .none kV17 dc17 pm17 an17 cd17 ct17),sl17⟩) (c17:PySem.W.codeIn K cd17 "_law_as_boxes"=true) (k17:PySem.W.keepIn K (.ref f17)=true)
    (a18:PySem.W.nsIn K mainGlobals "_law_benches_good"=some (some (.ref f18))) (l18:K.lookup f18=some ⟨oc18,od18, .func (PySem.W.fnOf "_law_benches_good" "_law_benches_good" (defArgs s_law_benches_good) (defBody s_law_benches_good) (defScope s_law_benches_good) .none kV18 dc18 pm18 an18 cd18 ct18),sl18⟩) (c18:PySem.W.codeIn K cd18 "_law_benches_good"=true) (k18:PySem.W.keepIn K (.ref f18)=true)
    (a19:PySem.W.nsIn K mainGlobals "law"=some (some (.ref f19))) (l19:K.lookup f19=some ⟨oc19,od19, .func (PySem.W.fnOf "law" "law" (defArgs s_law) (defBody s_law) (defScope s_law) .none kV19 dc19 pm19 an19 cd19 ct19),sl19⟩) (c19:PySem.W.codeIn K cd19 "law"=true) (k19:PySem.W.keepIn K (.ref f19)=true)
    (z_abs:PySem.W.nsIn K mainGlobals "abs"=some none) (z_all:PySem.W.nsIn K mainGlobals "all"=some none) (z_enumerate:PySem.W.nsIn K mainGlobals "enumerate"=some none) (z_len:PySem.W.nsIn K mainGlobals "len"=some none) (z_list:PySem.W.nsIn K mainGlobals "list"=some none) (z_max:PySem.W.nsIn K mainGlobals "max"=some none) (z_min:PySem.W.nsIn K mainGlobals "min"=some none) (z_range:PySem.W.nsIn K mainGlobals "range"=some none) (z_sorted:PySem.W.nsIn K mainGlobals "sorted"=some none) (z_sum:PySem.W.nsIn K mainGlobals "sum"=some none) (z_zip:PySem.W.nsIn K mainGlobals "zip"=some none)  (tk10:tabOk K "deal_by_length"=true) :
    TbOk K ["deal_by_length"]∧∃ fd:FuncData,(∀ (s:Shared) (v:Value),BindsTo s fd ⟨[v],[]⟩ [("_law_script",v)])∧∀ base:BHeap,base.tabs=tbOf K ["deal_by_length"]→K.In base→base.Ns mainGlobals mg→(∀ x ∈ (["deal_by_length"]:List Str), ∀ c P,PySem.W.tabIn K x=some (c,P)→PySem.W.CodeHd base c P)→FnOk P w K mg base CX0 6 fa fd ["_law_script"] (spLaw K):=by
  have e:=hfa.symm.trans (PySem.W.mg_of X G a19)
  cases e
  have bu:Blt mg:=⟨PySem.W.mg_none_of X G z_abs,PySem.W.mg_none_of X G z_all,PySem.W.mg_none_of X G z_enumerate,PySem.W.mg_none_of X G z_len,PySem.W.mg_none_of X G z_list,PySem.W.mg_none_of X G z_max,PySem.W.mg_none_of X G z_min,PySem.W.mg_none_of X G z_range,PySem.W.mg_none_of X G z_sorted,PySem.W.mg_none_of X G z_sum,PySem.W.mg_none_of X G z_zip⟩
  have d0:Df K mg "fill_last" s_fill_last ["room", "sizes"] f0 _:=⟨fun_mk (st:=s_fill_last) l0 c0 k0,PySem.W.mg_of X G a0,(fun_mk (st:=s_fill_last) l0 c0 k0).binds (ps:=["room", "sizes"]) fun _ _ _ _ _ _ us hl=>match us,hl with | [_,_],_=>rfl⟩
  have d1:Df K mg "first_with_room" s_first_with_room ["left", "size"] f1 _:=⟨fun_mk (st:=s_first_with_room) l1 c1 k1,PySem.W.mg_of X G a1,(fun_mk (st:=s_first_with_room) l1 c1 k1).binds (ps:=["left", "size"]) fun _ _ _ _ _ _ us hl=>match us,hl with | [_,_],_=>rfl⟩
  have d2:Df K mg "fill_first" s_fill_first ["room", "sizes"] f2 _:=⟨fun_mk (st:=s_fill_first) l2 c2 k2,PySem.W.mg_of X G a2,(fun_mk (st:=s_fill_first) l2 c2 k2).binds (ps:=["room", "sizes"]) fun _ _ _ _ _ _ us hl=>match us,hl with | [_,_],_=>rfl⟩
  have d3:Df K mg "is_filling" s_is_filling ["room", "sizes", "boxes"] f3 _:=⟨fun_mk (st:=s_is_filling) l3 c3 k3,PySem.W.mg_of X G a3,(fun_mk (st:=s_is_filling) l3 c3 k3).binds (ps:=["room", "sizes", "boxes"]) fun _ _ _ _ _ _ us hl=>match us,hl with | [_,_,_],_=>rfl⟩
  have d4:Df K mg "fewest" s_fewest ["room", "sizes"] f4 _:=⟨fun_mk (st:=s_fewest) l4 c4 k4,PySem.W.mg_of X G a4,(fun_mk (st:=s_fewest) l4 c4 k4).binds (ps:=["room", "sizes"]) fun _ _ _ _ _ _ us hl=>match us,hl with | [_,_],_=>rfl⟩
  have d5:Df K mg "common_factor" s_common_factor ["one", "other"] f5 _:=⟨fun_mk (st:=s_common_factor) l5 c5 k5,PySem.W.mg_of X G a5,(fun_mk (st:=s_common_factor) l5 c5 k5).binds (ps:=["one", "other"]) fun _ _ _ _ _ _ us hl=>match us,hl with | [_,_],_=>rfl⟩
  have d6:Df K mg "fraction" s_fraction ["top", "bottom"] f6 _:=⟨fun_mk (st:=s_fraction) l6 c6 k6,PySem.W.mg_of X G a6,(fun_mk (st:=s_fraction) l6 c6 k6).binds (ps:=["top", "bottom"]) fun _ _ _ _ _ _ us hl=>match us,hl with | [_,_],_=>rfl⟩
  have d7:Df K mg "less" s_less ["one", "other"] f7 _:=⟨fun_mk (st:=s_less) l7 c7 k7,PySem.W.mg_of X G a7,(fun_mk (st:=s_less) l7 c7 k7).binds (ps:=["one", "other"]) fun _ _ _ _ _ _ us hl=>match us,hl with | [_,_],_=>rfl⟩
  have d8:Df K mg "dealt" s_dealt ["jobs", "benches", "order"] f8 _:=⟨fun_mk (st:=s_dealt) l8 c8 k8,PySem.W.mg_of X G a8,(fun_mk (st:=s_dealt) l8 c8 k8).binds (ps:=["jobs", "benches", "order"]) fun _ _ _ _ _ _ us hl=>match us,hl with | [_,_,_],_=>rfl⟩
  have d9:Df K mg "deal_in_order" s_deal_in_order ["jobs", "benches"] f9 _:=⟨fun_mk (st:=s_deal_in_order) l9 c9 k9,PySem.W.mg_of X G a9,(fun_mk (st:=s_deal_in_order) l9 c9 k9).binds (ps:=["jobs", "benches"]) fun _ _ _ _ _ _ us hl=>match us,hl with | [_,_],_=>rfl⟩
  have d10:Df K mg "deal_by_length" s_deal_by_length ["jobs", "benches"] f10 _:=⟨fun_mk (st:=s_deal_by_length) l10 c10 k10,PySem.W.mg_of X G a10,(fun_mk (st:=s_deal_by_length) l10 c10 k10).binds (ps:=["jobs", "benches"]) fun _ _ _ _ _ _ us hl=>match us,hl with | [_,_],_=>rfl⟩
  have d11:Df K mg "load_of" s_load_of ["jobs", "benches", "dealing"] f11 _:=⟨fun_mk (st:=s_load_of) l11 c11 k11,PySem.W.mg_of X G a11,(fun_mk (st:=s_load_of) l11 c11 k11).binds (ps:=["jobs", "benches", "dealing"]) fun _ _ _ _ _ _ us hl=>match us,hl with | [_,_,_],_=>rfl⟩
  have d12:Df K mg "load_bound" s_load_bound ["jobs", "benches"] f12 _:=⟨fun_mk (st:=s_load_bound) l12 c12 k12,PySem.W.mg_of X G a12,(fun_mk (st:=s_load_bound) l12 c12 k12).binds (ps:=["jobs", "benches"]) fun _ _ _ _ _ _ us hl=>match us,hl with | [_,_],_=>rfl⟩
  have d13:Df K mg "_law_cell_at" s_law_cell_at ["_law_script", "_law_k"] f13 _:=⟨fun_mk (st:=s_law_cell_at) l13 c13 k13,PySem.W.mg_of X G a13,(fun_mk (st:=s_law_cell_at) l13 c13 k13).binds (ps:=["_law_script", "_law_k"]) fun _ _ _ _ _ _ us hl=>match us,hl with | [_,_],_=>rfl⟩
  have d14:Df K mg "_law_mixed" s_law_mixed ["_law_cell", "_law_k"] f14 _:=⟨fun_mk (st:=s_law_mixed) l14 c14 k14,PySem.W.mg_of X G a14,(fun_mk (st:=s_law_mixed) l14 c14 k14).binds (ps:=["_law_cell", "_law_k"]) fun _ _ _ _ _ _ us hl=>match us,hl with | [_,_],_=>rfl⟩
  have d15:Df K mg "_law_row" s_law_row ["_law_script", "_law_at", "_law_many", "_law_top"] f15 _:=⟨fun_mk (st:=s_law_row) l15 c15 k15,PySem.W.mg_of X G a15,(fun_mk (st:=s_law_row) l15 c15 k15).binds (ps:=["_law_script", "_law_at", "_law_many", "_law_top"]) fun _ _ _ _ _ _ us hl=>match us,hl with | [_,_,_,_],_=>rfl⟩
  have d16:Df K mg "_law_is_within" s_law_is_within ["_law_load", "_law_top", "_law_bottom", "_law_room"] f16 _:=⟨fun_mk (st:=s_law_is_within) l16 c16 k16,PySem.W.mg_of X G a16,(fun_mk (st:=s_law_is_within) l16 c16 k16).binds (ps:=["_law_load", "_law_top", "_law_bottom", "_law_room"]) fun _ _ _ _ _ _ us hl=>match us,hl with | [_,_,_,_],_=>rfl⟩
  have d17:Df K mg "_law_as_boxes" s_law_as_boxes ["_law_dealing"] f17 _:=⟨fun_mk (st:=s_law_as_boxes) l17 c17 k17,PySem.W.mg_of X G a17,(fun_mk (st:=s_law_as_boxes) l17 c17 k17).binds (ps:=["_law_dealing"]) fun _ _ _ _ _ _ us hl=>match us,hl with | [_],_=>rfl⟩
  have d18:Df K mg "_law_benches_good" s_law_benches_good ["_law_sizes", "_law_room", "_law_benches"] f18 _:=⟨fun_mk (st:=s_law_benches_good) l18 c18 k18,PySem.W.mg_of X G a18,(fun_mk (st:=s_law_benches_good) l18 c18 k18).binds (ps:=["_law_sizes", "_law_room", "_law_benches"]) fun _ _ _ _ _ _ us hl=>match us,hl with | [_,_,_],_=>rfl⟩
  have d19:Df K mg "law" s_law ["_law_script"] fa _:=⟨fun_mk (st:=s_law) l19 c19 k19,PySem.W.mg_of X G a19,(fun_mk (st:=s_law) l19 c19 k19).binds (ps:=["_law_script"]) fun _ _ _ _ _ _ us hl=>match us,hl with | [_],_=>rfl⟩
  obtain ⟨tc10,tp10,tb10,tn10⟩:=tabOk_of tk10
  refine ⟨tbOk_one tb10 tn10,PySem.W.fnOf "law" "law" (defArgs s_law) (defBody s_law) (defScope s_law) .none kV19 dc19 pm19 an19 cd19 ct19,fun s v => .of_eq rfl,fun base ht _ _ hCd=>?_⟩
  have F_fill_last:=ok_fill_last (P:=P) (w:=w) (base:=base) d0.fn bu  hl_fill_last hG_fill_last
  have F_first_with_room:=ok_first_with_room (P:=P) (w:=w) (base:=base) d1.fn bu  hl_first_with_room hG_first_with_room
  have F_fill_first:=ok_fill_first (P:=P) (w:=w) (base:=base) d2.fn bu (d1.cal F_first_with_room) hl_fill_first hG_fill_first
  have F_is_filling:=ok_is_filling (P:=P) (w:=w) (base:=base) d3.fn bu  hl_is_filling hG_is_filling
  have F_fewest:=ok_fewest (P:=P) (w:=w) (base:=base) d4.fn bu  hl_fewest hG_fewest
  have F_common_factor:=ok_common_factor (P:=P) (w:=w) (base:=base) d5.fn bu  hl_common_factor hG_common_factor
  have F_fraction:=ok_fraction (P:=P) (w:=w) (base:=base) d6.fn bu (d5.cal F_common_factor) hl_fraction hG_fraction
  have F_less:=ok_less (P:=P) (w:=w) (base:=base) d7.fn bu  hl_less hG_less
  have F_dealt:=ok_dealt (P:=P) (w:=w) (base:=base) d8.fn bu  hl_dealt hG_dealt
  have F_deal_in_order:=ok_deal_in_order (P:=P) (w:=w) (base:=base) d9.fn bu (d8.cal F_dealt) hl_deal_in_order hG_deal_in_order
  have F_deal_by_length:=ok_deal_by_length (P:=P) (w:=w) (base:=base) d10.fn bu (code_tab tb10 a10 l10) (hCd "deal_by_length" (by simp) _ _ tb10) (by rw [ht]; exact mem_tbOf (by simp) tb10) (d8.cal F_dealt) hl_deal_by_length hG_deal_by_length
  have F_load_of:=ok_load_of (P:=P) (w:=w) (base:=base) d11.fn bu  hl_load_of hG_load_of
  have F_load_bound:=ok_load_bound (P:=P) (w:=w) (base:=base) d12.fn bu (d6.cal F_fraction) (d7.cal F_less) hl_load_bound hG_load_bound
  have F_law_cell_at:=ok_law_cell_at (P:=P) (w:=w) (base:=base) d13.fn bu  hl_law_cell_at hG_law_cell_at
  have F_law_mixed:=ok_law_mixed (P:=P) (w:=w) (base:=base) d14.fn bu  hl_law_mixed hG_law_mixed
  have F_law_row:=ok_law_row (P:=P) (w:=w) (base:=base) d15.fn bu (d13.cal F_law_cell_at) (d14.cal F_law_mixed) hl_law_row hG_law_row
  have F_law_is_within:=ok_law_is_within (P:=P) (w:=w) (base:=base) d16.fn bu  hl_law_is_within hG_law_is_within
  have F_law_as_boxes:=ok_law_as_boxes (P:=P) (w:=w) (base:=base) d17.fn bu  hl_law_as_boxes hG_law_as_boxes
  have F_law_benches_good:=ok_law_benches_good (P:=P) (w:=w) (base:=base) d18.fn bu (d12.cal F_load_bound) (d9.cal F_deal_in_order) (d11.cal F_load_of) (d10.cal F_deal_by_length) (d16.cal F_law_is_within) hl_law_benches_good hG_law_benches_good
  have F_law:=ok_law (P:=P) (w:=w) (base:=base) d19.fn bu (d13.cal F_law_cell_at) (d15.cal F_law_row) (d2.cal F_fill_first) (d0.cal F_fill_last) (d18.cal F_law_benches_good) (d4.cal F_fewest) (d12.cal F_load_bound) (d10.cal F_deal_by_length) (d9.cal F_deal_in_order) (d11.cal F_load_of) (d17.cal F_law_as_boxes) (d3.cal F_is_filling) hl_law hG_law
  exact F_law
theorem walk {l:PySem.W.OpenLaw} {q:Program} {loose:List Str} {XP:(Str→Option Value)→Heap→Prop} {YP:World→Heap→Prop} {d:DefRec} {K:Params→PySem.W.Frag} (hn:l.most=some 63) (hdf:d.params.defaults=[])
    (hY:∀ (w:World) (h:Heap),YP w h→(K w.params).In h) (hrec:∀ x ∈ (["deal_by_length"]:List Str), ∃ dr,(recsOf q).find? (fun e=>e.name == x)=some dr)
    (Fx:∀ (w:World) (mg:Str→Option Value) (fa:Addr) (h:Heap),(K w.params).In h→h.Ns mainGlobals mg→mg d.name=some (.ref fa) →
      TbOk (K w.params) ["deal_by_length"]∧∃ fd:FuncData,(∀ (s:Shared) (u:Value),BindsTo s fd ⟨[u],[]⟩ [("_law_script",u)])∧∀ base:BHeap,base.tabs=tbOf (K w.params) ["deal_by_length"]→(K w.params).In base→base.Ns mainGlobals mg→(∀ x ∈ (["deal_by_length"]:List Str), ∀ c P,PySem.W.tabIn (K w.params) x=some (c,P)→PySem.W.CodeHd base c P)→FnOk l.prog w (K w.params) mg base CX0 6 fa fd ["_law_script"] (spLaw (K w.params))) :
    PySem.W.WalkO q loose XP YP l.row.toRowW d [] (fun f vs=>PySem.call f vs) :=
  L2.walk_ofT (n:=63) (k:=6) (x := "_law_script") (names:=["deal_by_length"]) (CX:=fun _=>CX0) (sp:=fun w=>spLaw (K w.params)) hn (by decide) hdf ⟨rfl,by decide,by decide⟩ hY hrec Fx
    (fun _ H a ns hl hb hS=>⟨[],[.lst (ns.map .int)], .cl (.bl true),fun p hp=>(by cases hp), .cons (.lst (by rw [hide_nil]; exact hS) (Reps.ints ns)) .nil,law_true ns hl hb,fun v H' _ q=>by cases q; rfl⟩) fun _ _ _ _ _ z=>z
end KX
open PySem PySem.W PyProof.Rows
set_option maxRecDepth 100000 in
set_option maxHeartbeats 0 in
theorem PySem.Challenge.cw_nearenough_k56_whole_boxes_as_benches_holds : PySem.Challenge.rw_nearenough_k56_whole_boxes_as_benches.Holds := by
  w_on; o_law; k_head; (case hw=>w_witness2)
  k_fill
  refine KX.walk (l:=PySem.Challenge.rw_nearenough_k56_whole_boxes_as_benches) rfl rfl (fun w h Y=>by first | exact PySem.W.kIn_of Y | exact PySem.W.km_in_of Y) (by intro x hx; simp at hx; subst hx; exact ⟨_,rfl⟩) ?F
  case F =>
    intro w mg fa h KI G hmg
    refine' KX.all_mk KI G hmg ?a0 ?l0 ?c0 ?k0 ?a1 ?l1 ?c1 ?k1 ?a2 ?l2 ?c2 ?k2 ?a3 ?l3 ?c3 ?k3 ?a4 ?l4 ?c4 ?k4 ?a5 ?l5 ?c5 ?k5 ?a6 ?l6 ?c6 ?k6 ?a7 ?l7 ?c7 ?k7 ?a8 ?l8 ?c8 ?k8 ?a9 ?l9 ?c9 ?k9 ?a10 ?l10 ?c10 ?k10 ?a11 ?l11 ?c11 ?k11 ?a12 ?l12 ?c12 ?k12 ?a13 ?l13 ?c13 ?k13 ?a14 ?l14 ?c14 ?k14 ?a15 ?l15 ?c15 ?k15 ?a16 ?l16 ?c16 ?k16 ?a17 ?l17 ?c17 ?k17 ?a18 ?l18 ?c18 ?k18 ?a19 ?l19 ?c19 ?k19 ?z_abs ?z_all ?z_enumerate ?z_len ?z_list ?z_max ?z_min ?z_range ?z_sorted ?z_sum ?z_zip ?tk10
    (case a0=>k_is); (case l0=>k_is); (case c0=>k_is); (case k0=>k_is)
    (case a1=>k_is); (case l1=>k_is); (case c1=>k_is); (case k1=>k_is)
    (case a2=>k_is); (case l2=>k_is); (case c2=>k_is); (case k2=>k_is)
    (case a3=>k_is); (case l3=>k_is); (case c3=>k_is); (case k3=>k_is)
    (case a4=>k_is); (case l4=>k_is); (case c4=>k_is); (case k4=>k_is)
    (case a5=>k_is); (case l5=>k_is); (case c5=>k_is); (case k5=>k_is)
    (case a6=>k_is); (case l6=>k_is); (case c6=>k_is); (case k6=>k_is)
    (case a7=>k_is); (case l7=>k_is); (case c7=>k_is); (case k7=>k_is)
    (case a8=>k_is); (case l8=>k_is); (case c8=>k_is); (case k8=>k_is)
    (case a9=>k_is); (case l9=>k_is); (case c9=>k_is); (case k9=>k_is)
    (case a10=>k_is); (case l10=>k_is); (case c10=>k_is); (case k10=>k_is)
    (case a11=>k_is); (case l11=>k_is); (case c11=>k_is); (case k11=>k_is)
    (case a12=>k_is); (case l12=>k_is); (case c12=>k_is); (case k12=>k_is)
    (case a13=>k_is); (case l13=>k_is); (case c13=>k_is); (case k13=>k_is)
    (case a14=>k_is); (case l14=>k_is); (case c14=>k_is); (case k14=>k_is)
    (case a15=>k_is); (case l15=>k_is); (case c15=>k_is); (case k15=>k_is)
    (case a16=>k_is); (case l16=>k_is); (case c16=>k_is); (case k16=>k_is)
    (case a17=>k_is); (case l17=>k_is); (case c17=>k_is); (case k17=>k_is)
    (case a18=>k_is); (case l18=>k_is); (case c18=>k_is); (case k18=>k_is)
    (case a19=>k_is); (case l19=>k_is); (case c19=>k_is); (case k19=>k_is)
    (case z_abs=>k_is)
    (case z_all=>k_is)
    (case z_enumerate=>k_is)
    (case z_len=>k_is)
    (case z_list=>k_is)
    (case z_max=>k_is)
    (case z_min=>k_is)
    (case z_range=>k_is)
    (case z_sorted=>k_is)
    (case z_sum=>k_is)
    (case z_zip=>k_is)
    (case tk10=>kernel_rfl)
